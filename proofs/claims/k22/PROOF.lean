import PyProof.Rows.All
import Wide.All
import OpenK.AllK
import Wide.FinOn
import Lean
import PyProof.EqAt
import PyProof.EqKinds
import PyProof.TupleCall
import PyProof.StrLaws
import KE.KSortTup
import PySem.Challenge.RW_fitwhatever_k22_sums_of_chains
set_option genSizeOf false
set_option genInjectivity false
set_option bootstrap.genMatcherCode false
set_option compiler.extract_closed false
open PySem.W renaming Frag->O2,keepIn->Qf,kitOne->Qg,findIn->Qo,excIn->Rq,hideAll->R0,codeIn->R9,exmOne->Sa,methodObj->Su,fnOf->Sx,kitx_list->SD,kitx_dict->SE,nsIn->SG,plainGet->SN,instObj->SW,lookIn->S8,mroIn->Tn,isFn->TJ,cellsFrom_some->TK,hideAll_get->Ub,of_hideAll->Uj,callWith_K->Uk,kitx_tuple->Ur,mg_none_of->Uy,hasDictIn->UB,plainOver->UC,specialIn->UD,takesIn->UR,makesIn->UU,OpenLaw->UZ,WalkO->Vm,Hook->Vt
open Bool renaming and_eq_true->O3,not_eq_true'->Pw,false_ne_true->PL,or_eq_true->Qw,false_eq_true->Rc,eq_iff_iff->RD,and_false->RL,not_true->RX,beq_eq_decide_eq->Sd,and_true->SA,false_and->Tz,and_eq_true_iff->UJ,eq_false_iff->U3,false_or->VG
open List renaming size_toArray->O4,length_map->O5,getElem?_eq_some_iff->O6,append_assoc->O7,mem_cons_of_mem->Pa,mem_append_right->Pb,mem_singleton->Pc,mem_append->Pe,map_cons->Pg,mem_append_left->Ph,length_append->Pk,length_cons->Pl,getElem?_eq_getElem->Pm,mem_cons->Po,map_append->Pp,getElem?_map->Pq,range->Py,nodup_append->Pz,replicate->PB,mem_of_getElem?->PJ,mem_cons_self->PK,nodup_cons->PM,mem_map->PN,getD_eq_getElem?_getD->PQ,getElem?_set_self->PR,all_eq_true->PZ,perm_append_comm->P0,lookup_cons->P1,all_cons->P4,getElem?_append_left->P5,append_nil->P8,toArray->Qd,map_map->Qe,getElem?_set_ne->Qh,find?_cons->Qi,isEmpty_iff->Ql,getElem?_append_right->Qp,extract_eq_take_drop->Qr,length_take->Qs,any_cons->Qt,mem_range->Qu,length_range->Qv,map_congr_left->Qx,take_length->QC,getElem_mem->QD,take_append_drop->QE,drop_eq_getElem_cons->QH,take_add_one->QK,mem_of_mem_take->QL,filterMap_cons->QP,any_eq_true->QQ,length_singleton->QZ,contains_iff_mem->Q0,pairwise_map->Q3,mem_filter->Q9,pairwise_cons->Rf,zip_cons_cons->Rg,take_sublist->Rj,ext_getElem?->Rk,reverse_cons->Rl,take_of_length_le->Rm,filter_eq_nil_iff->Ro,getElem?_eq_none->Rv,eq_nil_or_concat->Rw,concat_eq_append->Rx,drop_length->Ry,getElem?_range->RE,map_nil->RG,any_eq_false->RP,length->RQ,reverse_perm->RT,of_mem_zip->R8,getD->Sh,perm_iff_count->Sk,getElem_of_mem->So,mem_filterMap->SI,count_append->SU,take_succ_eq_append_getElem->SV,eraseIdxIfInBounds_toArray->SY,length_drop->S5,range'_succ->S7,not_lt->Tc,eq_nil_of_length_eq_zero->Td,nil_append->Tf,foldl_cons->Th,drop_drop->TF,getElem?_eq_none_iff->TN,sublist_append_right->TQ,getElem?_take_of_lt->T1,eq_of_mem_replicate->T3,getElem?_replicate->T9,length_replicate->Ul,getElem?_toArray->Uw,length_filter_le->Uz,range'->UH,map->UI,take_set_of_le->UP,length_pos_iff->UQ,countP_append->UX,lookup_append->U0,map_singleton->U1,foldl_append->U6,getElem?_set->U7,flatMap_cons->Vb,countP_cons->Ve,le_antisymm->Vf,nil_sublist->Vg,map_reverse->Vh,cons_append->Vi,getElem_zip->Vl,length_nil->Vo,forIn_cons->Vq,count_cons->Vr,drop_zero->Vz,take_zero->VD,take_add->VH,drop_nil->VJ,all_map->VP,foldl->WC,Nodup->WE
open PySem.Heap renaming get?_push_of_some->O8,lt_size->Pj,get?_push_size->Pu,SameBut->R6,get?_update_other->Uc,FlyingW->Ue,get?_update_self->Um,get?_none_of_le->UA,get?_push_ne->U8,size_update->Vk,MadeExcOf->Vv,size_push->Vx
open Nat renaming lt_of_lt_of_le->O9,le_refl->Pf,le_trans->Px,ne_of_lt->PD,pow_le_pow_right->P6,lt_irrefl->Qa,zero_le->Qm,lt_of_le_of_lt->QW,lt_succ_of_lt->Q5,le_of_lt->RH,le_succ->RU,le_of_ble_eq_true->Se,mul_le_mul_right->Sg,mul_le_mul_left->SH,lt_succ_self->S9,add_sub_cancel_left->Uh,le_of_eq->Uo,pow_succ->Up,min_self->Uq,sub_zero->Uv,ble->Ux,le_max_right->Vp,le_max_left->Vw,le_add_left->Vy,ne_of_gt->VU,zero_add->V2,sub_self->V3,log2_lt->V8,mul_one->Wb,pow_pos->WG,sub_le->WM
open Option.some renaming inj->Pn,injEq->WN
open List.Perm renaming append_left->PU,trans->QU
open Array renaming toList_append->PV,length_toList->P9,getElem?_toList->Qc,getElem?_eq_getElem->QG,toList_extract->QJ,toList_reverse->RC,perm_iff_toList_perm->RJ,size_extract->RK,toList_inj->RZ,getElem?_eq_none->R5,getD->SF,toList_push->SR,toList_map->S3,toList_setIfInBounds->Tq,getElem?_eq_some_iff->Ts,toList->T8,toArray_toList->Us,append_assoc->UL,size_map->Vs
open PySem.Value renaming ref->PY,none->Rt,int->Sf,builtin->Si,str->TV,type->UK,isStrOf->Vu,isInt->VL,bool->VT
open Int renaming gcd->P7,toNat_natCast->Qq,gcd_pos_of_ne_zero_right->QY,mul_fdiv_cancel_left->Ra,fmod_nonneg_of_pos->Rp,mul_ne_zero->RF,gcd_dvd_right->RV,lt_or_gt_of_ne->SO,fmod_lt_of_pos->SQ,mul_comm->S1,zero_sub->S4,gcd_dvd_left->Ta,emod_nonneg->To,natAbs_mul->TM,fmod_eq_emod_of_nonneg->TR,gcd_comm->Uu,natAbs_dvd_natAbs->UG,gcd_zero_right->U5,emod_lt_of_pos->Va,lt_or_le->VZ,le_of_lt->V0,neg_dvd->V9,neg_gcd->Wa
open PyProof.Rows renaming slot_tuple_getitem->Qb,sortedS->RW,callWith_type1->Sv,risingS->Tg,callWith_builtin1->V6,envOfC->Wc,tuple_addW0->Wd,ltCps_eq->We,strKind->Wf,list_addW->Wh,IntsAre->Wj
open Sum renaming inr->Qj,inl->Qz
open PySem.Builtin.Str renaming glued->Qk,occurrences->QI,tooLong->R4
open PySem.F renaming slot_dict_keyiterator_next->Qy,plainAttrs_list->QN,args_tuple_add_2->RM,entry_tuple_add->RS,slot_tuple_add->RY,slot_dict_get->R3,slot_list_extend->Tp,args_dict_keyiterator_next_1->Tu,slot_tuple_index->Tw,args_dict_get_3->TB,entry_dict_keyiterator_next->TH,entry_dict_get->TL,slot_list_pop->T4,type_list_pop->T5,excAttr_ValueError->U2,excBase_ValueError->U4,entry_list_pop->VF,slot_dict_iter->VI,slot_list_pop->VN
open List.Sublist renaming refl->QB,append->QF,countP_le->WD
open Ne renaming symm->QM
open PySem renaming mem_of_lookup->QO,Builtin->Ss,Str->TU,call->UO,Within->VE
open ForInStep renaming yield->QR
open Classical renaming choose_spec->QV
open PySem.Builtin.Slice renaming slicePlaces->QX,sliceAdjust->Rz,sliceApplied->Sy,slicePartIndex->VW,sliceFields->VX
open PySem.Builtin.Tuple renaming tupleExact->Q2,tupleItemsOf->Sz,tupleIsExact->V1
open PySem.Builtin.List renaming listTooLong->Q4
open False renaming elim->Q6
open PySem.NameKind renaming free->Q7
open PyProof.Rows.SortSt renaming mk'->Q8
open Except renaming ok->Rb
open PySem.Obj renaming mapSeq->Rh,data_mapFields->U9,mapFields->VS
open PySem.Calls renaming callWith_builtin->Ri,evalArgs_plain->RB,call_function_entry->RN,spliced_cons->Sw,Name_function_global->Tj,spliced_nil->UT
open PySem.SeqAt renaming EqAt->Ru,notIn_listAt->UM,in_listAt->Vc
open PySem.Paired renaming length->RO,snoc->Ud
open Option renaming map->R1,isSome_map->SK,isNone_iff_eq_none->Tx,map_eq_some_iff->T2,getD_none->UW,map_map->Vj,any->VQ
open PySem.Builtin.Dict_items renaming ownsTuple->R7
open Prod.mk renaming inj->Sb,injEq->Vn
open PySem.Txt renaming slice->Sj,slice_le->Ut
open True renaming intro->SJ
open Sum.inr renaming inj->SS
open PySem.Str renaming ofString->SX,length->WI
open Pure renaming pure->S6
open PySem.Builtin.Dict renaming showsAll->Te,dictSlotNone->Wi
open PySem.AutoSeq1 renaming wpAny_loadPart'->Ti
open PySem.Heap.SameBut renaming update->Tv
open PySem.Builtin.Int renaming intBits->TC
open PySem.SeqAt.EqAt renaming int_str->TY,str_int->TZ
open MonadStateOf renaming set->T7
open Rat renaming divInt_eq_divInt_iff->Ua,divInt->WK
open PySem.Spec renaming ltCps->Ug
open Std.Legacy renaming Range->Ui
open Prod renaming ext->UE
open List.cons renaming inj->UY
open PySem.Builtin.ObjectAttr renaming bindTo->Vd
open Std.Legacy.Range renaming forIn_eq_forIn_range'->VA,size->VB
open PySem.W.SharedT renaming abs->VC
open PySem.Heap.IsSliceOf renaming new->VM
open PySem.W.WShape renaming has->VO
open PySem.Builtin.Range renaming rangeSize->VV
open List.Pairwise renaming nil->VY,imp_of_mem->V5
open PySem.StrLaws renaming seqIndex_nonneg->V4
open PySem.W.WData renaming int->V7
open PySem.Str.mk renaming injEq->Wg
open PySem.W.Fast renaming tw11892475500146522536->Wm,tw14364793385576792824->Wn,tw6613529449190102663->Wo,tw10156331382660048174->Wq,tw10274390034422433532->Wr,tw14289696077712309145->Ws,tw4187177175401517315->Wt,te11892475500146522536->Wu,te14364793385576792824->Wv,te6613529449190102663->Ww,te10156331382660048174->Wx,te10274390034422433532->Wz,te14289696077712309145->WA,te4187177175401517315->WB
open PySem.Flow renaming next->WH
open PySem.Heap.DictOf renaming new->WJ
open Nat.Coprime renaming dvd_of_dvd_mul_left->WL
set_option Elab.async false
set_option linter.all false
set_option maxRecDepth 100000
abbrev eG(x:TU):Prop:=(x==("__debug__" : TU))=false
abbrev t9(x:TU):Prop:=(x==("__classdict__" : TU))=false
noncomputable section
namespace L2
open PySem PySem.Spec PyProof.Rows
noncomputable abbrev Key:=Sum Int Str
noncomputable def jZ:Key->Value->Bool
 | .inl k,v=>VL k v
 | .inr x,v=>Vu x v
noncomputable def MN(w:World):Key->Int
 | .inl k=>hashInt k
 | .inr x=>hashStr w x
theorem aY:∀{k:Key}{v:Value},jZ k v=true->(∃i t,k=Qz i/\v=Sf i t)\/(∃x t,k=Qj x/\v=TV x t)
 | .inl i,v,h=>by obtain⟨t,e⟩:=Value.isInt_shape (k:=i) (v:=v) h;exact .inl ⟨i,t,rfl,e⟩
 | .inr x,v,h=>by obtain⟨t,e⟩:=Value.isStrOf_shape (x:=x) (v:=v) h;exact .inr ⟨x,t,rfl,e⟩
theorem uG(i:Int)(t:Tok):jZ (.inl i) (.int i t)=true:=by simp[jZ,VL]
theorem vc(x:Str)(t:Tok):jZ (.inr x) (.str x t)=true:=by simp[jZ,Vu]
theorem Hl(a b:Int):decide ((Qz a:Key)=Qz b)=(a==b):=by
 by_cases e:a=b
 .subst e;simp
 .have h:¬ (Qz a:Key)=Qz b:=λq=>e (Qz.inj q);rw[decide_eq_false h];exact(beq_eq_false_iff_ne.mpr e).symm
theorem EV(a b:Str):decide ((Qj a:Key)=Qj b)=decide (a=b):=by
 by_cases e:a=b
 .subst e;simp
 .have h:¬ (Qj a:Key)=Qj b:=λq=>e (SS q);rw[decide_eq_false h,decide_eq_false e]
theorem GZ(a:Int)(b:Str):decide ((Qz a:Key)=Qj b)=false:=decide_eq_false (λq=>nomatch q)
theorem G6(a:Str)(b:Int):decide ((Qj a:Key)=Qz b)=false:=decide_eq_false (λq=>nomatch q)
def aO(prog:Program)(w:World):PySem.KeyKind prog w Key where
 is:=jZ
 hash:=MN w
 inj:=λv a b ha d=>by
  rcases aY ha with ⟨i,t,rfl,rfl⟩|⟨x,t,rfl,rfl⟩
  .rcases aY d with ⟨j,u,rfl,e⟩|⟨y,u,rfl,e⟩
   .injection e with e1 _;rw[e1]
   .exact nomatch e
  .rcases aY d with ⟨j,u,rfl,e⟩|⟨y,u,rfl,e⟩
   .exact nomatch e
   .injection e with e1 _;rw[e1]
 byValue:=λk v h=>by rcases aY h with ⟨i,t,rfl,rfl⟩|⟨x,t,rfl,rfl⟩<;>rfl
 pyHash:=λc h=>by
  rcases aY c with ⟨i,t,rfl,rfl⟩|⟨x,t,rfl,rfl⟩
  .exact wpAny_pyHash_int h
  .exact wpAny_pyHash_str h
 eqBool:=λf c h=>by
  rcases aY f with ⟨i,t,rfl,rfl⟩|⟨x,t,rfl,rfl⟩
  .rcases aY c with ⟨j,u,rfl,rfl⟩|⟨y,u,rfl,rfl⟩
   .rw[Hl] at h;exact wpAny_eqBool_int h
   .rw[GZ] at h;exact TY i t y u _ _ _ _ h
  .rcases aY c with ⟨j,u,rfl,rfl⟩|⟨y,u,rfl,rfl⟩
   .rw[G6] at h;exact TZ x t j u _ _ _ _ h
   .rw[EV] at h;exact wpAny_eqBool_str h
 «strs»:=λk x t v h=>by
  rcases aY h with ⟨i,u,rfl,e⟩|⟨y,u,rfl,e⟩
  .exact nomatch e
  .injection e with e1 _;subst e1;cases v<;>rfl
theorem p9(prog:Program)(w:World)(i:Int)(t:Tok):(aO prog w).is (.inl i) (.int i t)=true:=uG i t
theorem qe(prog:Program)(w:World)(x:Str)(t:Tok):(aO prog w).is (.inr x) (.str x t)=true:=vc x t
inductive V where
 |non|bl(b:Bool)|int(i:Int)|str(x:Str)|byt(b:Array UInt8)|flt(b:UInt64)|ref(a:Addr)|ty(n:String)
 deriving DecidableEq
def RelV:V->Value->Prop
 | .non,u=>u=Rt
 | .bl b,u=>u=VT b
 | .int i,u=>∃t,u=Sf i t
 | .str x,u=>∃t,u=TV x t
 | .byt b,u=>∃t,u=Value.bytes b t
 | .flt b,u=>∃t,u=Value.float b t
 | .ref a,u=>u=PY a
 | .ty n,u=>u=UK n
abbrev Vals:List V->List Value->Prop:=Paired RelV
theorem Vals.length{xs:List V}{us:List Value}(r:Vals xs us):xs.length=us.length:=RO r
theorem Vals.get:∀{xs:List V}{us:List Value}{i:Nat}{x:V},Vals xs us->xs[i]?=some x->∃u,us[i]?=some u/\RelV x u
 |_,_,_,_,.nil,e=>by simp at e
 |_,_,0,_,.cons r _,e=>by simp at e;subst e;exact⟨_,rfl,r⟩
 |_,_,i+1,x,.cons _ t,e=>by obtain⟨u,h1,h2⟩:=Vals.get (i:=i) (x:=x) t (by simpa using e);exact⟨u,by simpa using h1,h2⟩
theorem Vals.set{x:V}{u:Value}(r:RelV x u):∀{xs:List V}{us:List Value}(i:Nat),Vals xs us->Vals (xs.set i x) (us.set i u)
 |_,_,_,.nil=>.nil
 |_,_,0,.cons _ t=>.cons r t
 |_,_,i+1,.cons q t=>.cons q (Vals.set r i t)
theorem Vals.append:∀{xs ys:List V}{us a:List Value},Vals xs us->Vals ys a->Vals (xs++ys) (us++a)
 |_,_,_,_,.nil,s=>s
 |_,_,_,_,.cons r t,s=>.cons r (Vals.append t s)
theorem Vals.take:∀{xs:List V}{us:List Value}(n:Nat),Vals xs us->Vals (xs.take n) (us.take n)
 |_,_,0,_=>.nil
 |_,_,_+1,.nil=>.nil
 |_,_,n+1,.cons r t=>.cons r (Vals.take n t)
theorem Vals.drop:∀{xs:List V}{us:List Value}(n:Nat),Vals xs us->Vals (xs.drop n) (us.drop n)
 |_,_,0,r=>r
 |_,_,_+1,.nil=>.nil
 |_,_,n+1,.cons _ t=>Vals.drop n t
def iZ:Option V->Option Value->Prop
 |some v,some u=>RelV v u
 |none,none=>True
 |_,_=>False
def KV{κ:Type}:List (κ×V)->List (κ×Value)->Prop:=Paired λ(p:κ×V)(q:κ×Value)=>p.1=q.1/\RelV p.2 q.2
noncomputable def kV:Key->V
 | .inl i=>.int i
 | .inr x=>.str x
inductive HO where
  |lst(xs:List V)
  |tup(xs:List V)
  |dK(kvs:List (Key×V))|dT(kvs:List (List Key×V))
  |set(S:Int->Bool)(n:Nat)
  |ins(C dx:Addr)(fs:List (Str×V))
  |own(x:Addr)
  |xd(fs:List (Str×V))
  |met(f x:Addr)
  |rng(lo hi:Int)
  |frz(o:Obj)(u:HO)
  |tbl(ps:Array Value)
  |ext(φ:Heap->Prop)
noncomputable abbrev Hp:=Addr->Option HO
noncomputable def upd(H:Hp)(a:Addr)(o:HO):Hp:=λb=>if b=a then some o else H b
variable{H:Hp}
theorem br{a:Addr}{o:HO}:upd H a o a=some o:=by unfold upd;rw[if_pos rfl]
variable{b:Addr}
theorem ay{a:Addr}{o:HO}(h:b≠a):upd H a o b=H b:=by unfold upd;rw[if_neg h]
theorem Jy{a:Addr}{o u:HO}(h:H a=some o)(h':H b=some u)(d:o≠u):a≠b:=by intro e;subst e;rw[h] at h';exact d (Pn h')
theorem aD{a:Addr}{o:HO}(h:H a=some o)(h':H b=none):a≠b:=by intro e;subst e;rw[h] at h';cases h'
variable{h:Heap}
section
variable(P:Program)(w:World)
def eU(h:Heap)(a:Addr)(items:Array Value):Prop:=∃o,h.get? a=some o/\o.cls=.type "tuple" /\ ∃n,o.data=.seq items n/\o.dict=none
theorem eU.t{a:Addr}{items:Array Value}(x:eU h a items):IsTup h a items:=let ⟨o,e,c,n,d,_⟩:=x;⟨o,e,c,n,d⟩
theorem eU.new(h:Heap)(items:Array Value):eU (h.push { cls:=.type "tuple",data:=.seq items }) h.objs.size items:=⟨_,Pu _ rfl,rfl,_,rfl,rfl⟩
def aL(H:Hp)(h:Heap)(a:Addr):HO->Prop
 | .lst xs=>xs.length<=sizeLine/\∃(b:List Value)(n:Nat),Vals xs b/\h.get? a=some { cls:=.type "list",data:=.seq b.toArray n }
 | .tup xs=>xs.length<=sizeLine/\∃b:List Value,Vals xs b/\eU h a b.toArray
 | .dK kvs=>kvs.length<=sizeLine/\(a==sysModules)=false/\∃vs,KV kvs vs/\h.DictOf (aO P w) a vs
 | .dT kvs=>kvs.length<=sizeLine/\(a==sysModules)=false/\∃xs:List (List Key×Addr×Value),
   Paired (λ(p:List Key×V)(q:List Key×Addr×Value)=>p.1=q.1/\H q.2.1=some (.tup (p.1.map kV))/\RelV p.2 q.2.2) kvs xs /\
   ∃o es ep,h.get? a=some o/\o.ExactDict/\o.data=.dict es ep/\es.toList=xs.map (entryOfKey (tupleKind (aO P w)))/\(xs.map (·.1)).Nodup
 | .set S n=>h.SetOf (intKind P w) a S n
 | .ins C dx fs=>H dx=some (.own a)/\fs.length<=1000/\dx≠a/\h.get? a=some (SW C dx) /\
   ∃mA,h.Ns1 dx mA/\(∀f,iZ (fs.lookup f) (mA f))/\VE mA (fs.map (·.1))
 | .own _=>∃o,h.get? a=some o
 | .xd fs=>∃mA,h.Ns1 a mA/\∀f,iZ (fs.lookup f) (mA f)
 | .rng lo hi=>∃t u v,h.get? a=some { cls:=.type "range",data:=.fields #[.int lo t,.int hi u,.int 1 v] }
 | .frz o u=>h.get? a=some o/\aL H h a u
 | .tbl ps=>h.get? a=some { cls:=.none,data:=.fields ps }
 | .met f x=>h.get? a=some (Su (.ref f) (.ref x))
 | .ext φ=>φ h/\(∃o,h.get? a=some o)/\∀h1 h2:Heap,φ h1->(∀o,h1.get? a=some o->h2.get? a=some o)->φ h2
def gb(H:Hp)(h:Heap):Prop:=∀a o,H a=some o->aL P w H h a o
end
section
variable{P:Program}{w:World}{H H':Hp}{h h':Heap}{a:Addr}{o:HO}
theorem aL.lt(x:aL P w H h a o):a<h.objs.size:=by
 cases o with
 |lst xs=>obtain⟨_,_,_,_,e⟩:=x;exact Pj e
 |tup xs=>obtain⟨_,_,_,p⟩:=x;exact p.t.lt
 |dK kvs=>obtain⟨_,_,_,_,o,_,_,e,_⟩:=x;exact Pj e
 |dT kvs=>obtain⟨_,_,_,_,o,_,_,e,_⟩:=x;exact Pj e
 |set S n=>obtain⟨o,_,_,_,e,_⟩:=x;exact Pj e
 |ins C dx fs=>obtain⟨_,_,_,e,_⟩:=x;exact Pj e
 |own y=>obtain⟨_,e⟩:=x;exact Pj e
 |xd fs=>obtain⟨_,⟨_,_,_,e,_⟩,_⟩:=x;exact Pj e
 |rng lo hi=>obtain⟨_,_,_,e⟩:=x;exact Pj e
 |frz ob u=>obtain⟨e,_⟩:=x;exact Pj e
 |tbl ps=>exact Pj (show h.get? a=some _ from x)
 |met f y=>exact Pj (show h.get? a=some _ from x)
 |ext φ=>obtain⟨_,⟨_,e⟩,_⟩:=x;exact Pj e
theorem Paired.FV{α j:Type}{F G:α->j->Prop}:∀{e:List α}{g:List j},Paired F e g->(∀a b,F a b->G a b)->Paired G e g
 |_,_,.nil,_=>.nil
 |_,_,.cons r t,f=>.cons (f _ _ r) (Paired.FV t f)
theorem aL.lK(x:aL P w H h a o)(k:∀b u,(b=a\/H b=some (.own a))->h.get? b=some u->h'.get? b=some u)
  (ho:∀b,H b=some (.own a)->H' b=some (.own a))(j:∀b xs,H b=some (.tup xs)->H' b=some (.tup xs)):aL P w H' h' a o:=by
 induction o with
 |lst xs=>obtain⟨z,i,n,r,e⟩:=x;exact⟨z,i,n,r,k _ _ (.inl rfl) e⟩
 |tup xs=>obtain⟨z,i,r,ob,e,c⟩:=x;exact⟨z,i,r,ob,k _ _ (.inl rfl) e,c⟩
 |dK kvs=>obtain⟨z,y,vs,r,ob,es,ep,e,c⟩:=x;exact⟨z,y,vs,r,ob,es,ep,k _ _ (.inl rfl) e,c⟩
 |dT kvs=>obtain⟨z,y,xs,r,ob,es,ep,e,c⟩:=x;exact⟨z,y,xs,Paired.FV r λp q z=>⟨z.1,j _ _ z.2.1,z.2.2⟩,ob,es,ep,k _ _ (.inl rfl) e,c⟩
 |set S n=>obtain⟨ob,es,ep,t,e,c⟩:=x;exact⟨ob,es,ep,t,k _ _ (.inl rfl) e,c⟩
 |ins C dx fs=>obtain⟨d,z,ne,e,mA,⟨od,es,ep,l,c⟩,r⟩:=x;exact⟨ho _ d,z,ne,k _ _ (.inl rfl) e,mA,⟨od,es,ep,k _ _ (.inr d) l,c⟩,r⟩
 |own y=>obtain⟨ob,e⟩:=x;exact⟨ob,k _ _ (.inl rfl) e⟩
 |xd fs=>obtain⟨mA,⟨od,es,ep,e,c⟩,r⟩:=x;exact⟨mA,⟨od,es,ep,k _ _ (.inl rfl) e,c⟩,r⟩
 |rng lo hi=>obtain⟨t,u,v,e⟩:=x;exact⟨t,u,v,k _ _ (.inl rfl) e⟩
 |frz ob u m=>obtain⟨e,q⟩:=x;exact⟨k _ _ (.inl rfl) e,m q⟩
 |tbl ps=>have e:h.get? a=some { cls:=.none,data:=.fields ps }:=x;show h'.get? a=some { cls:=.none,data:=.fields ps };exact k a _ (.inl rfl) e
 |met f y=>have e:h.get? a=some (Su (.ref f) (.ref y)):=x;show h'.get? a=some (Su (.ref f) (.ref y));exact k a _ (.inl rfl) e
 |ext φ=>obtain⟨p,⟨o,e⟩,st⟩:=x;exact⟨st _ _ p λo q=>k _ _ (.inl rfl) q,⟨o,k _ _ (.inl rfl) e⟩,st⟩
theorem gb.lt(x:gb P w H h)(e:H a=some o):a<h.objs.size:=(x a o e).lt
theorem gb.fresh(x:gb P w H h)(e:h.objs.size<=a):H a=none:=by
 cases q:H a with
 |none=>rfl
 |some u=>exact absurd (O9 (x.lt q) e) (Qa _)
theorem gb.kept(x:gb P w H h)(k:∀b u,h.get? b=some u->h'.get? b=some u):gb P w H h':=λa o e=>(x a o e).lK (λb u _ q=>k b u q) (λ_ q=>q) λ_ _ q=>q
theorem gb.laid(x:gb P w H h)(k:∀b u,h.get? b=some u->h'.get? b=some u)(hp:h.objs.size<=a)(new:aL P w (upd H a o) h' a o):gb P w (upd H a o) h':=λb u e=>by
 have hn:=x.fresh hp;by_cases d:b=a
 .subst d;rw[br] at e;cases e;exact new
 .rw[ay d] at e;exact(x b u e).lK (λc v _ q=>k c v q) (λc q=>by rw[ay (aD q hn)];exact q) λc xs q=>by rw[ay (aD q hn)];exact q
end
def Rd(H:Hp)(a:Addr)(u:HO):Prop:=H a=some u\/∃o,H a=some (.frz o u)
variable{P:Program}{w:World}
theorem Rd.ok{a:Addr}{u:HO}(r:Rd H a u)(x:gb P w H h):aL P w H h a u:=by
 rcases r with r|⟨o,r⟩
 .exact x a u r
 .obtain⟨_,q⟩:=x a _ r;exact q
def Lv:Option HO->Prop
 |some (.lst _)=>True
 |some (.dK _)=>True
 |some (.dT _)=>True
 |some (.set _ _)=>True
 |some (.ins _ _ _)=>True
 |some (.ext _)=>True
 |_=>False
section
variable{P:Program}{w:World}{H:Hp}{h h':Heap}{x e:Addr}{o':HO}
theorem gb.write(ok:gb P w H h)(mu:Lv (H x))(t:e=x\/H e=some (.own x))(k:∀b u,b≠e->h.get? b=some u->h'.get? b=some u)(s:∃u,h'.get? e=some u)
  (new:aL P w (upd H x o') h' x o'):gb P w (upd H x o') h':=λb u q=>by
 have o:∀c y,H c=some (.own y)->c≠x:=λc y r z=>by subst z;rw[r] at mu;exact mu
 have p:∀c xs,H c=some (.tup xs)->c≠x:=λc xs r z=>by subst z;rw[r] at mu;exact mu
 by_cases d:b=x
 .subst d;rw[br] at q;cases q;exact new
 .rw[ay d] at q;by_cases n:b=e
  .have A:H b=some (.own x):=by
    rcases t with z|z
    .exact absurd (n.trans z) d
    .rw[n];exact z
   rw[q] at A;cases A;obtain⟨v,B⟩:=s;exact⟨v,by rw[n];exact B⟩
  .refine(ok b u q).lK (λc v hc r=>k c v ?_ r) (λc r=>by rw[ay (o c b r)];exact r) λc xs r=>by rw[ay (p c xs r)];exact r
   rcases hc with rfl|hc
   .exact n
   .rintro rfl;rcases t with z|z
    .exact o c b hc z
    .rw[hc] at z;cases z;exact d rfl
end
structure Un(fs ex:List Addr)(H H':Hp)(h h':Heap):Prop where
 keep:∀b o,h.get? b=some o->H b=none->b∉fs->b∉ex->h'.get? b=some o
 slot:∀b o,h.get? b=some o->H b=none->b∈fs->b∉ex->∃sl,h'.get? b=some { o with slots:=sl }
 free:∀b o,h.get? b=some o->H b=none->b∉ex->H' b=none
 there:∀b o,h.get? b=some o->b∉ex->∃o',h'.get? b=some o'
 tups:∀b xs,H b=some (.tup xs)->H' b=some (.tup xs)
 frzs:∀b o u,H b=some (.frz o u)->H' b=some (.frz o u)
 tbls:∀b ps,H b=some (.tbl ps)->∃more,H' b=some (.tbl (ps++more))
section
variable{fs fs' ex ex':List Addr}{H H1 H2:Hp}{h h1 h2 h':Heap}{a x e:Addr}{o:HO}
theorem Un.any(u:Un fs ex H H1 h h1){ob:Obj}(q:h.get? b=some ob)(n:H b=none)(k:b∉ex):∃sl,h1.get? b=some { ob with slots:=sl }:=by
 by_cases d:b∈fs
 .exact u.slot b ob q n d k
 .exact⟨ob.slots,u.keep b ob q n d k⟩
theorem Un.kept(k:∀b u,h.get? b=some u->h'.get? b=some u):Un fs ex H H h h':=
 ⟨λb ob q _ _ _=>k b ob q,λb ob q _ _ _=>⟨ob.slots,k b ob q⟩,λ_ _ _ n _=>n,λb ob q _=>⟨ob,k b ob q⟩,λ_ _ q=>q,λ_ _ _ q=>q,λ_ ps q=>⟨#[],by rw[q];simp⟩⟩
theorem Un.refl:Un fs ex H H h h:=Un.kept λ_ _ q=>q
theorem Un.laid(k:∀b u,h.get? b=some u->h'.get? b=some u)(hp:h.objs.size<=a)(hn:H a=none):Un fs ex H (upd H a o) h h' where
 keep:=λb u q _ _ _=>k b u q
 slot:=λb u q _ _ _=>⟨u.slots,k b u q⟩
 free:=λb u q n _=>by rw[ay (PD (O9 (Pj q) hp))];exact n
 there:=λb u q _=>⟨u,k b u q⟩
 tups:=λb xs q=>by rw[ay (aD q hn)];exact q
 frzs:=λb u xs q=>by rw[ay (aD q hn)];exact q
 tbls:=λb ps q=>⟨#[],by rw[ay (aD q hn),q];simp⟩
theorem Un.write(mu:Lv (H x))(t:e=x\/H e=some (.own x))(k:∀b u,b≠e->h.get? b=some u->h'.get? b=some u)(s:∃u,h'.get? e=some u):Un fs ex H (upd H x o) h h':=by
 have w:∀b,H b=none->b≠x:=λb n z=>by subst z;rw[n] at mu;exact mu
 have d:∀b,H b=none->b≠e:=λb n z=>by
  subst z;rcases t with r|r
  .exact w b n r
  .rw[n] at r;cases r
 have hm:∀b u,H b=some u->¬ Lv (some u)->b≠x:=λb u q nm z=>by subst z;rw[q] at mu;exact nm mu
 refine⟨λb u q n _ _=>k b u (d b n) q,λb u q n _ _=>⟨u.slots,k b u (d b n) q⟩,λb u q n _=>by rw[ay (w b n)];exact n,λb u q _=>?_,
  λb xs q=>by rw[ay (hm b _ q λz=>z)];exact q,λb u xs q=>by rw[ay (hm b _ q λz=>z)];exact q,λb ps q=>⟨#[],by rw[ay (hm b _ q λz=>z),q];simp⟩⟩
 by_cases v:b=e
 .subst v;exact s
 .exact⟨u,k b u v q⟩
end
noncomputable def Gz(h:Heap)(H:Hp):List Addr:=(Py h.objs.size).filter λa=>(H a).isSome
def nu(h:Heap)(H:Hp):Heap:=R0 h (Gz h H)
theorem uM(h:Heap)(H:Hp):(nu h H).objs.size=h.objs.size:=PySem.W.hideAll_size _ _
variable{o:Obj}
theorem we(e:h.get? b=some o)(n:H b=none):(nu h H).get? b=some o:=
 Ub _ e λhm=>by have q:(H b).isSome=true:=(Q9.mp hm).2;rw[n] at q;simp at q
theorem BK(e:(nu h H).get? b=some o):h.get? b=some o/\H b=none:=by
 have e':h.get? b=some o:=Uj (Gz h H) e;refine⟨e',?_⟩;cases q:H b with
 |none=>rfl
 |some x=>have hm:b∈Gz h H:=Q9.mpr ⟨Qu.mpr (Pj e'),by simp[q]⟩;have z:(nu h H).get? b=none:=PySem.W.hideAll_none (Gz h H) hm;rw[z] at e;cases e
noncomputable def BU(g h:Heap)(L:Addr):List (Addr×Obj):=(Py h.objs.size).filterMap λa=>if a=L\/(g.get? a).isSome=true then none else (h.get? a).map λo=>(a,o)
def rest(g h:Heap)(L d:Addr):List (Addr×Obj):=(BU g h L).filter λp=>decide (p.1≠d)
structure Mod(K:O2)(mg:Str->Option Value)(base:Heap):Prop where
 kin:K.In base
 glob:base.Ns mainGlobals mg
 blt:∃mb,base.Ns builtinsNs mb/\∀x:Str,x ≠ "__name__" -> mb x=bootBuiltins x
 nolimit:base.NoLimit
structure Cx where
 prog:Program
 w:World
 K:O2
 mg:Str->Option Value
 base:Heap
 A:Around
 N:List Str
 s₀:Shared
 H₀:Hp
 env:Env
 outer:List Env
 stack:List Env
 ex:List Addr
 fn:Str->Bool
 calm:Bool
 pn:List (Addr×Obj)
 xe:Value->Shared->Prop
noncomputable def cA(l:List Env):List Addr:=l.filterMap (·.frame)
abbrev Cx.fs(X:Cx):List Addr:=cA X.outer
def qy(sc:Scope)(x:Str):Prop:=sc.names.lookup x=some .local\/sc.names.lookup x=some .cell\/sc.names.lookup x=some .free
def Loc(sc:Scope)(x:Str):Prop:=sc.names.lookup x=some .local\/sc.names.lookup x=some .cell
def Look(env:Env)(h:Heap)(m:Str->Option Value)(x:Str)(u:Value):Prop:=
 (env.kindOf x=some .local/\m x=some u)\/((env.kindOf x=some .cell\/env.kindOf x=some .free)/\∃c,env.cells.lookup x=some c/\h.IsCell c (some u))
structure Cx.Ok(X:Cx):Prop where
 mod:Mod X.K X.mg X.base
 kind:X.env.scope.kind=.function
 glob:X.env.globals=mainGlobals
 blt:X.env.builtins=builtinsNs
 above:X.s₀.heap.objs.size<=X.env.locals
 inj:∀x y c,X.env.cells.lookup x=some c->X.env.cells.lookup y=some c->x=y
 has:∀x,(X.env.kindOf x=some .cell\/X.env.kindOf x=some .free)->∃c,X.env.cells.lookup x=some c
 cab:∀x c,X.fn x=true->X.env.cells.lookup x=some c->X.s₀.heap.objs.size<=c
 hd:X.calm=true->X.A.handled=none
 frames:X.A.frames=some X.stack
 stk:X.stack=X.outer\/(X.stack=X.env::X.outer/\X.env.frame=some X.env.locals)
 exf:∀b∈X.ex,b≠X.env.locals/\∀x c,X.env.cells.lookup x=some c->c≠b
 bs:∀b o,X.base.get? b=some o->X.s₀.heap.get? b=some o/\X.H₀ b=none
 bsz:X.base.objs.size<=X.s₀.heap.objs.size
 noex:∀b o,X.base.get? b=some o->b∉X.ex
 exfs:∀b∈X.ex,b∉X.fs
 i6:X.s₀.heap.FunFrames X.base X.outer
 frf:∀b∈X.fs,X.H₀ b=none
structure Inv(X:Cx)(pins:List (Addr×Obj))(Y:List (Option V))(H:Hp)(s:Shared):Prop where
 ok:X.Ok
 os:s.os=X.s₀.os
 bare:AllBare s.gens
 base:Un X.fs X.ex X.H₀ H X.s₀.heap s.heap
 loc:∃m,s.heap.Ns X.env.locals m/\∀(i:Nat)(x:Str)(v:V),X.N[i]?=some x->Y[i]?=some (some v)->qy X.env.scope x->∃u,RelV v u/\Look X.env s.heap m x u
 cell:∀x c,X.env.cells.lookup x=some c->∃v,s.heap.IsCell c v
 free:H X.env.locals=none
 freeC:∀x c,X.env.cells.lookup x=some c->H c=none
 pin:∀p∈X.pn++pins,s.heap.get? p.1=some p.2/\H p.1=none/\p.1≠X.env.locals/\p.1∉X.fs/\∀v,p.2.data≠.cell v
 hok:gb X.prog X.w H s.heap
 len:Y.length=X.N.length
variable{g':Array GenState}{t' i j:Nat}{d':Drawn}{ch:List Addr}{it:Addr}{N:List Str}{x:Str}{E:Value->Shared->Prop}{v:V}{u:Value}{Q:Unit->Shared->Prop}
section
variable{X:Cx}{pins:List (Addr×Obj)}{Y:List (Option V)}{H H':Hp}{s:Shared}{h':Heap}
theorem Cx.Ok.MR(ok:X.Ok)(e:X.base.get? b=some o):b∉X.fs:=λd=>by have:=(ok.i6.mem d).1;rw[e] at this;cases this
theorem Inv.bs(I:Inv X pins Y H s):∀b o,X.base.get? b=some o->s.heap.get? b=some o/\H b=none:=λb o e=>⟨I.base.keep b o (I.ok.bs b o e).1 (I.ok.bs b o e).2 (I.ok.MR e) (I.ok.noex b o e),I.base.free b o (I.ok.bs b o e).1 (I.ok.bs b o e).2 (I.ok.noex b o e)⟩
theorem Inv.bk(I:Inv X pins Y H s):∀b o,X.base.get? b=some o->s.heap.get? b=some o:=λb o e=>(I.bs b o e).1
theorem Inv.mod(I:Inv X pins Y H s):Mod X.K X.mg X.base:=I.ok.mod
theorem Inv.ym(I:Inv X pins Y H s):X.K.In s.heap:=I.ok.mod.kin.keeps I.bk
theorem Inv.lt(I:Inv X pins Y H s):X.env.locals<s.heap.objs.size:=let ⟨_,hn,_⟩:=I.loc;hn.lt
theorem Inv.sz(I:Inv X pins Y H s):X.s₀.heap.objs.size<=s.heap.objs.size:=Px I.ok.above (RH I.lt)
theorem Inv.KY(I:Inv X pins Y H s){a:Addr}(h:s.heap.objs.size<=a):a∉X.fs:=λd=>by obtain⟨_,o,ho,_⟩:=I.ok.i6.mem d;exact absurd (O9 (Pj ho) (Px I.sz h)) (Qa _)
theorem Inv.Bz(I:Inv X pins Y H s):∀x c,X.env.cells.lookup x=some c->c≠X.env.locals:=λx c e z=>by obtain⟨v,o,ho,hd⟩:=I.cell x c e;obtain⟨m,⟨o',es,ep,h,q,_⟩,_⟩:=I.loc;rw[z,h] at ho;cases ho;rw[q] at hd;cases hd
theorem Inv.i6(I:Inv X pins Y H s):s.heap.FunFrames X.base X.outer:=by
 have all:∀(l:List Env),(∀b∈cA l,b∈X.fs)->X.s₀.heap.FunFrames X.base l->s.heap.FunFrames X.base l:=by
  intro l;induction l with
  |nil=>intro _ _;trivial
  |cons env r m=>intro x hl;obtain⟨hk,⟨L,o,hf,hn,ho,hd⟩,y⟩:=hl;have u:L∈X.fs:=x L (by unfold cA;rw[QP,hf];exact PK);obtain⟨sl,e⟩:=I.base.slot L o ho (I.ok.frf L u) u λz=>I.ok.exfs L z u;exact⟨hk,⟨L,_,hf,hn,e,hd⟩,m (λb d=>x b (by unfold cA;rw[QP,hf];exact Pa _ d)) y⟩
 exact all X.outer (λ_ d=>d) I.ok.i6
theorem Inv.stack(I:Inv X pins Y H s):s.heap.FunFrames X.base X.stack:=by
 rcases I.ok.stk with e|⟨e,hf⟩
 .rw[e];exact I.i6
 .rw[e];obtain⟨m,hn,_⟩:=I.loc;refine .cons (by rw[I.ok.kind];decide) hf hn ?_ I.i6;exact UA (Px I.ok.bsz I.ok.above)
theorem Inv.jg(I:Inv X pins Y H s):∀b∈cA X.stack,b∈X.env.locals::X.fs:=λb d=>by
 rcases I.ok.stk with e|⟨e,hf⟩
 .rw[e] at d;exact Pa _ d
 .rw[e] at d;unfold cA at d;rw[QP,hf] at d;exact d
theorem Inv.nU(I:Inv X pins Y H s):∀b∈cA X.stack,H b=none:=λb d=>by
 rcases Po.mp (I.jg b d) with e|d
 .rw[e];exact I.free
 .obtain⟨_,o,ho,_⟩:=I.ok.i6.mem d;exact I.base.free b o ho (I.ok.frf b d) λz=>I.ok.exfs b z d
theorem Inv.step(I:Inv X pins Y H s)
  (D:∀b∈ch,(b∈X.ex\/X.s₀.heap.objs.size<=b)/\b≠X.env.locals/\(∀x c,X.env.cells.lookup x=some c->c≠b)/\∀p∈X.pn++pins,p.1≠b)
  (keep:∀b o,b≠X.env.locals->b∉X.fs->b∉ch->s.heap.get? b=some o->H b=none->h'.get? b=some o)
  (slot:∀b o,b≠X.env.locals->b∈X.fs->b∉ch->s.heap.get? b=some o->H b=none->∃sl,h'.get? b=some { o with slots:=sl })(free:∀b o,b∉ch->s.heap.get? b=some o->H b=none->H' b=none)
  (there:∀b o,b∉ch->s.heap.get? b=some o->∃o',h'.get? b=some o')
  (tups:∀b xs,H b=some (.tup xs)->H' b=some (.tup xs))(frzs:∀b o u,H b=some (.frz o u)->H' b=some (.frz o u))(tbls:∀b ps,H b=some (.tbl ps)->∃more,H' b=some (.tbl (ps++more)))
  (ns:∀m,s.heap.Ns X.env.locals m->h'.Ns X.env.locals m)(hok:gb X.prog X.w H' h')(Q:AllBare g'):
  Inv X pins Y H' { s with heap:=h',gens:=g',drawn:=d',toks:=t' }:=by
 have L:∀b o,X.s₀.heap.get? b=some o->b≠X.env.locals:=λb o e=>PD (O9 (Pj e) I.ok.above);have G:∀b o,X.s₀.heap.get? b=some o->b∉X.ex->b∉ch:=λb o e C K=>by
  rcases(D b K).1 with z|z
  .exact C z
  .exact absurd (O9 (Pj e) z) (Qa _)
 have E:∀x c,X.env.cells.lookup x=some c->∀v,s.heap.IsCell c v->h'.IsCell c v:=λx c e v ⟨o,ho,hd⟩=>by
  have F:c∉ch:=λz=>(D c z).2.2.1 x c e rfl;by_cases hc:c∈X.fs
  .obtain⟨sl,q⟩:=slot c o (I.Bz x c e) hc F ho (I.freeC x c e);exact⟨_,q,hd⟩
  .exact⟨o,keep c o (I.Bz x c e) hc F ho (I.freeC x c e),hd⟩
 refine⟨I.ok,I.os,Q,⟨λb o e n K C=>?_,λb o e n K C=>?_,λb o e n C=>?_,λb o e C=>?_,λb xs e=>tups b xs (I.base.tups b xs e),λb o xs e=>frzs b o xs (I.base.frzs b o xs e),λb ps e=>?_⟩,?_,λx c e=>?_,?_,λx c e=>?_,λp hp=>?_,hok,I.len⟩
 .exact keep b o (L b o e) K (G b o e C) (I.base.keep b o e n K C) (I.base.free b o e n C)
 .obtain⟨sl,J⟩:=I.base.slot b o e n K C;obtain⟨O,N⟩:=slot b _ (L b o e) K (G b o e C) J (I.base.free b o e n C);exact⟨O,N⟩
 .obtain⟨o',J⟩:=I.base.there b o e C;exact free b o' (G b o e C) J (I.base.free b o e n C)
 .obtain⟨o',J⟩:=I.base.there b o e C;exact there b o' (G b o e C) J
 .obtain⟨R,J⟩:=I.base.tbls b ps e;obtain⟨S,N⟩:=tbls b _ J;exact⟨R++S,by rw[N,UL]⟩
 .obtain⟨m,hn,hl⟩:=I.loc;refine⟨m,ns m hn,λi x v J N T=>?_⟩;obtain⟨u,r,l⟩:=hl i x v J N T;refine⟨u,r,?_⟩;rcases l with l|⟨k,c,e,z⟩
  .exact .inl l
  .exact .inr ⟨k,c,e,E x c e _ z⟩
 .obtain⟨v,z⟩:=I.cell x c e;exact⟨v,E x c e v z⟩
 .obtain⟨m,⟨o,_,_,ho,_⟩,_⟩:=I.loc;exact free _ o (λz=>(D _ z).2.1 rfl) ho I.free
 .obtain⟨v,o,ho,hd⟩:=I.cell x c e;exact free c o (λz=>(D c z).2.2.1 x c e rfl) ho (I.freeC x c e)
 .obtain⟨e,n,ne,P,d⟩:=I.pin p hp;have F:p.1∉ch:=λz=>(D p.1 z).2.2.2 p hp rfl;exact⟨keep p.1 p.2 ne P F e n,free p.1 p.2 F e n,ne,P,d⟩
theorem Inv.un(I:Inv X pins Y H s)(u:Un X.fs [] H H' s.heap h')(hok:gb X.prog X.w H' h'):Inv X pins Y H' { s with heap:=h',toks:=t' }:=by
 obtain⟨m,⟨o,es,ep,ho,r⟩,_⟩:=id I.loc;obtain⟨sl,Z⟩:=u.any ho I.free (by simp);exact I.step (g':=s.gens) (d':=s.drawn) (ch:=[]) (λ_ z=>nomatch z) (λb o _ d _ e n=>u.keep b o e n d (by simp)) (λb o _ d _ e n=>u.slot b o e n d (by simp)) (λb o _ e n=>u.free b o e n (by simp)) (λb o _ e=>u.there b o e (by simp)) u.tups u.frzs u.tbls (λc hm=>by obtain⟨o',U,V,h,a⟩:=hm;rw[ho] at h;cases h;exact⟨_,U,V,Z,a⟩) hok I.bare
theorem Inv.call(I:Inv X pins Y H s)(u:Un (cA X.stack) ch H H' s.heap h')(hok:gb X.prog X.w H' h')(Q:AllBare g')
  (D:∀b∈ch,(b∈X.ex\/X.s₀.heap.objs.size<=b)/\b≠X.env.locals/\(∀x c,X.env.cells.lookup x=some c->c≠b)/\∀p∈X.pn++pins,p.1≠b):
  Inv X pins Y H' { s with heap:=h',gens:=g',drawn:=d',toks:=t' }:=by
 obtain⟨m,⟨o,es,ep,ho,r⟩,_⟩:=id I.loc;obtain⟨sl,Z⟩:=u.any ho I.free λz=>(D _ z).2.1 rfl;exact I.step (ch:=ch) D (λb o Z d hc e n=>u.keep b o e n (λz=>(Po.mp (I.jg b z)).elim Z d) hc) (λb o _ _ hc e n=>u.any e n hc) (λb o hc e n=>u.free b o e n hc) (λb o hc e=>u.there b o e hc) u.tups u.frzs u.tbls (λf hm=>by obtain⟨o',U,V,h,a⟩:=hm;rw[ho] at h;cases h;exact⟨_,U,V,Z,a⟩) hok Q
theorem Inv.turned(I:Inv X pins Y H s)(k:∀b o,b≠it->s.heap.get? b=some o->h'.get? b=some o)(hn:H it=none)(Z:it≠X.env.locals)
  (h1:it∈X.ex\/X.s₀.heap.objs.size<=it)(h2:∀x c,X.env.cells.lookup x=some c->c≠it)(h3:∀p∈X.pn++pins,p.1≠it):Inv X pins Y H { s with heap:=h',toks:=t' }:=by
 have g:∀b u,H b=some u->b≠it:=λb u e z=>by rw[z,hn] at e;cases e
 refine I.step (g':=s.gens) (d':=s.drawn) (ch:=[it]) (λb d=>?_) (λb o _ _ hc e _=>k b o (λz=>hc (by simp[z])) e) (λb o _ _ hc e _=>⟨o.slots,k b o (λz=>hc (by simp[z])) e⟩) (λ_ _ _ _ n=>n)
  (λb o hc e=>⟨o,k b o (λz=>hc (by simp[z])) e⟩) (λ_ _ e=>e) (λ_ _ _ e=>e) (λb ps e=>⟨#[],by rw[e];simp⟩) (λm hm=>?_) (λb u e=>?_) I.bare
 .have e:b=it:=by simpa using d
  subst e;exact⟨h1,Z,h2,h3⟩
 .obtain⟨o,es,ep,ho,r⟩:=hm;exact⟨o,es,ep,k _ o (QM Z) ho,r⟩
 .refine(I.hok b u e).lK (λc v hc q=>k c v ?_ q) (λ_ q=>q) λ_ _ q=>q;rcases hc with z|z
  .rw[z];exact g b u e
  .exact g c _ z
theorem Inv.tok(I:Inv X pins Y H s)(t:Nat):Inv X pins Y H { s with toks:=t }:=I.un (h':=s.heap) (t':=t) Un.refl I.hok
theorem Inv.kept{t':Nat}(I:Inv X pins Y H s)(k:∀b u,s.heap.get? b=some u->h'.get? b=some u):Inv X pins Y H { s with heap:=h',toks:=t' }:=I.un (Un.kept k) (I.hok.kept k)
theorem Inv.laid{a:Addr}{o:HO}{t':Nat}(I:Inv X pins Y H s)(k:∀b u,s.heap.get? b=some u->h'.get? b=some u)(hp:s.heap.objs.size<=a)(new:aL X.prog X.w (upd H a o) h' a o):
  Inv X pins Y (upd H a o) { s with heap:=h',toks:=t' }:=I.un (Un.laid k hp (I.hok.fresh hp)) (I.hok.laid k hp new)
theorem Inv.write{x e:Addr}{o:HO}{t':Nat}(I:Inv X pins Y H s)(mu:Lv (H x))(t:e=x\/H e=some (.own x))(k:∀b u,b≠e->s.heap.get? b=some u->h'.get? b=some u)(r:∃u,h'.get? e=some u)
  (new:aL X.prog X.w (upd H x o) h' x o):Inv X pins Y (upd H x o) { s with heap:=h',toks:=t' }:=I.un (Un.write mu t k r) (I.hok.write mu t k r new)
theorem Inv.oK{b:List (Addr×Obj)}(I:Inv X pins Y H s)(h:∀p∈b,s.heap.get? p.1=some p.2/\H p.1=none/\p.1≠X.env.locals/\p.1∉X.fs/\∀v,p.2.data≠.cell v):Inv X b Y H s:=
 ⟨I.ok,I.os,I.bare,I.base,I.loc,I.cell,I.free,I.freeC,λp hp=>(Pe.mp hp).elim (λz=>I.pin p (Ph _ z)) (h p),I.hok,I.len⟩
theorem km(z:N.Nodup)(a:N[i]?=some x)(b:N[j]?=some x):i=j:=by obtain⟨h1,J⟩:=O6.mp a;obtain⟨h2,l⟩:=O6.mp b;exact(List.getElem_inj z).mp (J.trans l.symm)
theorem l7{M:Model}{A:Around}(I:Inv X pins Y H s)(hN:X.N.Nodup)(hi:X.N[i]?=some x)(hx:Loc X.env.scope x)(r:RelV v u)
  (h:∀s',Inv X pins (Y.set i (some v)) H s'->(∃a,R6 a s.heap s'.heap/\(a=X.env.locals\/X.env.cells.lookup x=some a))->Q () s')(hf:X.fn x=true\/X.env.scope.names.lookup x=some .local:=by first|exact .inl rfl|exact .inr rfl|assumption):wpAny M A (storeName X.env x u) Q E s:=by
 obtain⟨m,hn,hl⟩:=id I.loc;have hcls:(X.env.scope.kind==.class || (X.env.scope.kind==.module&&X.env.locals != X.env.globals))=false:=by rw[I.ok.kind];rfl
 have hiσ:i<Y.length:=by rw[I.len];exact(O6.mp hi).1
 have Bz:=I.Bz;have tracked:∀{a:Addr}{h':Heap},(∃o,s.heap.get? a=some o/\H a=none)->R6 a s.heap h'->gb X.prog X.w H h':=λ{a h'} ha hs b ob e=>by
  obtain⟨_,_,hfree⟩:=ha;refine(I.hok b ob e).lK (λc w' hc q=>(hs.2 c ?_).trans q) (λ_ q=>q) λ_ _ q=>q;rintro rfl;rcases hc with rfl|hc
  .rw[hfree] at e;cases e
  .rw[hfree] at hc;cases hc
 rcases hx with hk|hk
 .refine wpAny_storeName_local hk hn (λh' hn' hs=>?_) hcls;obtain⟨oL,_,_,hoL,_⟩:=id hn;refine h _ ⟨I.ok,I.os,I.bare,⟨λb o e n hb hx=>?_,λb o e n hb hx=>?_,I.base.free,λb o e hx=>?_,I.base.tups,I.base.frzs,I.base.tbls⟩,⟨_,hn',λj y v' e1 e2 e3=>?_⟩,λy c e=>?_,I.free,I.freeC,λp hp=>?_,tracked ⟨oL,hoL,I.free⟩ hs,by simpa using I.len⟩ ⟨_,hs,.inl rfl⟩
  .exact(hs.2 b (PD (O9 (Pj e) I.ok.above))).trans (I.base.keep b o e n hb hx)
  .obtain⟨sl,e1⟩:=I.base.slot b o e n hb hx;exact⟨sl,(hs.2 b (PD (O9 (Pj e) I.ok.above))).trans e1⟩
  .obtain⟨o',e1⟩:=I.base.there b o e hx;exact⟨o',(hs.2 b (PD (O9 (Pj e) I.ok.above))).trans e1⟩
  .by_cases hj:j=i
   .subst hj;rw[hi] at e1;cases e1;rw[PR hiσ] at e2;cases e2;exact⟨u,r,.inl ⟨hk,by simp⟩⟩
   .rw[Qh (QM hj)] at e2;obtain⟨u',r',q⟩:=hl j y v' e1 e2 e3;refine⟨u',r',?_⟩;rcases q with ⟨k,e⟩|⟨k,c,e,z⟩
    .refine .inl ⟨k,?_⟩;have:y≠x:=λe=>hj (km hN e1 (e▸hi));simp[this,e]
    .exact .inr ⟨k,c,e,z.sameBut hs (Bz y c e)⟩
  .obtain⟨w',z⟩:=I.cell y c e;exact⟨w',z.sameBut hs (Bz y c e)⟩
  .obtain⟨e,n,ne,nf,d⟩:=I.pin p hp;exact⟨(hs.2 p.1 ne).trans e,n,ne,nf,d⟩
 .have hfn:X.fn x=true:=by
   rcases hf with z|z
   .exact z
   .rw[z] at hk;cases hk
  obtain⟨c,hc⟩:=I.ok.has x (.inl hk);obtain⟨w',z⟩:=I.cell x c hc;refine wpAny_storeName_cell I.ok.kind hk hc z (λh' hc' hs=>?_);obtain⟨oc,hoc,hocd⟩:=id z;refine h { s with heap:=h' } ⟨I.ok,I.os,I.bare,⟨λb o e n hb hx=>?_,λb o e n hb hx=>?_,I.base.free,λb o e hx=>?_,I.base.tups,I.base.frzs,I.base.tbls⟩,⟨m,hn.sameBut hs (QM (Bz x c hc)),λj y v' e1 e2 e3=>?_⟩,λy c' e=>?_,I.free,I.freeC,λp hp=>?_,tracked ⟨oc,hoc,I.freeC x c hc⟩ hs,by simpa using I.len⟩ ⟨c,hs,.inr hc⟩
  .exact(hs.2 b (PD (O9 (Pj e) (I.ok.cab x c hfn hc)))).trans (I.base.keep b o e n hb hx)
  .obtain⟨sl,e1⟩:=I.base.slot b o e n hb hx;exact⟨sl,(hs.2 b (PD (O9 (Pj e) (I.ok.cab x c hfn hc)))).trans e1⟩
  .obtain⟨o',e1⟩:=I.base.there b o e hx;exact⟨o',(hs.2 b (PD (O9 (Pj e) (I.ok.cab x c hfn hc)))).trans e1⟩
  .by_cases hj:j=i
   .subst hj;rw[hi] at e1;cases e1;rw[PR hiσ] at e2;cases e2;exact⟨u,r,.inr ⟨.inl hk,c,hc,hc'⟩⟩
   .rw[Qh (QM hj)] at e2;obtain⟨u',r',q⟩:=hl j y v' e1 e2 e3;refine⟨u',r',?_⟩;rcases q with q|⟨k,c',e,z'⟩
    .exact .inl q
    .refine .inr ⟨k,c',e,z'.sameBut hs ?_⟩;rintro rfl;exact hj (km hN e1 (I.ok.inj _ _ _ e hc▸hi))
  .by_cases hcc:c'=c
   .subst hcc;exact⟨_,hc'⟩
   .obtain⟨w2,z2⟩:=I.cell y c' e;exact⟨w2,z2.sameBut hs hcc⟩
  .obtain⟨e,n,ne,nf,d⟩:=I.pin p hp;refine⟨(hs.2 p.1 ?_).trans e,n,ne,nf,d⟩;intro q;rw[q,hoc] at e;have q':oc=p.2:=Pn e;exact d w' (by rw[<-q'];exact hocd)
theorem d5{M:Model}{A:Around}(I:Inv X pins Y H s)(hN:X.N.Nodup)(hi:X.N[i]?=some x)(hx:Loc X.env.scope x)(r:RelV v u)
  (h:∀s',Inv X pins (Y.set i (some v)) H s'->Q () s')(hf:X.fn x=true\/X.env.scope.names.lookup x=some .local:=by first|exact .inl rfl|exact .inr rfl|assumption):wpAny M A (storeName X.env x u) Q E s:=
 l7 I hN hi hx r (λs' I' _=>h s' I') hf
theorem Inv.Ek{s':Shared}(I:Inv X pins Y H s)(ho:s'.os=s.os)(u:Un (cA X.stack) ch H H' s.heap s'.heap)(hok:gb X.prog X.w H' s'.heap)(Q:AllBare s'.gens)
  (D:∀b∈ch,(b∈X.ex\/X.s₀.heap.objs.size<=b)/\b≠X.env.locals/\(∀x c,X.env.cells.lookup x=some c->c≠b)/\∀p∈X.pn++pins,p.1≠b):Inv X pins Y H' s':=by
 obtain⟨h',g',d',t',o'⟩:=s';have e:o'=s.os:=ho;subst e;exact I.call (g':=g') (t':=t') (d':=d') u hok Q D
end
abbrev XK:=Value->Option Addr->Hp->Prop
noncomputable abbrev St:=List (Option V)
abbrev VK:=V->Hp->Prop
abbrev TE:=St->Hp->VK->Prop
abbrev TT:=St->Hp->(Bool->Hp->Prop)->Prop
abbrev TA:=St->Hp->(List V->Hp->Prop)->Prop
structure Ends where
 nx:St->Hp->Prop
 rt:VK
 bk:St->Hp->Prop:=λ_ _=>False
 ct:St->Hp->Prop:=λ_ _=>False
abbrev TS:=Ends->St->Hp->Prop
inductive EP(X:Cx)(pins:List (Addr×Obj))(Y:St)(Q:VK)(u:Value)(s':Shared):Prop
 |mk(v:V)(H':Hp)(i:Inv X pins Y H' s')(r:RelV v u)(q:Q v H')
inductive TP(X:Cx)(pins:List (Addr×Obj))(Y:St)(Q:Bool->Hp->Prop)(b:Bool)(s':Shared):Prop
 |mk(H':Hp)(i:Inv X pins Y H' s')(q:Q b H')
inductive AP(X:Cx)(pins:List (Addr×Obj))(Y:St)(Q:List V->Hp->Prop)(us:List Value)(s':Shared):Prop
 |mk(vs:List V)(H':Hp)(i:Inv X pins Y H' s')(r:Vals vs us)(q:Q vs H')
def SP(X:Cx)(pins:List (Addr×Obj))(D:Ends)(f:Flow)(s':Shared):Prop:=
 match f with
 | .next=>∃Z' H',Inv X pins Z' H' s'/\D.nx Z' H'
 | .brk=>∃Z' H',Inv X pins Z' H' s'/\D.bk Z' H'
 | .cont=>∃Z' H',Inv X pins Z' H' s'/\D.ct Z' H'
 | .ret u=>∃v Z' H',Inv X pins Z' H' s'/\RelV v u/\D.rt v H'
def PE(X:Cx)(e:Expr)(t:TE):Prop:=
 ∀(pins:List (Addr×Obj))(s:Shared)(Y:St)(H:Hp)(Q:VK),Inv X pins Y H s->t Y H Q->wpAny (model X.prog X.w) X.A (eval e X.env) (EP X pins Y Q) X.xe s
def PT(X:Cx)(e:Expr)(t:TT):Prop:=
 ∀(pins:List (Addr×Obj))(s:Shared)(Y:St)(H:Hp)(Q:Bool->Hp->Prop),Inv X pins Y H s->t Y H Q->wpAny (model X.prog X.w) X.A (isTrue e X.env (eval e X.env)) (TP X pins Y Q) X.xe s
def PW(X:Cx)(e:Expr)(t:TT):Prop:=
 ∀(I:Sem Value)(pins:List (Addr×Obj))(s:Shared)(Y:St)(H:Hp)(Q:Bool->Hp->Prop),Inv X pins Y H s->t Y H Q->wpAny (model X.prog X.w) X.A (isTrue e X.env I) (TP X pins Y Q) X.xe s
variable{X:Cx}{e:Expr}
theorem PW.pt{t:TT}(h:PW X e t):PT X e t:=h _
def PA(X:Cx)(es:List Expr)(t:TA):Prop:=
 ∀(pos:Pos)(pins:List (Addr×Obj))(s:Shared)(Y:St)(H:Hp)(Q:List V->Hp->Prop),Inv X pins Y H s->t Y H Q->wpAny (model X.prog X.w) X.A (spliced (backTo pos (starEach es X.env))) (AP X pins Y Q) X.xe s
def PS(X:Cx)(st:Stmt)(t:TS):Prop:=
 ∀(pins:List (Addr×Obj))(s:Shared)(Y:St)(H:Hp)(D:Ends),Inv X pins Y H s->t D Y H->wpAny (model X.prog X.w) X.A (exec st X.env) (SP X pins D) X.xe s
def p7(X:Cx)(st:List Stmt)(t:TS):Prop:=
 ∀(pins:List (Addr×Obj))(s:Shared)(Y:St)(H:Hp)(D:Ends),Inv X pins Y H s->t D Y H->wpAny (model X.prog X.w) X.A (execs st X.env) (SP X pins D) X.xe s
variable{α:Type}{s:Shared}
theorem ba{t:Sem α}{Q H:α->Shared->Prop}{M:Model}{A:Around}(h:wpAny M A t Q E s)(X:∀a s,Q a s->H a s):wpAny M A t H E s:=wpAny_mono h X λ_ _ x=>x
variable{pins:List (Addr×Obj)}{Y:St}{R:V->V->Hp->Prop}{pos:Pos}{op:CmpOp}
section
variable{X:Cx}
theorem bin{a b:Expr}{ta tb:TE}(ha:PE X a ta)(d:PE X b tb)(I:Inv X pins Y H s)(h:ta Y H λx i=>tb Y i λy e=>R x y e)
  {Q:α->Shared->Prop}{f:Value->Value->Sem α}
  (hf:∀v u s2 x y e,Inv X pins Y e s2->RelV x v->RelV y u->R x y e->wpAny (model X.prog X.w) X.A (f v u) Q X.xe s2):
  wpAny (model X.prog X.w) X.A (eval a X.env) (λv Z=>wpAny (model X.prog X.w) X.A (eval b X.env) (λu U=>wpAny (model X.prog X.w) X.A (f v u) Q X.xe U) X.xe Z) X.xe s:=by
 refine ba (ha pins s Y H _ I h) λv s1 ⟨x,i,j,k,n⟩=>?_;refine ba (d pins s1 Y i _ j n) λu s2 ⟨y,e,o,p,q⟩=>?_;exact hf v u s2 x y e o k p q
noncomputable def MJ(i:Nat):TE:=λY H Q=>∃v,Y[i]?=some (some v)/\Q v H
noncomputable def tC(v:V):TE:=λ_ H Q=>Q v H
theorem dq(hN:X.N[i]?=some x)(hv:qy X.env.scope x)(hd:eG x:=by decide)(hcd:t9 x:=by decide):PE X (.Name x pos) (MJ i):=by
 intro pins s Y H Q I h;obtain⟨v,e,h⟩:=h;obtain⟨m,hn,hl⟩:=I.loc;obtain⟨u,r,l⟩:=hl i x v hN e hv;have fin:EP X pins Y Q u s:=⟨v,H,I,r,h⟩
 rcases l with ⟨hk,hm⟩|⟨hk,c,hc,hcell⟩
 .exact wpAny_Name (wpAny_loadName_local I.ok.kind hk hn hm fin) hd
 .rcases hk with hk|hk
  .exact wpAny_Name (wpAny_loadName_cell I.ok.kind hk hc hcell fin) hd
  .exact wpAny_Name (wpAny_loadName_free I.ok.kind hk hc hcell fin hcd) hd
theorem GG{i j pos}:PE X (.Constant (.int i) j pos) (tC (.int i)):=λ_ _ _ H _ I h=>wpAny_Constant_int ⟨.int i,H,I.tok _,⟨_,rfl⟩,h⟩
theorem IX{b j pos}:PE X (.Constant (.bool b) j pos) (tC (.bl b)):=λ_ _ _ H _ I h=>Constant_bool ⟨.bl b,H,I,rfl,h⟩
theorem ES{j pos}:PE X (.Constant .none j pos) (tC .non):=λ_ _ _ H _ I h=>Constant_none ⟨.non,H,I,rfl,h⟩
theorem GL{x j pos}:PE X (.Constant (.str x) j pos) (tC (.str x)):=λ_ _ _ H _ I h=>Calls.Constant_str ⟨.str x,H,I.tok _,⟨_,rfl⟩,h⟩
def Gl(X:Cx)(x:Str):Prop:=X.env.kindOf x=some .globalImplicit
theorem g7{Q:Value->Shared->Prop}(I:Inv X pins Y H s)(hg:Gl X x)(hm:X.mg x=some u)(h:Q u s)
  (hd:eG x:=by decide):wpAny (model X.prog X.w) X.A (eval (.Name x pos) X.env) Q E s:=
 Tj I.ok.kind hg (Calls.loadGlobal_global (by rw[I.ok.glob];exact I.mod.glob.keeps I.bk) hm h) hd
theorem m5{Q:Value->Shared->Prop}(I:Inv X pins Y H s)(hg:Gl X x)(hm:X.mg x=none)(hv:bootBuiltins x=some u)(h:Q u s)
  (hn:x ≠ "__name__" := by decide)(hd:eG x:=by decide):wpAny (model X.prog X.w) X.A (eval (.Name x pos) X.env) Q E s:=by
 obtain⟨mb,h1,h2⟩:=I.mod.blt;exact Tj I.ok.kind hg (Calls.loadGlobal_builtin (by rw[I.ok.glob];exact I.mod.glob.keeps I.bk) hm (by rw[I.ok.blt];exact h1.keeps I.bk) ((h2 x hn).trans hv) h) hd
theorem Cp(hg:Gl X x)(hm:X.mg x=some u)(r:RelV v u)(hd:eG x:=by decide):PE X (.Name x pos) (tC v):=
 λ_ _ _ H _ I h=>g7 I hg hm ⟨v,H,I,r,h⟩ hd
theorem Ct(hg:Gl X x)(hm:X.mg x=none)(hv:bootBuiltins x=some u)(r:RelV v u)(hn:x ≠ "__name__" := by decide)(hd:eG x:=by decide):PE X (.Name x pos) (tC v):=
 λ_ _ _ H _ I h=>m5 I hg hm hv ⟨v,H,I,r,h⟩ hn hd
variable{a b:Expr}{ta tb:TE}{pos:Pos}
def PC(X:Cx)(op:CmpOp)(a b:Expr)(t:TE):Prop:=
 ∀(pins:List (Addr×Obj))(s:Shared)(Y:St)(H:Hp)(Q:VK),Inv X pins Y H s->t Y H Q->
  wpAny (model X.prog X.w) X.A (eval a X.env) (λv Z=>wpAny (model X.prog X.w) X.A (eval b X.env) (λu U=>wpAny (model X.prog X.w) X.A (compareOp op v u) (EP X pins Y Q) X.xe U) X.xe Z) X.xe s
noncomputable def tB(t:TE):TT:=λY H Q=>t Y H λx i=>∃c,x=.bl c/\Q c i
theorem yU{t:TE}(h:PC X op a b t)(h1:behindInMarks op b=false:=by first|exact nobehind _ (by decide) (by decide)|rfl):PE X (.Compare a [op] [b] pos) t:=λpins s Y H Q I hw=>wpAny_Compare1 (h pins s Y H Q I hw) h1
theorem zN{t:TE}(h:PC X op a b t)(h1:behindInMarks op b=false:=by first|exact nobehind _ (by decide) (by decide)|rfl):PT X (.Compare a [op] [b] pos) (tB t):=by intro pins s Y H Q I hw;refine wpAny_isTrue_Compare1 (ba (h pins s Y H _ I hw) λv s1 h1=>ba h1 λu s2 h2=>ba h2 λc s3 ⟨x,H1,I1,r1,q1⟩=>?_) h1;obtain⟨d,rfl,q⟩:=q1;cases r1;exact wpAny_truthy_bool ⟨H1,I1,q⟩
theorem Ha{t:TE}(h:PE X e t)(he:∀whole,isTrue e X.env whole=(do let v <- whole;standAt e.pos;holding [v] (truthy v)):=by intro _;rfl):PT X e (tB t):=by intro pins s Y H Q I hw;refine isTrue_plain (ba (h pins s Y H _ I hw) λv s1 ⟨x,H1,I1,r1,q1⟩=>?_) (he _);obtain⟨d,rfl,q⟩:=q1;cases r1;exact wpAny_truthy_bool ⟨H1,I1,q⟩
variable{tA tB':TT}{rest:List Expr}
noncomputable def Nb(t u:TT):TT:=λY H Q=>t Y H λc i=>if c=true then u Y i Q else Q false i
noncomputable def OJ(t u:TT):TT:=λY H Q=>t Y H λc i=>if c=true then Q true i else u Y i Q
noncomputable def Nf(t:TT):TT:=λY H Q=>t Y H λc i=>Q (!c) i
theorem Az(ha:PT X a tA):PW X (.BoolOp .And [a] pos) tA:=by
 intro r pins s Y H Q I h;refine isTrue_and (ba (ha pins s Y H Q I h) λc s1 e=>?_);cases c with
 |true=>exact isTrue_and_nil e
 |false=>exact e
theorem Ey(ha:PT X a tA):PW X (.BoolOp .Or [a] pos) tA:=by
 intro r pins s Y H Q I h;refine isTrue_or (ba (ha pins s Y H Q I h) λc s1 e=>?_);cases c with
 |false=>exact isTrue_or_nil e
 |true=>exact e
theorem EL(ha:PT X a tA)(d:PW X (.BoolOp .And (b::rest) pos) tB'):PW X (.BoolOp .And (a::b::rest) pos) (Nb tA tB'):=by
 intro r pins s Y H Q I h;refine isTrue_and (ba (ha pins s Y H _ I h) λc s1 ⟨i,j,n⟩=>?_);cases c with
 |true=>exact d r pins s1 Y i Q j n
 |false=>exact⟨i,j,n⟩
theorem JB(ha:PT X a tA)(d:PW X (.BoolOp .Or (b::rest) pos) tB'):PW X (.BoolOp .Or (a::b::rest) pos) (OJ tA tB'):=by
 intro r pins s Y H Q I h;refine isTrue_or (ba (ha pins s Y H _ I h) λc s1 ⟨i,j,n⟩=>?_);cases c with
 |true=>exact⟨i,j,n⟩
 |false=>exact d r pins s1 Y i Q j n
theorem FL(ha:PT X a tA):PT X (.UnaryOp .Not a pos) (Nf tA):=by intro pins s Y H Q I h;exact isTrue_not (ba (ha pins s Y H (λc u=>Q (!c) u) I h) λc s' ⟨H',i,q⟩=>⟨H',i,q⟩)
noncomputable def JN(ta tb:TE):TE:=λY H Q=>ta Y H λx i=>∃c,x=.bl c/\if c=true then tb Y i Q else Q (.bl false) i
noncomputable def Na(ta tb:TE):TE:=λY H Q=>ta Y H λx i=>∃c,x=.bl c/\if c=true then Q (.bl true) i else tb Y i Q
noncomputable def Ju(ta:TE):TE:=λY H Q=>ta Y H λx i=>∃c,x=.bl c/\Q (.bl (!c)) i
theorem Gx{op}{t:TE}(h:PE X a t):PE X (.BoolOp op [a] pos) t:=λpins s Y H Q I v=>BoolOp_one (h pins s Y H Q I v)
theorem FH(ha:PE X a ta)(d:PE X (.BoolOp .And (b::rest) pos) tb):PE X (.BoolOp .And (a::b::rest) pos) (JN ta tb):=by
 intro pins s Y H Q I h;refine BoolOp_and (ba (ha pins s Y H _ I h) λv s1 ⟨x,i,j,k,n⟩=>?_);obtain⟨c,rfl,n⟩:=n;cases k;refine wpAny_truthy_bool ?_;cases c with
 |true=>exact d pins s1 Y i Q j n
 |false=>exact⟨.bl false,i,j,rfl,n⟩
theorem Je(ha:PE X a ta)(d:PE X (.BoolOp .Or (b::rest) pos) tb):PE X (.BoolOp .Or (a::b::rest) pos) (Na ta tb):=by
 intro pins s Y H Q I h;refine BoolOp_or (ba (ha pins s Y H _ I h) λv s1 ⟨x,i,j,k,n⟩=>?_);obtain⟨c,rfl,n⟩:=n;cases k;refine wpAny_truthy_bool ?_;cases c with
 |false=>exact d pins s1 Y i Q j n
 |true=>exact⟨.bl true,i,j,rfl,n⟩
theorem HW(ha:PE X a ta):PE X (.UnaryOp .Not a pos) (Ju ta):=by intro pins s Y H Q I h;refine UnaryOp_ (ba (ha pins s Y H _ I h) λv s1 ⟨x,i,j,k,n⟩=>?_);obtain⟨c,rfl,n⟩:=n;cases k;exact not_of (wpAny_truthy_bool ⟨.bl (!c),i,j,rfl,n⟩)
end
def eX(K:O2)(H:Hp)(a:Addr)(xs:List V):Prop:=
 Rd H a (.lst xs) \/
  ∃(o:Obj)(b:Array Value)(n:Nat),K.lookup a=some o/\o.cls=.type "list" /\ o.dict=none/\o.data=.seq b n/\b.size<=sizeLine/\Vals xs b.toList
def dz(K:O2)(H:Hp)(a:Addr)(xs:List V):Prop:=
 Rd H a (.tup xs) \/
  ∃(o:Obj)(b:Array Value)(n:Nat),K.lookup a=some o/\(o.cls=.type "tuple" /\ o.dict=none)/\o.data=.seq b n/\b.size<=sizeLine/\Vals xs b.toList
noncomputable def Mq:Value->Option V
 | .none=>some .non
 | .bool b=>some (.bl b)
 | .int i _=>some (.int i)
 | .str x _=>some (.str x)
 | .bytes b _=>some (.byt b)
 | .float b _=>some (.flt b)
 | .ref a=>some (.ref a)
 | .type n=>some (.ty n)
 |_=>none
theorem RelV.abs{x:V}(r:RelV x u):Mq u=some x:=by
 cases x with
 |non=>cases r;rfl
 |bl _=>cases r;rfl
 |int _=>obtain⟨t,rfl⟩:=r;rfl
 |str _=>obtain⟨t,rfl⟩:=r;rfl
 |byt _=>obtain⟨t,rfl⟩:=r;rfl
 |flt _=>obtain⟨t,rfl⟩:=r;rfl
 |ref _=>cases r;rfl
 |ty _=>cases r;rfl
variable{y:V}
theorem RelV.inj{x:V}(r:RelV x u)(q:RelV y u):x=y:=Pn (r.abs.symm.trans q.abs)
theorem Vals.inj:∀{xs ys:List V}{us:List Value},Vals xs us->Vals ys us->xs=ys
 |_,_,_,.nil,.nil=>rfl
 |_,_,_,.cons r t,.cons r' t'=>by rw[r.inj r',Vals.inj t t']
section
variable{X:Cx}{pins:List (Addr×Obj)}{Y:St}{H:Hp}{s:Shared}{a:Addr}{xs ys:List V}
theorem Inv.list(I:Inv X pins Y H s)(h:eX X.K H a xs):∃b:List Value,Vals xs b/\PlainL s.heap a b.toArray/\xs.length<=sizeLine:=by
 rcases h with h|⟨o,b,n,hk,hc,hd,x,hz,r⟩
 .obtain⟨z,b,n,r,e⟩:=h.ok I.hok;exact⟨b,r,⟨_,n,e,rfl,rfl,rfl⟩,z⟩
 .refine⟨b.toList,r,⟨o,n,I.ym a o hk,hc,hd,by simpa using x⟩,?_⟩;have e:=r.length;simp only[P9] at e;omega
theorem Inv.tuple(I:Inv X pins Y H s)(h:dz X.K H a xs):∃b:List Value,Vals xs b/\IsTup s.heap a b.toArray/\xs.length<=sizeLine:=by
 rcases h with h|⟨o,b,n,hk,hc,x,hz,r⟩
 .obtain⟨z,b,r,p⟩:=h.ok I.hok;exact⟨b,r,p.t,z⟩
 .refine⟨b.toList,r,⟨o,I.ym a o hk,hc.1,n,by simpa using x⟩,?_⟩;have e:=r.length;simp only[P9] at e;omega
theorem Inv.E8(I:Inv X pins Y H s)(h:dz X.K H a xs):∃b:List Value,Vals xs b/\eU s.heap a b.toArray/\xs.length<=sizeLine:=by
 rcases h with h|⟨o,b,n,hk,hc,x,hz,r⟩
 .obtain⟨z,b,r,p⟩:=h.ok I.hok;exact⟨b,r,p,z⟩
 .refine⟨b.toList,r,⟨o,I.ym a o hk,hc.1,n,by simpa using x,hc.2⟩,?_⟩;have e:=r.length;simp only[P9] at e;omega
theorem Inv.qu(I:Inv X pins Y H s)(h:eX X.K H a xs)(h':eX X.K H a ys):xs=ys:=by
 obtain⟨b,r,⟨o,n,e,_,_,d⟩,_⟩:=I.list h;obtain⟨its',w,⟨o',y,e',_,_,d'⟩,_⟩:=I.list h';rw[e] at e';cases e';rw[d] at d';injection d' with d1 _;have:b=its':=by simpa using congrArg T8 d1
 subst this;exact r.inj w
theorem Inv.mG(I:Inv X pins Y H s)(h:dz X.K H a xs)(h':dz X.K H a ys):xs=ys:=by
 obtain⟨b,r,⟨o,e,_,n,d⟩,_⟩:=I.tuple h;obtain⟨its',w,⟨o',e',_,y,d'⟩,_⟩:=I.tuple h';rw[e] at e';cases e';rw[d] at d';injection d' with d1 _;have:b=its':=by simpa using congrArg T8 d1
 subst this;exact r.inj w
end
noncomputable abbrev Cx.kC(X:Cx)(E:Value->Shared->Prop):Cx:={ X with xe:=E }
abbrev Cx.uw(X:Cx):Cx:=X.kC λ_ _=>False
theorem Cx.Ok.kC{X:Cx}(ok:X.Ok)(E:Value->Shared->Prop):(X.kC E).Ok:=
 ⟨ok.mod,ok.kind,ok.glob,ok.blt,ok.above,ok.inj,ok.has,ok.cab,ok.hd,ok.frames,ok.stk,ok.exf,ok.bs,ok.bsz,ok.noex,ok.exfs,ok.i6,ok.frf⟩
theorem Cx.Ok.gO(ok:(X.kC E).Ok):X.Ok:=
 ⟨ok.mod,ok.kind,ok.glob,ok.blt,ok.above,ok.inj,ok.has,ok.cab,ok.hd,ok.frames,ok.stk,ok.exf,ok.bs,ok.bsz,ok.noex,ok.exfs,ok.i6,ok.frf⟩
section
variable{X:Cx}{pins:List (Addr×Obj)}{Y:St}{H:Hp}{s:Shared}{E:Value->Shared->Prop}
theorem Inv.kC(I:Inv X pins Y H s)(E:Value->Shared->Prop):Inv (X.kC E) pins Y H s:=⟨I.ok.kC E,I.os,I.bare,I.base,I.loc,I.cell,I.free,I.freeC,I.pin,I.hok,I.len⟩
theorem Inv.gO(I:Inv (X.kC E) pins Y H s):Inv X pins Y H s:=⟨I.ok.gO,I.os,I.bare,I.base,I.loc,I.cell,I.free,I.freeC,I.pin,I.hok,I.len⟩
end
variable{c:Expr}{tc:TT}
section
variable{X:Cx}{st:Stmt}{rest:List Stmt}{t u:TS}{e:Expr}{te:TE}{pos:Pos}
noncomputable def Dz:TS:=λD Y H=>D.nx Y H
noncomputable def Mv(t u:TS):TS:=λD Y H=>t { D with nx:=u D } Y H
theorem Bf:p7 X [] Dz:=λ_ _ Y H _ I h=>wpAny_execs_nil ⟨Y,H,I,h⟩
theorem yf(h1:PS X st t)(h2:p7 X rest u):p7 X (st::rest) (Mv t u):=by
 intro pins s Y H D I h;refine wpAny_execs_cons (ba (h1 pins s Y H { D with nx:=u D } I h) λf s1 q=>?_);cases f with
 |next=>obtain⟨Z',H',z,q⟩:=q;exact h2 pins s1 Z' H' D z q
 |ret v=>exact q
 |brk=>exact q
 |cont=>exact q
theorem BM(h1:PS X st t):p7 X [st] t:=by
 intro pins s Y H D I h;refine wpAny_execs_cons (ba (h1 pins s Y H D I h) λf s1 q=>?_);cases f with
 |next=>exact wpAny_execs_nil q
 |ret v=>exact q
 |brk=>exact q
 |cont=>exact q
noncomputable def Hb:TS:=λD Y H=>D.bk Y H
noncomputable def JC:TS:=λD Y H=>D.ct Y H
theorem Di:PS X (.Pass pos) Dz:=λ_ _ Y H _ I h=>wpAny_Pass ⟨Y,H,I,h⟩
theorem xW:PS X (.Break pos) Hb:=λ_ _ Y H _ I h=>wpAny_Break ⟨Y,H,I,h⟩
theorem p6:PS X (.Continue pos) JC:=λ_ _ Y H _ I h=>wpAny_Continue ⟨Y,H,I,h⟩
theorem Inv.quiet(I:Inv X pins Y H s):interactive X.env=false:=by simp[interactive,I.ok.kind]
noncomputable def Lk(te:TE):TS:=λD Y H=>te Y H λ_ i=>D.nx Y i
theorem BC(he:PE X e te)(hs:swapsWith e none pos.line X.env=pure false:=by rfl):PS X (.Expr e pos) (Lk te):=by intro pins s Y H D I h;exact wpAny_Expr_any (ba (he pins s Y H _ I h) λv s1 ⟨x,H1,I1,r1,q1⟩=>⟨Y,H1,I1,q1⟩) I.quiet hs
noncomputable def Ni(te:TE):TS:=λD Y H=>te Y H D.rt
theorem Iy(t:PE X e te):PS X (.Return (some e) pos) (Ni te):=by intro pins s Y H D I h;exact wpAny_Return_some (ba (t pins s Y H _ I h) λv s1 ⟨x,i,j,k,n⟩=>⟨x,Y,i,j,k,n⟩)
noncomputable def J4:TS:=λD _ H=>D.rt .non H
theorem Bj:PS X (.Return none pos) J4:=λ_ _ Y H _ I h=>wpAny_Return_none ⟨.non,Y,H,I,rfl,h⟩
noncomputable def Nm(c:TT)(t u:TS):TS:=λD Y H=>c Y H λb i=>if b=true then t D Y i else u D Y i
theorem Lo{a b:List Stmt}(hc:PT X c tc)(ha:p7 X a t)(K:p7 X b u):PS X (.If c a b pos) (Nm tc t u):=by
 intro pins s Y H D I h;refine wpAny_If (ba (hc pins s Y H _ I h) λd s1 ⟨i,j,n⟩=>?_);cases d with
 |true=>exact ha pins s1 Y i D j n
 |false=>exact K pins s1 Y i D j n
end
abbrev TG:=V->St->Hp->(St->Hp->Prop)->Prop
abbrev Es:=List V->St->Hp->(St->Hp->Prop)->Prop
def PG(X:Cx)(B:Expr)(t:TG):Prop:=
 ∀(pins:List (Addr×Obj))(s:Shared)(Y:St)(H:Hp)(v:V)(u:Value)(Q:St->Hp->Prop),Inv X pins Y H s->RelV v u->t v Y H Q->
  wpAny (model X.prog X.w) X.A (assign B X.env u) (λ_ s'=>∃Z' H',Inv X pins Z' H' s'/\Q Z' H') X.xe s
def GH(X:Cx)(ts:List Expr)(t:Es):Prop:=
 ∀(pins:List (Addr×Obj))(s:Shared)(Y:St)(H:Hp)(vs:List V)(us:List Value)(Q:St->Hp->Prop),Inv X pins Y H s->Vals vs us->t vs Y H Q->
  wpAny (model X.prog X.w) X.A (assignInOrder ((assignEach ts X.env).map (·.2)) us) (λ_ s'=>∃Z' H',Inv X pins Z' H' s'/\Q Z' H') X.xe s
abbrev G8:=V->V->V->Hp->(Hp->Prop)->Prop
def LK(X:Cx)(t:G8):Prop:=
 ∀(pins:List (Addr×Obj))(s:Shared)(Y:St)(H:Hp)(o i v:V)(C E u:Value)(Q:Hp->Prop),Inv X pins Y H s->RelV o C->RelV i E->RelV v u->t o i v H Q->
  wpAny (model X.prog X.w) X.A (setItem C E u) (λ_ s'=>∃H',Inv X pins Y H' s'/\Q H') X.xe s
variable{es:List Expr}{k:Nat}{tg:Expr}{te:TE}
section
variable{X:Cx}{pos:Pos}
noncomputable def ze(i:Nat):TG:=λv Y H Q=>Q (Y.set i (some v)) H
theorem Ce(hN:X.N.Nodup)(hi:X.N[i]?=some x)(hx:Loc X.env.scope x)(hf:X.fn x=true\/X.env.scope.names.lookup x=some .local:=by first|exact .inl rfl|exact .inr rfl|assumption):PG X (.Name x pos) (ze i):=by intro pins s Y H v u Q I r h;exact wpAny_assign_Name (d5 I hN hi hx r (λs' I'=>⟨_,H,I',h⟩) hf)
noncomputable def Mo:Es:=λvs Y H Q=>vs=[]/\Q Y H
noncomputable def DV(t:TG)(u:Es):Es:=λvs Y H Q=>∃v r,vs=v::r/\t v Y H λZ' H'=>u r Z' H' Q
theorem AX:GH X [] Mo:=by intro pins s Y H vs us Q I r h;obtain⟨e,h⟩:=h;subst e;cases r;exact assignInOrder_nil ⟨Y,H,I,h⟩
theorem zH{t:TG}{u:Es}(h1:PG X e t)(h2:GH X es u)
  (hs:(assignEach (e::es) X.env).map (·.2)=assign e X.env::(assignEach es X.env).map (·.2):=by rfl):GH X (e::es) (DV t u):=by
 intro pins s Y H vs us Q I r h;obtain⟨v,vr,e1,h⟩:=h;subst e1;cases r with
 |cons r rr=>rw[hs];refine assignInOrder_cons (ba (h1 pins s Y H _ _ _ I r h) λ_ s1 ⟨Z,H1,I1,q1⟩=>?_);exact h2 pins s1 Z H1 _ _ Q I1 rr q1
noncomputable def M6(K:O2)(n:Nat)(t:Es):TG:=λv Y H Q=>∃a xs,v=.ref a/\dz K H a xs/\xs.length=n/\t xs Y H Q
theorem Fi{t:Es}{n:Nat}(hc:X.calm=true)(h:GH X es t)
  (hn:(assignEach es X.env).length=n:=by rfl)(hst:(assignEach es X.env).findIdx? (·.1)=none:=by rfl):PG X (.Tuple es k pos) (M6 X.K n t):=by
 intro pins s Y H v u Q I r hw;obtain⟨a,xs,e1,hq,hl,hw⟩:=hw;subst e1;cases r;obtain⟨its,rv,ht,hz⟩:=I.tuple hq;refine assign_Tuple_tuple (I.ok.hd hc) ht (by simp[hn,<-hl,rv.length]) hst λh' hx=>?_;have I1:Inv X pins Y H { s with heap:=h' }:=I.kept (t':=s.toks) λb o e=>hx b o (PD (Pj e)) e;exact h pins _ Y H xs _ Q I1 (by simpa using rv) hw
noncomputable def Jb(to A:TE)(t:G8):TG:=λv Y H Q=>to Y H λo u=>A Y u λi e=>t o i v e λF=>Q Y F
theorem HK{o i:Expr}{to ti:TE}{t:G8}(ho:PE X o to)(hi:PE X i ti)(hs:LK X t)
  (ha:∀v,assign (.Subscript o i pos) X.env v=(do
   let ov <- holding [v] (eval o X.env)
   let iv <- holding [v,ov] (eval i X.env)
   standAt pos
   holding [v,ov,iv] (setItem ov iv v)
   release [v,ov,iv] []):=by intro _;rfl):PG X (.Subscript o i pos) (Jb to ti t):=by
 intro pins s Y H v u Q I r h;rw[ha];refine wpAny_bind (wpAny_holding (ba (ho pins s Y H _ I h) λov s1 ⟨x,H1,I1,r1,q1⟩=>?_));refine wpAny_bind (wpAny_holding (ba (hi pins s1 Y H1 _ I1 q1) λiv s2 ⟨y,H2,I2,r2,q2⟩=>?_));refine wpAny_bind (wpAny_standAt (wpAny_bind (wpAny_holding (ba (hs pins s2 Y H2 x y v ov iv u _ I2 r1 r2 r q2) λ_ s3 ⟨H3,I3,q3⟩=>?_))));exact wpAny_release ⟨Y,H3,I3,q3⟩
noncomputable def xf(te:TE)(g:TG):TS:=λD Y H=>te Y H λx i=>g x Y i D.nx
theorem wV{g:TG}(he:PE X e te)(hg:PG X tg g)(hs:swapsWithSole [tg] e pos.line X.env=pure false:=by rfl)(hw:swappedStores [tg] e X.env=pure none:=by rfl)
  (h1:(assignEach [tg] X.env).map (·.2)=[assign tg X.env]:=by rfl):PS X (.Assign [tg] e pos) (xf te g):=by
 intro pins s Y H D I h;refine wpAny_Assign_stores (ba (he pins s Y H _ I h) λv s1 ⟨x,H1,I1,r1,q1⟩=>?_) hs hw;rw[h1];exact ba (hg pins s1 Y H1 x v _ I1 r1 q1) λ_ s2 q=>q
theorem EJ{pos':Pos}(hN:X.N.Nodup)(hi:X.N[i]?=some x)(hx:Loc X.env.scope x)(he:PE X e te)(hs:swapsWith e (some (.Name x pos')) pos.line X.env=pure false:=by rfl)(hf:X.fn x=true\/X.env.scope.names.lookup x=some .local:=by first|exact .inl rfl|exact .inr rfl|assumption):
  PS X (.Assign [.Name x pos'] e pos) (xf te (ze i)):=by
 intro pins s Y H D I h;refine wpAny_Assign_Name (ba (he pins s Y H _ I h) λv s1 ⟨y,H1,I1,r1,q1⟩=>?_) hs;exact d5 I1 hN hi hx r1 (λs2 I2=>⟨_,H1,I2,q1⟩) hf
noncomputable def LA(i j:Nat)(ta:TA):TS:=λD Y H=>ta Y H λvs u=>∃v w,vs=[v,w]/\D.nx ((Y.set i (some v)).set j (some w)) u
theorem EZ{y:Str}{a b:Expr}{ta:TA}{px py pt:Pos}{kt k2 pt2}(hc:X.calm=true)(hN:X.N.Nodup)(hi:X.N[i]?=some x)(hj:X.N[j]?=some y)(hij:i≠j)
  (hx:X.env.scope.names.lookup x=some .local)(hy:X.env.scope.names.lookup y=some .local)(ha:PA X [a,b] ta)
  (hw:swappedStores [.Tuple [.Name x px,.Name y py] kt pt] (.Tuple [a,b] k2 pt2) X.env=pure (some [x,y]))
  (hs:swapsWithSole [.Tuple [.Name x px,.Name y py] kt pt] (.Tuple [a,b] k2 pt2) pos.line X.env=pure false:=by rfl):
  PS X (.Assign [.Tuple [.Name x px,.Name y py] kt pt] (.Tuple [a,b] k2 pt2) pos) (LA i j ta):=by
 intro pins s Y H D I h;rw[exec_Assign_arm];refine wpAny_bind (wpAny_standAt ?_);rw[hs];refine wpAny_bind (wpAny_pure ?_);rw[if_neg (by decide)];refine wpAny_bind (Tuple_ (ba (ha _ pins s Y H _ I h) λus s1 ⟨vs,H1,I1,r1,q1⟩=>?_));obtain⟨v,w,e1,q1⟩:=q1;subst e1;obtain⟨u1,u2,rfl,rv,rw'⟩:∃u1 u2,us=[u1,u2]/\RelV v u1/\RelV w u2:=by
  cases r1 with
  |cons p q=>
   cases q with
   |cons p' q'=>cases q';exact⟨_,_,rfl,p,p'⟩
 refine wpAny_newObj_type ?_ (by show 2<=sizeLine;decide);have I2:Inv X pins Y H1 { s1 with heap:=s1.heap.push { cls:=.type "tuple",data:=.seq [u1,u2].toArray } }:=I1.kept (t':=s1.toks) λb o e=>O8 _ e;rw[hw];refine wpAny_bind (wpAny_pure ?_);show wpAny (model X.prog X.w) X.A (do rule "assign.swapped-stores";let items <- unpackItems (.ref s1.heap.objs.size) 2 none;assignInOrder [λv=>bindName X.env y v,λv=>bindName X.env x v] items.reverse;pure WH) _ _ _;refine wpAny_bind (wpAny_rule (wpAny_bind (unpackItems_tuple (items:=#[u1,u2]) (I.ok.hd hc) (IsTup.new s1.heap _) λh' hx'=>?_)));have I3:=I2.kept (h':=h') (t':=s1.toks) λb o e=>hx' b o (PD (Pj e)) e;show wpAny _ _ (assignInOrder [fun v=>bindName X.env y v,fun v=>bindName X.env x v] [u2,u1] >>= fun _=>pure WH) _ _ _;refine wpAny_bind (assignInOrder_cons (wpAny_bindName (d5 I3 hN hj (.inl hy) rw' (fun s2 I4=>?_) (.inr hy))));refine assignInOrder_cons (wpAny_bindName (d5 I4 hN hi (.inl hx) rv (fun s3 I5=>assignInOrder_nil (wpAny_pure ?_)) (.inr hx)));rw [List.set_comm _ _ (QM hij)] at I5;exact ⟨_,H1,I5,q1⟩
end
variable{body:List Stmt}{tb:TS}
section
variable {X:Cx} {pos:Pos}
def EH (c:TT) (tb:TS):TS:=fun D Y H=>∃ W:Nat → St → Hp → Prop,(∃ m,W m Y H) ∧ ∀ m Y H,W m Y H →
 c Y H fun b H1=>if b = true then ∃ N:St → Hp → Prop,(∀ Z' H',N Z' H' → ∃ f,f < m ∧ W f Z' H') ∧ tb { D with nx:=N,ct:=N,bk:=D.nx } Y H1 else D.nx Y H1
theorem xk     (hp:PassesOwn (model X.prog X.w) X.A X.env X.xe) (hc:PT X c tc) (d:p7 X body tb):PS X (.While c body [] pos) (EH tc tb):=by
 intro pins s Y H D I h;obtain⟨W,⟨T,g⟩,G⟩:=h;refine wpAny_While (codeAny_whileLoop (λn s'=>∃Z' H',Inv X pins Z' H' s'/\W n Z' H') ?_ T ⟨Y,H,I,g⟩);rintro n s1 ⟨Z,i,j,l⟩;refine wpAny_passesOwn hp (ba (hc pins s1 Z i _ j (G n Z i l)) λb s2 ⟨e,o,q⟩=>?_);cases b with
 |true=>
  obtain⟨N,z,q⟩:=q;rw[if_pos rfl];refine wpAny_passesOwn hp (ba (d pins s2 Z e _ o q) λf m L=>?_);cases f with
  |next=>obtain⟨V,F,O,P⟩:=L;obtain⟨R,hm,S⟩:=z V F P;exact⟨R,hm,V,F,O,S⟩
  |cont=>obtain⟨V,F,O,P⟩:=L;obtain⟨R,hm,S⟩:=z V F P;exact⟨R,hm,V,F,O,S⟩
  |brk=>exact L
  |ret v=>exact L
 |false=>rw[if_neg PL];exact wpAny_execs_nil ⟨Z,e,o,q⟩
end
structure It where
 go:Nat->Hp->Prop
 iP:Nat->Hp->V->Hp->Prop
 stop:Nat->Hp->Prop
def kK(X:Cx)(pins:List (Addr×Obj))(H:Hp)(b:Addr):Prop:=
 H b=none/\b≠X.env.locals/\b∉X.fs/\(b∈X.ex\/X.s₀.heap.objs.size<=b)/\(∀x c,X.env.cells.lookup x=some c->c≠b)/\∀p∈X.pn++pins,p.1≠b
theorem Inv.AK{H':Hp}(I:Inv X pins Y H s)(d:s.heap.objs.size<=b)(hn:H' b=none):kK X pins H' b:=by
 refine⟨hn,VU (O9 I.lt d),I.KY d,.inr (Px I.sz d),λx c e z=>?_,λp hp z=>?_⟩
 .obtain⟨v,q⟩:=I.cell x c e;exact absurd (O9 q.lt (by rw[z];exact d)) (Qa _)
 .exact absurd (O9 (Pj (I.pin p hp).1) (by rw[z];exact d)) (Qa _)
structure Turn(P:Program)(w:World)(K:O2)(tg:Expr)(J:It)(fp:List Addr)(it:Addr)(tn:Nat->Heap->Prop):Prop where
 mem:it∈fp
 obj:∀i h,tn i h->∀b∈fp,∃o,h.get? b=some o/\∀v,o.data≠.cell v
 keep:∀i h h',tn i h->(∀b∈fp,∀o,h.get? b=some o->h'.get? b=some o)->tn i h'
 item:∀(X:Cx),X.prog=P->X.w=w->X.K=K->X.calm=true->∀(i:Nat)(pins:List (Addr×Obj))(s:Shared)(Y:St)(H:Hp)(E:Value->Shared->Prop),Inv X pins Y H s->(∀b∈fp,kK X pins H b)->tn i s.heap->J.go i H->
  wpAny (model P w) X.A (pyNext (.ref it)) (λr s1=>∃u,r=some u /\
   wpAny (model P w) X.A (letOwnedTupleGo tg (.ref it) u) (λ_ s2=>∃x H',Inv X pins Y H' s2/\RelV x u/\J.iP i H x H'/\tn (i+1) s2.heap/\∀b∈fp,H' b=none) E s1) E s
 done:∀(X:Cx),X.prog=P->X.w=w->X.K=K->X.calm=true->∀(i:Nat)(pins:List (Addr×Obj))(s:Shared)(Y:St)(H:Hp)(E:Value->Shared->Prop),Inv X pins Y H s->(∀b∈fp,kK X pins H b)->tn i s.heap->J.stop i H->
  wpAny (model P w) X.A (pyNext (.ref it)) (λr s1=>r=none/\Inv X pins Y H s1) E s
 self:∀(A:Around)(i:Nat)(s:Shared)(Q:Value->Shared->Prop)(E:Value->Shared->Prop),tn i s.heap->Q (.ref it) s->wpAny (model P w) A (pyIter (.ref it)) Q E s
abbrev TI:=St->Hp->(It->Hp->Prop)->Prop
def Ox(X:Cx)(pins:List (Addr×Obj))(Y:St)(tg:Expr)(R:It->Hp->Prop)(H:Value)(s2:Shared):Prop:=
 ∃(it:Addr)(fp:List Addr)(tn:Nat->Heap->Prop)(J:It)(H':Hp),H=.ref it/\Inv X pins Y H' s2/\Turn X.prog X.w X.K tg J fp it tn/\tn 0 s2.heap/\(∀b∈fp,kK X pins H' b)/\R J H'
def PI(X:Cx)(tg iter:Expr)(I:TI):Prop:=
 ∀(pins:List (Addr×Obj))(s:Shared)(Y:St)(H:Hp)(R:It->Hp->Prop),Inv X pins Y H s->I Y H R->
  wpAny (model X.prog X.w) X.A (eval iter X.env) (λv s1=>wpAny (model X.prog X.w) X.A (pyIter v) (Ox X pins Y tg R) X.xe s1) X.xe s
theorem qg{M:Model}{A:Around}{n:String}{vs:Array Value}(ho:s.heap.get? it=some o)(hc:o.cls=.type n)(hd:o.data=.fields vs)
    (hn:["enumerate", "zip", "dict_itemiterator", "dict_reverseitemiterator", "odict_iterator", "itertools.zip_longest", "itertools.pairwise"].contains n=false)(X:Q () s):wpAny M A (letOwnedTupleGo tg (.ref it) u) Q E s:=by
  unfold letOwnedTupleGo;cases tg<;>first
    |exact wpAny_pure X
    | (cases u<;>first
        |exact wpAny_pure X
        | (refine wpAny_bind (wpAny_load ho ?_)
           rw[hc,hd]
           show wpAny M A (if (["enumerate", "zip", "dict_itemiterator", "dict_reverseitemiterator", "odict_iterator", "itertools.zip_longest", "itertools.pairwise"].contains n&&vs[0]?==some (rawInt _))=true then _ else _) Q E s
           rw[if_neg (by intro h;rw[hn,Tz] at h;cases h)]
           exact wpAny_pure X))
noncomputable def Ol(K:O2)(a:Addr):It:=
 ⟨λi H=>∃xs x,eX K H a xs/\xs[i]?=some x,λi H x H'=>H'=H/\∀xs,eX K H a xs->xs[i]?=some x,λi H=>∃xs,eX K H a xs/\xs.length<=i⟩
noncomputable def NU(K:O2)(a:Addr):It:=
 ⟨λi H=>∃xs x,dz K H a xs/\xs[i]?=some x,λi H x H'=>H'=H/\∀xs,dz K H a xs->xs[i]?=some x,λi H=>∃xs,dz K H a xs/\xs.length<=i⟩
noncomputable def Mc(lo:Int)(n:Nat):It:=⟨λi _=>i<n,λi H x H'=>H'=H/\x=.int (lo+i),λi _=>n<=i⟩
variable{K:O2}
theorem uU(a it:Addr):Turn P w K tg (Ol K a) [it] it (λi h=>h.IsListIter it a i) where
 mem:=by simp
 obj:=λi h st b N=>by
  have e:b=it:=by simpa using N
  subst e;obtain⟨o,e,c,d⟩:=st;exact⟨o,e,λv z=>by rw[d] at z;cases z⟩
 keep:=λi h h' st k=>st.at λo e=>k it (by simp) o e
 item:=by intro X C G J hc i pins s Y H E I hf st Q;subst C G J;obtain⟨xs,x,B,L⟩:=Q;obtain⟨O,rv,p,hz⟩:=I.list B;obtain⟨u,f,g⟩:=rv.get L;obtain⟨R,S,l,T,U,V⟩:=hf it (by simp);refine wpAny_pyNext_list_item st p.isList (x:=u) (by simpa using f) λh' A sb=>?_;have j:Inv X pins Y H { s with heap:=h' }:=I.turned (t':=s.toks) (λb o N e=>(sb.2 b N).trans e) R S T U V;obtain⟨o,e,c,d⟩:=id A;exact⟨u,rfl,qg (s:={ s with heap:=h' }) e c d (by decide) ⟨x,H,j,g,⟨rfl,λys m=>by rw[I.qu m B];exact L⟩,A,λb N=>(hf b N).1⟩⟩
 done:=by intro X C G J hc i pins s Y H E I hf st Q;subst C G J;obtain⟨xs,B,L⟩:=Q;obtain⟨O,rv,p,hz⟩:=I.list B;obtain⟨R,S,l,T,U,V⟩:=hf it (by simp);have hl:=rv.length;exact wpAny_pyNext_list_end (I.ok.hd hc) st p.isList (by simp;omega) λh' eb=>⟨rfl,I.turned (t':=s.toks) (λb o N e=>eb b o N e) R S T U V⟩
 self:=λ_ _ _ _ _ st h=>wpAny_pyIter_listiter st h
theorem qN(a it:Addr):Turn P w K tg (NU K a) [it] it (λi h=>h.IsTupleIter it a i) where
 mem:=by simp
 obj:=λi h st b N=>by
  have e:b=it:=by simpa using N
  subst e;obtain⟨o,e,c,d⟩:=st;exact⟨o,e,λv z=>by rw[d] at z;cases z⟩
 keep:=λi h h' st k=>st.at λo e=>k it (by simp) o e
 item:=by intro X C G J hc i pins s Y H E I hf st Q;subst C G J;obtain⟨xs,x,B,L⟩:=Q;obtain⟨O,rv,p,hz⟩:=I.tuple B;obtain⟨u,f,g⟩:=rv.get L;obtain⟨R,S,l,T,U,V⟩:=hf it (by simp);refine wpAny_pyNext_tuple_item st (show s.heap.IsTuple a O.toArray from p) (x:=u) (by simpa using f) λh' A sb=>?_;have j:Inv X pins Y H { s with heap:=h' }:=I.turned (t':=s.toks) (λb o N e=>(sb.2 b N).trans e) R S T U V;obtain⟨o,e,c,d⟩:=id A;exact⟨u,rfl,qg (s:={ s with heap:=h' }) e c d (by decide) ⟨x,H,j,g,⟨rfl,λys m=>by rw[I.mG m B];exact L⟩,A,λb N=>(hf b N).1⟩⟩
 done:=by intro X C G J hc i pins s Y H E I hf st Q;subst C G J;obtain⟨xs,B,L⟩:=Q;obtain⟨O,rv,p,hz⟩:=I.tuple B;obtain⟨R,S,l,T,U,V⟩:=hf it (by simp);have hl:=rv.length;exact wpAny_pyNext_tuple_end (I.ok.hd hc) st (show s.heap.IsTuple a O.toArray from p) (by simp;omega) λh' eb=>⟨rfl,I.turned (t':=s.toks) (λb o N e=>eb b o N e) R S T U V⟩
 self:=λ_ _ _ _ _ st h=>wpAny_pyIter_tupleiter st h
theorem rE(it:Addr)(lo:Int)(n:Nat):Turn P w K tg (Mc lo n) [it] it (λi h=>IsRangeIter h it (lo+(i:Nat)*1) ((n:Int)-(i:Nat)) 1) where
 mem:=by simp
 obj:=λi h st b d=>by
  have e:b=it:=by simpa using d
  subst e;exact⟨_,st,λv z=>by have c:Data.fields _=Data.cell v:=z;cases c⟩
 keep:=λi h h' st k=>k it (by simp) _ st
 item:=by intro X C G J hc i pins s Y H E I hf st Q;subst C G J;obtain⟨R,S,l,T,U,V⟩:=hf it (by simp);have W:=Walks.range (prog:=X.prog) (w:=X.w) (I.ok.hd hc) it lo 1 n;refine W.item i s _ _ Q st λv h' tk B A p=>?_;obtain⟨t,rfl⟩:=B;have j:Inv X pins Y H { s with heap:=h',toks:=tk }:=I.turned (λb o d e=>p b o (by simpa using d) e) R S T U V;refine⟨_,rfl,qg (s:={ s with heap:=h',toks:=tk }) (n:= "range_iterator") A rfl rfl (by decide) ⟨.int (lo+i),H,j,⟨t,?_⟩,⟨rfl,rfl⟩,A,λb d=>(hf b d).1⟩⟩;rw[Int.mul_one]
 done:=by intro X C G J hc i pins s Y H E I hf st Q;subst C G J;obtain⟨R,S,l,T,U,V⟩:=hf it (by simp);exact wpAny_pyNext_range_end (I.ok.hd hc) st (by have:n<=i:=Q;omega) λh' eb=>⟨rfl,I.turned (t':=s.toks) (λb o d e=>eb b o d e) R S T U V⟩
 self:=λ_ _ _ _ _ st h=>wpAny_pyIter_rangeiter st h
variable{fp:List Addr}
section
variable{X:Cx}{tg:Expr}
theorem yF{R:It->Hp->Prop}{lo hi:Int}{t u v:Tok}{tk:Nat}(I:Inv X pins Y H s)(h1:-(2^62)<=lo)(h2:lo<2^62)(h3:-(2^62)<=hi)(h4:hi<2^62)
  (q:R (Mc lo (hi-lo).toNat) H):wpAny (model X.prog X.w) X.A (pyIter (.ref s.heap.objs.size)) (Ox X pins Y tg R) E { s with heap:=s.heap.push { cls:=.type "range",data:=.fields #[.int lo t,.int hi u,.int 1 v] },toks:=tk }:=by
 refine wpAny_pyIter_range (IsRange.new ..) (small_one h1 h2 h3 h4) ?_;have j:Inv X pins Y H { s with heap:=s.heap.push { cls:=.type "range",data:=.fields #[.int lo t,.int hi u,.int 1 v] },toks:=tk }:=I.kept λb o e=>O8 _ e;refine⟨(s.heap.push { cls:=.type "range",data:=.fields #[.int lo t,.int hi u,.int 1 v] }).objs.size,[(s.heap.push { cls:=.type "range",data:=.fields #[.int lo t,.int hi u,.int 1 v] }).objs.size],_,_,H,rfl,
  j.kept (t':=tk) λb o e=>O8 _ e,rE _ lo (hi-lo).toNat,?_,λb d=>?_,q⟩
 .have J:lo+((0:Nat):Int)*1=lo:=by simp
  have l:(((hi-lo).toNat:Nat):Int)-((0:Nat):Int)=VV lo hi 1:=by rw[rangeSize_one];split<;>omega
  show IsRangeIter _ _ (lo+((0:Nat):Int)*1) ((((hi-lo).toNat:Nat):Int)-((0:Nat):Int)) 1;rw[J,l];exact Pu _ rfl
 .have e:b=(s.heap.push { cls:=.type "range",data:=.fields #[.int lo t,.int hi u,.int 1 v] }).objs.size:=by simpa using d
  subst e;exact j.AK (Pf _) (j.hok.fresh (Pf _))
def JL(ta:TA):TI:=λY H R=>ta Y H λvs i=>∃j:Int,vs=[.int j] /\ -(2^62)<=j/\j<2^62/\R (Mc 0 j.toNat) i
theorem vq{a:Expr}{ta:TA}{p:Pos}(hg:Gl X "range")(hm:X.mg "range" = none)(ha:PA X [a] ta)(hs:starEach [a] X.env=[(false,eval a X.env)]:=by rfl):PI X tg (.Call (.Name "range" p) [a] [] pos) (JL ta):=by
 intro pins s Y H R I h;refine Call_ (m5 I hg hm boot_range (Sv (ba (ha pos pins s Y H _ I h) λus s1 ⟨vs,H1,I1,r1,q1⟩=>?_) hs rfl));obtain⟨j,e,q1,q2,q⟩:=q1;subst e;cases r1 with
 |cons r rr=>cases rr;obtain⟨t,rfl⟩:=r;exact call_range_1 (yF I1 (by omega) (by omega) q1 q2 (by simpa using q))
def Nj(I:TI)(g:TG)(tb:TS):TS:=λD Y H=>I Y H λJ u=>∃W:Nat->Nat->St->Hp->Prop,(∃m,W 0 m Y u)/\∀i m Y H,W i m Y H->
 (J.stop i H/\D.nx Y H)\/(J.go i H/\∃N:St->Hp->Prop,(∀Z' H',N Z' H'->∃f,f<m/\W (i+1) f Z' H')/\∀x H',J.iP i H x H'->g x Y H' λT e=>tb { D with nx:=N,ct:=N,bk:=D.nx } T e)
noncomputable def kQ(fp:List Addr)(h:Heap):List (Addr×Obj):=fp.filterMap λb=>(h.get? b).map λo=>(b,o)
theorem eD(d:b∈fp)(e:h.get? b=some o):(b,o)∈kQ fp h:=SI.mpr ⟨b,d,by rw[e];rfl⟩
theorem uP{p:Addr×Obj}(hp:p∈kQ fp h):p.1∈fp/\h.get? p.1=some p.2:=by
 obtain⟨b,d,e⟩:=SI.mp hp;cases q:h.get? b with
 |none=>rw[q] at e;cases e
 |some o=>rw[q] at e;have e':(b,o)=p:=Pn e;subst e';exact⟨d,q⟩
theorem Inv.pinned(I:Inv X pins Y H s)(hf:∀b∈fp,kK X pins H b)(ho:∀b∈fp,∃o,s.heap.get? b=some o/\∀v,o.data≠.cell v):Inv X (pins++kQ fp s.heap) Y H s:=
 I.oK λp hp=>(Pe.mp hp).elim (λz=>I.pin p (Pb _ z)) λz=>by obtain⟨K,e⟩:=uP z;obtain⟨R,S,l,_⟩:=hf p.1 K;obtain⟨o,e',d⟩:=ho p.1 K;rw[e] at e';cases e';exact⟨e,R,S,l,d⟩
theorem Inv.cO{v:List (Addr×Obj)}(I:Inv X (pins++v) Y H s):Inv X pins Y H s:=I.oK λp hp=>I.pin p (Pb _ (Ph _ hp))
theorem Iz{iter:Expr}{wi:TI}{g:TG}(hp:PassesOwn (model X.prog X.w) X.A X.env X.xe)(hc:X.calm=true)(hi:PI X tg iter wi)(hg:PG X tg g)(hb:p7 X body tb)
  (hs:∀x,foldedSetIterable iter X.env x=pure x:=by intro _;rfl):PS X (.For tg iter body [] pos) (Nj wi g tb):=by
 intro pins s Y H D I h;refine wpAny_For (ba (hi pins s Y H _ I h) λv s1 h1=>ba h1 λitv s2 h2=>?_) hs;obtain⟨it,fp,tn,J,H2,e,I2,T,st2,f2,W,⟨m0,w0⟩,turn⟩:=h2;subst e;have stat:∀{H':Hp},(∀b∈fp,H' b=none)->∀b∈fp,kK X pins H' b:=λhn b hb=>⟨hn b hb,(f2 b hb).2⟩
 refine codeAny_forLoop_any (λn s'=>∃i Z' H',Inv X pins Z' H' s'/\tn i s'.heap/\(∀b∈fp,H' b=none)/\W i n Z' H') ?_ m0 ⟨0,Y,H2,I2,st2,λb hb=>(f2 b hb).1,w0⟩;rintro n s3 ⟨i,V,H3,I3,st3,fr3,w3⟩;rcases turn i n V H3 w3 with ⟨stop,qn⟩|⟨go,N,hN,step⟩
 .refine wpAny_passesOwn hp (ba (T.done X rfl rfl rfl hc i pins s3 V H3 X.xe I3 (stat fr3) st3 stop) λr s4 ⟨hr,I4⟩=>?_);subst hr;exact wpAny_execs_nil ⟨V,H3,I4,qn⟩
 .refine wpAny_passesOwn hp (ba (T.item X rfl rfl rfl hc i pins s3 V H3 X.xe I3 (stat fr3) st3 go) λr s4 ⟨u,hr,h4⟩=>?_);subst hr;refine wpAny_passesOwn hp (ba h4 λ_ s5 ⟨x,H5,I5,r5,y5,st5,fr5⟩=>?_);have I5':=I5.pinned (stat fr5) (T.obj _ _ st5);refine wpAny_passesOwn hp (ba (hg _ s5 V H5 x u _ I5' r5 (step x H5 y5)) λ_ s6 ⟨Z,H6,I6,q6⟩=>?_);refine wpAny_passesOwn hp (ba (hb _ s6 Z H6 _ I6 q6) λf s7 q7=>?_);have again:∀{U:St}{H7:Hp},Inv X (pins++kQ fp s5.heap) U H7 s7->N U H7->∃m,m<n/\∃i Z' H',Inv X pins Z' H' s7/\tn i s7.heap/\(∀b∈fp,H' b=none)/\W i m Z' H':=λ{U H7} I7 n7=>by obtain⟨m',hm,w7⟩:=hN U H7 n7;refine⟨m',hm,i+1,U,H7,I7.cO,T.keep _ _ _ st5 λb hb o e=>(I7.pin (b,o) (Pb _ (Pb _ (eD hb e)))).1,λb hb=>?_,w7⟩;obtain⟨o,e,d⟩:=T.obj _ _ st5 b hb;exact(I7.pin (b,o) (Pb _ (Pb _ (eD hb e)))).2.1
  cases f with
  |next=>obtain⟨U,H7,I7,n7⟩:=q7;exact again I7 n7
  |cont=>obtain⟨U,H7,I7,n7⟩:=q7;exact again I7 n7
  |brk=>obtain⟨U,H7,I7,q7⟩:=q7;exact⟨U,H7,I7.cO,q7⟩
  |ret v=>obtain⟨x7,U,H7,I7,r7,q7⟩:=q7;exact⟨x7,U,H7,I7.cO,r7,q7⟩
end
abbrev R2:=V->V->Hp->VK->Prop
def cP(X:Cx)(f:Value->Value->Sem Value)(r:R2):Prop:=
 ∀(pins:List (Addr×Obj))(s:Shared)(Y:St)(H:Hp)(x y:V)(v u:Value)(Q:VK),Inv X pins Y H s->RelV x v->RelV y u->r x y H Q->
  wpAny (model X.prog X.w) X.A (f v u) (EP X pins Y Q) X.xe s
def ME(X:Cx)(f:Value->Sem Value)(r:V->Hp->VK->Prop):Prop:=
 ∀(pins:List (Addr×Obj))(s:Shared)(Y:St)(H:Hp)(x:V)(v:Value)(Q:VK),Inv X pins Y H s->RelV x v->r x H Q->
  wpAny (model X.prog X.w) X.A (f v) (EP X pins Y Q) X.xe s
def bE(X:Cx)(f:Value)(r:List V->Hp->VK->Prop):Prop:=
 ∀(pins:List (Addr×Obj))(s:Shared)(Y:St)(H:Hp)(xs:List V)(us:List Value)(Q:VK),Inv X pins Y H s->Vals xs us->r xs H Q->
  wpAny (model X.prog X.w) X.A (call f us) (EP X pins Y Q) X.xe s
noncomputable def Ln(r:R2)(ta tb:TE):TE:=λY H Q=>ta Y H λx i=>tb Y i λy e=>r x y e Q
noncomputable def OY(r:V->Hp->VK->Prop)(ta:TE):TE:=λY H Q=>ta Y H λx i=>r x i Q
noncomputable def rI(C:Int->Int->Prop)(g:Int->Int->V):R2:=λx y H Q=>∃i j,x=.int i/\y=.int j/\C i j/\Q (g i j) H
noncomputable def oN(g:Int->Int->V):R2:=λx y H Q=>∃i j,x=.int i/\y=.int j/\Q (g i j) H
def rU(g:Int->V):V->Hp->VK->Prop:=λx H Q=>∃i,x=.int i/\Q (g i) H
variable{f:Value->Value->Sem Value}{r:R2}
section
variable{X:Cx}{a b c:Expr}{ta tb tc:TE}{pos:Pos}
theorem FQ(ha:PE X a ta)(d:PE X b tb)(I:Inv X pins Y H s)
  (h:ta Y H λx i=>tb Y i λy e=>R x y e){Q:Value->Shared->Prop}
  (hf:∀v u s2 x y e,Inv X pins Y e s2->RelV x v->RelV y u->R x y e->wpAny (model X.prog X.w) X.A (f v u) Q X.xe s2):
  wpAny (model X.prog X.w) X.A (eval a X.env) (λv Z=>wpAny (model X.prog X.w) X.A (eval b X.env) (λu U=>wpAny (model X.prog X.w) X.A (f v u) Q X.xe U) X.xe Z) X.xe s:=by
 refine ba (ha pins s Y H _ I h) λv s1 ⟨x,i,j,k,n⟩=>?_;refine ba (d pins s1 Y i _ j n) λu s2 ⟨y,e,o,p,q⟩=>?_;exact hf v u s2 x y e o k p q
theorem J1{op:Operator}(ho:cP X (binaryOp op) r)(ha:PE X a ta)(d:PE X b tb):PE X (.BinOp a op b pos) (Ln r ta tb):=by intro pins s Y H Q I h;exact wpAny_BinOp (FQ ha d I h λv u s2 x y e o E P q=>ho pins s2 Y e x y v u Q o E P q)
theorem Kr{op:UnaryOp}{r:V->Hp->VK->Prop}(ho:ME X (unaryOp op) r)(ha:PE X a ta):PE X (.UnaryOp op a pos) (OY r ta):=by intro pins s Y H Q I h;exact UnaryOp_ (ba (ha pins s Y H _ I h) λv s1 ⟨x,i,j,k,n⟩=>ho pins s1 Y i x v Q j k n)
theorem kA{C:Int->Int->Prop}{g:Int->Int->Int}
  (rule:∀(i j:Int)(t u:Tok)(s:Shared)(Q:Value->Shared->Prop)(E:Value->Shared->Prop),C i j->Q (.int (g i j) s.toks) { s with toks:=s.toks+1 }->wpAny (model X.prog X.w) X.A (f (.int i t) (.int j u)) Q E s):
  cP X f (rI C λi j=>.int (g i j)):=by
 intro pins s Y H x y v u Q I a P h;obtain⟨i,j,rfl,rfl,hc,q⟩:=h;obtain⟨t,rfl⟩:=a;obtain⟨t',rfl⟩:=P;exact rule i j t t' s _ _ hc ⟨.int (g i j),H,I.tok _,⟨_,rfl⟩,q⟩
theorem K8{g:Int->Int->Int}
  (rule:∀(i j:Int)(t u:Tok)(s:Shared)(Q:Value->Shared->Prop)(E:Value->Shared->Prop),Q (.int (g i j) s.toks) { s with toks:=s.toks+1 }->wpAny (model X.prog X.w) X.A (f (.int i t) (.int j u)) Q E s):
  cP X f (oN λi j=>.int (g i j)):=by
 intro pins s Y H x y v u Q I a P h;obtain⟨i,j,rfl,rfl,q⟩:=h;obtain⟨t,rfl⟩:=a;obtain⟨t',rfl⟩:=P;exact rule i j t t' s _ _ ⟨.int (g i j),H,I.tok _,⟨_,rfl⟩,q⟩
theorem AY{g:Int->Int->Bool}
  (rule:∀(i j:Int)(t u:Tok)(s:Shared)(Q:Value->Shared->Prop)(E:Value->Shared->Prop),Q (.bool (g i j)) s->wpAny (model X.prog X.w) X.A (f (.int i t) (.int j u)) Q E s):
  cP X f (oN λi j=>.bl (g i j)):=by
 intro pins s Y H x y v u Q I a P h;obtain⟨i,j,rfl,rfl,q⟩:=h;obtain⟨t,rfl⟩:=a;obtain⟨t',rfl⟩:=P;exact rule i j t t' s _ _ ⟨.bl (g i j),H,I,rfl,q⟩
def KH(i j:Int):Prop:=0<=j/\j<=1000000/\i.natAbs<2^64
theorem E2:cP X (binaryOp .Add) (oN λi j=>.int (i+j)):=K8 λ_ _ _ _ _ _ _ q=>add_int q
theorem Hv:cP X (binaryOp .Sub) (oN λi j=>.int (i-j)):=K8 λ_ _ _ _ _ _ _ q=>sub_int q
theorem AV:cP X (binaryOp .Mod) (rI (λ_ j=>j≠0) λi j=>.int (i.fmod j)):=kA λ_ _ _ _ _ _ _ hc q=>mod_int' hc q
theorem Ht:cP X (binaryOp .Pow) (rI KH λi j=>.int (i^j.toNat)):=kA λ_ _ _ _ _ _ _ hc q=>pow_int_small hc.1 hc.2.1 hc.2.2 q
theorem OV{f:Value->Sem Value}{g:Int->Int}
  (rule:∀(i:Int)(t:Tok)(s:Shared)(Q:Value->Shared->Prop)(E:Value->Shared->Prop),Q (.int (g i) s.toks) { s with toks:=s.toks+1 }->wpAny (model X.prog X.w) X.A (f (.int i t)) Q E s):
  ME X f (rU λi=>.int (g i)):=by
 intro pins s Y H x v Q I a h;obtain⟨i,rfl,q⟩:=h;obtain⟨t,rfl⟩:=a;exact rule i t s _ _ ⟨.int (g i),H,I.tok _,⟨_,rfl⟩,q⟩
theorem F2:ME X (unaryOp .USub) (rU λi=>.int (-i)):=OV λ_ _ _ _ _ q=>neg_int q
end
variable{op':CmpOp}{r':R2}{us:List Value}
section
variable{X:Cx}{a b c:Expr}{ta tb tc:TE}{pos:Pos}
theorem n5{Q:VK}{k c:Bool}(I:Inv X pins Y H s)(q:Q (.bl k) H)(e:k=c):EP X pins Y Q (.bool c) s:=by subst e;exact⟨.bl k,H,I,rfl,q⟩
theorem sI:cP X (compareOp .Lt) (oN λi j=>.bl (decide (i<j))):=AY λ_ _ _ _ _ _ _ q=>lt_int q
theorem uj:cP X (compareOp .LtE) (oN λi j=>.bl (decide (i<=j))):=AY λ_ _ _ _ _ _ _ q=>le_int q
theorem xR:cP X (compareOp .Gt) (oN λi j=>.bl (decide (j<i))):=AY λ_ _ _ _ _ _ _ q=>gt_int q
theorem wK:cP X (compareOp .GtE) (oN λi j=>.bl (decide (j<=i))):=AY λ_ _ _ _ _ _ _ q=>ge_int q
theorem lQ:cP X (compareOp .In) (λx y H Q=>∃i j,x=.str i/\y=.str j/\Q (.bl (!(QI j i 0 j.length 1).isEmpty)) H):=by intro pins s Y H x y v u Q I a P h;obtain⟨i,j,rfl,rfl,q⟩:=h;obtain⟨t,rfl⟩:=a;obtain⟨t',rfl⟩:=P;exact in_str (n5 I q rfl)
theorem xx:cP X (compareOp .Is) (λx y H Q=>y=.non/\Q (.bl (decide (x=.non))) H):=by
 intro pins s Y H x y v u Q I a P h;obtain⟨rfl,q⟩:=h;cases P;refine is_none_gen (n5 I q ?_);cases x<;>first
  |(cases a;rfl)
  |(obtain⟨t,rfl⟩:=a;rfl)
theorem sP:cP X (compareOp .IsNot) (λx y H Q=>y=.non/\Q (.bl (!decide (x=.non))) H):=by
 intro pins s Y H x y v u Q I a P h;obtain⟨rfl,q⟩:=h;cases P;refine isnot_none_gen (n5 I q ?_);cases x<;>first
  |(cases a;rfl)
  |(obtain⟨t,rfl⟩:=a;rfl)
theorem iG:cP X (compareOp .NotIn) (λx y H Q=>∃i j,x=.str i/\y=.str j/\Q (.bl (!(!(QI j i 0 j.length 1).isEmpty))) H):=by intro pins s Y H x y v u Q I a P h;obtain⟨i,j,rfl,rfl,q⟩:=h;obtain⟨t,rfl⟩:=a;obtain⟨t',rfl⟩:=P;exact notIn_str (n5 I q rfl)
theorem bW(b:Expr)(h:op≠.In:=by decide)(h2:op≠.NotIn:=by decide):behindInMarks op b=false:=by
 have e1:(op==CmpOp.In)=false:=by cases op<;>first|rfl|exact absurd rfl h
 have e2:(op==CmpOp.NotIn)=false:=by cases op<;>first|rfl|exact absurd rfl h2
 cases b<;>simp[behindInMarks,e1,e2]
theorem Dd(ho:cP X (compareOp op) r)(ha:PE X a ta)(d:PE X b tb)(hm:behindInMarks op b=false):PE X (.Compare a [op] [b] pos) (Ln r ta tb):=by intro pins s Y H Q I h;exact wpAny_Compare1 (FQ ha d I h λv u s2 x y e o E P q=>ho pins s2 Y e x y v u Q o E P q) hm
noncomputable def Ec(t:TE):TT:=λY H Q=>t Y H λx H'=>∃k,x=.bl k/\Q k H'
theorem CY(ho:cP X (compareOp op) r)(ha:PE X a ta)(d:PE X b tb)(hm:behindInMarks op b=false):PT X (.Compare a [op] [b] pos) (Ec (Ln r ta tb)):=by
 intro pins s Y H Q I h;refine wpAny_isTrue_Compare1 (ba (ha pins s Y H _ I h) λv s1 ⟨x,i,j,w,n⟩=>ba (d pins s1 Y i _ j n) λu s2 ⟨y,D,o,p,q⟩=>ba (ho pins s2 Y D x y v u _ o w p q) λc m ⟨z,F,O,K,k,e,L⟩=>?_) hm
 subst e;cases K;exact wpAny_truthy_bool ⟨F,O,L⟩
noncomputable def rQ(r r':R2)(ta tb tc:TE):TE:=λY H Q=>ta Y H λx i=>tb Y i λy e=>r x y e λz F=>∃k,z=.bl k /\
 (if k=true then tc Y F λs X=>r' y s X Q else Q (.bl false) F)
theorem zP(ho:cP X (compareOp op) r)(ho':cP X (compareOp op') r')(ha:PE X a ta)(hb:PE X b tb)(hc:PE X c tc)
  (hm:lastMarks [op,op'] [b,c]=false:=by with_unfolding_all rfl):PE X (.Compare a [op,op'] [b,c] pos) (rQ r r' ta tb tc):=by
 intro pins s Y H Q I h;refine Compare_chain (ba (ha pins s Y H _ I h) λv s1 ⟨x,H1,I1,r1,q1⟩=>chain_link (ba (hb pins s1 Y H1 _ I1 q1) λu s2 ⟨y,H2,I2,r2,q2⟩=>ba (ho pins s2 Y H2 x y v u _ I2 r1 r2 q2) λd s3 ⟨z,H3,I3,r3,k,e,q3⟩=>?_)) hm
 subst e;cases r3;refine wpAny_truthy_bool ?_;cases k with
 |false=>exact ite_ff ⟨.bl false,H3,I3,rfl,q3⟩
 |true=>exact ite_tt (chain_last (ba (hc pins s3 Y H3 _ I3 q3) λw' s4 ⟨z',H4,I4,r4,q4⟩=>ho' pins s4 Y H4 y z' u w' Q I4 r2 r4 q4))
theorem z5(ho:cP X (compareOp op) r)(ho':cP X (compareOp op') r')(ha:PE X a ta)(hb:PE X b tb)(hc:PE X c tc)
  (hm:lastMarks [op,op'] [b,c]=false:=by with_unfolding_all rfl):PT X (.Compare a [op,op'] [b,c] pos) (Ec (rQ r r' ta tb tc)):=by
 intro pins s Y H Q I h;refine isTrue_chain (ba (ha pins s Y H _ I h) λv s1 ⟨x,H1,I1,r1,q1⟩=>test_link (ba (hb pins s1 Y H1 _ I1 q1) λu s2 ⟨y,H2,I2,r2,q2⟩=>ba (ho pins s2 Y H2 x y v u _ I2 r1 r2 q2) λd s3 ⟨z,H3,I3,r3,k,e,q3⟩=>?_)) hm
 subst e;cases r3;refine wpAny_truthy_bool ?_;cases k with
 |false=>obtain⟨k',e',q'⟩:=q3;cases e';exact ite_ff ⟨H3,I3,q'⟩
 |true=>refine ite_tt (test_last (ba (hc pins s3 Y H3 _ I3 q3) λw' s4 ⟨z',H4,I4,r4,q4⟩=>ba (ho' pins s4 Y H4 y z' u w' _ I4 r2 r4 q4) λd' s5 ⟨z2,H5,I5,r5,k2,e2,q5⟩=>?_));subst e2;cases r5;exact wpAny_truthy_bool ⟨H5,I5,q5⟩
theorem kO:(sizeLine:Nat)<2^63:=by rw[sizeLine_eq];decide
theorem rT:cP X (binaryOp .Add) (λx y H Q=>∃i j,x=.str i/\y=.str j/\i.length+j.length<=sizeLine/\Q (.str (i++j)) H):=by intro pins s Y H x y v u Q I a P h;obtain⟨i,j,rfl,rfl,hz,q⟩:=h;obtain⟨t,rfl⟩:=a;obtain⟨t',rfl⟩:=P;exact add_str (λt' tk=>⟨.str (i++j),H,I.tok _,⟨_,rfl⟩,q⟩) hz
theorem vals1{x:V}(r:Vals [x] us):∃u,us=[u]/\RelV x u:=by
 cases r with
 |cons k p=>cases p;exact⟨_,rfl,k⟩
theorem vals2{x:V}(r:Vals [x,y] us):∃u s,us=[u,s]/\RelV x u/\RelV y s:=by
 cases r with
 |cons k p=>
  cases p with
  |cons K Y=>cases Y;exact⟨_,_,rfl,k,K⟩
theorem zQ:bE X (.builtin "abs") (λxs H Q=>∃i,xs=[.int i]/\Q (.int (if i<0 then -i else i)) H):=by intro pins s Y H xs us Q I r h;obtain⟨i,rfl,q⟩:=h;obtain⟨u,rfl,t,rfl⟩:=vals1 r;exact call_abs_int λu tk=>⟨.int (if i<0 then -i else i),H,I.tok _,⟨_,rfl⟩,q⟩
theorem vz(hc:X.calm=true):bE X (.builtin "max") (λxs H Q=>∃i j,xs=[.int i,.int j]/\Q (.int (if j > i then j else i)) H):=by
 intro pins s Y H xs us Q I r h;obtain⟨i,j,rfl,q⟩:=h;obtain⟨u,y,rfl,⟨t,rfl⟩,⟨t',rfl⟩⟩:=vals2 r;refine max_two_ints (I.ok.hd hc) λh' tk k=>⟨_,H,I.kept k,?_,q⟩
 by_cases v:j > i
 .rw[if_pos v,if_pos v];exact⟨_,rfl⟩
 .rw[if_neg v,if_neg v];exact⟨_,rfl⟩
theorem vh(hc:X.calm=true):bE X (.builtin "min") (λxs H Q=>∃i j,xs=[.int i,.int j]/\Q (.int (if j<i then j else i)) H):=by
 intro pins s Y H xs us Q I r h;obtain⟨i,j,rfl,q⟩:=h;obtain⟨u,y,rfl,⟨t,rfl⟩,⟨t',rfl⟩⟩:=vals2 r;refine min_two_ints (I.ok.hd hc) λh' tk k=>⟨_,H,I.kept k,?_,q⟩
 by_cases v:j<i
 .rw[if_pos v,if_pos v];exact⟨_,rfl⟩
 .rw[if_neg v,if_neg v];exact⟨_,rfl⟩
theorem uR:bE X (.type "int") (λxs H Q=>(∃i,xs=[.int i]/\Q (.int i) H)\/∃k,xs=[.bl k]/\Q (.int (if k then 1 else 0)) H):=by
 intro pins s Y H xs us Q I r h;rcases h with ⟨i,rfl,q⟩|⟨k,rfl,q⟩
 .obtain⟨u,rfl,t,rfl⟩:=vals1 r;exact call_int_int ⟨.int i,H,I,⟨_,rfl⟩,q⟩
 .obtain⟨u,rfl,w⟩:=vals1 r;cases w;exact call_int_bool ⟨.int (if k then 1 else 0),H,I.tok _,⟨_,rfl⟩,q⟩
def Jl(K:O2)(x:V)(H:Hp)(n:Nat):Prop:=
 match x with
 | .str y=>y.length<=sizeLine/\n=y.length
 | .byt y=>y.size<=sizeLine/\n=y.size
 | .ref p=>(∃xs,eX K H p xs/\n=xs.length)\/∃xs,dz K H p xs/\n=xs.length
 |_=>False
theorem zv:bE X (.builtin "len") (λxs H Q=>∃x n,xs=[x]/\Jl X.K x H n/\Q (.int n) H):=by
 intro pins s Y H xs us Q I r h;obtain⟨x,n,rfl,e,q⟩:=h;obtain⟨u,rfl,a⟩:=vals1 r;have hl:=kO;have N:sizeLine=16777216:=sizeLine_eq;cases x with
 |str y=>obtain⟨t,rfl⟩:=a;obtain⟨m,e'⟩:y.length<=sizeLine/\n=y.length:=e;subst e';exact len_str (by omega) ⟨.int _,H,I.tok _,⟨_,rfl⟩,q⟩
 |byt y=>obtain⟨t,rfl⟩:=a;obtain⟨m,e'⟩:y.size<=sizeLine/\n=y.size:=e;subst e';exact PySem.W.len_bytes (by omega) ⟨.int _,H,I.tok _,⟨_,rfl⟩,q⟩
 |ref p=>
  cases a;have e':(∃xs,eX X.K H p xs/\n=xs.length)\/∃xs,dz X.K H p xs/\n=xs.length:=e;rcases e' with ⟨xs,L,e'⟩|⟨xs,L,e'⟩
  .subst e';obtain⟨b,r',v,hz⟩:=I.list L;have z:=r'.length;exact Calls.call_len_list v.isList (by simp only[O4];omega) ⟨.int xs.length,H,I.tok _,⟨_,by simp only[O4];rw[z]⟩,q⟩
  .subst e';obtain⟨b,r',v,hz⟩:=I.tuple L;have z:=r'.length;exact len_tuple v (by simp only[O4];omega) ⟨.int xs.length,H,I.tok _,⟨_,by simp only[O4];rw[z]⟩,q⟩
 |_=>exact(show False from e).elim
end
structure Hz(h:Heap)(x dx C:Addr)(mA:Str->Option Value):Prop where
 obj:h.get? x=some (SW C dx)
 ns:h.Ns1 dx mA
 ne:dx≠x
variable{dx:Addr}{mA:Str->Option Value}
theorem uJ(n:h.Ns1 dx mA):∃od,h.get? dx=some od/\∀name,S8 name od=some (mA name):=by
 obtain⟨o,es,ep,ho,hd,hk,_,hm⟩:=n;refine⟨o,ho,λname=>?_⟩;have e:=hm name;unfold nsFind findBy at e;rw[<-Array.find?_toList] at e;unfold S8;rw[hd];dsimp only;split
 .rename_i y q;rw[q] at e;exact congrArg some e
 .rename_i q;rw[q] at e;have a:es.toList.any (·.refKey)=false:=by rw[RP];intro y m;obtain⟨z,t,Y⟩:=hk y (Array.mem_toList_iff.mp m);simp[DictEntry.refKey,Y]
  have a':¬ es.toList.any (·.refKey)=true:=by rw[a];exact PL
  rw[if_neg a'];exact congrArg some e
variable{C:Addr}
theorem Hz.look{x:Addr}(I:Hz h x dx C mA):∃od,PySem.W.InstAt h x (SW C dx) C (some od)/\∀name,S8 name od=some (mA name):=
 let ⟨od,ho,hl⟩:=uJ I.ns
 ⟨od,⟨I.obj,rfl,rfl,ho⟩,hl⟩
theorem iZ.some_of{o:Option Value}(r:iZ (some v) o):∃u,o=some u/\RelV v u:=by
 cases o with
 |none=>exact(show False from r).elim
 |some u=>exact⟨u,rfl,r⟩
section
variable{P:Program}{w:World}{H H':Hp}{h h':Heap}{a C dx:Addr}{fs fs':List (Str×V)}
theorem Bl(hok:gb P w H h)(e:H a=some (.ins C dx fs)):∃mA,Hz h a dx C mA/\(∀f,iZ (fs.lookup f) (mA f))/\VE mA (fs.map (·.1))/\fs.length<=1000/\H dx=some (.own a):=by
 obtain⟨d,z,ne,ob,mA,n,r,q⟩:=(show aL P w H h a (.ins C dx fs) from hok a _ e)
 exact⟨mA,⟨ob,n,ne⟩,r,q,z,d⟩
end
structure F4(K:O2)(C:Addr):Prop where
 pg:SN K C Str.empty=true
 hd:UB K C=true
 po:UC K C=true
 sa:Qo K (.ref C) "__setattr__" = some (some (.builtin "object.__setattr__"))
theorem F4.get(c:F4 K C)(f:Str):SN K C f=true:=c.pg
def Ik(K:O2)(C:Addr)(f:Str):Prop:=Qo K (.ref C) f=some none
structure Meth(K:O2)(C:Addr)(m:Str)(f:Addr):Prop where
 at_:Qo K (.ref C) m=some (some (.ref f))
 fn:TJ K (.ref f)=true
 kp:Qf K (.ref f)=true
section
variable{X:Cx}{pins:List (Addr×Obj)}{Y:St}{H:Hp}{s:Shared}{A:Around}{E:Value->Shared->Prop}{Q:Value->Shared->Prop}{c:Value}{b:Bool}
inductive jA(K:O2)(H:Hp):V->Value->Prop where
 |non:jA K H .non (.type "NoneType")
 |bl(x:Bool):jA K H (.bl x) (.type "bool")
 |int(i:Int):jA K H (.int i) (.type "int")
 |str(x:Str):jA K H (.str x) (.type "str")
 |flt(x:UInt64):jA K H (.flt x) (.type "float")
 |lst{a:Addr}{xs:List V}(e:H a=some (.lst xs)):jA K H (.ref a) (.type "list")
 |frz{a:Addr}{o:Obj}{xs:List V}(e:H a=some (.frz o (.lst xs))):jA K H (.ref a) (.type "list")
 |tup{a:Addr}{xs:List V}(e:H a=some (.tup xs)):jA K H (.ref a) (.type "tuple")
 |dK{a:Addr}{kvs:List (Key×V)}(e:H a=some (.dK kvs)):jA K H (.ref a) (.type "dict")
 |dT{a:Addr}{kvs:List (List Key×V)}(e:H a=some (.dT kvs)):jA K H (.ref a) (.type "dict")
 | ins {a C dx:Addr} {fs:List (Str×V)} (e:H a=some (.ins C dx fs)) (cl:F4 K C) (ha:Qo K (.ref C) "__class__" = some (some (.builtin "object.__class__")))
   (hn:UD K (.builtin "object.__class__") "__get__" = some (some (.builtin "getset_descriptor.__get__"))) (htk:UR K (.builtin "object.__class__")=some true)
   (hm:Tn K C (.type "object")=some true):jA K H (.ref a) (.ref C)
end
structure cE(k:Nat)(A:Around):Prop where
 hd:A.handled=none
 dp:A.depth+3*k+5<recursionLimit
 un:A.units+16*k+200<cLine
theorem cE.mono{A:Around}(r:cE k A)(h:j<=k):cE j A:=⟨r.hd,by have:=r.dp;omega,by have:=r.un;omega⟩
theorem cE.deeper{k:Nat}{A:Around}(r:cE (k+1) A)(env:Env):cE k (A.deeper env):=
 ⟨r.hd,by have:=r.dp;show A.depth+1+3*k+5<_;omega,by have:=r.un;show A.units+3+16*k+200<_;omega⟩
theorem cE.depth{k:Nat}{A:Around}(r:cE k A):A.depth<recursionLimit:=by have:=r.dp;omega
theorem cE.units{k:Nat}{A:Around}(r:cE k A):A.units+64<cLine:=by have:=r.un;omega
noncomputable def JZ:TA:=λ_ H Q=>Q [] H
noncomputable def DS(ta:TE)(tr:TA):TA:=λY H Q=>ta Y H λx i=>tr Y i λxs e=>Q (x::xs) e
section
variable{X:Cx}{e:Expr}{es:List Expr}{te:TE}{t:TA}{pos:Pos}
theorem cS:PA X [] JZ:=λ_ _ _ _ H Q I h=>UT ⟨[],H,I,.nil,h⟩
theorem bA(ha:PE X e te)(hr:PA X es t)(hs:starEach (e::es) X.env=(false,eval e X.env)::starEach es X.env:=by rfl):PA X (e::es) (DS te t):=by intro pos pins s Y H Q I h;rw[hs];show wpAny _ _ (spliced ((false,eval e X.env)::backTo pos (starEach es X.env))) _ _ s;refine Sw (ba (ha pins s Y H _ I h) λu s1 ⟨x,H1,I1,r1,q1⟩=>?_);exact ba (hr pos pins s1 Y H1 _ I1 q1) λus s2 ⟨xs,H2,I2,r2,q2⟩=>⟨x::xs,H2,I2,.cons r1 r2,q2⟩
def MA(t:TA):TE:=λY H Q=>t Y H λxs i=>xs.length<=sizeLine/\∀p,i p=none->Q (.ref p) (upd i p (.tup xs))
def MU(t:TA):TE:=λY H Q=>t Y H λxs i=>xs.length<=sizeLine/\∀p,i p=none->Q (.ref p) (upd i p (.lst xs))
theorem FP{x1}(h:PA X es t):PE X (.Tuple es x1 pos) (MA t):=by intro pins s Y H Q I B;refine wpAny_Tuple_spliced (ba (h pos pins s Y H _ I B) λus s1 ⟨xs,i,j,r,z,q⟩=>⟨by rw[<-r.length];exact z,?_⟩);have hf:i s1.heap.objs.size=none:=j.hok.fresh (Pf _);refine⟨.ref s1.heap.objs.size,upd i s1.heap.objs.size (.tup xs),j.laid (t':=s1.toks) (λb u e=>O8 _ e) (Pf _) ?_,rfl,q _ hf⟩;exact⟨z,us,r,⟨_,Pu _ rfl,rfl,_,rfl,rfl⟩⟩
theorem Hf(h:PA X es t):PE X (.List es pos) (MU t):=by intro pins s Y H Q I B;refine wpAny_List_spliced (ba (h pos pins s Y H _ I B) λus s1 ⟨xs,i,j,r,z,q⟩=>⟨by rw[<-r.length];exact z,?_⟩);have hf:i s1.heap.objs.size=none:=j.hok.fresh (Pf _);refine⟨.ref s1.heap.objs.size,upd i s1.heap.objs.size (.lst xs),j.laid (t':=s1.toks) (λb u e=>O8 _ e) (Pf _) ?_,rfl,q _ hf⟩;exact⟨z,us,0,r,Pu _ rfl⟩
end
abbrev Sp:=List V->Hp->VK->XK->Prop
abbrev ux:=List Env->Hp->Shared->XK->Value->Shared->Prop
structure BE(P:Program)(w:World)(K:O2)(mg:Str->Option Value)(base:Heap)(A:Around)(outer:List Env)(s:Shared)(H:Hp):Prop where
 frames:A.frames=some outer
 mod:Mod K mg base
 bs:∀b o,base.get? b=some o->s.heap.get? b=some o/\H b=none
 bsz:base.objs.size<=s.heap.objs.size
 i6:s.heap.FunFrames base outer
 frf:∀b∈cA outer,H b=none
 hok:gb P w H s.heap
 bare:AllBare s.gens
def CE(outer:List Env)(P:Program)(w:World)(H:Hp)(s:Shared)(Q:VK)(u:Value)(s':Shared):Prop:=
 ∃v H',s'.os=s.os/\AllBare s'.gens/\Un (cA outer) [] H H' s.heap s'.heap/\gb P w H' s'.heap/\RelV v u/\Q v H'
def CR(CX:ux)(outer:List Env)(P:Program)(w:World)(H:Hp)(s:Shared)(Q:VK)(E:XK)(r:Result)(s':Shared):Prop:=
 match r with
 | .ok (.ret u)=>CE outer P w H s Q u s'
 | .ok _=>False
 | .error e=>CX outer H s E e s'
structure cR(P:Program)(w:World)(K:O2)(mg:Str->Option Value)(base:Heap)(CX:ux)(k:Nat)(f:Addr)(fd:FuncData)(ps:List Str)(sp:Sp):Prop where
 len:∀vs H Q E,sp vs H Q E->vs.length=ps.length
 run:∀(A:Around)(outer:List Env)(s:Shared)(H:Hp)(args:Args)(us:List Value)(vs:List V)(Q:VK)(E:XK),cE k A->BE P w K mg base A outer s H->BindsTo s fd args (ps.zip us)->Vals vs us->sp vs H Q E->
  codeAny (model P w) A (.call (.ref f) args) (CR CX outer P w H s Q E) s
theorem cR.mono{P:Program}{w:World}{K:O2}{mg:Str->Option Value}{base:Heap}{CX:ux}{j k:Nat}{f:Addr}{fd:FuncData}{ps:List Str}{sp:Sp}(F:cR P w K mg base CX j f fd ps sp)(h:j<=k):
  cR P w K mg base CX k f fd ps sp:=⟨F.len,λA outer s H args us vs Q E y=>F.run A outer s H args us vs Q E (y.mono h)⟩
variable{mg:Str->Option Value}{base:Heap}{CX:ux}{fd:FuncData}{ps:List Str}{sp:Sp}
theorem cR.imp{f:Addr}{Y:Sp}(F:cR P w K mg base CX k f fd ps sp)
  (h:∀vs H Q E,Y vs H Q E->sp vs H Q E):cR P w K mg base CX k f fd ps Y:=
 ⟨λvs H Q E q=>F.len vs H Q E (h _ _ _ _ q),λA outer s H args us vs Q E y t d B x=>F.run A outer s H args us vs Q E y t d B (h _ _ _ _ x)⟩
section
variable{X:Cx}{pins:List (Addr×Obj)}{Y:St}{H:Hp}{s s':Shared}
theorem Inv.Jr(I:Inv X pins Y H s):BE X.prog X.w X.K X.mg X.base X.A X.stack s H:=
 ⟨I.ok.frames,I.ok.mod,I.bs,Px I.ok.bsz I.sz,I.stack,I.nU,I.hok,I.bare⟩
theorem Inv.after{Q:VK}(I:Inv X pins Y H s)(h:CE X.stack X.prog X.w H s Q u s'):EP X pins Y Q u s':=by obtain⟨v,H',os,bare,un,hok,r,q⟩:=h;obtain⟨c,g,d,t,Z⟩:=s';obtain rfl:Z=s.os:=os;exact⟨v,H',I.call (h':=c) (g':=g) (d':=d) (t':=t) (ch:=[]) un hok bare (λb z=>absurd z (by simp)),r,q⟩
end
noncomputable def KG(sp:Sp)(dvs:List V)(E:XK)(t:TA):TE:=λY H Q=>t Y H λvs i=>sp (vs++dvs) i Q E
def Binds(K:O2)(fd:FuncData)(ps:List Str)(ds:List Value):Prop:=
 ∀(s:Shared)(us:List Value),K.In s.heap->(us++ds).length=ps.length->BindsTo s fd ⟨us,[]⟩ (ps.zip (us++ds))
theorem Binds.all(h:∀us:List Value,us.length=ps.length->bindArgs fd ⟨us,[]⟩=pure (ps.zip us)):Binds K fd ps []:=λs us _ hl=>by rw[P8] at hl ⊢;exact .of_eq (h us hl)
def Passes(CX:ux)(X:Cx)(E:XK):Prop:=∀(pins:List (Addr×Obj))(Y:St)(H:Hp)(s:Shared)(e:Value)(s':Shared),Inv X pins Y H s->CX X.stack H s E e s'->X.xe e s'
variable{vs:List V}
section
variable{X:Cx}{CX:ux}{k:Nat}{f C:Addr}{fd:FuncData}{ps:List Str}{sp:Sp}{dvs:List V}{ds:List Value}{E:XK}{x m:Str}{p pos apos:Pos}{e o:Expr}{es:List Expr}{ta:TE}{t:TA}
theorem EF{Q:VK}(F:cR X.prog X.w X.K X.mg X.base CX k f fd ps sp)(y:cE k X.A)(d:Binds X.K fd ps ds)(hd:Vals dvs ds)(L:Passes CX X E)
  (I:Inv X pins Y H s)(r:Vals vs us)(h:sp (vs++dvs) H Q E):wpAny (model X.prog X.w) X.A (call (.ref f) us) (EP X pins Y Q) X.xe s:=by
 have p:Vals (vs++dvs) (us++ds):=r.append hd;have hl:(us++ds).length=ps.length:=by rw[<-p.length];exact F.len _ _ _ _ h
 refine wpAny_call (codeAny_mono (F.run X.A X.stack s H ⟨us,[]⟩ (us++ds) (vs++dvs) Q E y I.Jr (d s us I.ym hl) p h) λr s' B=>?_);cases r with
 |error e=>exact L pins Y H s e s' I B
 |ok fl=>
  cases fl with
  |ret u=>exact I.after B
  |next=>exact Q6 B
  |brk=>exact Q6 B
  |cont=>exact Q6 B
theorem uf(F:cR X.prog X.w X.K X.mg X.base CX k f fd ps sp)(hr:cE k X.A)(hg:Gl X x)(hm:X.mg x=some (.ref f))(hk:Qf X.K (.ref f)=true)(hb:Binds X.K fd ps ds)(hd:Vals dvs ds)(hx:Passes CX X E)
  (ha:PA X (e::es) t)(hdb:eG x:=by decide)(he:starEach (e::es) X.env=(false,eval e X.env)::starEach es X.env:=by rfl)(hpl:(backTo pos (starEach es X.env)).any (·.1)=false:=by rfl):
  PE X (.Call (.Name x p) (e::es) [] pos) (KG sp dvs E t):=by
 intro pins s Y H Q I h;refine wpAny_Call_Name_kw (g7 I hg hm ?_ hdb);refine Uk (h₀:=X.base) I.ok.mod.kin hk (ba (ha pos pins s Y H _ I h) λus s1 ⟨vs,H1,I1,r,q⟩=>⟨I1.ym,?_⟩) he hpl;exact EF F hr hb hd hx I1 r q
structure Mk(K:O2)(C f:Addr):Prop where
 makes:UU K C=true
 init:Qo K (.ref C) "__init__" = some (some (.ref f))
 fn:TJ K (.ref f)=true
 kp:Qf K (.ref C)=true
end
structure hZ(N P:List Str)(sc:Scope):Prop where
 kind:sc.kind=.function
 co:sc.isCoroutine=false
 gen:sc.isGenerator=false
 nd:N.Nodup
 pre:N.take P.length=P
 par:∀x∈P,sc.names.lookup x=some .local\/sc.names.lookup x=some .cell
 nofree:∀y∈sc.names,y.2≠.free
theorem mw{kindOf:Str->Option NameKind}{x:Str}:∀{H:List (Str×Value)}{m:Str->Option Value},(∀v,(x,v)∉H)->bindL kindOf H m x=m x
 |[],_,_=>rfl
 |(n,v)::r,m,h=>by
  unfold bindL;rw[mw λw G=>h w (Pa _ G)];split
  .have:x≠n:=by rintro rfl;exact h v PK
   simp[this]
  .rfl
theorem mD{kindOf:Str->Option NameKind}{x:Str}:∀{H:List (Str×Value)}{m:Str->Option Value},(∀v,(x,v)∉H)->bindC kindOf H m x=m x
 |[],_,_=>rfl
 |(n,v)::r,m,h=>by
  unfold bindC;rw[mD λw G=>h w (Pa _ G)];split
  .rfl
  .have:x≠n:=by rintro rfl;exact h v PK
   simp[this]
theorem mJ{kindOf:Str->Option NameKind}{x:Str}{v:Value}:∀{P:List Str}{vs:List Value}{i:Nat}{m:Str->Option Value},P.Nodup->P[i]?=some x->vs[i]?=some v->kindOf x=some .local->
  bindL kindOf (P.zip vs) m x=some v
 |[],_,_,_,_,h,_,_=>by simp at h
 |_::_,[],_,_,_,_,h,_=>by simp at h
 |p::P,w::vs,0,m,nd,h1,h2,hk=>by simp at h1 h2;subst h1;subst h2;show bindL kindOf ((p,w)::P.zip vs) m p=_;unfold bindL;rw[mw λv B=>(PM.mp nd).1 (R8 B).1,if_pos hk];simp
 |p::P,w::vs,i+1,m,nd,h1,h2,hk=>by show bindL kindOf ((p,w)::P.zip vs) m x=_;unfold bindL;exact mJ (i:=i) (PM.mp nd).2 (by simpa using h1) (by simpa using h2) hk
theorem mW{kindOf:Str->Option NameKind}{x:Str}{v:Value}:∀{P:List Str}{vs:List Value}{i:Nat}{m:Str->Option Value},P.Nodup->P[i]?=some x->vs[i]?=some v->kindOf x≠some .local->
  bindC kindOf (P.zip vs) m x=some v
 |[],_,_,_,_,h,_,_=>by simp at h
 |_::_,[],_,_,_,_,h,_=>by simp at h
 |p::P,w::vs,0,m,nd,h1,h2,hk=>by simp at h1 h2;subst h1;subst h2;show bindC kindOf ((p,w)::P.zip vs) m p=_;unfold bindC;rw[mD λv B=>(PM.mp nd).1 (R8 B).1,if_neg hk];simp
 |p::P,w::vs,i+1,m,nd,h1,h2,hk=>by show bindC kindOf ((p,w)::P.zip vs) m x=_;unfold bindC;exact mW (i:=i) (PM.mp nd).2 (by simpa using h1) (by simpa using h2) hk
noncomputable def start(N:List Str)(vs:List V):St:=vs.map some++PB (N.length-vs.length) none
noncomputable def oT(CX:ux)(P:Program)(w:World)(K:O2)(mg:Str->Option Value)(base:Heap)(N:List Str)(qual:Str)(scope:Scope)(f:Addr)(cd:Value)(A:Around)(outer:List Env)(s:Shared)(H:Hp)(E:XK):Cx where
 prog:=P
 w:=w
 K:=K
 mg:=mg
 base:=base
 A:=A.deeper (envOfC qual scope s.heap.objs.size f cd)
 N:=N
 s₀:=s
 H₀:=H
 env:=envOfC qual scope s.heap.objs.size f cd
 outer:=outer
 stack:=envOfC qual scope s.heap.objs.size f cd::outer
 ex:=[]
 calm:=true
 fn:=λ_=>true
 pn:=[]
 xe:=λe s'=>wpAny (model P w) (A.deeper (envOfC qual scope s.heap.objs.size f cd)) (leaving (envOfC qual scope s.heap.objs.size f cd) e) (λ_ h=>CX outer H s E e h) (λe' h=>CX outer H s E e' h) s'
theorem pZ{sc:Scope}{n:Nat}(h:sc.names.lookup x=some .cell):∃c,(cellsFrom n sc.names []).lookup x=some c:=by have q:=TK sc.names n [] (.inl h);exact Option.isSome_iff_exists.mp q
variable{scope:Scope}
theorem uY{qual:Str}{f:Addr}{cd:Value}{A:Around}{outer:List Env}{s1:Shared}{E:XK}
  (S:hZ N ps scope)(hd:A.handled=none)(I:BE P w K mg base A outer s H)(hl:vs.length=ps.length)(r:Vals vs us)
  (x:InCallC s s.heap.objs.size (bindL (envOfC qual scope s.heap.objs.size f cd).kindOf (ps.zip us) λ_=>none) (cellsFrom (s.heap.objs.size+1) scope.names []) (bindC (envOfC qual scope s.heap.objs.size f cd).kindOf (ps.zip us) λ_=>none) s1):
  Inv (oT CX P w K mg base N qual scope f cd A outer s H E) [] (start N vs) H s1:=by
 have Z:ps.length<=N.length:=by have:=congrArg RQ S.pre;rw[Qs] at this;omega
 obtain⟨h1,tk,rfl,hk⟩:=x.done;have X:∀b:Addr,b∉(oT CX P w K mg base N qual scope f cd A outer s H E).ex:=λb z=>absurd (show b∈([]:List Addr) from z) (by simp);refine⟨⟨I.mod,S.kind,rfl,rfl,Pf _,λy z c h1 h2=>?_,λy m=>?_,λy c _ h=>?_,λ_=>hd,Around.frames_deeper I.frames,.inr ⟨rfl,rfl⟩,λb z=>absurd z (X b),I.bs,I.bsz,λb _ _=>X b,λb z=>absurd z (X b),I.i6,I.frf⟩,
  rfl,I.bare,Un.kept hk,⟨_,x.toInCall.ns,λi y v h1 h2 h3=>?_⟩,λy c h=>⟨_,x.cell y c h⟩,I.hok.fresh (Pf _),λy c h=>?_,λp hp=>absurd (show p∈([]:List (Addr×Obj)) from hp) (by simp),I.hok.kept hk,?_⟩
 .exact name_of_addr x.apart (QO h1) (QO h2)
 .have m:scope.names.lookup y=some .cell\/scope.names.lookup y=some .free:=m;rcases m with m|m
  .exact pZ m
  .exact absurd rfl (S.nofree _ (QO m))
 .exact RH (x.above y c (QO h))
 .have hi:i<vs.length:=by
   unfold start at h2;by_cases hi:i<vs.length
   .exact hi
   .rw[Qp (by simpa using hi)] at h2;rw[T9] at h2;split at h2<;>cases h2
  have ha:vs[i]?=some v:=by
   unfold start at h2;rw[P5 (by simpa using hi),Pq] at h2;cases e:vs[i]? with
   |none=>rw[e] at h2;cases h2
   |some a=>rw[e] at h2;cases h2;rfl
  obtain⟨u,D,rv⟩:=r.get ha;have hp:ps[i]?=some y:=by rw[<-S.pre,T1 (by omega)];exact h1
  have Y:ps.Nodup:=by rw[<-S.pre];exact S.nd.sublist (Rj _ _)
  refine⟨u,rv,?_⟩;rcases S.par y (PJ hp) with k|k
  .exact .inl ⟨k,mJ Y hp D k⟩
  .obtain⟨c,e⟩:=pZ (n:=s.heap.objs.size+1) k;refine .inr ⟨.inl k,c,e,?_⟩;have q:=x.cell y c e;rw[mW Y hp D (by show scope.names.lookup y≠_;rw[k];decide)] at q;exact q
 .exact I.hok.fresh (RH (x.above y c (QO h)))
 .unfold start;show _=N.length;rw[Pk,O5,Ul];omega
theorem LP{f:Addr}{name qual:Str}{h:Arguments}{dV kV doc pm cdv ct oc:Value}{an od:Option Addr}
  {osl:Array (Option Value)}(T:K.lookup f=some ⟨oc,od,.func (Sx name qual h body scope dV kV doc pm an cdv ct),osl⟩)(C:R9 K cdv qual=true)(S:hZ N ps scope)
  (len:∀vs H Q E,sp vs H Q E->vs.length=ps.length)
  (z:∀(A:Around)(outer:List Env)(s:Shared)(H:Hp)(vs:List V)(Q:VK)(E:XK),cE k (A.deeper (envOfC qual scope s.heap.objs.size f cdv))->sp vs H Q E->
   ∃t,p7 (oT CX P w K mg base N qual scope f cdv A outer s H E) body t/\t { nx:=λ_ H'=>Q .non H',rt:=Q } (start N vs) H):
  cR P w K mg base CX (k+1) f (Sx name qual h body scope dV kV doc pm an cdv ct) ps sp:=by
 refine⟨len,λA outer s H args us vs Q E D c d r g=>?_⟩;have hl:=len _ _ _ _ g;have O:K.In s.heap:=c.mod.kin.keeps λb o e=>(c.bs b o e).1;have F:s.heap.NoLimit:=c.mod.nolimit.keeps λb o e=>(c.bs b o e).1;have X:∀y∈ps.zip us,scope.names.lookup y.1=some .local\/(scope.names.lookup y.1=some .cell/\((cellsFrom (s.heap.objs.size+1) scope.names []).lookup y.1).isSome=true):=λ⟨n,v⟩ m=>by
  rcases S.par n (R8 m).1 with q|q
  .exact .inl q
  .exact .inr ⟨q,TK _ _ _ (.inl q)⟩
 refine codeAny_call_function D.depth (O _ _ T) rfl S.co S.gen rfl (PySem.W.codeRec_of O C) (d _ _ _ _ ?_);refine wpAny_newFunctionEnv_cells S.kind X λenv U s1 x=>?_;subst U;refine⟨F.keeps x.toInCall.keep,codeAny_func ?_⟩;obtain⟨t,j,B⟩:=z A outer s H vs Q E (D.deeper _) g;have I:Inv (oT CX P w K mg base N qual scope f cdv A outer s H E) [] (start N vs) H s1:=uY S D.hd c hl r x;refine wpAny_mono (j [] s1 (start N vs) H _ I B) (λfl s' Y=>?_) λe s' Y=>Y;have fin:∀{Z':St}{H':Hp}{v:V}{u:Value},Inv (oT CX P w K mg base N qual scope f cdv A outer s H E) [] Z' H' s'->RelV v u->Q v H'->CE outer P w H s Q u s':=
  λ{Z' H' v u} J rv q=>⟨v,H',J.os,J.bare,J.base,J.hok,rv,q⟩
 cases fl with
 |ret u=>obtain⟨v,Z',H',J,rv,q⟩:=Y;exact fin J rv q
 |next=>obtain⟨Z',H',J,q⟩:=Y;exact fin (v:=V.non) (u:=Rt) J rfl q
 |brk=>obtain⟨_,_,_,q⟩:=Y;exact Q6 q
 |cont=>obtain⟨_,_,_,q⟩:=Y;exact Q6 q
section
variable{X:Cx}{x:Str}{p pos:Pos}{e:Expr}{es:List Expr}{t:TA}{id T:String}{r:List V->Hp->VK->Prop}
noncomputable def Oj(r:List V->Hp->VK->Prop)(t:TA):TE:=λY H Q=>t Y H λvs i=>r vs i Q
theorem iO(hc:bE X (.builtin id) r)(hg:Gl X x)(hm:X.mg x=none)(hv:bootBuiltins x=some (.builtin id))(ha:PA X (e::es) t)(hn:x ≠ "__name__" := by decide)(hdb:eG x:=by decide)
  (he:starEach (e::es) X.env=(false,eval e X.env)::starEach es X.env:=by rfl)(hpl:(backTo pos (starEach es X.env)).any (·.1)=false:=by rfl):PE X (.Call (.Name x p) (e::es) [] pos) (Oj r t):=by
 intro pins s Y H Q I h;refine wpAny_Call_Name_kw (m5 I hg hm hv ?_ hn hdb);exact V6 (ba (ha pos pins s Y H _ I h) λus s1 ⟨vs,H1,I1,r1,q1⟩=>hc pins s1 Y H1 vs us Q I1 r1 q1) he hpl
theorem uD(hc:bE X (.type T) r)(hg:Gl X x)(hm:X.mg x=none)(hv:bootBuiltins x=some (.type T))(ha:PA X (e::es) t)(hn:x ≠ "__name__" := by decide)(hdb:eG x:=by decide)
  (he:starEach (e::es) X.env=(false,eval e X.env)::starEach es X.env:=by rfl)(hpl:(backTo pos (starEach es X.env)).any (·.1)=false:=by rfl):PE X (.Call (.Name x p) (e::es) [] pos) (Oj r t):=by
 intro pins s Y H Q I h;refine wpAny_Call_Name_kw (m5 I hg hm hv ?_ hn hdb);exact Sv (ba (ha pos pins s Y H _ I h) λus s1 ⟨vs,H1,I1,r1,q1⟩=>hc pins s1 Y H1 vs us Q I1 r1 q1) he hpl
end
end L2
namespace HT
open PySem PyProof.Rows
variable{Q:Value->Shared->Prop}{sl:Addr}{vl vu:Value}{lo hi:Option Int}
section
variable{prog:Program}{w:World}{A:Around}{E:Value->Shared->Prop}{s:Shared}
theorem BO{t b:Addr}{vs a:List Value}(j:IsTup s.heap t vs.toArray)(d:IsTup s.heap b a.toArray)(B:vs≠[])
  (h1:a=[]->Q (.ref t) s)(h2:a≠[]->Q (.ref s.heap.objs.size) { s with heap:=s.heap.push { cls:=.type "tuple",data:=.seq (vs++a).toArray } })
  (hsz:vs.length+a.length<=sizeLine):wpAny (model prog w) A (binaryOp .Add (.ref t) (.ref b)) Q E s:=by
 obtain⟨⟨cls,dd,data,sl⟩,ho,hc,n,hd⟩:=id j;obtain⟨⟨r,I,data2,N⟩,H,h,u,q⟩:=id d;simp only at hc hd h q;subst hc hd h q;have e:vs.toArray++a.toArray=(vs++a).toArray:=by simp
 by_cases G:a=[]
 .exact concat_meets ⟨_,ho,rfl⟩ ⟨_,H,rfl⟩ noFill_tuple_add seq_tuple_add RY RS (RM _ _)
   (tuple_addW1 t b vs.toArray a.toArray n u dd I sl N (by simpa using B) (by simp[G])) ⟨ho,H,h1 G⟩
 .refine concat_meets ⟨_,ho,rfl⟩ ⟨_,H,rfl⟩ noFill_tuple_add seq_tuple_add RY RS (RM _ _)
   (tuple_addW2 t b vs.toArray a.toArray n u dd I sl N (by simpa using B) (by simpa using G) (by rw[O4,O4];exact hsz)) ⟨ho,H,?_⟩
  rw[e];exact h2 G
noncomputable def cb(n d:Nat):Option Int->Nat
 |none=>d
 |some v=>if v<0 then (v+(n:Int)).toNat else min v.toNat n
theorem oO(n d:Nat):cb n d none=d:=rfl
theorem tu(n d k:Nat):cb n d (some (k:Int))=min k n:=by show (if (k:Int)<0 then ((k:Int)+(n:Int)).toNat else min (k:Int).toNat n)=min k n;rw[if_neg (by omega),Qq]
theorem EE(n d:Nat)(hd:d<=n)(o:Option Int):cb n d o<=n:=by
 cases o with
 |none=>exact hd
 |some v=>
  show (if v<0 then (v+(n:Int)).toNat else min v.toNat n)<=n;by_cases B:v<0
  .rw[if_pos B];omega
  .rw[if_neg B];exact Nat.min_le_right _ _
theorem uA(v:Int)(n d:Nat):(if v<0 then max (v+(n:Int)) 0 else min v (n:Int))=((cb n d (some v):Nat):Int):=by
 show (if v<0 then max (v+(n:Int)) 0 else min v (n:Int))=(((if v<0 then (v+(n:Int)).toNat else min v.toNat n):Nat):Int);by_cases B:v<0
 .simp only[if_pos B];omega
 .simp only[if_neg B];omega
theorem rN(lo hi:Option Int)(n:Nat):Rz lo hi 1 (n:Int)=(((cb n 0 lo:Nat):Int),((cb n n hi:Nat):Int)):=by
 have h1:¬ ((1:Int)<0):=by omega
 unfold Rz;simp only[h1,if_false];refine UE ?_ ?_
 .cases lo with
  |none=>rfl
  |some v=>exact uA v n 0
 .cases hi with
  |none=>rfl
  |some v=>exact uA v n n
theorem rZ(i j:Nat):QX (i:Int) (j:Int) 1=j-i:=by
 unfold QX;have h1:(1:Int) > 0:=by omega
 simp only[h1,if_true,Int.ediv_one];split<;>omega
theorem lp{v:Value}{o:Option Int}{Q:Option Int->Shared->Prop}(p:IsPart v o)(h:Q o s):wpAny (model prog w) A (VW v) Q E s:=by
 cases p with
 |none=>exact slicePart_none h
 |int i t=>exact slicePart_int h
theorem dZ{n:Nat}{Q:Int×Int×Nat->Shared->Prop}(N:s.heap.IsSliceOf sl vl vu .none)(v:IsPart vl lo)(H:IsPart vu hi)
  (h:Q (((cb n 0 lo:Nat):Int),1,cb n n hi-cb n 0 lo) s):wpAny (model prog w) A (Sy (.ref sl) (pure (n:Int))) Q E s:=by
 obtain⟨os,t,I,z⟩:=id N;unfold Sy VX;refine wpAny_bind (wpAny_bind (wpAny_field t z (x:=vl) rfl (wpAny_bind (wpAny_field t z (x:=vu) rfl (wpAny_bind (wpAny_field t z (x:=.none) rfl (wpAny_pure ?_)))))));refine wpAny_bind (slicePart_none ?_);show wpAny _ _ (if ((1:Int)==0)=true then _ else _) _ _ s;rw[if_neg (by decide)];refine wpAny_bind (lp v (wpAny_bind (lp H (wpAny_bind (wpAny_pure ?_)))));show wpAny _ _ (match Rz lo hi 1 (n:Int) with|(lo,hi)=>pure (lo,(1:Int),QX lo hi 1)) _ _ s;rw[rN lo hi n];show wpAny _ _ (pure (((cb n 0 lo:Nat):Int),(1:Int),QX ((cb n 0 lo:Nat):Int) ((cb n n hi:Nat):Int) 1)) _ _ s;rw[rZ];exact wpAny_pure h
theorem z3(xs:Array Value)(i k:Nat):((Py k).filterMap λ(m:Nat)=>xs[((i:Int)+(m:Int)*1).toNat]?).toArray=((xs.toList.drop i).take k).toArray:=by
 have e:(λ(m:Nat)=>xs[((i:Int)+(m:Int)*1).toNat]?)=λm=>xs[i+m]?:=by
  funext m
  have:((i:Int)+(m:Int)*1).toNat=i+m:=by omega
  rw[this]
 rw[e];have:=pick_run xs i k;rw[List.filterMap_map] at this;have l:((λx=>xs[x]?)∘λx=>i+x)=λm=>xs[i+m]?:=rfl;rw[l] at this;rw[this]
theorem hE{t:Addr}{items:Array Value}(j:IsTup s.heap t items)(N:s.heap.IsSliceOf sl vl vu .none)(v:IsPart vl lo)(H:IsPart vu hi)
  (G:¬ (cb items.size 0 lo=0/\cb items.size items.size hi=items.size))
  (h:Q (.ref s.heap.objs.size) { s with heap:=s.heap.push { cls:=.type "tuple",data:=.seq ((items.toList.drop (cb items.size 0 lo)).take (cb items.size items.size hi-cb items.size 0 lo)).toArray } })
  (hsz:items.size<=sizeLine):wpAny (model prog w) A (getItem (.ref t) (.ref sl)) Q E s:=by
 have x:sizeOk (.seq ((items.toList.drop (cb items.size 0 lo)).take (cb items.size items.size hi-cb items.size 0 lo)).toArray):=by show ((items.toList.drop (cb items.size 0 lo)).take (cb items.size items.size hi-cb items.size 0 lo)).toArray.size<=sizeLine;rw[O4,Qs,S5,P9];omega
 have Y:cb items.size items.size hi<=items.size:=EE _ _ (Pf _) hi;obtain⟨os,K,I,z⟩:=id N;have V:s.TypeIs (.ref sl) "slice" := ⟨os,K,I⟩
 unfold getItem
 try with_reducible refine wpAny_holding ?_
 first|refine wpAny_bind (wpAny_pure ?_)|skip
 refine wpAny_bind (wpAny_sequenceKey j.typeIs (by decide) ?_);refine wpAny_bind (wpAny_callSpecial?_slot (name:=SX "__getitem__") j.typeIs Qb
  (wpAny_call_entry Qb j.typeIs entry_tuple_getitem ?_ (args_tuple_getitem _ _)))
 show wpAny _ _ (Sz (.ref t) >>= _) _ _ s;refine wpAny_bind (tupleItemsOf_ j ?_);refine wpAny_bind (wpAny_typeOf V ?_);rw[if_pos (by decide)];refine wpAny_bind (dZ N v H ?_);have X:¬ ((((cb items.size 0 lo:Nat):Int)==0&&(1:Int)==1&&(cb items.size items.size hi-cb items.size 0 lo)==items.size)=true):=by intro q;rw[O3,O3] at q;have n:((cb items.size 0 lo:Nat):Int)=0:=eq_of_beq q.1.1;have Z:cb items.size items.size hi-cb items.size 0 lo=items.size:=eq_of_beq q.2;exact G ⟨by omega,by omega⟩
 show wpAny _ _ (if (((cb items.size 0 lo:Nat):Int)==0&&(1:Int)==1&&(cb items.size items.size hi-cb items.size 0 lo)==items.size)=true then _ else _) _ _ s;rw[if_neg X,z3]
 first
  |exact wpAny_bind (m:=Q2 _) (wpAny_newObj_type (wpAny_pure ⟨_,rfl,wpAny_pure h⟩) x)
  |exact wpAny_bind (m:=Q2 _) (wpAny_newObj_type (wpAny_bind (wpAny_pure (wpAny_pure ⟨_,rfl,wpAny_pure h⟩))) x)
  |exact wpAny_bind (wpAny_bind (m:=Q2 _) (wpAny_newObj_type (wpAny_pure (wpAny_pure ⟨_,rfl,wpAny_pure h⟩)) x))
  |exact wpAny_bind (wpAny_bind (m:=Q2 _) (wpAny_newObj_type (wpAny_pure ⟨_,rfl,wpAny_pure h⟩) x))
end
end HT
namespace L2
open PySem PySem.Spec PyProof.Rows
abbrev TO:=St->Hp->(Option Int->Hp->Prop)->Prop
def PO(X:Cx)(e:Option Expr)(t:TO):Prop:=
 ∀(pins:List (Addr×Obj))(s:Shared)(Y:St)(H:Hp)(Q:Option Int->Hp->Prop),Inv X pins Y H s->t Y H Q->
  wpAny (model X.prog X.w) X.A (evalPart e X.env) (λu s'=>∃o H',Inv X pins Y H' s'/\IsPart u o/\Q o H') X.xe s
noncomputable def Cv:TO:=λ_ H Q=>Q none H
noncomputable def Kh(t:TE):TO:=λY H Q=>t Y H λx u=>∃i,x=.int i/\Q (some i) u
variable{r:V->Option Int->Option Int->Hp->VK->Prop}
section
variable{X:Cx}{e:Expr}{te:TE}{lo hi:Option Expr}{tl th:TO}{pos p2:Pos}
theorem Dq:PO X none Cv:=by intro pins s Y H Q I h;rw[evalPart_none];exact wpAny_pure ⟨none,H,I,.none,h⟩
theorem Cz(h:PE X e te):PO X (some e) (Kh te):=by intro pins s Y H Q I G;rw[evalPart_some];refine ba (h pins s Y H _ I G) λu s1 ⟨x,E,j,k,n⟩=>?_;obtain⟨i,rfl,q⟩:=n;obtain⟨t,rfl⟩:=k;exact⟨some i,E,j,.int i t,q⟩
def gv(X:Cx)(r:V->Option Int->Option Int->Hp->VK->Prop):Prop:=
 ∀(pins:List (Addr×Obj))(s:Shared)(Y:St)(H:Hp)(x:V)(v E c:Value)(lo hi:Option Int)(sl:Addr)(Q:VK),Inv X pins Y H s->RelV x v->s.heap.IsSliceOf sl E c .none->IsPart E lo->IsPart c hi->r x lo hi H Q->
  ∃T id,typeLookup (.type T) "__getitem__" = pure (some (.builtin id))/\s.TypeIs v T/\wpAny (model X.prog X.w) X.A (getItem v (.ref sl)) (EP X pins Y Q) X.xe s
theorem gv.or{w:V->Option Int->Option Int->Hp->VK->Prop}(h:gv X r)(h':gv X w):gv X (λx lo hi H Q=>r x lo hi H Q\/w x lo hi H Q):=by
 intro pins s Y H x v E c lo hi sl Q I a N A f q;rcases q with q|q
 .exact h pins s Y H x v E c lo hi sl Q I a N A f q
 .exact h' pins s Y H x v E c lo hi sl Q I a N A f q
noncomputable def O0(r:V->Option Int->Option Int->Hp->VK->Prop)(te:TE)(tl th:TO):TE:=λY H Q=>te Y H λx i=>tl Y i λl e=>th Y e λu F=>r x l u F Q
theorem wB(y:gv X r)(t:PE X e te)(hl:PO X lo tl)(f:PO X hi th):PE X (.Subscript e (.Slice lo hi none p2) pos) (O0 r te tl th):=by intro pins s Y H Q I h;refine Subscript_ (ba (t pins s Y H _ I h) λv s1 ⟨x,i,j,k,n⟩=>?_);refine wpAny_Slice (ba (hl pins s1 Y i _ j n) λE s2 ⟨l,D,o,g,Z⟩=>ba (f pins s2 Y D _ o Z) λc m ⟨u,F,O,C,L⟩=>?_);rw[evalPart_none];refine wpAny_pure ?_;have J:Inv X pins Y F { m with heap:=m.heap.push { cls:=.type "slice",data:=.fields #[E,c,.none] } }:=O.kept (t':=m.toks) λb ob q=>O8 _ q;obtain⟨T,id,K,R,S⟩:=y pins { m with heap:=m.heap.push { cls:=.type "slice",data:=.fields #[E,c,.none] } } Y F x v E c l u m.heap.objs.size Q J k (VM ..) g C L;show wpAny (model X.prog X.w) X.A (subscriptTail e (.Slice lo hi none p2) v (.ref m.heap.objs.size)) (EP X pins Y Q) X.xe { m with heap:=m.heap.push { cls:=.type "slice",data:=.fields #[E,c,.none] } };exact tail_any (ops:=[.ref m.heap.objs.size,v]) R K S (by with_unfolding_all rfl)
def oC(xs:List V)(lo hi:Option Int):List V:=(xs.drop (HT.cb xs.length 0 lo)).take (HT.cb xs.length xs.length hi-HT.cb xs.length 0 lo)
theorem jr(xs:List V)(lo hi:Option Int):(oC xs lo hi).length<=xs.length:=by unfold oC;rw[Qs,S5];omega
def MQ(K:O2):V->Option Int->Option Int->Hp->VK->Prop:=λx lo hi H Q=>∃a xs,x=.ref a/\dz K H a xs /\
 ¬ (HT.cb xs.length 0 lo=0/\HT.cb xs.length xs.length hi=xs.length)/\∀p,H p=none->Q (.ref p) (upd H p (.tup (oC xs lo hi)))
theorem FT:gv X (MQ X.K):=by
 intro pins s Y H x v w c lo hi sl Q I E N A C h;obtain⟨a,xs,rfl,L,G,q⟩:=h;cases E;obtain⟨O,r,j,hz⟩:=I.tuple L;have z:O.toArray.size=xs.length:=by rw[O4];exact r.length.symm
 refine⟨"tuple",_,Qb.lookup,j.typeIs,?_⟩;refine HT.hE j N A C (by rw[z];exact G) ?_ (by rw[z];exact hz);rw[z];refine⟨.ref s.heap.objs.size,_,I.laid (t':=s.toks) (o:=.tup (oC xs lo hi)) (λb ob q=>O8 _ q) (Pf _) ?_,rfl,q _ (I.hok.fresh (Pf _))⟩;exact⟨Px (jr xs lo hi) hz,_,(r.drop (HT.cb xs.length 0 lo)).take (HT.cb xs.length xs.length hi-HT.cb xs.length 0 lo),eU.new _ _⟩
def LG(K:O2):R2:=λx y H Q=>∃a b xs ys,x=.ref a/\y=.ref b/\dz K H a xs/\dz K H b ys/\xs≠[]/\xs.length+ys.length<=sizeLine /\
 (ys=[]->Q (.ref a) H)/\(ys≠[]->∀p,H p=none->Q (.ref p) (upd H p (.tup (xs++ys))))
theorem Vals.m7{xs:List V}{us:List Value}(r:Vals xs us):us=[]↔xs=[]:=by
 cases r with
 |nil=>simp
 |cons _ _=>simp
theorem CV:cP X (binaryOp .Add) (LG X.K):=by intro pins s Y H x y v u Q I E P h;obtain⟨a,b,xs,ys,rfl,rfl,ha,d,L,hz,n,Z⟩:=h;cases E;cases P;obtain⟨O,k,T,_⟩:=I.tuple ha;obtain⟨r,p,p2,_⟩:=I.tuple d;refine HT.BO T p2 (λz=>L (k.m7.mp z)) (λz=>⟨.ref a,H,I,rfl,n (p.m7.mp z)⟩) (λz=>?_) (by rw[<-k.length,<-p.length];exact hz);refine⟨.ref s.heap.objs.size,_,I.laid (t':=s.toks) (o:=.tup (xs++ys)) (λb ob q=>O8 _ q) (Pf _) ?_,rfl,Z (λw=>z (p.m7.mpr w)) _ (I.hok.fresh (Pf _))⟩;exact⟨by rw[Pk];exact hz,_,k.append p,eU.new _ _⟩
end
noncomputable def nR(n:Nat)(i:Int):Option Nat:=if 0<=i then (if i<n then some i.toNat else none) else if -(n:Int)<=i then some (i+n).toNat else none
def gr{α:Type}(xs:List α)(i:Int):Option α:=(nR xs.length i).bind λj=>xs[j]?
variable{i:Int}{j:Nat}
theorem tf{n:Nat}(h:nR n i=some j):seqIndex? i n=some j/\j<n /\ -(n:Int)<=i/\i<n:=by
 unfold nR at h;by_cases s:0<=i
 .rw[if_pos s] at h;by_cases h1:i<n
  .rw[if_pos h1] at h;have e:i.toNat=j:=Pn h;exact⟨by rw[seqIndex_of s h1,e],by omega,by omega,h1⟩
  .rw[if_neg h1] at h;cases h
 .rw[if_neg s] at h;by_cases h1:-(n:Int)<=i
  .rw[if_pos h1] at h;have e:(i+n).toNat=j:=Pn h;exact⟨by rw[seqIndex_neg (by omega) h1,e],by omega,h1,by omega⟩
  .rw[if_neg h1] at h;cases h
variable{α:Type}
theorem oA{xs:List α}{v:α}(h:gr xs i=some v):∃j,seqIndex? i xs.length=some j/\xs[j]?=some v/\j<xs.length /\ -(xs.length:Int)<=i/\i<xs.length:=by
 unfold gr at h;cases e:nR xs.length i with
 |none=>rw[e] at h;cases h
 |some j=>rw[e] at h;obtain⟨h1,h2,h3,h4⟩:=tf e;exact⟨j,h1,h,h2,h3,h4⟩
theorem gk{xs:List α}{v:α}(h:xs[j]?=some v):gr xs (j:Int)=some v:=by
 have Y:j<xs.length:=(O6.mp h).1;have e:nR xs.length (j:Int)=some j:=by unfold nR;rw[if_pos (by omega),if_pos (by omega)];simp
 unfold gr;rw[e];exact h
theorem pG(xs:List α)(v:α):gr (xs++[v]) (-1)=some v:=by
 have hl:(xs++[v]).length=xs.length+1:=by simp
 have e:nR (xs++[v]).length (-1)=some xs.length:=by
  unfold nR;rw[hl,if_neg (by decide),if_pos (by omega)]
  congr 1
  omega
 unfold gr;rw[e];show (xs++[v])[xs.length]?=some v;simp
def jP(b:Expr):Prop:=∀o i,subscripted b false o i=operate [o,i] (getItem o i)
def As(X:Cx)(r:R2):Prop:=
 ∀(value slice:Expr)(pins:List (Addr×Obj))(s:Shared)(Y:St)(H:Hp)(x y:V)(v u:Value)(Q:VK),Inv X pins Y H s->RelV x v->RelV y u->r x y H Q->
  subscripted slice false v u=operate [v,u] (getItem v u)->wpAny (model X.prog X.w) X.A (subscriptTail value slice v u) (EP X pins Y Q) X.xe s
def K9(X:Cx)(id:String)(r:V->List V->Hp->VK->Prop):Prop:=
 ∀(pins:List (Addr×Obj))(s:Shared)(Y:St)(H:Hp)(x:V)(xs:List V)(v:Value)(us:List Value)(Q:VK),Inv X pins Y H s->RelV x v->Vals xs us->r x xs H Q->
  wpAny (model X.prog X.w) X.A (call (.builtin id) (v::us)) (EP X pins Y Q) X.xe s
variable{pins:List (Addr×Obj)}{Y:St}{H:Hp}{s:Shared}{p:Addr}{its its':List Value}{y x:V}{u v:Value}{T:String}
section
variable{X:Cx}{a b:Expr}{ta tb:TE}{pos:Pos}
theorem As.or{r w:R2}(h:As X r)(h':As X w):As X (λx y H Q=>r x y H Q\/w x y H Q):=by
 intro value slice pins s Y H x y v u Q I a P q N;rcases q with q|q
 .exact h value slice pins s Y H x y v u Q I a P q N
 .exact h' value slice pins s Y H x y v u Q I a P q N
theorem Jj{r:R2}(D:As X r)(ha:PE X a ta)(d:PE X b tb)(N:jP b):PE X (.Subscript a b pos) (Ln r ta tb):=by intro pins s Y H Q I h;exact Subscript_ (FQ ha d I h λv u s2 x y e o E P q=>D a b pins s2 Y e x y v u Q o E P q (N _ _))
def Le(K:O2):R2:=λx y H Q=>∃p xs i v,x=.ref p/\y=.int i/\eX K H p xs/\gr xs i=some v/\Q v H
def wM(K:O2):R2:=λx y H Q=>∃p xs i v,x=.ref p/\y=.int i/\dz K H p xs/\gr xs i=some v/\Q v H
def Ly:R2:=λx y H Q=>∃z i c,x=.str z/\y=.int i/\z.length<=sizeLine/\gr z.cps.toList i=some c/\Q (.str ⟨#[c]⟩) H
theorem Ak:As X (Le X.K):=by
 intro value slice pins s Y H x y v u Q I a P h N;obtain⟨p,xs,i,z,rfl,rfl,B,R,q⟩:=h;cases a;obtain⟨t,rfl⟩:=P;obtain⟨its,r,A,hz⟩:=I.list B;obtain⟨j,h1,h2,h3,h4,h5⟩:=oA R;obtain⟨w,g,U⟩:=r.get h2;have hl:=r.length;have hn:=kO;have fin:EP X pins Y Q w s:=⟨z,H,I,U,q⟩
 by_cases J:0<=i
 .have V:i.toNat=j:=by rw[seqIndex_of J h5] at h1;exact Pn h1
  exact item_listR A.isList J (by omega) (by rw[V];simpa using g) fin N
 .have V:(i+(its.toArray.size:Int)).toNat=j:=by rw[seqIndex_neg (by omega) h4] at h1;rw[O4,<-hl];exact Pn h1
  exact subscriptTail_builtinR (x:=w) A.isList.typeIs slot_list_getitem.lookup
   (wpAny_getItem_list_neg (Q:=λr s'=>r=w/\EP X pins Y Q r s') A.isList (by omega) (by rw[O4]<;>omega) (by omega) (by rw[V];simpa using g) ⟨rfl,fin⟩) N
theorem E5:As X (wM X.K):=by
 intro value slice pins s Y H x y v u Q I a P h N;obtain⟨p,xs,i,z,rfl,rfl,B,R,q⟩:=h;cases a;obtain⟨t,rfl⟩:=P;obtain⟨its,r,A,hz⟩:=I.tuple B;obtain⟨j,h1,h2,h3,h4,h5⟩:=oA R;obtain⟨w,g,U⟩:=r.get h2;have hl:=r.length;have hn:=kO;have fin:EP X pins Y Q w s:=⟨z,H,I,U,q⟩
 exact subscriptTail_builtinR (x:=w) A.typeIs slot_tuple_getitem.lookup
  (getItem_tuple (j:=j) (Q:=λr s'=>r=w/\EP X pins Y Q r s') A (by omega) (by omega) (by rw[O4,<-hl];exact h1) (by simpa using g) ⟨rfl,fin⟩) N
theorem FY:As X Ly:=by
 intro value slice pins s Y H x y v u Q I a P h N;obtain⟨z,i,c,rfl,rfl,hz,R,q⟩:=h;obtain⟨t,rfl⟩:=a;obtain⟨t',rfl⟩:=P;obtain⟨j,h1,h2,h3,h4,h5⟩:=oA R;have hl:z.cps.toList.length=z.length:=by simp[WI]
 rw[hl] at h1 h4 h5;have hn:=kO;exact tail_any (typeIs_str s z t) slot_str_getitem.lookup (getItem_str (c:=c) (by have J:decide (i < -(2^63:Int))=false:=decide_eq_false (by omega);have l:decide (i≥2^63)=false:=decide_eq_false (by omega);rw[J,l,Bool.or_false]) (by rw[h1];simpa using h2) ⟨.str ⟨#[c]⟩,H,I.tok _,⟨_,rfl⟩,q⟩) N
def N8(K:O2):R2:=λx y H Q=>Le K x y H Q\/wM K x y H Q\/Ly x y H Q
theorem GQ:As X (N8 X.K):=Ak.or (E5.or FY)
theorem qO(its:List Value)(n j:Nat)(u:Value):Rh (·.setIfInBounds j u) { cls:=.type "list",data:=.seq its.toArray n }={ cls:=.type "list",data:=.seq (its.set j u).toArray n }:=by simp[Rh]
theorem Inv.lst{xs:List V}(I:Inv X pins Y H s)(h:H p=some (.lst xs)):
  ∃(its:List Value)(n:Nat),Vals xs its/\s.heap.get? p=some { cls:=.type "list",data:=.seq its.toArray n }/\xs.length<=sizeLine:=by
 obtain⟨z,its,n,r,e⟩:=I.hok p _ h;exact⟨its,n,r,e,z⟩
theorem Inv.Ib{xs ys:List V}{n y:Nat}{f:Obj->Obj}(I:Inv X pins Y H s)(h:H p=some (.lst xs))
  (ho:s.heap.get? p=some { cls:=.type "list",data:=.seq its.toArray n })(hf:f { cls:=.type "list",data:=.seq its.toArray n }={ cls:=.type "list",data:=.seq its'.toArray y })(r:Vals ys its')(hz:ys.length<=sizeLine)(t:Nat):
  Inv X pins Y (upd H p (.lst ys)) { s with heap:=s.heap.update p f,toks:=t }:=by
 have e:(s.heap.update p f).get? p=some { cls:=.type "list",data:=.seq its'.toArray y }:=by rw[Um f ho (by rw[hf]<;>rfl),hf]
 refine I.write (x:=p) (e:=p) (by rw[h];trivial) (.inl rfl) (λb u d q=>(Uc _ _ (QM d)).trans q) ⟨_,e⟩ ?_;exact⟨hz,its',y,r,e⟩
def D6:V->V->V->Hp->(Hp->Prop)->Prop:=λo i v H Q=>∃p xs k j,o=.ref p/\i=.int k/\H p=some (.lst xs)/\nR xs.length k=some j/\Q (upd H p (.lst (xs.set j v)))
theorem set_list:LK X D6:=by
 intro pins s Y H o i v C E u Q I x K rv h;obtain⟨p,xs,k,j,rfl,rfl,hp,V,q⟩:=h;cases x;obtain⟨t,rfl⟩:=K;obtain⟨its,n,r,ho,hz⟩:=I.lst hp;obtain⟨h1,h2,h3,h4⟩:=tf V;have hl:=r.length;have hn:=kO;have z:Inv X pins Y (upd H p (.lst (xs.set j v))) { s with heap:=s.heap.update p (Rh (·.setIfInBounds j u)) }:=
  I.Ib hp ho (qO its n j u) (r.set rv j) (by rw[List.length_set];exact hz) s.toks
 by_cases J:0<=k
 .have hk:k.toNat=j:=by rw[seqIndex_of J h4] at h1;exact Pn h1
  exact PySem.W.ki_setAt ho J (by omega) (by rw[O4,<-hl];exact h4) (by rw[hk];exact⟨_,z,q⟩)
 .have hk:(k+(its.toArray.size:Int)).toNat=j:=by rw[seqIndex_neg (by omega) h3] at h1;rw[O4,<-hl];exact Pn h1
  exact PySem.W.ki_setBack ho (by omega) (by rw[O4,<-hl];exact h3) (by omega) (by rw[hk];exact⟨_,z,q⟩)
theorem oH(lo hi:Option Int)(n:Nat):(sliceBounds lo hi none n).1=((HT.cb n 0 lo:Nat):Int)/\(sliceBounds lo hi none n).2.1=((HT.cb n n hi:Nat):Int)/\(sliceBounds lo hi none n).2.2=1:=by
 refine⟨?_,?_,rfl⟩
 .cases lo with
  |none=>simp[sliceBounds,HT.cb]
  |some i=>
   simp only[sliceBounds,HT.cb,UW,show (1:Int) > 0 by decide,if_true];by_cases h:i<0
   .simp only[h,if_true]<;>omega
   .simp only[h,if_false]<;>omega
 .cases hi with
  |none=>simp[sliceBounds,HT.cb]
  |some i=>
   simp only[sliceBounds,HT.cb,UW,show (1:Int) > 0 by decide,if_true];by_cases h:i<0
   .simp only[h,if_true]<;>omega
   .simp only[h,if_false]<;>omega
theorem lN(its:List Value)(lo hi:Option Int):slicePick its.toArray lo hi none=((its.drop (HT.cb its.length 0 lo)).take (HT.cb its.length its.length hi-HT.cb its.length 0 lo)).toArray:=by obtain⟨h1,h2,h3⟩:=oH lo hi its.toArray.size;unfold slicePick;rw[h1,h2,h3];simp only[sliceRange_one,pick_run,O4]<;>rfl
def M5(K:O2):V->Option Int->Option Int->Hp->VK->Prop:=λx lo hi H Q=>∃a xs,x=.ref a/\eX K H a xs/\∀p,H p=none->Q (.ref p) (upd H p (.lst (oC xs lo hi)))
theorem Dj:gv X (M5 X.K):=by intro pins s Y H x v w c lo hi sl Q I E N A C h;obtain⟨a,xs,rfl,L,q⟩:=h;cases E;obtain⟨its,r,j,hz⟩:=I.list L;have z:=r.length;refine⟨"list",_,slot_list_getitem.lookup,j.isList.typeIs,?_⟩;refine wpAny_getItem_list_slice j.isList N A C .none (by simp) ?_ (by rw[O4]<;>omega);rw[lN,<-z];refine⟨.ref s.heap.objs.size,_,I.laid (t':=s.toks) (o:=.lst (oC xs lo hi)) (λb ob q=>O8 _ q) (Pf _) ?_,rfl,q _ (I.hok.fresh (Pf _))⟩;exact⟨Px (jr xs lo hi) hz,_,0,(r.drop (HT.cb xs.length 0 lo)).take (HT.cb xs.length xs.length hi-HT.cb xs.length 0 lo),Pu _ rfl⟩
noncomputable def fH:V->Bool
 | .non=>true
 | .bl _=>true
 | .int _=>true
 | .str _=>true
 |_=>false
noncomputable def Bg:V->V->Bool
 | .non,.non=>true
 | .bl a,.bl b=>a==b
 | .bl a,.int b=>(if a then 1 else 0)==b
 | .int a,.bl b=>a==(if b then 1 else 0)
 | .int a,.int b=>a==b
 | .str a,.str b=>a==b
 |_,_=>false
theorem bO{A:Around}(P:RelV y u)(E:RelV x v)(h:fH y=true)(fx:fH x=true):Ru A s u v (Bg y x):=by
 cases y with
 |non=>
  cases P;cases x with
  |non=>cases E;exact Ru.same _
  |bl b=>cases E;exact Ru.none_bool b
  |int b=>obtain⟨t,rfl⟩:=E;exact Ru.none_int b t
  |str b=>obtain⟨t,rfl⟩:=E;exact Ru.none_str b t
  |_=>exact absurd (show false=true from fx) PL
 |bl a=>
  cases P;cases x with
  |non=>cases E;exact Ru.bool_none a
  |bl b=>cases E;exact Ru.bool_bool a b
  |int b=>obtain⟨t,rfl⟩:=E;exact Ru.bool_int a b t
  |str b=>obtain⟨t,rfl⟩:=E;exact Ru.bool_str a b t
  |_=>exact absurd (show false=true from fx) PL
 |int a=>
  obtain⟨t',rfl⟩:=P;cases x with
  |non=>cases E;exact Ru.int_none a t'
  |bl b=>cases E;exact Ru.int_bool a t' b
  |int b=>obtain⟨t,rfl⟩:=E;exact Ru.int_int a t' b t
  |str b=>obtain⟨t,rfl⟩:=E;exact TY a t' b t
  |_=>exact absurd (show false=true from fx) PL
 |str a=>
  obtain⟨t',rfl⟩:=P;cases x with
  |non=>cases E;exact Ru.str_none a t'
  |bl b=>cases E;exact Ru.str_bool a t' b
  |int b=>obtain⟨t,rfl⟩:=E;exact TZ a t' b t
  |str b=>obtain⟨t,rfl⟩:=E;exact Ru.str_str a t' b t
  |_=>exact absurd (show false=true from fx) PL
 |_=>exact absurd (show false=true from h) PL
def sx(x:V)(u:Value):Bool:=match u with
 | .none=>Bg .non x
 | .bool b=>Bg (.bl b) x
 | .int i _=>Bg (.int i) x
 | .str z _=>Bg (.str z) x
 |_=>false
theorem zm(r:RelV y u)(f:fH y=true):sx x u=Bg y x:=by
 cases y with
 |non=>cases r;rfl
 |bl b=>cases r;rfl
 |int i=>obtain⟨t,rfl⟩:=r;rfl
 |str z=>obtain⟨t,rfl⟩:=r;rfl
 |_=>exact absurd (show false=true from f) PL
theorem ik{x:V}:∀{xs:List V}{us:List Value},Vals xs us->xs.all fH=true->us.any (sx x)=xs.any λy=>Bg y x
 |_,_,.nil,_=>rfl
 |y::xs,u::us,.cons r t,f=>by rw[P4,O3] at f;rw[Qt,Qt,zm r f.1,ik t f.2]
theorem fZ{A:Around}{s:Shared}{x:V}{v:Value}(a:RelV x v)(fx:fH x=true):∀{xs:List V}{us:List Value},Vals xs us->xs.all fH=true->∀u∈us,Ru A s u v (sx x u)
 |_,_,.nil,_=>λu D=>by cases D
 |y::xs,u::us,.cons r t,f=>λq D=>by
  rw[P4,O3] at f;rcases Po.mp D with rfl|D
  .rw[zm r f.1];exact bO r a f.1 fx
  .exact fZ a fx t f.2 q D
def IM(x:V)(xs:List V):Bool:=xs.any λy=>Bg y x
def Md(K:O2)(neg:Bool):R2:=λx y H Q=>∃p xs,y=.ref p/\(eX K H p xs\/dz K H p xs)/\fH x=true/\xs.all fH=true/\Q (.bl (if neg then !IM x xs else IM x xs)) H
theorem l9:cP X (compareOp .In) (Md X.K false):=by
 intro pins s Y H x y v u Q I a P h;obtain⟨p,xs,rfl,B,fx,fs,q⟩:=h;cases P;rcases B with B|B
 .obtain⟨its,r,A,hz⟩:=I.list B;refine Vc (sx x) A.isList (λw G=>fZ a fx r fs w (by simpa using G)) ⟨.bl _,H,I,rfl,?_⟩;rw[show its.toArray.any (sx x)=its.any (sx x) by simp,ik r fs];exact q
 .obtain⟨its,r,A,hz⟩:=I.tuple B;refine SeqAt.in_tupleAt (sx x) A (λw G=>fZ a fx r fs w (by simpa using G)) ⟨.bl _,H,I,rfl,?_⟩;rw[show its.toArray.any (sx x)=its.any (sx x) by simp,ik r fs];exact q
theorem iH:cP X (compareOp .NotIn) (Md X.K true):=by
 intro pins s Y H x y v u Q I a P h;obtain⟨p,xs,rfl,B,fx,fs,q⟩:=h;cases P;rcases B with B|B
 .obtain⟨its,r,A,hz⟩:=I.list B;refine UM (sx x) A.isList (λw G=>fZ a fx r fs w (by simpa using G)) ⟨.bl _,H,I,rfl,?_⟩;rw[show its.toArray.any (sx x)=its.any (sx x) by simp,ik r fs];exact q
 .obtain⟨its,r,A,hz⟩:=I.tuple B;refine SeqAt.notIn_tupleAt (sx x) A (λw G=>fZ a fx r fs w (by simpa using G)) ⟨.bl _,H,I,rfl,?_⟩;rw[show its.toArray.any (sx x)=its.any (sx x) by simp,ik r fs];exact q
theorem ng:bE X (.type "list") (λxs H Q=>∃p ys,xs=[.ref p]/\(eX X.K H p ys\/dz X.K H p ys)/\∀l,H l=none->Q (.ref l) (upd H l (.lst ys))):=by
 intro pins s Y H xs us Q I r h;obtain⟨p,ys,rfl,B,q⟩:=h;obtain⟨u,rfl,E⟩:=vals1 r;cases E;have fin:∀(its:List Value),Vals ys its->ys.length<=sizeLine->∀(h':Heap)(t:Nat),(∀b o',s.heap.get? b=some o'->h'.get? b=some o')->
   h'.get? s.heap.objs.size=some { cls:=.type "list",dict:=none,data:=.seq its.toArray t,slots:=#[] }->EP X pins Y Q (.ref s.heap.objs.size) { s with heap:=h' }:=λits a hz h' t kp e=>
  ⟨.ref s.heap.objs.size,_,I.laid (t':=s.toks) kp (Pf _) (show aL X.prog X.w _ h' _ (.lst ys) from ⟨hz,its,t,a,e⟩),rfl,q _ (I.hok.fresh (Pf _))⟩
 rcases B with B|B
 .obtain⟨its,a,A,hz⟩:=I.list B;have z:=a.length;obtain⟨o,ho,hc,n,hd⟩:=A.isList;exact call_list_seq p (.inl rfl) ho hc hd (λh' t kp e=>fin its a hz h' t kp e) (by simp only[O4]<;>omega)
 .obtain⟨its,a,A,hz⟩:=I.tuple B;have z:=a.length;obtain⟨o,ho,hc,n,hd⟩:=A;exact call_list_seq p (.inr rfl) ho hc hd (λh' t kp e=>fin its a hz h' t kp e) (by simp only[O4]<;>omega)
theorem lM:bE X (.type "tuple") (λxs H Q=>∃p ys,xs=[.ref p]/\((eX X.K H p ys/\∀l,H l=none->Q (.ref l) (upd H l (.tup ys)))\/(dz X.K H p ys/\Q (.ref p) H))):=by
 intro pins s Y H xs us Q I r h;obtain⟨p,ys,rfl,h⟩:=h;obtain⟨u,rfl,E⟩:=vals1 r;cases E;rcases h with ⟨B,q⟩|⟨B,q⟩
 .obtain⟨its,a,A,hz⟩:=I.list B;have z:=a.length;refine call_tuple_list A.isList (λh' kp=>?_) (by simp only[O4]<;>omega);have j:Inv X pins Y H { s with heap:=h' }:=I.kept (t':=s.toks) kp;have x:Inv X pins Y (upd H h'.objs.size (.tup ys)) { s with heap:=h'.push { cls:=.type "tuple",data:=.seq its.toArray } }:=
   j.laid (t':=s.toks) (λb o e=>O8 _ e) (Pf _) (show aL X.prog X.w _ _ _ (.tup ys) from ⟨hz,its,a,eU.new _ _⟩)
  exact⟨.ref h'.objs.size,_,x,rfl,q _ (j.hok.fresh (Pf _))⟩
 .obtain⟨its,a,A,hz⟩:=I.tuple B;exact call_tuple_same A ⟨.ref p,H,I,rfl,q⟩
def L9(K:O2)(T:String)(x:V)(H:Hp):Prop:=match x with
 | .str _=>T = "str"
 | .int _=>T = "int"
 | .ref p=>(T = "list" /\ ∃xs,eX K H p xs)\/(T = "tuple" /\ ∃o,K.lookup p=some o/\o.cls=.type "tuple" /\ o.dict=none) \/
   (T = "dict" /\ ((∃kvs,H p=some (.dK kvs))\/∃kvs,H p=some (.dT kvs)))\/(T = "set" /\ ∃S n,H p=some (.set S n))
 |_=>False
theorem xg(I:Inv X pins Y H s)(r:RelV x v)(ty:L9 X.K T x H):
  s.TypeIs v T/\∀a,v=.ref a->∃ob,s.heap.get? a=some ob/\ob.dict=none:=by
 cases x with
 |str z=>obtain⟨t,rfl⟩:=r;cases (show T = "str" from ty);exact⟨typeIs_str s z t,λ_ e=>nomatch e⟩
 |int i=>obtain⟨t,rfl⟩:=r;cases (show T = "int" from ty);exact⟨typeIs_int s i t,λ_ e=>nomatch e⟩
 |ref p=>
  cases r;rcases ty with ⟨rfl,xs,B⟩|⟨rfl,o,hk,hc,hd⟩|⟨rfl,hk⟩|⟨rfl,S,n,hk⟩
  .obtain⟨its,_,A,_⟩:=I.list B;refine⟨A.isList.typeIs,λa e=>?_⟩;cases e;obtain⟨o,n,e,c,hd,_⟩:=A;exact⟨o,e,hd⟩
  .refine⟨⟨o,I.ym p o hk,hc⟩,λa e=>?_⟩;cases e;exact⟨o,I.ym _ o hk,hd⟩
  .have z:∃o,s.heap.get? p=some o/\o.ExactDict:=by
    rcases hk with ⟨kvs,hk⟩|⟨kvs,hk⟩
    .obtain⟨_,_,_,_,o,_,_,e,ex,_⟩:=I.hok p _ hk;exact⟨o,e,ex⟩
    .obtain⟨_,_,_,_,o,_,_,e,ex,_⟩:=I.hok p _ hk;exact⟨o,e,ex⟩
   obtain⟨o,e,ex⟩:=z;refine⟨⟨o,e,ex.1⟩,λa l=>?_⟩;cases l;exact⟨o,e,ex.2.1⟩
  .obtain⟨o,_,_,_,e,ex,_⟩:=I.hok p _ hk;refine⟨⟨o,e,ex.1⟩,λa l=>?_⟩;cases l;exact⟨o,e,ex.2.1⟩
 |_=>exact Q6 ty
noncomputable def MO(K:O2)(T:String)(r:V->List V->Hp->VK->Prop)(to:TE):TE:=λY H Q=>to Y H λx i=>L9 K T x i/\r x [] i Q
noncomputable def NV(K:O2)(T:String)(r:V->List V->Hp->VK->Prop)(to:TE)(t:TA):TE:=λY H Q=>to Y H λx i=>L9 K T x i/\t Y i λxs e=>r x xs e Q
variable{o e:Expr}{es:List Expr}{to:TE}{t:TA}{name:Str}{apos cpos:Pos}{T id:String}{r:V->List V->Hp->VK->Prop}
theorem zy(pa:PlainAttrs T)(slot:Slot T name id)(hty:typeOf (.builtin id)=pure (.type "method_descriptor"))(hm:K9 X id r)(ho:PE X o to)
  (hbase:attributeBase o name X.env (eval o X.env)=eval o X.env:=by rfl)(hline:(apos.endLine==cpos.line)=true:=by rfl):PE X (.Call (.Attribute o name apos) [] [] cpos) (MO X.K T r to):=by
 intro pins s Y H Q I h;refine wpAny_Call_method0_late hbase hline (ba (ho pins s Y H _ I h) λv s1 ⟨x,H1,I1,r1,ty,q1⟩=>?_);obtain⟨h1,h2⟩:=xg I1 r1 ty;exact⟨T,id,pa,slot,hty,h1,h2,Ri rfl (PySem.evalArgs_none (hm pins s1 Y H1 x [] v [] Q I1 r1 .nil q1))⟩
theorem uq(pa:PlainAttrs T)(slot:Slot T name id)(hty:typeOf (.builtin id)=pure (.type "method_descriptor"))(hm:K9 X id r)(ho:PE X o to)(ha:PA X (e::es) t)
  (hbase:attributeBase o name X.env (eval o X.env)=eval o X.env:=by rfl)
  (hfew:((backTo cpos (starEach (e::es) X.env)).all (λx=>!x.1)&&(backToKw cpos (keywordEach [] X.env)).all (λx=>x.1.isSome)
   && decide ((e::es).length+([]:List Keyword).length+(if ([]:List Keyword).isEmpty then 0 else 1)<30))=true:=by rfl)
  (hline:(apos.endLine==cpos.line)=true:=by rfl) (hs:starEach (e::es) X.env=(false,eval e X.env)::starEach es X.env:=by rfl) (hplain:(backTo cpos (starEach es X.env)).any (·.1)=false:=by rfl):
  PE X (.Call (.Attribute o name apos) (e::es) [] cpos) (NV X.K T r to t):=by
 intro pins s Y H Q I h;refine wpAny_Call_method_late hbase hfew hline rfl (ba (ho pins s Y H _ I h) λv s1 ⟨x,H1,I1,r1,ty,q1⟩=>?_);obtain⟨h1,h2⟩:=xg I1 r1 ty;refine⟨T,id,pa,slot,hty,h1,h2,?_⟩;have hA:=ha cpos pins s1 Y H1 _ I1 q1;rw[hs] at hA ⊢;refine Ri (by show (false || (backTo cpos (starEach es X.env)).any (·.1))=false;rw[hplain]<;>rfl) (RB ?_);exact ba hA λus s2 ⟨vs,H2,I2,r2,q2⟩=>hm pins s2 Y H2 x vs v us Q I2 r1 r2 q2
end
def Jn(X:Cx)(id:String)(r:V->List V->Hp->VK->Prop):Prop:=
 ∀(pins:List (Addr×Obj))(s:Shared)(Y:St)(H:Hp)(x:V)(xs:List V)(v:Value)(us:List Value)(Q:VK),Inv X pins Y H s->RelV x v->Vals xs us->r x xs H Q->
  wpAny (model X.prog X.w) X.A (call (.builtin id) (v::us)) (EP X pins Y Q) X.xe s
theorem Vals.one:∀{x:V}{us:List Value},Vals [x] us->∃u,us=[u]/\RelV x u
 |_,_,.cons r .nil=>⟨_,rfl,r⟩
theorem Vals.zero:∀{us:List Value},Vals [] us->us=[]
 |_,.nil=>rfl
theorem Vals.dropLast{xs:List V}{us:List Value}(h:Vals xs us):Vals xs.dropLast us.dropLast:=by
 induction h with
 |nil=>exact .nil
 |cons r t m=>
  cases t with
  |nil=>exact .nil
  |cons q t'=>exact .cons r m
theorem Vals.eraseIdx:∀{xs:List V}{us:List Value}(i:Nat),Vals xs us->Vals (xs.eraseIdx i) (us.eraseIdx i)
 |_,_,_,.nil=>.nil
 |_,_,0,.cons _ t=>t
 |_,_,i+1,.cons r t=>.cons r (Vals.eraseIdx i t)
theorem rL(l:List α):l.eraseIdx (l.length-1)=l.dropLast:=by
 induction l with
 |nil=>rfl
 |cons a r m=>
  cases r with
  |nil=>rfl
  |cons b r=>
   have e:(a::b::r).length-1=((b::r).length-1)+1:=by have h1:(a::b::r).length=r.length+2:=rfl;have h2:(b::r).length=r.length+1:=rfl;omega
   rw[e,List.eraseIdx_cons_succ,m]
   all_goals rfl
theorem mV{α:Type}:∀(l:List α)(i:Nat),(l.eraseIdx i).length<=l.length
 |[],_=>Pf _
 |_::_,0=>RU _
 |_::r,i+1=>Nat.succ_le_succ (mV r i)
variable{t':Nat}
section
variable{X:Cx}{pins:List (Addr×Obj)}{Y:St}{H:Hp}{s:Shared}{l b:Addr}{xs ys zs:List V}
theorem Inv.xU{n:Nat}{f:Array Value->Array Value}(I:Inv X pins Y H s)(Q:H l=some (.lst xs))
  (e:s.heap.get? l=some { cls:=.type "list",data:=.seq its.toArray n })(hf:f its.toArray=its'.toArray)(B:Vals ys its')(hz:ys.length<=sizeLine):
  Inv X pins Y (upd H l (.lst ys)) { s with heap:=s.heap.update l (Rh f),toks:=t' }:=by
 have q:=PySem.IsL.update e f;rw[hf] at q;refine I.write (x:=l) (e:=l) (by rw[Q];exact trivial) (.inl rfl) (λh u d D=>(Uc s.heap (Rh f) (QM d)).trans D) ⟨_,q⟩ ?_;exact⟨hz,its',_,B,q⟩
theorem Inv.Nt(I:Inv X pins Y H s)(B:Vals ys its)(hz:ys.length<=sizeLine):
  Inv X pins Y (upd H s.heap.objs.size (.lst ys)) { s with heap:=s.heap.push { cls:=.type "list",data:=.seq its.toArray },toks:=t' }:=
 I.laid (λ_ _ q=>O8 _ q) (Pf _) ⟨hz,its,0,B,Pu _ rfl⟩
theorem Inv.fresh(I:Inv X pins Y H s):H s.heap.objs.size=none:=I.hok.fresh (Pf _)
theorem Inv.xt(I:Inv X pins Y H s)(Q:H l=some (.lst xs)):xs.length<=sizeLine/\∃(its:List Value)(n:Nat),Vals xs its/\xs.length=its.length/\s.heap.get? l=some { cls:=.type "list",data:=.seq its.toArray n }:=by obtain⟨z,its,n,r,e⟩:=I.hok l _ Q;exact⟨z,its,n,r,r.length,e⟩
theorem xn{n:Nat}(h:n<=sizeLine):Q4 n=false:=by unfold Q4;exact decide_eq_false (by omega)
end
section
variable{X:Cx}
def AS:V->List V->Hp->VK->Prop:=λx vs H Q=>∃l xs y,x=.ref l/\vs=[y]/\H l=some (.lst xs)/\xs.length<sizeLine/\Q .non (upd H l (.lst (xs++[y])))
theorem u3:Jn X "list.append" AS:=by intro pins s Y H x vs v us Q I a rv h;obtain⟨l,xs,y,rfl,rfl,S,hz,q⟩:=h;cases a;obtain⟨u,rfl,g⟩:=rv.one;obtain⟨z,its,n,r,hl,e⟩:=I.xt S;refine call_meets F.slot_list_append ⟨_,e,rfl⟩ F.entry_list_append (F.args_list_append_2 _ _) (PySem.list_append l its.toArray n u (by rw[O4];omega)) ⟨e,?_⟩;refine⟨.non,_,I.xU (its':=its++[u]) S e (by simp) (r.append (.cons g .nil)) ?_,rfl,q⟩;rw[Pk,QZ];omega
def NF:V->List V->Hp->VK->Prop:=λx vs H Q=>∃l xs y,x=.ref l/\vs=[]/\H l=some (.lst xs)/\xs[xs.length-1]?=some y/\Q y (upd H l (.lst xs.dropLast))
theorem Fz:Jn X "list.pop" NF:=by
 intro pins s Y H x vs v us Q I a rv h;obtain⟨l,xs,y,rfl,rfl,S,m,q⟩:=h;cases a;have T:=rv.zero;subst T;obtain⟨z,its,n,r,hl,e⟩:=I.xt S;obtain⟨u,D,g⟩:=r.get m;have f:its.toArray[its.toArray.size-1]?=some u:=by show its.toArray[its.length-1]?=some u;rw[<-Qc,<-hl];exact D
 refine call_meets VN ⟨_,e,rfl⟩ VF (F.args_list_pop_1 _) (MeetsSeq.list_pop_last l its.toArray n u f (by rw[O4];omega)) ⟨e,?_⟩;refine⟨y,_,I.xU (its':=its.dropLast) S e ?_ r.dropLast ?_,g,q⟩
 .show its.toArray.eraseIdxIfInBounds (its.toArray.size-1)=its.dropLast.toArray;rw[O4,SY,rL]
 .rw[List.length_dropLast];omega
def Gm:V->List V->Hp->VK->Prop:=λx vs H Q=>∃l xs i k y,x=.ref l/\vs=[.int i]/\H l=some (.lst xs) /\ -(2^63)<=i/\i<2^63/\seqIndex? i xs.length=some k/\xs[k]?=some y/\Q y (upd H l (.lst (xs.eraseIdx k)))
theorem xK:Jn X "list.pop" Gm:=by
 intro pins s Y H x vs v us Q I a rv h;obtain⟨l,xs,i,k,y,rfl,rfl,S,h1,h2,hk,m,q⟩:=h;cases a;obtain⟨u,rfl,g⟩:=rv.one;obtain⟨t,rfl⟩:=g;obtain⟨z,its,n,r,hl,e⟩:=I.xt S;obtain⟨w,G,U⟩:=r.get m;refine call_meets VN ⟨_,e,rfl⟩ VF (F.args_list_pop_2 _ _)
  (MeetsSeq.list_pop_at l its.toArray n i t k w (fitsIndex_both h1 h2) (by rw[O4,<-hl];exact hk) (by rw[<-Qc];exact G) (by rw[O4];omega)) ⟨e,?_⟩
 refine⟨y,_,I.xU (its':=its.eraseIdx k) S e ?_ (r.eraseIdx k) ?_,U,q⟩
 .show its.toArray.eraseIdxIfInBounds k=(its.eraseIdx k).toArray;rw[SY]
 .have:=mV xs k;omega
def Fv:V->List V->Hp->VK->Prop:=λx vs H Q=>∃l xs,x=.ref l/\vs=[]/\H l=some (.lst xs)/\Q .non (upd H l (.lst []))
theorem wo:Jn X "list.clear" Fv:=by intro pins s Y H x vs v us Q I a rv h;obtain⟨l,xs,rfl,rfl,S,q⟩:=h;cases a;have T:=rv.zero;subst T;obtain⟨z,its,n,r,hl,e⟩:=I.xt S;refine call_meets F.slot_list_clear ⟨_,e,rfl⟩ F.entry_list_clear (F.args_list_clear_1 _) (AutoSeq1.list_clear_list_0 l its.toArray n (by rw[O4];omega)) ⟨e,?_⟩;exact⟨.non,_,I.xU (its':=[]) (ys:=[]) S e rfl .nil (Qm _),rfl,q⟩
end
section
variable{prog:Program}{w:World}{A:Around}{E:Value->Shared->Prop}{s:Shared}
set_option maxRecDepth 100000 in
end
variable{o:Option V}
section
variable{κ:Type}[DecidableEq κ]
noncomputable def iF(kvs:List (κ×V))(k:κ):Option V:=(kvs.find? λs=>decide (s.1=k)).map (·.2)
noncomputable def putK(kvs:List (κ×V))(k:κ)(v:V):List (κ×V):=
 if (kvs.any λs=>decide (s.1=k))=true then kvs.map (λs=>if s.1=k then (s.1,v) else s) else kvs++[(k,v)]
theorem k8{p:κ×V}{r:List (κ×V)}{k:κ}(e:p.1=k):iF (p::r) k=some p.2:=by simp[iF,Qi,e]
theorem kE{p:κ×V}{r:List (κ×V)}{k:κ}(e:¬ p.1=k):iF (p::r) k=iF r k:=by simp[iF,Qi,e]
theorem qE(k:κ):∀kvs:List (κ×V),(kvs.any λs=>decide (s.1=k))=(iF kvs k).isSome
 |[]=>rfl
 |p::r=>by
  rw[Qt];by_cases e:p.1=k
  .simp only[k8 e,decide_eq_true e,Bool.true_or,Option.isSome_some]
  .rw[kE e,decide_eq_false e,VG];exact qE k r
theorem jx(kvs:List (κ×V))(k:κ)(v:V):(putK kvs k v).length<=kvs.length+1:=by
 unfold putK;split
 .rw[O5];omega
 .rw[Pk,Pl,Vo];omega
theorem iZ.eu{u:Option Value}(r:iZ o u):o.isSome=u.isSome:=by
 cases o with
 |none=>cases u with
  |none=>rfl
  |some _=>exact(show False from r).elim
 |some _=>cases u with
  |none=>exact(show False from r).elim
  |some _=>rfl
theorem iZ.getD{o:Option V}{u:Option Value}{d:V}{d':Value}(r:iZ o u)(rd:RelV d d'):RelV (o.getD d) (u.getD d'):=by
 cases o with
 |none=>cases u with
  |none=>exact rd
  |some _=>exact(show False from r).elim
 |some _=>cases u with
  |none=>exact(show False from r).elim
  |some _=>exact r
theorem KV.val{kvs:List (κ×V)}{vs:List (κ×Value)}(r:KV kvs vs)(k:κ):iZ (iF kvs k) (valueAt vs k):=by
 unfold KV at r;induction r with
 |nil=>exact SJ
 |@cons p q ps X h t m=>
  obtain⟨h1,h2⟩:=h;by_cases e:p.1=k
  .have e':q.1=k:=h1.symm.trans e;have b:valueAt (q::X) k=some q.2:=by simp[valueAt,Qi,e']
   rw[k8 e,b];exact h2
  .have e':¬ q.1=k:=λz=>e (h1.trans z);have b:valueAt (q::X) k=valueAt X k:=by simp[valueAt,Qi,e']
   rw[kE e,b];exact m
theorem KV.any{kvs:List (κ×V)}{vs:List (κ×Value)}(r:KV kvs vs)(k:κ):(kvs.any λs=>decide (s.1=k))=vs.any λs=>decide (s.1=k):=by
 unfold KV at r;induction r with
 |nil=>rfl
 |cons h t m=>rw[Qt,Qt,m,h.1]
theorem KV.qY{kvs:List (κ×V)}{vs:List (κ×Value)}(r:KV kvs vs)(k:κ)(P:RelV y u):
  KV (kvs.map λs=>if s.1=k then (s.1,y) else s) (vs.map λs=>if s.1=k then (s.1,u) else s):=by
 unfold KV at r ⊢;induction r with
 |nil=>exact .nil
 |@cons p q ps X h t m=>
  rw[Pg,Pg];refine .cons ?_ m;obtain⟨h1,h2⟩:=h;by_cases e:p.1=k
  .rw[if_pos e,if_pos (h1.symm.trans e)];exact⟨h1,P⟩
  .rw[if_neg e,if_neg (λz=>e (h1.trans z))];exact⟨h1,h2⟩
theorem KV.put{kvs:List (κ×V)}{vs:List (κ×Value)}(r:KV kvs vs)(k:κ)(P:RelV y u):KV (putK kvs k y) (stored vs k u):=by
 unfold putK stored;rw[r.any k];by_cases e:(vs.any λs=>decide (s.1=k))=true
 .rw[if_pos e,if_pos e];exact r.qY k P
 .rw[if_neg e,if_neg e];exact Ud r ⟨rfl,P⟩
theorem KV.keys{kvs:List (κ×V)}{vs:List (κ×Value)}(r:KV kvs vs):kvs.map (·.1)=vs.map (·.1):=by
 unfold KV at r;induction r with
 |nil=>rfl
 |cons h t m=>rw[Pg,Pg,m,h.1]
theorem KV.length{kvs:List (κ×V)}{vs:List (κ×Value)}(r:KV kvs vs):kvs.length=vs.length:=RO r
end
variable{P:Program}{w:World}
theorem lR{k:Key}(r:RelV (kV k) u):(aO P w).is k u=true:=by
 cases k with
 |inl i=>obtain⟨t,e⟩:=(show ∃t,u=Sf i t from r);subst e;exact p9 P w i t
 |inr x=>obtain⟨t,e⟩:=(show ∃t,u=TV x t from r);subst e;exact qe P w x t
theorem jh{P:Program}{w:World}:∀{ks:List Key}{us:List Value},Vals (ks.map kV) us->ItemsAre (aO P w) ks us
 |[],_,r=>by rw[RG] at r;cases r;exact .nil
 |k::ks,_,r=>by
  rw[Pg] at r;cases r with
  |cons h t=>exact .cons (lR h) (jh t)
abbrev KT(H:Hp):List (List Key×V)->List (List Key×Addr×Value)->Prop:=Paired λp q=>p.1=q.1/\H q.2.1=some (.tup (p.1.map kV))/\RelV p.2 q.2.2
variable{kvs:List (List Key×V)}{xs:List (List Key×Addr×Value)}
theorem KT.val(r:KT H kvs xs)(k:List Key):iZ (iF kvs k) ((atKey xs k).map (·.2)):=by
 induction r with
 |nil=>exact SJ
 |@cons p q ps X h t m=>
  obtain⟨h1,_,h2⟩:=h;by_cases e:p.1=k
  .have e':q.1=k:=h1.symm.trans e;have b:atKey (q::X) k=some q.2:=by simp[atKey,Qi,e']
   rw[k8 e,b];exact h2
  .have e':¬ q.1=k:=λz=>e (h1.trans z);have b:atKey (q::X) k=atKey X k:=by simp[atKey,Qi,e']
   rw[kE e,b];exact m
theorem KT.qY(r:KT H kvs xs)(k:List Key)(P:RelV y u):
  KT H (kvs.map λs=>if s.1=k then (s.1,y) else s) (xs.map (putAt k u)):=by
 induction r with
 |nil=>exact .nil
 |@cons p q ps X h t m=>
  rw[Pg,Pg];refine .cons ?_ m;obtain⟨h1,h2,h3⟩:=h;unfold putAt;by_cases e:p.1=k
  .rw[if_pos e,if_pos (h1.symm.trans e)];exact⟨h1,h2,P⟩
  .rw[if_neg e,if_neg (λz=>e (h1.trans z))];exact⟨h1,h2,h3⟩
theorem KT.put(r:KT H kvs xs)(k:List Key){b:Addr}(d:H b=some (.tup (k.map kV)))(P:RelV y u):
  KT H (putK kvs k y) (storedH xs k b u):=by
 have e:(kvs.any λs=>decide (s.1=k))=(atKey xs k).isSome:=by rw[qE,(r.val k).eu,SK]
 unfold putK storedH;rw[e];by_cases q:(atKey xs k).isSome=true
 .rw[if_pos q,if_pos q];exact r.qY k P
 .rw[if_neg q,if_neg q];exact Ud r ⟨rfl,d,P⟩
variable{H':Hp}
theorem KT.keeps(r:KT H kvs xs)(j:∀b ys,H b=some (.tup ys)->H' b=some (.tup ys)):KT H' kvs xs:=
 Paired.FV r λ_ _ z=>⟨z.1,j _ _ z.2.1,z.2.2⟩
section
variable{P:Program}{w:World}{H:Hp}{h:Heap}{a:Addr}
theorem DC{u:HO}(ok:gb P w H h)(e:Rd H a u):aL P w H h a u:=e.ok ok
theorem fh{kvs:List (Key×V)}(ok:gb P w H h)(e:Rd H a (.dK kvs)):kvs.length<=sizeLine/\(a==sysModules)=false/\∃vs,KV kvs vs/\h.DictOf (aO P w) a vs:=
 show aL P w H h a (.dK kvs) from DC ok e
theorem Ej{kvs:List (Key×V)}(ok:gb P w H h)(e:H a=some (.dK kvs)):kvs.length<=sizeLine/\(a==sysModules)=false/\∃vs,KV kvs vs/\h.DictOf (aO P w) a vs:=fh ok (.inl e)
theorem je{ks:List Key}(ok:gb P w H h)(e:H a=some (.tup (ks.map kV))):(tupleKind (aO P w)).is h ks a:=by
 obtain⟨_,its,r,o,h1,h2,n,h3,_⟩:=(show aL P w H h a (.tup (ks.map kV)) from ok a _ e)
 exact⟨o,its.toArray,n,h1,h2,h3,by simpa using jh r⟩
theorem jX(ok:gb P w H h)(e:Rd H a (.dT kvs)):kvs.length<=sizeLine/\(a==sysModules)=false /\
  ∃xs,KT H kvs xs/\h.DictOfH (tupleKind (aO P w)) a xs:=by
 obtain⟨z,y,xs,r,o,es,ep,h1,h2,h3,h4,h5⟩:=(show aL P w H h a (.dT kvs) from DC ok e)
 refine⟨z,y,xs,r,o,es,ep,h1,h2,h3,h4,λx L=>?_,h5⟩;have all:∀{l:List (List Key×V)}{m:List (List Key×Addr×Value)},KT H l m->∀x∈m,(tupleKind (aO P w)).is h x.1 x.2.1:=by
  intro l m q;induction q with
  |nil=>intro x L;exact nomatch L
  |@cons p q ps X B t u=>
   intro x L;rcases Po.mp L with e|L
   .subst e;exact je ok (by rw[<-B.1];exact B.2.1)
   .exact u x L
 exact all r x L
theorem K2(ok:gb P w H h)(e:H a=some (.dT kvs)):kvs.length<=sizeLine/\(a==sysModules)=false /\
  ∃xs,KT H kvs xs/\h.DictOfH (tupleKind (aO P w)) a xs:=jX ok (.inl e)
end
def fA(H:Hp)(a:Addr)(y:V)(r:Option V):Prop:=
 (∃kvs k,Rd H a (.dK kvs)/\y=kV k/\r=iF kvs k)\/∃kvs k b,Rd H a (.dT kvs)/\y=.ref b/\H b=some (.tup (k.map kV))/\r=iF kvs k
def LB(H:Hp)(a:Addr)(y v:V)(H':Hp):Prop:=
 (∃kvs k,H a=some (.dK kvs)/\y=kV k/\kvs.length<sizeLine/\H'=upd H a (.dK (putK kvs k v))) \/
 ∃kvs k b,H a=some (.dT kvs)/\y=.ref b/\H b=some (.tup (k.map kV))/\kvs.length<sizeLine/\H'=upd H a (.dT (putK kvs k v))
variable{Q:Value->Shared->Prop}{h':Heap}
section
variable{X:Cx}{pins:List (Addr×Obj)}{Y:St}{H:Hp}{s:Shared}{a:Addr}{y v:V}{u r:Value}{o:Option V}{A:Around}{E:Value->Shared->Prop}
theorem Inv.big(I:Inv X pins Y H s):sysModules<s.heap.objs.size:=by have h:mainGlobals<s.heap.objs.size:=(I.mod.glob.keeps I.bk).lt;exact Nat.lt_trans (by decide) h
theorem vp(f:A.units+1<cLine)(I:Inv X pins Y H s)(g:fA H a y (some v))(P:RelV y u)(h:∀q s',Inv X pins Y H s'->RelV v q->Q q s'):
  wpAny (model X.prog X.w) A (getItem (.ref a) u) Q E s:=by
 rcases g with ⟨kvs,k,e,r,l⟩|⟨kvs,k,b,e,r,eb,l⟩
 .subst r;obtain⟨z,hd,vs,rel,dd⟩:=fh I.hok e;obtain⟨q,G,U⟩:=iZ.some_of (v:=v) (o:=valueAt vs k) (by rw[l];exact rel.val k);exact wpAny_getItem_of (lR P) dd.mapOf G (h q _ (I.tok _) U)
 .subst r;cases (show u=PY b from P);obtain⟨z,hd,xs,rel,dd⟩:=jX I.hok e;obtain⟨q,G,U⟩:=iZ.some_of (v:=v) (o:=(atKey xs k).map (·.2)) (by rw[l];exact rel.val k);obtain⟨p,hp,t⟩:=T2.mp G;refine wpAny_getItem_heap (tupleKind_room_in1 f) (je I.hok eb) dd hp ?_;rw[t];exact h q _ (I.tok _) U
theorem MY(f:A.units+1<cLine)(I:Inv X pins Y H s)(g:fA H a y o)(P:RelV y u)(h:∀s',Inv X pins Y H s'->Q (.bool o.isSome) s'):
  wpAny (model X.prog X.w) A (compareOp .In u (.ref a)) Q E s:=by
 rcases g with ⟨kvs,k,e,r,l⟩|⟨kvs,k,b,e,r,eb,l⟩
 .subst r;obtain⟨z,hd,vs,rel,dd⟩:=fh I.hok e;refine wpAny_in_of (lR P) hd dd.mapOf ?_;rw[<-(rel.val k).eu,<-l];exact h _ (I.tok _)
 .subst r;cases (show u=PY b from P);obtain⟨z,hd,xs,rel,dd⟩:=jX I.hok e;refine wpAny_in_heap (tupleKind_room_in1 f) (je I.hok eb) hd dd ?_;have q:=(rel.val k).eu;rw[SK] at q;rw[<-q,<-l];exact h _ (I.tok _)
theorem A7(f:A.units+1<cLine)(I:Inv X pins Y H s)(g:fA H a y o)(P:RelV y u)(h:∀s',Inv X pins Y H s'->Q (.bool (!o.isSome)) s'):
  wpAny (model X.prog X.w) A (compareOp .NotIn u (.ref a)) Q E s:=by
 rcases g with ⟨kvs,k,e,r,l⟩|⟨kvs,k,b,e,r,eb,l⟩
 .subst r;obtain⟨z,hd,vs,rel,dd⟩:=fh I.hok e;refine wpAny_notIn_of (lR P) hd dd.mapOf ?_;rw[<-(rel.val k).eu,<-l];exact h _ (I.tok _)
 .subst r;cases (show u=PY b from P);obtain⟨z,hd,xs,rel,dd⟩:=jX I.hok e;refine wpAny_notIn_heap (tupleKind_room_in1 f) (je I.hok eb) hd dd ?_;have q:=(rel.val k).eu;rw[SK] at q;rw[<-q,<-l];exact h _ (I.tok _)
theorem oD{ob:HO}(I:Inv X pins Y H s)(mu:Lv (H a))(N:R6 a s.heap h')(t:∃q,h'.get? a=some q)(new:aL X.prog X.w (upd H a ob) h' a ob):
  Inv X pins Y (upd H a ob) { s with heap:=h',toks:=t' }:=
 I.write (x:=a) (e:=a) mu (.inl rfl) (λb q d z=>(N.2 b d).trans z) t new
theorem Im{kvs:List (Key×V)}{vs:List (Key×Value)}(z:kvs.length<=sizeLine)(hd:(a==sysModules)=false)(rel:KV kvs vs)(dd:h'.DictOf (aO P w) a vs):
  aL P w H' h' a (.dK kvs):=⟨z,hd,vs,rel,dd⟩
theorem uS{Q:Unit->Shared->Prop}(f:A.units+1<cLine)(I:Inv X pins Y H s)(g:LB H a y v H')(P:RelV y u)(rv:RelV v r)(h:∀s',Inv X pins Y H' s'->Q () s'):
  wpAny (model X.prog X.w) A (setItem (.ref a) u r) Q E s:=by
 rcases g with ⟨kvs,k,e,F,l,eH⟩|⟨kvs,k,b,e,F,eb,l,eH⟩
 .subst F eH;obtain⟨z,hd,vs,rel,dd⟩:=Ej I.hok e;have hz:vs.length<=sizeLine:=by rw[<-rel.length];exact z
  have hl:(putK kvs k v).length<=sizeLine:=by have:=jx kvs k v;omega
  refine wpAny_setItem_pairs (hsz:=hz) (lR P) dd λh' x N=>h _ ?_;have t:∃q,h'.get? a=some q:=let ⟨q,_,_,B,_⟩:=x;⟨q,B⟩
  exact oD I (by rw[e];exact SJ) N t (Im hl hd (rel.put k rv) x)
 .subst F eH;cases (show u=PY b from P);obtain⟨z,hd,xs,rel,dd⟩:=K2 I.hok e;have hz:xs.length<=sizeLine:=by rw[<-RO rel];exact z
  have hl:(putK kvs k v).length<=sizeLine:=by have:=jx kvs k v;omega
  refine wpAny_setItem_heap (hsz:=hz) (tupleKind_room_in1 f) (je I.hok eb) dd λh' x N=>h _ ?_;obtain⟨q,es,ep,B,h2,h3,h4,_,h5⟩:=x;refine oD I (by rw[e];exact SJ) N ⟨q,B⟩ ⟨hl,hd,_,(rel.put k eb rv).keeps λc ys K=>?_,q,es,ep,B,h2,h3,h4,h5⟩;rw[ay (Jy K e (λz=>nomatch z))];exact K
end
def yW(i:Expr):Prop:=∀C E,subscripted i false C E=operate [C,E] (getItem C E)
theorem AQ{prog:Program}{A:Around}{E:Value->Shared->Prop}{env:Env}{value slice:Expr}{pos:Pos}{id:String}
  (hl:typeLookup (.type T) "__getitem__" = pure (some (.builtin id)))(N:yW slice)
  (h:wpAny (model prog w) A (eval value env) (λo Z=>wpAny (model prog w) A (eval slice env) (λi U=>U.TypeIs o T/\wpAny (model prog w) A (getItem o i) Q E U) E Z) E s):
  wpAny (model prog w) A (eval (.Subscript value slice pos) env) Q E s:=by
 refine Subscript_ (wpAny_mono h (λo Z O=>wpAny_mono O (λi U H=>?_) λ_ _ x=>x) λ_ _ x=>x);obtain⟨K,H⟩:=H;unfold subscriptTail;refine wpAny_bind ?_;rw[getitemInPython_of_ne K.not_modules];refine wpAny_bind (wpAny_specialOf K hl ?_);have fin:wpAny (model prog w) A (subscripted slice false o i) (λr P=>wpAny (model prog w) A (letTemporaryGo value o r >>= λ_=>pure r) Q E P) E U:=by rw[N o i];exact wpAny_operating (wpAny_mono H (λr P I=>wpAny_bind (wpAny_letTemporaryGo (wpAny_pure I))) λ_ _ x=>x)
 first
  |exact wpAny_pure (wpAny_bind fin)
  |exact wpAny_bind (wpAny_pure (wpAny_bind fin))
  |exact wpAny_bind fin
variable{X:Cx}
theorem p5{a:Addr}(I:Inv X pins Y H s)(g:fA H a y o):s.TypeIs (.ref a) "dict" := by
 rcases g with ⟨kvs,k,e,_,_⟩|⟨kvs,k,b,e,_,_,_⟩
 .obtain⟨_,_,vs,_,dd⟩:=fh I.hok e;exact dd.typeIs
 .obtain⟨_,_,xs,_,dd⟩:=jX I.hok e;exact dd.typeIs
noncomputable def J6(h ty:TE):TE:=λY H Q=>h Y H λx i=>ty Y i λy e=>∃a v,x=.ref a/\fA e a y (some v)/\Q v e
noncomputable def Nv(ty h:TE):TE:=λY H Q=>ty Y H λy i=>h Y i λx e=>∃a o,x=.ref a/\fA e a y o/\Q (.bl o.isSome) e
noncomputable def AO(ty h:TE):TE:=λY H Q=>ty Y H λy i=>h Y i λx e=>∃a o,x=.ref a/\fA e a y o/\Q (.bl (!o.isSome)) e
noncomputable def IZ(h ty q:TE):TS:=λD Y H=>q Y H λv i=>h Y i λx e=>ty Y e λy F=>∃a X,x=.ref a/\LB F a y v X/\D.nx Y X
section
variable{X:Cx}{o i e value:Expr}{pos pos' tpos:Pos}{td ty tv:TE}
theorem AE(f:X.A.units+1<cLine)(ho:PE X o td)(hi:PE X i ty)(N:yW i):PE X (.Subscript o i pos) (J6 td ty):=by intro pins s Y H Q I h;refine AQ PySem.F.slot_dict_getitem.lookup N (ba (ho pins s Y H _ I h) λu s1 ⟨x,E,j,Z,n⟩=>ba (hi pins s1 Y E _ j n) λp s2 ⟨y,e,V,P,a,v,ex,g,q⟩=>?_);subst ex;obtain rfl:u=PY a:=Z;exact⟨p5 V g,vp f V g P λw m O U=>⟨v,e,O,U,q⟩⟩
theorem yA(f:X.A.units+1<cLine)(hi:PE X i ty)(ho:PE X o td):PC X .In i o (Nv ty td):=by intro pins s Y H Q I h;refine ba (hi pins s Y H _ I h) λp s1 ⟨y,E,j,P,n⟩=>ba (ho pins s1 Y E _ j n) λu s2 ⟨x,e,V,Z,a,C,ex,g,q⟩=>?_;subst ex;obtain rfl:u=PY a:=Z;exact MY f V g P λm O=>⟨.bl C.isSome,e,O,rfl,q⟩
theorem lX(f:X.A.units+1<cLine)(hi:PE X i ty)(ho:PE X o td):PC X .NotIn i o (AO ty td):=by intro pins s Y H Q I h;refine ba (hi pins s Y H _ I h) λp s1 ⟨y,E,j,P,n⟩=>ba (ho pins s1 Y E _ j n) λu s2 ⟨x,e,V,Z,a,C,ex,g,q⟩=>?_;subst ex;obtain rfl:u=PY a:=Z;exact A7 f V g P λm O=>⟨.bl (!C.isSome),e,O,rfl,q⟩
theorem A3(f:X.A.units+1<cLine)(ho:PE X o td)(hi:PE X i ty)(B:PE X value tv)(N:swapsWith value (some (.Subscript o i pos')) pos.line X.env=pure false):
  PS X (.Assign [.Subscript o i pos'] value pos) (IZ td ty tv):=by
 intro pins s Y H D I h;refine wpAny_Assign_Subscript (ba (B pins s Y H _ I h) λr s1 ⟨v,E,j,rv,n⟩=>ba (ho pins s1 Y E _ j n) λu s2 ⟨x,e,V,Z,q⟩=>ba (hi pins s2 Y e _ V q) λp m ⟨y,F,O,P,a,Q,ex,g,L⟩=>?_) N;subst ex;obtain rfl:u=PY a:=Z;exact uS f O g P rv λT J=>⟨Y,Q,J,L⟩
end
theorem yE(h:Heap)(d:sysModules<h.objs.size):aL P w H (h.push { cls:=.type "dict",data:=.dict #[] }) h.objs.size (.dK []):=
 ⟨Qm _,beq_eq_false_iff_ne.mpr (QM (PD d)),[],.nil,WJ h⟩
def Iw:TE:=λ_ H Q=>∀p,H p=none->Q (.ref p) (upd H p (.dK []))
section
variable{X:Cx}{pos:Pos}
theorem wX:PE X (.Dict [] [] pos) Iw:=λpins s Y H Q I h=>wpAny_Dict_empty ⟨.ref s.heap.objs.size,_,I.laid (a:=s.heap.objs.size) (o:=.dK []) (t':=s.toks) (λ_ _ q=>O8 _ q) (Pf _) (yE s.heap I.big),rfl,h _ (I.hok.fresh (Pf _))⟩
end
structure M1(X:Cx)(o:Expr)(m:Str)(apos:Pos)(e:Expr)(cpos:Pos):Prop where
 base:attributeBase o m X.env (eval o X.env)=eval o X.env
 few:((backTo cpos (starEach [e] X.env)).all (λx=>!x.1)&&(backToKw cpos (keywordEach [] X.env)).all (λx=>x.1.isSome)
  && decide (([e]:List Expr).length+([]:List Keyword).length+(if ([]:List Keyword).isEmpty then 0 else 1)<30))=true
 line:(apos.endLine==cpos.line)=true
 trees:backTo cpos (starEach [e] X.env)=[(false,eval e X.env)]
structure M2(X:Cx)(o:Expr)(m:Str)(apos:Pos)(e f:Expr)(cpos:Pos):Prop where
 base:attributeBase o m X.env (eval o X.env)=eval o X.env
 few:((backTo cpos (starEach [e,f] X.env)).all (λx=>!x.1)&&(backToKw cpos (keywordEach [] X.env)).all (λx=>x.1.isSome)
  && decide (([e,f]:List Expr).length+([]:List Keyword).length+(if ([]:List Keyword).isEmpty then 0 else 1)<30))=true
 line:(apos.endLine==cpos.line)=true
 trees:backTo cpos (starEach [e,f] X.env)=[(false,eval e X.env),(false,eval f X.env)]
def Oe(H:Hp)(a:Addr):Prop:=(∃kvs,Rd H a (.dK kvs))\/∃kvs,Rd H a (.dT kvs)
theorem HM{a:Addr}(I:Inv X pins Y H s)(d:Oe H a):
  s.TypeIs (.ref a) "dict" /\ (∀b,PY a=.ref b->∃ob,s.heap.get? b=some ob/\ob.dict=none)/\(a==sysModules)=false:=by
 rcases d with ⟨kvs,e⟩|⟨kvs,e⟩
 .obtain⟨_,hd,vs,_,dd⟩:=fh I.hok e;refine⟨dd.typeIs,λb q=>?_,hd⟩;cases q;obtain⟨ob,_,_,h1,h2,_⟩:=dd;exact⟨ob,h1,h2.2.1⟩
 .obtain⟨_,hd,xs,_,dd⟩:=jX I.hok e;refine⟨dd.typeIs,λb q=>?_,hd⟩;cases q;obtain⟨ob,_,_,h1,h2,_⟩:=dd;exact⟨ob,h1,h2.2.1⟩
section
variable{X:Cx}{pins:List (Addr×Obj)}{Y:St}{H:Hp}{s:Shared}{a:Addr}{y d:V}{u r:Value}{o:Option V}{A:Around}{E:Value->Shared->Prop}
theorem FU(f:A.units+1<cLine)(I:Inv X pins Y H s)(g:fA H a y o)(P:RelV y u)(rd:RelV d r)(h:∀q s',Inv X pins Y H s'->RelV (o.getD d) q->Q q s'):
  wpAny (model X.prog X.w) A (call (.builtin "dict.get") [.ref a,u,r]) Q E s:=by
 rcases g with ⟨kvs,k,e,F,l⟩|⟨kvs,k,b,e,F,eb,l⟩
 .subst F;obtain⟨z,hd,vs,rel,dd⟩:=fh I.hok e;refine call_meetsIn R3 dd.typeIs TL (TB _ _ _) (meets_dict_get_default (aO X.prog X.w) a (lR P) hd r) ⟨_,dd.mapOf,h _ _ (I.tok _) ?_⟩;rw[l];exact(rel.val k).getD rd
 .subst F;cases (show u=PY b from P);obtain⟨z,hd,xs,rel,dd⟩:=jX I.hok e;refine call_meetsIn R3 dd.typeIs TL (TB _ _ _) (meetsH_dict_get_default (tupleKind (aO X.prog X.w)) a b hd r) ⟨tupleKind_room_in1 f,k,xs,je I.hok eb,dd,h _ _ (I.tok _) ?_⟩;rw[l];exact(rel.val k).getD rd
end
noncomputable def FA(h ty u:TE):TE:=λY H Q=>h Y H λx i=>∃a,x=.ref a/\Oe i a/\ty Y i λy e=>u Y e λz F=>∃o,fA F a y o/\Q (o.getD z) F
section
variable{X:Cx}{o e f:Expr}{apos cpos:Pos}{td ty tx:TE}
theorem xO(D:X.A.units+1<cLine)(ho:PE X o td)(t:PE X e ty)(hf:PE X f tx)(m:M2 X o "get" apos e f cpos):PE X (.Call (.Attribute o "get" apos) [e,f] [] cpos) (FA td ty tx):=by
 intro pins s Y H Q I h;refine wpAny_Call_method m.base m.few m.line PySem.F.plainAttrs_dict R3 PySem.F.type_dict_get (ba (ho pins s Y H _ I h) λu s1 ⟨x,i,j,E,a,ex,d,n⟩=>?_);subst ex;obtain rfl:u=PY a:=E;obtain⟨v,b,_⟩:=HM j d;refine⟨v,b,?_⟩;rw[m.trees];refine Ri rfl (RB (Sw (ba (t pins s1 Y i _ j n) λp s2 ⟨y,r,V,P,q⟩=>Sw (ba (hf pins s2 Y r _ V q) λR T ⟨z,w,O,K,C,g,L⟩=>UT ?_))))
 exact FU D O g P K λc l J U=>⟨_,w,J,U,L⟩
end
end L2
namespace Att
open PySem PySem.W PySem.Calls PyProof.Rows
variable{P:Params}{h:Heap}
theorem jC:∀(ns:List Int)(vs:List Value),WellAll P h vs (ns.map V7)->IntsAre vs ns:=by
 intro ns;induction ns with
 |nil=>intro vs w;rw[RG] at w;cases w;exact .nil
 |cons n ns m=>
  intro vs w;rw[Pg] at w;cases w with
  |cons a b=>cases a;exact .cons _ _ (m _ b)
theorem vD{l:OpenLaw}{n:Nat}(hn:l.most=some n){args:List WData}{Y:List Value}
  (H:l.row.toRowW.claim.pre args=true)(o:WellAll P h Y args):
  ∃a vs ns,Y=[PY a]/\args=[WData.list (ns.map V7)]/\h.get? a=some { cls:=.type "list",data:=.seq vs.toArray }/\IntsAre vs ns/\ns.length<=n:=by
 have u:WShape.hasAll [] args [.list .int]=true:=(pre_splitW H).1;have hc:l.pre.holds [] { args:=args }=true:=(pre_splitW H).2;obtain⟨d,r,rfl,h1,h2⟩:=hasAllW_cons u;obtain rfl:=hasAllW_nil h2;obtain⟨xs,rfl,h3⟩:=hasW_list h1;obtain⟨ns,rfl⟩:=items_int h3;have z:ns.length<=n:=by
  unfold OpenLaw.pre at hc;have h4:(WTm.not (.lt (.lit (.int (n:Int))) (.len (.arg 0)))).holds [] { args:=[.list (ns.map .int)] }=true:=by have h4:=(holds_andW hc).1;rw[hn] at h4;exact h4
  have h5:=condW_of h4 (w_not (w_lt w_lit (w_len_list (w_arg rfl))));rw[O5] at h5;refine Nat.le_of_not_lt λq=>?_;have A:(n:Int)<((ns.length:Nat):Int):=by omega
  first
   |(rw[decide_eq_true A] at h5;exact absurd h5 (by decide))
   |(simp at h5;omega)
 cases o with
 |cons v x=>
  cases x;cases v with
  |list ho I=>exact⟨_,_,ns,rfl,rfl,ho,jC ns _ I,z⟩
theorem uL(l:OpenLaw)(args:List WData):l.row.toRowW.claim.post args (.bool true) args=true:=
 postW_of (r:=l.row.toRowW) (X:=(true==true))
  (show VO [] (.bool true) .bool=true by first|rfl|decide|simp[VO,WShape.arms,WShape.armsAll])
  (show (WTm.eq .res (.lit (.bool true))).value [] { args:=args,res:=some (.bool true),after:=args }=some (.bool (true==true)) from w_eq_bool (w_res rfl) w_lit) rfl
theorem pC{l:OpenLaw}{n:Nat}{q:Program}{loose:List Str}{XP:(Str->Option Value)->Heap->Prop}{YP:World->Heap->Prop}{d:DefRec}
  (hn:l.most=some n)(v:d.params.defaults=[])
  (call:∀(w:World)(s₀ Z:Shared)(mg mb:Str->Option Value)(I:Addr)(o:Obj)(pm cd doc:Value)(a:Addr)(vs:List Value)(ns:List Int),
   Ground q loose [] XP w s₀ mg mb Z.heap->YP w Z.heap->
   Z.heap.get? I=some o->o.data=.func (docDef d.name d.params d.body d.scope pm cd doc)->Z.heap.CodeRec cd d.name->mg d.name=some (.ref I)->
   Z.heap.get? a=some { cls:=.type "list",data:=.seq vs.toArray }->IntsAre vs ns->ns.length<=n->Z.gens=#[]->
   codeAny (model l.prog w) callerA (.call (.ref I) ⟨[.ref a],[]⟩) (λr s'=>r=.ok (.ret (.bool true))/\OldK Z.heap s'.heap/\s'.os=Z.os/\AllBare s'.gens) Z):
  WalkO q loose XP YP l.row.toRowW d [] (λf vs=>UO f vs):=by
 intro w s₀ Z mg mb G Y I o pm cd doc dV kV ho hd C b x S args K as Q R T y c;obtain rfl:dV=.none:=Dflts.none b v;obtain rfl:kV=.none:=Dflts.noKw b;obtain⟨a,vs,ns,rfl,rfl,u,H,z⟩:=vD hn Q y;refine enter_call (codeAny_mono (call w s₀ Z mg mb I o pm cd doc a vs ns G Y ho (fd_plain hd) C x u H z S) λr s' B=>?_);obtain⟨rfl,h2,h3,h4⟩:=B;exact⟨.inl ⟨.bool true,.bool true,[],rfl,λ_=>rfl,.bool true,uL l _,λ_=>⟨VY,λ_ hm=>(nomatch hm)⟩⟩,h2,h3,h4⟩
end Att
namespace L2
open PySem PySem.Spec PyProof.Rows
theorem mT:∀{vs:List Value}{ns:List Int},IntsAre vs ns->Vals (ns.map V.int) vs
 |_,_,.nil=>.nil
 |_,_,.cons n t h=>.cons ⟨t,rfl⟩ (mT h)
def Hm(H:Hp):Prop:=∀b,H b=none\/∃o xs,H b=some (.frz o (.lst xs))
variable{k:Nat}
theorem zB{P:Program}{w:World}{K:O2}{mg mb:Str->Option Value}{CX:ux}{J a:Addr}{fd:FuncData}{x:Str}{sp:Sp}{Z:Shared}{vs:List Value}{ns:List Int}
  (O:K.In Z.heap)(y:Z.heap.Ns mainGlobals mg)(N:Z.heap.Ns builtinsNs mb)(R:∀x:Str,x ≠ "__name__" -> mb x=bootBuiltins x)(g:Z.heap.NoLimit)(C:Z.gens=#[])
  (ha:Z.heap.get? a=some { cls:=.type "list",data:=.seq vs.toArray })(hi:IntsAre vs ns)(hl:ns.length<=sizeLine)(G:cE k callerA)
  (F:∀base:Heap,K.In base->base.Ns mainGlobals mg->cR P w K mg base CX k J fd [x] sp)(Q:∀(s:Shared)(u:Value),BindsTo s fd ⟨[u],[]⟩ [(x,u)])
  (S:∀H:Hp,Hm H->eX K H a (ns.map V.int)->sp [.ref a] H (λv _=>v=.bl true) λ_ _ _=>False)
  (T:∀H e s',CX [] H Z (λ_ _ _=>False) e s'->False):
  codeAny (model P w) callerA (.call (.ref J) ⟨[.ref a],[]⟩) (λr s'=>r=.ok (.ret (.bool true))/\OldK Z.heap s'.heap/\s'.os=Z.os/\AllBare s'.gens) Z:=by
 have rv:=mT hi;have l:=hi.length;have I:∀H:Hp,Hm H->eX K H a (ns.map V.int)->gb P w H Z.heap->(∀b,H b≠none->b=a)->(H a≠none->K.lookup a=none)->
   codeAny (model P w) callerA (.call (.ref J) ⟨[.ref a],[]⟩) (λr s'=>r=.ok (.ret (.bool true))/\OldK Z.heap s'.heap/\s'.os=Z.os/\AllBare s'.gens) Z:=by
  intro H U A hok p f;have iM:∀{b:Addr}{o:Obj},Z.heap.get? b=some o->H b=none->(nu Z.heap H).get? b=some o:=λe n=>we e n;have X:∀{b:Addr}{o:Obj}{es:Array DictEntry}{ep:Nat},Z.heap.get? b=some o->o.data=.dict es ep->H b=none:=λ{b o es ep} e d=>by
   cases q:H b with
   |none=>rfl
   |some u=>have e':b=a:=p b (by rw[q];simp);subst e';rw[ha] at e;cases e;have d':Data.seq vs.toArray _=Data.dict es ep:=d;cases d'
  have Y:∀{b:Addr}{m:Str->Option Value},Z.heap.Ns b m->(nu Z.heap H).Ns b m:=λ{b m} ⟨o,es,ep,e,d,r⟩=>⟨o,es,ep,iM e (X e d),d,r⟩
  have t:K.In (nu Z.heap H):=λb o e=>iM (O b o e) (by
   cases q:H b with
   |none=>rfl
   | some u=>have e':b=a:=p b (by rw[q];simp);subst e';rw[f (by rw[q];simp)] at e;cases e)
  have E:Mod K mg (nu Z.heap H):=⟨t,Y y,⟨mb,Y N,R⟩,let ⟨mc,h1,h2⟩:=g;⟨mc,Y h1,h2⟩⟩
  have B:BE P w K mg (nu Z.heap H) callerA [] Z H:=⟨rfl,E,λb o e=>BK e,Uo (uM _ _),trivial,λb N=>absurd (show b∈([]:List Addr) from N) (by simp),hok,.of_eq C⟩
  refine codeAny_mono ((F _ t (Y y)).run callerA [] Z H ⟨[.ref a],[]⟩ [.ref a] [.ref a] _ _ G B (Q Z (.ref a)) (.cons rfl .nil) (S H U A)) λr s' h=>?_;cases r with
  |error e=>exact(T H e s' h).elim
  |ok fl=>
   cases fl with
   |next=>exact Q6 h
   |brk=>exact Q6 h
   |cont=>exact Q6 h
   |ret u=>
    obtain⟨v,H',os,bare,un,D,j,q⟩:=h;have i:v=.bl true:=q;subst i;obtain rfl:u=VT true:=j;refine⟨rfl,OldK.of_keep λb o e=>?_,os,bare⟩;cases q:H b with
    |none=>exact un.keep b o e q (by intro z;exact absurd (show b∈([]:List Addr) from z) (by simp)) (by simp)
    |some u=>
     rcases U b with z|⟨ob,xs,z⟩
     .rw[q] at z;cases z
     .have z2:=un.frzs b ob _ z;obtain⟨L,_⟩:=hok b _ z;obtain⟨e2,_⟩:=D b _ z2;rw[e] at L;cases L;exact e2
 cases hk:K.lookup a with
 |some o=>have e:=O a o hk;rw[ha] at e;cases e;refine I (λ_=>none) (λ_=>.inl rfl) (.inr ⟨_,vs.toArray,_,hk,rfl,rfl,rfl,by rw[O4,l];exact hl,by simpa using rv⟩) (λb u z=>by have c:(none:Option HO)=some u:=z;cases c) (λb z=>absurd rfl z) λz=>absurd rfl z
 |none=>
  refine I (λb=>if b=a then some (.frz { cls:=.type "list",data:=.seq vs.toArray } (.lst (ns.map V.int))) else none) (λb=>?_) (.inl (.inr ⟨{ cls:=.type "list",data:=.seq vs.toArray },if_pos rfl⟩)) (λb u z=>?_) (λb z=>?_) λ_=>hk
  .by_cases N:b=a
   .exact .inr ⟨_,_,if_pos N⟩
   .exact .inl (if_neg N)
  .by_cases N:b=a
   .have c:=(if_pos N).symm.trans z;cases c;subst N;exact⟨ha,by rw[O5];exact hl,vs,_,rv,ha⟩
   .have c:=(if_neg N).symm.trans z;cases c
  .by_cases N:b=a
   .exact N
   .exact absurd (if_neg N) z
noncomputable def cK(s:Stmt):Arguments:=match s with
 | .FunctionDef _ a _ _ _ _ _ _ _ _=>a
 |_=>{ posonlyargs:=[],args:=[],vararg:=none,kwonlyargs:=[],kw_defaults:=[],kwarg:=none,defaults:=[] }
noncomputable def cj(s:Stmt):List Stmt:=match s with
 | .FunctionDef _ _ b _ _ _ _ _ _ _=>b
 |_=>[]
noncomputable def aI(s:Stmt):Scope:=match s with
 | .FunctionDef _ _ _ _ _ _ sc _ _ _=>sc
 |_=>{ kind:=.function,names:=[],isGenerator:=false,isCoroutine:=false }
noncomputable abbrev E0:XK:=λ_ _ _=>False
theorem mX{A:Around}(y:cE k A):A.units+1<cLine:=QW (Nat.add_le_add_left (by decide:1<=64) _) y.units
def Nx(H H':Hp):Prop:=∀b o,H b=some o->H' b=some o
end L2
set_option maxHeartbeats 4000000
namespace L2
open PySem PySem.Spec PyProof.Rows PySem.W
open PySem.Builtin.ObjectAttr (find dataDescriptor? getOf)
open PySem.Builtin.Getset_descriptor (descrGet descrGetter descrCheckInstance descrNameAndClass)
variable{Q:Unit->Shared->Prop}{R:Result->Shared->Prop}
section
variable{prog:Program}{w:World}{A:Around}{E:Value->Shared->Prop}{h:Heap}{g:Array GenState}{d:Drawn}{t:Nat}{os:OsState}{K:Frag}{x C:Addr}
structure hR(K:Frag)(C:Addr):Prop where
 ga:findIn K (.ref C) "__getattribute__" = some (some (.builtin "BaseException.__getattribute__"))
 gt:findIn K (.ref C) "__getattr__" = some none
 cl:findIn K (.ref C) "__class__" = some (some (.builtin "object.__class__"))
 gg:specialIn K (.builtin "object.__class__") "__get__" = some (some (.builtin "getset_descriptor.__get__"))
 tk:takesIn K (.builtin "object.__class__")=some true
 ob:mroIn K C (.type "object")=some true
 be:mroIn K C (.type "BaseException")=some true
def ExcAt(a C:Addr)(h:Heap):Prop:=∃Y,h.get? a=some Y/\Y.cls=.ref C
theorem ExcAt.type{M:Model}(I:ExcAt x C h):Looks M h (typeOf (.ref x)) (.ref C):=by obtain⟨Y,J,l⟩:=I;exact l▸(Looks.ld J).andThen .now
theorem F7{M:Model}{o:Value}(X:K.In h)(T:hR K C)(I:ExcAt x C h)(B:Q () ⟨h,g,d,t,os⟩):
  wpAny M A (checkBuiltinCall "BaseException.__getattribute__" ⟨[.ref x,o],[]⟩) Q E ⟨h,g,d,t,os⟩:=by
 have k1:builtinKind "BaseException.__getattribute__" = some .slot:=by decide +kernel
 have k2:splitId "BaseException.__getattribute__" = some ("BaseException", "__getattribute__"):=by decide +kernel
 have k3:=F.args_bexc_ga (.ref x) o;have L2:Looks M h (isInstance (.ref x) (.type "BaseException")) true:=I.type.andThen (looks_mroIn (M:=M) X T.be);simp only[checkBuiltinCall,k1,k2];refine wpAny_bind (L2.at ?_)
 repeat (first|exact B|wp_step)
theorem Jv{M:Model}(X:K.In h)(T:hR K C):Looks M h (find (.ref x) (.ref C) "__class__") (.bind (.builtin "getset_descriptor.__get__") (.builtin "object.__class__")):=by have H:=looks_findIn (M:=M) X T.cl;have o:Looks M h (getOf (some (.builtin "object.__class__"))) (some (.builtin "getset_descriptor.__get__")):=looks_specialIn X T.gg;have r:Looks M h (dataDescriptor? (some (.builtin "object.__class__")) (some (.builtin "getset_descriptor.__get__"))) (some (.builtin "getset_descriptor.__get__",.builtin "object.__class__")):=(looks_takesIn (M:=M) X T.tk).andThen .now;exact H.andThen (o.andThen (r.andThen (Looks.tag .now)))
theorem NP{tp:Value}(X:K.In h)(T:hR K C)(I:ExcAt x C h)(q:R (.ok (.ret (.ref C))) ⟨h,g,d,t,os⟩):
  codeAny (model prog w) A (.call (.builtin "getset_descriptor.__get__") ⟨[.builtin "object.__class__",.ref x,tp],[]⟩) R ⟨h,g,d,t,os⟩:=by
 have u:=I.type (M:=model prog w);have H:=looks_mroIn (M:=model prog w) X T.ob;refine codeAny_call_builtin (KF.slot_gs).plain (KF.entry_gs) ((KF.slot_gs).check _ _ _ _ _ _ _ _ (KF.type_class) (KF.args_gs _ _ _) ?_);unfold Builtin.«getset_descriptor.__get__»;unfold descrGet;rw[dga_obj _ tp x];refine wpAny_bind (wpAny_pure ?_);unfold descrGetter descrCheckInstance;unfold descrNameAndClass isInstance;simp only[KF.owner_class,id]
 repeat (first|lk)
 refine⟨Code.quiet_builtin _ (by decide +kernel),codeAny_builtin (KF.entry_class) ?_⟩;unfold Builtin.«object.__class__»;unfold shownTypeOf
 repeat (first|lk)
 exact q
theorem F6{tk:Tok}{Q:Fin->Shared->Prop}(X:K.In h)(T:hR K C)(I:ExcAt x C h)(B:Q (.done (.ret (.ref C))) ⟨h,g,d,t,os⟩):
  wpAny (model prog w) A (Builtin.«object.__getattribute__» ⟨[.ref x,.str "__class__" tk],[]⟩) Q E ⟨h,g,d,t,os⟩:=by
 have v:=I.type (M:=model prog w);have Y:=Jv (x:=x) (M:=model prog w) X T;unfold Builtin.«object.__getattribute__»;refine wpAny_bind (wpAny_pure ?_);refine wpAny_bind (wpAny_pure ?_);refine wpAny_bind (v.at ?_);refine wpAny_bind (Y.at ?_);unfold Vd;refine wpAny_bind (wpAny_call ?_);refine NP X T I ?_;exact wpAny_pure B
theorem Kl{tk:Tok}(X:K.In h)(T:hR K C)(I:ExcAt x C h)(B:R (.ok (.ret (.ref C))) ⟨h,g,d,t,os⟩):
  codeAny (model prog w) A (.call (.builtin "BaseException.__getattribute__") ⟨[.ref x,.str "__class__" tk],[]⟩) R ⟨h,g,d,t,os⟩:=
 codeAny_call_builtin U2.ga.plain F.entry_bexc_ga (F7 X T I (F6 X T I B))
theorem OG{tk:Tok}{Q:Value->Shared->Prop}(X:K.In h)(T:hR K C)(I:ExcAt x C h)(B:Q (.ref C) ⟨h,g,d,t,os⟩):
  wpAny (model prog w) A (getAttrBy (.ref x) (.str "__class__" tk) false) Q E ⟨h,g,d,t,os⟩:=by
 have r:=U2.ga.bind (.ref x);have b:(Si "BaseException.__getattribute__" == Si "object.__getattribute__")=false:=by decide +kernel
 have o:(onTheHeap (PY C)&&Si "BaseException.__getattribute__" == Si "object.__getattribute__")=false:=by rw[b];rfl
 have v:=I.type (M:=model prog w);have Y:=looks_findIn (M:=model prog w) X T.ga;have L2:=looks_findIn (M:=model prog w) X T.gt;unfold getAttrBy;refine wpAny_holding (wpAny_bind (v.at (wpAny_bind (Y.at ?_))));dsimp only;rw[if_neg (by rw[o];exact PL)];unfold getAttrByItsOwn hookBefore
 repeat (any_goals (first|assumption|with_reducible refine wpAny_bind (L2.at ?_)|with_reducible refine wpAny_bind (Y.at ?_)|wp_step))
 refine Kl X T I ?_
 repeat (any_goals (first|assumption|wp_step))
theorem Kv{Q:Option Value->Shared->Prop}(X:K.In h)(T:hR K C)(I:ExcAt x C h)(B:Q (some (.ref C)) ⟨h,g,d,t+1,os⟩):
  wpAny (model prog w) A (getAttr? (.ref x) "__class__") Q E ⟨h,g,d,t,os⟩:=by
 unfold getAttr? getAttrBy?
 repeat (any_goals (first|assumption|with_reducible apply OG X T I|wp_step))
end
variable{C:Addr}
theorem hR.there{K:Frag}(T:hR K C):∃oc od cd sl,K.lookup C=some ⟨oc,od,.cls cd,sl⟩:=by
 have q:=T.ob;unfold mroIn clsIn at q;split at q
 .rename_i a b c e f;exact⟨a,b,c,e,f⟩
 .cases q
theorem wQ{K:Frag}{a:Addr}(T:hR K C):KitX K (.ref a) (.ref C) (ExcAt a C) where
 ty:=λ_ _ _ I=>I.type
 it:=λ_ _ X _=>by obtain⟨_,_,_,_,w⟩:=T.there;intro u H Z s1 k1 Q;unfold isType loadHead;exact wpAny_bind (wpAny_loadPart (k1 _ _ (X _ _ w)) (wpAny_pure Q))
 ne:=λh tp dd b n sl X x=>by obtain⟨_,_,_,_,w⟩:=T.there;refine U3.mpr λq=>?_;cases PY.inj (beq_iff_eq.mp q);cases (X _ _ w).symm.trans x
 ca:=λ{_ _ _ _ _ s} X I k=>by obtain⟨h,g,d,t,os⟩:=s;exact Kv X T I k
open PySem PySem.Spec PyProof.Rows
noncomputable abbrev tj:List Value:=[.type "ValueError",.type "Exception",.type "BaseException",.type "object"]
variable{K:O2}{h:Heap}
theorem Cm{w:List Value}{I:String}(X:K.In h)(q:Rq K C w I=true):
  ∃bm N nm x bs hdct sn sub ab col dd k0 k1 k2 k3 k5 mN,h.get? C=some (excClassObj nm x C N bs bm hdct sn sub ab col dd k0 k1 k2 k3 k5 I)/\h.Ns N mN/\mN "__init__" = none/\OwnTail h w bm:=by
 unfold Rq at q;split at q
 case h_2=>cases q
 rename_i dd cd sl T;split at q
 case h_2=>cases q
 rename_i k bm k0 k1 k2 k3 n k5 em es;rw[O3,O3,O3,O3,O3,beq_iff_eq,beq_iff_eq,beq_iff_eq,Pw] at q;obtain⟨⟨⟨⟨⟨rfl,rfl⟩,nd⟩,o⟩,ok⟩,r⟩:=q;obtain⟨nm,bs,mro,ns,x,hd,sn,sub,ab,col,Q⟩:=cd;have em:mro=.ref k::bm:=em;have nd:Q=false:=nd;subst em nd;have g:sl=#[k0,k1,k2,k3,some (.builtin n),k5]:=by obtain⟨l⟩:=sl;have es:l=[k0,k1,k2,k3,some (.builtin n),k5]:=es;rw[es]
 subst g;exact⟨bm,ns,nm,x,bs,hd,sn,sub,ab,col,dd,k0,k1,k2,k3,k5,_,X _ _ T,.of_isNs (PySem.W.isNs_of_in X ok),PySem.W.nsMap_none_of_in X ok r,PySem.W.tail_of_in X o⟩
variable{P:Program}{w:World}{H:Hp}{o:HO}
theorem aL.is{a:Addr}(x:aL P w H h a o):∃ob,h.get? a=some ob:=by
 cases o with
 |lst xs=>obtain⟨_,_,_,_,e⟩:=x;exact⟨_,e⟩
 |tup xs=>obtain⟨_,_,_,ob,e,_⟩:=x;exact⟨_,e⟩
 |dK kvs=>obtain⟨_,_,_,_,ob,_,_,e,_⟩:=x;exact⟨_,e⟩
 |dT kvs=>obtain⟨_,_,_,_,ob,_,_,e,_⟩:=x;exact⟨_,e⟩
 |set S n=>obtain⟨ob,_,_,_,e,_⟩:=x;exact⟨_,e⟩
 |ins C dx fs=>obtain⟨_,_,_,e,_⟩:=x;exact⟨_,e⟩
 |own y=>obtain⟨_,e⟩:=x;exact⟨_,e⟩
 |xd fs=>obtain⟨_,⟨_,_,_,e,_⟩,_⟩:=x;exact⟨_,e⟩
 |rng lo hi=>obtain⟨_,_,_,e⟩:=x;exact⟨_,e⟩
 |frz ob u=>obtain⟨e,_⟩:=x;exact⟨_,e⟩
 |tbl ps=>exact⟨_,x⟩
 |met f y=>exact⟨_,x⟩
 |ext φ=>obtain⟨_,⟨_,e⟩,_⟩:=x;exact⟨_,e⟩
theorem aL.tZ{a:Addr}{A:Prop}(x:aL P w H h a o)(g:h.get? a=none):A:=by obtain⟨ob,e⟩:=x.is;rw[g] at e;cases e
structure yh(P:Program)(w:World)(outer:List Env)(H:Hp)(s:Shared)(a C:Addr)(H':Hp)(s':Shared):Prop where
 os:s'.os=s.os
 bare:AllBare s'.gens
 un:Un (cA outer) [] H H' s.heap s'.heap
 hok:gb P w H' s'.heap
 new:s.heap.get? a=none
 free:H' a=none
 fl:∃(base:Heap)(a0:Value),Ue base outer a (.ref C) a0 s'.heap /\
  ∀b o,s'.heap.get? b=some o->(H' b≠none\/((∃ob,s.heap.get? b=some ob)/\b∉cA outer))->base.get? b=some o
def mL(P:Program)(w:World):ux:=λouter H s E I s'=>∃(a C:Addr)(H':Hp),I=.ref a/\yh P w outer H s a C H' s'/\E (.ref C) none H'
variable{h' base:Heap}{E:Value->Shared->Prop}{env:Env}{L:Addr}{Hc:Hp}{vs:List Value}
section
variable{P:Program}{w:World}{outer:List Env}{H H':Hp}{s s':Shared}{a C:Addr}
theorem kS(x:gb P w H h)(d:∀b o,h.get? b=some o->H b≠none->base.get? b=some o)(st:base.StaysIn h'):gb P w H h':=λb u e=>by
 refine(x b u e).lK (λc v hc q=>st c v (d c v q ?_)) (λ_ q=>q) λ_ _ q=>q;rcases hc with z|z
 .rw[z,e];intro k;cases k
 .rw[z];intro k;cases k
theorem nJ{l:List Env}(f:h.FunFrames base l){b:Addr}(d:b∈cA l):base.get? b=none/\∃o,h.get? b=some o/\∀vs,o.data≠.fields vs:=f.mem d
theorem u5{M:Model}{A:Around}{sc:Shared}
  (p:A.frames=some (env::outer))(hf:env.frame=some L)(Z:s.heap.get? L=none)(c:∀b∈cA outer,H b=none)(k:∀b∈cA outer,∃o,s.heap.get? b=some o)
  (u:Un (cA outer) [] H Hc s.heap sc.heap)(ho:sc.os=s.os)(x:yh P w (env::outer) Hc sc a C H' s')
  (q:∀F,yh P w outer H s a C H' F->Q () F):wpAny M A (leaving env (.ref a)) Q E s':=by
 obtain⟨base,a0,fl,d⟩:=x.fl;have R:cA (env::outer)=L::cA outer:=by unfold cA;rw[QP,hf]
 refine wpAny_leaves_onW p hf fl λh' h up=>q _ ?_;have old:∀b ob,s.heap.get? b=some ob->b≠L:=λb ob e z=>by rw[z,Z] at e;cases e
 have y:∀b ob o,s.heap.get? b=some ob->b∉cA outer->s'.heap.get? b=some o->base.get? b=some o:=λb ob o e n e'=>by obtain⟨oc,D⟩:=u.there b ob e (λz=>nomatch z);refine d b o e' (.inr ⟨⟨oc,D⟩,?_⟩);rw[R];exact λz=>(Po.mp z).elim (old b ob e) n
 have t:∀b o,b∈cA outer->s'.heap.get? b=some o->∀vs,o.data≠.fields vs:=λb o m e=>by obtain⟨_,K,l,U⟩:=nJ fl.2.2.1 (show b∈cA (env::outer) by rw[R];exact Pa _ m);rw[l] at e;cases e;exact U
 refine⟨x.os.trans ho,x.bare,⟨λb o e n nb nx=>?_,λb o e n mb nx=>?_,λb o e n nx=>?_,λb o e nx=>?_,λb xs e=>x.un.tups b xs (u.tups b xs e),λb o v e=>x.un.frzs b o v (u.frzs b o v e),λb ps e=>?_⟩,kS x.hok (λb o e n=>d b o e (.inl n)) h.1,?_,x.free,base,a0,h,λb o e r=>?_⟩
 .have J:=x.un.keep b o (u.keep b o e n nb nx) (u.free b o e n nx) (by rw[R];exact λz=>(Po.mp z).elim (old b o e) nb) nx;exact h.1 b o (y b o o e nb J)
 .obtain⟨sl,J⟩:=u.slot b o e n mb nx;obtain⟨N,l⟩:=x.un.slot b _ J (u.free b o e n nx) (by rw[R];exact Pa _ mb) nx;obtain⟨S,T⟩:=up b _ l (t b _ mb l);exact⟨S,T⟩
 .obtain⟨oc,D⟩:=u.there b o e nx;exact x.un.free b oc D (u.free b o e n nx) nx
 .obtain⟨oc,D⟩:=u.there b o e nx;obtain⟨K,l⟩:=x.un.there b oc D nx;by_cases mb:b∈cA outer
  .obtain⟨sl,T⟩:=up b K l (t b K mb l);exact⟨_,T⟩
  .exact⟨K,h.1 b K (y b o K e mb l)⟩
 .obtain⟨V,J⟩:=u.tbls b ps e;obtain⟨X,l⟩:=x.un.tbls b _ J;exact⟨V++X,by rw[l,UL]⟩
 .cases z:s.heap.get? a with
  |none=>rfl
  |some Y=>obtain⟨O,J⟩:=u.there a Y z (λz=>nomatch z);rw[x.new] at J;cases J
 .have e:h'.get? b=some o:=e;have I:∀K,s'.heap.get? b=some K->base.get? b=some K->base.get? b=some o:=λK l T=>by have:=h.1 b K T;rw[e] at this;cases this;exact T
  rcases r with r|⟨⟨ob,eb⟩,nb⟩
  .cases z:H' b with
   |none=>exact absurd z r
   |some v=>
    have lt:=x.hok.lt z;obtain⟨K,l⟩:∃K,s'.heap.get? b=some K:=by
     cases g:s'.heap.get? b with
     |some K=>exact⟨K,rfl⟩
     |none=>exact(x.hok b v z).tZ g
    exact I K l (d b K l (.inl r))
  .obtain⟨oc,D⟩:=u.there b ob eb (λz=>nomatch z);obtain⟨K,l⟩:=x.un.there b oc D (λz=>nomatch z);exact I K l (y b ob K eb nb l)
theorem xu{M:Model}{A:Around}{sc:Shared}{h1 h:Heap}
  (p:A.frames=some (env::outer))(hf:env.frame=some L)(Z:s.heap.get? L=none)(u:Un (cA outer) [] H Hc s.heap sc.heap)(ho:sc.os=s.os)(bare:AllBare sc.gens)(hok:gb P w Hc sc.heap)
  (fr:sc.heap.FunFrames h (env::outer))(D:∀b∈cA (env::outer),Hc b=none)(k:Vv sc.heap h1 a (.ref C) vs)
  (q:∀F,yh P w outer H s a C Hc F->Q () F):wpAny M A (leaving env (.ref a)) Q E { sc with heap:=h1 }:=by
 have R:cA (env::outer)=L::cA outer:=by unfold cA;rw[QP,hf]
 have old:∀b ob,s.heap.get? b=some ob->b≠L:=λb ob e z=>by rw[z,Z] at e;cases e
 have y:∀b o,sc.heap.get? b=some o->b∉cA (env::outer)->(R0 sc.heap (cA (env::outer))).get? b=some o:=λb o e n=>Ub _ e n;have Gz:∀b,Hc b≠none->b∉cA (env::outer):=λb n m=>n (D b m);have x:∀b o,b∈cA (env::outer)->sc.heap.get? b=some o->∀vs,o.data≠.fields vs:=λb o m e=>by obtain⟨_,K,l,U⟩:=nJ fr m;rw[l] at e;cases e;exact U
 refine wpAny_leaves_madeW (base:=R0 sc.heap (cA (env::outer))) p hf (λb o z=>Uj _ z) (PySem.W.funFrames_hide fr λen V b d=>SI.mpr ⟨en,V,d⟩) k λh' t fl _ _ up=>q _ ?_;have g:∀b ob,s.heap.get? b=some ob->b∉cA outer->b∉cA (env::outer):=λb ob e n=>by rw[R];exact λz=>(Po.mp z).elim (old b ob e) n
 refine⟨ho,bare,⟨λb o e n nb nx=>?_,λb o e n mb nx=>?_,λb o e n nx=>u.free b o e n nx,λb o e nx=>?_,u.tups,u.frzs,u.tbls⟩,kS hok (λb o e n=>y b o e (Gz b n)) fl.1,?_,?_,_,_,fl,λb o e r=>?_⟩
 .exact fl.1 b o (y b o (u.keep b o e n nb nx) (g b o e nb))
 .obtain⟨sl,J⟩:=u.slot b o e n mb nx;obtain⟨S,T⟩:=up b _ (k.keeps _ _ J) (x b _ (by rw[R];exact Pa _ mb) J);exact⟨S,T⟩
 .obtain⟨K,l⟩:=u.there b o e nx;by_cases mb:b∈cA (env::outer)
  .obtain⟨sl,T⟩:=up b K (k.keeps _ _ l) (x b K mb l);exact⟨_,T⟩
  .exact⟨K,fl.1 b K (y b K l mb)⟩
 .cases z:s.heap.get? a with
  |none=>rfl
  |some Y=>obtain⟨O,J⟩:=u.there a Y z (λz=>nomatch z);rw[k.new] at J;cases J
 .cases z:Hc a with
  |none=>rfl
  |some v=>exact(hok a v z).tZ k.new
 .have e:h'.get? b=some o:=e;have I:∀K,sc.heap.get? b=some K->b∉cA (env::outer)->(R0 sc.heap (cA (env::outer))).get? b=some o:=λK l n=>by have T:=y b K l n;have:=fl.1 b K T;rw[e] at this;cases this;exact T
  rcases r with r|⟨⟨ob,eb⟩,nb⟩
  .cases z:Hc b with
   |none=>exact absurd z r
   |some v=>obtain⟨K,l⟩:=(hok b v z).is;exact I K l (Gz b r)
  .obtain⟨K,l⟩:=u.there b ob eb (λz=>nomatch z);exact I K l (g b ob eb nb)
end
structure Xc(X:Cx)(E:XK):Prop where
 pass:Passes (mL X.prog X.w) X E
 made:∀(pins:List (Addr×Obj))(Y:St)(H:Hp)(s:Shared)(h':Heap)(e C:Addr)(vs:List Value),Inv X pins Y H s->Vv s.heap h' e (.ref C) vs->E (.ref C) none H->X.xe (.ref e) { s with heap:=h' }
variable{X:Cx}{pins:List (Addr×Obj)}{Y:St}{s:Shared}
theorem Inv.wc(I:Inv X pins Y H s):X.s₀.heap.get? X.env.locals=none:=UA I.ok.above
variable{N:List Str}{scope:Scope}{f:Addr}
theorem Eb{mg:Str->Option Value}{qual:Str}{cd:Value}{A:Around}{outer:List Env}{E:XK}:
  Xc (oT (mL P w) P w K mg base N qual scope f cd A outer s H E) E:=by
 refine⟨λpins Y Hc sc e s' I x=>?_,λpins Y Hc sc h' e C vs I k q=>?_⟩
 .obtain⟨a,C,H',rfl,fl,q⟩:=x;exact u5 (L:=(envOfC qual scope s.heap.objs.size f cd).locals) I.ok.frames rfl I.wc I.ok.frf (λb d=>let ⟨_,o,ho,_⟩:=I.ok.i6.mem d;⟨o,ho⟩) I.base I.os fl λF h=>⟨a,C,H',rfl,h,q⟩
 .exact xu (L:=(envOfC qual scope s.heap.objs.size f cd).locals) I.ok.frames rfl I.wc I.base I.os I.bare I.hok I.stack I.nU k λF h=>⟨e,C,Hc,rfl,h,q⟩
noncomputable def IC(C:Addr)(E:XK)(t:TA):TS:=λ_ Y H=>t Y H λvs i=>vs.length<=sizeLine/\E (.ref C) none i
variable{x:Str}{pos:Pos}
theorem v8{E:XK}{e:Expr}{es:List Expr}{t:TA}{np cpos:Pos}(xc:Xc X E)(hc:X.calm=true)(hg:Gl X x)(hm:X.mg x=some (.ref C))(hex:Rq X.K C tj "ValueError.__new__" = true)
  (ha:PA X (e::es) t)(hd:eG x:=by decide)(he:starEach (e::es) X.env=(false,eval e X.env)::starEach es X.env:=by rfl)(hpl:(backTo cpos (starEach es X.env)).any (·.1)=false:=by rfl):
  PS X (.Raise (some (.Call (.Name x np) (e::es) [] cpos)) none pos) (IC C E t):=by
 intro pins s Y H D I h;obtain⟨tl,N,nm,q,bs,hdct,sn,sub,ab,col,dd,k0,k1,k2,k3,k5,mN,hC,hN,hni,T⟩:=Cm I.ok.mod.kin hex;refine wpAny_Raise_call_subT (nm:=nm) (q:=q) (N:=N) (bs:=bs) (hdct:=hdct) (sn:=sn) (sub:=sub) (ab:=ab) (col:=col) (dd:=dd) (k0:=k0) (k1:=k1) (k2:=k2) (k3:=k3) (k5:=k5) (bm:=tl) (mN:=mN) U4 (T.hasType U4.hasBase) (I.ok.hd hc) (by rw[he];show (false || (backTo cpos (starEach es X.env)).any (·.1))=false;rw[hpl];rfl) hni (g7 I hg hm ⟨rfl,?_⟩ hd);have h1:=ha cpos pins s Y H _ I h;rw[he] at h1 ⊢;refine RB (wpAny_mono h1 (λus s2 h2=>?_) λ_ _ y=>y);obtain⟨vs,H2,I2,r2,hl,q2⟩:=h2;exact⟨rfl,by rw[<-r2.length];exact hl,I2.bk _ _ hC,hN.keeps I2.bk,T.keeps I2.bk,λh' ex hx=>xc.made pins Y H2 s2 h' ex C us I2 hx q2⟩
variable{H':Hp}{s':Shared}
theorem oU{l:List Env}{sc:Shared}{a:Addr}{a0:Value}(x:yh P w l Hc sc a C H' s')(fl:Ue base l a (.ref C) a0 s'.heap)
  (d:∀b o,s'.heap.get? b=some o->(H' b≠none\/((∃ob,sc.heap.get? b=some ob)/\b∉cA l))->base.get? b=some o)
  (h:Ue base l a (.ref C) a0 h')(up:s'.heap.UpToSlots h'):yh P w l Hc sc a C H' { s' with heap:=h' }:=by
 have t:∀b o,b∈cA l->s'.heap.get? b=some o->∀vs,o.data≠.fields vs:=λb o m e=>by obtain⟨_,K,N,U⟩:=nJ fl.2.2.1 m;rw[N] at e;cases e;exact U
 refine⟨x.os,x.bare,⟨λb o e n nb nx=>?_,λb o e n mb nx=>?_,x.un.free,λb o e nx=>?_,x.un.tups,x.un.frzs,x.un.tbls⟩,kS x.hok (λb o e n=>d b o e (.inl n)) h.1,x.new,x.free,base,a0,h,λb o e r=>?_⟩
 .exact h.1 b o (d b o (x.un.keep b o e n nb nx) (.inr ⟨⟨o,e⟩,nb⟩))
 .obtain⟨s,N⟩:=x.un.slot b o e n mb nx;obtain⟨S,T⟩:=up b _ N (t b _ mb N);exact⟨S,T⟩
 .obtain⟨K,N⟩:=x.un.there b o e nx;by_cases mb:b∈cA l
  .obtain⟨sl,T⟩:=up b K N (t b K mb N);exact⟨_,T⟩
  .exact⟨K,h.1 b K (d b K N (.inr ⟨⟨o,e⟩,mb⟩))⟩
 .have e:h'.get? b=some o:=e;have I:∀K,base.get? b=some K->base.get? b=some o:=λK T=>by have:=h.1 b K T;rw[e] at this;cases this;exact T
  rcases id r with q|⟨⟨ob,eb⟩,nb⟩
  .cases z:H' b with
   |none=>exact absurd z q
   |some v=>obtain⟨K,N⟩:=(x.hok b v z).is;exact I K (d b K N r)
  .obtain⟨K,N⟩:=x.un.there b ob eb (λz=>nomatch z);exact I K (d b K N r)
theorem yh.at{l:List Env}{sc:Shared}{a:Addr}(x:yh P w l Hc sc a C H' s'):ExcAt a C s'.heap:=by obtain⟨base,a0,fl,_⟩:=x.fl;exact fl.there
abbrev XS:=Value->St->Hp->Prop
def XP(X:Cx)(pins:List (Addr×Obj))(E:XS)(I:Value)(s':Shared):Prop:=
 ∃(a C:Addr)(Y:St)(Hc:Hp)(sc:Shared)(H':Hp),I=.ref a/\Inv X pins Y Hc sc/\yh X.prog X.w X.stack Hc sc a C H' s'/\E (.ref C) Y H'
def NJ(X:Cx)(e:Expr)(t:St->Hp->VK->XK->Prop):Prop:=
 ∀(pins:List (Addr×Obj))(s:Shared)(Y:St)(H:Hp)(Q:VK)(E:XK),Inv X pins Y H s->t Y H Q E->
  wpAny (model X.prog X.w) X.A (eval e X.env) (EP X pins Y Q) (XP X pins λc Z' H'=>Z'=Y/\E c none H') s
abbrev TX:=Ends->XS->St->Hp->Prop
def PX(X:Cx)(st:Stmt)(t:TX):Prop:=
 ∀(pins:List (Addr×Obj))(s:Shared)(Y:St)(H:Hp)(D:Ends)(E:XS),Inv X pins Y H s->t D E Y H->wpAny (model X.prog X.w) X.A (exec st X.env) (SP X pins D) (XP X pins E) s
def Lh(X:Cx)(st:List Stmt)(t:TX):Prop:=
 ∀(pins:List (Addr×Obj))(s:Shared)(Y:St)(H:Hp)(D:Ends)(E:XS),Inv X pins Y H s->t D E Y H->wpAny (model X.prog X.w) X.A (execs st X.env) (SP X pins D) (XP X pins E) s
variable{us:List Value}{i:Nat}
section
variable{X:Cx}
theorem XP.mono{E u:XS}{I:Value}(h:XP X pins E I s')(k:∀c Y H,E c Y H->u c Y H):XP X pins u I s':=by obtain⟨a,C,Y,Hc,sc,H',J,l,T,v⟩:=h;exact⟨a,C,Y,Hc,sc,H',J,l,T,k _ _ _ v⟩
theorem TP.gO{pins:List (Addr×Obj)}{Y:St}{Q:Bool->Hp->Prop}{u:Bool}{s:Shared}{E:Value->Shared->Prop}(h:TP (X.kC E) pins Y Q u s):TP X pins Y Q u s:=by obtain⟨H',I,q⟩:=h;exact⟨H',I.gO,q⟩
variable{k:Nat}{f C:Addr}{fd:FuncData}{ps:List Str}{sp:Sp}{dvs:List V}{ds:List Value}{x m:Str}{p pos apos:Pos}{e o:Expr}{es:List Expr}{ta:TE}{t:TA}
theorem AJ{Q:VK}{E:XK}{vs:List V}(F:cR X.prog X.w X.K X.mg X.base (mL X.prog X.w) k f fd ps sp)(y:cE k X.A)(d:Binds X.K fd ps ds)(hd:Vals dvs ds)
  (I:Inv X pins Y H s)(r:Vals vs us)(h:sp (vs++dvs) H Q E):wpAny (model X.prog X.w) X.A (call (.ref f) us) (EP X pins Y Q) (XP X pins λc Z' H'=>Z'=Y/\E c none H') s:=by
 have p:Vals (vs++dvs) (us++ds):=r.append hd;have hl:(us++ds).length=ps.length:=by rw[<-p.length];exact F.len _ _ _ _ h
 refine wpAny_call (codeAny_mono (F.run X.A X.stack s H ⟨us,[]⟩ (us++ds) (vs++dvs) Q E y I.Jr (d s us I.ym hl) p h) λres s' B=>?_);cases res with
 |error b=>obtain⟨a,C,H',rfl,fl,q⟩:=B;exact⟨a,C,Y,H,s,H',rfl,I,fl,rfl,q⟩
 |ok fl=>
  cases fl with
  |ret u=>exact I.after B
  |_=>exact Q6 B
def G9(sp:Sp)(dvs:List V)(t:TA):St->Hp->VK->XK->Prop:=λY H Q E=>t Y H λvs i=>sp (vs++dvs) i Q E
theorem pQ(F:cR X.prog X.w X.K X.mg X.base (mL X.prog X.w) k f fd ps sp)(hr:cE k X.A)(hg:Gl X x)(hm:X.mg x=some (.ref f))(hk:Qf X.K (.ref f)=true)(hb:Binds X.K fd ps ds)(hd:Vals dvs ds)
  (ha:PA X.uw (e::es) t)(hdb:eG x:=by decide)(he:starEach (e::es) X.env=(false,eval e X.env)::starEach es X.env:=by rfl)(hpl:(backTo pos (starEach es X.env)).any (·.1)=false:=by rfl):
  NJ X (.Call (.Name x p) (e::es) [] pos) (G9 sp dvs t):=by
 intro pins s Y H Q E I h;refine wpAny_Call_Name_kw (g7 I hg hm ?_ hdb);refine Uk (h₀:=X.base) I.ok.mod.kin hk (wpAny_mono (ha pos pins s Y H _ (I.kC _) h) (λus s1 z=>?_) (λ_ _ z=>z.elim)) he hpl;obtain⟨vs,H1,I1,r,q⟩:=z;exact⟨I1.gO.ym,AJ F hr hb hd I1.gO r q⟩
theorem CS{t:St->Hp->VK->XK->Prop}(he:NJ X e t)(hs:swapsWith e none pos.line X.env=pure false:=by rfl):
  PX X (.Expr e pos) (λD E Y H=>t Y H (λ_ H1=>D.nx Y H1) (λc _ H1=>E c Y H1)):=by
 intro pins s Y H D E I h;refine wpAny_Expr_any (wpAny_mono (he pins s Y H _ _ I h) (λu s1 z=>?_) λev s1 z=>z.mono λc Z' H' q=>?_) I.quiet hs
 .obtain⟨v,H',I',_,q⟩:=z;exact⟨Y,H',I',q⟩
 .obtain⟨rfl,q⟩:=q;exact q
theorem Fb{pos':Pos}{t:St->Hp->VK->XK->Prop}(hN:X.N.Nodup)(hi:X.N[i]?=some x)(hx:Loc X.env.scope x)(he:NJ X e t)(hs:swapsWith e (some (.Name x pos')) pos.line X.env=pure false:=by rfl)
  (hf:X.fn x=true\/X.env.scope.names.lookup x=some .local:=by first|exact .inl rfl|exact .inr rfl|assumption):
  PX X (.Assign [.Name x pos'] e pos) (λD E Y H=>t Y H (λv H1=>D.nx (Y.set i (some v)) H1) (λc _ H1=>E c Y H1)):=by
 intro pins s Y H D E I h;refine wpAny_Assign_Name (wpAny_mono (he pins s Y H _ _ I h) (λu s1 z=>?_) λev s1 z=>z.mono λc Z' H' q=>?_) hs
 .obtain⟨v,H',I',r,q⟩:=z;exact d5 I' hN hi hx r (λs2 I2=>⟨_,H',I2,q⟩) hf
 .obtain⟨rfl,q⟩:=q;exact q
theorem uv{st:Stmt}{t:TX}(h:PX X st t):Lh X [st] t:=by
 intro pins s Y H D E I q;refine wpAny_execs_cons (wpAny_mono (h pins s Y H D E I q) (λfl s1 z=>?_) λ_ _ z=>z);cases fl with
 |next=>exact wpAny_execs_nil z
 |_=>exact z
noncomputable abbrev Cx.marked(X:Cx)(a:Addr):Cx:={ X with A:=X.A.mark (some (.ref a)),calm:=false,xe:=λ_ _=>False }
theorem Inv.mark(I:Inv X pins Y H s)(a:Addr):Inv (X.marked a) pins Y H s:=
 have k:=I.ok
 ⟨⟨k.mod,k.kind,k.glob,k.blt,k.above,k.inj,k.has,k.cab,(λz=>nomatch z),k.frames,k.stk,k.exf,k.bs,k.bsz,k.noex,k.exfs,k.i6,k.frf⟩,I.os,I.bare,I.base,I.loc,I.cell,I.free,I.freeC,I.pin,I.hok,I.len⟩
theorem Inv.unmark{a:Addr}(I:Inv (X.marked a) pins Y H s)(k0:X.Ok):Inv X pins Y H s:=
 ⟨k0,I.os,I.bare,I.base,I.loc,I.cell,I.free,I.freeC,I.pin,I.hok,I.len⟩
theorem Inv.KN{a:Addr}{ho:HO}(I:Inv X pins Y H s)(Q:X.s₀.heap.get? a=none)(r:a≠X.env.locals)(g:∀x c,X.env.cells.lookup x=some c->c≠a)(t:∀p∈X.pn++pins,p.1≠a)
  (hn:H a=none)(ok:aL X.prog X.w (upd H a ho) s.heap a ho):Inv X pins Y (upd H a ho) s:=by
 have ne:∀b u,H b=some u->b≠a:=λb u e z=>by rw[z,hn] at e;cases e
 refine⟨I.ok,I.os,I.bare,⟨I.base.keep,I.base.slot,λb o e n nx=>?_,I.base.there,λb xs e=>?_,λb o v e=>?_,λb ps e=>?_⟩,I.loc,I.cell,by rw[ay (QM r)];exact I.free,λx c e=>by rw[ay (g x c e)];exact I.freeC x c e,λp hp=>?_,λb u e=>?_,I.len⟩
 .rw[ay (λz=>by rw[z,Q] at e;cases e)];exact I.base.free b o e n nx
 .have q:=I.base.tups b xs e;rw[ay (ne b _ q)];exact q
 .have q:=I.base.frzs b o v e;rw[ay (ne b _ q)];exact q
 .obtain⟨more,q⟩:=I.base.tbls b ps e;exact⟨more,by rw[ay (ne b _ q)];exact q⟩
 .obtain⟨J,l,T⟩:=I.pin p hp;exact⟨J,by rw[ay (t p hp)];exact l,T⟩
 .by_cases z:b=a
  .subst z;rw[br] at e;cases e;exact ok
  .rw[ay z] at e;exact(I.hok b u e).lK (λ_ _ _ q=>q) (λc q=>by rw[ay (ne c _ q)];exact q) λc xs q=>by rw[ay (ne c _ q)];exact q
theorem gn{M:Model}{A:Around}{n:Str}(I:Inv X pins Y H s)(Z:X.N.Nodup)(hi:X.N[i]?=some n)
  (hn:X.env.scope.names.lookup n=some .local)(q:∀s',Inv X pins (Y.set i none) H s'->Q () s'):wpAny M A (do bindName X.env n .none;unbindBehindTheSuite X.env n pos) Q E s:=by
 obtain⟨m,w,hl⟩:=id I.loc;refine wpAny_nameGoes_keeps hn w (by rw[I.ok.kind];rfl) λh' v D x=>q _ ?_;obtain⟨F,_,_,g,_⟩:=id w;have fl:∀b o,X.s₀.heap.get? b=some o->b≠X.env.locals:=λb o e=>PD (O9 (Pj e) I.ok.above);refine⟨I.ok,I.os,I.bare,⟨λb o e n d L=>(x.2 b (fl b o e)).trans (I.base.keep b o e n d L),λb o e n d L=>?_,I.base.free,λb o e L=>?_,I.base.tups,I.base.frzs,I.base.tbls⟩,⟨_,D,λj y t J l T=>?_⟩,λy c e=>?_,I.free,I.freeC,λp hp=>?_,λb u e=>?_,by simpa using I.len⟩
 .obtain⟨sl,J⟩:=I.base.slot b o e n d L;exact⟨sl,(x.2 b (fl b o e)).trans J⟩
 .obtain⟨O,J⟩:=I.base.there b o e L;exact⟨O,(x.2 b (fl b o e)).trans J⟩
 .by_cases V:j=i
  .subst V;have:j<Y.length:=by rw[I.len];exact(O6.mp hi).1
   rw[PR this] at l;cases l
  .rw[Qh (QM V)] at l;obtain⟨u,r,z⟩:=hl j y t J l T;refine⟨u,r,?_⟩;rcases z with ⟨k,e⟩|⟨k,c,e,z⟩
   .refine .inl ⟨k,?_⟩;have:y≠n:=λe=>V (km Z J (e▸hi));simp[this,e]
   .exact .inr ⟨k,c,e,z.sameBut x (I.Bz y c e)⟩
 .obtain⟨K,z⟩:=I.cell y c e;exact⟨K,z.sameBut x (I.Bz y c e)⟩
 .obtain⟨e,C,ne,r⟩:=I.pin p hp;exact⟨(x.2 p.1 ne).trans e,C,ne,r⟩
 .refine(I.hok b u e).lK (λc K hc z=>(x.2 c ?_).trans z) (λ_ z=>z) λ_ _ z=>z;intro R;rcases hc with hc|hc
  .rw[<-hc,R,I.free] at e;cases e
  .rw[R,I.free] at hc;cases hc
noncomputable def qk(a C:Addr):HO:=.ext (ExcAt a C)
theorem Al{a:Addr}(x:ExcAt a C h):aL P w H h a (qk a C):=
 ⟨x,let ⟨o,e,_⟩:=x;⟨o,e⟩,λh1 h2 ⟨o,e,c⟩ k=>⟨o,k o e,c⟩⟩
noncomputable def Ends.un(D:Ends)(i:Nat):Ends:={ nx:=λY H=>D.nx (Y.set i none) H,rt:=D.rt,bk:=λY H=>D.bk (Y.set i none) H,ct:=λY H=>D.ct (Y.set i none) H }
def Nu(K:O2)(T:Addr)(i:Nat)(tb:TX)(ts:TS):TS:=λD Y H=>tb D (λc Z' H'=>∃C,c=.ref C/\Sa K (.ref C) (.ref T)=some true/\∀a,H' a=none->ts (D.un i) (Z'.set i (some (.ref a))) (upd H' a (qk a C))) Y H
theorem Fh{T:Addr}{n:Str}{body suite:List Stmt}{b0:Stmt}{tb:TX}{ts:TS}{np hp:Pos}(hst:X.stack=X.env::X.outer)(hfr:X.env.frame=some X.env.locals)(hex:X.ex=[])(hN:X.N.Nodup)(hi:X.N[i]?=some n)(hn:X.env.scope.names.lookup n=some .local)
  (hg:Gl X x)(hm:X.mg x=some (.ref T))(hb:Lh X body tb)(hs:∀a,p7 (X.marked a) (b0::suite) ts)(hd:eG x:=by decide)(hf:X.fn n=true\/X.env.scope.names.lookup n=some .local:=by first|exact .inl rfl|exact .inr rfl|assumption):
  PS X (.Try body [.ExceptHandler (some (.Name x np)) (some n) (b0::suite) hp] [] [] pos) (Nu X.K T i tb ts):=by
 intro pins s Y H D I h;refine wpAny_Try_except (wpAny_mono (hb pins s Y H D _ I h) (λf s1 z=>?_) λev s1 z=>?_)
 .cases f with
  |next=>exact wpAny_execs_nil z
  |_=>exact z
 obtain⟨a,C,Z',Hc,sc,H',rfl,Ic,fl,C',e',hx,q⟩:=z;cases e';obtain⟨base,a0,f0,hb0⟩:=fl.fl;have hA:X.A.frames=some (X.env::X.outer):=hst▸I.ok.frames;rw[hst] at f0;refine wpAny_looks_onW hA hfr f0 λh1 held up1=>?_;refine wpAny_landsW held λh2 fl2 up2=>?_;have fly2:yh X.prog X.w X.stack Hc sc a C H' { s1 with heap:=h2 }:=oU fl (hst▸f0) hb0 (hst▸fl2) (up1.trans up2);have back:∀{s2:Shared},yh X.prog X.w X.stack Hc sc a C H' s2->Inv X pins Z' H' s2:=λy=>Ic.Ek (ch:=[]) y.os y.un y.hok y.bare (λb hb=>nomatch hb);have I2:=back fly2;refine wpAny_handleBy_cons (codeAny_handlers_test ?_) (by intro q;cases q);refine g7 (X:=X.marked a) (I2.mark a) hg hm ?_ hd;refine(PySem.W.exm_one (M:=model X.prog X.w) I2.ym fly2.at.type hx) _ _ _ _ (λ_ _ k=>k) ?_;refine codeAny_handlers_suite_as ?_;obtain⟨base2,a2,f2,hb2⟩:=fly2.fl;refine lands_againW f2 λh3 fl3 up3=>?_;have fly3:=oU fly2 f2 hb2 fl3 up3;have I3:=back fly3;have n1:∀b ob,sc.heap.get? b=some ob->b≠a:=λb ob e z=>by rw[z,fl.new] at e;cases e
 have I4:Inv X pins Z' (upd H' a (qk a C)) { s1 with heap:=h3 }:=by
  refine I3.KN ?_ ?_ ?_ ?_ fly3.free (Al fly3.at)
  .cases z:X.s₀.heap.get? a with
   |none=>rfl
   |some oa=>obtain⟨o1,e1⟩:=Ic.base.there a oa z (by rw[hex];exact λz=>nomatch z);rw[fl.new] at e1;cases e1
  .obtain⟨m,⟨oL,_,_,eL,_⟩,_⟩:=Ic.loc;exact(n1 _ _ eL).symm
  .intro y c e;obtain⟨v,oc,ec,_⟩:=Ic.cell y c e;exact n1 c oc ec
  .intro p hp;exact n1 _ _ (Ic.pin p hp).1
 refine d5 I4 hN hi (.inl hn) (v:=.ref a) rfl (λs5 I5=>?_) hf;refine wpAny_mono (hs a pins s5 _ _ (D.un i) (I5.mark a) (q a fly3.free)) (λf s6 z=>?_) λ_ _ z=>z.elim;cases f with
 |next=>obtain⟨Z,H6,I6,q6⟩:=z;exact gn (I6.unmark I.ok) hN hi hn λs7 I7=>⟨_,_,I7,q6⟩
 |ret u=>obtain⟨v,Z,H6,I6,r6,q6⟩:=z;exact gn (I6.unmark I.ok) hN hi hn λs7 I7=>⟨v,_,_,I7,r6,q6⟩
 |brk=>obtain⟨Z,H6,I6,q6⟩:=z;exact gn (I6.unmark I.ok) hN hi hn λs7 I7=>⟨_,_,I7,q6⟩
 |cont=>obtain⟨Z,H6,I6,q6⟩:=z;exact gn (I6.unmark I.ok) hN hi hn λs7 I7=>⟨_,_,I7,q6⟩
end
def Bd(n:Nat)(x:Int):Prop:=x.natAbs<2^n
variable{m:Nat}
theorem Bd.mono{n:Nat}{x:Int}(h:Bd m x)(k:m<=n):Bd n x:=O9 h (P6 (by decide) k)
theorem Bd.bits{n:Nat}{x:Int}(h:Bd n x):TC x<=n:=by
 unfold TC;split
 .exact Qm _
 .rename_i z;have J:x.natAbs≠0:=λq=>z (by simp[Int.natAbs_eq_zero.mp q]);exact(V8 J).mpr h
variable{y:Int}
theorem Bd.Jm{n:Nat}{x:Int}(h:Bd m x)(k:Bd n y)(N:m+n<=134217728):IntMulOk x y:=IntMulOk.of_le h.bits k.bits N
theorem Bd.mul{n:Nat}{x:Int}(h:Bd m x)(k:Bd n y):Bd (m+n) (x*y):=by unfold Bd at *;rw[TM,Nat.pow_add];exact Nat.mul_lt_mul'' h k
theorem Bd.add{n:Nat}{x:Int}(h:Bd m x)(k:Bd n y):Bd (max m n+1) (x+y):=by have h1:=h.mono (Vw m n);have k1:=k.mono (Vp m n);unfold Bd at *;have:=Int.natAbs_add_le x y;rw[Up];omega
theorem Bd.neg{n:Nat}{x:Int}(h:Bd n x):Bd n (-x):=by unfold Bd at *;rwa[Int.natAbs_neg]
theorem Bd.log{n:Nat}{x:Int}(h:Bd n x)(hn:n<=9000):x.natAbs.log2<9000:=by
 by_cases z:x.natAbs=0
 .rw[z];decide
 .exact O9 ((V8 z).mpr h) hn
section
variable{X:Cx}
def Ot(_ j:Int):Prop:=j≠0/\Bd 9000 j
theorem B0:cP X (binaryOp .Mult) (rI IntMulOk λi j=>.int (i*j)):=kA λ_ _ _ _ _ _ _ hc q=>mul_int q hc
theorem x9:cP X (binaryOp .FloorDiv) (rI Ot λi j=>.int (i.fdiv j)):=kA λ_ _ _ _ _ _ _ hc q=>floordiv_int hc.1 q (.inl (PyProof.noPylong_of_log2 (hc.2.log (Pf _))))
end
inductive D where
 |non|bl(b:Bool)|int(i:Int)|str(x:Str)|tup(ds:List D)|lst(ds:List D)
mutual
noncomputable def D.eq:D->D->Bool
 | .non,.non=>true
 | .bl a,.bl b=>a==b
 | .bl a,.int b=>(if a then 1 else 0)==b
 | .int a,.bl b=>a==(if b then 1 else 0)
 | .int a,.int b=>a==b
 | .str a,.str b=>a==b
 | .tup xs,.tup ys=>D.eqs xs ys
 | .lst xs,.lst ys=>D.eqs xs ys
 |_,_=>false
noncomputable def D.eqs:List D->List D->Bool
 |[],[]=>true
 |x::xs,y::ys=>D.eq x y&&D.eqs xs ys
 |_,_=>false
end
mutual
noncomputable def D.depth:D->Nat
 | .tup xs=>D.bX xs+1
 | .lst xs=>D.bX xs+1
 |_=>0
noncomputable def D.bX:List D->Nat
 |[]=>0
 |x::xs=>max (D.depth x) (D.bX xs)
end
mutual
theorem D.ip:∀d:D,D.eq d d=true
 | .non=>rfl
 | .bl b=>by simp[D.eq]
 | .int i=>by simp[D.eq]
 | .str x=>by simp[D.eq]
 | .tup xs=>by rw[D.eq];exact D.j6 xs
 | .lst xs=>by rw[D.eq];exact D.j6 xs
theorem D.j6:∀ds:List D,D.eqs ds ds=true
 |[]=>rfl
 |x::xs=>by rw[D.eqs,D.ip x,D.j6 xs];rfl
end
mutual
inductive Den(K:O2)(H:Hp):V->D->Prop
 |non:Den K H .non .non
 |bl(b:Bool):Den K H (.bl b) (.bl b)
 |int(i:Int):Den K H (.int i) (.int i)
 |str(x:Str):Den K H (.str x) (.str x)
 |tup{a:Addr}{xs:List V}{ds:List D}(e:dz K H a xs)(r:dw K H xs ds):Den K H (.ref a) (.tup ds)
 |lst{a:Addr}{xs:List V}{ds:List D}(e:eX K H a xs)(r:dw K H xs ds):Den K H (.ref a) (.lst ds)
inductive dw(K:O2)(H:Hp):List V->List D->Prop
 |nil:dw K H [] []
 |cons{x:V}{d:D}{xs:List V}{ds:List D}(h:Den K H x d)(r:dw K H xs ds):dw K H (x::xs) (d::ds)
end
theorem dw.len{K:O2}{H:Hp}:∀{xs:List V}{ds:List D},dw K H xs ds->xs.length=ds.length
 |_,_,.nil=>rfl
 |_,_,.cons _ r=>by rw[Pl,Pl,r.len]
theorem dw.at{K:O2}{H:Hp}:∀{xs:List V}{ds:List D}(j:Nat){x:V}{d:D},dw K H xs ds->xs[j]?=some x->ds[j]?=some d->Den K H x d
 |_,_,0,_,_,.cons h _,e1,e2=>by cases e1;cases e2;exact h
 |_,_,j+1,_,_,.cons _ r,e1,e2=>r.at j e1 e2
theorem D.mM:∀{ds:List D}(j:Nat){d:D},ds[j]?=some d->D.depth d<=D.bX ds
 |x::xs,0,_,e=>by cases e;exact Vw _ _
 |x::xs,j+1,_,e=>Px (D.mM (ds:=xs) j e) (Vp _ _)
theorem D.fb:∀(xs ys:List D),D.eqs xs ys=((Py (min xs.length ys.length)).all (λj=>D.eq (xs.getD j .non) (ys.getD j .non))&&xs.length==ys.length)
 |[],[]=>rfl
 |[],_::_=>rfl
 |_::_,[]=>rfl
 |x::xs,y::ys=>by
  rw[D.eqs,D.fb xs ys,Pl,Pl,Nat.succ_min_succ,List.range_succ_eq_map,P4,VP];have e:(xs.length+1==ys.length+1)=(xs.length==ys.length):=by rw[RD];simp
  rw[e,Bool.and_assoc];rfl
variable{xs ys:List V}{u v:Value}
section
variable{X:Cx}{pins:List (Addr×Obj)}{Y:St}{H:Hp}{s:Shared}
theorem tU{a:Addr}(I:Inv X pins Y H s)(h1:dz X.K H a xs)(h2:eX X.K H a ys):False:=by obtain⟨_,_,⟨o,e,c,_⟩,_⟩:=I.tuple h1;obtain⟨_,_,⟨o',y,e',t,_,d'⟩,_⟩:=I.list h2;rw[e] at e';cases e';rw[c] at t;injection t with q;exact absurd q (by decide)
mutual
theorem Den.inj(I:Inv X pins Y H s):∀{v:V}{d e:D},Den X.K H v d->Den X.K H v e->d=e
 |_,_,_,.non,h=>by cases h;rfl
 |_,_,_,.bl b,h=>by cases h;rfl
 |_,_,_,.int i,h=>by cases h;rfl
 |_,_,_,.str x,h=>by cases h;rfl
 |_,_,_,.tup e r,h=>by
  cases h with
  |tup e' w=>cases I.mG e e';rw[dw.inj I r w]
  |lst e' w=>exact(tU I e e').elim
 |_,_,_,.lst e r,h=>by
  cases h with
  |lst e' w=>cases I.qu e e';rw[dw.inj I r w]
  |tup e' w=>exact(tU I e' e).elim
theorem dw.inj(I:Inv X pins Y H s):∀{v:List V}{d e:List D},dw X.K H v d->dw X.K H v e->d=e
 |_,_,_,.nil,h=>by cases h;rfl
 |_,_,_,.cons a r,h=>by
  cases h with
  |cons a' w=>rw[Den.inj I a a',dw.inj I r w]
end
theorem mF(I:Inv X pins Y H s){A:Around}{x y:V}{d e:D}(f:A.units<cLine)(hf:fH x=true)(hd:Den X.K H x d)(t:Den X.K H y e)(g:RelV x u)(rv:RelV y v):Ru A s u v (D.eq d e):=by
 cases hd with
 |tup=>cases hf
 |lst=>cases hf
 |non =>
  cases t with
  |tup q r=>cases g;cases rv;rw[D.eq.eq_def];obtain⟨_,_,p,_⟩:=I.tuple q;exact .none_tuple p f
  |lst q r=>cases g;cases rv;rw[D.eq.eq_def];obtain⟨_,_,p,_⟩:=I.list q;exact .none_list p.isList f
  |non => exact bO g rv rfl rfl
  |bl b1=>exact bO g rv rfl rfl
  |int o=>exact bO g rv rfl rfl
  |str z=>exact bO g rv rfl rfl
 |bl Q=>
  cases t with
  |tup q r=>cases g;cases rv;rw[D.eq.eq_def];obtain⟨_,_,p,_⟩:=I.tuple q;exact .bool_tuple _ p f
  |lst q r=>cases g;cases rv;rw[D.eq.eq_def];obtain⟨_,_,p,_⟩:=I.list q;exact .bool_list _ p.isList f
  |non => exact bO g rv rfl rfl
  |bl b1=>exact bO g rv rfl rfl
  |int o=>exact bO g rv rfl rfl
  |str z=>exact bO g rv rfl rfl
 |int b=>
  cases t with
  |tup q r=>obtain⟨_,rfl⟩:=g;cases rv;rw[D.eq.eq_def];obtain⟨_,_,p,_⟩:=I.tuple q;exact .int_tuple _ _ p f
  |lst q r=>obtain⟨_,rfl⟩:=g;cases rv;rw[D.eq.eq_def];obtain⟨_,_,p,_⟩:=I.list q;exact .int_list _ _ p.isList f
  |non => exact bO g rv rfl rfl
  |bl b1=>exact bO g rv rfl rfl
  |int o=>exact bO g rv rfl rfl
  |str z=>exact bO g rv rfl rfl
 |str c=>
  cases t with
  |tup q r=>obtain⟨_,rfl⟩:=g;cases rv;rw[D.eq.eq_def];obtain⟨_,_,p,_⟩:=I.tuple q;exact .str_tuple _ _ p f
  |lst q r=>obtain⟨_,rfl⟩:=g;cases rv;rw[D.eq.eq_def];obtain⟨_,_,p,_⟩:=I.list q;exact .str_list _ _ p.isList f
  |non => exact bO g rv rfl rfl
  |bl b1=>exact bO g rv rfl rfl
  |int o=>exact bO g rv rfl rfl
  |str z=>exact bO g rv rfl rfl
theorem Vals.LW(r:Vals xs us){j:Nat}(V:j<us.toArray.size):∃x,xs[j]?=some x/\RelV x us.toArray[j]:=by
 have hl:=r.length;have H:j<us.length:=by simpa using V
 have L:j<xs.length:=by omega
 obtain⟨u,e,g⟩:=r.get (Pm L);rw[Pm H] at e;cases e;exact⟨xs[j],Pm L,by simpa using g⟩
theorem dw.getD{K:O2}{H:Hp}{xs:List V}{ds:List D}(r:dw K H xs ds){j:Nat}{x:V}(e:xs[j]?=some x):Den K H x (ds.getD j .non)/\D.depth (ds.getD j .non)<=D.bX ds:=by
 have v:j<ds.length:=by rw[<-r.len];exact(O6.mp e).1
 have l:ds[j]?=some ds[j]:=Pm v;have T:ds.getD j .non=ds[j]:=by rw[PQ,l];rfl
 rw[T];exact⟨r.at j e l,D.mM j l⟩
theorem jf(I:Inv X pins Y H s){n:Nat}(m:∀{A:Around}{x y:V}{d e:D}{u v:Value},A.units+n<cLine->D.depth d<=n->Den X.K H x d->Den X.K H y e->RelV x u->RelV y v->Ru A s u v (D.eq d e))
  {A:Around}(f:A.units+(n+1)<cLine){ds es:List D}(hn:D.bX ds<=n)(r:dw X.K H xs ds)(q:dw X.K H ys es)(g:Vals xs us)(rv:Vals ys vs):
  ∀j (h1:j<us.toArray.size) (h2:j<vs.toArray.size),Ru A.in1 s us.toArray[j] vs.toArray[j] (D.eq (ds.getD j .non) (es.getD j .non)):=λj h1 h2=>by
 obtain⟨x,ex,a⟩:=g.LW h1;obtain⟨y,F,P⟩:=rv.LW h2;obtain⟨o,z⟩:=r.getD ex;exact m (by show A.units+1+n<cLine;omega) (Px z hn) o (q.getD F).1 a P
theorem fQ(I:Inv X pins Y H s):∀(n:Nat){A:Around}{x y:V}{d e:D}{u v:Value},A.units+n<cLine->D.depth d<=n->Den X.K H x d->Den X.K H y e->RelV x u->RelV y v->Ru A s u v (D.eq d e):=by
 intro n;induction n with
 |zero=>
  intro A x y d e u v f hn hd t g rv;cases id hd with
  |tup=>simp[D.depth] at hn
  |lst=>simp[D.depth] at hn
  |_=>exact mF I f rfl hd t g rv
 |succ n m=>
  intro A x y d e u v f hn hd t g rv;have q:A.units<cLine:=by omega
  cases id hd with
  |@tup a xs ds ea r=>
   cases g;obtain⟨us,c,p,_⟩:=I.tuple ea;cases id t with
   |@tup b ys es eb z=>
    cases rv;obtain⟨vs,Q,w,_⟩:=I.tuple eb;by_cases o:a=b
    .subst o;rw[hd.inj I t,D.ip];exact .same _
    .refine .of_refs o ?_;rw[D.eq.eq_def];simp only[];rw[D.fb];have G:us.toArray.size=ds.length:=by rw[O4,<-c.length,r.len]
     have R:vs.toArray.size=es.length:=by rw[O4,<-Q.length,z.len]
     rw[<-G,<-R];exact .tuples p w q (jf I m f (by rw[D.depth] at hn;omega) r z c Q)
   |@lst b ys es eb z=>cases rv;obtain⟨vs,Q,w,_⟩:=I.list eb;rw[D.eq.eq_def];exact .tuple_list p w.isList q
   |non => cases rv;rw[D.eq.eq_def];exact .tuple_none p q
   |bl S=>cases rv;rw[D.eq.eq_def];exact .tuple_bool _ p q
   |int U=>obtain⟨_,rfl⟩:=rv;rw[D.eq.eq_def];exact .tuple_int _ _ p q
   |str Z=>obtain⟨_,rfl⟩:=rv;rw[D.eq.eq_def];exact .tuple_str _ _ p q
  |@lst a xs ds ea r=>
   cases g;obtain⟨us,c,p,_⟩:=I.list ea;cases id t with
   |@lst b ys es eb z=>
    cases rv;obtain⟨vs,Q,w,_⟩:=I.list eb;by_cases o:a=b
    .subst o;rw[hd.inj I t,D.ip];exact .same _
    .refine .of_refs o ?_;rw[D.eq.eq_def];simp only[];rw[D.fb];have G:us.toArray.size=ds.length:=by rw[O4,<-c.length,r.len]
     have R:vs.toArray.size=es.length:=by rw[O4,<-Q.length,z.len]
     rw[<-G,<-R];by_cases hl:us.toArray.size=vs.toArray.size
     .have J:(us.toArray.size==vs.toArray.size)=true:=beq_iff_eq.mpr hl;rw[J,SA,<-hl,Uq];exact .lists p.isList w.isList hl q (jf I m f (by rw[D.depth] at hn;omega) r z c Q)
     .have J:(us.toArray.size==vs.toArray.size)=false:=beq_eq_false_iff_ne.mpr hl;rw[J,RL];exact .lists_lengths p.isList w.isList (by simpa using hl) q
   |@tup b ys es eb z=>cases rv;obtain⟨vs,Q,w,_⟩:=I.tuple eb;rw[D.eq.eq_def];exact .list_tuple p.isList w q
   |non => cases rv;rw[D.eq.eq_def];exact .list_none p.isList q
   |bl S=>cases rv;rw[D.eq.eq_def];exact .list_bool _ p.isList q
   |int U=>obtain⟨_,rfl⟩:=rv;rw[D.eq.eq_def];exact .list_int _ _ p.isList q
   |str Z=>obtain⟨_,rfl⟩:=rv;rw[D.eq.eq_def];exact .list_str _ _ p.isList q
  |_=>exact mF I q rfl hd t g rv
end
section
variable{X:Cx}{pins:List (Addr×Obj)}{Y:St}{H:Hp}{s:Shared}
theorem ya(I:Inv X pins Y H s){n:Nat}{A:Around}{x y:V}{d e:D}(f:A.units+n<cLine)(hn:D.depth d<=n)(hd:Den X.K H x d)(t:Den X.K H y e)(g:RelV x u)(rv:RelV y v):SeqAt.RcAt A s u v (D.eq d e):=by
 have q:A.units<cLine:=by omega
 cases id hd with
 |non =>
  cases g;cases id t with
  |non => cases rv;rw[D.eq.eq_def];exact .none_none
  |bl Q=>cases rv;rw[D.eq.eq_def];exact .none_bool _
  |int Q=>obtain⟨_,rfl⟩:=rv;rw[D.eq.eq_def];exact .none_int _ _
  |str Q=>obtain⟨_,rfl⟩:=rv;rw[D.eq.eq_def];exact .none_str _ _
  |@tup b ys es eb z=>cases rv;rw[D.eq.eq_def];obtain⟨_,_,w,_⟩:=I.tuple eb;exact .none_tuple w q
  |@lst b ys es eb z=>cases rv;rw[D.eq.eq_def];obtain⟨_,_,w,_⟩:=I.list eb;exact .none_list w.isList q
 |bl k=>
  cases g;cases id t with
  |non => cases rv;rw[D.eq.eq_def];exact .bool_none _
  |bl Q=>cases rv;rw[D.eq.eq_def];exact .bool_bool _ _
  |int Q=>obtain⟨_,rfl⟩:=rv;rw[D.eq.eq_def];exact .bool_int _ _ _
  |str Q=>obtain⟨_,rfl⟩:=rv;rw[D.eq.eq_def];exact .bool_str _ _ _
  |@tup b ys es eb z=>cases rv;rw[D.eq.eq_def];obtain⟨_,_,w,_⟩:=I.tuple eb;exact .bool_tuple _ w q
  |@lst b ys es eb z=>cases rv;rw[D.eq.eq_def];obtain⟨_,_,w,_⟩:=I.list eb;exact .bool_list _ w.isList q
 |int k=>
  obtain⟨_,rfl⟩:=g;cases id t with
  |non => cases rv;rw[D.eq.eq_def];exact .int_none _ _
  |bl Q=>cases rv;rw[D.eq.eq_def];exact .int_bool _ _ _
  |int Q=>obtain⟨_,rfl⟩:=rv;rw[D.eq.eq_def];exact .int_int _ _ _ _
  |str Q=>obtain⟨_,rfl⟩:=rv;rw[D.eq.eq_def];exact .int_str _ _ _ _
  |@tup b ys es eb z=>cases rv;rw[D.eq.eq_def];obtain⟨_,_,w,_⟩:=I.tuple eb;exact .int_tuple _ _ w q
  |@lst b ys es eb z=>cases rv;rw[D.eq.eq_def];obtain⟨_,_,w,_⟩:=I.list eb;exact .int_list _ _ w.isList q
 |str k=>
  obtain⟨_,rfl⟩:=g;cases id t with
  |non => cases rv;rw[D.eq.eq_def];exact .str_none _ _
  |bl Q=>cases rv;rw[D.eq.eq_def];exact .str_bool _ _ _
  |int Q=>obtain⟨_,rfl⟩:=rv;rw[D.eq.eq_def];exact .str_int _ _ _ _
  |str Q=>obtain⟨_,rfl⟩:=rv;rw[D.eq.eq_def];exact .str_str _ _ _ _
  |@tup b ys es eb z=>cases rv;rw[D.eq.eq_def];obtain⟨_,_,w,_⟩:=I.tuple eb;exact .str_tuple _ _ w q
  |@lst b ys es eb z=>cases rv;rw[D.eq.eq_def];obtain⟨_,_,w,_⟩:=I.list eb;exact .str_list _ _ w.isList q
 |@tup a xs ds ea r=>
  cases g;obtain⟨us,c,p,_⟩:=I.tuple ea;cases id t with
  |non => cases rv;rw[D.eq.eq_def];exact .tuple_none p q
  |bl Q=>cases rv;rw[D.eq.eq_def];exact .tuple_bool _ p q
  |int Q=>obtain⟨_,rfl⟩:=rv;rw[D.eq.eq_def];exact .tuple_int _ _ p q
  |str Q=>obtain⟨_,rfl⟩:=rv;rw[D.eq.eq_def];exact .tuple_str _ _ p q
  |@tup b ys es eb z=>
   cases rv;obtain⟨vs,h,w,_⟩:=I.tuple eb;rw[D.depth] at hn;obtain⟨n,rfl⟩:∃m,n=m+1:=⟨n-1,by omega⟩
   rw[D.eq.eq_def];simp only[];rw[D.fb];have G:us.toArray.size=ds.length:=by rw[O4,<-c.length,r.len]
   have o:vs.toArray.size=es.length:=by rw[O4,<-h.length,z.len]
   rw[<-G,<-o];exact .tuples p w q (jf I (fQ I n) f (by omega) r z c h)
  |@lst b ys es eb z=>cases rv;rw[D.eq.eq_def];obtain⟨_,_,w,_⟩:=I.list eb;exact .tuple_list p w.isList q
 |@lst a xs ds ea r=>
  cases g;obtain⟨us,c,p,_⟩:=I.list ea;cases id t with
  |non => cases rv;rw[D.eq.eq_def];exact .list_none p.isList q
  |bl Q=>cases rv;rw[D.eq.eq_def];exact .list_bool _ p.isList q
  |int Q=>obtain⟨_,rfl⟩:=rv;rw[D.eq.eq_def];exact .list_int _ _ p.isList q
  |str Q=>obtain⟨_,rfl⟩:=rv;rw[D.eq.eq_def];exact .list_str _ _ p.isList q
  |@tup b ys es eb z=>cases rv;rw[D.eq.eq_def];obtain⟨_,_,w,_⟩:=I.tuple eb;exact .list_tuple p.isList w q
  |@lst b ys es eb z=>
   cases rv;obtain⟨vs,h,w,_⟩:=I.list eb;rw[D.depth] at hn;obtain⟨n,rfl⟩:∃m,n=m+1:=⟨n-1,by omega⟩
   rw[D.eq.eq_def];simp only[];rw[D.fb];have G:us.toArray.size=ds.length:=by rw[O4,<-c.length,r.len]
   have o:vs.toArray.size=es.length:=by rw[O4,<-h.length,z.len]
   rw[<-G,<-o];by_cases hl:us.toArray.size=vs.toArray.size
   .have J:(us.toArray.size==vs.toArray.size)=true:=beq_iff_eq.mpr hl;rw[J,SA,<-hl,Uq];exact .lists p.isList w.isList hl q (jf I (fQ I n) f (by omega) r z c h)
   .have J:(us.toArray.size==vs.toArray.size)=false:=beq_eq_false_iff_ne.mpr hl;rw[J,RL];exact .lists_lengths p.isList w.isList (by simpa using hl) q
theorem rn(I:Inv X pins Y H s){n:Nat}{A:Around}{x y:V}{d e:D}(f:A.units+n<cLine)(hn:D.depth d<=n)(hd:Den X.K H x d)(t:Den X.K H y e)(g:RelV x u)(rv:RelV y v):SeqAt.RcNeAt A s u v (!D.eq d e):=by
 have q:A.units<cLine:=by omega
 cases id hd with
 |non =>
  cases g;cases id t with
  |non => cases rv;rw[D.eq.eq_def];exact .none_none
  |bl Q=>cases rv;rw[D.eq.eq_def];exact .none_bool _
  |int Q=>obtain⟨_,rfl⟩:=rv;rw[D.eq.eq_def];exact .none_int _ _
  |str Q=>obtain⟨_,rfl⟩:=rv;rw[D.eq.eq_def];exact .none_str _ _
  |@tup b ys es eb z=>cases rv;rw[D.eq.eq_def];obtain⟨_,_,w,_⟩:=I.tuple eb;exact .none_tuple w q
  |@lst b ys es eb z=>cases rv;rw[D.eq.eq_def];obtain⟨_,_,w,_⟩:=I.list eb;exact .none_list w.isList q
 |bl k=>
  cases g;cases id t with
  |non => cases rv;rw[D.eq.eq_def];exact .bool_none _
  |bl Q=>cases rv;rw[D.eq.eq_def];exact .bool_bool _ _
  |int Q=>obtain⟨_,rfl⟩:=rv;rw[D.eq.eq_def];exact .bool_int _ _ _
  |str Q=>obtain⟨_,rfl⟩:=rv;rw[D.eq.eq_def];exact .bool_str _ _ _
  |@tup b ys es eb z=>cases rv;rw[D.eq.eq_def];obtain⟨_,_,w,_⟩:=I.tuple eb;exact .bool_tuple _ w q
  |@lst b ys es eb z=>cases rv;rw[D.eq.eq_def];obtain⟨_,_,w,_⟩:=I.list eb;exact .bool_list _ w.isList q
 |int k=>
  obtain⟨_,rfl⟩:=g;cases id t with
  |non => cases rv;rw[D.eq.eq_def];exact .int_none _ _
  |bl Q=>cases rv;rw[D.eq.eq_def];exact .int_bool _ _ _
  |int Q=>obtain⟨_,rfl⟩:=rv;rw[D.eq.eq_def];exact .int_int _ _ _ _
  |str Q=>obtain⟨_,rfl⟩:=rv;rw[D.eq.eq_def];exact .int_str _ _ _ _
  |@tup b ys es eb z=>cases rv;rw[D.eq.eq_def];obtain⟨_,_,w,_⟩:=I.tuple eb;exact .int_tuple _ _ w q
  |@lst b ys es eb z=>cases rv;rw[D.eq.eq_def];obtain⟨_,_,w,_⟩:=I.list eb;exact .int_list _ _ w.isList q
 |str k=>
  obtain⟨_,rfl⟩:=g;cases id t with
  |non => cases rv;rw[D.eq.eq_def];exact .str_none _ _
  |bl Q=>cases rv;rw[D.eq.eq_def];exact .str_bool _ _ _
  |int Q=>obtain⟨_,rfl⟩:=rv;rw[D.eq.eq_def];exact .str_int _ _ _ _
  |str Q=>obtain⟨_,rfl⟩:=rv;rw[D.eq.eq_def];exact .str_str _ _ _ _
  |@tup b ys es eb z=>cases rv;rw[D.eq.eq_def];obtain⟨_,_,w,_⟩:=I.tuple eb;exact .str_tuple _ _ w q
  |@lst b ys es eb z=>cases rv;rw[D.eq.eq_def];obtain⟨_,_,w,_⟩:=I.list eb;exact .str_list _ _ w.isList q
 |@tup a xs ds ea r=>
  cases g;obtain⟨us,c,p,_⟩:=I.tuple ea;cases id t with
  |non => cases rv;rw[D.eq.eq_def];exact .tuple_none p q
  |bl Q=>cases rv;rw[D.eq.eq_def];exact .tuple_bool _ p q
  |int Q=>obtain⟨_,rfl⟩:=rv;rw[D.eq.eq_def];exact .tuple_int _ _ p q
  |str Q=>obtain⟨_,rfl⟩:=rv;rw[D.eq.eq_def];exact .tuple_str _ _ p q
  |@tup b ys es eb z=>
   cases rv;obtain⟨vs,h,w,_⟩:=I.tuple eb;rw[D.depth] at hn;obtain⟨n,rfl⟩:∃m,n=m+1:=⟨n-1,by omega⟩
   rw[D.eq.eq_def];simp only[];rw[D.fb];have G:us.toArray.size=ds.length:=by rw[O4,<-c.length,r.len]
   have o:vs.toArray.size=es.length:=by rw[O4,<-h.length,z.len]
   rw[<-G,<-o];exact .tuples p w q (jf I (fQ I n) f (by omega) r z c h)
  |@lst b ys es eb z=>cases rv;rw[D.eq.eq_def];obtain⟨_,_,w,_⟩:=I.list eb;exact .tuple_list p w.isList q
 |@lst a xs ds ea r=>
  cases g;obtain⟨us,c,p,_⟩:=I.list ea;cases id t with
  |non => cases rv;rw[D.eq.eq_def];exact .list_none p.isList q
  |bl Q=>cases rv;rw[D.eq.eq_def];exact .list_bool _ p.isList q
  |int Q=>obtain⟨_,rfl⟩:=rv;rw[D.eq.eq_def];exact .list_int _ _ p.isList q
  |str Q=>obtain⟨_,rfl⟩:=rv;rw[D.eq.eq_def];exact .list_str _ _ p.isList q
  |@tup b ys es eb z=>cases rv;rw[D.eq.eq_def];obtain⟨_,_,w,_⟩:=I.tuple eb;exact .list_tuple p.isList w q
  |@lst b ys es eb z=>
   cases rv;obtain⟨vs,h,w,_⟩:=I.list eb;rw[D.depth] at hn;obtain⟨n,rfl⟩:∃m,n=m+1:=⟨n-1,by omega⟩
   rw[D.eq.eq_def];simp only[];rw[D.fb];have G:us.toArray.size=ds.length:=by rw[O4,<-c.length,r.len]
   have o:vs.toArray.size=es.length:=by rw[O4,<-h.length,z.len]
   rw[<-G,<-o];by_cases hl:us.toArray.size=vs.toArray.size
   .have J:(us.toArray.size==vs.toArray.size)=true:=beq_iff_eq.mpr hl;rw[J,SA,<-hl,Uq];exact .lists p.isList w.isList hl q (jf I (fQ I n) f (by omega) r z c h)
   .have J:(us.toArray.size==vs.toArray.size)=false:=beq_eq_false_iff_ne.mpr hl;rw[J,RL];exact .lists_lengths p.isList w.isList (by simpa using hl) q
def Kf(K:O2):R2:=λx y H Q=>∃d e,Den K H x d/\Den K H y e/\D.depth d<=40/\Q (.bl (D.eq d e)) H
def KU(K:O2):R2:=λx y H Q=>∃d e,Den K H x d/\Den K H y e/\D.depth d<=40/\Q (.bl (!D.eq d e)) H
theorem yq(f:X.A.units+64<cLine):cP X (compareOp .Eq) (Kf X.K):=by intro pins s Y H x y v u Q I a P h;obtain⟨d,e,hd,t,dp,q⟩:=h;exact ya I (n:=64) f (by omega) hd t a P _ _ _ _ ⟨.bl _,H,I,rfl,q⟩
theorem wL(f:X.A.units+64<cLine):cP X (compareOp .NotEq) (KU X.K):=by intro pins s Y H x y v u Q I a P h;obtain⟨d,e,hd,t,dp,q⟩:=h;exact rn I (n:=64) f (by omega) hd t a P _ _ _ _ ⟨.bl _,H,I,rfl,q⟩
inductive BQ(K:O2)(H:Hp):V->Value->Prop where
 |of{v:V}{t:Value}(h:jA K H v t):BQ K H v t
 |tup{a:Addr}{xs:List V}(e:dz K H a xs):BQ K H (.ref a) (.type "tuple")
 |lst{a:Addr}{xs:List V}(e:eX K H a xs):BQ K H (.ref a) (.type "list")
 |exc{a C:Addr}(e:H a=some (qk a C))(c:hR K C):BQ K H (.ref a) (.ref C)
 |dic{a:Addr}{kvs:List (Key×V)}(e:Rd H a (.dK kvs)):BQ K H (.ref a) (.type "dict")
noncomputable def rb:V->Value
 | .ref a=>.ref a
 | .ty n=>.type n
 |_=>.none
noncomputable def qh:V->Bool
 | .ref _=>true
 | .ty _=>true
 |_=>false
theorem Cd{x:V}(h:qh x=true)(r:RelV x u):u=rb x:=by cases x<;>first|exact r|cases h
theorem qM{pins:List (Addr×Obj)}{x:V}{t:Value}(I:Inv X pins Y H s)(E:RelV x u)(ty:BQ X.K H x t):∃P,PySem.W.KitX X.K u t P/\P s.heap/\u≠.builtin "__main__.__loader__#opaque" := by
 cases ty with
 |tup e=>cases E;obtain⟨_,_,⟨o,h1,h2,_⟩,_⟩:=I.tuple e;exact⟨_,Ur,⟨o,h1,h2⟩,λz=>nomatch z⟩
 |lst e=>cases E;obtain⟨_,_,⟨o,_,h1,h2,_⟩,_⟩:=I.list e;exact⟨_,SD,⟨o,h1,h2⟩,λz=>nomatch z⟩
 |dic e=>cases E;obtain⟨_,_,vs,_,o,es,ep,h1,h2,_⟩:=fh I.hok e;exact⟨_,SE,⟨o,h1,h2.1⟩,λz=>nomatch z⟩
 |exc e c=>
  cases E;obtain⟨p,_⟩:=(show aL X.prog X.w H s.heap _ (qk _ _) from I.hok _ _ e)
  exact⟨_,wQ c,p,λz=>nomatch z⟩
 |of h=>
  cases h with
  |non=>cases E;exact⟨_,PySem.W.kitx_none,trivial,λz=>nomatch z⟩
  |bl y=>cases E;exact⟨_,PySem.W.kitx_bool,trivial,λz=>nomatch z⟩
  |int i=>obtain⟨_,rfl⟩:=E;exact⟨_,PySem.W.kitx_int,trivial,λz=>nomatch z⟩
  |str i=>obtain⟨_,rfl⟩:=E;exact⟨_,PySem.W.kitx_str,trivial,λz=>nomatch z⟩
  |flt i=>obtain⟨_,rfl⟩:=E;exact⟨_,PySem.W.kitx_float,trivial,λz=>nomatch z⟩
  |@lst a xs ea=>
   cases E;obtain⟨_,_,n,_,h1⟩:=(show aL X.prog X.w H s.heap a (.lst xs) from I.hok a _ ea)
   exact⟨_,SD,⟨_,h1,rfl⟩,λz=>nomatch z⟩
  |@frz a ob xs ea=>
   cases E;obtain⟨_,_,_,n,_,h1⟩:=(show aL X.prog X.w H s.heap a (.frz ob (.lst xs)) from I.hok a _ ea)
   exact⟨_,SD,⟨_,h1,rfl⟩,λz=>nomatch z⟩
  |@tup a xs ea=>
   cases E;obtain⟨_,_,_,o,h1,h2,_⟩:=(show aL X.prog X.w H s.heap a (.tup xs) from I.hok a _ ea)
   exact⟨_,Ur,⟨o,h1,h2⟩,λz=>nomatch z⟩
  |@dK a kvs ea=>
   cases E;obtain⟨_,_,vs,_,o,es,ep,h1,h2,_⟩:=(show aL X.prog X.w H s.heap a (.dK kvs) from I.hok a _ ea)
   exact⟨_,SE,⟨o,h1,h2.1⟩,λz=>nomatch z⟩
  |@dT a kvs ea=>
   cases E;obtain⟨_,_,xs,_,o,es,ep,h1,h2,_⟩:=(show aL X.prog X.w H s.heap a (.dT kvs) from I.hok a _ ea)
   exact⟨_,SE,⟨o,h1,h2.1⟩,λz=>nomatch z⟩
  |@ins a C dx fs ea cl ha hn htk hm=>cases E;obtain⟨mA,O,_⟩:=Bl I.hok ea;obtain⟨od,J,_⟩:=O.look;exact⟨_,PySem.W.kitx_own (cl.get _) cl.hd ha hn htk hm,J,λz=>nomatch z⟩
theorem yG:bE X (.builtin "isinstance") (λxs H Q=>∃x c t b,xs=[x,c]/\BQ X.K H x t/\qh c=true/\Qg X.K t (rb c)=some b/\Q (.bl b) H):=by intro pins s Y H xs us Q I r h;obtain⟨x,c,t,b,rfl,ty,hc,hk,q⟩:=h;obtain⟨u,y,rfl,g,U⟩:=vals2 r;rw[Cd hc U];obtain⟨P,Z,p,nb⟩:=qM I g ty;exact PySem.W.kia_one Z I.ym p hk nb λtk=>⟨.bl b,H,I.tok tk,rfl,q⟩
end
theorem Hu:bootBuiltins "len" = some (.builtin "len"):=by decide +kernel
theorem lJ:bootBuiltins "isinstance" = some (.builtin "isinstance"):=by decide +kernel
theorem EU:bootBuiltins "abs" = some (.builtin "abs"):=by decide +kernel
theorem Gj:bootBuiltins "max" = some (.builtin "max"):=by decide +kernel
theorem za:bootBuiltins "min" = some (.builtin "min"):=by decide +kernel
theorem mI:bootBuiltins "sorted" = some (.builtin "sorted"):=by decide +kernel
theorem yr:bootBuiltins "all" = some (.builtin "all"):=by decide +kernel
theorem zT:bootBuiltins "int" = some (.type "int"):=by decide +kernel
theorem Dp:bootBuiltins "bool" = some (.type "bool"):=by decide +kernel
theorem HV:bootBuiltins "str" = some (.type "str"):=by decide +kernel
theorem p8:bootBuiltins "tuple" = some (.type "tuple"):=by decide +kernel
theorem sS:bootBuiltins "list" = some (.type "list"):=by decide +kernel
theorem Dk:bootBuiltins "dict" = some (.type "dict"):=by decide +kernel
theorem y9:Passes (mL P w) X E0:=λ_ _ _ _ _ _ _ ⟨_,_,_,_,_,z⟩=>z.elim
structure nK(K:O2)(x qual:Str)(st:Stmt)(f:Addr)(fd:FuncData)(dV:Value):Prop where
 ex:∃(oc:Value)(od:Option Addr)(kV doc pm:Value)(an:Option Addr)(cdv ct:Value)(osl:Array (Option Value)),
  fd=Sx x qual (cK st) (cj st) (aI st) dV kV doc pm an cdv ct/\K.lookup f=some ⟨oc,od,.func fd,osl⟩/\R9 K cdv qual=true
 kp:Qf K (.ref f)=true
section
variable{P:Program}{w:World}{K:O2}{mg:Str->Option Value}{base:Heap}{dV:Value}
theorem nK.ok{qual:Str}{st:Stmt}{fd:FuncData}{ps:List Str}{k:Nat}{sp:Sp}(F:nK K x qual st f fd dV)(S:hZ N ps (aI st))(len:∀vs H Q E,sp vs H Q E->vs.length=ps.length)
  (z:∀(cdv:Value)(A:Around)(outer:List Env)(s:Shared)(H:Hp)(vs:List V)(Q:VK)(E:XK),cE k (A.deeper (envOfC qual (aI st) s.heap.objs.size f cdv))->sp vs H Q E->
   ∃t,p7 (oT (mL P w) P w K mg base N qual (aI st) f cdv A outer s H E) (cj st) t/\t { nx:=λ_ H'=>Q .non H',rt:=Q } (start N vs) H):cR P w K mg base (mL P w) (k+1) f fd ps sp:=by
 obtain⟨oc,od,kV,doc,pm,an,cdv,ct,osl,rfl,T,C⟩:=F.ex;exact LP T C S len λA outer s H vs Q E y g=>z cdv A outer s H vs Q E y g
end
@[irreducible] def QS (X:Cx) (s:Stmt) (t:TS):Prop:=PS X s t
@[irreducible] def QT (X:Cx) (s:Expr) (t:TT):Prop:=PT X s t
@[irreducible] def QA (X:Cx) (s:List Expr) (t:TA):Prop:=PA X s t
set_option autoImplicit true
set_option relaxedAutoImplicit true
variable{elt:Expr}
section
variable{prog:Program}{w:World}{A:Around}{R:Result->Shared->Prop}{s:Shared}
theorem nG{B iter:Expr}{ifs:List Expr}{it acc:Value}(I:Nat->Shared->Prop)
  (G:∀n s,I n s->wpAny (model prog w) A (pyNext it) (λr Z=>match r with
   |none=>R (.ok .next) Z
   | some v=>wpAny (model prog w) A (letOwnedTupleGo B it v) (λ_ u=>wpAny (model prog w) A (assign B env v) (λ_ U=>
     wpAny (model prog w) A (forIn ifs true λc r=>if r=true then do let ok <- isTrue c env (eval c env);pure (QR ok) else pure (QR r)) (λok P=>
      if ok=true then wpAny (model prog w) A (eval elt env) (λx H=>wpAny (model prog w) A (call (.builtin "list.append") [acc,x]) (λ_ X=>∃m,m<n/\I m X) (λ_ _=>False) H) (λ_ _=>False) P
      else ∃m,m<n/\I m P) (λ_ _=>False) U) (λ_ _=>False) u) (λ_ _=>False) Z) (λ_ _=>False) s)
  (n:Nat) (h:I n s):codeAny (model prog w) A (.compLoop (.ListComp elt [⟨B,iter,ifs,0⟩] scope pos) 0 it acc env) R s:=by
 refine codeAny_loop rfl I (λn s S=>?_) n h;show wpAny _ A ((compTurn (.ListComp elt [⟨B,iter,ifs,0⟩] scope pos) 0 it acc env).onRaise (λx=>do noteFrame x env;theTreesLotGoes x)) _ _ s;refine wpAny_noted ?_;rw[compTurn_list];refine wpAny_bind (wpAny_standAt (wpAny_bind (wpAny_mono (G n s S) (λr Z O=>?_) λ_ _ h'=>h'.elim)));cases r with
 |none=>exact wpAny_pure O
 |some v=>
  refine wpAny_bind (wpAny_mono O (λ_ u b=>?_) λ_ _ h'=>h'.elim);refine wpAny_bind (wpAny_mono b (λ_ U D=>wpAny_bind (wpAny_mono D (λok P Y=>?_) λ_ _ h'=>h'.elim)) λ_ _ h'=>h'.elim);cases ok with
  |false=>exact wpAny_pure ⟨rfl,Y⟩
  |true=>exact wpAny_bind (wpAny_bind (wpAny_mono Y (λx H K=>wpAny_bind (wpAny_mono K (λ_ X L=>wpAny_pure (wpAny_pure ⟨rfl,L⟩)) λ_ _ h'=>h'.elim)) λ_ _ h'=>h'.elim))
end
theorem kI{env:Env}{f:Str×NameKind->List (Str×Addr)->Sem (ForInStep (List (Str×Addr)))}
  (hf:∀x cs,f x cs=if (x.2==Q7)=true then (do let c <- cellOf env x.1;pure (QR ((x.1,c)::cs))) else pure (QR cs)):
  ∀(l:List (Str×NameKind))(cs:List (Str×Addr)),(∀x∈l,x.2=.free->∃c,env.cells.lookup x.1=some c)->
   ∃cl,forIn l cs f=(pure cl:Sem _)/\(∀x c,cl.lookup x=some c->cs.lookup x=some c\/env.cells.lookup x=some c) /\
    (∀x,(∃c,cs.lookup x=some c)\/(x,Q7)∈l->∃c,cl.lookup x=some c)
 |[],cs,_=>⟨cs,rfl,λ_ _ h=>.inl h,λx h=>h.elim id (λz=>by cases z)⟩
 |(n,k)::l,cs,h=>by
  rw[Vq,hf];by_cases hk:k=.free
  .subst hk;obtain⟨c,hc⟩:=h (n,.free) PK rfl;obtain⟨cl,e,h1,h2⟩:=kI hf l ((n,c)::cs) λx L=>h x (Pa _ L);refine⟨cl,?_,λx t q=>?_,λx q=>h2 x ?_⟩
   .have J:cellOf env n=pure c:=by unfold cellOf;rw[hc]
    simp only[beq_self_eq_true,if_true,J,pure_bind];exact e
   .rcases h1 x t q with z|z
    .rw[P1] at z;by_cases L:(x==n)=true
     .rw[L] at z;have:x=n:=eq_of_beq L;subst this;exact .inr (by rw[hc];exact z)
     .rw[U3.mpr L] at z;exact .inl z
    .exact .inr z
   .rcases q with ⟨t,z⟩|z
    .left;rw[P1];cases x==n with
     |true=>exact⟨c,rfl⟩
     |false=>exact⟨t,z⟩
    .rcases Po.mp z with z|z
     .left;cases z;rw[P1,beq_self_eq_true];exact⟨c,rfl⟩
     .exact .inr z
  .obtain⟨cl,e,h1,h2⟩:=kI hf l cs λx L=>h x (Pa _ L);refine⟨cl,?_,h1,λx q=>h2 x ?_⟩
   .have J:((n,k).2==Q7)=false:=by cases k<;>first|rfl|exact absurd rfl hk
    rw[J];simp only[Rc,if_false,pure_bind];exact e
   .rcases q with z|z
    .exact .inl z
    .rcases Po.mp z with z|z
     .cases z;exact absurd rfl hk
     .exact .inr z
theorem q9(h:∀x∈scope.names,x.2=.free->∃c,env.cells.lookup x.1=some c):
  ∃cl,closureFor scope env=pure cl/\(∀x c,cl.lookup x=some c->env.cells.lookup x=some c)/\(∀x,(x,Q7)∈scope.names->∃c,cl.lookup x=some c):=by
 obtain⟨cl,e,h1,h2⟩:=kI (env:=env) (λ_ _=>rfl) scope.names [] h;refine⟨cl,?_,λx c q=>(h1 x c q).elim (λz=>by cases z) id,λx q=>h2 x (.inr q)⟩;unfold closureFor;exact(congrArg (λz:Sem (List (Str×Addr))=>z >>= λr=>pure r) e).trans (by rw[pure_bind])
section
variable{env:Env}
noncomputable def pH(env:Env):Str×NameKind->Str×NameKind:=λ(n,k)=>if (k==.free&&env.scope.kind==.function&&env.kindOf n==some .cell) then (n,.cell) else (n,k)
theorem pW(p:Str×NameKind):(pH env p).1=p.1:=by obtain⟨n,k⟩:=p;show (if _ then _ else _:Str×NameKind).1=n;split<;>rfl
theorem pR(p:Str×NameKind):(pH env p).2=p.2\/(p.2=.free/\(pH env p).2=.cell):=by
 obtain⟨n,k⟩:=p;show (if _ then _ else _:Str×NameKind).2=k\/_;split
 .rename_i h;right;rw[O3,O3] at h;refine⟨eq_of_beq h.1.1,?_⟩;show (if _ then _ else _:Str×NameKind).2=_;rw[if_pos (by rw[O3,O3];exact h)]
 .left;rfl
theorem dF:∀{names:List (Str×NameKind)}{x:Str}{k:NameKind},names.lookup x=some k->(names.map (pH env)).lookup x=some k\/(k=.free/\(names.map (pH env)).lookup x=some .cell)
 |[],_,_,h=>by cases h
 |p::r,x,k,h=>by
  rw[Pg];obtain⟨n,k0⟩:=p;have J:=pW (env:=env) (n,k0);have l:=pR (env:=env) (n,k0);generalize pH env (n,k0)=q at J l ⊢;obtain⟨y,c⟩:=q;have J:y=n:=J;subst J;rw[P1] at h ⊢;cases L:x==y with
  |true=>
   rw[L] at h;cases h;rcases l with l|⟨l,T⟩
   .left;exact congrArg some l
   .right;exact⟨l,congrArg some T⟩
  |false=>rw[L] at h;exact dF h
theorem bK:∀{names:List (Str×NameKind)}{x:Str}{k:NameKind},(names.map (pH env)).lookup x=some k->names.lookup x=some k\/(k=.cell/\names.lookup x=some .free)
 |[],_,_,h=>by cases h
 |p::r,x,k,h=>by
  rw[Pg] at h;obtain⟨n,k0⟩:=p;have J:=pW (env:=env) (n,k0);have l:=pR (env:=env) (n,k0);generalize pH env (n,k0)=q at J l h;obtain⟨y,c⟩:=q;have J:y=n:=J;subst J;rw[P1] at h ⊢;cases L:x==y with
  |true=>
   rw[L] at h;cases h;rcases l with l|⟨l,T⟩
   .left;exact congrArg some l.symm
   .right;exact⟨T,congrArg some l⟩
  |false=>rw[L] at h;exact bK h
theorem f9{sc:Scope}(h:sc.names.lookup x=some .local):(relabel sc env).names.lookup x=some .local:=by
 rcases dF (env:=env) h with z|⟨z,_⟩
 .exact z
 .cases z
theorem zV{sc:Scope}(h:sc.names.lookup x=some .globalImplicit):(relabel sc env).names.lookup x=some .globalImplicit:=by
 rcases dF (env:=env) h with z|⟨z,_⟩
 .exact z
 .cases z
theorem pd{sc:Scope}(h:sc.names.lookup x=some .free):qy (relabel sc env) x:=by
 rcases dF (env:=env) h with z|⟨_,z⟩
 .exact .inr (.inr z)
 .exact .inr (.inl z)
end
structure eQ(N0 N:List Str)(k:Nat)(sc de:Scope):Prop where
 kind:sc.kind=.function
 cell:∀y∈sc.names,y.2≠.cell
 names:∀y∈sc.names,y.2=.local->sc.names.lookup y.1=some .local
 len:N.length=N0.length+k
 nd:N.Nodup
 old:∀p∈(N.take N0.length).zip N0,p.1=p.2\/sc.names.lookup p.1=none
 nl:∀n∈N.take N0.length,sc.names.lookup n≠some .local
 fr:∀y∈sc.names,y.2=.free->de.names.lookup y.1=some .cell\/de.names.lookup y.1=some .free
noncomputable def gJ(X:Cx)(N:List Str)(sc:Scope)(cl:List (Str×Addr))(C:Addr)(s:Shared)(H:Hp)(ex:List Addr):Cx where
 prog:=X.prog
 w:=X.w
 K:=X.K
 mg:=X.mg
 base:=X.base
 A:=X.A
 N:=N
 s₀:=s
 H₀:=H
 env:=compEnvC sc cl C X.env
 outer:=X.stack
 stack:=X.stack
 ex:=ex
 fn:=λ_=>false
 calm:=X.calm
 pn:=[]
 xe:=λ_ _=>False
theorem mem_of_lookupK{names:List (Str×NameKind)}{k:NameKind}(h:names.lookup x=some k):(x,k)∈names:=QO h
variable{Z':St}
section
variable{X:Cx}{pins:List (Addr×Obj)}{Y:St}{H:Hp}{s:Shared}{N:List Str}{k:Nat}{sc:Scope}{cl:List (Str×Addr)}{C:Addr}{fp:List Addr}{h1:Heap}{tk:Nat}
theorem y8(I:Inv X pins Y H s)(S:eQ X.N N k sc X.env.scope)(D:∀x c,cl.lookup x=some c->X.env.cells.lookup x=some c)
  (V:∀x,(x,Q7)∈sc.names->∃c,cl.lookup x=some c)(h:s.heap.objs.size<=C)(hf:∀b∈fp,kK X pins H b)(w:∀b∈fp,b<s.heap.objs.size)
  (hk:∀b o,s.heap.get? b=some o->h1.get? b=some o)(hn:∃m,h1.Ns C m):
  Inv (gJ X N sc cl C s H fp) (X.pn++pins) (Y++PB k none) H { s with heap:=h1,toks:=tk }:=by
 have Z:∀b o,s.heap.get? b=some o->b≠C:=λb o e=>PD (O9 (Pj e) h);have kind:∀x,((gJ X N sc cl C s H fp).env.kindOf x=some .cell\/(gJ X N sc cl C s H fp).env.kindOf x=some .free)->sc.names.lookup x=some .free:=λx L=>by
  rcases L with L|L
  .rcases bK (env:=X.env) L with z|⟨_,z⟩
   .exact absurd rfl (S.cell _ (mem_of_lookupK z))
   .exact z
  .rcases bK (env:=X.env) L with z|⟨z,_⟩
   .exact z
   .cases z
 refine⟨⟨I.ok.mod,S.kind,I.ok.glob,I.ok.blt,h,λx y c h1 h2=>I.ok.inj x y c (D _ _ h1) (D _ _ h2),λx L=>V x (mem_of_lookupK (kind x L)),λx c z _=>absurd (show false=true from z) PL,
  I.ok.hd,I.ok.frames,.inl rfl,λb K=>⟨PD (O9 (w b K) h),λx c e=>(hf b K).2.2.2.2.1 x c (D _ _ e)⟩,I.bs,Px I.ok.bsz I.sz,λb o e K=>?_,λb K G=>?_,I.stack,I.nU⟩,
  rfl,I.bare,Un.kept hk,?_,λx c e=>?_,I.hok.fresh h,λx c e=>I.freeC x c (D _ _ e),λp hp=>?_,I.hok.kept hk,?_⟩
 .rcases(hf b K).2.2.2.1 with z|z
  .exact I.ok.noex b o e z
  .exact absurd (O9 (Pj e) (Px I.ok.bsz z)) (Qa _)
 .rcases Po.mp (I.jg b G) with z|z
  .exact(hf b K).2.1 z
  .exact(hf b K).2.2.1 z
 .obtain⟨m,hn⟩:=hn;refine⟨m,hn,λi x v J F g=>?_⟩;have hi:i<Y.length:=by
   by_cases hi:i<Y.length
   .exact hi
   .rw[Qp (by omega),T9] at F;split at F<;>cases F
  rw[P5 hi] at F;have q:i<X.N.length:=by rw[<-I.len];exact hi
  have O:(N.take X.N.length)[i]?=some x:=by rw[T1 q];exact J
  have Q:=S.nl x (PJ O);have A:sc.names.lookup x=some .free:=by
   rcases g with z|z|z
   .rcases bK (env:=X.env) z with z|⟨z,_⟩
    .exact absurd z Q
    .cases z
   .exact kind x (.inl z)
   .exact kind x (.inr z)
  have t:X.N[i]?=some x:=by
   have hz:((N.take X.N.length).zip X.N)[i]?=some (x,X.N[i]):=by rw[List.getElem?_zip_eq_some];exact⟨O,Pm q⟩
   rcases S.old _ (PJ hz) with z|z
   .have z:x=X.N[i]:=z;rw[Pm q,<-z]
   .have z:sc.names.lookup x=none:=z;rw[A] at z;cases z
  obtain⟨B,f,E⟩:=I.loc;have T:qy X.env.scope x:=by
   rcases S.fr _ (mem_of_lookupK A) rfl with z|z
   .exact .inr (.inl z)
   .exact .inr (.inr z)
  obtain⟨u,r,l⟩:=E i x v t F T;refine ⟨u,r,.inr ⟨?_,?_⟩⟩
  .rcases pd (env:=X.env) A with z | z | z
   .rcases bK (env:=X.env) z with z | ⟨z,_⟩
    .rw [A] at z; cases z
    .cases z
   .exact .inl z
   .exact .inr z
  .rcases l with ⟨z,_⟩|⟨_,c,a,j⟩
   .have z:X.env.scope.names.lookup x=some .local:=z;rcases S.fr _ (mem_of_lookupK A) rfl with R|R
    .have R:X.env.scope.names.lookup x=some .cell:=R;rw[z] at R;cases R
    .have R:X.env.scope.names.lookup x=some .free:=R;rw[z] at R;cases R
   .obtain⟨c',U⟩:=V x (mem_of_lookupK A);have:=D _ _ U;rw[a] at this;cases this;obtain⟨o,ho,hd⟩:=j;exact⟨c,U,o,hk _ _ ho,hd⟩
 .obtain⟨v,o,ho,hd⟩:=I.cell x c (D _ _ e);exact⟨v,o,hk _ _ ho,hd⟩
 .have hp:p∈X.pn++pins:=hp;obtain⟨e,n,ne,P,d⟩:=I.pin p hp;refine⟨hk _ _ e,n,Z _ _ e,λK=>?_,d⟩;rcases Po.mp (I.jg _ K) with z|z
  .exact ne z
  .exact P z
 .show (Y++PB k none).length=N.length;rw[Pk,Ul,I.len,S.len]
theorem zq{D:Addr}{O:List Value}(I:Inv X pins Y H s)(z:Inv (gJ X N sc cl C s H fp) (X.pn++pins) Z' H' s')(p:s.heap.objs.size<=D)(x:H' D=none)
  (A:s'.heap.PlainList D O.toArray)(rv:Vals ys O)(hl:ys.length<=sizeLine)(hf:∀b∈fp,kK X pins H b):Inv X pins Y (upd H' D (.lst ys)) s':=by
 obtain⟨n,Z⟩:=A;have u:=z.base;have ne:∀b o,s.heap.get? b=some o->b≠D:=λb o e=>PD (O9 (Pj e) p);have r:∀b o,H' b=some o->b≠D:=λb o e=>aD e x;refine I.Ek z.os ⟨u.keep,u.slot,λb o e n nx=>?_,u.there,λb xs e=>?_,λb o v e=>?_,λb ps e=>?_⟩ (λb o e=>?_) z.bare (ch:=fp) λb d=>?_
 .rw[ay (ne b o e)];exact u.free b o e n nx
 .have:=u.tups b xs e;rw[ay (r _ _ this)];exact this
 .have:=u.frzs b o v e;rw[ay (r _ _ this)];exact this
 .obtain⟨more,this⟩:=u.tbls b ps e;exact⟨more,by rw[ay (r _ _ this)];exact this⟩
 .by_cases d:b=D
  .subst d;rw[br] at e;cases e;exact⟨hl,O,n,rv,Z⟩
  .rw[ay d] at e;exact(z.hok b o e).lK (λ_ _ _ q=>q) (λc q=>by rw[ay (r _ _ q)];exact q) λc xs q=>by rw[ay (r _ _ q)];exact q
 .obtain⟨R,S,l,T,U,V⟩:=hf b d;exact⟨T,S,U,V⟩
end
theorem Inv.rg(I:Inv X pins Y H s){a:Addr}(h:s.heap.objs.size<=a):a∉cA X.stack:=λd=>by
 rcases Po.mp (I.jg a d) with z|z
 .exact absurd (O9 I.lt (by rw[<-z];exact h)) (Qa _)
 .exact I.KY h z
def PF(X:Cx)(ifs:List Expr)(t:TT):Prop:=∀(pins:List (Addr×Obj))(s:Shared)(Y:St)(H:Hp)(Q:Bool->Hp->Prop),Inv X pins Y H s->t Y H Q->
 wpAny (model X.prog X.w) X.A (forIn ifs true λc r=>if r=true then do let ok <- isTrue c X.env (eval c X.env);pure (QR ok) else pure (QR r)) (TP X pins Y Q) X.xe s
noncomputable def Km:TT:=λ_ H Q=>Q true H
theorem Gn:PF X [] Km:=λ_ _ _ H _ I h=>wpAny_tests_nil ⟨H,I,h⟩
theorem GU{c:Expr}{t:TT}(hc:PT X c t):PF X [c] t:=λpins s Y H Q I h=>wpAny_tests_one (hc pins s Y H Q I h)
def xo(J:It)(g:TG)(u:TT)(v:TE)(Q:VK)(Y:St)(H:Hp):Prop:=∃W:Nat->Nat->St->List V->Hp->Prop,(∃m,W 0 m Y [] H)/\∀i m Y ys H,W i m Y ys H->ys.length<=sizeLine /\
  ((J.stop i H/\∀r,H r=none->Q (.ref r) (upd H r (.lst ys))) \/
   (J.go i H/\∃N:St->List V->Hp->Prop,(∀Z' s H',N Z' s H'->∃f,f<m/\W (i+1) f Z' s H') /\
     ∀x H',J.iP i H x H'->g x Y H' λT e=>u T e λb F=>if b=true then v T F λy X=>N T (ys++[y]) X else N T ys F))
noncomputable def xy(n:Nat)(I:TI)(g:TG)(u:TT)(v:TE):TE:=λY H Q=>I Y H λJ i=>xo J g u v Q (Y++PB n none) i
section
variable{X:Cx}{pins:List (Addr×Obj)}{Y:St}{H:Hp}{s:Shared}{N:List Str}{k:Nat}{sc:Scope}{cl:List (Str×Addr)}{C:Addr}{fp:List Addr}{J:It}{it:Addr}{tn:Nat->Heap->Prop}
 {tg elt iter:Expr} {ifs:List Expr} {pos:Pos} {g:TG} {tt:TT} {te:TE} {Q:VK} {E:Value->Shared->Prop} {RR:Value->Addr->Result->Shared->Prop}
theorem k7(hc:X.calm=true)(S:eQ X.N N k sc X.env.scope)(t:∀x c,cl.lookup x=some c->X.env.cells.lookup x=some c)
  (hcl2:∀x,(x,Q7)∈sc.names->∃c,cl.lookup x=some c)(I:Inv X pins Y H s)(T:Turn X.prog X.w X.K tg J fp it tn)(st:tn 0 s.heap)(hf:∀b∈fp,kK X pins H b)
  (B:xo J g tt te Q (Y++PB k none) H)
  (hg:∀C,PG (gJ X N sc cl C s H fp) tg g)(ht:∀C,PF (gJ X N sc cl C s H fp) ifs tt)(he:∀C,PE (gJ X N sc cl C s H fp) elt te)
  (hRR:∀D C s' H' ys,Inv X pins Y (upd H' D (.lst ys)) s'->s.heap.objs.size<=C->upd H' D (.lst ys) C=none->(∃m,s'.heap.Ns C m)->Q (.ref D) (upd H' D (.lst ys))->RR (.ref D) C (.ok .next) s'):
  wpAny (model X.prog X.w) X.A (newList []) (λacc P=>wpAny (model X.prog X.w) X.A (newFunctionEnv sc X.env.globals cl [] X.env.qual none .none (some X.env)) (λcenv s₄=>codeAny (model X.prog X.w) X.A (.compStart (.ListComp elt [⟨tg,iter,ifs,0⟩] sc pos) 0 (.ref it) acc { cenv with scope:=relabel sc X.env }) (RR acc cenv.locals) s₄) E P) E s:=by
 refine wpAny_newObj_type (wpAny_newFunctionEnv S.cell (by intro y hy;simp at hy) (λO R U=>?_) S.kind);dsimp only at R U ⊢;generalize hH2:s.heap.push { cls:=.type "list",dict:=none,data:=.seq ([]:List Value).toArray }=H2 at R U ⊢;have hC:H2.objs.size=s.heap.objs.size+1:=by rw[<-hH2,Vx]
 have L:s.heap.objs.size≠H2.objs.size:=by rw[hC];exact PD (S9 _)
 have G:s.heap.objs.size<=H2.objs.size:=by rw[hC];exact RU _
 have below:∀b,b<s.heap.objs.size->b≠H2.objs.size/\b≠s.heap.objs.size:=λb h=>⟨by rw[hC];exact PD (Q5 h),PD h⟩
 have old:∀b o,s.heap.get? b=some o->O.get? b=some o:=λb o e=>U.extBut b o (below b (Pj e)).1 (O8 _ (hH2▸O8 _ e));have hacc:O.PlainList s.heap.objs.size #[]:=⟨_,U.extBut _ _ L (O8 _ (hH2▸Pu _ rfl))⟩
 have f:∀b∈fp,b<s.heap.objs.size:=λb h=>let ⟨o,e,_⟩:=T.obj 0 _ st b h;Pj e
 have st1:tn 0 O:=T.keep _ _ _ st λb h o e=>old b o e;have I0:=y8 (tk:=s.toks+([]:List (Str×Value)).length) I S t hcl2 G hf f old ⟨_,R⟩;generalize H2.objs.size=C at R U hC L G below I0 ⊢;generalize hD:s.heap.objs.size=D at hC L G below hacc f ⊢;have F:s.heap.objs.size<=D:=by rw[hD];exact Pf _
 have a:∀{H':Hp}{o:Obj},(∀b∈fp,H' b=none)->∀b∈fp,kK (gJ X N sc cl C s H fp) ((X.pn++pins)++[(D,o)]) H' b:=λ{H' o} hn b h=>by
  obtain⟨f0,f1,f2,f3,f4,f5⟩:=hf b h;refine⟨hn b h,(below b (f b h)).1,λz=>?_,.inl h,λx c e=>f4 x c (t _ _ e),λp hp=>?_⟩
  .rcases Po.mp (I.jg b z) with z|z
   .exact f1 z
   .exact f2 z
  .have hp:p∈(X.pn++pins)++[(D,o)]:=hp;rcases Pe.mp hp with z|z
   .exact f5 p z
   .have:p=(D,o):=by simpa using z
    rw[this];exact QM (below b (f b h)).2
 have loop:∀P:Shared,P={ s with heap:=O,toks:=s.toks+([]:List (Str×Value)).length }->
   codeAny (model X.prog X.w) X.A (.compLoop (.ListComp elt [⟨tg,iter,ifs,0⟩] sc pos) 0 (.ref it) (.ref D) (compEnvC sc cl C X.env)) (RR (.ref D) C) P:=by
  rintro P rfl;obtain⟨W,⟨m0,w0⟩,step⟩:=B;refine nG (λn s'=>∃i Z' H' ys l,Inv (gJ X N sc cl C s H fp) (X.pn++pins) Z' H' s'/\tn i s'.heap/\(∀b∈fp,H' b=none)/\H' D=none/\s'.heap.PlainList D (l:List Value).toArray/\Vals ys l/\W i n Z' ys H') ?_ m0
   ⟨0,_,H,[],[],I0,st1,λb h=>(hf b h).1,I.hok.fresh F,hacc,.nil,w0⟩
  rintro n s3 ⟨i,V,H3,ys,l,I3,st3,fr3,hD3,⟨nn,pl3⟩,j,w3⟩;obtain⟨hl,cs⟩:=step i n V ys H3 w3;have pinD:∀{Z':St}{H':Hp}{s':Shared}{o:Obj},Inv (gJ X N sc cl C s H fp) (X.pn++pins) Z' H' s'->H' D=none->s'.heap.get? D=some o->(∀v,o.data≠.cell v)->Inv (gJ X N sc cl C s H fp) ((X.pn++pins)++[(D,o)]) Z' H' s':=λ{Z' H' s' o} I' hn e d=>
   I'.oK λp hp=>(Pe.mp hp).elim (λz=>I'.pin p (Pb _ z)) λz=>by
    have:p=(D,o):=by simpa using z
    subst this;exact⟨e,hn,L,λz=>I.rg F z,d⟩
  have I3p:=pinD I3 hD3 pl3 λv z=>by cases z
  rcases cs with ⟨stop,q⟩|⟨go,NN,hN,nx⟩
  .refine ba (T.done (gJ X N sc cl C s H fp) rfl rfl rfl hc i _ s3 V H3 _ I3p (a fr3) st3 stop) λr s4 ⟨hr,I4⟩=>?_;subst hr;have d4:=I4.pin (D,_) (Pb _ (Pb _ (Pc.mpr rfl)));have I5:=zq I I4.cO F d4.2.1 ⟨nn,d4.1⟩ j hl hf;refine hRR D C s4 H3 ys I5 (by rw[hD];exact G) ?_ (let ⟨m,hm,_⟩:=I4.loc;⟨m,hm⟩) (q D d4.2.1);rw[ay (QM L)];exact I4.free
  .refine ba (T.item (gJ X N sc cl C s H fp) rfl rfl rfl hc i _ s3 V H3 _ I3p (a fr3) st3 go) λr s4 ⟨u,hr,h4⟩=>?_;subst hr;refine ba h4 λ_ s5 ⟨x,H5,I5,r5,y5,st5,fr5⟩=>?_;have I5':=I5.pinned (a fr5) (T.obj _ _ st5);refine ba (hg C _ s5 V H5 x u _ I5' r5 (nx x H5 y5)) λ_ s6 ⟨Z,H6,I6,q6⟩=>?_;refine ba (ht C _ s6 Z H6 _ I6 q6) λb s7 ⟨H7,I7,q7⟩=>?_;have itK:∀{s8:Shared}{H8:Hp},Inv (gJ X N sc cl C s H fp) (((X.pn++pins)++[(D,({ cls:=.type "list",data:=.seq l.toArray nn }:Obj))])++kQ fp s5.heap) Z H8 s8->tn (i+1) s8.heap/\∀b∈fp,H8 b=none:=λ{s8 H8} I8=>by refine⟨T.keep _ _ _ st5 λb h o e=>(I8.pin (b,o) (Pb _ (Pb _ (eD h e)))).1,λb h=>?_⟩;obtain⟨o,e,d⟩:=T.obj _ _ st5 b h;exact(I8.pin (b,o) (Pb _ (Pb _ (eD h e)))).2.1
   cases b with
   |false=>
    have q7:NN Z ys H7:=by simpa using q7
    obtain⟨m',hm,w7⟩:=hN _ _ _ q7;obtain⟨t7,f7⟩:=itK I7;have d7:=I7.pin (D,_) (Pb _ (Ph _ (Pb _ (Pc.mpr rfl))));show ∃m,m<n/\_;exact⟨m',hm,i+1,Z,H7,ys,l,I7.cO.cO,t7,f7,d7.2.1,⟨nn,d7.1⟩,j,w7⟩
   |true=>
    have q7:te Z H7 λy H4=>NN Z (ys++[y]) H4:=by simpa using q7
    show wpAny _ _ _ _ _ _;refine ba (he C _ s7 Z H7 _ I7 q7) λyv s8 ⟨y,H8,I8,r8,q8⟩=>?_;obtain⟨m',hm,w9⟩:=hN _ _ _ q8;obtain⟨t8,f8⟩:=itK I8;have d8:=I8.pin (D,_) (Pb _ (Ph _ (Pb _ (Pc.mpr rfl))));refine wpAny_list_append_plain (hsz:=by rw[O4,<-j.length];exact hl) ⟨nn,d8.1⟩ λh9 pl9 sb9=>?_;have I9:Inv (gJ X N sc cl C s H fp) (X.pn++pins) Z H8 { s8 with heap:=h9 }:=I8.cO.cO.turned (t':=s8.toks) (it:=D) (λb o h e=>(sb9.2 b h).trans e) d8.2.1 L (.inr F) (λx c e z=>?_) (λp hp z=>?_)
    .refine⟨m',hm,i+1,Z,H8,ys++[y],l++[yv],I9,T.keep _ _ _ t8 λb h o e=>(sb9.2 b (below b (f b h)).2).trans e,f8,d8.2.1,?_,j.append (.cons r8 .nil),w9⟩;rw[<-List.push_toArray];exact pl9
    .obtain⟨v,q⟩:=I.cell x c (t _ _ e);exact absurd (O9 q.lt (by rw[z];exact F)) (Qa _)
    .have hp:p∈X.pn++pins:=hp;exact absurd (O9 (Pj (I.pin p hp).1) (by rw[z];exact F)) (Qa _)
 exact codeAny_compStart_list (loop _ rfl) (T.self _ _ _ _ _ st1 (loop _ rfl))
end
variable{px:Pos}
section
variable{X:Cx}{N:List Str}{k:Nat}{sc:Scope}{tg elt iter:Expr}{ifs:List Expr}{pos:Pos}{g:TG}{tt:TT}{te:TE}{wi:TI}
theorem kW(I:Inv X pins Y H s)(S:eQ X.N N k sc X.env.scope):
  ∃cl,closureFor sc X.env=pure cl/\(∀x c,cl.lookup x=some c->X.env.cells.lookup x=some c)/\(∀x,(x,Q7)∈sc.names->∃c,cl.lookup x=some c):=
 q9 λx L e=>I.ok.has x.1 (S.fr x L e)
theorem Inv.letGo{H0:Hp}{u:Shared}(r:Inv X pins Y H0 u)(I:Inv X pins Z' H s)(h:u.heap.objs.size<=C)(hn:H C=none)(sb:R6 C s.heap h'):Inv X pins Z' H { s with heap:=h' }:=
 I.turned (t':=s.toks) (it:=C) (λb o d e=>(sb.2 b d).trans e) hn (VU (O9 r.lt h)) (.inr (Px r.sz h))
  (λx c e z=>by obtain⟨v,q⟩:=r.cell x c e;exact absurd (O9 q.lt (by rw[z];exact h)) (Qa _))
  (λp hp z=>absurd (O9 (Pj (r.pin p hp).1) (by rw[z];exact h)) (Qa _))
theorem A0(hc:X.calm=true)(S:eQ X.N N k sc X.env.scope)(hi:PI X tg iter wi)(hg:∀cl C s H fp,PG (gJ X N sc cl C s H fp) tg g)(ht:∀cl C s H fp,PF (gJ X N sc cl C s H fp) ifs tt)
  (he:∀cl C s H fp,PE (gJ X N sc cl C s H fp) elt te)(hs:∀x,foldedSetIterable iter X.env x=pure x:=by intro _;rfl):PE X (.ListComp elt [⟨tg,iter,ifs,0⟩] sc pos) (xy k wi g tt te):=by
 intro pins s Y H Q I h;obtain⟨cl,hclos,h1,h2⟩:=kW I S;rw[eval_ListComp];refine wpAny_comprehension_free (use:=none) rfl hs hclos S.kind S.names (ba (hi pins s Y H _ I h) λv s1 q1=>ba q1 λitv s2 q2=>?_);obtain⟨it,fp,tn,J,H2,rfl,I2,T,st2,f2,B⟩:=q2;refine k7 (RR:=λacc C=>compPost (model X.prog X.w) X.A X.xe none (EP X pins Y Q) acc C) hc S h1 h2 I2 T st2 f2 B (λC=>hg cl C s2 H2 fp) (λC=>ht cl C s2 H2 fp) (λC=>he cl C s2 H2 fp) ?_;intro D C s' H' ys I' hC hn hm q;obtain⟨m,hm⟩:=hm;exact⟨m,hm,λh' sb=>⟨.ref D,_,I2.letGo I' hC hn sb,rfl,q⟩⟩
theorem Cy{spos:Pos}(hc:X.calm=true)(S:eQ X.N N k sc X.env.scope)(hN:X.N.Nodup)(hx:X.N[i]?=some x)(hl:X.env.scope.names.lookup x=some .local)
  (hsw:swapsWith (.ListComp elt [⟨tg,iter,ifs,0⟩] sc pos) (some (.Name x px)) spos.line X.env=pure true)(hi:PI X tg iter wi)(hg:∀cl C s H fp,PG (gJ X N sc cl C s H fp) tg g)(ht:∀cl C s H fp,PF (gJ X N sc cl C s H fp) ifs tt)
  (he:∀cl C s H fp,PE (gJ X N sc cl C s H fp) elt te)(hs:∀x,foldedSetIterable iter X.env x=pure x:=by intro _;rfl):PS X (.Assign [.Name x px] (.ListComp elt [⟨tg,iter,ifs,0⟩] sc pos) spos) (xf (xy k wi g tt te) (ze i)):=by
 intro pins s Y H D0 I h;obtain⟨cl,hclos,h1,h2⟩:=kW I S;rw[exec_Assign_Name_used _ _ _ _ hsw];refine wpAny_bind (wpAny_standAt (wpAny_bind ?_));show wpAny _ X.A (do let _ <- comprehension (.ListComp elt [⟨tg,iter,ifs,0⟩] sc pos) sc X.env _ (newList []) false (eval iter X.env) (some (assign (.Name x px) X.env))) _ _ s;refine wpAny_bind (ba (wpAny_comprehension_free (use:=some (assign (.Name x px) X.env)) (Q:=λ_ s'=>SP X pins D0 .next s') rfl hs hclos S.kind S.names
  (ba (hi pins s Y H _ I h) λv s1 q1=>ba q1 λitv s2 q2=>?_)) λ_ s' hq=>wpAny_pure (wpAny_pure hq))
 obtain⟨it,fp,tn,J,H2,rfl,I2,T,st2,f2,B⟩:=q2;refine k7 (RR:=λacc C=>compPost (model X.prog X.w) X.A X.xe (some (assign (.Name x px) X.env)) (λ_ s'=>SP X pins D0 .next s') acc C) hc S h1 h2 I2 T st2 f2 B (λC=>hg cl C s2 H2 fp) (λC=>ht cl C s2 H2 fp) (λC=>he cl C s2 H2 fp) ?_;intro D C s' H' ys I' hC hn hm q;obtain⟨m,hm⟩:=hm;show wpAny _ X.A (assign (.Name x px) X.env (.ref D)) _ _ _;refine wpAny_assign_Name (l7 I' hN hx (.inl hl) (v:=.ref D) rfl (λs'' I'' ch=>?_) (.inr hl));obtain⟨a,sb,ha⟩:=ch;refine⟨m,hm.sameBut sb ?_,λh' sb'=>⟨_,_,I2.letGo I'' hC hn sb',q⟩⟩;rintro rfl;rcases ha with z|z
 .exact absurd (O9 I2.lt (by rw[<-z];exact hC)) (Qa _)
 .obtain⟨v,q⟩:=I2.cell x _ z;exact absurd (O9 q.lt hC) (Qa _)
end
theorem qP{gs:List Comprehension}{sc:Scope}{line:Nat}(h1:env.blockKind=.function)(h2:env.kindOf x=some .local)(h3:(px.line==pos.line)=true)
  (h4:(sc.names.any λp=>p.1==x&&(p.2==.local || p.2==.cell))=false):swapsWith (.ListComp elt gs sc pos) (some (.Name x px)) line env=pure true:=by
 unfold swapsWith;show (pure (env.blockKind==.function&&env.kindOf x==some .local&&px.line==pos.line&&!(sc.names.any λp=>p.1==x&&(p.2==.local || p.2==.cell))):Sem Bool)=pure true;rw[h1,h2,h3,h4];rfl
variable{ss:List Str}
section
variable{X:Cx}{tg:Expr}
theorem Inv.jS{a:Addr}(I:Inv X pins Y H s)(hf:∀b o,s.heap.get? b=some o->b≠a):H a=none:=by
 cases e:H a with
 |none=>rfl
 |some u=>obtain⟨ob,z⟩:=(I.hok a u e).is;exact absurd rfl (hf a ob z)
theorem Inv.xa{a:Addr}{t':Nat}(I:Inv X pins Y H s)(k:∀b u,s.heap.get? b=some u->h'.get? b=some u)(hf:∀b o,s.heap.get? b=some o->b≠a)
  (new:aL X.prog X.w (upd H a o) h' a o):Inv X pins Y (upd H a o) { s with heap:=h',toks:=t' }:=by
 have hn:=I.jS hf;refine I.un ⟨λb u e _ _ _=>k b u e,λb u e _ _ _=>⟨u.slots,k b u e⟩,λb u e n _=>by rw[ay (hf b u e)];exact n,λb u e _=>⟨u,k b u e⟩,λb xs e=>by rw[ay (aD e hn)];exact e,λb u v e=>by rw[ay (aD e hn)];exact e,
  λb ps e=>⟨#[],by rw[ay (aD e hn),e];simp⟩⟩ λb u e=>?_
 by_cases d:b=a
 .subst d;rw[br] at e;cases e;exact new
 .rw[ay d] at e;exact(I.hok b u e).lK (λc v _ q=>k c v q) (λc q=>by rw[ay (aD q hn)];exact q) λc xs q=>by rw[ay (aD q hn)];exact q
theorem ly:∀{us:List Value},Vals (ss.map V.str) us->StrsAre us ss:=by
 induction ss with
 |nil=>intro us r;rw[RG] at r;cases r;exact .nil
 |cons n ns m=>
  intro us r;rw[Pg] at r;cases r with
  |cons k p=>obtain⟨t,e⟩:=k;subst e;exact .cons n t (m p)
theorem eM:∀{ss:List Str}{us:List Value},StrsAre us ss->Vals (ss.map V.str) us
 |_,_,.nil=>.nil
 |_,_,.cons y t r=>.cons ⟨t,rfl⟩ (eM r)
def jU(K:O2):List V->Hp->VK->Prop:=λvs H Q=>∃a ss,vs=[.ref a]/\(eX K H a (ss.map V.str)\/∃kvs,H a=some (.dK kvs)/\kvs.map (·.1)=ss.map Qj)/\ss.length<64 /\
 ∀r s,H r=none->s.Perm ss->sortedS s=true->Q (.ref r) (upd H r (.lst (s.map V.str)))
theorem gK:64<=sizeLine:=by rw[sizeLine_eq];decide
theorem l8{vs:List (Key×Value)}{acc:Array Value}(e:vs.map (·.1)=ss.map Qj)
  (h:ItemsOf (λi v=>∃k x,vs[i]?=some (k,x)/\(aO P w).is k v=true) acc vs.length):StrsAre acc.toList ss:=by
 obtain⟨Y,hi⟩:=h;have hl:ss.length=vs.length:=by have:=congrArg RQ e;simpa using this.symm
 have I:∀(j:Nat)(v:Value),acc.toList[j]?=some v->∃(x:Str)(t:Tok),ss[j]?=some x/\v=TV x t:=λj v B=>by
  obtain⟨k,x,L,hk⟩:=hi j v (by rw[<-Qc];exact B);have hk:jZ k v=true:=hk;have N:(vs.map (·.1))[j]?=some k:=by rw[Pq,L];rfl
  rw[e,Pq] at N;cases s:ss[j]? with
  |none=>rw[s] at N;cases N
  |some z=>
   rw[s] at N;have T:k=Qj z:=(Pn N).symm;subst T;rcases aY hk with ⟨i,t,q,_⟩|⟨y,t,q,rfl⟩
   .cases q
   .cases q;exact⟨z,t,rfl,rfl⟩
 have H:acc.toList.length=ss.length:=by rw[P9,Y,hl]
 clear Y hi e hl;generalize acc.toList=l at I H;induction l generalizing ss with
 |nil=>
  cases ss with
  |nil=>exact .nil
  |cons a b=>cases H
 |cons v l m=>
  cases ss with
  |nil=>cases H
  |cons z ss=>obtain⟨x,t,L,rfl⟩:=I 0 v rfl;have L:z=x:=Pn L;subst L;exact .cons z t (m (λj u f=>I (j+1) u f) (by simpa using H))
theorem ox(hc:X.calm=true):bE X (.builtin "sorted") (jU X.K):=by
 intro pins s Y H vs us Q I rv h;obtain⟨a,ss,rfl,B,D,q⟩:=h;obtain⟨u,rfl,F⟩:=rv.one;cases F;rcases B with B|⟨kvs,hd,G⟩
 .obtain⟨O,r,p,hz⟩:=I.list B;have R:=ly r;have v:O.length=ss.length:=by have:=r.length;simpa using this.symm
  refine sorted_strs p.isList R (by omega) λout x l U E=>?_;obtain⟨e,t⟩:=sortedAll_at s.heap O out;refine⟨.ref _,_,I.laid (t':=s.toks) (o:=.lst (x.map V.str)) (λb o z=>sortedAll_old z) (RU _) ⟨?_,out.toList,e,eM l,by simpa using t⟩,rfl,q _ x (I.hok.fresh (RU _)) U E⟩;rw[O5,U.length_eq];exact Px (RH D) gK
 .obtain⟨hz,lo,vs,L,N⟩:=Ej I.hok hd;obtain⟨ep,k⟩:=N.dictAt;have S:vs.map (·.1)=ss.map Qj:=by rw[<-L.keys];exact G
  have v:vs.length=ss.length:=by have:=congrArg RQ S;simpa using this
  refine RN kind_sorted plain_sorted entry_sorted (args_sorted1 _) ?_;unfold Builtin.«sorted»;refine wpAny_bind (m:=checkCount "sorted" 1 1 _) (wpAny_pure ?_);refine wpAny_bind (kdu_collect (A:=X.A.in1) (kdl_dict (knd:=aO X.prog X.w) (kvs:=vs) (ep:=ep) lo) (I.ok.hd hc) k (by have:=gK;omega) λh' tk acc hk C=>?_);have R:=l8 S C;have J:acc.toList.length=ss.length:=by rw[P9,C.1,v]
  refine wpAny_bind (wpAny_newList ?_ (by have:=gK;omega));have g:(h'.push (seqObj "list" acc.toList.toArray 0)).get? h'.objs.size=some (seqObj "list" acc.toList.toArray 0):=Pu _ rfl;refine wpAny_bind (wpAny_holding (wpAny_call_entry slot_list_sort ⟨_,g,rfl⟩ entry_list_sort (list_sort_treeK strKind_oneLt g R.keysOf (λc y rest e=>keyKind_strs (by rw[<-e];exact R)) (by omega) λZ hp T=>⟨_,rfl,?_⟩) (args_list_sort _)));obtain⟨x,b1,b2,f⟩:=sorted_out_str R hp T;obtain⟨e,t⟩:=sortedHeap_at (vs:=acc.toList) (n:=0) (out:=(arrOf Z).map (·.2)) g;have hf:∀b o,s.heap.get? b=some o->b≠h'.objs.size:=λb o z=>PD (Pj (hk b o z));refine wpAny_pure ⟨_,rfl,.ref _,_,I.xa (t':=tk) (a:=h'.objs.size) (o:=.lst (x.map V.str)) (λb o z=>?_) hf ⟨?_,((arrOf Z).map (·.2)).toList,e,eM b1,?_⟩,rfl,q _ x (I.jS hf) b2 f⟩
  .rw[sortedHeap_old (hf b o z) (by rw[size_push'];exact Q5 (Pj (hk b o z)))];exact O8 _ (hk b o z)
  .rw[O5,b2.length_eq];exact Px (RH D) gK
  .rw[Us];exact t
def MD:V->Option Int->Option Int->Hp->VK->Prop:=λx lo hi H Q=>∃z,x=.str z/\z.length<=sizeLine/\Q (.str (Sj z lo hi)) H
theorem ph{o:Option Int}(p:IsPart v o):∃l:Option (Int×Tok),v=partValue l/\l.map (·.1)=o:=by
 cases p with
 |none=>exact⟨none,rfl,rfl⟩
 |int i t=>exact⟨some (i,t),rfl,rfl⟩
theorem FE:gv X MD:=by intro pins s Y H x v E c lo hi sl Q I a N A C h;obtain⟨z,rfl,hz,q⟩:=h;obtain⟨t,rfl⟩:=a;obtain⟨l,rfl,rfl⟩:=ph A;obtain⟨u,rfl,rfl⟩:=ph C;refine⟨"str",_,F.slot_str_getitem.lookup,typeIs_str _ _ _,wpAny_getItem_str_slice (l:=l) (u:=u) (st:=none) N rfl ?_⟩;exact post_val_or_str ⟨Px (Ut z _ _) hz,λt' k=>⟨.str _,H,I.tok _,⟨t',rfl⟩,q⟩⟩
noncomputable def gS(ss:List Str):Nat:=(ss.map (λz=>z.length)).sum
theorem gz:∀{us:List Value}{ss:List Str},StrsAre us ss->∃l:List (Str×Tok),us=strValues l/\l.map (·.1)=ss
 |_,_,.nil=>⟨[],rfl,rfl⟩
 |_,_,.cons y t r=>by obtain⟨l,J,N⟩:=gz r;exact⟨(y,t)::l,by rw[J];rfl,by rw[Pg,N]⟩
end
noncomputable def MV(x:Str):It:=⟨λi _=>i<x.cps.size,λi H v H'=>H'=H/\∃c,x.cps[i]?=some c/\v=.str ⟨#[c]⟩,λi _=>x.cps.size<=i⟩
variable{tg:Expr}
theorem rW(it:Addr)(x:Str)(t:Tok):Turn P w K tg (MV x) [it] it (λi h=>h.IsStrIter it "str_ascii_iterator" x t i) where
 mem:=by simp
 obj:=λi h st b N=>by
  have e:b=it:=by simpa using N
  subst e;obtain⟨o,e,c,d⟩:=st;exact⟨o,e,λv z=>by rw[d] at z;cases z⟩
 keep:=λi h h' st k=>by obtain⟨o,e,r⟩:=st;exact⟨o,k it (by simp) o e,r⟩
 item:=by intro X C G J hc i pins s Y H E I hf st Q;subst C G J;have Q:i<x.cps.size:=Q;obtain⟨R,S,l,T,U,V⟩:=hf it (by simp);refine wpAny_pyNext_ascii_item st (c:=x.cps[i]) (by simp[Q]) λh' A sb=>?_;have j:Inv X pins Y H { s with heap:=h',toks:=s.toks+1 }:=I.turned (t':=s.toks+1) (λb o N e=>(sb.2 b N).trans e) R S T U V;obtain⟨o,e,c,d⟩:=id A;exact⟨_,rfl,qg (s:={ s with heap:=h',toks:=s.toks+1 }) e c d (by decide) ⟨.str ⟨#[x.cps[i]]⟩,H,j,⟨_,rfl⟩,⟨rfl,_,by simp[Q],rfl⟩,A,λb N=>(hf b N).1⟩⟩
 done:=by intro X C G J hc i pins s Y H E I hf st Q;subst C G J;have Q:x.cps.size<=i:=Q;obtain⟨R,S,l,T,U,V⟩:=hf it (by simp);exact wpAny_pyNext_ascii_end (I.ok.hd hc) st (by simp;omega) λh' eb=>⟨rfl,I.turned (t':=s.toks) (λb o N e=>eb b o N e) R S T U V⟩
 self:=λ_ _ _ _ _ st h=>wpAny_pyIter_striter_ascii st h
theorem u4(it:Addr)(x:Str)(t:Tok):Turn P w K tg (MV x) [it] it (λi h=>h.IsStrIter it "str_iterator" x t i) where
 mem:=by simp
 obj:=λi h st b N=>by
  have e:b=it:=by simpa using N
  subst e;obtain⟨o,e,c,d⟩:=st;exact⟨o,e,λv z=>by rw[d] at z;cases z⟩
 keep:=λi h h' st k=>by obtain⟨o,e,r⟩:=st;exact⟨o,k it (by simp) o e,r⟩
 item:=by intro X C G J hc i pins s Y H E I hf st Q;subst C G J;have Q:i<x.cps.size:=Q;obtain⟨R,S,l,T,U,V⟩:=hf it (by simp);refine wpAny_pyNext_wide_item st (c:=x.cps[i]) (by simp[Q]) λh' A sb=>?_;have j:Inv X pins Y H { s with heap:=h',toks:=s.toks+1 }:=I.turned (t':=s.toks+1) (λb o N e=>(sb.2 b N).trans e) R S T U V;obtain⟨o,e,c,d⟩:=id A;exact⟨_,rfl,qg (s:={ s with heap:=h',toks:=s.toks+1 }) e c d (by decide) ⟨.str ⟨#[x.cps[i]]⟩,H,j,⟨_,rfl⟩,⟨rfl,_,by simp[Q],rfl⟩,A,λb N=>(hf b N).1⟩⟩
 done:=by intro X C G J hc i pins s Y H E I hf st Q;subst C G J;have Q:x.cps.size<=i:=Q;obtain⟨R,S,l,T,U,V⟩:=hf it (by simp);exact wpAny_pyNext_wide_end (I.ok.hd hc) st (by simp;omega) λh' eb=>⟨rfl,I.turned (t':=s.toks) (λb o N e=>eb b o N e) R S T U V⟩
 self:=λ_ _ _ _ _ st h=>wpAny_pyIter_striter_wide st h
section
variable{X:Cx}{tg:Expr}
def Lj(K:O2)(o:TE):TI:=λY H R=>o Y H λx i=>(∃a,x=.ref a/\(((∃xs,eX K i a xs)/\R (Ol K a) i)\/((∃xs,dz K i a xs)/\R (NU K a) i)))\/∃t,x=.str t/\R (MV t) i
theorem C9{l:Expr}{r:TE}(hl:PE X l r):PI X tg l (Lj X.K r):=by
 intro pins s Y H R I h;refine ba (hl pins s Y H _ I h) λv s1 ⟨x,i,j,k,n⟩=>?_;rcases n with ⟨a,e,⟨⟨xs,B⟩,q⟩|⟨⟨xs,B⟩,q⟩⟩|⟨t,e,q⟩
 .subst e;cases k;obtain⟨O,rv,p,hz⟩:=j.list B;refine wpAny_pyIter_list p.isList ?_;refine⟨s1.heap.objs.size,[s1.heap.objs.size],_,_,i,rfl,j.kept (t':=s1.toks) λb o e=>O8 _ e,uU a _,⟨_,Pu _ rfl,rfl,rfl⟩,λb d=>?_,q⟩;have e:b=s1.heap.objs.size:=by simpa using d
  subst e;exact j.AK (Pf _) (j.hok.fresh (Pf _))
 .subst e;cases k;obtain⟨O,rv,p,hz⟩:=j.tuple B;refine wpAny_pyIter_tuple (show s1.heap.IsTuple a O.toArray from p) ?_;refine⟨s1.heap.objs.size,[s1.heap.objs.size],_,_,i,rfl,j.kept (t':=s1.toks) λb o e=>O8 _ e,qN a _,⟨_,Pu _ rfl,rfl,rfl⟩,λb d=>?_,q⟩;have e:b=s1.heap.objs.size:=by simpa using d
  subst e;exact j.AK (Pf _) (j.hok.fresh (Pf _))
 .subst e;obtain⟨tk,rfl⟩:=k;have fin:∀b,b∈[s1.heap.objs.size]->kK X pins i b:=λb d=>by
   have e:b=s1.heap.objs.size:=by simpa using d
   subst e;exact j.AK (Pf _) (j.hok.fresh (Pf _))
  cases ha:t.cps.all (·<128)
  .refine wpAny_pyIter_wide ha ?_;exact⟨s1.heap.objs.size,[s1.heap.objs.size],_,_,i,rfl,j.kept (t':=s1.toks) λb o e=>O8 _ e,u4 _ t tk,⟨_,Pu _ rfl,rfl,rfl⟩,fin,q⟩
  .refine wpAny_pyIter_ascii ha ?_;exact⟨s1.heap.objs.size,[s1.heap.objs.size],_,_,i,rfl,j.kept (t':=s1.toks) λb o e=>O8 _ e,rW _ t tk,⟨_,Pu _ rfl,rfl,rfl⟩,fin,q⟩
def Kz(K:O2)(g:List Bool->Bool):List V->Hp->VK->Prop:=λxs H Q=>∃p ys bs,xs=[.ref p]/\eX K H p ys/\ys=bs.map V.bl/\Q (.bl (g bs)) H
theorem range_all{bs:List Bool}{tr:Nat->Bool}(h:∀i b,bs[i]?=some b->tr i=b):(Py bs.length).all tr=bs.all id:=by
 have:(Py bs.length).map tr=bs:=by
  apply Rk;intro i;rw[Pq];by_cases hi:i<bs.length
  .rw[RE hi,Pm hi,Option.map_some,h i _ (Pm hi)]
  .rw[Rv (by simpa using hi),Rv (by simpa using hi)];rfl
 calc (Py bs.length).all tr=((Py bs.length).map tr).all id:=by rw[VP];rfl
  _=bs.all id:=by rw[this]
theorem xB(hc:X.calm=true):bE X (.builtin "all") (Kz X.K λbs=>bs.all id):=by
 intro pins s Y H xs us Q I r h;obtain⟨p,ys,bs,rfl,Z,rfl,q⟩:=h;obtain⟨u,rfl,E⟩:=vals1 r;cases E;obtain⟨O,a,g,hz⟩:=I.list Z;have D:=a.length;refine call_all_walk (wpAny_pyIter_list g.isList ?_);refine⟨s.heap.objs.size,_,_,_,_,_,(λi=>bs.getD i false),rfl,Walks.list (A:=X.A.in1) (I.ok.hd hc) _ p (by obtain⟨o,ho,_⟩:=g.isList;exact PD (Pj ho)) O.toArray,⟨⟨_,Pu _ rfl,rfl,rfl⟩,g.isList.at λo e=>O8 _ e⟩,λi v s1 V k C w=>?_,λh' tk hk=>?_⟩
 .have B:O[i]?=some v:=by simpa using C
  cases eb:bs[i]? with
  |none=>have h1:=TN.mp eb;have h2:=(O6.mp B).1;rw[O5] at D;omega
  |some b=>
   obtain⟨u,f,F⟩:=a.get (i:=i) (x:=.bl b) (by rw[Pq,eb];rfl);rw[B] at f;cases f;cases F;have:bs.getD i false=b:=by rw[PQ,eb];rfl
   replace w:V (bs.getD i false) s1:=w
   rw[this] at w;exact wpAny_pure w
 .have J:O.toArray.size=bs.length:=by simp at D ⊢;omega
  rw[J,range_all (bs:=bs) λi b e=>by show bs.getD i false=b;rw[PQ,e];rfl];exact⟨.bl _,H,I.kept (t':=tk) λb o e=>hk b o (λz=>by have:=Pc.mp z;subst this;exact absurd (Pj e) (Qa _)) (O8 _ e),rfl,q⟩
end
end L2
namespace W
theorem fM(p:Int){q:Int}(h:q<0):q<p.fmod q/\p.fmod q<=0:=by
 rw[Int.fmod_eq_emod];have h1:=To p (show q≠0 by omega);have h2:=Int.emod_lt_of_neg p h;by_cases d:q ∣ p
 .rw[if_pos (Or.inr d),Int.emod_eq_zero_of_dvd d];omega
 .rw[if_neg (by intro z;rcases z with z|z;omega;exact d z)];have h3:p%q≠0:=λz=>d (Int.dvd_of_emod_eq_zero z);omega
theorem qt(p:Int){q:Int}(h:q≠0):(p.fmod q).natAbs<q.natAbs:=by
 rcases SO h with z|z
 .have:=fM p z;omega
 .have h1:=SQ p z;have h2:=Rp p z;omega
theorem kJ(p q:Int):P7 q (p.fmod q)=P7 p q:=by
 have h:p.fmod q=p-p.fdiv q*q:=by rw[Int.fmod_def,S1]
 rw[h,Int.gcd_sub_mul_right_right,Uu]
noncomputable def cd(x y:Int):Int:=if y<0 then -(P7 x y:Int) else (P7 x y:Int)
variable{p:Int}
theorem Cr{q:Int}(h:q≠0)(z:p.fmod q=0):q=cd p q:=by have e:=kJ p q;rw[z,U5] at e;unfold cd;rw[<-e];split<;>omega
theorem CI{q:Int}(h:q≠0)(z:p.fmod q≠0):cd q (p.fmod q)=cd p q:=by
 unfold cd;rw[kJ];rcases SO h with g|g
 .have:=fM p g;rw[if_pos (by omega),if_pos g]
 .have h2:=Rp p g;rw[if_neg (by omega),if_neg (by omega)]
theorem pq(x y:Int):cd x y ∣ x:=by
 unfold cd;split
 .exact(V9).mpr (Ta x y)
 .exact Ta x y
theorem nZ(x y:Int):cd x y ∣ y:=by
 unfold cd;split
 .exact(V9).mpr (RV x y)
 .exact RV x y
variable{x:Int}
theorem tP{y:Int}(h:y≠0):cd x y≠0:=by have:=QY x h;unfold cd;split<;>omega
theorem wZ(x y:Int):(cd x y).natAbs=P7 x y:=by unfold cd;split<;>omega
theorem J9{y:Int}(h:y≠0):(cd x y).natAbs<=y.natAbs:=by rw[wZ];have h1:P7 x y ∣ y.natAbs:=Int.natCast_dvd_natCast.mp (Int.dvd_natAbs.mpr (RV x y));exact Nat.le_of_dvd (by omega) h1
noncomputable abbrev Num:=Int×Int
def gY(t b:Int):Num:=(t.fdiv (cd t b),b.fdiv (cd t b))
noncomputable def FR(t b:Int):Num:=if b<0 then ((-t).fdiv (P7 (-t) (-b)),(-b).fdiv (P7 (-t) (-b))) else (t.fdiv (P7 t b),b.fdiv (P7 t b))
theorem iy{t g:Int}(Q:g≠0)(d:g ∣ t):(-t).fdiv g=t.fdiv (-g):=by
 obtain⟨k,rfl⟩:=d;have J:-(g*k)=g*(-k):=by rw[Int.mul_neg]
 have l:g*k=(-g)*(-k):=by rw[Int.neg_mul_neg]
 rw[J,Ra _ Q,l,Ra _ (by omega)]
variable{b:Int}
theorem CL{t:Int}(h:b≠0):FR t b=gY t b:=by
 unfold FR gY cd;by_cases z:b<0
 .rw[if_pos z,if_pos z,Int.gcd_neg,Wa];have g0:=QY t h;rw[iy (by omega) (Ta t b),iy (by omega) (RV t b)]
 .rw[if_neg z,if_neg z]
open L2
def Ok(q:Num):Prop:=0<q.2/\P7 q.1 q.2=1
theorem jV{t:Int}(h:b≠0):cd t b*(gY t b).1=t/\cd t b*(gY t b).2=b:=by
 have J:=tP (x:=t) h;obtain⟨k,hk⟩:=pq t b;obtain⟨m,hm⟩:=nZ t b;have L:t.fdiv (cd t b)=k:=by have:=Ra k J;rwa[<-hk] at this
 have l:b.fdiv (cd t b)=m:=by have:=Ra m J;rwa[<-hm] at this
 exact⟨by show cd t b*t.fdiv (cd t b)=t;rw[L];exact hk.symm,by show cd t b*b.fdiv (cd t b)=b;rw[l];exact hm.symm⟩
theorem Ap{t:Int}(h:b≠0):(0<b->0<cd t b)/\(b<0->cd t b<0):=by
 have:=QY t h;unfold cd;constructor
 .intro z;rw[if_neg (by omega)];omega
 .intro z;rw[if_pos z];omega
theorem tM{t:Int}(h:b≠0):0<(gY t b).2:=by
 obtain⟨_,e⟩:=jV (t:=t) h;obtain⟨s1,s2⟩:=Ap (t:=t) h;rcases SO h with z|z
 .have c:=s2 z;rcases VZ 0 (gY t b).2 with q|q
  .exact q
  .have:=Int.mul_nonneg_of_nonpos_of_nonpos (V0 c) q;omega
 .have c:=s1 z;rcases VZ 0 (gY t b).2 with q|q
  .exact q
  .have:=Int.mul_nonpos_of_nonneg_of_nonpos (V0 c) q;omega
theorem vX{t:Int}(h:b≠0):Ok (gY t b):=by
 refine⟨tM h,?_⟩;obtain⟨J,l⟩:=jV (t:=t) h;have g:P7 (cd t b*(gY t b).1) (cd t b*(gY t b).2)=(cd t b).natAbs*P7 (gY t b).1 (gY t b).2:=Int.gcd_mul_left _ _ _;rw[J,l,wZ] at g;have p:=QY t h;have:P7 t b*1=P7 t b*P7 (gY t b).1 (gY t b).2:=by rw[Wb];exact g
 exact(Nat.eq_of_mul_eq_mul_left p this).symm
theorem Ok.neg{q:Num}(h:Ok q):Ok (-q.1,q.2):=⟨h.1,by show P7 (-q.1) q.2=1;rw[Wa];exact h.2⟩
variable{c:Int}
theorem kX(h:c≠0):x.natAbs<=(c*x).natAbs:=by rw[TM];exact Nat.le_mul_of_pos_left _ (by omega)
theorem zu{t:Int}{m n:Nat}(h:b≠0)(h1:Bd m t)(h2:Bd n b):Bd m (gY t b).1/\Bd n (gY t b).2:=by obtain⟨J,N⟩:=jV (t:=t) h;have l:=kX (x:=(gY t b).1) (tP (x:=t) h);have U:=kX (x:=(gY t b).2) (tP (x:=t) h);rw [J] at l; rw [N] at U;exact ⟨QW l h1,QW U h2⟩
structure NB(n:Nat)(q:Num):Prop where
 ok:Ok q
 b1:Bd n q.1
 b2:Bd n q.2
theorem NB.mono {m n:Nat} {q:Num} (h:NB m q) (k:m ≤ n):NB n q:=⟨h.ok,h.b1.mono k,h.b2.mono k⟩
theorem NB.nz {n:Nat} {q:Num} (h:NB n q):q.2 ≠ 0:=by have:=h.ok.1; omega
theorem NB.gY {t b:Int} {n:Nat} (h:b ≠ 0) (h1:Bd n t) (h2:Bd n b):NB n (gY t b):=⟨vX h,(zu h h1 h2).1,(zu h h1 h2).2⟩
def fD (x y:Num):Num:=gY (x.1 * y.2 + y.1 * x.2) (x.2 * y.2)
theorem NB.neg {n:Nat} {y:Num} (h:NB n y):NB n (-y.1,y.2):=⟨h.ok.neg,h.b1.neg,h.b2⟩
theorem NB.zero {n:Nat}:NB (n + 1) (0,1):=⟨⟨by decide,by decide⟩,O9 (by decide) (P6 (by decide) (Vy 1 n)),O9 (by decide:1 < 2 ^ 1) (P6 (by decide) (Vy 1 n))⟩
noncomputable def nv (x:Num):Rat:=WK x.1 x.2
theorem G5 {t:Int} (h:b ≠ 0):nv (gY t b) = WK t b:=by obtain ⟨J,l⟩:=jV (t:=t) h;have p:=tM (t:=t) h;unfold nv;rw[Ua (by omega) h];generalize (gY t b).1=k at J ⊢;generalize (gY t b).2=m at l p ⊢;rw[<-J];rw[show k*b=k*(cd t b*m) from by rw[l]];rw[Int.mul_left_comm,Int.mul_assoc]
variable{y:Num}
theorem Fe{x:Num}(h:Ok x)(k:Ok y):nv (fD x y)=nv x+nv y:=by have h1:=h.1;have k1:=k.1;unfold fD;rw[G5 (RF (by omega) (by omega))];exact(Rat.divInt_add_divInt _ _ (by omega) (by omega)).symm
theorem HH{x:Num}(h:Ok x)(k:Ok y):Ok (fD x y):=vX (RF (by have:=h.1;omega) (by have:=k.1;omega))
theorem LL{a:Int}(h:a ∣ b*c)(g:P7 a b=1):a ∣ c:=by
 have h1:a.natAbs ∣ b.natAbs*c.natAbs:=by rw[<-TM];exact UG.mpr h
 exact UG.mp (WL (show Nat.Coprime a.natAbs b.natAbs from g) h1)
theorem En{x:Num}(h:Ok x)(k:Ok y)(e:nv x=nv y):x=y:=by have h1:=h.1;have k1:=k.1;unfold nv at e;rw[Ua (by omega) (by omega)] at e;have o:x.2 ∣ y.2:=LL (show x.2 ∣ x.1*y.2 from ⟨y.1,by rw[e,S1]⟩) (by rw[Uu];exact h.2);have z:y.2 ∣ x.2:=LL (show y.2 ∣ y.1*x.2 from ⟨x.1,by rw[<-e,S1]⟩) (by rw[Uu];exact k.2);have l:x.2=y.2:=Int.dvd_antisymm (by omega) (by omega) o z;rw[l] at e;have J:x.1=y.1:=Int.eq_of_mul_eq_mul_right (by omega) e;exact UE J l
theorem oy:nv (0,1)=0:=by decide +kernel
theorem tI:Ok (0,1):=⟨by decide,by decide⟩
end W
set_option maxHeartbeats 1000000
namespace W
open L2 PySem
theorem NB.Ih{m n:Nat}{x y:Num}(h:NB m x)(k:NB n y):NB (m+n+1) (fD x y):=
 .gY (RF h.nz k.nz) (((h.b1.mul k.b2).add ((k.b1.mul h.b2).mono (n:=m+n) (by omega))).mono (by omega)) ((h.b2.mul k.b2).mono (by omega))
abbrev Pr:=Str×Num
def bb(ps:List Pr)(n:Str):Num:=ps.foldl (λacc p=>if p.1=n then fD acc p.2 else acc) (0,1)
noncomputable def cnt(ps:List Pr)(n:Str):Nat:=ps.countP (λp=>decide (p.1=n))
theorem dr(ps:List Pr)(p:Pr)(n:Str):bb (ps++[p]) n=if p.1=n then fD (bb ps n) p.2 else bb ps n:=by unfold bb;rw[U6];rfl
theorem snoc_ind{α:Type}{M:List α->Prop}(J:M [])(h1:∀l a,M l->M (l++[a])):∀l,M l:=by
 intro l;rw[<-List.reverse_reverse l];induction l.reverse with
 |nil=>exact J
 |cons a r m=>rw[Rl];exact h1 _ _ m
variable{ps:List Pr}
theorem sj{b:Nat}(h:∀p∈ps,NB b p.2)(n:Str):NB ((b+1)*cnt ps n+1) (bb ps n):=by
  revert n h;revert ps;intro ps;refine snoc_ind (M:=λps:List Pr=>(∀p∈ps,NB b p.2)->∀n,NB ((b+1)*cnt ps n+1) (bb ps n)) ?_ ?_ ps
  all_goals clear ps
  case refine_1=>exact λ_ n=>NB.zero (n:=0)
  case refine_2=>
   intro l a m h n;have o:=m (λp hp=>h p (Ph _ hp)) n;have H:=h a (by simp);rw[dr];have e:cnt (l++[a]) n=cnt l n+(if a.1=n then 1 else 0):=by unfold cnt;rw[UX];simp[Ve]
   rw[e];by_cases c:a.1=n
   · rw[if_pos c,if_pos c]
     refine(o.Ih H).mono ?_
     rw[Nat.mul_add,Wb];omega
   · rw[if_neg c,if_neg c]
     exact o
theorem nO(h:∀p∈ps,Ok p.2)(n:Str):Ok (bb ps n):=by
 revert h;refine snoc_ind (M:=λps:List Pr=>(∀p∈ps,Ok p.2)->Ok (bb ps n)) (λ_=>tI) (λl a m h=>?_) ps;rw[dr];have o:=m (λp hp=>h p (Ph _ hp));by_cases c:a.1=n
 .rw[if_pos c];exact HH o (h a (by simp))
 .rw[if_neg c];exact o
def fj:List Pr->Str->Rat
 |[],_=>0
 |p::r,n=>(if p.1=n then nv p.2 else 0)+fj r n
theorem fW(ps X:List Pr)(n:Str):fj (ps++X) n=fj ps n+fj X n:=by
 induction ps with
 |nil=>show fj X n=0+fj X n;grind
 |cons p r m=>show (if p.1=n then nv p.2 else 0)+fj (r++X) n=(if p.1=n then nv p.2 else 0)+fj r n+fj X n;rw[m];grind
theorem nB(h:∀p∈ps,Ok p.2)(n:Str):nv (bb ps n)=fj ps n:=by
 revert h;refine snoc_ind (M:=λps:List Pr=>(∀p∈ps,Ok p.2)->nv (bb ps n)=fj ps n) (λ_=>?_) (λl a m h=>?_) ps
 .exact oy
 .have o:=m (λp hp=>h p (Ph _ hp));have O:=nO (λp hp=>h p (Ph _ hp)) n;rw[dr,fW,<-o];show _=nv (bb l n)+((if a.1=n then nv a.2 else 0)+0);by_cases c:a.1=n
  .rw[if_pos c,if_pos c,Fe O (h a (by simp))];grind
  .rw[if_neg c,if_neg c];grind
def vA(a b:Str):Prop:=¬ b.cps.toList<a.cps.toList/\a≠b
variable{b:Str}
theorem nj{a:Str}(h:¬ b.cps.toList<a.cps.toList)(k:¬ a.cps.toList<b.cps.toList):a=b:=by have e:a.cps.toList=b.cps.toList:=Vf (Tc.mp h) (Tc.mp k);obtain⟨⟨x⟩⟩:=a;obtain⟨⟨y⟩⟩:=b;have e:x=y:=e;rw[e]
theorem vA.asymm{a:Str}(h:vA a b)(k:vA b a):False:=h.2 (nj h.1 k.1)
theorem tO{α:Type}{f:α->Str}:∀{l m:List α},l.Pairwise (λa b=>vA (f a) (f b))->m.Pairwise (λa b=>vA (f a) (f b))->(∀a,a∈l↔a∈m)->l=m
 |[],m,_,_,h=>by
  cases m with
  |nil=>rfl
  |cons b m=>exact absurd ((h b).mpr (by simp)) (by simp)
 |a::l,[],_,_,h=>absurd ((h a).mp (by simp)) (by simp)
 |a::l,b::m,hl,hm,h=>by
  rw[Rf] at hl hm;have o:a=b:=by
   rcases Po.mp ((h a).mp (by simp)) with e|e
   .exact e
   .rcases Po.mp ((h b).mpr (by simp)) with e'|e'
    .exact e'.symm
    .exact(vA.asymm (hm.1 a e) (hl.1 b e')).elim
  subst o;rw[tO hl.2 hm.2 λc=>⟨λhc=>?_,λhc=>?_⟩]
  .rcases Po.mp ((h c).mp (Pa _ hc)) with e|e
   .subst e;exact((hl.1 c hc).2 rfl).elim
   .exact e
  .rcases Po.mp ((h c).mpr (Pa _ hc)) with e|e
   .subst e;exact((hm.1 c hc).2 rfl).elim
   .exact e
structure Canon(ps L:List Pr):Prop where
 rise:L.Pairwise (λa b=>vA a.1 b.1)
 mem:∀p:Pr,p∈L↔(p.2=bb ps p.1/\p.2≠(0,1))
variable{L:List Pr}
theorem Canon.eq{M:List Pr}(h:Canon ps L)(k:Canon ps M):L=M:=tO h.rise k.rise λp=>by rw[h.mem,k.mem]
theorem mO:∀{L:List Pr},L.Pairwise (λa b=>vA a.1 b.1)->(∀p∈L,fj L p.1=nv p.2)/\∀n,(∀p∈L,p.1≠n)->fj L n=0
 |[],_=>⟨λp hp=>(by cases hp),λn _=>rfl⟩
 |q::L,h=>by
  rw[Rf] at h;obtain⟨o,H⟩:=mO h.2;refine⟨λp hp=>?_,λn hn=>?_⟩
  .rcases Po.mp hp with e|e
   .subst e;show (if p.1=p.1 then nv p.2 else 0)+fj L p.1=nv p.2;rw[if_pos rfl,H p.1 λr y z=>(h.1 r y).2 z.symm]
    grind
   .show (if q.1=p.1 then nv q.2 else 0)+fj L p.1=nv p.2;rw[if_neg (h.1 p e).2,o p e]
    grind
  .show (if q.1=n then nv q.2 else 0)+fj L n=0;rw[if_neg (hn q (by simp)),H n λp hp=>hn p (Pa _ hp)]
   grind
theorem fS(h:L.Pairwise (λa b=>vA a.1 b.1))(n:Str):cnt L n<=1:=by
 induction L with
 |nil=>exact Qm _
 |cons q L m=>
  rw[Rf] at h;unfold cnt;rw[Ve];by_cases c:q.1=n
  .have:L.countP (λp=>decide (p.1=n))=0:=List.countP_eq_zero.mpr λp hp=>by have:=(h.1 p hp).2;simp only[decide_eq_true_eq];exact λz=>this (c.trans z.symm)
   rw[this];simp[c]
  .have:=m h.2;unfold cnt at this;simp[c];exact this
end W
namespace M
open PySem L2
inductive A where
 |non|bl(b:Bool)|int(i:Int)|str(x:Str)|tup(xs:List A)|lst(xs:List A)|dic(kvs:List (Key×A))|exc(c:Str)|obj(c:Str)(fs:List (Str×A))|opq
structure Kx where
 K:O2
 mg:Str->Option Value
 P:Program
 w:World
mutual
inductive RA(k:Kx)(G:Hp):V->A->Prop
 |non:RA k G .non .non
 |bl(b:Bool):RA k G (.bl b) (.bl b)
 |int(i:Int):RA k G (.int i) (.int i)
 |str(x:Str):RA k G (.str x) (.str x)
 |tup{p:Addr}{vs:List V}{as:List A}(e:dz k.K G p vs)(r:bf k G vs as):RA k G (.ref p) (.tup as)
 |lst{p:Addr}{vs:List V}{as:List A}(e:eX k.K G p vs)(r:bf k G vs as):RA k G (.ref p) (.lst as)
 |dic{p:Addr}{vs:List (Key×V)}{as:List (Key×A)}(e:Rd G p (.dK vs))(r:fw k G vs as):RA k G (.ref p) (.dic as)
 |exc{p C:Addr}{c:Str}(e:G p=some (qk p C))(m:k.mg c=some (.ref C)):RA k G (.ref p) (.exc c)
 |obj{p C dx:Addr}{c:Str}{vs:List (Str×V)}{fs:List (Str×A)}(e:G p=some (.ins C dx vs))(m:k.mg c=some (.ref C))(r:Af k G vs fs):RA k G (.ref p) (.obj c fs)
 |opq{p:Addr}:RA k G (.ref p) .opq
inductive bf(k:Kx)(G:Hp):List V->List A->Prop
 |nil:bf k G [] []
 |cons{v:V}{a:A}{vs:List V}{as:List A}(h:RA k G v a)(r:bf k G vs as):bf k G (v::vs) (a::as)
inductive Af(k:Kx)(G:Hp):List (Str×V)->List (Str×A)->Prop
 |nil:Af k G [] []
 |cons{y:Str}{v:V}{a:A}{vs:List (Str×V)}{as:List (Str×A)}(h:RA k G v a)(r:Af k G vs as):Af k G ((y,v)::vs) ((y,a)::as)
inductive jE(k:Kx)(G:Hp):List (List Key×Addr×V)->List (List Key×A)->Prop
 |nil:jE k G [] []
 |cons{y:List Key}{b:Addr}{v:V}{a:A}{vs:List (List Key×Addr×V)}{as:List (List Key×A)}(e:dz k.K G b (y.map kV))(h:RA k G v a)(r:jE k G vs as):jE k G ((y,b,v)::vs) ((y,a)::as)
inductive fw(k:Kx)(G:Hp):List (Key×V)->List (Key×A)->Prop
 |nil:fw k G [] []
 |cons{y:Key}{v:V}{a:A}{vs:List (Key×V)}{as:List (Key×A)}(h:RA k G v a)(r:fw k G vs as):fw k G ((y,v)::vs) ((y,a)::as)
end
noncomputable def uH:HO->Option (List (Key×V))
 | .dK kvs=>some kvs
 | .frz _ (.dK kvs)=>some kvs
 |_=>none
def Oq(o o':HO):Prop:=o'=o\/∃kvs,uH o=some kvs/\uH o'=some kvs
variable{G:Hp}{kvs:List (Key×V)}
theorem fh{b:Addr}{o:HO}(h:G b=some o)(e:uH o=some kvs):Rd G b (.dK kvs):=by
 unfold uH at e;split at e
 .cases e;exact .inl h
 .cases e;exact .inr ⟨_,h⟩
 .cases e
theorem K4{b:Addr}(h:Rd G b (.dK kvs)):∃o,G b=some o/\uH o=some kvs:=by
 rcases h with h|⟨o,h⟩
 .exact⟨_,h,rfl⟩
 .exact⟨_,h,rfl⟩
def Sq(G G':Hp):Prop:=∀b o,G b=some o->∃o',G' b=some o'/\Oq o o'
variable{G':Hp}
theorem Sq.of(h:Nx G G'):Sq G G':=λb o e=>⟨o,h b o e,.inl rfl⟩
theorem Sq.refl(G:Hp):Sq G G:=λb o e=>⟨o,e,.inl rfl⟩
theorem Sq.keep(h:Sq G G'){b:Addr}{o:HO}(e:G b=some o)(n:uH o=none):G' b=some o:=by
 obtain⟨o',h1,h2⟩:=h b o e;rcases h2 with rfl|⟨kvs,h3,_⟩
 .exact h1
 .rw[n] at h3;cases h3
theorem Sq.NY(h:Sq G G'){b:Addr}(r:Rd G b (.dK kvs)):Rd G' b (.dK kvs):=by
 obtain⟨o,e,d⟩:=K4 r;obtain⟨o',h1,h2⟩:=h b o e;rcases h2 with rfl|⟨s,h3,h4⟩
 .exact fh h1 d
 .rw[d] at h3;cases h3;exact fh h1 h4
variable{p:Addr}{vs:List V}
theorem cu{K:O2}(h:Sq G G')(q:dz K G p vs):dz K G' p vs:=q.imp (λr=>by
 rcases r with r|⟨o,r⟩
 .exact .inl (h.keep r rfl)
 .exact .inr ⟨o,h.keep r rfl⟩) id
theorem kG{K:O2}(h:Sq G G')(q:eX K G p vs):eX K G' p vs:=q.imp (λr=>by
 rcases r with r|⟨o,r⟩
 .exact .inl (h.keep r rfl)
 .exact .inr ⟨o,h.keep r rfl⟩) id
variable{v:V}
section
variable{k:Kx}{G G':Hp}
mutual
theorem RA.sm(s:Sq G G'):∀{v:V}{a:A},RA k G v a->RA k G' v a
 |_,_,.non=>.non
 |_,_,.bl b=>.bl b
 |_,_,.int i=>.int i
 |_,_,.str x=>.str x
 |_,_,.tup e r=>.tup (cu s e) (bf.sm s r)
 |_,_,.lst e r=>.lst (kG s e) (bf.sm s r)
 |_,_,.dic e r=>.dic (s.NY e) (fw.sm s r)
 |_,_,.exc e m=>.exc (s.keep e rfl) m
 |_,_,.obj e m r=>.obj (s.keep e rfl) m (Af.sm s r)
 |_,_,.opq=>.opq
theorem Af.sm(s:Sq G G'):∀{vs:List (Str×V)}{as:List (Str×A)},Af k G vs as->Af k G' vs as
 |_,_,.nil=>.nil
 |_,_,.cons h r=>.cons (RA.sm s h) (Af.sm s r)
theorem bf.sm(s:Sq G G'):∀{vs:List V}{as:List A},bf k G vs as->bf k G' vs as
 |_,_,.nil=>.nil
 |_,_,.cons h r=>.cons (RA.sm s h) (bf.sm s r)
theorem jE.sm(s:Sq G G'):∀{vs:List (List Key×Addr×V)}{as:List (List Key×A)},jE k G vs as->jE k G' vs as
 |_,_,.nil=>.nil
 |_,_,.cons e h r=>.cons (cu s e) (RA.sm s h) (jE.sm s r)
theorem fw.sm(s:Sq G G'):∀{vs:List (Key×V)}{as:List (Key×A)},fw k G vs as->fw k G' vs as
 |_,_,.nil=>.nil
 |_,_,.cons h r=>.cons (RA.sm s h) (fw.sm s r)
end
theorem bf.len:∀{vs:List V}{as:List A},bf k G vs as->vs.length=as.length
 |_,_,.nil=>rfl
 |_,_,.cons _ r=>by rw[Pl,Pl,r.len]
theorem bf.at:∀{vs:List V}{as:List A}{i:Nat}{v:V},bf k G vs as->vs[i]?=some v->∃a,as[i]?=some a/\RA k G v a
 |_,_,_,_,.nil,e=>by simp at e
 |_,_,0,_,.cons h _,e=>by cases e;exact⟨_,rfl,h⟩
 |_,_,i+1,_,.cons _ r,e=>r.at (i:=i) e
theorem bf.ta:∀{vs:List V}{as:List A}{i:Nat}{a:A},bf k G vs as->as[i]?=some a->∃v,vs[i]?=some v/\RA k G v a
 |_,_,_,_,.nil,e=>by simp at e
 |_,_,0,_,.cons h _,e=>by cases e;exact⟨_,rfl,h⟩
 |_,_,i+1,_,.cons _ r,e=>r.ta (i:=i) e
theorem bf.app:∀{vs us:List V}{as bs:List A},bf k G vs as->bf k G us bs->bf k G (vs++us) (as++bs)
 |_,_,_,_,.nil,s=>s
 |_,_,_,_,.cons h r,s=>.cons h (r.app s)
theorem bf.snoc{as:List A}{a:A}(r:bf k G vs as)(h:RA k G v a):bf k G (vs++[v]) (as++[a]):=r.app (.cons h .nil)
theorem bf.rev:∀{vs:List V}{as:List A},bf k G vs as->bf k G vs.reverse as.reverse
 |_,_,.nil=>.nil
 |_,_,.cons h r=>by rw[Rl,Rl];exact r.rev.snoc h
theorem bf.take:∀{vs:List V}{as:List A}(n:Nat),bf k G vs as->bf k G (vs.take n) (as.take n)
 |_,_,0,_=>.nil
 |_,_,_+1,.nil=>.nil
 |_,_,n+1,.cons h r=>.cons h (r.take n)
theorem bf.drop:∀{vs:List V}{as:List A}(n:Nat),bf k G vs as->bf k G (vs.drop n) (as.drop n)
 |_,_,0,r=>r
 |_,_,_+1,.nil=>.nil
 |_,_,n+1,.cons _ r=>r.drop n
theorem bf.set{v:V}{a:A}(h:RA k G v a):∀{vs:List V}{as:List A}(i:Nat),bf k G vs as->bf k G (vs.set i v) (as.set i a)
 |_,_,_,.nil=>.nil
 |_,_,0,.cons _ r=>.cons h r
 |_,_,i+1,.cons q r=>.cons q (r.set h i)
theorem bf.strs:∀{vs:List V}{ss:List Str},bf k G vs (ss.map A.str)->vs=ss.map V.str
 |_,[],.nil=>rfl
 |_,_::ss,.cons h r=>by cases h;rw[r.strs (ss:=ss)];rfl
theorem bf.ofStrs:∀(ss:List Str),bf k G (ss.map V.str) (ss.map A.str)
 |[]=>.nil
 |s::ss=>.cons (.str s) (bf.ofStrs ss)
noncomputable def fC{α:Type}(as:List (Key×α))(y:Key):Option α:=(as.find? λs=>decide (s.1=y)).map (·.2)
noncomputable def lG{α:Type}(as:List (Key×α))(y:Key)(a:α):List (Key×α):=
 if (as.any λs=>decide (s.1=y))=true then as.map λs=>if s.1=y then (s.1,a) else s else as++[(y,a)]
theorem fw.len:∀{vs:List (Key×V)}{as:List (Key×A)},fw k G vs as->vs.length=as.length
 |_,_,.nil=>rfl
 |_,_,.cons _ r=>by rw[Pl,Pl,r.len]
theorem fw.keys:∀{vs:List (Key×V)}{as:List (Key×A)},fw k G vs as->vs.map (·.1)=as.map (·.1)
 |_,_,.nil=>rfl
 |_,_,.cons _ r=>by rw[Pg,Pg,r.keys]
theorem fw.app:∀{vs us:List (Key×V)}{as bs:List (Key×A)},fw k G vs as->fw k G us bs->fw k G (vs++us) (as++bs)
 |_,_,_,_,.nil,s=>s
 |_,_,_,_,.cons h r,s=>.cons h (r.app s)
theorem fw.get:∀{vs:List (Key×V)}{as:List (Key×A)}(y:Key),fw k G vs as->(∃v a,iF vs y=some v/\fC as y=some a/\RA k G v a)\/(iF vs y=none/\fC as y=none)
 |_,_,y,.nil=>.inr ⟨rfl,rfl⟩
 |_,_,y,.cons (y:=z) (v:=v) (a:=a) (vs:=vs) (as:=as) h r=>by
  unfold iF fC;by_cases c:z=y
  .left;exact⟨v,a,by simp[Qi,c],by simp[Qi,c],h⟩
  .have:=fw.get y r;unfold iF fC at this;simpa[Qi,c] using this
theorem fw.any:∀{vs:List (Key×V)}{as:List (Key×A)}(y:Key),fw k G vs as->(vs.any λs=>decide (s.1=y))=(as.any λs=>decide (s.1=y))
 |_,_,y,.nil=>rfl
 |_,_,y,.cons h r=>by rw[Qt,Qt,fw.any y r]
theorem fw.sd{v:V}{a:A}(y:Key)(h:RA k G v a):∀{vs:List (Key×V)}{as:List (Key×A)},fw k G vs as->fw k G (vs.map λs=>if s.1=y then (s.1,v) else s) (as.map λs=>if s.1=y then (s.1,a) else s)
 |_,_,.nil=>.nil
 |_,_,.cons (y:=z) q r=>by
  rw[Pg,Pg];by_cases c:z=y
  .simp only[c,if_true];exact .cons h (fw.sd y h r)
  .simp only[c,if_false];exact .cons q (fw.sd y h r)
theorem fw.put{vs:List (Key×V)}{as:List (Key×A)}{a:A}(y:Key)(r:fw k G vs as)(h:RA k G v a):fw k G (putK vs y v) (lG as y a):=by
 unfold putK lG;rw[r.any y];split
 .exact fw.sd y h r
 .exact r.app (.cons h .nil)
end
noncomputable def cut(H:Hp)(L:List Addr):Hp:=λa=>if a∈L then none else H a
variable{H:Hp}{L:List Addr}
theorem vZ{a:Addr}(h:a∈L):cut H L a=none:=if_pos h
theorem oe{a:Addr}(h:a∉L):cut H L a=H a:=if_neg h
theorem zA(H:Hp)(L:List Addr):Sq (cut H L) H:=Sq.of λb o e=>by
 unfold cut at e;split at e
 .cases e
 .exact e
variable{L':List Addr}
theorem xX(h:∀a,a∈L'->a∈L):Sq (cut H L) (cut H L'):=Sq.of λb o e=>by
 by_cases c:b∈L
 .rw[vZ c] at e;cases e
 .rw[oe c] at e;rw[oe λz=>c (h b z)];exact e
def DU:List (List Key×Addr×V)->List (List Key×Addr×Value)->Prop:=Paired λx y=>x.1=y.1/\x.2.1=y.2.1/\RelV x.2.2 y.2.2
def dX(P:Program)(w:World)(p:Addr)(xs:List (List Key×Addr×V)):HO:=.ext λh=>xs.length<=sizeLine/\(p==sysModules)=false/\∃ys,DU xs ys /\
 ∃o es ep,h.get? p=some o/\o.ExactDict/\o.data=.dict es ep/\es.toList=ys.map (entryOfKey (tupleKind (aO P w)))/\(ys.map (·.1)).Nodup
inductive LO where
 |lst(xs:List A)|dic(kvs:List (Key×A))|obj(c:Str)(fs:List (Str×A))|dit(kvs:List (List Key×A))
def LO.a:LO->A
 | .lst xs=>.lst xs
 | .dic kvs=>.dic kvs
 | .obj c fs=>.obj c fs
 | .dit _=>.opq
inductive Sl where
 |un|fr(a:A)|lv(o:LO)|pv(o:LO)
inductive LR(k:Kx)(G H:Hp)(p:Addr):LO->Prop
 |lst{vs:List V}{as:List A}(e:H p=some (.lst vs))(r:bf k G vs as):LR k G H p (.lst as)
 |dic{vs:List (Key×V)}{as:List (Key×A)}(e:H p=some (.dK vs))(r:fw k G vs as):LR k G H p (.dic as)
 |obj{C dx:Addr}{c:Str}{vs:List (Str×V)}{fs:List (Str×A)}(e:H p=some (.ins C dx vs))(m:k.mg c=some (.ref C))(r:Af k G vs fs):LR k G H p (.obj c fs)
 |dit{vs:List (List Key×Addr×V)}{as:List (List Key×A)}(e:H p=some (dX k.P k.w p vs))(r:jE k G vs as):LR k G H p (.dit as)
inductive gv(k:Kx)(G H:Hp):Option V->Sl->List Addr->Prop
 |un(x:Option V):gv k G H x .un []
 |fr{v:V}{a:A}(h:RA k G v a):gv k G H (some v) (.fr a) []
 |lv{p:Addr}{o:LO}(h:LR k G H p o):gv k G H (some (.ref p)) (.lv o) [p]
 |pv{p:Addr}{o:LO}(h:LR k G H p o):gv k G H (some (.ref p)) (.pv o) [p]
inductive aw(k:Kx)(G H:Hp):St->List Sl->List Addr->Prop
 |nil:aw k G H [] [] []
 |cons{x:Option V}{s:Sl}{Y:St}{Z:List Sl}{L L':List Addr}(h:gv k G H x s L)(r:aw k G H Y Z L'):aw k G H (x::Y) (s::Z) (L++L')
variable{o:LO}
section
variable{k:Kx}{G G' H H':Hp}{L:List Addr}
theorem LR.is(h:LR k G H p o):∃u,H p=some u:=by cases h with|lst e _=>exact⟨_,e⟩|dic e _=>exact⟨_,e⟩|obj e _ _=>exact⟨_,e⟩|dit e _=>exact⟨_,e⟩
theorem LR.sm(s:Sq G G'){p:Addr}{o:LO}(e:∀u,H p=some u->H' p=some u)(h:LR k G H p o):LR k G' H' p o:=by
 cases h with
 |lst q r=>exact .lst (e _ q) (r.sm s)
 |dic q r=>exact .dic (e _ q) (r.sm s)
 |obj q m r=>exact .obj (e _ q) m (r.sm s)
 |dit q r=>exact .dit (e _ q) (r.sm s)
theorem gv.is{x:Option V}{t:Sl}(h:gv k G H x t L):∀p∈L,∃u,H p=some u:=by
 cases h with
 |un=>intro p hp;cases hp
 |fr=>intro p hp;cases hp
 |lv h=>intro p hp;rw[Pc.mp hp];exact h.is
 |pv h=>intro p hp;rw[Pc.mp hp];exact h.is
theorem gv.sm(s:Sq G G'){x:Option V}{t:Sl}(e:∀p∈L,∀u,H p=some u->H' p=some u)(h:gv k G H x t L):gv k G' H' x t L:=by
 cases h with
 |un=>exact .un _
 |fr h=>exact .fr (h.sm s)
 |lv h=>exact .lv (h.sm s (e _ (Pc.mpr rfl)))
 |pv h=>exact .pv (h.sm s (e _ (Pc.mpr rfl)))
theorem aw.is:∀{Y:St}{Z:List Sl}{L:List Addr},aw k G H Y Z L->∀p∈L,∃u,H p=some u
 |_,_,_,.nil,p,hp=>by cases hp
 |_,_,_,.cons h r,p,hp=>(Pe.mp hp).elim (h.is p) (r.is p)
theorem aw.sm(s:Sq G G'):∀{Y:St}{Z:List Sl}{L:List Addr},(∀p∈L,∀u,H p=some u->H' p=some u)->aw k G H Y Z L->aw k G' H' Y Z L
 |_,_,_,_,.nil=>.nil
 |_,_,_,e,.cons h r=>.cons (h.sm s λp hp=>e p (Ph _ hp)) (r.sm s λp hp=>e p (Pb _ hp))
theorem aw.len:∀{Y:St}{Z:List Sl}{L:List Addr},aw k G H Y Z L->Y.length=Z.length
 |_,_,_,.nil=>rfl
 |_,_,_,.cons _ r=>by rw[Pl,Pl,r.len]
theorem aw.at:∀{Y:St}{Z:List Sl}{L:List Addr}{i:Nat}{s:Sl},aw k G H Y Z L->Z[i]?=some s->
  ∃x b L2 X,Y[i]?=some x/\gv k G H x s L2/\L=b++L2++X/\∀{G' H':Hp}{y:Option V}{t:Sl}{L':List Addr},Sq G G'->(∀p∈b++X,∀u,H p=some u->H' p=some u)->gv k G' H' y t L'->aw k G' H' (Y.set i y) (Z.set i t) (b++L'++X)
 |_,_,_,_,_,.nil,e=>by simp at e
 |_,_,_,0,_,.cons (x:=x) (L:=L) (L':=L') h r,e=>by cases e;refine⟨x,[],L,L',rfl,h,by simp,λsm e q=>?_⟩;simp only[List.set_cons_zero,Tf];exact .cons q (r.sm sm (by simpa using e))
 |_,_,_,i+1,_,.cons (L:=L) h r,e=>by obtain⟨x,b,L2,X,J,l,T,v⟩:=aw.at (i:=i) r e;refine⟨x,L++b,L2,X,J,l,by rw[T];simp,λsm e q=>?_⟩;simp only[List.set_cons_succ];have:=aw.cons (h.sm sm λp hp=>e p (by simp[hp])) (v sm (λp hp=>e p (by rcases Pe.mp hp with z|z<;>simp[z])) q);simpa[O7] using this
theorem aw.app:∀{Y B:St}{Z θ:List Sl}{L L':List Addr},aw k G H Y Z L->aw k G H B θ L'->aw k G H (Y++B) (Z++θ) (L++L')
 |_,_,_,_,_,_,.nil,s=>s
 |_,_,_,_,_,_,.cons h r,s=>by have:=aw.cons h (r.app s);simpa[O7] using this
theorem aw.split:∀{Y B:St}{Z θ:List Sl}{L:List Addr},Y.length=Z.length->aw k G H (Y++B) (Z++θ) L->∃b L2,L=b++L2/\aw k G H Y Z b/\aw k G H B θ L2
 |[],_,[],_,L,_,h=>⟨[],L,rfl,.nil,h⟩
 |x::Y,B,s::Z,θ,_,e,.cons (L:=L) h r=>by obtain⟨b,L2,J,w,p⟩:=aw.split (by simpa using e) r;exact⟨L++b,L2,by rw[J];simp,.cons h w,p⟩
 |_::_,_,[],_,_,e,_=>by simp at e
 |[],_,_::_,_,_,e,_=>by simp at e
theorem aw.cA:∀{vs:List V}{as:List A},bf k G vs as->aw k G H (vs.map some) (as.map Sl.fr) []
 |_,_,.nil=>.nil
 |_,_,.cons h r=>aw.cons (L:=[]) (.fr h) (aw.cA r)
theorem aw.DD:∀{vs:List V}{as:List A}{L:List Addr},aw k G H (vs.map some) (as.map Sl.fr) L->L=[]/\bf k G vs as
 |[],[],_,.nil=>⟨rfl,.nil⟩
 |v::vs,a::as,_,.cons h r=>by
  cases h with
  |fr h=>obtain⟨e,q⟩:=aw.DD r;exact⟨by rw[e];rfl,.cons h q⟩
end
structure Cn extends Kx where
 σ0:St
 H0:Hp
 Lp:List Addr
 Hd:List Addr
 Wk:List (Addr×HO)
def Cn.g(c:Cn)(H:Hp)(L:List Addr):Hp:=cut H (L++c.Hd)
structure Fr(c:Cn)(H:Hp):Prop where
 st:∀b o,c.H0 b=some o->∃u,H b=some u/\(b∉c.Lp->(∀w,(b,w)∉c.Wk)->u=o)
 pk:∀p∈c.Wk,H p.1=some p.2/\(∃ob vs,p.2=.frz ob (.dK vs))/\p.1∉c.Hd
variable{c:Cn}
theorem Fr.new{o:HO}(f:Fr c H)(h:H p=none):Fr c (upd H p o):=⟨λb u e=>by
 obtain⟨w,h1,h2⟩:=f.st b u e;exact⟨w,by rw[ay (aD h1 h)];exact h1,h2⟩,λq B=>by
 obtain⟨h1,h2⟩:=f.pk q B;exact⟨by rw[ay (aD h1 h)];exact h1,h2⟩⟩
theorem Fr.fresh(f:Fr c H)(h:H p=none):c.H0 p=none:=by
 cases e:c.H0 p with
 |none=>rfl
 |some o=>obtain⟨u,h1,_⟩:=f.st p o e;rw[h] at h1;cases h1
def dW(σ0 Y:St)(Z:List Sl):Prop:=∀(i:Nat)(o:LO),Z[i]?=some (Sl.pv o)->Y[i]?=σ0[i]?
structure eE(c:Cn)(Y:St)(H:Hp)(Z:List Sl)(B:St)(θ:List Sl)(L:List Addr):Prop where
 nd:L.Nodup
 rel:aw c.toKx (c.g H L) H (B++Y) (θ++Z) L
 own:∀p∈L,p∈c.Lp\/c.H0 p=none
 fr:Fr c H
 kp:dW c.σ0 Y Z
 lt:B.length=θ.length
 hd:∀p∈c.Hd,(∃u,c.H0 p=some u)/\p∉c.Lp
theorem g_same(c:Cn)(H:Hp)(L:List Addr):Sq (c.g H L) H:=zA _ _
theorem cC(h:∀a,a∈L'->a∈L):Sq (c.g H L) (c.g H L'):=xX λa ha=>by
 rcases Pe.mp ha with z|z
 .exact Ph _ (h a z)
 .exact Pb _ z
theorem rl{a:Addr}(h:a∈L\/a∈c.Hd):c.g H L a=none:=vZ (by simpa using h)
theorem cy{a:Addr}(h:a∉L)(h':a∉c.Hd):c.g H L a=H a:=oe (by simp[h,h'])
variable{Y B:St}{Z θ:List Sl}
theorem eE.MW(b:eE c Y H Z B θ L)(h:p∈L):p∉c.Hd:=λz=>by
 obtain⟨⟨u,e⟩,n⟩:=b.hd p z;rcases b.own p h with y|y
 .exact n y
 .rw[y] at e;cases e
theorem eE.Ja(b:eE c Y H Z B θ L)(h:H p=none):p∉c.Hd:=λz=>by obtain⟨⟨u,e⟩,n⟩:=b.hd p z;rw[b.fr.fresh h] at e;cases e
def Bd(c:Cn)(Y:St)(H:Hp)(Z:List Sl)(B:St)(θ:List Sl):Prop:=∃L,eE c Y H Z B θ L
variable{s:Sl}{u:HO}{i:Nat}
section
variable{c:Cn}{Y:St}{H:Hp}{Z:List Sl}{B:St}{θ:List Sl}
theorem Bd.gS(b:Bd c Y H Z B θ):Y.length=Z.length:=by obtain⟨L,b⟩:=b;have:=b.rel.len;rw[Pk,Pk,b.lt] at this;omega
theorem Bd.push{a:A}(b:Bd c Y H Z B θ)(h:∀G,RA c.toKx G v a):Bd c Y H Z (some v::B) (.fr a::θ):=by obtain⟨L,b⟩:=b;exact⟨L,b.nd,aw.cons (L:=[]) (.fr (h _)) b.rel,b.own,b.fr,b.kp,by simp[b.lt],b.hd⟩
theorem Bd.pop{x:Option V}(b:Bd c Y H Z (x::B) (s::θ)):Bd c Y H Z B θ:=by
 obtain⟨L,b⟩:=b;obtain⟨nd,rel,own,fr,kp,lt,u⟩:=b;have rel:aw c.toKx (c.g H L) H (x::(B++Y)) (s::(θ++Z)) L:=rel;cases rel with
 |cons h r=>rename_i K L2;exact⟨L2,(Pz.mp nd).2.1,r.sm (cC λa ha=>Pb _ ha) (λ_ _ _ e=>e),λp hp=>own p (Pb _ hp),fr,kp,by simpa using lt,u⟩
theorem Bd.Be:∀{xs:St}{ss:List Sl},xs.length=ss.length->Bd c Y H Z (xs++B) (ss++θ)->Bd c Y H Z B θ
 |[],[],_,b=>b
 |x::xs,s::ss,e,b=>Bd.Be (xs:=xs) (ss:=ss) (by simpa using e) (Bd.pop b)
 |[],_::_,e,_=>by simp at e
 |_::_,[],e,_=>by simp at e
theorem Bd.cA{as:List A}(b:Bd c Y H Z (vs.map some++B) (as.map Sl.fr++θ))(e:vs.length=as.length):∃L,eE c Y H Z B θ L/\bf c.toKx (c.g H L) vs as:=by obtain⟨L,b⟩:=b;have r:=b.rel;rw[O7,O7] at r;obtain⟨K,L2,J,k,p⟩:=aw.split (by simp[e]) r;obtain⟨z,x⟩:=aw.DD k;subst z;have J:L=L2:=J;subst J;exact⟨L,⟨b.nd,p,b.own,b.fr,b.kp,by have:=b.lt;simp at this;omega,b.hd⟩,x⟩
theorem eE.push{a:A}(b:eE c Y H Z B θ L)(h:RA c.toKx (c.g H L) v a):Bd c Y H Z (some v::B) (.fr a::θ):=
 ⟨L,b.nd,aw.cons (L:=[]) (.fr h) b.rel,b.own,b.fr,b.kp,by simp[b.lt],b.hd⟩
theorem eE.new{L:List Addr}{p:Addr}{o:HO}(b:eE c Y H Z B θ L)(h:H p=none):eE c Y (upd H p o) Z B θ L/\Sq (c.g H L) (c.g (upd H p o) L)/\p∉L:=by
 have hp:p∉L:=λz=>by obtain⟨u,e⟩:=b.rel.is p z;rw[h] at e;cases e
 have sm:Sq (c.g H L) (c.g (upd H p o) L):=Sq.of λa u e=>by
  by_cases z:a∈L\/a∈c.Hd
  .rw[rl z] at e;cases e
  .rw[cy (λy=>z (.inl y)) (λy=>z (.inr y))] at e;rw[cy (λy=>z (.inl y)) (λy=>z (.inr y)),ay (aD e h)];exact e
 exact⟨⟨b.nd,b.rel.sm sm (λq r u e=>by rw[ay (aD e h)];exact e),b.own,b.fr.new h,b.kp,b.lt,b.hd⟩,sm,hp⟩
theorem Bd.Hi{as:List A}(b:Bd c Y H Z (vs.map some++B) (as.map Sl.fr++θ))(e:vs.length=as.length)(h:H p=none)(a:List V)(bs:List A)(v:∀G,bf c.toKx G vs as->bf c.toKx G a bs):
  Bd c Y (upd H p (.tup a)) Z (some (.ref p)::B) (.fr (.tup bs)::θ):=by
 obtain⟨L,bl,x⟩:=b.cA e;obtain⟨b2,sm,hp⟩:=bl.new (o:=.tup a) h;exact b2.push (.tup (.inl (.inl (by rw[cy hp (bl.Ja h)];exact br))) (v _ (x.sm sm)))
theorem eE.gy(b:eE c Y H Z B θ L)(h:H p=none)(D:∀G H',Sq (c.g H L) G->H' p=some u->LR c.toKx G H' p o):Bd c Y (upd H p u) Z (some (.ref p)::B) (.lv o::θ):=by
 have hp:p∉L:=λz=>by obtain⟨u,e⟩:=b.rel.is p z;rw[h] at e;cases e
 have sm:Sq (c.g H L) (c.g (upd H p u) (p::L)):=Sq.of λa w e=>by
  by_cases z:a∈L\/a∈c.Hd
  .rw[rl z] at e;cases e
  .rw[cy (λy=>z (.inl y)) (λy=>z (.inr y))] at e;have X:=aD e h;rw[cy (λy=>by rcases Po.mp y with y|y;exact X y;exact z (.inl y)) (λy=>z (.inr y)),ay X];exact e
 refine⟨p::L,PM.mpr ⟨hp,b.nd⟩,aw.cons (L:=[p]) (.lv (D _ _ sm br)) (b.rel.sm sm (λq r w e=>by rw[ay (aD e h)];exact e)),λq r=>?_,b.fr.new h,b.kp,by simp[b.lt],b.hd⟩;rcases Po.mp r with z|z
 .subst z;exact .inr (b.fr.fresh h)
 .exact b.own q z
theorem Bd.zO{as:List A}(b:Bd c Y H Z (vs.map some++B) (as.map Sl.fr++θ))(e:vs.length=as.length)(h:H p=none)(a:List V)(bs:List A)(v:∀G,bf c.toKx G vs as->bf c.toKx G a bs):
  Bd c Y (upd H p (.lst a)) Z (some (.ref p)::B) (.lv (.lst bs)::θ):=by
 obtain⟨L,bl,x⟩:=b.cA e;exact bl.gy h λG H' sm q=>.lst q (v _ (x.sm sm))
theorem LR.a{k:Kx}{G H:Hp}{p:Addr}{o:LO}(h:LR k G H p o)(sm:Sq G H):RA k H (.ref p) o.a:=by
 cases h with
 |lst e r=>exact .lst (.inl (.inl e)) (r.sm sm)
 |dic e r=>exact .dic (.inl e) (r.sm sm)
 |obj e m r=>exact .obj e m (r.sm sm)
 |dit e r=>exact .opq
theorem LR.a'{k:Kx}(h:LR k G H p o)(sm:Sq G G')(e:∀u,H p=some u->G' p=some u):RA k G' (.ref p) o.a:=by
 cases h with
 |lst q r=>exact .lst (.inl (.inl (e _ q))) (r.sm sm)
 |dic q r=>exact .dic (.inl (e _ q)) (r.sm sm)
 |obj q m r=>exact .obj (e _ q) m (r.sm sm)
 |dit e r=>exact .opq
def Sl.a:Sl->Option A
 | .fr a=>some a
 | .lv o=>some o.a
 | .pv o=>some o.a
 | .un=>none
theorem gv.read{k:Kx}{x:Option V}{a:A}(h:gv k G H x s L)(sm:Sq G H)(e:s.a=some a):∃v,x=some v/\RA k H v a:=by
 cases h with
 |un=>cases e
 |fr h=>cases e;exact⟨_,rfl,h.sm sm⟩
 |lv h=>cases e;exact⟨_,rfl,h.a sm⟩
 |pv h=>cases e;exact⟨_,rfl,h.a sm⟩
theorem dW.set{σ0 Y:St}{Z:List Sl}{i:Nat}{t:Sl}{y:Option V}(k:dW σ0 Y Z)(h:∀o,Z[i]?≠some (.pv o))(hi:i<Z.length)(e:∀o,t≠.pv o):dW σ0 (Y.set i y) (Z.set i t):=λj o q=>by
 by_cases z:j=i
 .subst z;rw[PR hi] at q;exact absurd (Pn q) (e o)
 .rw[Qh (QM z)] at q ⊢;exact k j o q
theorem dW.Au{σ0:St}{t:Sl}(k:dW σ0 Y Z)(h:∀o,t=.pv o->∃o',Z[i]?=some (.pv o')):dW σ0 Y (Z.set i t):=λj o q=>by
 by_cases z:j=i
 .subst z;by_cases hi:j<Z.length
  .rw[PR hi] at q;obtain⟨o',e⟩:=h o (Pn q);exact k j o' e
  .rw[Rv (by simp;omega)] at q;cases q
 .rw[Qh (QM z)] at q;exact k j o q
theorem Bd.slot{a:A}(b:Bd c Y H Z B θ)(e:Z[i]?=some s)(ea:s.a=some a):∃v,Y[i]?=some (some v)/\RA c.toKx H v a:=by obtain⟨L,b⟩:=b;obtain⟨K,L2,J,w,p⟩:=aw.split b.lt b.rel;obtain⟨x,_,_,_,k,N,_⟩:=p.at e;obtain⟨v,rfl,h⟩:=N.read (g_same _ _ _) ea;exact⟨v,k,h⟩
theorem Bd.load{a:A}(b:Bd c Y H Z B θ)(e:Z[i]?=some (.fr a)):∃v,Y[i]?=some (some v)/\Bd c Y H Z (some v::B) (.fr a::θ):=by
 obtain⟨L,b⟩:=b;obtain⟨K,L2,J,w,p⟩:=aw.split b.lt b.rel;obtain⟨x,_,_,_,k,N,_⟩:=p.at e;cases N with
 |fr h=>exact⟨_,k,b.push h⟩
theorem Bd.tX(b:Bd c Y H Z B θ)(e:Z[i]?=some (.lv o)):Bd c Y H (Z.set i (.fr o.a)) B θ:=by
 obtain⟨L,b⟩:=b;obtain⟨K,L2,J,w,D⟩:=aw.split b.lt b.rel;obtain⟨x,M1,M2,X,k,N,l,ins⟩:=D.at e;cases N with
 |lv h=>
  rename_i p;have nd:=b.nd;have r:L=(K++M1)++p::X:=by rw[J,l];simp
  rw[r] at nd;have hp:p∉K++M1++X:=by
   obtain⟨S,s,P⟩:=Pz.mp nd;obtain⟨R,V⟩:=PM.mp s;intro z;rcases Pe.mp z with z|z
   .exact P p z p (by simp) rfl
   .exact R z
  have sub:∀a,a∈K++M1++X->a∈L:=λa ha=>by rw[r];simp only[Pe,Po] at ha ⊢;rcases ha with (z|z)|z<;>simp[z]
  have sm:Sq (c.g H L) (c.g H (K++M1++X)):=cC sub;have v:=ins (y:=some (.ref p)) (t:=.fr o.a) (L':=[]) sm (λ_ _ _ e=>e) (.fr (h.a' sm λu e=>by rw[cy hp (b.MW (by rw[r];simp))];exact e));have I:Y.set i (some (.ref p))=Y:=by
   apply Rk;intro j;by_cases z:j=i
   .subst z;rw[PR (O6.mp k).1,k]
   .rw[Qh (QM z)]
  rw[I] at v;refine⟨K++M1++X,?_,?_,λq A=>b.own q (sub q A),b.fr,b.kp.Au (λo z=>by cases z),b.lt,b.hd⟩
  .exact(Pz.mp nd).1 |> λn=>Pz.mpr ⟨n,(PM.mp (Pz.mp nd).2.1).2,λa ha Q d=>(Pz.mp nd).2.2 a ha Q (Pa _ d)⟩
  .have:=(w.sm sm (λ_ _ _ e=>e)).app v;simpa[O7] using this
theorem eE.change{t:Sl}{o':LO}(b:eE c Y H Z B θ L)(e:Z[i]?=some s)(es:s=.lv o/\t=.lv o'\/s=.pv o/\t=.pv o')
  : ∃p,Y[i]?=some (some (.ref p))/\LR c.toKx (c.g H L) H p o/\((∀H',H' p=some u->LR c.toKx (c.g H L) H' p o')->Bd c Y (upd H p u) (Z.set i t) B θ):=by
 obtain⟨K,L2,J,S,V⟩:=aw.split b.lt b.rel;obtain⟨x,M1,M2,v,k,N,l,ins⟩:=V.at e;have I:∀p,x=some (.ref p)->M2=[p]->LR c.toKx (c.g H L) H p o->(∀G H',LR c.toKx G H' p o'->gv c.toKx G H' (some (.ref p)) t [p])->(∀O,t=.pv O->∃o',Z[i]?=some (.pv o'))->
   ∃p,Y[i]?=some (some (.ref p))/\LR c.toKx (c.g H L) H p o/\((∀H',H' p=some u->LR c.toKx (c.g H L) H' p o')->Bd c Y (upd H p u) (Z.set i t) B θ):=by
  intro p ex em F mk pk;subst ex em;refine⟨p,k,F,λhn=>?_⟩;have nd:=b.nd;have D:L=(K++M1)++p::v:=by rw[J,l];simp
  have X:p∈L:=by rw[D];simp
  have A:∀q,q∈K++M1++v->q≠p:=λq r z=>by
   subst z;rw[D] at nd;obtain⟨m,U,P⟩:=Pz.mp nd;obtain⟨E,d⟩:=PM.mp U;rcases Pe.mp r with z|z
   .exact P q z q (by simp) rfl
   .exact E z
  have R:c.g (upd H p u) L=c.g H L:=by
   funext a
   by_cases z:a∈L\/a∈c.Hd
   .rw[rl z,rl z]
   .rw[cy (λy=>z (.inl y)) (λy=>z (.inr y)),cy (λy=>z (.inl y)) (λy=>z (.inr y)),ay λy=>z (.inl (by rw[y];exact X))]
  have n:∀q,q∈K++M1++v->∀w,H q=some w->upd H p u q=some w:=λq r w e=>by rw[ay (A q r)];exact e
  have Q:=ins (G':=c.g (upd H p u) L) (H':=upd H p u) (y:=some (.ref p)) (t:=t) (L':=[p]) (by rw[R];exact Sq.refl _) (λq r=>n q (by rcases Pe.mp r with z|z<;>simp[z])) (mk _ _ (by rw[R];exact hn _ br));have C:Y.set i (some (.ref p))=Y:=by
   apply Rk;intro j;by_cases z:j=i
   .subst z;rw[PR (O6.mp k).1,k]
   .rw[Qh (QM z)]
  rw[C] at Q;refine⟨L,nd,?_,b.own,⟨λq w e=>?_,λq r=>?_⟩,b.kp.Au pk,b.lt,b.hd⟩
  .have:=(S.sm (G':=c.g (upd H p u) L) (H':=upd H p u) (by rw[R];exact Sq.refl _) (λq r=>n q (by simp[r]))).app Q;have z:K++(M1++[p]++v)=L:=by rw[D];simp
   rw[z] at this;exact this
  .obtain⟨T,h1,h2⟩:=b.fr.st q w e;by_cases z:q=p
   .subst z;refine⟨u,br,λf=>?_⟩;rcases b.own q X with y|y
    .exact absurd y f
    .rw[y] at e;cases e
   .exact⟨T,by rw[ay z];exact h1,h2⟩
  .obtain⟨h1,⟨ob,vs,h2⟩,h3⟩:=b.fr.pk q r;refine⟨?_,⟨ob,vs,h2⟩,h3⟩;rw[ay λy=>?_]
   .exact h1
   .rw[y,h2] at h1;cases F with
    |lst e _=>rw[e] at h1;cases h1
    |dic e _=>rw[e] at h1;cases h1
    |obj e _ _=>rw[e] at h1;cases h1
    |dit e _=>rw[e] at h1;cases h1
 rcases es with ⟨rfl,rfl⟩|⟨rfl,rfl⟩
 .cases N with
  |lv h=>exact I _ rfl rfl h (λ_ _ h=>.lv h) (λ_ z=>by cases z)
 .cases N with
  |pv h=>exact I _ rfl rfl h (λ_ _ h=>.pv h) (λ_ z=>⟨_,e⟩)
theorem Bd.store{t:Sl}(b:Bd c Y H Z (some v::B) (t::θ))(e:Z[i]?=some s)(N:∀o,s≠.pv o)(j:∀o,t≠.pv o):Bd c (Y.set i (some v)) H (Z.set i t) B θ:=by
 obtain⟨L,nd,rel,own,fr,kp,lt,I⟩:=b;have rel:aw c.toKx (c.g H L) H (some v::(B++Y)) (t::(θ++Z)) L:=rel;cases rel with
 |cons h r=>
  rename_i u L';obtain⟨K,L2,J,k,p⟩:=aw.split (by simpa using lt) r;obtain⟨x,M1,M2,X,C,n,l,ins⟩:=p.at e;subst J l;have sub:∀a,a∈K++(M1++u++X)->a∈u++(K++(M1++M2++X)):=λa ha=>by simp at ha ⊢;rcases ha with z|z|z|z<;>simp[z]
  have sm:Sq (c.g H (u++(K++(M1++M2++X)))) (c.g H (K++(M1++u++X))):=cC sub;have hi:i<Z.length:=(O6.mp e).1;refine⟨K++(M1++u++X),?_,?_,λq A=>own q (sub q A),fr,kp.set (λo z=>?_) hi j,by simpa using lt,I⟩
  .have T:(u++(K++(M1++M2++X))).Perm (M2++(K++(M1++u++X))):=by rw[Sk];intro a;simp only[SU];omega
   exact(Pz.mp ((T.nodup_iff).mp nd)).2.1
  .exact(k.sm sm (λ_ _ _ e=>e)).app (ins sm (λ_ _ _ e=>e) (h.sm sm (λ_ _ _ e=>e)))
  .rw[e] at z;exact N o (Pn z)
end
inductive Rr where
 |rf(i:Nat)|fr(a:A)|nw(o:LO)
noncomputable abbrev Mi(α:Type):=List Sl->Option (Except Str α×List Sl)
noncomputable def aB{α j:Type}(m:Mi α)(f:α->Mi j):Mi j:=λZ=>match m Z with
 |some (.ok x,U)=>f x U
 |some (.error e,U)=>some (.error e,U)
 |none=>none
noncomputable def j3{α:Type}(x:α):Mi α:=λZ=>some (.ok x,Z)
noncomputable def bp:Rr->V->St->St
 | .rf _,_,B=>B
 | .fr _,v,B=>some v::B
 | .nw _,v,B=>some v::B
noncomputable def bh:Rr->List Sl->List Sl
 | .rf _,θ=>θ
 | .fr a,θ=>.fr a::θ
 | .nw o,θ=>.lv o::θ
def VR(Y:St):Rr->V->Prop
 | .rf i,v=>Y[i]?=some (some v)
 |_,_=>True
noncomputable def res(Z:List Sl):Rr->Option A
 | .rf i=>match Z[i]? with
  |some s=>s.a
  |none=>none
 | .fr a=>some a
 | .nw o=>some o.a
def Mu(K:Kx)(E:XK)(c:Cn)(Y:St)(Z:List Sl)(B:St)(θ:List Sl)(Q:VK):Except Str Rr->Prop
 | .ok r=>∀v H,VR Y r v->Bd c Y H Z (bp r v B) (bh r θ)->Q v H
 | .error x=>∀C H,K.mg x=some (.ref C)->Bd c Y H Z B θ->E (.ref C) none H
inductive i4(K:Kx)(E:XK)(m:Mi Rr)(Y:St)(H:Hp)(Q:VK):Prop
 |mk(c:Cn)(Z:List Sl)(B:St)(θ:List Sl)(o:Except Str Rr)(O:List Sl)(h1:c.toKx=K)(h2:Bd c Y H Z B θ)(h3:m Z=some (o,O))(h4:Mu K E c Y O B θ Q o)
def K0(K:Kx)(E:XK)(c:Cn)(Y:St)(Z:List Sl)(B:St)(θ:List Sl)(Q:Bool->Hp->Prop):Except Str Bool->Prop
 | .ok b=>∀H,Bd c Y H Z B θ->Q b H
 | .error x=>∀C H,K.mg x=some (.ref C)->Bd c Y H Z B θ->E (.ref C) none H
inductive vJ(K:Kx)(E:XK)(m:Mi Bool)(Y:St)(H:Hp)(Q:Bool->Hp->Prop):Prop
 |mk(c:Cn)(Z:List Sl)(B:St)(θ:List Sl)(o:Except Str Bool)(O:List Sl)(h1:c.toKx=K)(h2:Bd c Y H Z B θ)(h3:m Z=some (o,O))(h4:K0 K E c Y O B θ Q o)
def bG:List Rr->List V->St->St
 |r::rs,v::vs,B=>bG rs vs (bp r v B)
 |_,_,B=>B
def bB:List Rr->List Sl->List Sl
 |r::rs,θ=>bB rs (bh r θ)
 |[],θ=>θ
def jd(Y:St):List Rr->List V->Prop
 |[],[]=>True
 |r::rs,v::vs=>VR Y r v/\jd Y rs vs
 |_,_=>False
def Kq(K:Kx)(E:XK)(c:Cn)(Y:St)(Z:List Sl)(B:St)(θ:List Sl)(Q:List V->Hp->Prop):Except Str (List Rr)->Prop
 | .ok rs=>∀vs H,jd Y rs vs->Bd c Y H Z (bG rs vs B) (bB rs θ)->Q vs H
 | .error x=>∀C H,K.mg x=some (.ref C)->Bd c Y H Z B θ->E (.ref C) none H
inductive My(K:Kx)(E:XK)(m:Mi (List Rr))(Y:St)(H:Hp)(Q:List V->Hp->Prop):Prop
 |mk(c:Cn)(Z:List Sl)(B:St)(θ:List Sl)(o:Except Str (List Rr))(O:List Sl)(h1:c.toKx=K)(h2:Bd c Y H Z B θ)(h3:m Z=some (o,O))(h4:Kq K E c Y O B θ Q o)
noncomputable abbrev kx(X:Cx):Kx:=⟨X.K,X.mg,X.prog,X.w⟩
structure JE(X:Cx)(E:XK)(e:Expr)(m:Mi Rr):Prop where
 p:PE X e (i4 (kx X) E m)
structure JT(X:Cx)(E:XK)(e:Expr)(m:Mi Bool):Prop where
 p:PT X e (vJ (kx X) E m)
structure JW(X:Cx)(E:XK)(e:Expr)(m:Mi Bool):Prop where
 p:PW X e (vJ (kx X) E m)
structure JA(X:Cx)(E:XK)(es:List Expr)(m:Mi (List Rr)):Prop where
 p:PA X es (My (kx X) E m)
variable{X:Cx}{e:Expr}
theorem PE.weaken{t t':TE}(h:PE X e t)(f:∀Y H Q,t' Y H Q->t Y H Q):PE X e t':=λpins s Y H Q I q=>h pins s Y H Q I (f Y H Q q)
variable{t':TT}
theorem PT.weaken{t:TT}(h:PT X e t)(f:∀Y H Q,t' Y H Q->t Y H Q):PT X e t':=λpins s Y H Q I q=>h pins s Y H Q I (f Y H Q q)
theorem PW.weaken{t:TT}(h:PW X e t)(f:∀Y H Q,t' Y H Q->t Y H Q):PW X e t':=λr pins s Y H Q I q=>h r pins s Y H Q I (f Y H Q q)
theorem PA.weaken{e:List Expr}{t t':TA}(h:PA X e t)(f:∀Y H Q,t' Y H Q->t Y H Q):PA X e t':=λpos pins s Y H Q I q=>h pos pins s Y H Q I (f Y H Q q)
section
variable{c:Cn}{Y:St}{H:Hp}{Z:List Sl}{B:St}{θ:List Sl}
theorem Bd.drop{r:Rr}(b:Bd c Y H Z (bp r v B) (bh r θ)):Bd c Y H Z B θ:=by
 cases r with
 |rf i=>exact b
 |fr a=>exact Bd.pop b
 |nw o=>exact Bd.pop b
theorem Bd.drops:∀{rs:List Rr}{vs:List V}{B:St}{θ:List Sl},rs.length=vs.length->Bd c Y H Z (bG rs vs B) (bB rs θ)->Bd c Y H Z B θ
 |[],[],_,_,_,b=>b
 |r::rs,v::vs,_,_,e,b=>Bd.drop (r:=r) (v:=v) (Bd.drops (by simpa using e) b)
 |[],_::_,_,_,e,_=>by simp at e
 |_::_,[],_,_,e,_=>by simp at e
theorem Bd.top{a:A}(b:Bd c Y H Z (some v::B) (s::θ))(e:s.a=some a):RA c.toKx H v a:=by
 obtain⟨L,nd,rel,_⟩:=b;have rel:aw c.toKx (c.g H L) H (some v::(B++Y)) (s::(θ++Z)) L:=rel;cases rel with
 |cons h r=>obtain⟨u,z,q⟩:=h.read (g_same _ _ _) e;cases z;exact q
theorem Bd.rd{r:Rr}{a:A}(b:Bd c Y H Z (bp r v B) (bh r θ))(q:VR Y r v)(e:res Z r=some a):RA c.toKx H v a:=by
 cases r with
 |rf i=>
  unfold res at e;cases es:Z[i]? with
  |none=>simp only[es] at e;cases e
  |some s=>simp only[es] at e;obtain⟨u,h1,h2⟩:=Bd.slot b es e;have q:Y[i]?=some (some v):=q;rw[q] at h1;cases h1;exact h2
 |fr a'=>cases e;exact Bd.top b rfl
 |nw o=>cases e;exact Bd.top b rfl
theorem gv.items{k:Kx}{x:Option V}(h:gv k G H x s L)(sm:Sq G H):
  (∀as,s.a=some (.lst as)->∃p vs,x=some (.ref p)/\eX k.K H p vs/\bf k G vs as)/\(∀as,s.a=some (.tup as)->∃p vs,x=some (.ref p)/\dz k.K G p vs/\bf k G vs as) /\
  (∀as,s.a=some (.dic as)->∃p vs,x=some (.ref p)/\Rd H p (.dK vs)/\fw k G vs as):=by
 have lo:∀p o,LR k G H p o->(∀as,o.a=A.lst as->∃vs,eX k.K H p vs/\bf k G vs as)/\(∀as,o.a≠A.tup as)/\(∀as,o.a=A.dic as->∃vs,Rd H p (.dK vs)/\fw k G vs as):=by
  intro p o h;cases h with
  |lst e r=>exact⟨λas z=>by cases z;exact⟨_,.inl (.inl e),r⟩,λas z=>(by cases z),λas z=>(by cases z)⟩
  |dic e r=>exact⟨λas z=>(by cases z),λas z=>(by cases z),λas z=>by cases z;exact⟨_,.inl e,r⟩⟩
  |obj e m r=>exact⟨λas z=>(by cases z),λas z=>(by cases z),λas z=>(by cases z)⟩
  |dit e r=>exact⟨λas z=>(by cases z),λas z=>(by cases z),λas z=>(by cases z)⟩
 cases h with
 |un=>exact⟨λ_ z=>(by cases z),λ_ z=>(by cases z),λ_ z=>(by cases z)⟩
 |fr h=>
  refine⟨λas z=>?_,λas z=>?_,λas z=>?_⟩
  .cases z;cases h with|lst e r=>exact⟨_,_,rfl,kG sm e,r⟩
  .cases z;cases h with|tup e r=>exact⟨_,_,rfl,e,r⟩
  .cases z;cases h with|dic e r=>exact⟨_,_,rfl,sm.NY e,r⟩
 |lv h=>
  rename_i p o;obtain⟨Y,R,b⟩:=lo p o h;refine⟨λas z=>?_,λas z=>absurd (Pn z) (R as),λas z=>?_⟩
  .obtain⟨vs,h1,h2⟩:=Y as (Pn z);exact⟨p,vs,rfl,h1,h2⟩
  .obtain⟨vs,h1,h2⟩:=b as (Pn z);exact⟨p,vs,rfl,h1,h2⟩
 |pv h=>
  rename_i p o;obtain⟨Y,R,b⟩:=lo p o h;refine⟨λas z=>?_,λas z=>absurd (Pn z) (R as),λas z=>?_⟩
  .obtain⟨vs,h1,h2⟩:=Y as (Pn z);exact⟨p,vs,rfl,h1,h2⟩
  .obtain⟨vs,h1,h2⟩:=b as (Pn z);exact⟨p,vs,rfl,h1,h2⟩
def vH(c:Cn)(H:Hp)(L:List Addr)(v:V)(a:A):Prop:=
  (∀as,a=.lst as->∃p vs,v=.ref p/\eX c.K H p vs/\bf c.toKx (c.g H L) vs as)/\(∀as,a=.tup as->∃p vs,v=.ref p/\dz c.K (c.g H L) p vs/\bf c.toKx (c.g H L) vs as) /\
  (∀as,a=.dic as->∃p vs,v=.ref p/\Rd H p (.dK vs)/\fw c.toKx (c.g H L) vs as)
theorem vH.mono{a:A}(h:vH c H L v a)(s:∀a,a∈L'->a∈L):vH c H L' v a:=by
 obtain⟨h1,h2,h3⟩:=h;refine⟨λas e=>?_,λas e=>?_,λas e=>?_⟩
 .obtain⟨p,vs,n,q,Y⟩:=h1 as e;exact⟨p,vs,n,q,Y.sm (cC s)⟩
 .obtain⟨p,vs,n,q,Y⟩:=h2 as e;exact⟨p,vs,n,cu (cC s) q,Y.sm (cC s)⟩
 .obtain⟨p,vs,n,q,Y⟩:=h3 as e;exact⟨p,vs,n,q,Y.sm (cC s)⟩
theorem vH.of{L2:List Addr}{x:Option V}{a:A}(ex:x=some v)(h:gv c.toKx (c.g H L) H x s L2)(ea:s.a=some a):vH c H L v a:=by
 subst ex;obtain⟨G,o,b⟩:=h.items (g_same _ _ _);refine⟨λas z=>?_,λas z=>?_,λas z=>?_⟩<;>subst z
 .obtain⟨p,vs,q,h1,h2⟩:=G as ea;exact⟨p,vs,Pn q,h1,h2⟩
 .obtain⟨p,vs,q,h1,h2⟩:=o as ea;exact⟨p,vs,Pn q,h1,h2⟩
 .obtain⟨p,vs,q,h1,h2⟩:=b as ea;exact⟨p,vs,Pn q,h1,h2⟩
theorem eE.open{r:Rr}{a:A}{u:List Addr}(b:eE c Y H Z (bp r v B) (bh r θ) u)(z:VR Y r v)(e:res Z r=some a):∃L,(∀a,a∈L->a∈u)/\eE c Y H Z B θ L/\vH c H L v a:=by
 have q:∀s,eE c Y H Z (some v::B) (s::θ) u->s.a=some a->∃L,(∀a,a∈L->a∈u)/\eE c Y H Z B θ L/\vH c H L v a:=by
  intro s b ea;obtain⟨nd,rel,own,fr,kp,lt,I⟩:=b;have rel:aw c.toKx (c.g H u) H (some v::(B++Y)) (s::(θ++Z)) u:=rel;cases rel with
  |cons h r=>rename_i K L2;have sm:Sq (c.g H (K++L2)) (c.g H L2):=cC λa ha=>Pb _ ha;exact⟨L2,λa ha=>Pb _ ha,⟨(Pz.mp nd).2.1,r.sm sm (λ_ _ _ e=>e),λp hp=>own p (Pb _ hp),fr,kp,by simpa using lt,I⟩,vH.of rfl (h.sm sm (λ_ _ _ e=>e)) ea⟩
 cases r with
 |rf i=>
  unfold res at e;cases es:Z[i]? with
  |none=>simp only[es] at e;cases e
  |some s=>simp only[es] at e;obtain⟨K,L2,J,w,D⟩:=aw.split b.lt b.rel;obtain⟨x,_,_,_,k,N,_⟩:=D.at es;have z:Y[i]?=some (some v):=z;rw[z] at k;exact⟨u,λ_ h=>h,b,vH.of (Pn k).symm N e⟩
 |fr a'=>exact q _ b e
 |nw o=>exact q _ b e
theorem Bd.open{r:Rr}{v:V}{a:A}(b:Bd c Y H Z (bp r v B) (bh r θ))(q:VR Y r v)(e:res Z r=some a):∃L,eE c Y H Z B θ L/\vH c H L v a:=by obtain⟨L,b⟩:=b;obtain⟨L',_,h⟩:=b.open q e;exact⟨L',h⟩
theorem Bd.qA{r w:Rr}{x:V}{a a':A}(b:Bd c Y H Z (bp w x (bp r v B)) (bh w (bh r θ)))(q:VR Y r v)(u:VR Y w x)(e:res Z r=some a)(e':res Z w=some a'):∃L,eE c Y H Z B θ L/\vH c H L v a/\vH c H L x a':=by obtain⟨L,b⟩:=b;obtain⟨K,s1,b1,o⟩:=b.open u e';obtain⟨L2,s2,b2,h⟩:=b1.open q e;exact⟨L2,b2,h,o.mono s2⟩
end
variable{x:Str}{pos:Pos}{α j:Type}{O:List Sl}{ma mb m:Mi Rr}{Q:VK}{r:R2}{b:Expr}{op:CmpOp}{es:List Expr}
section
variable{X:Cx}{E:XK}
noncomputable def ae(i:Nat):Mi Rr:=λZ=>match Z[i]? with
 |some (.fr a)=>some (.ok (.fr a),Z)
 |some (.lv _)=>some (.ok (.rf i),Z)
 |some (.pv _)=>some (.ok (.rf i),Z)
 |_=>none
noncomputable def aR(i:Nat):Mi Rr:=λZ=>match Z[i]? with
 |some (.fr a)=>some (.ok (.fr a),Z)
 |some (.lv o)=>some (.ok (.fr o.a),Z.set i (.fr o.a))
 |_=>none
noncomputable def mC(a:A):Mi Rr:=λZ=>some (.ok (.fr a),Z)
theorem FK(z:X.N[i]?=some x)(u:qy X.env.scope x)(hd:eG x)(C:t9 x):JE X E (.Name x pos) (ae i):=
 ⟨PE.weaken (dq z u hd C) λY H Q h=>by
  obtain⟨c,Z,B,θ,o,O,G,b,em,q⟩:=h;unfold ae at em;cases es:Z[i]? with
  |none=>simp only[es] at em;cases em
  |some s=>
   cases s with
   |un=>simp only[es] at em;cases em
   |fr a=>simp only[es] at em;cases em;obtain⟨v,h1,h2⟩:=b.load es;exact⟨v,h1,q v H trivial h2⟩
   |lv o=>simp only[es] at em;cases em;obtain⟨v,h1,h2⟩:=b.slot es rfl;exact⟨v,h1,q v H h1 b⟩
   | pv o=>simp only[es] at em;cases em;obtain⟨v,h1,h2⟩:=b.slot es rfl;exact⟨v,h1,q v H h1 b⟩⟩
theorem CC(z:X.N[i]?=some x)(u:qy X.env.scope x)(hd:eG x)(C:t9 x):JE X E (.Name x pos) (aR i):=
 ⟨PE.weaken (dq z u hd C) λY H Q h=>by
  obtain⟨c,Z,B,θ,o,O,G,b,em,q⟩:=h;unfold aR at em;cases es:Z[i]? with
  |none=>simp only[es] at em;cases em
  |some s=>
   cases s with
   |un=>simp only[es] at em;cases em
   |fr a=>simp only[es] at em;cases em;obtain⟨v,h1,h2⟩:=b.load es;exact⟨v,h1,q v H trivial h2⟩
   |lv o=>simp only[es] at em;cases em;have b2:=b.tX es;have hi:i<Z.length:=(O6.mp es).1;obtain⟨v,h1,h2⟩:=b2.load (i:=i) (a:=o.a) (PR hi);exact⟨v,h1,q v H trivial h2⟩
   | pv o=>simp only[es] at em;cases em⟩
theorem zC{a:A}(h:PE X e (tC v))(r:∀G,RA (kx X) G v a):JE X E e (mC a):=⟨PE.weaken h λY H Q h=>by obtain⟨c,Z,B,θ,o,O,x,b,em,q⟩:=h;cases em;exact q v H trivial (b.push (by rw[x];exact r))⟩
theorem HA{i j pos}:JE X E (.Constant (.int i) j pos) (mC (.int i)):=zC GG λ_=>.int _
theorem LD{b j pos}:JE X E (.Constant (.bool b) j pos) (mC (.bl b)):=zC IX λ_=>.bl _
theorem E3{j pos}:JE X E (.Constant .none j pos) (mC .non):=zC ES λ_=>.non
theorem Fu{x j pos}:JE X E (.Constant (.str x) j pos) (mC (.str x)):=zC GL λ_=>.str _
theorem B1{u:Value}{a:A}(Q:Gl X x)(hm:X.mg x=some u)(r:RelV v u)(H:∀G,RA (kx X) G v a)(hd:eG x):JE X E (.Name x pos) (mC a):=zC (Cp Q hm r hd) H
def av(f:A->A->Option Rr)(ma mb:Mi Rr):Mi Rr:=aB ma λx=>aB mb λy=>λZ=>match res Z x,res Z y with
 |some a,some b=>match f a b with
  |some r=>some (.ok r,Z)
  |none=>none
 |_,_=>none
def eB(K:Kx)(r:R2)(f:A->A->Option Rr):Prop:=∀(c:Cn)(Y:St)(H:Hp)(Z:List Sl)(B:St)(θ:List Sl)(x y:Rr)(v w:V)(a b:A)(q:Rr)(Q:VK),c.toKx=K->VR Y x v->VR Y y w->
 Bd c Y H Z (bp y w (bp x v B)) (bh y (bh x θ))->res Z x=some a->res Z y=some b->f a b=some q->(∀u H',VR Y q u->Bd c Y H' Z (bp q u B) (bh q θ)->Q u H')->r v w H Q
theorem bind_some{m:Mi α}{f:α->Mi j}{o:Except Str j}(h:aB m f Z=some (o,O)):(∃x U,m Z=some (.ok x,U)/\f x U=some (o,O))\/∃e,m Z=some (.error e,O)/\o=.error e:=by
 unfold aB at h;cases e:m Z with
 |none=>simp only[e] at h;cases h
 |some p=>
  obtain⟨r,U⟩:=p;cases r with
  |ok x=>simp only[e] at h;exact .inl ⟨x,U,rfl,h⟩
  |error x=>simp only[e] at h;cases h;exact .inr ⟨x,rfl,rfl⟩
theorem aJ{f:Rr->Mi j}{o:Except Str j}(G:c.toKx=kx X)(b:Bd c Y H Z B θ)(em:aB ma f Z=some (o,O))
  (h1:∀x v U i,VR Y x v->Bd c Y i U (bp x v B) (bh x θ)->f x U=some (o,O)->Q v i)
  (h2:∀e,o=.error e->∀C H,X.mg e=some (.ref C)->Bd c Y H O B θ->E (.ref C) none H):i4 (kx X) E ma Y H Q:=by
 rcases bind_some em with ⟨x,U,J,l⟩|⟨e,J,l⟩
 .exact⟨c,Z,B,θ,_,U,G,b,J,λv i q b1=>h1 x v U i q b1 l⟩
 .exact⟨c,Z,B,θ,_,O,G,b,J,λC i hm b1=>h2 e l C i hm b1⟩
theorem cM{x:Rr}{o:Except Str j}(h:∀e,o=.error e->∀C H,X.mg e=some (.ref C)->Bd c Y H O B θ->E (.ref C) none H):
  ∀e,o=.error e->∀C H,X.mg e=some (.ref C)->Bd c Y H O (bp x v B) (bh x θ)->E (.ref C) none H:=λe Z C H hm b=>h e Z C H hm b.drop
theorem aH{o:Except Str Rr}(q:Mu (kx X) E c Y O B θ Q o):∀e,o=.error e->∀C H,X.mg e=some (.ref C)->Bd c Y H O B θ->E (.ref C) none H:=λe Z=>by subst Z;exact q
theorem hW{o:Except Str Bool}{Q:Bool->Hp->Prop}(q:K0 (kx X) E c Y O B θ Q o):∀e,o=.error e->∀C H,X.mg e=some (.ref C)->Bd c Y H O B θ->E (.ref C) none H:=λe Z=>by subst Z;exact q
theorem xJ{o:Except Str (List Rr)}{Q:List V->Hp->Prop}(q:Kq (kx X) E c Y O B θ Q o):∀e,o=.error e->∀C H,X.mg e=some (.ref C)->Bd c Y H O B θ->E (.ref C) none H:=λe Z=>by subst Z;exact q
theorem ui{f:A->A->Option Rr}{x y:Rr}{o:Except Str Rr}(h:(match res Z x,res Z y with|some a,some b=>(match f a b with|some r=>some ((.ok r:Except Str Rr),Z)|none=>none)|_,_=>none)=some (o,O)):
  ∃a b r,res Z x=some a/\res Z y=some b/\f a b=some r/\o=.ok r/\O=Z:=by
 cases J:res Z x with
 |none=>simp only[J] at h;cases h
 |some a=>
  cases l:res Z y with
  |none=>simp only[J,l] at h;cases h
  |some b=>
   simp only[J,l] at h;cases T:f a b with
   |none=>simp only[T] at h;cases h
   |some r=>simp only[T] at h;cases h;exact⟨a,b,r,rfl,rfl,T,rfl,rfl⟩
theorem cI{f:A->A->Option Rr}(hf:eB (kx X) r f)(Y:St)(H:Hp)(Q:VK)(h:i4 (kx X) E (av f ma mb) Y H Q):Ln r (i4 (kx X) E ma) (i4 (kx X) E mb) Y H Q:=by obtain⟨c,Z,B,θ,o,O,G,b,em,q⟩:=h;refine aJ G b em (λx v U i u b1 s=>?_) (aH q);refine aJ G b1 s (λy w Z0 D F b2 e=>?_) (cM (aH q));obtain⟨a,d,r,J,l,T,rfl,rfl⟩:=ui e;exact hf c Y D _ B θ x y v w a d r Q G u F b2 J l T q
theorem mR{op:Operator}{f:A->A->Option Rr}{a:Expr}(ho:cP X (binaryOp op) r)(hf:eB (kx X) r f)(ha:JE X E a ma)(d:JE X E b mb):JE X E (.BinOp a op b pos) (av f ma mb):=
 ⟨PE.weaken (J1 ho ha.p d.p) (cI hf)⟩
theorem cq{f:A->A->Option Rr}{a:Expr}(ho:cP X (compareOp op) r)(hf:eB (kx X) r f)(ha:JE X E a ma)(d:JE X E b mb)(hm:behindInMarks op b=false):JE X E (.Compare a [op] [b] pos) (av f ma mb):=
 ⟨PE.weaken (Dd ho ha.p d.p hm) (cI hf)⟩
noncomputable def OW:Rr->Option Bool
 | .fr (.bl b)=>some b
 |_=>none
def aq(m:Mi Rr):Mi Bool:=aB m λr Z=>match OW r with
 |some b=>some (.ok b,Z)
 |none=>none
theorem c8(Y:St)(H:Hp)(Q:Bool->Hp->Prop)(h:vJ (kx X) E (aq m) Y H Q):i4 (kx X) E m Y H λx H'=>∃k,x=.bl k/\Q k H':=by
 obtain⟨c,Z,B,θ,o,O,G,b,em,q⟩:=h;refine aJ G b em (λx v U u z b1 s=>?_) (hW q);cases x with
 |rf i=>cases s
 |nw o=>cases s
 |fr a=>
  cases a with
  |bl k=>cases s;have r:=Bd.top b1 (a:=.bl k) rfl;cases r;exact⟨k,rfl,q u b1.pop⟩
  |_=>cases s
theorem ck{f:A->A->Option Rr}{a:Expr}(ho:cP X (compareOp op) r)(hf:eB (kx X) r f)(ha:JE X E a ma)(d:JE X E b mb)(hm:behindInMarks op b=false):JT X E (.Compare a [op] [b] pos) (aq (av f ma mb)):=
 ⟨PT.weaken (CY ho ha.p d.p hm) λY H Q h=>cI hf Y H _ (c8 Y H Q h)⟩
theorem Gg(h:JE X E e m)(he:∀whole,isTrue e X.env whole=(do let v <- whole;standAt e.pos;holding [v] (truthy v)):=by intro _;rfl):JT X E e (aq m):=
 ⟨PT.weaken (Ha h.p he) λY H Q h=>c8 Y H Q h⟩
def qc(m n:Mi Bool):Mi Bool:=aB m λb=>if b then n else j3 false
def Aj(m n:Mi Bool):Mi Bool:=aB m λb=>if b then j3 true else n
def nM(m:Mi Bool):Mi Bool:=aB m λb=>j3 (!b)
theorem jQ{m:Mi Bool}{f:Bool->Mi j}{o:Except Str j}{Q:Bool->Hp->Prop}(G:c.toKx=kx X)(b:Bd c Y H Z B θ)(em:aB m f Z=some (o,O))
  (h1:∀k U i,Bd c Y i U B θ->f k U=some (o,O)->Q k i)
  (h2:∀e,o=.error e->∀C H,X.mg e=some (.ref C)->Bd c Y H O B θ->E (.ref C) none H):vJ (kx X) E m Y H Q:=by
 rcases bind_some em with ⟨x,U,J,l⟩|⟨e,J,l⟩
 .exact⟨c,Z,B,θ,_,U,G,b,J,λi b1=>h1 x U i b1 l⟩
 .exact⟨c,Z,B,θ,_,O,G,b,J,λC i hm b1=>h2 e l C i hm b1⟩
theorem Gy{a:Expr}{m:Mi Bool}(h:JT X E a m):JT X E (.UnaryOp .Not a pos) (nM m):=⟨PT.weaken (FL h.p) λY H Q h=>by obtain⟨c,Z,B,θ,o,O,G,b,em,q⟩:=h;refine jQ G b em (λk U i b1 s=>?_) (hW q);cases s;exact q i b1⟩
theorem BL{a:Expr}{m:Mi Bool}(h:JT X E a m):JW X E (.BoolOp .And [a] pos) m:=⟨Az h.p⟩
theorem GR{a:Expr}{m:Mi Bool}(h:JT X E a m):JW X E (.BoolOp .Or [a] pos) m:=⟨Ey h.p⟩
theorem EG{a:Expr}{rest:List Expr}{m n:Mi Bool}(h:JT X E a m)(h':JW X E (.BoolOp .And (b::rest) pos) n):JW X E (.BoolOp .And (a::b::rest) pos) (qc m n):=⟨PW.weaken (EL h.p h'.p) λY H Q h=>by
 obtain⟨c,Z,B,θ,o,O,G,b,em,q⟩:=h;refine jQ G b em (λk U i b1 s=>?_) (hW q);cases k with
 |true=>rw[if_pos rfl];exact⟨c,U,B,θ,o,O,G,b1,s,q⟩
 | false=>rw[if_neg (by decide)];cases s;exact q i b1⟩
theorem JY{a:Expr}{rest:List Expr}{m n:Mi Bool}(h:JT X E a m)(h':JW X E (.BoolOp .Or (b::rest) pos) n):JW X E (.BoolOp .Or (a::b::rest) pos) (Aj m n):=⟨PW.weaken (JB h.p h'.p) λY H Q h=>by
 obtain⟨c,Z,B,θ,o,O,G,b,em,q⟩:=h;refine jQ G b em (λk U i b1 s=>?_) (hW q);cases k with
 |true=>rw[if_pos rfl];cases s;exact q i b1
 | false=>rw[if_neg (by decide)];exact⟨c,U,B,θ,o,O,G,b1,s,q⟩⟩
theorem Jg{m:Mi Bool}(h:JW X E e m):JT X E e m:=⟨h.p.pt⟩
def kj(m n:Mi Rr):Mi Rr:=aB (aq m) λb=>if b then n else mC (.bl false)
def JM(m n:Mi Rr):Mi Rr:=aB (aq m) λb=>if b then mC (.bl true) else n
def xY(m:Mi Rr):Mi Rr:=aB (aq m) λb=>mC (.bl (!b))
theorem nD{f:Bool->Mi j}{o:Except Str j}{Q:Bool->Hp->Prop}(G:c.toKx=kx X)(b:Bd c Y H Z B θ)(em:aB (aq m) f Z=some (o,O))
  (h1:∀k U i,Bd c Y i U B θ->f k U=some (o,O)->Q k i)
  (h2:∀e,o=.error e->∀C H,X.mg e=some (.ref C)->Bd c Y H O B θ->E (.ref C) none H):i4 (kx X) E m Y H λx H'=>∃k,x=.bl k/\Q k H':=
 c8 Y H Q (jQ G b em h1 h2)
theorem GA{op}{a:Expr}(h:JE X E a m):JE X E (.BoolOp op [a] pos) m:=⟨Gx h.p⟩
theorem GW{a:Expr}{rest:List Expr}{n:Mi Rr}(h:JE X E a m)(h':JE X E (.BoolOp .And (b::rest) pos) n):JE X E (.BoolOp .And (a::b::rest) pos) (kj m n):=⟨PE.weaken (FH h.p h'.p) λY H Q h=>by
 obtain⟨c,Z,B,θ,o,O,G,b,em,q⟩:=h;refine nD (Q:=λk i=>if k=true then i4 (kx X) E n Y i Q else Q (.bl false) i) G b em (λk U i b1 s=>?_) (aH q);cases k with
 |true=>rw[if_pos rfl];exact⟨c,U,B,θ,o,O,G,b1,s,q⟩
 | false=>rw[if_neg (by decide)];cases s;exact q (.bl false) i trivial (b1.push λ_=>.bl _)⟩
theorem KA{a:Expr}{rest:List Expr}{n:Mi Rr}(h:JE X E a m)(h':JE X E (.BoolOp .Or (b::rest) pos) n):JE X E (.BoolOp .Or (a::b::rest) pos) (JM m n):=⟨PE.weaken (Je h.p h'.p) λY H Q h=>by
 obtain⟨c,Z,B,θ,o,O,G,b,em,q⟩:=h;refine nD (Q:=λk i=>if k=true then Q (.bl true) i else i4 (kx X) E n Y i Q) G b em (λk U i b1 s=>?_) (aH q);cases k with
 |true=>rw[if_pos rfl];cases s;exact q (.bl true) i trivial (b1.push λ_=>.bl _)
 | false=>rw[if_neg (by decide)];exact⟨c,U,B,θ,o,O,G,b1,s,q⟩⟩
theorem FG{a:Expr}(h:JE X E a m):JE X E (.UnaryOp .Not a pos) (xY m):=⟨PE.weaken (HW h.p) λY H Q h=>by obtain⟨c,Z,B,θ,o,O,G,b,em,q⟩:=h;refine nD (Q:=λk i=>Q (.bl (!k)) i) G b em (λk U i b1 s=>?_) (aH q);cases s;exact q (.bl (!k)) i trivial (b1.push λ_=>.bl _)⟩
def fk:Mi (List Rr):=j3 []
def cz(m:Mi Rr)(n:Mi (List Rr)):Mi (List Rr):=aB m λr=>aB n λrs=>j3 (r::rs)
theorem rC:JA X E [] fk:=⟨PA.weaken cS λY H Q h=>by obtain⟨c,Z,B,θ,o,O,G,b,em,q⟩:=h;cases em;exact q [] H trivial b⟩
theorem oB{n:Mi (List Rr)}(h:JE X E e m)(h':JA X E es n)(hs:starEach (e::es) X.env=(false,eval e X.env)::starEach es X.env:=by rfl):JA X E (e::es) (cz m n):=⟨PA.weaken (bA h.p h'.p hs) λY H Q h=>by
 obtain⟨c,Z,B,θ,o,O,ek,b,em,q⟩:=h;refine aJ ek b em (λx v U H1 hv b1 em1=>?_) (xJ q);rcases bind_some em1 with ⟨rs,Z0,e1,e2⟩|⟨e,e1,e2⟩
 .cases e2;exact⟨c,U,_,_,_,O,ek,b1,e1,λvs H2 hvs b2=>q (v::vs) H2 ⟨hv,hvs⟩ b2⟩
 .subst e2;exact⟨c,U,_,_,_,O,ek,b1,e1,λC H2 hm b2=>q C H2 hm b2.drop⟩⟩
end
variable{xs:St}{ss:List Sl}{rs:List Rr}
section
variable{c:Cn}{Y:St}{H:Hp}{Z:List Sl}{B:St}{θ:List Sl}
theorem xi{l:List α}{x:α}(h:l[i]?=some x):l.set i x=l:=by
 apply Rk;intro j;by_cases z:j=i
 .subst z;rw[PR (O6.mp h).1,h]
 .rw[Qh (QM z)]
theorem Jt(h:∀a,a∈L↔a∈L'):c.g H L=c.g H L':=by
 funext a
 by_cases z:a∈L\/a∈c.Hd
 .rw[rl z,rl (by rwa[<-h a])]
 .rw[cy (λy=>z (.inl y)) (λy=>z (.inr y)),cy (λy=>z (.inl ((h a).mpr y))) (λy=>z (.inr y))]
theorem eE.perm(b:eE c Y H Z B θ L){J:St}{T:List Sl}(pm:L'.Perm L)(lt:J.length=T.length)(r:aw c.toKx (c.g H L) H (J++Y) (T++O) L')(kp:dW c.σ0 Y O):eE c Y H O J T L':=
 ⟨(pm.nodup_iff).mpr b.nd,by rw[Jt (L':=L) λa=>pm.mem_iff];exact r,λp hp=>b.own p (pm.mem_iff.mp hp),b.fr,kp,lt,b.hd⟩
theorem Bd.JU(e:xs.length=ss.length)(b:Bd c Y H Z (xs++some v::B) (ss++.lv o::θ)):Bd c Y H Z (xs++some v::B) (ss++.fr o.a::θ):=by
 obtain⟨L,b⟩:=b;have r:aw c.toKx (c.g H L) H (xs++(some v::(B++Y))) (ss++(.lv o::(θ++Z))) L:=by have:=b.rel;simpa[O7] using this
 obtain⟨K,L2,J,k,D⟩:=aw.split e r;cases D with
 |cons h Q=>
  rename_i I x;cases h with
  |lv h=>
   rename_i p;have nd:=b.nd;rw[J] at nd;have hp:p∉K++x:=by
    obtain⟨S,U,P⟩:=Pz.mp nd;obtain⟨R,V⟩:=PM.mp U;intro z;rcases Pe.mp z with z|z
    .exact P p z p (by simp) rfl
    .exact R z
   have sub:∀a,a∈K++x->a∈L:=λa ha=>by rw[J];simp at ha ⊢;rcases ha with z|z<;>simp[z]
   have sm:Sq (c.g H L) (c.g H (K++x)):=cC sub;have X:p∈L:=by rw[J];simp
   refine⟨K++x,?_,?_,λq A=>b.own q (sub q A),b.fr,b.kp,by have:=b.lt;simp at this ⊢;omega,b.hd⟩
   .obtain⟨S,U,P⟩:=Pz.mp nd;exact Pz.mpr ⟨S,(PM.mp U).2,λa ha y d=>P a ha y (Pa _ d)⟩
   .have:=(k.sm sm (λ_ _ _ e=>e)).app (aw.cons (L:=[]) (.fr (h.a' sm λu e=>by rw[cy hp (b.MW X)];exact e)) (Q.sm sm (λ_ _ _ e=>e)));simpa[O7] using this
theorem Bd.Bm{a:A}(e:xs.length=ss.length)(b:Bd c Y H Z (xs++B) (ss++θ))(q:Y[i]?=some (some v))(N:Z[i]?=some (.fr a)):Bd c Y H Z (xs++some v::B) (ss++.fr a::θ):=by
 obtain⟨L,b⟩:=b;obtain⟨M1,M2,_,_,p⟩:=aw.split b.lt b.rel;obtain⟨x,_,_,_,k,X,_⟩:=p.at N;rw[q] at k;cases k;cases X with
 |fr h=>
  have r:aw c.toKx (c.g H L) H (xs++(B++Y)) (ss++(θ++Z)) L:=by have:=b.rel;simpa[O7] using this
  obtain⟨K,L2,J,w,p⟩:=aw.split e r;refine⟨L,b.nd,?_,b.own,b.fr,b.kp,by have:=b.lt;simp at this ⊢;omega,b.hd⟩;have:=w.app (aw.cons (L:=[]) (.fr h) p);rw[J] at this ⊢;simpa[O7] using this
theorem yb(K L2 M1 X:List Addr)(p:Addr):(K++p::(L2++(M1++X))).Perm (K++(L2++(M1++p::X))):=by rw[Sk];intro a;simp only[SU,Vr];omega
theorem Bd.zp(e:xs.length=ss.length)(b:Bd c Y H Z (xs++B) (ss++θ))(q:Y[i]?=some (some v))(N:Z[i]?=some s)(hk:s=.lv o\/s=.pv o):
  Bd c Y H (Z.set i .un) (xs++some v::B) (ss++.lv o::θ):=by
 obtain⟨L,b⟩:=b;have r:aw c.toKx (c.g H L) H (xs++(B++Y)) (ss++(θ++Z)) L:=by have:=b.rel;simpa[O7] using this
 obtain⟨K,L2,J,w,D⟩:=aw.split e r;obtain⟨n,u,l,Q,O⟩:=aw.split (by have:=b.lt;simp at this;omega) D;obtain⟨x,M1,M2,F,k,X,T,ins⟩:=O.at N;rw[q] at k;cases k;have fin:∀p,v=.ref p->M2=[p]->LR c.toKx (c.g H L) H p o->Bd c Y H (Z.set i .un) (xs++some v::B) (ss++.lv o::θ):=by
  intro p S em h;subst S em;have I:=ins (y:=some (.ref p)) (t:=.un) (L':=[]) (Sq.refl _) (λ_ _ _ e=>e) (.un _);rw[xi q] at I;have V:=w.app (aw.cons (gv.lv h) (Q.app I));have pm:(K++([p]++(n++(M1++[]++F)))).Perm L:=by rw[J,l,T];simpa using yb K n M1 F p
  exact⟨_,b.perm pm (by have:=b.lt;simp at this ⊢;omega) (by simpa[O7] using V) (b.kp.Au (λo z=>by cases z))⟩
 rcases hk with rfl|rfl
 .cases X with|lv h=>exact fin _ rfl rfl h
 .cases X with|pv h=>exact fin _ rfl rfl h
theorem Bd.putBack{t:Sl}(b:Bd c Y H Z (some v::B) (.lv o::θ))(u:Y[i]?=some (some v))(N:Z[i]?=some .un)(hk:t=.lv o\/(t=.pv o/\Y[i]?=c.σ0[i]?)):Bd c Y H (Z.set i t) B θ:=by
 obtain⟨L,b⟩:=b;have r:aw c.toKx (c.g H L) H (some v::(B++Y)) (.lv o::(θ++Z)) L:=b.rel;cases r with
 |cons h r=>
  rename_i y L';obtain⟨K,L2,J,k,D⟩:=aw.split (by have:=b.lt;simpa using this) r;obtain⟨x,M1,M2,F,C,X,T,ins⟩:=D.at N;cases X with
  |un=>
   cases h with
   |lv h=>
    rename_i p;have fin:gv c.toKx (c.g H ([p]++L')) H (some (.ref p)) t [p]->dW c.σ0 Y (Z.set i t)->Bd c Y H (Z.set i t) B θ:=λh kp=>by
     have I:=ins (Sq.refl _) (λ_ _ _ e=>e) h;rw[xi u] at I;have pm:(K++(M1++[p]++F)).Perm ([p]++L'):=by rw[J,T];rw[Sk];intro a;simp only[SU,Vr,List.count_nil];omega
     exact⟨_,b.perm pm (by have:=b.lt;simpa using this) (k.app I) kp⟩
    rcases hk with rfl|⟨rfl,hk⟩
    .exact fin (.lv h) (b.kp.Au (λ_ z=>by cases z))
    .refine fin (.pv h) λj o' q=>?_;by_cases z:j=i
     .subst z;exact hk
     .rw[Qh (QM z)] at q;exact b.kp j o' q
theorem bU:∀(rs:List Rr)(vs:List V)(B:St),bG rs vs B=bG rs vs []++B
 |[],_,B=>rfl
 |r::rs,[],B=>rfl
 |r::rs,v::vs,B=>by
  show bG rs vs (bp r v B)=bG rs vs (bp r v [])++B;rw[bU rs vs (bp r v B),bU rs vs (bp r v []),O7]
  congr 1
  cases r<;>rfl
theorem bT:∀(rs:List Rr)(θ:List Sl),bB rs θ=bB rs []++θ
 |[],θ=>rfl
 |r::rs,θ=>by
  show bB rs (bh r θ)=bB rs (bh r [])++θ;rw[bT rs (bh r θ),bT rs (bh r []),O7]
  congr 1
  cases r<;>rfl
theorem jd.len:∀{rs:List Rr}{vs:List V},jd Y rs vs->rs.length=vs.length
 |[],[],_=>rfl
 |_::rs,_::vs,h=>by rw[Pl,Pl,jd.len h.2]
 |[],_::_,h=>h.elim
 |_::_,[],h=>h.elim
theorem jI:∀(rs:List Rr)(vs:List V),rs.length=vs.length->(bG rs vs []).length=(bB rs []).length
 |[],[],_=>rfl
 |r::rs,v::vs,h=>by
  show (bG rs vs (bp r v [])).length=(bB rs (bh r [])).length;rw[bU,bT,Pk,Pk,jI rs vs (by simpa using h)]
  congr 1
  cases r<;>rfl
 |[],_::_,h=>by simp at h
 |_::_,[],h=>by simp at h
noncomputable def aS:Rr->List Sl->Option (A×List Sl)
 | .fr a,Z=>some (a,Z)
 | .nw o,Z=>some (o.a,Z)
 | .rf i,Z=>match Z[i]? with
  |some (.lv o)=>some (o.a,Z.set i (.fr o.a))
  |some (.fr a)=>some (a,Z)
  |_=>none
def d9:List Rr->List Sl->Option (List A×List Sl)
 |[],Z=>some ([],Z)
 |r::rs,Z=>match aS r Z with
  |some (a,U)=>match d9 rs U with
   |some (as,Z0)=>some (a::as,Z0)
   |none=>none
  |none=>none
theorem Bd.aS{r:Rr}{v:V}{a:A}{O:List Sl}{xs:St}{ss:List Sl}(e:xs.length=ss.length)(b:Bd c Y H Z (xs++bp r v B) (ss++bh r θ))(q:VR Y r v)(h:aS r Z=some (a,O)):Bd c Y H O (xs++some v::B) (ss++.fr a::θ):=by
 cases r with
 |fr a'=>cases h;exact b
 |nw o=>cases h;exact Bd.JU e b
 |rf i=>
  unfold M.aS at h;cases es:Z[i]? with
  |none=>simp only[es] at h;cases h
  |some s=>
   cases s with
   |un=>simp only[es] at h;cases h
   |pv o=>simp only[es] at h;cases h
   |fr a'=>simp only[es] at h;cases h;exact Bd.Bm e b q es
   |lv o=>simp only[es] at h;cases h;have b2:=Bd.tX b es;exact Bd.Bm e b2 q (PR (O6.mp es).1)
theorem u7{r:Rr}{as:List A}(h:d9 (r::rs) Z=some (as,O)):∃a H U,aS r Z=some (a,U)/\d9 rs U=some (H,O)/\as=a::H:=by
 unfold d9 at h;cases J:aS r Z with
 |none=>simp only[J] at h;cases h
 |some p=>
  obtain⟨a,U⟩:=p;simp only[J] at h;cases l:d9 rs U with
  |none=>simp only[l] at h;cases h
  |some q=>obtain⟨H,Z0⟩:=q;simp only[l] at h;cases h;exact⟨a,H,U,rfl,l,rfl⟩
theorem Bd.d9:∀{rs:List Rr}{vs:List V}{as:List A}{Z O:List Sl}{B:St}{θ:List Sl},jd Y rs vs->Bd c Y H Z (bG rs vs B) (bB rs θ)->d9 rs Z=some (as,O)->Bd c Y H O (vs.reverse.map some++B) (as.reverse.map Sl.fr++θ)/\vs.length=as.length
 |[],[],_,_,_,_,_,_,b,h=>by cases h;exact⟨b,rfl⟩
 |r::rs,v::vs,_,Z,O,B,θ,hv,b,h=>by obtain⟨a,as,U,J,l,rfl⟩:=u7 h;have b:Bd c Y H Z (bG rs vs (bp r v B)) (bB rs (bh r θ)):=b;rw[bU,bT] at b;have b1:=Bd.aS (jI rs vs (jd.len hv.2)) b hv.1 J;rw [← bU rs vs (some v :: B),← bT rs (.fr a :: θ)] at b1;obtain ⟨b2,T⟩:=Bd.d9 hv.2 b1 l;exact ⟨by simpa using b2,by simp [T]⟩
 |[],_ :: _,_,_,_,_,_,h,_,_=>h.elim
 |_::_,[],_,_,_,_,_,h,_,_=>h.elim
end
section
variable{X:Cx}{E:XK}
theorem ug{m:Mi (List Rr)}{f:List Rr->Mi j}{o:Except Str j}{Q:List V->Hp->Prop}(G:c.toKx=kx X)(b:Bd c Y H Z B θ)(em:aB m f Z=some (o,O))
  (h1:∀rs vs U i,jd Y rs vs->Bd c Y i U (bG rs vs B) (bB rs θ)->f rs U=some (o,O)->Q vs i)
  (h2:∀e,o=.error e->∀C H,X.mg e=some (.ref C)->Bd c Y H O B θ->E (.ref C) none H):My (kx X) E m Y H Q:=by
 rcases bind_some em with ⟨x,U,J,l⟩|⟨e,J,l⟩
 .exact⟨c,Z,B,θ,_,U,G,b,J,λvs i q b1=>h1 x vs U i q b1 l⟩
 .exact⟨c,Z,B,θ,_,O,G,b,J,λC i hm b1=>h2 e l C i hm b1⟩
def aU(m:Mi (List Rr)):Mi Rr:=aB m λrs Z=>match d9 rs Z with
 |some (as,O)=>if as.length<=1000 then some (.ok (.fr (.tup as)),O) else none
 |none=>none
def d0(m:Mi (List Rr)):Mi Rr:=aB m λrs Z=>match d9 rs Z with
 |some (as,O)=>if as.length<=1000 then some (.ok (.nw (.lst as)),O) else none
 |none=>none
theorem rJ{k:Kx}{as:List A}:∀G,bf k G vs.reverse as.reverse->bf k G vs as:=λG h=>by have:=h.rev;simpa using this
theorem qd:1000<=sizeLine:=by rw[sizeLine_eq];decide
theorem Hy{m:Mi (List Rr)}{x1 pos}(h:JA X E es m):JE X E (.Tuple es x1 pos) (aU m):=⟨PE.weaken (FP h.p) λY H Q h=>by
 obtain⟨c,Z,B,θ,o,O,G,b,em,q⟩:=h;refine ug G b em (λrs vs U i u b1 s=>?_) (aH q);cases J:d9 rs U with
 |none=>simp only[J] at s;cases s
 |some p=>
  obtain⟨as,Z0⟩:=p;simp only[J] at s;obtain⟨b2,l⟩:=Bd.d9 u b1 J;split at s
  .rename_i hl;cases s;exact⟨by have:=qd;omega,λp hp=>q (.ref p) _ trivial (Bd.Hi b2 (by simp[l]) hp vs as rJ)⟩
  .cases s⟩
theorem G7{m:Mi (List Rr)}{pos}(h:JA X E es m):JE X E (.List es pos) (d0 m):=⟨PE.weaken (Hf h.p) λY H Q h=>by
 obtain⟨c,Z,B,θ,o,O,G,b,em,q⟩:=h;refine ug G b em (λrs vs U i u b1 s=>?_) (aH q);cases J:d9 rs U with
 |none=>simp only[J] at s;cases s
 |some p=>
  obtain⟨as,Z0⟩:=p;simp only[J] at s;obtain⟨b2,l⟩:=Bd.d9 u b1 J;split at s
  .rename_i hl;cases s;exact⟨by have:=qd;omega,λp hp=>q (.ref p) _ trivial (Bd.zO b2 (by simp[l]) hp vs as rJ)⟩
  .cases s⟩
end
inductive Fl where
 |nx|rt(s:Sl)|bk|ct|ex(c:Str)
noncomputable abbrev Ms:=List Sl->Option (Fl×List Sl)
def aZ:Nat->List Sl->List Sl
 |0,_=>[]
 |n+1,[]=>.un::aZ n []
 |n+1,.pv o::Z=>.pv o::aZ n Z
 |n+1,_::Z=>.un::aZ n Z
def vd(K:Kx)(n:Nat)(m:Ms):Sp:=λvs H Q E=>vs.length=n/\∃(c:Cn)(Z:List Sl)(f:Fl)(O:List Sl),c.toKx=K/\c.σ0=vs.map some/\c.H0=H/\eE c (vs.map some) H Z [] [] c.Lp/\m Z=some (f,O) /\
  (match f with
   | .rt s=>∀v H',(∀o,s≠.pv o)->Bd c (vs.map some) H' (aZ vs.length O) [some v] [s]->Q v H'
   | .ex x=>∀C H',K.mg x=some (.ref C)->Bd c (vs.map some) H' (aZ vs.length O) [] []->E (.ref C) none H'
   | _=>False)
section
variable{k:Kx}{G H:Hp}
theorem aw.back:∀{σ0 Y:St}{Z:List Sl}{L:List Addr},aw k G H Y Z L->(∀(i:Nat)(o:LO),Z[i]?=some (.pv o)->i<σ0.length->Y[i]?=σ0[i]?)->∃L',L'.Sublist L/\aw k G H σ0 (aZ σ0.length Z) L'
 |[],_,_,_,_,_=>⟨[],Vg _,.nil⟩
 |x::σ0,_,_,_,.nil,h=>by obtain⟨L',s,r⟩:=aw.back (σ0:=σ0) (Y:=[]) (Z:=[]) .nil (λi o e=>by simp at e);exact⟨L',s,aw.cons (L:=[]) (.un x) r⟩
 |x::σ0,_,_,_,.cons (x:=y) (s:=s) (Z:=U) (L:=L1) (L':=L2) hs r,h=>by
  obtain⟨L',sl,w⟩:=aw.back (σ0:=σ0) r (λi o e hi=>by have:=h (i+1) o e (by simpa using hi);simpa using this);have fin:aZ (x::σ0).length (s::U)=.un::aZ σ0.length U->∃L',L'.Sublist (L1++L2)/\aw k G H (x::σ0) (aZ (x::σ0).length (s::U)) L':=λe=>by rw[e];exact⟨L',sl.trans (TQ _ _),aw.cons (L:=[]) (.un x) w⟩
  cases s with
  |un=>exact fin rfl
  |fr a=>exact fin rfl
  |lv o=>exact fin rfl
  |pv o=>
   have e:=h 0 o rfl (by simp);have e:y=x:=by simpa using e
   subst e;exact⟨L1++L',QF (QB _) sl,aw.cons hs w⟩
end
variable{as:List Sl}
section
variable{c:Cn}{Y:St}{H:Hp}{Z:List Sl}{B:St}{θ:List Sl}
theorem Bd.back(b:Bd c Y H Z B θ):Bd c c.σ0 H (aZ c.σ0.length Z) B θ:=by
 obtain⟨L,b⟩:=b;obtain⟨K,L2,J,k,D⟩:=aw.split b.lt b.rel;obtain⟨L',sl,r⟩:=D.back (σ0:=c.σ0) (λi o e _=>b.kp i o e);have N:(K++L').Sublist L:=by rw[J];exact QF (QB _) sl
 have sm:Sq (c.g H L) (c.g H (K++L')):=cC λa ha=>N.subset ha;exact⟨K++L',b.nd.sublist N,(k.app r).sm sm (λ_ _ _ e=>e),λp hp=>b.own p (N.subset hp),b.fr,λi o _=>rfl,b.lt,b.hd⟩
def take1:Rr->List Sl->Option (Sl×List Sl)
 | .fr a,Z=>some (.fr a,Z)
 | .nw o,Z=>some (.fr o.a,Z)
 | .rf i,Z=>match Z[i]? with
  |some (.lv o)=>some (.lv o,Z.set i .un)
  |some (.pv o)=>some (.lv o,Z.set i .un)
  |some (.fr a)=>some (.fr a,Z)
  |_=>none
def cW:List Rr->List Sl->Option (List Sl×List Sl)
 |[],Z=>some ([],Z)
 |r::rs,Z=>match take1 r Z with
  |some (a,U)=>match cW rs U with
   |some (as,Z0)=>some (a::as,Z0)
   |none=>none
  |none=>none
noncomputable def rj:Sl->Sl
 | .lv o=>.pv o
 |s=>s
theorem rR{r:Rr}(h:cW (r::rs) Z=some (as,O)):∃a H U,take1 r Z=some (a,U)/\cW rs U=some (H,O)/\as=a::H:=by
 unfold cW at h;cases J:take1 r Z with
 |none=>simp only[J] at h;cases h
 |some p=>
  obtain⟨a,U⟩:=p;simp only[J] at h;cases l:cW rs U with
  |none=>simp only[l] at h;cases h
  |some q=>obtain⟨H,Z0⟩:=q;simp only[l] at h;cases h;exact⟨a,H,U,rfl,l,rfl⟩
theorem Bd.take1{r:Rr}{v:V}{a:Sl}{O:List Sl}{xs:St}{ss:List Sl}(e:xs.length=ss.length)(b:Bd c Y H Z (xs++bp r v B) (ss++bh r θ))(q:VR Y r v)(h:take1 r Z=some (a,O)):Bd c Y H O (xs++some v::B) (ss++a::θ):=by
 cases r with
 |fr a'=>cases h;exact b
 |nw o=>cases h;exact Bd.JU e b
 |rf i=>
  unfold M.take1 at h;cases es:Z[i]? with
  |none=>simp only[es] at h;cases h
  |some s=>
   cases s with
   |un=>simp only[es] at h;cases h
   |fr a'=>simp only[es] at h;cases h;exact Bd.Bm e b q es
   |lv o=>simp only[es] at h;cases h;exact Bd.zp e b q es (.inl rfl)
   |pv o=>simp only[es] at h;cases h;exact Bd.zp e b q es (.inr rfl)
theorem Bd.cW:∀{rs:List Rr}{vs:List V}{as:List Sl}{Z O:List Sl}{B:St}{θ:List Sl},jd Y rs vs->Bd c Y H Z (bG rs vs B) (bB rs θ)->cW rs Z=some (as,O)->Bd c Y H O (vs.reverse.map some++B) (as.reverse++θ)/\vs.length=as.length
 |[],[],_,_,_,_,_,_,b,h=>by cases h;exact⟨b,rfl⟩
 |r::rs,v::vs,_,Z,O,B,θ,hv,b,h=>by obtain⟨a,as,U,J,l,rfl⟩:=rR h;have b:Bd c Y H Z (bG rs vs (bp r v B)) (bB rs (bh r θ)):=b;rw[bU,bT] at b;have b1:=Bd.take1 (jI rs vs (jd.len hv.2)) b hv.1 J;rw[<-bU rs vs (some v::B),<-bT rs (a::θ)] at b1;obtain⟨b2,T⟩:=Bd.cW hv.2 b1 l;exact⟨by simpa using b2,by simp[T]⟩
 |[],_::_,_,_,_,_,_,h,_,_=>h.elim
 |_::_,[],_,_,_,_,_,h,_,_=>h.elim
def pe(I:List Sl):Rr->Sl->List Sl->Option (List Sl)
 | .rf i,s,Z=>match I[i]?,s,Z[i]? with
  |some (.lv _),.pv o,some .un=>some (Z.set i (.lv o))
  |some (.pv _),.pv o,some .un=>some (Z.set i (.pv o))
  |some (.fr _),_,_=>some Z
  |_,_,_=>none
 |_,_,Z=>some Z
def putL(I:List Sl):List Rr->List Sl->List Sl->Option (List Sl)
 |r::rs,s::ss,Z=>match putL I rs ss Z with
  |some U=>pe I r s U
  |none=>none
 |[],[],Z=>some Z
 |_,_,_=>none
end
section
variable{k:Kx}{G H:Hp}
theorem aw.FJ:∀{Y:St}{Z:List Sl}{L:List Addr},aw k G H Y Z L->∃L',L'.Perm L/\aw k G H Y.reverse Z.reverse L'
 |_,_,_,.nil=>⟨[],.refl _,.nil⟩
 |_,_,_,.cons (L:=L1) (L':=L2) h r=>by obtain⟨L',pm,w⟩:=aw.FJ r;refine⟨L'++(L1++[]),?_,by rw[Rl,Rl];exact w.app (aw.cons h .nil)⟩;rw[P8];exact(pm.append_right L1).trans P0
theorem aw.DZ:∀{Y:St}{Z:List Sl}{L:List Addr},aw k G H Y Z L->∀p∈L,∀ob vs,H p=some (.frz ob (.dK vs))->False
 |_,_,_,.nil,p,hp,_,_,_=>by cases hp
 |_,_,_,.cons h r,p,hp,ob,vs,e=>by
  rcases Pe.mp hp with z|z
  .have b:∀o,LR k G H p o->False:=λo h=>by cases h with|lst q _=>rw[q] at e;cases e|dic q _=>rw[q] at e;cases e|dit q _=>rw[q] at e;cases e|obj q _ _=>rw[q] at e;cases e
   cases h with
   |un=>cases z
   |fr=>cases z
   |lv h=>rw[Pc.mp z] at b;exact b _ h
   |pv h=>rw[Pc.mp z] at b;exact b _ h
  .exact r.DZ p z ob vs e
theorem aw.rj:∀{Y:St}{Z:List Sl}{L:List Addr},aw k G H Y Z L->aw k G H Y (Z.map rj) L
 |_,_,_,.nil=>.nil
 |_,_,_,.cons h r=>by
  refine aw.cons ?_ (aw.rj r);cases h with
  |un=>exact .un _
  |fr h=>exact .fr h
  |lv h=>exact .pv h
  |pv h=>exact .pv h
noncomputable def Ab:Sl->Sl
 | .pv o=>.lv o
 |s=>s
theorem aw.Ab:∀{Y:St}{Z:List Sl}{L:List Addr},aw k G H Y Z L->aw k G H Y (Z.map Ab) L
 |_,_,_,.nil=>.nil
 |_,_,_,.cons h r=>by
  refine aw.cons ?_ (aw.Ab r);cases h with
  |un=>exact .un _
  |fr h=>exact .fr h
  |lv h=>exact .lv h
  |pv h=>exact .lv h
end
section
variable{c:Cn}{Y:St}{H:Hp}{Z:List Sl}{B:St}{θ:List Sl}
theorem Bd.enter(e:vs.length=as.length)(b:Bd c Y H Z (vs.reverse.map some++B) (as.reverse++θ)):
  ∃t:Cn,t.toKx=c.toKx/\t.σ0=vs.map some/\t.H0=H/\eE t (vs.map some) H (as.map rj) [] [] t.Lp /\
   ∀(H':Hp)(O:List Sl)(J:St)(T:List Sl),(∀s∈T,∀o,s≠.pv o)->O.length=vs.length->Bd t (vs.map some) H' O J T->Bd c Y H' Z (vs.reverse.map some++(J++B)) ((O.map Ab).reverse++(T++θ)):=by
 obtain⟨L,b⟩:=b;have r:aw c.toKx (c.g H L) H (vs.reverse.map some++(B++Y)) (as.reverse++(θ++Z)) L:=by have:=b.rel;simpa[O7] using this
 obtain⟨La,v,n,r1,D⟩:=aw.split (by simp[e]) r;obtain⟨Lp,pm,F⟩:=r1.FJ;have F:aw c.toKx (c.g H L) H (vs.map some) as Lp:=by simpa[<-Vh] using F
 have U:∀a,a∈Lp++(v++c.Hd)↔a∈L++c.Hd:=λa=>by
  rw[n,Pe,Pe,Pe,Pe,pm.mem_iff];constructor
  .rintro(h|h|h)
   .exact .inl (.inl h)
   .exact .inl (.inr h)
   .exact .inr h
  .rintro((h|h)|h)
   .exact .inl h
   .exact .inr (.inl h)
   .exact .inr (.inr h)
 have nd:=b.nd;rw[n] at nd;obtain⟨n1,n2,P⟩:=Pz.mp nd
 let t:Cn:={ toKx:=c.toKx,σ0:=vs.map some,H0:=H,Lp:=Lp,Hd:=v++c.Hd,Wk:=[] }
 have j:∀E K L2,(∀a,a∈K++(v++c.Hd)↔a∈L2++c.Hd)->t.g E K=c.g E L2:=λE K L2 hm=>by
  funext a
  show (if a∈K++(v++c.Hd) then none else E a)=(if a∈L2++c.Hd then none else E a)
  by_cases z:a∈K++(v++c.Hd)
  .rw[if_pos z,if_pos ((hm a).mp z)]
  .rw[if_neg z,if_neg λy=>z ((hm a).mpr y)]
 refine⟨t,rfl,rfl,rfl,⟨(pm.nodup_iff).mpr n1,?_,λp hp=>.inl hp,⟨λq o h=>⟨o,h,λ_ _=>rfl⟩,λq C=>by cases C⟩,λi o _=>rfl,rfl,λp hp=>?_⟩,?_⟩
 .show aw c.toKx (t.g H Lp) H (vs.map some) (as.map rj) Lp;rw[j H Lp L U];exact F.rj
 .rcases Pe.mp hp with z|z
  .exact⟨D.is p z,λy=>P p (pm.mem_iff.mp y) p z rfl⟩
  .refine⟨?_,λy=>b.MW (by rw[n];exact Ph _ (pm.mem_iff.mp y)) z⟩;obtain⟨⟨u,h1⟩,h2⟩:=b.hd p z;obtain⟨I,h3,_⟩:=b.fr.st p u h1;exact⟨I,h3⟩
 .intro H' O J T hθ hl Q;obtain⟨L',Q⟩:=Q;obtain⟨X,Ls,e2,q1,q2⟩:=aw.split Q.lt Q.rel;obtain⟨A,f,q3⟩:=q2.Ab.FJ;have lt':B.length=θ.length:=by have:=b.lt;simp[e] at this;omega
  obtain⟨Lτ,Lσ,e3,s1,s2⟩:=aw.split lt' D;have x:∀p∈L',p∈Lp\/H p=none:=Q.own;have k:∀p,p∈v->∀u,H p=some u->H' p=some u:=λp hp u h=>by obtain⟨I,h1,h2⟩:=Q.fr.st p u h;have:p∉Lp:=λy=>P p (pm.mem_iff.mp y) p hp rfl;rw[h1,h2 this (λw G=>by cases G)]
  have V:∀p,p∈L'->p∉v:=λp hp y=>by
   rcases x p hp with z|z
   .exact P p (pm.mem_iff.mp z) p y rfl
   .obtain⟨u,h⟩:=D.is p y;rw[z] at h;cases h
  have R:Sq (c.g H L) (t.g H' L'):=λa u h=>by
   by_cases z:a∈L\/a∈c.Hd
   .rw[rl z] at h;cases h
   .rw[cy (λy=>z (.inl y)) (λy=>z (.inr y))] at h;have N:a∉Lp:=λy=>z (.inl (by rw[n];exact Ph _ (pm.mem_iff.mp y)));have nr:a∉v:=λy=>z (.inl (by rw[n];exact Pb _ y));obtain⟨I,h1,h2⟩:=Q.fr.st a u h;refine⟨I,?_,.inl (h2 N (λw G=>by cases G))⟩;rw[cy (c:=t) (λy=>?_) (λy=>?_)]
    .exact h1
    .rcases x a y with w|w
     .exact N w
     .rw[w] at h;cases h
    .rcases Pe.mp y with w|w
     .exact nr w
     .exact z (.inr w)
  have m:t.g H' L'=c.g H' (L'++v):=j H' L' (L'++v) λa=>by simp[Pe,or_assoc]
  have s3:aw c.toKx (t.g H' L') H' (B++Y) (θ++Z) v:=D.sm R k;have bb:aw c.toKx (t.g H' L') H' (vs.reverse.map some++(J++B)++Y) ((O.map Ab).reverse++(T++θ)++Z) (A++(X++v)):=by have:=q3.app (q1.app s3);simpa[O7,<-Vh] using this
  have S:(A++(X++v)).Perm (L'++v):=by rw[e2];have:=f.append_right (X++v);refine this.trans ?_;rw[<-O7];exact P0.append_right v
  refine⟨A++(X++v),(S.nodup_iff).mpr (Pz.mpr ⟨Q.nd,n2,λa ha b2 hb z=>V a ha (by rw[z];exact hb)⟩),?_,λp hp=>?_,⟨λq u h=>?_,λq C=>?_⟩,b.kp,?_,b.hd⟩
  .rw[Jt (c:=c) (H:=H') (L':=L'++v) λa=>S.mem_iff,<-m];exact bb
  .rcases Pe.mp (S.mem_iff.mp hp) with z|z
   .rcases x p z with y|y
    .exact b.own p (by rw[n];exact Ph _ (pm.mem_iff.mp y))
    .exact .inr (b.fr.fresh y)
   .exact b.own p (by rw[n];exact Pb _ z)
  .obtain⟨u1,h1,h2⟩:=b.fr.st q u h;obtain⟨l,h3,h4⟩:=Q.fr.st q u1 h1;refine⟨l,h3,λd nw=>?_⟩;rw[h4 (λy=>?_) (λw G=>by cases G),h2 d nw];rcases b.own q (by rw[n];exact Ph _ (pm.mem_iff.mp y)) with w|w
   .exact d w
   .rw[w] at h;cases h
  .obtain⟨h1,⟨ob,ws,h2⟩,h3⟩:=b.fr.pk q C;refine⟨?_,⟨ob,ws,h2⟩,h3⟩;obtain⟨l,h4,h5⟩:=Q.fr.st q.1 q.2 h1;rw[h4,h5 (λy=>?_) (λw G=>by cases G)];exact F.DZ q.1 y ob ws (by rw[h1,h2])
  .have:=Q.lt;simp[hl];omega
end
section
variable{c:Cn}{Y:St}{H:Hp}{Z:List Sl}{B:St}{θ:List Sl}
theorem Bd.pe{I O:List Sl}{r:Rr}{s:Sl}{v:V}(kp:dW c.σ0 Y I)(q:VR Y r v)(b:Bd c Y H Z (some v::B) (Ab s::θ))(h:pe I r s Z=some O):Bd c Y H O B θ:=by
 cases r with
 |fr a=>cases h;exact b.pop
 |nw o=>cases h;exact b.pop
 |rf i=>
  unfold M.pe at h;cases x:I[i]? with
  |none=>simp only[x] at h;cases h
  |some u=>
   simp only[x] at h;cases u with
   |un=>simp at h
   |fr a=>simp at h;subst h;exact b.pop
   |lv e=>
    cases s with
    |pv o=>
     cases J:Z[i]? with
     |none=>simp[J] at h
     |some s1=>
      cases s1 with
      |un=>simp[J] at h;subst h;exact Bd.putBack b q J (.inl rfl)
      |_=>simp[J] at h
    |_=>simp at h
   |pv e=>
    cases s with
    |pv o=>
     cases J:Z[i]? with
     |none=>simp[J] at h
     |some s1=>
      cases s1 with
      |un=>simp[J] at h;subst h;exact Bd.putBack b q J (.inr ⟨rfl,kp i e x⟩)
      |_=>simp[J] at h
    |_=>simp at h
theorem Bd.putL{I:List Sl}(kp:dW c.σ0 Y I):∀{rs:List Rr}{vs:List V}{ss:List Sl}{Z O:List Sl}{B:St}{θ:List Sl},jd Y rs vs->Bd c Y H Z (vs.reverse.map some++B) ((ss.map Ab).reverse++θ)->M.putL I rs ss Z=some O->Bd c Y H O B θ
 |[],[],[],_,_,_,_,_,b,h=>by cases h;exact b
 |r::rs,v::vs,s::ss,Z,O,B,θ,hv,b,h=>by
  unfold M.putL at h;cases e:M.putL I rs ss Z with
  |none=>simp only[e] at h;cases h
  |some U=>
   simp only[e] at h;have b1:Bd c Y H Z (vs.reverse.map some++(some v::B)) ((ss.map Ab).reverse++(Ab s::θ)):=by simpa[O7] using b
   exact Bd.pe kp hv.1 (Bd.putL kp hv.2 b1 e) h
 |[],_::_,_,_,_,_,_,h,_,_=>h.elim
 |_::_,[],_,_,_,_,_,h,_,_=>h.elim
 |[],[],_::_,_,_,_,_,_,_,h=>by cases h
 |_::_,_::_,[],_,_,_,_,_,_,h=>by cases h
theorem bS:∀(n:Nat)(Z:List Sl),(aZ n Z).length=n
 |0,_=>rfl
 |n+1,[]=>by show (Sl.un::aZ n []).length=_;rw[Pl,bS n []]
 |n+1,s::Z=>by cases s<;>(show (_::aZ n Z).length=_;rw[Pl,bS n Z])
theorem jd.app:∀{rs X:List Rr}{vs us:List V},jd Y rs vs->jd Y X us->jd Y (rs++X) (vs++us)
 |[],_,[],_,_,h=>h
 |_::rs,_,_::vs,_,h1,h2=>⟨h1.1,jd.app h1.2 h2⟩
 |[],_,_::_,_,h,_=>h.elim
 |_::_,_,[],_,h,_=>h.elim
theorem jd.cA:∀{das:List A}{dvs:List V},das.length=dvs.length->jd Y (das.map Rr.fr) dvs
 |[],[],_=>trivial
 |_::das,_::dvs,h=>⟨trivial,jd.cA (by simpa using h)⟩
 |[],_::_,h=>by simp at h
 |_::_,[],h=>by simp at h
theorem j1:∀{rs:List Rr}{vs:List V}(X:List Rr)(us:List V)(B:St),rs.length=vs.length->bG (rs++X) (vs++us) B=bG X us (bG rs vs B)
 |[],[],_,_,_,_=>rfl
 |r::rs,v::vs,X,us,B,h=>j1 (rs:=rs) (vs:=vs) X us (bp r v B) (by simpa using h)
 |[],_::_,_,_,_,h=>by simp at h
 |_::_,[],_,_,_,h=>by simp at h
theorem iQ:∀(rs X:List Rr)(θ:List Sl),bB (rs++X) θ=bB X (bB rs θ)
 |[],_,_=>rfl
 |r::rs,X,θ=>iQ rs X (bh r θ)
theorem Bd.qZ:∀{das:List A}{dvs:List V}{B:St}{θ:List Sl},(∀G,bf c.toKx G dvs das)->Bd c Y H Z B θ->Bd c Y H Z (bG (das.map Rr.fr) dvs B) (bB (das.map Rr.fr) θ)
 |[],[],_,_,_,b=>b
 |a::das,v::dvs,_,_,h,b=>Bd.qZ (das:=das) (dvs:=dvs) (λG=>by cases h G;assumption) (Bd.push b λG=>by cases h G;assumption)
 |[],_::_,_,_,h,_=>by cases h (λ_=>none)
 |_::_,[],_,_,h,_=>by cases h (λ_=>none)
end
noncomputable def ji:Sl->Option Rr
 | .fr a=>some (.fr a)
 | .lv o=>some (.nw o)
 |_=>none
def iw(f:Ms)(das:List A)(ma:Mi (List Rr)):Mi Rr:=aB ma λrs Z=>match cW (rs++das.map Rr.fr) Z with
 |some (as,U)=>match f (as.map rj) with
  |some (.rt s,T)=>match ji s,putL Z (rs++das.map Rr.fr) (aZ as.length T) U with
   |some r,some O=>some (.ok r,O)
   |_,_=>none
  |some (.ex x,T)=>match putL Z (rs++das.map Rr.fr) (aZ as.length T) U with
   |some O=>some (.error x,O)
   |none=>none
  |_=>none
 |none=>none
variable{dvs:List V}{k:Nat}{f:Addr}{fd:FuncData}{ps N:List Str}{mt:Mi Bool}
section
variable{X:Cx}{E:XK}
theorem lV{m:Ms}{n:Nat}{das:List A}(hd:∀G,bf (kx X) G dvs das){o:Except Str Rr}(I:c.toKx=kx X)(hn:(vs++dvs).length=n)
  (q:jd Y rs vs)(b:Bd c Y H Z (bG rs vs B) (bB rs θ)) (em:(match cW (rs++das.map Rr.fr) Z with
 |some (as,U)=>match m (as.map rj) with
  |some (.rt s,T)=>match ji s,putL Z (rs++das.map Rr.fr) (aZ as.length T) U with
   |some r,some O=>some (.ok r,O)
   |_,_=>none
  |some (.ex x,T)=>match putL Z (rs++das.map Rr.fr) (aZ as.length T) U with
   |some O=>some (.error x,O)
   |none=>none
  |_=>none
 | none=>none)=some (o,O)) (t:∀r,o=.ok r->∀v H',VR Y r v->Bd c Y H' O (bp r v B) (bh r θ)->Q v H') (u:∀x,o=.error x->∀C H',X.mg x=some (.ref C)->Bd c Y H' O B θ->E (.ref C) none H'):vd (kx X) n m (vs++dvs) H Q E:=by
 refine⟨hn,?_⟩;cases J:cW (rs++das.map Rr.fr) Z with
 |none=>simp only[J] at em;cases em
 |some p=>
  obtain⟨as,U⟩:=p;simp only[J] at em;have ld:das.length=dvs.length:=(hd λ_=>none).len.symm;have h:jd Y (rs++das.map Rr.fr) (vs++dvs):=q.app (jd.cA ld);have b2:Bd c Y H Z (bG (rs++das.map Rr.fr) (vs++dvs) B) (bB (rs++das.map Rr.fr) θ):=by rw[j1 _ _ _ q.len,iQ];exact Bd.qZ (by rw[I];exact hd) b
  obtain⟨w,g⟩:=Bd.cW h b2 J;obtain⟨K,k1,k2,k3,k,k5⟩:=Bd.enter g w;have kp:dW c.σ0 Y Z:=by obtain⟨L,b⟩:=b;exact b.kp
  cases V:m (as.map rj) with
  |none=>simp only[V] at em;cases em
  |some p=>
   obtain⟨f,T⟩:=p;simp only[V] at em;refine⟨K,_,f,T,k1.trans I,k2,k3,k,V,?_⟩;cases f with
   |nx=>cases em
   |bk=>cases em
   |ct=>cases em
   |rt s=>
    simp only at em;cases R:ji s with
    |none=>simp only[R] at em;cases em
    |some r=>
     cases y:putL Z (rs++das.map Rr.fr) (aZ as.length T) U with
     |none=>simp only[R,y] at em;cases em
     |some Z0=>
      simp only[R,y] at em;cases em;intro v H' N F;have S:=k5 H' _ _ _ (λs' e o z=>by rw[Pc.mp e] at z;exact N o z) (bS _ _) F;rw[g] at S;have D:=Bd.putL kp h S y;cases s with
      |fr a=>cases R;exact t _ rfl v H' trivial D
      |lv o=>cases R;exact t _ rfl v H' trivial D
      |_=>cases R
   |ex x=>
    simp only at em;cases y:putL Z (rs++das.map Rr.fr) (aZ as.length T) U with
    |none=>simp only[y] at em;cases em
    |some Z0=>simp only[y] at em;cases em;intro C H' hm F;have S:=k5 H' _ _ _ (λs' e=>by cases e) (bS _ _) F;rw[g] at S;exact u x rfl C H' hm (Bd.putL kp h S y)
theorem Aw{CX:ux}{n:Nat}{m:Ms}{das:List A}{ds:List Value}{p:Pos}{ma:Mi (List Rr)}(F:cR X.prog X.w X.K X.mg X.base CX k f fd ps (vd (kx X) n m))(hr:cE k X.A)(hg:Gl X x)
  (hm:X.mg x=some (.ref f))(hk:Qf X.K (.ref f)=true)(hb:Binds X.K fd ps ds)(hd:Vals dvs ds)(hda:∀G,bf (kx X) G dvs das)(hx:Passes CX X E)(ha:JA X E (e::es) ma)(hn:∀Z rs O,ma Z=some (.ok rs,O)->rs.length+das.length=n)(hdb:eG x)
  (he:starEach (e::es) X.env=(false,eval e X.env)::starEach es X.env:=by rfl)(hpl:(backTo pos (starEach es X.env)).any (·.1)=false:=by rfl):JE X E (.Call (.Name x p) (e::es) [] pos) (iw m das ma):=
 ⟨PE.weaken (uf F hr hg hm hk hb hd hx ha.p hdb he hpl) λY H Q h=>by
  obtain⟨c,Z,B,θ,o,O,ek,b,em,q⟩:=h;rcases bind_some em with ⟨rs,U,e1,e2⟩|⟨e,e1,e2⟩
  .refine⟨c,Z,B,θ,_,U,ek,b,e1,λvs H1 hv b1=>?_⟩;refine lV hda ek ?_ hv b1 e2 (λr hr v H' hv b=>by subst hr;exact q v H' hv b) (λx hx=>by subst hx;exact q);rw[Pk,<-hv.len,<-hn Z rs U e1,(hda λ_=>none).len]
  .subst e2;exact⟨c,Z,B,θ,_,O,ek,b,e1,λC H1 hm b1=>q C H1 hm b1⟩⟩
theorem qL:∀Z rs O,fk Z=some (.ok rs,O)->rs.length=0:=λZ rs O h=>by cases h;rfl
theorem oF{ma:Mi (List Rr)}{n:Nat}(h:∀Z rs O,ma Z=some (.ok rs,O)->rs.length=n):∀Z rs O,cz m ma Z=some (.ok rs,O)->rs.length=n+1:=λZ rs O e=>by
 rcases bind_some e with ⟨r,U,J,l⟩|⟨_,_,l⟩
 .rcases bind_some l with ⟨Y,Z0,T,v⟩|⟨_,_,v⟩
  .cases v;rw[Pl,h _ _ _ T]
  .cases v
 .cases l
theorem nQ{ma:Mi (List Rr)}{n d N:Nat}(h:∀Z rs O,ma Z=some (.ok rs,O)->rs.length=n)(e:n+d=N):∀Z rs O,ma Z=some (.ok rs,O)->rs.length+d=N:=λZ rs O q=>by rw[h Z rs O q];exact e
def AZ(K:Kx)(E:XK)(c:Cn)(Z:List Sl)(B:St)(θ:List A)(D:Ends):Fl->Prop
 | .nx=>∀Y H,Bd c Y H Z B (θ.map Sl.fr)->D.nx Y H
 | .rt s=>∀v Y H,(∀o,s≠.pv o)->Bd c Y H Z (some v::B) (s::θ.map Sl.fr)->D.rt v H
 | .bk=>∀Y H,Bd c Y H Z B (θ.map Sl.fr)->D.bk Y H
 | .ct=>∀Y H,Bd c Y H Z B (θ.map Sl.fr)->D.ct Y H
 | .ex x=>∀C Y H,K.mg x=some (.ref C)->Bd c Y H Z B (θ.map Sl.fr)->E (.ref C) none H
inductive ND(K:Kx)(E:XK)(m:Ms)(D:Ends)(Y:St)(H:Hp):Prop
 |mk(c:Cn)(Z:List Sl)(B:St)(θ:List A)(f:Fl)(O:List Sl)(h1:c.toKx=K)(h2:Bd c Y H Z B (θ.map Sl.fr))(h3:m Z=some (f,O))(h4:AZ K E c O B θ D f)
structure JS(X:Cx)(E:XK)(s:Stmt)(m:Ms):Prop where
 p:PS X s (ND (kx X) E m)
structure vM(X:Cx)(E:XK)(s:List Stmt)(m:Ms):Prop where
 p:p7 X s (ND (kx X) E m)
theorem PS.weaken{e:Stmt}{t t':TS}(h:PS X e t)(f:∀D Y H,t' D Y H->t D Y H):PS X e t':=λpins s Y H D I q=>h pins s Y H D I (f D Y H q)
theorem p7.weaken{e:List Stmt}{t t':TS}(h:p7 X e t)(f:∀D Y H,t' D Y H->t D Y H):p7 X e t':=λpins s Y H D I q=>h pins s Y H D I (f D Y H q)
noncomputable def cp:Ms:=λZ=>some (.nx,Z)
noncomputable def aA(m n:Ms):Ms:=λZ=>match m Z with
 |some (.nx,U)=>n U
 |r=>r
theorem BJ:vM X E [] cp:=⟨p7.weaken Bf λD Y H h=>by obtain⟨c,Z,B,θ,f,O,G,b,em,q⟩:=h;cases em;exact q Y H b⟩
theorem CH{s:Stmt}{m:Ms}(h:JS X E s m):vM X E [s] m:=⟨BM h.p⟩
theorem yn{s:Stmt}{r:List Stmt}{m n:Ms}(h:JS X E s m)(h':vM X E r n):vM X E (s::r) (aA m n):=⟨p7.weaken (yf h.p h'.p) λD Y H h=>by
 obtain⟨c,Z,B,θ,f,O,G,b,em,q⟩:=h;unfold aA at em;cases e:m Z with
 |none=>simp only[e] at em;cases em
 |some p=>
  obtain⟨S,U⟩:=p;simp only[e] at em;refine⟨c,Z,B,θ,S,U,G,b,e,?_⟩;cases S with
  |nx=>exact λZ' H' Q=>⟨c,U,B,θ,f,O,G,Q,em,q⟩
  |rt s=>cases em;exact q
  |bk=>cases em;exact q
  |ct=>cases em;exact q
  | ex x=>cases em;exact q⟩
theorem BA{pos}:JS X E (.Pass pos) cp:=⟨PS.weaken Di λD Y H h=>by obtain⟨c,Z,B,θ,f,O,G,b,em,q⟩:=h;cases em;exact q Y H b⟩
noncomputable def zf:Ms:=λZ=>some (.bk,Z)
noncomputable def DL:Ms:=λZ=>some (.ct,Z)
theorem z6{pos}:JS X E (.Break pos) zf:=⟨PS.weaken xW λD Y H h=>by obtain⟨c,Z,B,θ,f,O,G,b,em,q⟩:=h;cases em;exact q Y H b⟩
theorem A6{pos}:JS X E (.Continue pos) DL:=⟨PS.weaken p6 λD Y H h=>by obtain⟨c,Z,B,θ,f,O,G,b,em,q⟩:=h;cases em;exact q Y H b⟩
noncomputable def bz{α:Type}(m:Mi α)(f:α->Ms):Ms:=λZ=>match m Z with
 |some (.ok x,U)=>f x U
 |some (.error e,U)=>some (.ex e,U)
 |none=>none
theorem a8{m:Mi α}{f:α->Ms}{o:Fl}(h:bz m f Z=some (o,O)):(∃x U,m Z=some (.ok x,U)/\f x U=some (o,O))\/∃e,m Z=some (.error e,O)/\o=.ex e:=by
 unfold bz at h;cases e:m Z with
 |none=>simp only[e] at h;cases h
 |some p=>
  obtain⟨r,U⟩:=p;cases r with
  |ok x=>simp only[e] at h;exact .inl ⟨x,U,rfl,h⟩
  |error x=>simp only[e] at h;cases h;exact .inr ⟨x,rfl,rfl⟩
theorem dH{θ:List A}{f:Rr->Ms}{o:Fl}{D:Ends}(G:c.toKx=kx X)(b:Bd c Y H Z B (θ.map Sl.fr))(em:bz m f Z=some (o,O))(q:AZ (kx X) E c O B θ D o)
  (h1:∀x v U i,VR Y x v->Bd c Y i U (bp x v B) (bh x (θ.map Sl.fr))->f x U=some (o,O)->Q v i):i4 (kx X) E m Y H Q:=by
 rcases a8 em with ⟨x,U,J,l⟩|⟨e,J,l⟩
 .exact⟨c,Z,B,_,_,U,G,b,J,λv i u b1=>h1 x v U i u b1 l⟩
 .subst l;exact⟨c,Z,B,_,_,O,G,b,J,λC i hm b1=>q C Y i hm b1⟩
theorem Bq{θ:List A}{m:Mi Bool}{f:Bool->Ms}{o:Fl}{Q:Bool->Hp->Prop}{D:Ends}(G:c.toKx=kx X)(b:Bd c Y H Z B (θ.map Sl.fr))(em:bz m f Z=some (o,O))(q:AZ (kx X) E c O B θ D o)
  (h1:∀k U i,Bd c Y i U B (θ.map Sl.fr)->f k U=some (o,O)->Q k i):vJ (kx X) E m Y H Q:=by
 rcases a8 em with ⟨x,U,J,l⟩|⟨e,J,l⟩
 .exact⟨c,Z,B,_,_,U,G,b,J,λi b1=>h1 x U i b1 l⟩
 .subst l;exact⟨c,Z,B,_,_,O,G,b,J,λC i hm b1=>q C Y i hm b1⟩
def dR(m:Mi Rr):Ms:=bz m λ_ Z=>some (.nx,Z)
theorem Aq(h:JE X E e m)(hs:swapsWith e none pos.line X.env=pure false:=by rfl):JS X E (.Expr e pos) (dR m):=⟨PS.weaken (BC h.p hs) λD Y H h=>by obtain⟨c,Z,B,θ,f,O,ek,b,em,q⟩:=h;refine dH ek b em q λx v U H1 hv b1 em1=>?_;cases em1;exact q Y H1 b1.drop⟩
def j4(t:Mi Bool)(m n:Ms):Ms:=bz t λb=>if b then m else n
theorem Lu{t:Expr}{a b:List Stmt}{m n:Ms}(j:JT X E t mt)(ha:vM X E a m)(d:vM X E b n):JS X E (.If t a b pos) (j4 mt m n):=⟨PS.weaken (Lo j.p ha.p d.p) λD Y H h=>by
 obtain⟨c,Z,B,θ,f,O,G,b,em,q⟩:=h;refine Bq G b em q λk U i b1 s=>?_;cases k with
 |true=>rw[if_pos rfl];exact⟨c,U,B,θ,f,O,G,b1,s,q⟩
 | false=>rw[if_neg (by decide)];exact⟨c,U,B,θ,f,O,G,b1,s,q⟩⟩
def HC:Rr->List Sl->Option (Sl×List Sl)
 | .fr a,Z=>some (.fr a,Z)
 | .nw o,Z=>some (.lv o,Z)
 | .rf i,Z=>match Z[i]? with
  |some (.lv o)=>some (.lv o,Z.set i .un)
  |_=>none
def bM(m:Mi Rr):Ms:=bz m λr Z=>match HC r Z with
 |some (s,O)=>some (.rt s,O)
 |none=>none
theorem HR(h:JE X E e m):JS X E (.Return (some e) pos) (bM m):=⟨PS.weaken (Iy h.p) λD Y H h=>by
 obtain⟨c,Z,B,θ,f,O,G,b,em,q⟩:=h;refine dH G b em q λx v U u y b1 r=>?_;cases x with
 |fr a=>cases r;exact q v Y u (λo z=>by cases z) b1
 |nw o=>cases r;exact q v Y u (λo z=>by cases z) b1
 |rf i=>
  unfold HC at r;cases es:U[i]? with
  |none=>simp only[es] at r;cases r
  |some s=>
   cases s with
   |lv o=>simp only[es] at r;cases r;exact q v Y u (λo z=>by cases z) (Bd.zp (xs:=[]) (ss:=[]) rfl b1 y es (.inl rfl))
   | _=>simp only[es] at r;cases r⟩
noncomputable def Ee:Ms:=λZ=>some (.rt (.fr .non),Z)
theorem CZ:JS X E (.Return none pos) Ee:=⟨PS.weaken Bj λD Y H h=>by obtain⟨c,Z,B,θ,f,O,G,b,em,q⟩:=h;cases em;exact q .non Y H (λo z=>by cases z) (b.push λ_=>.non)⟩
def uy:Rr->List Sl->Option (Sl×List Sl)
 | .fr a,Z=>some (.fr a,Z)
 | .nw o,Z=>some (.lv o,Z)
 | .rf i,Z=>match aS (.rf i) Z with
  |some (a,O)=>some (.fr a,O)
  |none=>none
noncomputable def put(i:Nat)(s:Sl)(Z:List Sl):Option (List Sl):=match Z[i]? with
 |some (.pv _)=>none
 |some _=>some (Z.set i s)
 |none=>none
theorem Bd.put{c:Cn}{Y:St}{H:Hp}{Z O:List Sl}{B:St}{θ:List Sl}{i:Nat}{v:V}{t:Sl}(b:Bd c Y H Z (some v::B) (t::θ))(j:∀o,t≠.pv o)(h:put i t Z=some O):Bd c (Y.set i (some v)) H O B θ:=by
 unfold M.put at h;cases es:Z[i]? with
 |none=>simp only[es] at h;cases h
 |some s=>
  cases s with
  |pv o=>simp only[es] at h;cases h
  |un=>simp only[es] at h;cases h;exact b.store es (λo z=>by cases z) j
  |fr a=>simp only[es] at h;cases h;exact b.store es (λo z=>by cases z) j
  |lv o=>simp only[es] at h;cases h;exact b.store es (λo z=>by cases z) j
theorem Bd.uy{c:Cn}{Y:St}{H:Hp}{Z O:List Sl}{B:St}{θ:List Sl}{r:Rr}{v:V}{t:Sl}(q:VR Y r v)(b:Bd c Y H Z (bp r v B) (bh r θ))(h:uy r Z=some (t,O)):Bd c Y H O (some v::B) (t::θ)/\∀o,t≠.pv o:=by
 cases r with
 |fr a=>cases h;exact⟨b,λo z=>by cases z⟩
 |nw o=>cases h;exact⟨b,λo z=>by cases z⟩
 |rf i=>
  unfold M.uy at h;cases e:M.aS (.rf i) Z with
  |none=>simp only[e] at h;cases h
  |some p=>obtain⟨a,U⟩:=p;simp only[e] at h;cases h;exact⟨Bd.aS (r:=.rf i) (xs:=[]) (ss:=[]) rfl b q e,λo z=>by cases z⟩
def aE(i:Nat)(m:Mi Rr):Ms:=bz m λr Z=>match uy r Z with
 |some (t,U)=>match put i t U with
  |some Z0=>some (.nx,Z0)
  |none=>none
 |none=>none
theorem si{pos':Pos}(hN:X.N.Nodup)(hi:X.N[i]?=some x)(hx:Loc X.env.scope x)(he:JE X E e m)(hs:swapsWith e (some (.Name x pos')) pos.line X.env=pure false:=by rfl)
  (hf:X.fn x=true\/X.env.scope.names.lookup x=some .local:=by first|exact .inl rfl|exact .inr rfl|assumption):JS X E (.Assign [.Name x pos'] e pos) (aE i m):=⟨PS.weaken (EJ hN hi hx he.p hs hf) λD Y H h=>by
 obtain⟨c,Z,B,θ,f,O,ek,b,em,q⟩:=h;refine dH ek b em q λr v U H1 hv b1 em1=>?_;cases e1:uy r U with
 |none=>simp only[e1] at em1;cases em1
 |some p=>
  obtain⟨t,Z0⟩:=p;simp only[e1] at em1;obtain⟨b2,ht⟩:=Bd.uy hv b1 e1;cases e2:put i t Z0 with
  |none=>simp only[e2] at em1;cases em1
  | some Z1=>simp only[e2] at em1;cases em1;exact q _ H1 (Bd.put b2 ht e2)⟩
def cf(loc:Nat)(m:Ms):Ms:=λZ=>match m (Z++PB loc .un) with
 |some (.nx,O)=>some (.rt (.fr .non),O)
 |some (.rt s,O)=>some (.rt s,O)
 |some (.ex x,O)=>some (.ex x,O)
 |_=>none
theorem lh{k:Kx}{G H:Hp}:∀n,aw k G H (PB n none) (PB n Sl.un) []
 |0=>.nil
 |n+1=>aw.cons (L:=[]) (.un _) (lh n)
theorem eE.start{c:Cn}{vs:List V}{H:Hp}{Z:List Sl}(N:List Str)(b:eE c (vs.map some) H Z [] [] c.Lp)(e:c.σ0=vs.map some):Bd c (start N vs) H (Z++PB (N.length-vs.length) .un) [] []:=by
 have hl:vs.length=Z.length:=by have:=b.rel.len;simpa using this
 refine⟨c.Lp,b.nd,?_,b.own,b.fr,λi o h=>?_,rfl,b.hd⟩
 .have:=b.rel.app (lh (k:=c.toKx) (G:=c.g H c.Lp) (H:=H) (N.length-vs.length));simpa[L2.start] using this
 .have hi:i<Z.length:=by
   by_cases z:i<Z.length
   .exact z
   .rw[Qp (by omega)] at h;have:=PJ h;have:=T3 this;cases this
  unfold L2.start;rw[P5 (by simp;omega),e]
theorem Io{P:Program}{w:World}{K:O2}{mg:Str->Option Value}{base:Heap}{dV:Value}{qual:Str}{st:Stmt}{m:Ms}(F:nK K x qual st f fd dV)(S:hZ N ps (aI st))
  (d:∀(cdv:Value)(A:Around)(outer:List Env)(s:Shared)(H:Hp)(E:XK),cE k (A.deeper (Wc qual (aI st) s.heap.objs.size f cdv))->
   vM (oT (mL P w) P w K mg base N qual (aI st) f cdv A outer s H E) E (cj st) m):cR P w K mg base (mL P w) (k+1) f fd ps (vd ⟨K,mg,P,w⟩ ps.length (cf (N.length-ps.length) m)):=
 F.ok S (λvs H Q E h=>h.1) λcdv A outer s H vs Q E D h=>by
  obtain⟨hn,c,Z,f,O,G,I,L,b,em,q⟩:=h;refine⟨_,(d cdv A outer s H E D).p,?_⟩;have bs:=b.start N I;rw[hn] at bs;unfold cf at em;cases e:m (Z++PB (N.length-ps.length) .un) with
  |none=>simp only[e] at em;cases em
  |some p=>
   obtain⟨Y,U⟩:=p;simp only[e] at em;refine⟨c,_,[],[],Y,U,G,bs,e,?_⟩;have bk:∀{Z':St}{H':Hp}{J:St}{T:List Sl},Bd c Z' H' U J T->Bd c (vs.map some) H' (aZ vs.length U) J T:=λy=>by have:=y.back;rw[I,O5] at this;exact this
   cases Y with
   |nx=>cases em;exact λZ' H' y=>q .non H' (λo z=>by cases z) ((bk y).push λ_=>.non)
   |rt s=>cases em;exact λv Z' H' r y=>q v H' r (bk y)
   |ex x=>cases em;exact λC Z' H' hm y=>q C H' hm (bk y)
   |bk=>cases em
   |ct=>cases em
end
variable{r':R2}{K:Kx}
section
variable{X:Cx}{E:XK}
theorem cP.or'{f:Value->Value->Sem Value}(h:cP X f r)(h':cP X f r'):cP X f (λx y H Q=>r x y H Q\/r' x y H Q):=by
 intro pins s Y H x y v u Q I a P q;rcases q with q|q
 .exact h pins s Y H x y v u Q I a P q
 .exact h' pins s Y H x y v u Q I a P q
theorem bE.or'{f:Value}{r r':List V->Hp->VK->Prop}(h:bE X f r)(h':bE X f r'):bE X f (λxs H Q=>r xs H Q\/r' xs H Q):=by
 intro pins s Y H xs us Q I a q;rcases q with q|q
 .exact h pins s Y H xs us Q I a q
 .exact h' pins s Y H xs us Q I a q
noncomputable def bI(f g:A->A->Option Rr):A->A->Option Rr:=λa b=>match f a b with
 |some r=>some r
 |none=>g a b
theorem eB.or{f g:A->A->Option Rr}(h:eB K r f)(h':eB K r' g):eB K (λx y H Q=>r x y H Q\/r' x y H Q) (bI f g):=by
 intro c Y H Z B θ x y v w a b q Q G u F p J l T k;unfold bI at T;cases e:f a b with
 |some z=>simp only[e] at T;cases T;exact .inl (h c Y H Z B θ x y v w a b _ Q G u F p J l e k)
 |none=>simp only[e] at T;exact .inr (h' c Y H Z B θ x y v w a b _ Q G u F p J l T k)
theorem GF{f g:A->A->Option Rr}(h:i4 (kx X) E (av (bI f g) ma mb) Y H Q):i4 (kx X) E (av f ma mb) Y H Q\/i4 (kx X) E (av g ma mb) Y H Q:=by
 obtain⟨c,Z,B,θ,o,O,G,b,em,q⟩:=h;have I:av f ma mb Z=some (o,O)\/av g ma mb Z=some (o,O):=by
  unfold av aB at em ⊢;cases J:ma Z with
  |none=>simp only[J] at em;cases em
  |some p=>
   obtain⟨x,U⟩:=p;cases x with
   |error e=>simp only[J] at em ⊢;exact .inl em
   |ok x=>
    simp only[J] at em ⊢;cases l:mb U with
    |none=>simp only[l] at em;cases em
    |some p=>
     obtain⟨y,Z0⟩:=p;cases y with
     |error e=>simp only[l] at em ⊢;exact .inl em
     |ok y=>
      simp only[l] at em ⊢;cases T:res Z0 x with
      |none=>simp only[T] at em;cases em
      |some a=>
       cases v:res Z0 y with
       |none=>simp only[T,v] at em;cases em
       |some d=>
        simp only[T,v] at em ⊢;unfold bI at em;cases R:f a d with
        |some z=>simp only[R] at em ⊢;exact .inl em
        |none=>simp only[R] at em;exact .inr em
 exact I.imp (λk=>⟨c,Z,B,θ,o,O,G,b,k,q⟩) (λk=>⟨c,Z,B,θ,o,O,G,b,k,q⟩)
theorem cB{f g:A->A->Option Rr}(h:JE X E e (av f ma mb))(h':JE X E e (av g ma mb)):JE X E e (av (bI f g) ma mb):=
 ⟨λpins s Y H Q I q=>(GF q).elim (λq=>h.p pins s Y H Q I q) (λq=>h'.p pins s Y H Q I q)⟩
theorem yR{f g:A->A->Option Rr}{Q:Bool->Hp->Prop}(h:vJ (kx X) E (aq (av (bI f g) ma mb)) Y H Q):vJ (kx X) E (aq (av f ma mb)) Y H Q\/vJ (kx X) E (aq (av g ma mb)) Y H Q:=by
 obtain⟨c,Z,B,θ,o,O,G,b,em,q⟩:=h;have I:aq (av f ma mb) Z=some (o,O)\/aq (av g ma mb) Z=some (o,O):=by
  unfold aq av aB at em ⊢;cases J:ma Z with
  |none=>simp only[J] at em;cases em
  |some p=>
   obtain⟨x,U⟩:=p;cases x with
   |error e=>simp only[J] at em ⊢;exact .inl em
   |ok x=>
    simp only[J] at em ⊢;cases l:mb U with
    |none=>simp only[l] at em;cases em
    |some p=>
     obtain⟨y,Z0⟩:=p;cases y with
     |error e=>simp only[l] at em ⊢;exact .inl em
     |ok y=>
      simp only[l] at em ⊢;cases T:res Z0 x with
      |none=>simp only[T] at em;cases em
      |some a=>
       cases v:res Z0 y with
       |none=>simp only[T,v] at em;cases em
       |some d=>
        simp only[T,v] at em ⊢;unfold bI at em;cases R:f a d with
        |some z=>simp only[R] at em ⊢;exact .inl em
        |none=>simp only[R] at em;exact .inr em
 exact I.imp (λk=>⟨c,Z,B,θ,o,O,G,b,k,q⟩) (λk=>⟨c,Z,B,θ,o,O,G,b,k,q⟩)
theorem c4{f g:A->A->Option Rr}(h:JT X E e (aq (av f ma mb)))(h':JT X E e (aq (av g ma mb))):JT X E e (aq (av (bI f g) ma mb)):=
 ⟨λpins s Y H Q I q=>(yR q).elim (λq=>h.p pins s Y H Q I q) (λq=>h'.p pins s Y H Q I q)⟩
theorem eB.scalar{f:A->A->Option Rr}(h:∀H v w a b q,RA K H v a->RA K H w b->f a b=some q->∃u d,q=.fr d/\(∀G,RA K G u d)/\∀Q:VK,Q u H->r v w H Q):eB K r f:=by intro c Y H Z B θ x y v w a b q Q I z F p J l T k;have D:=Bd.rd p F l;have S:=Bd.rd p.drop z J;rw[I] at S D;obtain⟨u,d,rfl,O,C⟩:=h H v w a b q S D T;exact C Q (k u H trivial (Bd.push p.drop.drop (by rw[I];exact O)))
noncomputable def fits(n:Nat)(i:Int):Bool:=decide (i.natAbs<2^n)
theorem oi{n:Nat}{i:Int}(h:fits n i=true):L2.Bd n i:=show i.natAbs<2^n from of_decide_eq_true h
theorem dB{n m:Nat}{i:Int}(h:L2.Bd m i)(k:m<=n):fits n i=true:=decide_eq_true (show i.natAbs<2^n from h.mono k)
noncomputable def kA(f:Int->Int->Option Rr):A->A->Option Rr
 | .int i,.int j=>f i j
 |_,_=>none
theorem bx{f:Int->Int->Option Rr}{a b:A}{q:Rr}(h:kA f a b=some q):∃i j,a=.int i/\b=.int j/\f i j=some q:=by
 unfold kA at h;split at h
 .exact⟨_,_,rfl,rfl,h⟩
 .cases h
noncomputable def M4(f:Str->Str->Option Rr):A->A->Option Rr
 | .str i,.str j=>f i j
 |_,_=>none
theorem zo{f:Str->Str->Option Rr}{a b:A}{q:Rr}(h:M4 f a b=some q):∃i j,a=.str i/\b=.str j/\f i j=some q:=by
 unfold M4 at h;split at h
 .exact⟨_,_,rfl,rfl,h⟩
 .cases h
def qv:A->A->Option Rr:=kA λi j=>some (.fr (.int (i+j)))
def gP:A->A->Option Rr:=kA λi j=>some (.fr (.int (i-j)))
def uh:A->A->Option Rr:=kA λi j=>if fits 20000 i&&fits 20000 j then some (.fr (.int (i*j))) else none
def ig:A->A->Option Rr:=kA λi j=>if j != 0&&fits 9000 j then some (.fr (.int (i.fdiv j))) else none
def gx:A->A->Option Rr:=kA λi j=>if j != 0 then some (.fr (.int (i.fmod j))) else none
def iS:A->A->Option Rr:=kA λi j=>if 0<=j/\j<=1000000/\i.natAbs<2^64 then some (.fr (.int (i^j.toNat))) else none
def El:A->A->Option Rr:=kA λi j=>some (.fr (.bl (decide (i<j))))
def Mm:A->A->Option Rr:=kA λi j=>some (.fr (.bl (decide (i<=j))))
def Ij:A->A->Option Rr:=kA λi j=>some (.fr (.bl (decide (j<i))))
def IT:A->A->Option Rr:=kA λi j=>some (.fr (.bl (decide (j<=i))))
theorem A8:eB K (oN λi j=>.int (i+j)) qv:=.scalar λH v w a b q S p h=>by
 replace h:=bx h
 obtain⟨i,j,rfl,rfl,h⟩:=h
 cases S;cases p;cases h
 exact⟨_,_,rfl,λ_=>.int _,λQ k=>⟨_,_,rfl,rfl,k⟩⟩
theorem HZ:eB K (oN λi j=>.int (i-j)) gP:=.scalar λH v w a b q S p h=>by
 replace h:=bx h
 obtain⟨i,j,rfl,rfl,h⟩:=h
 cases S;cases p;cases h
 exact⟨_,_,rfl,λ_=>.int _,λQ k=>⟨_,_,rfl,rfl,k⟩⟩
theorem Bn:eB K (rI IntMulOk λi j=>.int (i*j)) uh:=.scalar λH v w a b q S p h=>by
 replace h:=bx h
 obtain⟨i,j,rfl,rfl,h⟩:=h
 cases S;cases p
 split at h
 .rename_i hc
  rw[O3] at hc
  cases h
  exact⟨_,_,rfl,λ_=>.int _,λQ k=>⟨_,_,rfl,rfl,(oi hc.1).Jm (oi hc.2) (by decide),k⟩⟩
 .cases h
theorem Hg:eB K (rI Ot λi j=>.int (i.fdiv j)) ig:=.scalar λH v w a b q S p h=>by
 replace h:=bx h
 obtain⟨i,j,rfl,rfl,h⟩:=h
 cases S;cases p
 split at h
 .rename_i hc
  rw[O3] at hc
  cases h
  exact⟨_,_,rfl,λ_=>.int _,λQ k=>⟨_,_,rfl,rfl,⟨by simpa using hc.1,oi hc.2⟩,k⟩⟩
 .cases h
theorem HX:eB K (rI (λ_ j=>j≠0) λi j=>.int (i.fmod j)) gx:=.scalar λH v w a b q S p h=>by
 replace h:=bx h
 obtain⟨i,j,rfl,rfl,h⟩:=h
 cases S;cases p
 split at h
 .rename_i hc
  cases h
  exact⟨_,_,rfl,λ_=>.int _,λQ k=>⟨_,_,rfl,rfl,by simpa using hc,k⟩⟩
 .cases h
theorem Hh:eB K (rI KH λi j=>.int (i^j.toNat)) iS:=.scalar λH v w a b q S p h=>by
 replace h:=bx h
 obtain⟨i,j,rfl,rfl,h⟩:=h
 cases S;cases p
 split at h
 .rename_i hc
  cases h
  exact⟨_,_,rfl,λ_=>.int _,λQ k=>⟨_,_,rfl,rfl,hc,k⟩⟩
 .cases h
theorem DR:eB K (oN λi j=>.bl (decide (i<j))) El:=.scalar λH v w a b q S p h=>by
 replace h:=bx h
 obtain⟨i,j,rfl,rfl,h⟩:=h
 cases S;cases p;cases h
 exact⟨_,_,rfl,λ_=>.bl _,λQ k=>⟨_,_,rfl,rfl,k⟩⟩
theorem Dy:eB K (oN λi j=>.bl (decide (i<=j))) Mm:=.scalar λH v w a b q S p h=>by
 replace h:=bx h
 obtain⟨i,j,rfl,rfl,h⟩:=h
 cases S;cases p;cases h
 exact⟨_,_,rfl,λ_=>.bl _,λQ k=>⟨_,_,rfl,rfl,k⟩⟩
theorem DN:eB K (oN λi j=>.bl (decide (j<i))) Ij:=.scalar λH v w a b q S p h=>by
 replace h:=bx h
 obtain⟨i,j,rfl,rfl,h⟩:=h
 cases S;cases p;cases h
 exact⟨_,_,rfl,λ_=>.bl _,λQ k=>⟨_,_,rfl,rfl,k⟩⟩
theorem Eo:eB K (oN λi j=>.bl (decide (j<=i))) IT:=.scalar λH v w a b q S p h=>by
 replace h:=bx h
 obtain⟨i,j,rfl,rfl,h⟩:=h
 cases S;cases p;cases h
 exact⟨_,_,rfl,λ_=>.bl _,λQ k=>⟨_,_,rfl,rfl,k⟩⟩
mutual
noncomputable def toD:A->Option D
 | .non=>some .non
 | .bl b=>some (.bl b)
 | .int i=>some (.int i)
 | .str x=>some (.str x)
 | .tup xs=>match cx xs with
  |some ds=>some (.tup ds)
  |none=>none
 | .lst xs=>match cx xs with
  |some ds=>some (.lst ds)
  |none=>none
 | .dic _=>none
 | .exc _=>none
 | .obj _ _=>none
 | .opq=>none
noncomputable def cx:List A->Option (List D)
 |[]=>some []
 |a::as=>match toD a,cx as with
  |some d,some ds=>some (d::ds)
  |_,_=>none
end
mutual
theorem iT{K:Kx}{H:Hp}:∀{v:V}{a:A}{d:D},RA K H v a->toD a=some d->Den K.K H v d
 |_,_,_,.non,h=>by rw[toD] at h;cases h;exact .non
 |_,_,_,.bl b,h=>by rw[toD] at h;cases h;exact .bl _
 |_,_,_,.int i,h=>by rw[toD] at h;cases h;exact .int _
 |_,_,_,.str x,h=>by rw[toD] at h;cases h;exact .str _
 |_,_,_,.tup (as:=as) e r,h=>by
  rw[toD] at h;cases q:cx as with
  |none=>simp only[q] at h;cases h
  |some ds=>simp only[q] at h;cases h;exact .tup e (jR r q)
 |_,_,_,.lst (as:=as) e r,h=>by
  rw[toD] at h;cases q:cx as with
  |none=>simp only[q] at h;cases h
  |some ds=>simp only[q] at h;cases h;exact .lst e (jR r q)
 |_,_,_,.dic e r,h=>by rw[toD] at h;cases h
 |_,_,_,.exc e m,h=>by rw[toD] at h;cases h
 |_,_,_,.obj e m r,h=>by rw[toD] at h;cases h
 |_,_,_,.opq,h=>by rw[toD] at h;cases h
theorem jR{K:Kx}{H:Hp}:∀{vs:List V}{as:List A}{ds:List D},bf K H vs as->cx as=some ds->dw K.K H vs ds
 |_,_,_,.nil,h=>by rw[cx] at h;cases h;exact .nil
 |_,_,_,.cons (a:=a) (as:=as) q r,h=>by
  rw[cx] at h;cases J:toD a with
  |none=>simp only[J] at h;cases h
  |some d=>
   cases l:cx as with
   |none=>simp only[J,l] at h;cases h
   |some ds=>simp only[J,l] at h;cases h;exact .cons (iT q J) (jR r l)
end
def lL(a b:A):Option Bool:=match toD a,toD b with
 |some d,some e=>if D.depth d<=40 then some (D.eq d e) else none
 |_,_=>none
def iU(a b:A):Option Rr:=match lL a b with
 |some k=>some (.fr (.bl k))
 |none=>none
def dA(a b:A):Option Rr:=match lL a b with
 |some k=>some (.fr (.bl (!k)))
 |none=>none
theorem pj{a b:A}{k:Bool}(h:lL a b=some k):∃d e,toD a=some d/\toD b=some e/\D.depth d<=40/\k=D.eq d e:=by
 unfold lL at h;cases J:toD a with
 |none=>simp only[J] at h;cases h
 |some d=>
  cases l:toD b with
  |none=>simp only[J,l] at h;cases h
  |some e=>
   simp only[J,l] at h;split at h
   .rename_i hd;cases h;exact⟨d,e,rfl,rfl,hd,rfl⟩
   .cases h
theorem os_eq:eB K (Kf K.K) iU:=.scalar λH v w a b q S p h=>by
 unfold iU at h;cases e:lL a b with
 |none=>simp only[e] at h;cases h
 |some k=>simp only[e] at h;cases h;obtain⟨d,d',h1,h2,h3,rfl⟩:=pj e;exact⟨_,_,rfl,λ_=>.bl _,λQ k=>⟨d,d',iT S h1,iT p h2,h3,k⟩⟩
theorem DH:eB K (KU K.K) dA:=.scalar λH v w a b q S p h=>by
 unfold dA at h;cases e:lL a b with
 |none=>simp only[e] at h;cases h
 |some k=>simp only[e] at h;cases h;obtain⟨d,d',h1,h2,h3,rfl⟩:=pj e;exact⟨_,_,rfl,λ_=>.bl _,λQ k=>⟨d,d',iT S h1,iT p h2,h3,k⟩⟩
def pL:A->A->Option Rr:=M4 λx y=>if x.length+y.length<=100000 then some (.fr (.str (x++y))) else none
theorem hY:100000<=sizeLine:=by rw[sizeLine_eq];decide
theorem CU:eB K (λx y H Q=>∃i j,x=.str i/\y=.str j/\i.length+j.length<=sizeLine/\Q (.str (i++j)) H) pL:=.scalar λH v w a b q S p h=>by
 replace h:=zo h
 obtain⟨i,j,rfl,rfl,h⟩:=h
 cases S;cases p
 split at h
 .rename_i hc
  cases h
  exact⟨_,_,rfl,λ_=>.str _,λQ k=>⟨_,_,rfl,rfl,Px hc hY,k⟩⟩
 .cases h
noncomputable def Em:R2:=λx y H Q=>∃z n,x=.str z/\y=.int n/\MulOk z n/\Q (.str (Txt.mul z n)) H
theorem CJ:cP X (binaryOp .Mult) Em:=by intro pins s Y H x y v u Q I a P h;obtain⟨z,n,rfl,rfl,hok,q⟩:=h;obtain⟨t,rfl⟩:=a;obtain⟨t',rfl⟩:=P;exact SB.mul hok λb k=>⟨.str _,H,I.tok _,⟨b,rfl⟩,q⟩
noncomputable def xq:A->A->Option Rr
 | .str z,.int n=>if 1<=n/\n<=1000/\z.length<=1000 then some (.fr (.str (Txt.mul z n))) else none
 |_,_=>none
theorem By:eB K Em xq:=.scalar λH v w a b q S p h=>by
 cases a<;>first|(cases h;done)|(cases b<;>first|(cases h;done)|skip)
 cases S;cases p;rename_i z n;unfold xq at h;simp only at h;split at h
 .rename_i hc;cases h;refine⟨_,_,rfl,λ_=>.str _,λQ k=>⟨_,_,rfl,rfl,⟨?_,λ_ _ o=>?_,λ_ _=>?_⟩,k⟩⟩
  .rw[Bool.or_eq_false_iff];exact⟨decide_eq_false (by omega),decide_eq_false (by omega)⟩
  .have h1:n*(z.length:Int)<=1000*1000:=Int.mul_le_mul hc.2.1 (by omega) (by omega) (by decide);have h2:(z.length:Int)<=(2^63-1) / n:=by rw[Int.le_ediv_iff_mul_le (by omega)];rw[S1];omega
   omega
  .unfold R4;refine decide_eq_false ?_;have h1:z.length*n.toNat<=1000*1000:=Nat.mul_le_mul hc.2.2 (by omega);have:=sizeLine_eq;omega
 .cases h
noncomputable def mP:A->A->Option Rr
 | .tup xs,.tup ys=>if xs.length+ys.length<=100000 then some (.fr (.tup (xs++ys))) else none
 |_,_=>none
def D7(K:O2):R2:=λx y H Q=>∃a b xs ys,x=.ref a/\y=.ref b/\dz K H a xs/\dz K H b ys/\xs.length+ys.length<=sizeLine/\(xs=[]->Q (.ref b) H)/\(xs≠[]->ys=[]->Q (.ref a) H) /\
 (xs≠[]->ys≠[]->∀p,H p=none->Q (.ref p) (upd H p (.tup (xs++ys))))
theorem AN:cP X (binaryOp .Add) (D7 X.K):=by
 intro pins s Y H x y v u Q I E P h;obtain⟨a,b,xs,ys,rfl,rfl,ha,d,hz,n,e,z⟩:=h;by_cases L:xs=[]
 .subst L;cases E;cases P;obtain⟨O,k,T,_⟩:=I.tuple ha;obtain⟨A,p,w,_⟩:=I.tuple d;cases k;obtain⟨⟨g,o,t,G⟩,J,c,S,r⟩:=id T;obtain⟨⟨C,U,F,R⟩,l,Z,V,q⟩:=id w;simp only at c r Z q;subst c r Z q;exact concat_meets ⟨_,J,rfl⟩ ⟨_,l,rfl⟩ noFill_tuple_add seq_tuple_add RY RS (RM _ _) (Wd a b _ _ S V o U G R rfl) ⟨J,l,.ref b,H,I,rfl,n rfl⟩
 .exact CV pins s Y H (.ref a) (.ref b) v u Q I E P ⟨a,b,xs,ys,rfl,rfl,ha,d,L,hz,e L,z L⟩
theorem Bc:eB K (D7 K.K) mP:=by
 intro c Y H Z B θ x y v w a b q Q G u F e J l T k;cases a<;>first|(cases T;done)|(cases b<;>first|(cases T;done)|skip)
 rename_i xs ys;unfold mP at T;simp only at T;split at T
 .rename_i hc;cases T;obtain⟨L,bl,n,A⟩:=Bd.qA e u F J l;obtain⟨O,h,rfl,s1,S⟩:=n.2.1 xs rfl;obtain⟨U,r,rfl,s2,D⟩:=A.2.1 ys rfl;have V:=S.len;have R:=D.len;subst G;refine⟨O,U,h,r,rfl,rfl,cu (g_same _ _ _) s1,cu (g_same _ _ _) s2,by have:=hY;omega,λz=>?_,λ_ z=>?_,λ_ _ p hp=>?_⟩
  .subst z;have:xs=[]:=Td (by rw[<-V];rfl);subst this;exact k _ H trivial (bl.push (.tup s2 D))
  .subst z;have:ys=[]:=Td (by rw[<-R];rfl);subst this;rw[P8] at k;exact k _ H trivial (bl.push (.tup s1 S))
  .obtain⟨b2,sm,np⟩:=bl.new (o:=.tup (h++r)) hp;exact k _ _ trivial (b2.push (.tup (.inl (.inl (by rw[cy np (bl.Ja hp)];exact br))) ((S.app D).sm sm)))
 .cases T
end
variable{w:V}{id:String}
section
variable{X:Cx}{E:XK}
def lP:A->A->Option Rr
 | .lst xs,.int i=>match gr xs i with
  |some a=>some (.fr a)
  |none=>none
 | .tup xs,.int i=>match gr xs i with
  |some a=>some (.fr a)
  |none=>none
 | .str z,.int i=>if z.length<=100000 then match gr z.cps.toList i with
  |some c=>some (.fr (.str ⟨#[c]⟩))
  |none=>none else none
 |_,_=>none
theorem bf.gr{k:Kx}{G:Hp}{vs:List V}{as:List A}{i:Int}{a:A}(r:bf k G vs as)(h:gr as i=some a):∃v,gr vs i=some v/\RA k G v a:=by
 unfold L2.gr at h ⊢;rw[r.len];cases e:nR as.length i with
 |none=>rw[e] at h;cases h
 |some j=>rw[e] at h;obtain⟨v,h1,h2⟩:=r.ta h;exact⟨v,h1,h2⟩
theorem KZ:eB K (N8 K.K) lP:=by
 intro c Y H Z B θ x y v w a b q Q I n G h J l T k;subst I;have D:=Bd.rd h G l;obtain⟨L,bl,o,A⟩:=Bd.qA h n G J l;have S:=Bd.rd h.drop n J;cases a<;>first|(cases T;done)|(cases b<;>first|(cases T;done)|skip)
 .rename_i z i;cases S;cases D;unfold lP at T;simp only at T;split at T
  .rename_i hz;cases e:gr z.cps.toList i with
   |none=>simp only[e] at T;cases T
   |some ch=>simp only[e] at T;cases T;exact .inr (.inr ⟨z,i,ch,rfl,rfl,Px hz hY,e,k _ H trivial (Bd.push ⟨L,bl⟩ λ_=>.str _)⟩)
  .cases T
 .rename_i xs i;cases D;unfold lP at T;simp only at T;cases e:gr xs i with
  |none=>simp only[e] at T;cases T
  |some d=>simp only[e] at T;cases T;obtain⟨p,vs,rfl,s1,r⟩:=o.2.1 xs rfl;obtain⟨u,h1,h2⟩:=r.gr e;exact .inr (.inl ⟨p,vs,i,u,rfl,rfl,cu (g_same _ _ _) s1,h1,k u H trivial (bl.push h2)⟩)
 .rename_i xs i;cases D;unfold lP at T;simp only at T;cases e:gr xs i with
  |none=>simp only[e] at T;cases T
  |some d=>simp only[e] at T;cases T;obtain⟨p,vs,rfl,s1,r⟩:=o.1 xs rfl;obtain⟨u,h1,h2⟩:=r.gr e;exact .inl ⟨p,vs,i,u,rfl,rfl,s1,h1,k u H trivial (bl.push h2)⟩
theorem Gs{a:Expr}(ha:JE X E a ma)(d:JE X E b mb)(N:jP b):JE X E (.Subscript a b pos) (av lP ma mb):=
 ⟨PE.weaken (Jj GQ ha.p d.p N) (cI KZ)⟩
noncomputable def fO:A->Option Key
 | .int i=>some (.inl i)
 | .str x=>some (.inr x)
 |_=>none
theorem gL{b:A}{y:Key}(r:RA K H w b)(h:fO b=some y):w=kV y:=by cases r<;>first|(cases h;rfl)|(cases h;done)
def cX:A->A->Option Rr
 | .dic kvs,b=>match fO b with
  |some y=>match fC kvs y with
   |some a=>some (.fr a)
   |none=>none
  |none=>none
 |_,_=>none
theorem BP:eB K (λx y H Q=>∃a v,x=.ref a/\fA H a y (some v)/\Q v H) cX:=by
 intro c Y H Z B θ x y v w a b q Q I n G h J l T k;subst I;have D:=Bd.rd h G l;obtain⟨L,bl,o,A⟩:=Bd.qA h n G J l;cases a<;>first|(cases T;done)|skip
 rename_i kvs;unfold cX at T;simp only at T;cases r:fO b with
 |none=>simp only[r] at T;cases T
 |some z=>
  simp only[r] at T;obtain⟨p,vs,rfl,s1,e⟩:=o.2.2 kvs rfl;rcases e.get z with ⟨u,a,h1,h2,h3⟩|⟨h1,h2⟩
  .simp only[h2] at T;cases T;exact⟨p,u,rfl,.inl ⟨vs,z,s1,gL D r,h1.symm⟩,k u H trivial (bl.push h3)⟩
  .simp only[h2] at T;cases T
theorem Bw{a:Expr}(f:X.A.units+1<cLine)(ha:JE X E a ma)(d:JE X E b mb)(N:yW b):JE X E (.Subscript a b pos) (av cX ma mb):=
 ⟨PE.weaken (AE f ha.p d.p N) (cI (r:=λx y H Q=>∃a v,x=.ref a/\fA H a y (some v)/\Q v H) BP)⟩
theorem JK{a:Expr}(f:X.A.units+1<cLine)(ha:JE X E a ma)(d:JE X E b mb)(N:jP b)(e:yW b):JE X E (.Subscript a b pos) (av (bI lP cX) ma mb):=cB (Gs ha d N) (Bw f ha d e)
noncomputable def lW:A->Bool
 | .non=>true
 | .bl _=>true
 | .int _=>true
 | .str _=>true
 |_=>false
noncomputable def lF:A->V
 | .non=>.non
 | .bl b=>.bl b
 | .int i=>.int i
 | .str x=>.str x
 |_=>.non
theorem wA{b:A}(r:RA K H w b)(h:lW b=true):w=lF b/\fH w=true:=by cases r<;>first|exact⟨rfl,rfl⟩|(cases h;done)
theorem uo{K:Kx}{H:Hp}:∀{vs:List V}{as:List A},bf K H vs as->as.all lW=true->vs=as.map lF/\vs.all fH=true
 |_,_,.nil,_=>⟨rfl,rfl⟩
 |_,_,.cons h r,e=>by rw[P4,O3] at e;obtain⟨h1,h2⟩:=wA h e.1;obtain⟨h3,h4⟩:=uo r e.2;exact⟨by rw[h1,h3];rfl,by rw[P4,h2,h4];rfl⟩
def IS(neg:Bool)(x:A)(xs:List A):Option Rr:=if lW x&&xs.all lW then some (.fr (.bl (if neg then !IM (lF x) (xs.map lF) else IM (lF x) (xs.map lF)))) else none
def fP(neg:Bool):A->A->Option Rr
 |x,.lst xs=>IS neg x xs
 |x,.tup xs=>IS neg x xs
 |_,_=>none
theorem nN{neg:Bool}:eB K (Md K.K neg) (fP neg):=.scalar λH v w a b q S D h=>by
 have I:∀(xs:List A)(vs:List V)(p:Addr),bf K H vs xs->(eX K.K H p vs\/dz K.K H p vs)->IS neg a xs=some q->∃u d,q=.fr d/\(∀G,RA K G u d)/\∀Q:VK,Q u H->Md K.K neg v (.ref p) H Q:=by
  intro xs vs p Y sq h;unfold IS at h;split at h
  .rename_i hc;rw[O3] at hc;cases h;obtain⟨rfl,h2⟩:=wA S hc.1;obtain⟨rfl,h4⟩:=uo Y hc.2;exact⟨_,_,rfl,λ_=>.bl _,λQ k=>⟨p,_,rfl,sq,h2,h4,k⟩⟩
  .cases h
 cases b<;>first|(cases h;done)|skip
 .cases D with|tup e r=>exact I _ _ _ r (.inr e) h
 .cases D with|lst e r=>exact I _ _ _ r (.inl e) h
def dm(neg:Bool):A->A->Option Rr
 |x,.dic kvs=>match fO x with
  |some y=>some (.fr (.bl (if neg then !(fC kvs y).isSome else (fC kvs y).isSome)))
  |none=>none
 |_,_=>none
theorem wD:eB K (λy x H Q=>∃a o,x=.ref a/\fA H a y o/\Q (.bl o.isSome) H) (dm false):=.scalar λH v w a b q S p h=>by
 cases b<;>first|(cases h;done)|skip
 cases p with
 |dic e r=>
  unfold dm at h;simp only at h;cases F:fO a with
  |none=>simp only[F] at h;cases h
  |some y=>
   simp only[F] at h;cases h;refine⟨_,_,rfl,λ_=>.bl _,λQ k=>⟨_,_,rfl,.inl ⟨_,y,e,gL S F,rfl⟩,?_⟩⟩;rcases r.get y with ⟨u,a,h1,h2,h3⟩|⟨h1,h2⟩
   .rw[h1];rw[h2] at k;exact k
   .rw[h1];rw[h2] at k;exact k
theorem sJ:eB K (λy x H Q=>∃a o,x=.ref a/\fA H a y o/\Q (.bl (!o.isSome)) H) (dm true):=.scalar λH v w a b q S p h=>by
 cases b<;>first|(cases h;done)|skip
 cases p with
 |dic e r=>
  unfold dm at h;simp only at h;cases F:fO a with
  |none=>simp only[F] at h;cases h
  |some y=>
   simp only[F] at h;cases h;refine⟨_,_,rfl,λ_=>.bl _,λQ k=>⟨_,_,rfl,.inl ⟨_,y,e,gL S F,rfl⟩,?_⟩⟩;rcases r.get y with ⟨u,a,h1,h2,h3⟩|⟨h1,h2⟩
   .rw[h1];rw[h2] at k;exact k
   .rw[h1];rw[h2] at k;exact k
theorem HJ{a:Expr}(f:X.A.units+1<cLine)(ha:JE X E a ma)(d:JE X E b mb)(hm:behindInMarks .In b=false):JE X E (.Compare a [.In] [b] pos) (av (dm false) ma mb):=
 ⟨PE.weaken (yU (yA f ha.p d.p) hm) (cI (r:=λy x H Q=>∃a o,x=.ref a/\fA H a y o/\Q (.bl o.isSome) H) wD)⟩
theorem F9{a:Expr}(f:X.A.units+1<cLine)(ha:JE X E a ma)(d:JE X E b mb)(hm:behindInMarks .In b=false):JT X E (.Compare a [.In] [b] pos) (aq (av (dm false) ma mb)):=
 ⟨PT.weaken (zN (yA f ha.p d.p) hm) λY H Q h=>cI (r:=λy x H Q=>∃a o,x=.ref a/\fA H a y o/\Q (.bl o.isSome) H) wD Y H _ (c8 Y H Q h)⟩
theorem Ci{a:Expr}(f:X.A.units+1<cLine)(ha:JE X E a ma)(d:JE X E b mb)(hm:behindInMarks .NotIn b=false):JE X E (.Compare a [.NotIn] [b] pos) (av (dm true) ma mb):=
 ⟨PE.weaken (yU (lX f ha.p d.p) hm) (cI (r:=λy x H Q=>∃a o,x=.ref a/\fA H a y o/\Q (.bl (!o.isSome)) H) sJ)⟩
theorem Bs{a:Expr}(f:X.A.units+1<cLine)(ha:JE X E a ma)(d:JE X E b mb)(hm:behindInMarks .NotIn b=false):JT X E (.Compare a [.NotIn] [b] pos) (aq (av (dm true) ma mb)):=
 ⟨PT.weaken (zN (lX f ha.p d.p) hm) λY H Q h=>cI (r:=λy x H Q=>∃a o,x=.ref a/\fA H a y o/\Q (.bl (!o.isSome)) H) sJ Y H _ (c8 Y H Q h)⟩
theorem Jo{a:Expr}(f:X.A.units+1<cLine)(ha:JE X E a ma)(d:JE X E b mb)(hm:behindInMarks .In b=false):JE X E (.Compare a [.In] [b] pos) (av (bI (fP false) (dm false)) ma mb):=cB (cq l9 nN ha d hm) (HJ f ha d hm)
theorem Lf{a:Expr}(f:X.A.units+1<cLine)(ha:JE X E a ma)(d:JE X E b mb)(hm:behindInMarks .In b=false):JT X E (.Compare a [.In] [b] pos) (aq (av (bI (fP false) (dm false)) ma mb)):=c4 (ck l9 nN ha d hm) (F9 f ha d hm)
theorem Gi{a:Expr}(f:X.A.units+1<cLine)(ha:JE X E a ma)(d:JE X E b mb)(hm:behindInMarks .NotIn b=false):JE X E (.Compare a [.NotIn] [b] pos) (av (bI (fP true) (dm true)) ma mb):=cB (cq iH nN ha d hm) (Ci f ha d hm)
theorem GK{a:Expr}(f:X.A.units+1<cLine)(ha:JE X E a ma)(d:JE X E b mb)(hm:behindInMarks .NotIn b=false):JT X E (.Compare a [.NotIn] [b] pos) (aq (av (bI (fP true) (dm true)) ma mb)):=c4 (ck iH nN ha d hm) (Bs f ha d hm)
noncomputable def rh:A->Bool
 | .non=>true
 |_=>false
def Eh(neg:Bool):A->A->Option Rr
 |a,.non=>some (.fr (.bl (if neg then !rh a else rh a)))
 |_,_=>none
theorem sQ{a:A}(r:RA K H v a):decide (v=.non)=rh a:=by cases r<;>rfl
theorem DB:eB K (λx y H Q=>y=.non/\Q (.bl (decide (x=.non))) H) (Eh false):=.scalar λH v w a b q S p h=>by
 cases b<;>first|(cases h;done)|skip
 cases p;cases h;exact⟨_,_,rfl,λ_=>.bl _,λQ k=>⟨rfl,by rw[sQ S];exact k⟩⟩
theorem sF:eB K (λx y H Q=>y=.non/\Q (.bl (!decide (x=.non))) H) (Eh true):=.scalar λH v w a b q S p h=>by
 cases b<;>first|(cases h;done)|skip
 cases p;cases h;exact⟨_,_,rfl,λ_=>.bl _,λQ k=>⟨rfl,by rw[sQ S];exact k⟩⟩
def vi(f:A->Option Rr)(m:Mi Rr):Mi Rr:=aB m λx Z=>match res Z x with
 |some a=>match f a with
  |some r=>some (.ok r,Z)
  |none=>none
 |none=>none
def lD(K:Kx)(r:V->Hp->VK->Prop)(f:A->Option Rr):Prop:=∀(c:Cn)(Y:St)(H:Hp)(Z:List Sl)(B:St)(θ:List Sl)(x:Rr)(v:V)(a:A)(q:Rr)(Q:VK),c.toKx=K->VR Y x v->
 Bd c Y H Z (bp x v B) (bh x θ)->res Z x=some a->f a=some q->(∀u H',VR Y q u->Bd c Y H' Z (bp q u B) (bh q θ)->Q u H')->r v H Q
theorem oj{f:A->Option Rr}{x:Rr}{o:Except Str Rr}(h:(match res Z x with|some a=>(match f a with|some r=>some ((.ok r:Except Str Rr),Z)|none=>none)|none=>none)=some (o,O)):∃a r,res Z x=some a/\f a=some r/\o=.ok r/\O=Z:=by
 cases J:res Z x with
 |none=>simp only[J] at h;cases h
 |some a=>
  simp only[J] at h;cases T:f a with
  |none=>simp only[T] at h;cases h
  |some r=>simp only[T] at h;cases h;exact⟨a,r,rfl,T,rfl,rfl⟩
theorem jN{r:V->Hp->VK->Prop}{f:A->Option Rr}(hf:lD (kx X) r f)(Y:St)(H:Hp)(Q:VK)(h:i4 (kx X) E (vi f m) Y H Q):i4 (kx X) E m Y H λv H'=>r v H' Q:=by obtain⟨c,Z,B,θ,o,O,G,b,em,q⟩:=h;refine aJ G b em (λx v U i u b1 s=>?_) (aH q);obtain⟨a,r,J,T,rfl,rfl⟩:=oj s;exact hf c Y i _ B θ x v a r Q G u b1 J T q
theorem lD.scalar{r:V->Hp->VK->Prop}{f:A->Option Rr}(h:∀H v a q,RA K H v a->f a=some q->∃u d,q=.fr d/\(∀G,RA K G u d)/\∀Q:VK,Q u H->r v H Q):lD K r f:=by intro c Y H Z B θ x v a q Q I z p J T k;have S:=Bd.rd p z J;rw[I] at S;obtain⟨u,d,rfl,D,C⟩:=h H v a q S T;exact C Q (k u H trivial (Bd.push p.drop (by rw[I];exact D)))
noncomputable def lI:A->Option Rr
 | .int i=>some (.fr (.int (-i)))
 |_=>none
theorem HS{a:Expr}(h:JE X E a m):JE X E (.UnaryOp .USub a pos) (vi lI m):=⟨PE.weaken (Kr F2 h.p) (jN (.scalar λH v a q S h=>by
 cases a<;>first|(cases h;done)|skip
 cases S;cases h;exact⟨_,_,rfl,λ_=>.int _,λQ k=>⟨_,rfl,k⟩⟩))⟩
def cV(f:A->Option Rr)(m:Mi Rr):Mi Rr:=vi f m
def Ds(f:A->A->Option Rr)(m n:Mi Rr):Mi Rr:=av f m n
theorem pN{r:List V->Hp->VK->Prop}{f:A->Option Rr}{p:Pos}(hc:bE X (.builtin id) r)(hf:lD (kx X) (λv=>r [v]) f)(hg:Gl X x)(hm:X.mg x=none)(hv:bootBuiltins x=some (.builtin id))(ha:JE X E e m)(hn:x ≠ "__name__")
  (hdb:eG x)(hs:starEach [e] X.env=(false,eval e X.env)::starEach [] X.env:=by rfl)(hp:(backTo pos (starEach [] X.env)).any (·.1)=false:=by rfl):JE X E (.Call (.Name x p) [e] [] pos) (cV f m):=
 ⟨PE.weaken (iO hc hg hm hv (bA ha.p cS hs) hn hdb hs hp) λY H Q h=>jN hf Y H Q h⟩
theorem yM{T:String}{r:List V->Hp->VK->Prop}{f:A->Option Rr}{p:Pos}(hc:bE X (.type T) r)(hf:lD (kx X) (λv=>r [v]) f)(hg:Gl X x)(hm:X.mg x=none)(hv:bootBuiltins x=some (.type T))(ha:JE X E e m)(hn:x ≠ "__name__")
  (hdb:eG x)(hs:starEach [e] X.env=(false,eval e X.env)::starEach [] X.env:=by rfl)(hp:(backTo pos (starEach [] X.env)).any (·.1)=false:=by rfl):JE X E (.Call (.Name x p) [e] [] pos) (cV f m):=
 ⟨PE.weaken (uD hc hg hm hv (bA ha.p cS hs) hn hdb hs hp) λY H Q h=>jN hf Y H Q h⟩
theorem Ep{r:List V->Hp->VK->Prop}{f:A->A->Option Rr}{p:Pos}{e1 e2:Expr}{n:Mi Rr}(hc:bE X (.builtin id) r)(hf:eB (kx X) (λv w=>r [v,w]) f)(hg:Gl X x)(hm:X.mg x=none)(hv:bootBuiltins x=some (.builtin id))(h1:JE X E e1 m)(h2:JE X E e2 n)(hn:x ≠ "__name__")
  (hdb:eG x)(hs:starEach [e1,e2] X.env=(false,eval e1 X.env)::starEach [e2] X.env:=by rfl)(hs2:starEach [e2] X.env=(false,eval e2 X.env)::starEach [] X.env:=by rfl)(hp:(backTo pos (starEach [e2] X.env)).any (·.1)=false:=by rfl):JE X E (.Call (.Name x p) [e1,e2] [] pos) (Ds f m n):=
 ⟨PE.weaken (iO hc hg hm hv (bA h1.p (bA h2.p cS hs2) hs) hn hdb hs hp) λY H Q h=>cI (r:=λv w=>r [v,w]) hf Y H Q h⟩
noncomputable def dJ:A->Option Rr
 | .str z=>if z.length<=100000 then some (.fr (.int z.length)) else none
 | .lst xs=>some (.fr (.int xs.length))
 | .tup xs=>some (.fr (.int xs.length))
 |_=>none
theorem F5:lD K (λv H Q=>∃x n,[v]=[x]/\Jl K.K x H n/\Q (.int n) H) dJ:=.scalar λH v a q S h=>by
 cases a<;>first|(cases h;done)|skip
 .cases S;unfold dJ at h;simp only at h;split at h
  .rename_i hz;cases h;exact⟨_,_,rfl,λ_=>.int _,λQ k=>⟨_,_,rfl,⟨Px hz hY,rfl⟩,k⟩⟩
  .cases h
 .cases S with
  |tup e r=>cases h;exact⟨_,_,rfl,λ_=>.int _,λQ k=>⟨_,_,rfl,.inr ⟨_,e,rfl⟩,by rw[r.len];exact k⟩⟩
 .cases S with
  |lst e r=>cases h;exact⟨_,_,rfl,λ_=>.int _,λQ k=>⟨_,_,rfl,.inl ⟨_,e,rfl⟩,by rw[r.len];exact k⟩⟩
noncomputable def yQ:A->Option Rr
 | .int i=>some (.fr (.int (if i<0 then -i else i)))
 |_=>none
theorem EI:lD K (λv H Q=>∃i,[v]=[V.int i]/\Q (.int (if i<0 then -i else i)) H) yQ:=.scalar λH v a q S h=>by
 cases a<;>first|(cases h;done)|skip
 cases S;cases h;exact⟨_,_,rfl,λ_=>.int _,λQ k=>⟨_,rfl,k⟩⟩
def Bb:A->A->Option Rr:=kA λi j=>some (.fr (.int (if j > i then j else i)))
def CT:A->A->Option Rr:=kA λi j=>some (.fr (.int (if j<i then j else i)))
theorem E7:eB K (λv w H Q=>∃i j,[v,w]=[V.int i,V.int j]/\Q (.int (if j > i then j else i)) H) Bb:=.scalar λH v w a b q S p h=>by
 replace h:=bx h
 obtain⟨i,j,rfl,rfl,h⟩:=h
 cases S;cases p;cases h
 exact⟨_,_,rfl,λ_=>.int _,λQ k=>⟨_,_,rfl,k⟩⟩
theorem E6:eB K (λv w H Q=>∃i j,[v,w]=[V.int i,V.int j]/\Q (.int (if j<i then j else i)) H) CT:=.scalar λH v w a b q S p h=>by
 replace h:=bx h
 obtain⟨i,j,rfl,rfl,h⟩:=h
 cases S;cases p;cases h
 exact⟨_,_,rfl,λ_=>.int _,λQ k=>⟨_,_,rfl,k⟩⟩
noncomputable def CO:A->Option Rr
 | .int i=>some (.fr (.int i))
 | .bl k=>some (.fr (.int (if k then 1 else 0)))
 |_=>none
theorem ET:lD K (λv H Q=>(∃i,[v]=[V.int i]/\Q (.int i) H)\/∃k,[v]=[V.bl k]/\Q (.int (if k then 1 else 0)) H) CO:=.scalar λH v a q S h=>by
 cases a<;>first|(cases h;done)|skip
 .cases S;cases h;exact⟨_,_,rfl,λ_=>.int _,λQ k=>.inr ⟨_,rfl,k⟩⟩
 .cases S;cases h;exact⟨_,_,rfl,λ_=>.int _,λQ k=>.inl ⟨_,rfl,k⟩⟩
noncomputable def Fo:A->Option (List A)
 | .lst xs=>some xs
 | .tup xs=>some xs
 |_=>none
def sN(a:A):Option Rr:=match Fo a with
 |some xs=>some (.nw (.lst xs))
 |none=>none
def gR(a:A):Option Rr:=match Fo a with
 |some xs=>some (.fr (.tup xs))
 |none=>none
theorem A4:lD K (λv H Q=>∃p ys,[v]=[V.ref p]/\(eX K.K H p ys\/dz K.K H p ys)/\∀l,H l=none->Q (.ref l) (upd H l (.lst ys))) sN:=by
 intro c Y H Z B θ x v a q Q I u h J T k;subst I;obtain⟨L,bl,o⟩:=Bd.open h u J;cases a<;>first|(cases T;done)|skip
 .rename_i xs;cases T;obtain⟨p,vs,rfl,s1,r⟩:=o.2.1 xs rfl;exact⟨p,vs,rfl,.inr (cu (g_same _ _ _) s1),λl hl=>k _ _ trivial (bl.gy hl λG H' sm q=>.lst q (r.sm sm))⟩
 .rename_i xs;cases T;obtain⟨p,vs,rfl,s1,r⟩:=o.1 xs rfl;exact⟨p,vs,rfl,.inl s1,λl hl=>k _ _ trivial (bl.gy hl λG H' sm q=>.lst q (r.sm sm))⟩
theorem v7:lD K (λv H Q=>∃p ys,[v]=[V.ref p]/\((eX K.K H p ys/\∀l,H l=none->Q (.ref l) (upd H l (.tup ys)))\/(dz K.K H p ys/\Q (.ref p) H))) gR:=by
 intro c Y H Z B θ x v a q Q G u h J T k;subst G;obtain⟨L,bl,n⟩:=Bd.open h u J;cases a<;>first|(cases T;done)|skip
 .rename_i xs;cases T;obtain⟨p,vs,rfl,s1,r⟩:=n.2.1 xs rfl;exact⟨p,vs,rfl,.inr ⟨cu (g_same _ _ _) s1,k _ _ trivial (bl.push (.tup s1 r))⟩⟩
 .rename_i xs;cases T;obtain⟨p,vs,rfl,s1,r⟩:=n.1 xs rfl;refine⟨p,vs,rfl,.inl ⟨s1,λl hl=>?_⟩⟩;obtain⟨b2,sm,np⟩:=bl.new (o:=.tup vs) hl;exact k _ _ trivial (b2.push (.tup (.inl (.inl (by rw[cy np (bl.Ja hl)];exact br))) (r.sm sm)))
end
section
variable{c:Cn}{Y:St}{H:Hp}{Z:List Sl}{B:St}{θ:List Sl}
theorem Bd.rO{x:Option V}(e:xs.length=ss.length)(b:Bd c Y H Z (x::(xs++B)) (s::(ss++θ))):Bd c Y H Z (x::B) (s::θ):=by
 obtain⟨L,b⟩:=b;have r:aw c.toKx (c.g H L) H (x::(xs++(B++Y))) (s::(ss++(θ++Z))) L:=by have:=b.rel;simpa[O7] using this
 cases r with
 |cons h r=>rename_i v L';obtain⟨K,L2,J,S,D⟩:=aw.split e r;subst J;have sl:(v++L2).Sublist (v++(K++L2)):=QF (QB _) (TQ _ _);have sm:Sq (c.g H (v++(K++L2))) (c.g H (v++L2)):=cC λa ha=>sl.subset ha;exact⟨v++L2,b.nd.sublist sl,aw.cons (h.sm sm (λ_ _ _ e=>e)) (D.sm sm (λ_ _ _ e=>e)),λp hp=>b.own p (sl.subset hp),b.fr,b.kp,by have:=b.lt;simp at this ⊢;omega,b.hd⟩
theorem Bd.NC{ys:St}(b:Bd c (Y++ys) H Z B θ):Bd c Y H (Z.take Y.length) B θ:=by
 have hl:=b.gS;rw[Pk] at hl;obtain⟨L,b⟩:=b;have r:aw c.toKx (c.g H L) H ((B++Y)++ys) ((θ++Z.take Y.length)++Z.drop Y.length) L:=by have:=b.rel;rw[O7,O7,QE];exact this
 obtain⟨K,L2,J,S,D⟩:=aw.split (by simp[b.lt];omega) r;subst J;have sm:Sq (c.g H (K++L2)) (c.g H K):=cC λa ha=>Ph _ ha;refine⟨K,(Pz.mp b.nd).1,S.sm sm (λ_ _ _ e=>e),λp hp=>b.own p (Ph _ hp),b.fr,λi o h=>?_,b.lt,b.hd⟩;have hi:i<(Z.take Y.length).length:=(O6.mp h).1;rw[Qs] at hi;have h':Z[i]?=some (.pv o):=by rw[List.getElem?_take] at h;split at h;exact h;cases h
 have:=b.kp i o h';rwa[P5 (by omega)] at this
theorem Bd.Cj{n:Nat}(b:Bd c Y H Z B θ):Bd c (Y++PB n none) H (Z++PB n .un) B θ:=by
 have hl:=b.gS;obtain⟨L,b⟩:=b;refine⟨L,b.nd,?_,b.own,b.fr,λi o h=>?_,b.lt,b.hd⟩
 .have:=b.rel.app (lh (k:=c.toKx) (G:=c.g H L) (H:=H) n);simpa[O7] using this
 .by_cases z:i<Z.length
  .rw[P5 z] at h;rw[P5 (by omega)];exact b.kp i o h
  .rw[Qp (by omega)] at h;have:=T3 (PJ h);cases this
end
noncomputable abbrev Mg:=A->List Sl->Option (List Sl)
noncomputable abbrev Ah:=List A->List Sl->Option (List Sl)
inductive Mn(K:Kx)(lo:Nat)(G:Mg)(v:V)(Y:St)(H:Hp)(Q:St->Hp->Prop):Prop
 |mk(c:Cn)(Z:List Sl)(B:St)(θ:List Sl)(a:A)(O:List Sl)(h1:c.toKx=K)(h2:Bd c Y H Z (some v::B) (.fr a::θ))(h3:G a Z=some O)(h4:∀Z' H',Z'.take lo=Y.take lo->Z'.length=Y.length->Bd c Z' H' O B θ->Q Z' H')
inductive NM(K:Kx)(lo:Nat)(G:Ah)(vs:List V)(Y:St)(H:Hp)(Q:St->Hp->Prop):Prop
 |mk(c:Cn)(Z:List Sl)(B:St)(θ:List Sl)(as:List A)(O:List Sl)(h1:c.toKx=K)(h2:vs.length=as.length)(h3:Bd c Y H Z (vs.map some++B) (as.map Sl.fr++θ))(h4:G as Z=some O)(h5:∀Z' H',Z'.take lo=Y.take lo->Z'.length=Y.length->Bd c Z' H' O B θ->Q Z' H')
structure JG(X:Cx)(lo:Nat)(tg:Expr)(G:Mg):Prop where
 p:PG X tg (Mn (kx X) lo G)
structure Jk(X:Cx)(lo:Nat)(tg:List Expr)(G:Ah):Prop where
 p:GH X tg (NM (kx X) lo G)
def bj(i:Nat):Mg:=λa Z=>put i (.fr a) Z
noncomputable def j8:Ah:=λas Z=>match as with
 |[]=>some Z
 |_=>none
noncomputable def cF(g:Mg)(gs:Ah):Ah:=λas Z=>match as with
 |a::as=>match g a Z with
  |some U=>gs as U
  |none=>none
 |[]=>none
noncomputable def jt(n:Nat)(gs:Ah):Mg:=λa Z=>match a with
 | .tup as=>if as.length=n then gs as Z else none
 |_=>none
variable{gs:Ah}{tg iter:Expr}{body:List Stmt}
section
variable{X:Cx}{E:XK}{lo:Nat}
theorem AI(hN:X.N.Nodup)(hi:X.N[i]?=some x)(hx:Loc X.env.scope x)(hl:lo<=i)(hf:X.fn x=true\/X.env.scope.names.lookup x=some .local:=by first|exact .inl rfl|exact .inr rfl|assumption):JG X lo (.Name x pos) (bj i):=⟨λpins s Y H v u Q I r h=>by refine Ce hN hi hx hf pins s Y H v u Q I r ?_;obtain⟨c,Z,B,θ,a,O,ek,b,em,q⟩:=h;exact q _ H (by rw[UP hl]) (by simp) (Bd.put b (λo z=>by cases z) em)⟩
theorem Av:Jk X lo [] j8:=⟨λpins s Y H v u Q I r h=>by
 refine AX pins s Y H v u Q I r ?_;obtain⟨c,Z,B,θ,as,O,G,hl,b,em,q⟩:=h;cases as with
 |nil=>cases em;cases v with|nil=>exact⟨rfl,q Y H rfl rfl b⟩|cons _ _=>simp at hl
 | cons _ _=>cases em⟩
theorem zE{g:Mg}(h1:JG X lo e g)(h2:Jk X lo es gs)(hp:∀{t:TG}{u:Es},PG X e t->GH X es u->GH X (e::es) (DV t u)):Jk X lo (e::es) (cF g gs):=⟨λpins s Y H v u Q I r h=>by
 refine hp h1.p h2.p pins s Y H v u Q I r ?_;obtain⟨c,Z,B,θ,as,O,G,hl,b,em,q⟩:=h;cases as with
 |nil=>cases em
 |cons a as=>
  cases v with
  |nil=>simp at hl
  |cons v vs=>
   unfold cF at em;simp only at em;cases J:g a Z with
   |none=>simp only[J] at em;cases em
   | some U=>simp only[J] at em;refine⟨v,vs,rfl,c,Z,_,_,a,U,G,b,J,λZ' H' x V b1=>⟨c,U,B,θ,as,O,G,by simpa using hl,b1,em,λT D F R b2=>q T D (F.trans x) (R.trans V) b2⟩⟩⟩
theorem Fs{n:Nat}(hc:X.calm=true)(h:Jk X lo es gs)(hn:(assignEach es X.env).length=n:=by rfl)(hst:(assignEach es X.env).findIdx? (·.1)=none:=by rfl):JG X lo (.Tuple es k pos) (jt n gs):=⟨λpins s Y H v u Q I r h'=>by
 refine Fi hc h.p hn hst pins s Y H v u Q I r ?_;obtain⟨c,Z,B,θ,a,O,ek,b,em,q⟩:=h';cases a<;>first|(cases em;done)|skip
 rename_i as;unfold jt at em;simp only at em;split at em
 .rename_i hl;obtain⟨L,bl,i1⟩:=Bd.open (r:=.fr (.tup as)) b trivial rfl;obtain⟨p,vs,rfl,s1,rr⟩:=i1.2.1 as rfl;have:c.K=X.K:=by have:=congrArg Kx.K ek;exact this
  refine⟨p,vs,rfl,by rw[<-this];exact cu (g_same _ _ _) s1,by rw[rr.len];exact hl,c,Z,B,θ,as,O,ek,rr.len,?_,em,q⟩;obtain⟨nd,rel,own,fr,kp,lt,hdd⟩:=bl;exact⟨L,nd,by have:=(aw.cA (H:=H) rr).app rel;simpa[O7] using this,own,fr,kp,by simp[lt,rr.len],hdd⟩
 .cases em⟩
def KS(K:Kx)(J:It)(S:St)(P:List A)(as:List A):Prop:=∀(c:Cn)(Y:St)(H:Hp)(Z:List Sl)(N:St)(F:List Sl)(B:St)(θ:List Sl)(i:Nat),c.toKx=K->N.length=F.length->Bd c Y H Z (N++(S++B)) (F++(P.map Sl.fr++θ))->
 (as.length<=i->J.stop i H)/\∀a,as[i]?=some a->J.go i H/\∀x H',J.iP i H x H'->Bd c Y H' Z (some x::(N++(S++B))) (.fr a::(F++(P.map Sl.fr++θ)))
def LC(K:Kx)(E:XK)(c:Cn)(Y:St)(Z:List Sl)(B:St)(θ:List Sl)(R:It->Hp->Prop):Except Str (List A)->Prop
 | .ok as=>∀J H S P,S.length=P.length->KS K J S P as->Bd c Y H Z (S++B) (P.map Sl.fr++θ)->R J H
 | .error x=>∀C H,K.mg x=some (.ref C)->Bd c Y H Z B θ->E (.ref C) none H
inductive NT(K:Kx)(E:XK)(m:Mi (List A))(Y:St)(H:Hp)(R:It->Hp->Prop):Prop
 |mk(c:Cn)(Z:List Sl)(B:St)(θ:List Sl)(o:Except Str (List A))(O:List Sl)(h1:c.toKx=K)(h2:Bd c Y H Z B θ)(h3:m Z=some (o,O))(h4:LC K E c Y O B θ R o)
structure JI(X:Cx)(E:XK)(tg iter:Expr)(m:Mi (List A)):Prop where
 p:PI X tg iter (NT (kx X) E m)
theorem qB{o:Except Str (List A)}{R:It->Hp->Prop}(q:LC (kx X) E c Y O B θ R o):∀e,o=.error e->∀C H,X.mg e=some (.ref C)->Bd c Y H O B θ->E (.ref C) none H:=λe Z=>by subst Z;exact q
noncomputable def Ay(s:Str):List A:=s.cps.toList.map λc=>.str ⟨#[c]⟩
def Fg:A->Option (List A)
 | .str s=>some (Ay s)
 |a=>Fo a
def da(m:Mi Rr):Mi (List A):=aB m λr Z=>match aS r Z with
 |some (a,O)=>match Fg a with
  |some as=>some (.ok as,O)
  |none=>none
 |none=>none
theorem Bd.mid{a:A}(e:xs.length=ss.length)(b:Bd c Y H Z (xs++(some v::B)) (ss++(.fr a::θ))):∃L,eE c Y H Z (xs++(some v::B)) (ss++(.fr a::θ)) L/\RA c.toKx (c.g H L) v a:=by
 obtain⟨L,b⟩:=b;have r:aw c.toKx (c.g H L) H (xs++(some v::(B++Y))) (ss++(.fr a::(θ++Z))) L:=by have:=b.rel;simpa[O7] using this
 obtain⟨K,L2,J,S,p⟩:=aw.split e r;cases p with
 |cons h Q=>cases h with|fr h=>exact⟨L,b,h⟩
theorem xl{l:Expr}(hl:JE X E l m):JI X E tg l (da m):=⟨λpins s Y H R I h=>by
 refine C9 hl.p pins s Y H R I ?_;obtain⟨c,Z,B,θ,o,O,G,b,em,q⟩:=h;refine aJ G b em (λx v U C P b1 r=>?_) (qB q);cases w:aS x U with
 |none=>simp only[w] at r;cases r
 |some p=>
  obtain⟨a,Z0⟩:=p;simp only[w] at r;have b2:=Bd.aS (xs:=[]) (ss:=[]) rfl b1 P w;cases Q:Fg a with
  |none=>simp only[Q] at r;cases r
  |some as=>
   simp only[Q] at r;cases r;have j:c.K=X.K:=congrArg Kx.K G;cases a<;>first|(cases Q;done)|skip
   .rename_i t;cases Q;have rt:=Bd.top b2 (a:=.str t) rfl;cases rt;refine .inr ⟨t,rfl,q _ C [some (.str t)] [.str t] rfl (λn Z' H' O N F J T i g e A=>?_) b2⟩;obtain⟨L,bl,h⟩:=Bd.mid e A;have hl:(Ay t).length=t.cps.size:=by simp[Ay]
    refine⟨λhi=>by rw[hl] at hi;exact hi,λa ha=>?_⟩;have hi:i<t.cps.size:=by rw[<-hl];exact(O6.mp ha).1
    refine⟨hi,λx f y=>?_⟩;obtain⟨rfl,c,hc,rfl⟩:=y;have:a=.str ⟨#[c]⟩:=by unfold Ay at ha;rw[Pq,Qc,hc] at ha;exact(Pn ha).symm
    subst this;exact bl.push (.str _)
   .cases Q;have rt:=Bd.top b2 (a:=.tup as) rfl;cases rt with
    |tup k S=>
     rename_i p vs;refine .inl ⟨p,rfl,.inr ⟨⟨vs,by rw[<-j];exact k⟩,q _ C [some (.ref p)] [.tup as] rfl (λn Z' H' O N F J T i g e A=>?_) b2⟩⟩;have z:n.K=X.K:=congrArg Kx.K g;obtain⟨L,bl,h⟩:=Bd.mid e A;cases h with
     |tup D V=>
      rename_i us;have sq:dz X.K H' p us:=by rw[<-z];exact cu (g_same _ _ _) D
      refine⟨λhi=>⟨us,sq,by rw[V.len];exact hi⟩,λa ha=>?_⟩;obtain⟨u,h1,h2⟩:=V.ta ha;refine⟨⟨us,u,sq,h1⟩,λx f y=>?_⟩;obtain⟨rfl,y⟩:=y;have:=y us sq;rw[h1] at this;cases this;exact bl.push h2
   .cases Q;have rt:=Bd.top b2 (a:=.lst as) rfl;cases rt with
    |lst k S=>
     rename_i p vs;refine .inl ⟨p,rfl,.inl ⟨⟨vs,by rw[<-j];exact k⟩,q _ C [some (.ref p)] [.lst as] rfl (λn Z' H' O N F J T i g e A=>?_) b2⟩⟩;have z:n.K=X.K:=congrArg Kx.K g;obtain⟨L,bl,h⟩:=Bd.mid e A;cases h with
     |lst D V=>
      rename_i us;have sq:eX X.K H' p us:=by rw[<-z];exact kG (g_same _ _ _) D
      refine⟨λhi=>⟨us,sq,by rw[V.len];exact hi⟩,λa ha=>?_⟩;obtain⟨u,h1,h2⟩:=V.ta ha;refine⟨⟨us,u,sq,h1⟩,λx f y=>?_⟩;obtain⟨rfl,y⟩:=y;have:=y us sq;rw[h1] at this;cases this;exact bl.push h2⟩
noncomputable def dj(lo:Int)(n:Nat):List A:=(Py n).map λi=>.int (lo+(i:Nat))
theorem Gw{lo:Int}{n:Nat}:KS K (Mc lo n) [] [] (dj lo n):=λc Y H Z N F B θ i G e b=>by
 have hl:(dj lo n).length=n:=by simp[dj]
 refine⟨λh=>by rw[hl] at h;exact h,λa ha=>?_⟩;have hi:i<n:=by rw[<-hl];exact(O6.mp ha).1
 refine⟨hi,λx H' y=>?_⟩;obtain⟨rfl,rfl⟩:=y;have:a=.int (lo+i):=by unfold dj at ha;rw[Pq,RE hi] at ha;exact(Pn ha).symm
 subst this;exact b.push λ_=>.int _
def dG(m:Mi Rr):Mi (List A):=aB m λr Z=>match res Z r with
 |some (.int j)=>if -(2^60)<=j/\j<2^60 then some (.ok (dj 0 j.toNat),Z) else none
 |_=>none
theorem CB{a:Expr}{p:Pos}(hg:Gl X "range")(hm:X.mg "range" = none)(ha:JE X E a m)(hs:starEach [a] X.env=[(false,eval a X.env)]:=by rfl)(hs':starEach [a] X.env=(false,eval a X.env)::starEach [] X.env:=by rfl):JI X E tg (.Call (.Name "range" p) [a] [] pos) (dG m):=⟨λpins s Y H R I h=>by
 refine vq hg hm (bA ha.p cS hs') hs pins s Y H R I ?_;obtain⟨c,Z,B,θ,o,O,ek,b,em,q⟩:=h;refine aJ ek b em (λx v U H1 hv b1 em1=>?_) (qB q);cases e1:res U x with
 |none=>simp only[e1] at em1;cases em1
 |some a=>
  have r1:=Bd.rd b1 hv e1;simp only[e1] at em1;cases a<;>first|(cases em1;done)|skip
  rename_i j;simp only at em1;split at em1
  .rename_i hj;cases em1;cases r1;exact⟨j,rfl,by omega,by omega,q _ H1 [] [] rfl Gw b1.drop⟩
  .cases em1⟩
theorem zU{u:Option A}{F:Int->Option α}{r:α} (h:(match u with
   |some (.int k)=>F k
   | _=>none)=some r):∃k,u=some (.int k)/\F k=some r:=by
 split at h
 .rename_i k;exact⟨k,rfl,h⟩
 .cases h
theorem z8{u w:Option A}{F:Int->Int->Option α}{r:α} (h:(match u,w with
 |some (.int i),some (.int j)=>F i j
 | _,_=>none)=some r):∃i j,u=some (.int i)/\w=some (.int j)/\F i j=some r:=by
 split at h
 .rename_i i j;exact⟨i,j,rfl,rfl,h⟩
 .cases h
noncomputable def forL(G:Mg)(b:Ms):List A->Ms
 |[],Z=>some (.nx,Z)
 |a::as,Z=>match G a Z with
  |none=>none
  |some U=>match b U with
   |some (.nx,Z0)=>forL G b as Z0
   |some (.ct,Z0)=>forL G b as Z0
   |some (.bk,Z0)=>some (.nx,Z0)
   |r=>r
def gq(m:Mi (List A))(G:Mg)(b:Ms):Ms:=bz m λas Z=>forL G b as Z
theorem H9{m:Mi (List A)}{G:Mg}{mb:Ms}(hp:PassesOwn (model X.prog X.w) X.A X.env X.xe)(hc:X.calm=true)(hi:JI X E tg iter m)(hg:JG X 0 tg G)(hb:vM X E body mb)
  (hs:∀x,foldedSetIterable iter X.env x=pure x:=by intro _;rfl):JS X E (.For tg iter body [] pos) (gq m G mb):=⟨PS.weaken (Iz hp hc hi.p hg.p hb.p hs) λD Y H h=>by
 obtain⟨c,Z,B,θ,f,O,ek,b,em,q⟩:=h;rcases a8 em with ⟨as,U,e1,e2⟩|⟨e,e1,e2⟩
 .refine⟨c,Z,B,_,_,U,ek,b,e1,λJ H1 S P li it b1=>?_⟩;refine⟨λi m Z' H'=>m=as.length-i/\i<=as.length/\∃R,Bd c Z' H' R (S++B) (P.map Sl.fr++θ.map Sl.fr)/\forL G mb (as.drop i) R=some (f,O),⟨_,rfl,Qm _,U,b1,by simpa using e2⟩,?_⟩;rintro i m Z' H' ⟨rfl,hi,R,bi,ei⟩;obtain⟨i1,i2⟩:=it c Z' H' R [] [] B (θ.map Sl.fr) i ek rfl bi;by_cases hlt:i<as.length
  .have hd:as.drop i=as[i]::as.drop (i+1):=QH hlt;rw[hd] at ei;obtain⟨go,yl⟩:=i2 as[i] (by simp[hlt]);refine .inr ⟨go,λT H2=>∃Z0,Bd c T H2 Z0 (S++B) (P.map Sl.fr++θ.map Sl.fr)/\forL G mb (as.drop (i+1)) Z0=some (f,O),λT H2 ⟨Z0,q1,q2⟩=>⟨as.length-(i+1),by omega,rfl,hlt,Z0,q1,q2⟩,λx H2 y=>?_⟩;have b2:=yl x H2 y;unfold forL at ei;cases eg:G as[i] R with
   |none=>simp only[eg] at ei;cases ei
   |some Z0=>
    simp only[eg] at ei;refine⟨c,R,_,_,as[i],Z0,ek,b2,eg,λV H3 _ _ b3=>?_⟩;cases eb:mb Z0 with
    |none=>simp only[eb] at ei;cases ei
    |some p=>
     obtain⟨f1,Z1⟩:=p;simp only[eb] at ei;refine⟨c,Z0,S++B,P++θ,f1,Z1,ek,by rw[Pp];exact b3,eb,?_⟩;cases f1 with
     |nx=>intro Q H4 b4;rw[Pp] at b4;exact⟨Z1,b4,ei⟩
     |ct=>intro Q H4 b4;rw[Pp] at b4;exact⟨Z1,b4,ei⟩
     |bk=>cases ei;intro Q H4 b4;rw[Pp] at b4;exact q Q H4 (Bd.Be (by simp[li]) b4)
     |rt s=>cases ei;intro v Q H4 hs b4;rw[Pp] at b4;exact q v Q H4 hs (Bd.rO (by simp[li]) b4)
     |ex x=>cases ei;intro C Q H4 hm b4;rw[Pp] at b4;exact q C Q H4 hm (Bd.Be (by simp[li]) b4)
  .have e:i=as.length:=by omega
   subst e;rw[Ry] at ei;cases ei;exact .inl ⟨i1 (Pf _),q Z' H' (Bd.Be (by simp[li]) bi)⟩
 .subst e2;exact⟨c,Z,B,_,_,O,ek,b,e1,λC H1 hm b1=>q C Y H1 hm b1⟩⟩
noncomputable def dN(t:Mi Bool)(b:Ms):Nat->Ms
 |0,_=>none
 |n+1,Z=>match t Z with
  |some (.ok true,U)=>match b U with
   |some (.nx,Z0)=>dN t b n Z0
   |some (.ct,Z0)=>dN t b n Z0
   |some (.bk,Z0)=>some (.nx,Z0)
   |r=>r
  |some (.ok false,U)=>some (.nx,U)
  |some (.error e,U)=>some (.ex e,U)
  |none=>none
def gQ(n:Nat)(t:Mi Bool)(b:Ms):Ms:=dN t b n
theorem yp{n:Nat}{t:Expr}{mb:Ms}(hp:PassesOwn (model X.prog X.w) X.A X.env X.xe)(j:JT X E t mt)(d:vM X E body mb):JS X E (.While t body [] pos) (gQ n mt mb):=⟨PS.weaken (xk hp j.p d.p) λD Y H h=>by
 obtain⟨c,Z,B,θ,f,O,G,b,em,q⟩:=h;refine⟨λm Z' H'=>∃R,Bd c Z' H' R B (θ.map Sl.fr)/\dN mt mb m R=some (f,O),⟨n,Z,b,em⟩,?_⟩;rintro m Z' H' ⟨R,V,y⟩;cases m with
 |zero=>cases y
 |succ m=>
  unfold dN at y;cases z:mt R with
  |none=>simp only[z] at y;cases y
  |some p=>
   obtain⟨o,U⟩:=p;refine⟨c,R,B,_,o,U,G,V,z,?_⟩;cases o with
   |error e=>simp only[z] at y;cases y;exact λC i hm b1=>q C Z' i hm b1
   |ok k=>
    intro i b1;cases k with
    |false=>simp only[z] at y;cases y;rw[if_neg (by decide)];exact q Z' i b1
    |true=>
     simp only[z] at y;rw[if_pos rfl];refine⟨λT r=>∃Z0,Bd c T r Z0 B (θ.map Sl.fr)/\dN mt mb m Z0=some (f,O),λT r w=>⟨m,S9 _,w⟩,?_⟩;cases eb:mb U with
     |none=>simp only[eb] at y;cases y
     |some p=>
      obtain⟨S,Z1⟩:=p;simp only[eb] at y;refine⟨c,U,B,θ,S,Z1,G,b1,eb,?_⟩;cases S with
      |nx=>exact λQ g L=>⟨Z1,L,y⟩
      |ct=>exact λQ g L=>⟨Z1,L,y⟩
      |bk=>cases y;exact λQ g L=>q Q g L
      |rt s=>cases y;exact λv Q g N L=>q v Q g N L
      | ex x=>cases y;exact λC Q g hm L=>q C Q g hm L⟩
end
theorem cc(r:Rr)(v:V)(t:St)(u:List Sl):bp r v t=bp r v []++t/\bh r u=bh r []++u/\(bp r v []).length=(bh r []).length:=by cases r<;>exact⟨rfl,rfl,rfl⟩
theorem nV:100000<sizeLine:=by rw[sizeLine_eq];decide
def bY(G:Mg)(t:Mi Bool)(e:Mi Rr):List A->List A->List Sl->Option (List A×List Sl)
 |[],acc,Z=>some (acc,Z)
 |a::as,acc,Z=>match G a Z with
  |none=>none
  |some U=>match t U with
   |some (.ok true,Z0)=>match e Z0 with
    |some (.ok r,Z1)=>match aS r Z1 with
     |some (d,I)=>bY G t e as (acc++[d]) I
     |none=>none
    |_=>none
   |some (.ok false,Z0)=>bY G t e as acc Z0
   |_=>none
inductive JV(G:Mg)(t:Mi Bool)(e:Mi Rr)(a:A)(as acc:List A)(Z:List Sl)(r:List A×List Sl):Prop
 |skip{U Z0:List Sl}(g:G a Z=some U)(k:t U=some (.ok false,Z0))(q:bY G t e as acc Z0=some r)
 |take{d:A}{u:Rr}{U Z0 Z1 I:List Sl}(g:G a Z=some U)(k:t U=some (.ok true,Z0))(m:e Z0=some (.ok u,Z1))(f:aS u Z1=some (d,I))(q:bY G t e as (acc++[d]) I=some r)
theorem uT{G:Mg}{t:Mi Bool}{e:Mi Rr}{a:A}{as acc:List A}{r:List A×List Sl}(h:bY G t e (a::as) acc Z=some r):JV G t e a as acc Z r:=by
 unfold bY at h;split at h
 .cases h
 .rename_i U H;split at h
  .rename_i Z0 z;split at h
   .rename_i u Z1 Y;split at h
    .rename_i d I R;exact .take H z Y R h
    .cases h
   .cases h
  .rename_i Z0 z;exact .skip H z h
  .cases h
def bF:Mi Bool:=j3 true
def bV(n:Nat)(H:Mi (List A))(G:Mg)(t:Mi Bool)(e:Mi Rr):Mi Rr:=aB H λas Z=>if as.length<=100000 then match bY G t e as [] (Z++PB n .un) with
 |some (ys,O)=>some (.ok (.nw (.lst ys)),O.take Z.length)
 |none=>none else none
structure JF(X:Cx)(E:XK)(ifs:List Expr)(m:Mi Bool):Prop where
 p:PF X ifs (vJ (kx X) E m)
variable{me mk:Mi Rr}{lo:Nat}{elt ek:Expr}{ifs:List Expr}{px apos cpos p1:Pos}
section
variable{X:Cx}{E:XK}
theorem HB:JF X E [] bF:=⟨λpins s Y H Q I h=>by refine Gn pins s Y H Q I ?_;obtain⟨c,Z,B,θ,o,O,ek,b,em,q⟩:=h;cases em;exact q H b⟩
theorem ER{t:Expr}{m:Mi Bool}(h:JT X E t m):JF X E [t] m:=⟨GU h.p⟩
noncomputable abbrev jH:XK:=λ_ _ _=>False
theorem vE{n:Nat}{G:Mg}{S:St}{u:Hp}{U Z0:List Sl}{P as ys:List A}{J:It}(s:Y.length=lo)(ek:c.toKx=kx X)(li:S.length=P.length)
  (it:∀Y H Z N F i,N.length=F.length->Bd c Y H Z (N++(S++B)) (F++(P.map Sl.fr++θ))->(as.length<=i->J.stop i H)/\∀a,as[i]?=some a->J.go i H/\∀x H',J.iP i H x H'->Bd c Y H' Z (some x::(N++(S++B))) (.fr a::(F++(P.map Sl.fr++θ))))
  (b1:Bd c Y u U (S++B) (P.map Sl.fr++θ))(K:as.length<=100000)(ec:bY G mt me as [] (U++PB n .un)=some (ys,Z0))(q:Mu (kx X) E c Y (Z0.take U.length) B θ Q (.ok (.nw (.lst ys)))):
  xo J (Mn (kx X) lo G) (vJ (kx X) jH mt) (i4 (kx X) jH me) Q (Y++PB n none) u:=by
 have z:Y.length=U.length:=b1.gS;refine⟨λi m Z' vs H'=>m=as.length-i/\i<=as.length/\Z'.take lo=Y/\∃R acc,vs.length=acc.length/\acc.length<=i/\Bd c Z' H' R (vs.reverse.map some++(S++B)) (acc.reverse.map Sl.fr++(P.map Sl.fr++θ))/\bY G mt me (as.drop i) acc R=some (ys,Z0),
  ⟨_,rfl,Qm _,by rw[<-s,List.take_left],_,[],rfl,Qm _,b1.Cj,by simpa using ec⟩,?_⟩
 rintro i m Z' vs H' ⟨rfl,hi,htk,R,acc,lv,la,j,h⟩;refine⟨by have:=hY;omega,?_⟩;obtain⟨i1,i2⟩:=it Z' H' R (vs.reverse.map some) (acc.reverse.map Sl.fr) i (by simp[lv]) j;by_cases O:i<as.length
 .have hd:as.drop i=as[i]::as.drop (i+1):=QH O;rw[hd] at h;obtain⟨go,yl⟩:=i2 as[i] (by simp[O]);refine .inr ⟨go,λT r D=>T.take lo=Y/\∃Z1 b,r.length=b.length/\b.length<=i+1/\Bd c T D Z1 (r.reverse.map some++(S++B)) (b.reverse.map Sl.fr++(P.map Sl.fr++θ))/\bY G mt me (as.drop (i+1)) b Z1=some (ys,Z0),
   λT r D ⟨q0,Z1,b,q1,q2,q3,q4⟩=>⟨as.length-(i+1),by omega,rfl,O,q0,Z1,b,q1,q2,q3,q4⟩,λx D y=>?_⟩
  have b2:=yl x D y;have fin:∀{Z1 I:List Sl}{k:Bool},G as[i] R=some Z1->mt Z1=some (.ok k,I)->(∀V g,V.take lo=Y->Bd c V g I (vs.reverse.map some++(S++B)) (acc.reverse.map Sl.fr++(P.map Sl.fr++θ))->if k=true then i4 (kx X) jH me V g λv w=>V.take lo=Y/\∃Z1 b,(vs++[v]).length=b.length/\b.length<=i+1/\Bd c V w Z1 ((vs++[v]).reverse.map some++(S++B)) (b.reverse.map Sl.fr++(P.map Sl.fr++θ))/\bY G mt me (as.drop (i+1)) b Z1=some (ys,Z0) else V.take lo=Y/\∃Z1 b,vs.length=b.length/\b.length<=i+1/\Bd c V g Z1 (vs.reverse.map some++(S++B)) (b.reverse.map Sl.fr++(P.map Sl.fr++θ))/\bY G mt me (as.drop (i+1)) b Z1=some (ys,Z0))->Mn (kx X) lo G x Z' D λV l=>vJ (kx X) jH mt V l λk g=>if k=true then i4 (kx X) jH me V g λv w=>V.take lo=Y/\∃Z1 b,(vs++[v]).length=b.length/\b.length<=i+1/\Bd c V w Z1 ((vs++[v]).reverse.map some++(S++B)) (b.reverse.map Sl.fr++(P.map Sl.fr++θ))/\bY G mt me (as.drop (i+1)) b Z1=some (ys,Z0) else V.take lo=Y/\∃Z1 b,vs.length=b.length/\b.length<=i+1/\Bd c V g Z1 (vs.reverse.map some++(S++B)) (b.reverse.map Sl.fr++(P.map Sl.fr++θ))/\bY G mt me (as.drop (i+1)) b Z1=some (ys,Z0):=
   λL t f=>⟨c,R,_,_,as[i],_,ek,b2,L,λV l o l3 b3=>⟨c,_,_,_,.ok _,_,ek,b3,t,λg C=>f V g (o.trans htk) C⟩⟩
  cases uT h with
  |skip L t h=>exact fin L t λV g o C=>⟨o,_,acc,lv,by omega,C,h⟩
  |take L t ee ef h=>exact fin L t λV g o C=>⟨c,_,_,_,_,_,ek,C,ee,λv w hv b5=>⟨o,_,_,by simp[lv],by simp;omega,by simpa using Bd.aS (xs:=[]) (ss:=[]) rfl b5 hv ef,h⟩⟩
 .have e:i=as.length:=by omega
  subst e;rw[Ry] at h;cases h;refine .inl ⟨i1 (Pf _),λp hp=>?_⟩;have b7:=Bd.zO j (by simp[lv]) hp vs ys rJ;have d:=Bd.rO (by simp[li]) b7;have es:Z'=Y++Z'.drop lo:=by rw[<-htk];exact(QE _ _).symm
  rw[es] at d;have b9:=d.NC;rw[z] at b9;exact q _ _ trivial b9
theorem mH{n:Nat}{v:Mi (List A)}{G:Mg}(Y:St)(H:Hp)(Q:VK)(s:Y.length=lo)(h:i4 (kx X) E (bV n v G mt me) Y H Q):
  xy n (NT (kx X) E v) (Mn (kx X) lo G) (vJ (kx X) jH mt) (i4 (kx X) jH me) Y H Q:=by
 obtain⟨c,Z,B,θ,o,O,ek,b,em,q⟩:=h;rcases bind_some em with ⟨as,U,L,x⟩|⟨e,L,x⟩
 .refine⟨c,Z,B,θ,_,U,ek,b,L,λJ u S P y it b1=>?_⟩;split at x
  .rename_i K;cases R:bY G mt me as [] (U++PB n .un) with
   |none=>simp only[R] at x;cases x
   |some p=>obtain⟨ys,Z0⟩:=p;simp only[R] at x;cases x;exact vE s ek y (λY H Z N F i l b=>it c Y H Z N F B θ i ek l b) b1 K R q
  .cases x
 .subst x;exact⟨c,Z,B,θ,_,O,ek,b,L,λC u hm b1=>q C u hm b1⟩
theorem B7{sc:Scope}{mi:Mi (List A)}{G:Mg}(hc:X.calm=true)(S:eQ X.N N k sc X.env.scope)(hlo:X.N.length=lo)(hi:JI X E tg iter mi)
  (hg:∀cl C s H fp,JG (gJ X N sc cl C s H fp) lo tg G)(ht:∀cl C s H fp,JF (gJ X N sc cl C s H fp) jH ifs mt)(he:∀cl C s H fp,JE (gJ X N sc cl C s H fp) jH elt me)(hs:∀x,foldedSetIterable iter X.env x=pure x:=by intro _;rfl):
  JE X E (.ListComp elt [⟨tg,iter,ifs,0⟩] sc pos) (bV k mi G mt me):=
 ⟨λpins s Y H Q I h=>A0 hc S hi.p (λcl C s H fp=>(hg cl C s H fp).p) (λcl C s H fp=>(ht cl C s H fp).p) (λcl C s H fp=>(he cl C s H fp).p) hs pins s Y H Q I (mH Y H Q (I.len.trans hlo) h)⟩
theorem Bu{spos:Pos}{sc:Scope}{mi:Mi (List A)}{G:Mg}(hc:X.calm=true)(S:eQ X.N N k sc X.env.scope)(hlo:X.N.length=lo)(hN:X.N.Nodup)(hx:X.N[i]?=some x)
  (hl:X.env.scope.names.lookup x=some .local)(hsw:swapsWith (.ListComp elt [⟨tg,iter,ifs,0⟩] sc pos) (some (.Name x px)) spos.line X.env=pure true)(hi:JI X E tg iter mi)
  (hg:∀cl C s H fp,JG (gJ X N sc cl C s H fp) lo tg G)(ht:∀cl C s H fp,JF (gJ X N sc cl C s H fp) jH ifs mt)(he:∀cl C s H fp,JE (gJ X N sc cl C s H fp) jH elt me)(hs:∀x,foldedSetIterable iter X.env x=pure x:=by intro _;rfl):
  JS X E (.Assign [.Name x px] (.ListComp elt [⟨tg,iter,ifs,0⟩] sc pos) spos) (aE i (bV k mi G mt me)):=
 ⟨λpins s Y H D I h=>Cy hc S hN hx hl hsw hi.p (λcl C s H fp=>(hg cl C s H fp).p) (λcl C s H fp=>(ht cl C s H fp).p) (λcl C s H fp=>(he cl C s H fp).p) hs pins s Y H D I (by
  obtain⟨c,Z,B,θ,f,O,ek,b,em,q⟩:=h;refine mH (E:=E) Y H _ (I.len.trans hlo) (dH ek b em q λr v U H1 hv b1 em1=>?_);cases e1:uy r U with
  |none=>simp only[e1] at em1;cases em1
  |some p=>
   obtain⟨t,Z0⟩:=p;simp only[e1] at em1;obtain⟨b2,ht⟩:=Bd.uy hv b1 e1;cases e2:put i t Z0 with
   |none=>simp only[e2] at em1;cases em1
   | some Z1=>simp only[e2] at em1;cases em1;exact q _ H1 (Bd.put b2 ht e2))⟩
noncomputable def aC(Z:List Sl)(i:Nat):Option LO:=match Z[i]? with
 |some (.lv o)=>some o
 |some (.pv o)=>some o
 |_=>none
noncomputable def setAt(Z:List Sl)(i:Nat)(o:LO):List Sl:=match Z[i]? with
 |some (.pv _)=>Z.set i (.pv o)
 |_=>Z.set i (.lv o)
theorem eE.live(b:eE c Y H Z B θ L)(h:aC Z i=some o)(o':LO)(u:HO):
  ∃p,Y[i]?=some (some (.ref p))/\LR c.toKx (c.g H L) H p o/\((∀H',H' p=some u->LR c.toKx (c.g H L) H' p o')->Bd c Y (upd H p u) (setAt Z i o') B θ):=by
 unfold aC at h;unfold setAt;cases es:Z[i]? with
 |none=>simp only[es] at h;cases h
 |some s=>
  cases s with
  |un=>simp only[es] at h;cases h
  |fr a=>simp only[es] at h;cases h
  |lv O=>simp only[es] at h;cases h;exact b.change es (.inl ⟨rfl,rfl⟩)
  |pv O=>simp only[es] at h;cases h;exact b.change es (.inr ⟨rfl,rfl⟩)
theorem Bd.B5{a:A}(b:Bd c Y H Z (some v::B) (.fr a::θ)):∃L,eE c Y H Z B θ L/\RA c.toKx (c.g H L) v a:=by obtain⟨L,bl,r⟩:=Bd.cA (vs:=[v]) (as:=[a]) b rfl;cases r with|cons h _=>exact⟨L,bl,h⟩
def fg(i:Nat)(m:Mi Rr):Mi Rr:=aB m λr Z=>match aS r Z with
 |some (a,U)=>match aC U i with
  |some (.lst xs)=>if xs.length<=100000 then some (.ok (.fr .non),setAt U i (.lst (xs++[a]))) else none
  |_=>none
 |none=>none
theorem du{xs:List A}(b:Bd c Y H Z B θ)(h:aC Z i=some (.lst xs)):∃p vs,Y[i]?=some (some (.ref p))/\H p=some (.lst vs):=by obtain⟨L,b⟩:=b;obtain⟨p,h1,h2,_⟩:=b.live h (.lst xs) (.lst []);cases h2 with|lst e r=>exact⟨p,_,h1,e⟩
def D8(Z:List Sl)(i:Nat):Bool:=match aC Z i with
 |some (.lst _)=>true
 |_=>false
def fq(i:Nat)(m:Mi Rr):Mi Rr:=λZ=>if D8 Z i then m Z else none
theorem il(h:D8 Z i=true):∃xs,aC Z i=some (.lst xs):=by
 unfold D8 at h;cases e:aC Z i with
 |none=>rw[e] at h;cases h
 |some o=>cases o with
  |lst xs=>exact⟨xs,rfl⟩
  |dic _=>rw[e] at h;cases h
  |dit _=>rw[e] at h;cases h
  |obj _ _=>rw[e] at h;cases h
theorem vC(hN:X.N[i]?=some x)(hv:qy X.env.scope x)(hd:eG x)(hcd:t9 x)(he:JE X E e m)
  (hbase:attributeBase (.Name x px) "append" X.env (eval (.Name x px) X.env)=eval (.Name x px) X.env:=by rfl)
  (hfew:((backTo cpos (starEach [e] X.env)).all (λx=>!x.1)&&(backToKw cpos (keywordEach [] X.env)).all (λx=>x.1.isSome)&&decide (([e]:List Expr).length+([]:List Keyword).length+(if ([]:List Keyword).isEmpty then 0 else 1)<30))=true:=by rfl)
  (hline:(apos.endLine==cpos.line)=true:=by rfl)(hs:starEach [e] X.env=(false,eval e X.env)::starEach [] X.env:=by rfl)(hplain:(backTo cpos (starEach [] X.env)).any (·.1)=false:=by rfl):
  JE X E (.Call (.Attribute (.Name x px) "append" apos) [e] [] cpos) (fq i (fg i m)):=
 ⟨PE.weaken (uq QN PySem.F.slot_list_append PySem.F.type_list_append u3 (dq hN hv hd hcd) (bA he.p cS hs) hbase hfew hline hs hplain) λY H Q h=>by
  obtain⟨c,Z,B,θ,o,O,ek,b,em,q⟩:=h;unfold fq at em;split at em
  .rename_i hl;obtain⟨xs0,hl⟩:=il hl;obtain⟨p,vs,hp,hH⟩:=du b hl;refine⟨_,hp,.inl ⟨rfl,vs,.inl (.inl hH)⟩,?_⟩;refine aJ ek b em (λr v U H1 hv b1 em1=>?_) (aH q);cases e1:aS r U with
   |none=>simp only[e1] at em1;cases em1
   |some pr=>
    obtain⟨a,Z0⟩:=pr;simp only[e1] at em1;have b2:=Bd.aS (xs:=[]) (ss:=[]) rfl b1 hv e1;cases e2:aC Z0 i with
    |none=>simp only[e2] at em1;cases em1
    |some lo=>
     cases lo with
     |dic _=>simp only[e2] at em1;cases em1
     |dit _=>simp only[e2] at em1;cases em1
     |obj _ _=>simp only[e2] at em1;cases em1
     |lst xs=>
      simp only[e2] at em1;split at em1
      .rename_i hx;cases em1;obtain⟨L,bl,ra⟩:=Bd.B5 b2;obtain⟨p',h1,h2,h3⟩:=bl.live e2 (.lst (xs++[a])) (.lst ((match H1 p with|some (.lst ws)=>ws|_=>[])++[v]));rw[hp] at h1;cases h1;cases h2 with
       |lst e rr=>rename_i ws;simp only[e] at h3;refine⟨p,ws,v,rfl,rfl,e,by have:=rr.len;have:=nV;omega,q _ _ trivial (Bd.push (h3 λH' hh=>.lst hh (rr.snoc ra)) λ_=>.non)⟩
      .cases em1
  .cases em⟩
def jY(i:Nat)(mk m:Mi Rr):Ms:=bz m λr I=>if D8 I i then bz mk (λH=>λZ=>match aS r Z with
 |some (a,U)=>match res U H,aC U i with
  |some (.int k),some (.lst xs)=>match nR xs.length k with
   |some j=>some (.nx,setAt U i (.lst (xs.set j a)))
   |none=>none
  |_,_=>none
 | none=>none) I else none
theorem yS(P:X.N[i]?=some x)(u:qy X.env.scope x)(hd:eG x)(g:t9 x)(hk:JE X E ek mk)(T:JE X E e m)
  (hp:∀{to z F:TE},PE X (.Name x px) to->PE X ek z->PE X e F->PS X (.Assign [.Subscript (.Name x px) ek p1] e pos) (xf F (Jb to z D6))):JS X E (.Assign [.Subscript (.Name x px) ek p1] e pos) (jY i mk m):=
 ⟨PS.weaken (hp (dq P u hd g) hk.p T.p) λD Y H h=>by
  obtain⟨c,Z,B,θ,f,O,ek,b,em,q⟩:=h;refine dH ek b em q λr v U H1 u b1 s=>?_;split at s
  .rename_i hl;obtain⟨S,hl⟩:=il hl;obtain⟨p,vs,hp,hH⟩:=du b1 hl;refine⟨_,hp,?_⟩;rcases a8 s with ⟨t,Z0,J,l⟩|⟨ee,J,l⟩
   .refine⟨c,U,_,_,_,Z0,ek,b1,J,λw A G b2=>?_⟩;cases R:aS r Z0 with
    |none=>simp only[R] at l;cases l
    |some d=>
     obtain⟨a,Z1⟩:=d;simp only[R] at l;have I:Bd c Y A Z1 (bp t w (some v::B)) (bh t (.fr a::θ.map Sl.fr)):=by obtain⟨g1,g2,g3⟩:=cc t w (bp r v B) (bh r (θ.map Sl.fr));obtain⟨g4,g5,_⟩:=cc t w (some v::B) (.fr a::θ.map Sl.fr);rw[g4,g5];rw[g1,g2] at b2;exact Bd.aS g3 b2 u R
     cases y:res Z1 t with
     |none=>simp only[y] at l;cases l
     |some ak=>
      cases ak<;>first|(simp only[y] at l;cases l;done)|skip
      rename_i k;have n:=Bd.rd I G y;cases n;cases Q:aC Z1 i with
      |none=>simp only[y,Q] at l;cases l
      |some lo=>
       cases lo with
       |dic _=>simp only[y,Q] at l;cases l
       |dit _=>simp only[y,Q] at l;cases l
       |obj _ _=>simp only[y,Q] at l;cases l
       |lst xs=>
        simp only[y,Q] at l;cases V:nR xs.length k with
        |none=>simp only[V] at l;cases l
        |some j=>
         simp only[V] at l;cases l;obtain⟨L,bl,ra⟩:=Bd.B5 I.drop;obtain⟨p',h1,h2,h3⟩:=bl.live Q (.lst (xs.set j a)) (.lst ((match A p with|some (.lst o)=>o|_=>[]).set j v));rw[hp] at h1;cases h1;cases h2 with
         |lst e K=>rename_i o;simp only[e] at h3;exact⟨p,o,k,j,rfl,rfl,e,by rw[K.len];exact V,q Y _ (h3 λH' hh=>.lst hh (K.set ra j))⟩
   .subst l;exact⟨c,U,_,_,_,O,ek,b1,J,λC A hm b2=>q C Y A hm b2.drop⟩
  .cases s⟩
def CQ(Z:List Sl)(i:Nat):Bool:=match aC Z i with
 |some (.dic _)=>true
 |_=>false
theorem u9(h:CQ Z i=true):∃xs,aC Z i=some (.dic xs):=by
 unfold CQ at h;cases e:aC Z i with
 |none=>rw[e] at h;cases h
 |some o=>cases o with
  |dic xs=>exact⟨xs,rfl⟩
  |lst _=>rw[e] at h;cases h
  |dit _=>rw[e] at h;cases h
  |obj _ _=>rw[e] at h;cases h
theorem z9{xs:List (Key×A)}(b:Bd c Y H Z B θ)(h:aC Z i=some (.dic xs)):∃p vs,Y[i]?=some (some (.ref p))/\H p=some (.dK vs):=by obtain⟨L,b⟩:=b;obtain⟨p,h1,h2,_⟩:=b.live h (.dic xs) (.lst []);cases h2 with|dic e r=>exact⟨p,_,h1,e⟩
def mK(i:Nat)(mk m:Mi Rr):Ms:=bz m λr I=>if CQ I i then bz mk (λH=>λZ=>match aS r Z with
 |some (a,U)=>match res U H,aC U i with
  |some ka,some (.dic kvs)=>match fO ka with
   |some y=>if kvs.length<=100000 then some (.nx,setAt U i (.dic (lG kvs y a))) else none
   |none=>none
  |_,_=>none
 | none=>none) I else none
theorem B8(hu:X.A.units+1<cLine)(hN:X.N[i]?=some x)(hv:qy X.env.scope x)(hd:eG x)(hcd:t9 x)(hk:JE X E ek mk)(he:JE X E e m)
  (hs:swapsWith e (some (.Subscript (.Name x px) ek p1)) pos.line X.env=pure false:=by rfl):JS X E (.Assign [.Subscript (.Name x px) ek p1] e pos) (mK i mk m):=
 ⟨PS.weaken (A3 hu (dq hN hv hd hcd) hk.p he.p hs) λD Y H h=>by
  obtain⟨c,Z,B,θ,f,O,ek,b,em,q⟩:=h;refine dH ek b em q λr v U H1 hv b1 em1=>?_;split at em1
  .rename_i hl;obtain⟨xs0,hl⟩:=u9 hl;obtain⟨p,vs,hp,hH⟩:=z9 b1 hl;refine⟨_,hp,?_⟩;rcases a8 em1 with ⟨rk,Z0,e1,e2⟩|⟨ee,e1,e2⟩
   .refine⟨c,U,_,_,_,Z0,ek,b1,e1,λw H2 hw b2=>?_⟩;cases ef:aS r Z0 with
    |none=>simp only[ef] at e2;cases e2
    |some pr=>
     obtain⟨a,Z1⟩:=pr;simp only[ef] at e2;have b3:Bd c Y H2 Z1 (bp rk w (some v::B)) (bh rk (.fr a::θ.map Sl.fr)):=by obtain⟨g1,g2,g3⟩:=cc rk w (bp r v B) (bh r (θ.map Sl.fr));obtain⟨g4,g5,_⟩:=cc rk w (some v::B) (.fr a::θ.map Sl.fr);rw[g4,g5];rw[g1,g2] at b2;exact Bd.aS g3 b2 hv ef
     cases er:res Z1 rk with
     |none=>simp only[er] at e2;cases e2
     |some ka=>
      have rk':=Bd.rd b3 hw er;cases el:aC Z1 i with
      |none=>simp only[er,el] at e2;cases e2
      |some lo=>
       cases lo with
       |lst _=>simp only[er,el] at e2;cases e2
       |dit _=>simp only[er,el] at e2;cases e2
       |obj _ _=>simp only[er,el] at e2;cases e2
       |dic kvs=>
        simp only[er,el] at e2;cases ej:fO ka with
        |none=>simp only[ej] at e2;cases e2
        |some y=>
         simp only[ej] at e2;split at e2
         .rename_i h100;cases e2;obtain⟨L,bl,ra⟩:=Bd.B5 b3.drop;obtain⟨p',h1,h2,h3⟩:=bl.live el (.dic (lG kvs y a)) (.dK (putK (match H2 p with|some (.dK ws)=>ws|_=>[]) y v));rw[hp] at h1;cases h1;cases h2 with
          |dic e rr=>rename_i ws;simp only[e] at h3;exact⟨p,_,rfl,.inl ⟨ws,y,e,gL rk' ej,by have:=rr.len;have:=nV;omega,rfl⟩,q Y _ (h3 λH' hh=>.dic hh (rr.put y ra))⟩
         .cases e2
   .subst e2;exact⟨c,U,_,_,_,O,ek,b1,e1,λC H2 hm b2=>q C Y H2 hm b2.drop⟩
  .cases em1⟩
noncomputable def sY:Mi Rr:=λZ=>some (.ok (.nw (.dic [])),Z)
theorem CG{pos}:JE X E (.Dict [] [] pos) sY:=⟨PE.weaken wX λY H Q h=>by obtain⟨c,Z,B,θ,o,O,ek,b,em,q⟩:=h;cases em;intro p hp;obtain⟨L,bl⟩:=b;exact q _ _ trivial (bl.gy hp λG H' sm x=>.dic x .nil)⟩
def lU(Y mk b:Mi Rr):Mi Rr:=aB Y λd I=>match res I d with
 | some (.dic _)=>aB mk (λk=>aB b λx=>λZ=>match res Z d,res Z k with
  |some (.dic kvs),some ka=>match fO ka with
   |some y=>match fC kvs y with
    |some a=>some (.ok (.fr a),Z)
    |none=>match aS x Z with
     |some (a,U)=>some (.ok (.fr a),U)
     |none=>none
   |none=>none
  | _,_=>none) I
 |_=>none
theorem CM{o f:Expr}{j N:Mi Rr}(S:X.A.units+1<cLine)(ho:JE X E o j)(i:JE X E e mk)(hf:JE X E f N)(m:M2 X o "get" apos e f cpos):JE X E (.Call (.Attribute o "get" apos) [e,f] [] cpos) (lU j mk N):=
 ⟨PE.weaken (xO S ho.p i.p hf.p m) λY H Q h=>by
  obtain⟨c,Z,B,θ,o,O,ek,b,em,q⟩:=h;refine aJ ek b em (λd v U H1 P b1 s=>?_) (aH q);cases n:res U d with
  |none=>simp only[n] at s;cases s
  |some a0=>
   cases a0<;>first|(simp only[n] at s;cases s;done)|skip
   rename_i g;simp only[n] at s;obtain⟨L0,bl0,i0⟩:=Bd.open b1 P n;obtain⟨p,r,rfl,s0,_⟩:=i0.2.2 g rfl;refine⟨p,rfl,.inl ⟨r,s0⟩,?_⟩;refine aJ ek b1 s (λk w Z0 H2 G b2 C=>?_) (cM (aH q));refine aJ ek b2 C (λx z Z1 V hz R t=>?_) (cM (cM (aH q)));cases J:res Z1 d with
   |none=>simp only[J] at t;cases t
   |some a1=>
    cases a1<;>first|(simp only[J] at t;cases t;done)|skip
    rename_i kvs;cases l:res Z1 k with
    |none=>simp only[J,l] at t;cases t
    |some ka=>
     simp only[J,l] at t;cases F:fO ka with
     |none=>simp only[F] at t;cases t
     |some y=>
      simp only[F] at t;have T:=Bd.rd R.drop G l;obtain⟨L,bl,i1,_⟩:=Bd.qA R.drop P G J l;obtain⟨p',vs,ep,s1,rr⟩:=i1.2.2 kvs rfl;cases ep;rcases rr.get y with ⟨u,a,h1,h2,h3⟩|⟨h1,h2⟩
      .simp only[h2] at t;cases t;exact⟨some u,.inl ⟨vs,y,s1,gL T F,h1.symm⟩,q u V trivial (bl.push h3)⟩
      .simp only[h2] at t;cases K:aS x Z1 with
       |none=>simp only[K] at t;cases t
       |some pr=>
        obtain⟨a,I⟩:=pr;simp only[K] at t;cases t;have D:=Bd.aS (xs:=[]) (ss:=[]) rfl R hz K;refine⟨none,.inl ⟨vs,y,s1,gL T F,h1.symm⟩,q z V trivial ?_⟩;obtain⟨g1,g2,g3⟩:=cc k w (bp d (.ref p) B) (bh d θ);obtain⟨g4,g5,g6⟩:=cc d (.ref p) B θ;have D:Bd c Y V O (some z::((bp k w []++bp d (.ref p) [])++B)) (.fr a::((bh k []++bh d [])++θ)):=by have:=D;rw[g1,g4,g2,g5] at this;simpa[O7] using this
        exact Bd.rO (by simp[g3,g6]) D⟩
def z0(x:Str)(m:Mi (List Rr)):Ms:=bz m λrs Z=>if rs.length<=10 then some (.ex x,Z) else none
theorem zb{C:Addr}{m:Mi (List Rr)}{np:Pos}(xc:Xc X E)(hc:X.calm=true)(hg:Gl X x)(hm:X.mg x=some (.ref C))(hex:Rq X.K C tj "ValueError.__new__" = true)(ha:JA X E (e::es) m)(hd:eG x)
  (he:starEach (e::es) X.env=(false,eval e X.env)::starEach es X.env:=by rfl)(hpl:(backTo cpos (starEach es X.env)).any (·.1)=false:=by rfl):JS X E (.Raise (some (.Call (.Name x np) (e::es) [] cpos)) none pos) (z0 x m):=
 ⟨PS.weaken (v8 xc hc hg hm hex ha.p hd he hpl) λD Y H h=>by
  obtain⟨c,Z,B,θ,f,O,ek,b,em,q⟩:=h;rcases a8 em with ⟨rs,U,e1,e2⟩|⟨ee,e1,e2⟩
  .split at e2
   .rename_i hl;cases e2;exact⟨c,Z,B,_,_,_,ek,b,e1,λvs H1 hv b1=>⟨by have:=hv.len;have:=hY;omega,q C Y H1 hm (Bd.drops hv.len b1)⟩⟩
   .cases e2
  .subst e2;exact⟨c,Z,B,_,_,O,ek,b,e1,λC' H1 hm' b1=>q C' Y H1 hm' b1⟩⟩
end
noncomputable def qJ(a b:Str):Bool:=!Ug b.cps.toList a.cps.toList
def aV(l:List Str):List Str:=l.mergeSort qJ
theorem kg(a b:Str):qJ a b=decide (¬ b.cps.toList<a.cps.toList):=by unfold qJ;rw[We,decide_not]
theorem l5(a b c:Str)(h1:qJ a b=true)(h2:qJ b c=true):qJ a c=true:=by rw[kg,decide_eq_true_eq] at *;intro h;exact(Wf.negTrans c.cps.toList b.cps.toList a.cps.toList (decide_eq_true h)).elim (λh=>h2 (of_decide_eq_true h)) (λh=>h1 (of_decide_eq_true h))
theorem vw(a b:Str):(qJ a b || qJ b a)=true:=by
 rw[Qw,kg,kg,decide_eq_true_eq,decide_eq_true_eq];by_cases h:b.cps.toList<a.cps.toList
 .exact .inr (List.lt_asymm h)
 .exact .inl h
theorem qj{a b:Str}(h1:qJ a b=true)(h2:qJ b a=true):a=b:=by rw[kg,decide_eq_true_eq] at *;have:a.cps.toList=b.cps.toList:=Vf (Tc.mp h1) (Tc.mp h2);cases a;cases b;simp only[Wg];exact RZ.mp this
theorem aW(l:List Str):(aV l).Perm l:=List.mergeSort_perm l qJ
theorem fJ(l:List Str):(aV l).Pairwise (λa b=>qJ a b=true):=List.pairwise_mergeSort l5 vw l
theorem sD{ss:List Str}(h:RW ss=true):ss.Pairwise (λa b=>qJ a b=true):=by
 have I:∀(l:List Str)(p:Str),Tg p l=true->(∀q∈l,qJ p q=true)/\l.Pairwise (λa b=>qJ a b=true):=by
  intro l;induction l with
  |nil=>intro p _;exact⟨λq B=>(by cases B),.nil⟩
  |cons q l m=>
   intro p hp;have hp:(!Ug q.cps.toList p.cps.toList&&Tg q l)=true:=hp;rw[O3] at hp;obtain⟨o,A⟩:=m q hp.2;refine⟨λr y=>?_,Rf.mpr ⟨o,A⟩⟩;rcases Po.mp y with z|z
   .subst z;exact hp.1
   .exact l5 p q r hp.1 (o r z)
 cases ss with
 |nil=>exact .nil
 |cons p l=>obtain⟨o,A⟩:=I l p h;exact Rf.mpr ⟨o,A⟩
theorem kR{ss l:List Str}(h:RW ss=true)(pm:ss.Perm l):ss=aV l:=
 (pm.trans (aW l).symm).eq_of_pairwise (λa b _ _ h1 h2=>qj h1 h2) (sD h) (fJ l)
noncomputable def gG:List A->Option (List Str)
 |[]=>some []
 | .str x::r=>match gG r with
  |some ss=>some (x::ss)
  |none=>none
 |_=>none
theorem jb:∀{as:List A}{ss:List Str},gG as=some ss->as=ss.map A.str
 |[],_,h=>by cases h;rfl
 | .str x::r,_,h=>by
  unfold gG at h;cases e:gG r with
  |none=>simp only[e] at h;cases h
  |some ss=>simp only[e] at h;cases h;rw[jb e];rfl
 | .non::_,_,h=>by cases h
 | .bl _::_,_,h=>by cases h
 | .int _::_,_,h=>by cases h
 | .tup _::_,_,h=>by cases h
 | .lst _::_,_,h=>by cases h
 | .dic _::_,_,h=>by cases h
 | .exc _::_,_,h=>by cases h
theorem ql(ss:List Str):gG (ss.map A.str)=some ss:=by
 induction ss with
 |nil=>rfl
 |cons s ss m=>rw[Pg,gG,m]
noncomputable def strKeys:List (Key×A)->Option (List Str)
 |[]=>some []
 |(.inr x,_)::r=>match strKeys r with
  |some ss=>some (x::ss)
  |none=>none
 |_=>none
theorem ju:∀{as:List (Key×A)}{ss:List Str},strKeys as=some ss->as.map (·.1)=ss.map Qj
 |[],_,h=>by cases h;rfl
 |(.inr x,a)::r,_,h=>by
  unfold strKeys at h;cases e:strKeys r with
  |none=>simp only[e] at h;cases h
  |some ss=>simp only[e] at h;cases h;rw[Pg,ju e];rfl
 |(.inl _,_)::_,_,h=>by cases h
section
variable{X:Cx}{E:XK}
def aX:A->Option Rr
 | .lst xs=>match gG xs with
  |some ss=>if ss.length<64 then some (.nw (.lst ((aV ss).map A.str))) else none
  |none=>none
 |_=>none
theorem rP:lD K (λv=>jU K.K [v]) aX:=by
 intro c Y H Z B θ x v a q Q ek u h J T k;subst ek;obtain⟨L,bl,o⟩:=Bd.open h u J;cases a<;>first|(cases T;done)|skip
 rename_i xs;unfold aX at T;simp only at T;cases es:gG xs with
 |none=>simp only[es] at T;cases T
 |some ss=>
  simp only[es] at T;split at T
  .rename_i D;cases T;obtain⟨p,vs,rfl,s1,e⟩:=o.1 xs rfl;rw[jb es] at e;rw[e.strs] at s1;refine⟨p,ss,rfl,.inl s1,D,λr s y pm b=>?_⟩;rw[kR b pm];exact k _ _ trivial (bl.gy y λG H' sm q=>.lst q (bf.ofStrs _))
  .cases T
def iz:List V->Hp->VK->Prop:=λxs H Q=>∃(a:Addr)(kvs:List (Key×V))(ss:List Str),xs=[.ref a]/\Rd H a (.dK kvs)/\kvs.map (·.1)=ss.map Qj/\ss.length<64/\∀r s,H r=none->s.Perm ss->RW s=true->Q (.ref r) (upd H r (.lst (s.map V.str)))
open PySem.Spec PyProof.Rows PySem.W in
theorem oE(hc:X.calm=true):bE X (.builtin "sorted") iz:=by
 intro pins s Y H vs us Q I rv h;obtain⟨a,kvs,ss,rfl,hd,ek,D,q⟩:=h;obtain⟨u,rfl,F⟩:=rv.one;cases F;obtain⟨hz,lo,vs,L,N⟩:=L2.fh I.hok hd;obtain⟨ep,k⟩:=N.dictAt;have S:vs.map (·.1)=ss.map Qj:=by rw[<-L.keys];exact ek
 have v:vs.length=ss.length:=by have:=congrArg RQ S;simpa using this
 refine RN kind_sorted plain_sorted entry_sorted (args_sorted1 _) ?_;unfold Builtin.«sorted»;refine wpAny_bind (m:=checkCount "sorted" 1 1 _) (wpAny_pure ?_);refine wpAny_bind (kdu_collect (A:=X.A.in1) (kdl_dict (knd:=aO X.prog X.w) (kvs:=vs) (ep:=ep) lo) (I.ok.hd hc) k (by have:=L2.gK;omega) λh' tk acc hk C=>?_);have R:=L2.l8 S C;have J:acc.toList.length=ss.length:=by rw[P9,C.1,v]
 refine wpAny_bind (wpAny_newList ?_ (by have:=L2.gK;omega));have g:(h'.push (seqObj "list" acc.toList.toArray 0)).get? h'.objs.size=some (seqObj "list" acc.toList.toArray 0):=Pu _ rfl;refine wpAny_bind (wpAny_holding (wpAny_call_entry slot_list_sort ⟨_,g,rfl⟩ entry_list_sort (list_sort_treeK strKind_oneLt g R.keysOf (λc y rest e=>keyKind_strs (by rw[<-e];exact R)) (by omega) λZ hp r=>⟨_,rfl,?_⟩) (args_list_sort _)));obtain⟨x,b1,b2,f⟩:=sorted_out_str R hp r;obtain⟨e,t⟩:=sortedHeap_at (vs:=acc.toList) (n:=0) (out:=(arrOf Z).map (·.2)) g;have hf:∀b o,s.heap.get? b=some o->b≠h'.objs.size:=λb o z=>PD (Pj (hk b o z));refine wpAny_pure ⟨_,rfl,.ref _,_,I.xa (t':=tk) (a:=h'.objs.size) (o:=.lst (x.map V.str)) (λb o z=>?_) hf ⟨?_,((arrOf Z).map (·.2)).toList,e,L2.eM b1,?_⟩,rfl,q _ x (I.jS hf) b2 f⟩
 .rw[sortedHeap_old (hf b o z) (by rw[size_push'];exact Q5 (Pj (hk b o z)))];exact O8 _ (hk b o z)
 .rw[O5,b2.length_eq];exact Px (RH D) L2.gK
 .rw[Us];exact t
def a9:A->Option Rr
 | .dic kvs=>match strKeys kvs with
  |some ss=>if ss.length<64 then some (.nw (.lst ((aV ss).map A.str))) else none
  |none=>none
 |_=>none
theorem rq:lD K (λv=>iz [v]) a9:=by
 intro c Y H Z B θ x v a q Q ek u h J T k;subst ek;obtain⟨L,bl,o⟩:=Bd.open h u J;cases a<;>first|(cases T;done)|skip
 rename_i kvs;unfold a9 at T;simp only at T;cases es:strKeys kvs with
 |none=>simp only[es] at T;cases T
 |some ss=>
  simp only[es] at T;split at T
  .rename_i D;cases T;obtain⟨p,vs,rfl,s1,e⟩:=o.2.2 kvs rfl;refine⟨p,vs,ss,rfl,s1,by rw[e.keys,ju es],D,λr s y pm b=>?_⟩;rw[kR b pm];exact k _ _ trivial (bl.gy y λG H' sm q=>.lst q (bf.ofStrs _))
  .cases T
noncomputable def oV(f g:A->Option Rr):A->Option Rr:=λa=>match f a with
 |some r=>some r
 |none=>g a
theorem lD.or{r r':V->Hp->VK->Prop}{f g:A->Option Rr}(h:lD K r f)(h':lD K r' g):lD K (λv H Q=>r v H Q\/r' v H Q) (oV f g):=by
 intro c Y H Z B θ x v a q Q ek u p J T k;unfold oV at T;cases e:f a with
 |some z=>simp only[e] at T;cases T;exact .inl (h c Y H Z B θ x v a _ Q ek u p J e k)
 |none=>simp only[e] at T;exact .inr (h' c Y H Z B θ x v a _ Q ek u p J T k)
theorem oG(hc:X.calm=true):bE X (.builtin "sorted") (λxs H Q=>jU X.K xs H Q\/iz xs H Q):=bE.or' (ox hc) (oE hc)
theorem vm:lD K (λv H Q=>jU K.K [v] H Q\/iz [v] H Q) (oV aX a9):=rP.or rq
open PySem.Spec PyProof.Rows PySem.W in
def HU:A->Option Rr
 | .dic kvs=>match strKeys kvs with
  |some ss=>some (.nw (.lst (ss.map A.str)))
  |none=>none
 |_=>none
end
end M
namespace L2
open PySem PySem.Spec PyProof.Rows
theorem gw{prog:Program}{w:World}{A:Around}{E:Value->Shared->Prop}{s:Shared}{t sl:Addr}{items:Array Value}{Y c:Value}{lo hi:Option Int}{Q:Value->Shared->Prop}(j:IsTup s.heap t items)(N:s.heap.IsSliceOf sl Y c .none)(v:IsPart Y lo)(C:IsPart c hi)
  (G:HT.cb items.size 0 lo=0/\HT.cb items.size items.size hi=items.size)(h:Q (.ref t) s):wpAny (model prog w) A (getItem (.ref t) (.ref sl)) Q E s:=by
 obtain⟨os,K,I,z⟩:=id N;have V:s.TypeIs (.ref sl) "slice" := ⟨os,K,I⟩
 unfold getItem
 try with_reducible refine wpAny_holding ?_
 first|refine wpAny_bind (wpAny_pure ?_)|skip
 refine wpAny_bind (wpAny_sequenceKey j.typeIs (by decide) ?_);refine wpAny_bind (wpAny_callSpecial?_slot (name:=SX "__getitem__") j.typeIs Qb
  (wpAny_call_entry Qb j.typeIs entry_tuple_getitem ?_ (args_tuple_getitem _ _)))
 show wpAny _ _ (Sz (.ref t) >>= _) _ _ s;refine wpAny_bind (tupleItemsOf_ j ?_);refine wpAny_bind (wpAny_typeOf V ?_);rw[if_pos (by decide)];refine wpAny_bind (HT.dZ N v C ?_);show wpAny _ _ (if (((HT.cb items.size 0 lo:Nat):Int)==0&&(1:Int)==1&&(HT.cb items.size items.size hi-HT.cb items.size 0 lo)==items.size)=true then _ else _) _ _ s;rw[if_pos (by rw[G.1,G.2];simp)];refine wpAny_bind ?_;unfold V1;refine wpAny_bind (wpAny_typeOf j.typeIs (wpAny_pure ?_));rw[if_pos (by decide)];refine wpAny_bind (wpAny_rule ?_);exact wpAny_pure ⟨_,rfl,wpAny_pure h⟩
def MZ(K:O2):V->Option Int->Option Int->Hp->VK->Prop:=λx lo hi H Q=>∃a xs,x=.ref a/\dz K H a xs/\(HT.cb xs.length 0 lo=0/\HT.cb xs.length xs.length hi=xs.length)/\Q (.ref a) H
theorem CA{X:Cx}:gv X (MZ X.K):=by
 intro pins s Y H x v w c lo hi sl Q I E N A C h;obtain⟨a,xs,rfl,L,G,q⟩:=h;cases E;obtain⟨b,r,j,hz⟩:=I.tuple L;have z:b.toArray.size=xs.length:=by rw[O4];exact r.length.symm
 refine⟨"tuple",_,Qb.lookup,j.typeIs,?_⟩;exact gw j N A C (by rw[z];exact G) ⟨.ref a,H,I,rfl,q⟩
end L2
namespace M
open PySem L2
variable{c:Cn}{Y B:St}{H:Hp}{Z θ:List Sl}
theorem eE.Jc{L:List Addr}{v w:V}{a b:A}(bl:eE c Y H Z B θ L)(h1:RA c.toKx (c.g H L) v a)(h2:RA c.toKx (c.g H L) w b):Bd c Y H Z (some v::some w::B) (.fr a::.fr b::θ):=
 ⟨L,bl.nd,aw.cons (L:=[]) (.fr h1) (aw.cons (L:=[]) (.fr h2) bl.rel),bl.own,bl.fr,bl.kp,by simp[bl.lt],bl.hd⟩
variable{mo m:Mi Rr}{K:Kx}{e:Expr}{apos cpos p2 pos:Pos}{O:List Sl}{Q:Option Int->Hp->Prop}{i j:Nat}{α:Type}{es:List Expr}
section
variable{X:Cx}{E:XK}
def rS(K:O2):V->List V->Hp->VK->Prop:=λx vs H Q=>∃(Y:Str)(l:Addr)(ss:List Str),x=.str Y/\vs=[.ref l]/\eX K H l (ss.map V.str)/\gS ss+ss.length*Y.length<=100000/\Q (.str (Qk Y ss)) H
theorem kr(Y:Str):∀(ss:List Str)(n:Nat),ss.foldl (λ(a:Nat)(z:Str)=>a+z.length+Y.length) n=n+gS ss+ss.length*Y.length
 |[],n=>by simp[gS]
 |z::ss,n=>by rw[Th,kr Y ss];have e:gS (z::ss)=z.length+gS ss:=rfl;rw[e,Pl,Nat.add_mul,Nat.one_mul];omega
open PySem.Spec PyProof.Rows PySem.W in
theorem vY:K9 X "str.join" (rS X.K):=by
 intro pins s Y H x vs v us Q I E rv h;obtain⟨c,l,ss,rfl,rfl,B,hl,q⟩:=h;obtain⟨t,rfl⟩:=E;obtain⟨u,rfl,g⟩:=rv.one;cases g;obtain⟨i,r,p,hz⟩:=I.list B;obtain⟨ps,rfl,N⟩:=L2.gz (L2.ly r);have O:=nV;have Z:R4 ((ps.map (·.1)).toArray.foldl (·+·.length+c.length) 0)=false:=by
  have e:(ps.map (·.1)).toArray.foldl (λ(a:Nat)(z:Str)=>a+z.length+c.length) 0=gS ss+ss.length*c.length:=by rw[List.foldl_toArray,kr,N,V2]
  unfold R4;rw[e];exact decide_eq_false (by omega)
 refine call_meets F.slot_str_join (typeIs_str _ _ _) F.entry_str_join (F.args_str_join_2 _ _) (meets_str_join_list c t l ps Z) ⟨p.isList,?_⟩;have S:(Qk c ss).length<=gS ss+ss.length*c.length:=by rw[size_glued];have:(ss.length-1)*c.length<=ss.length*c.length:=Sg _ (WM _ _);have e:gS ss=(ss.map (·.length)).sum:=rfl;omega
 have U:∀(z:Str)(t':Tok)(k:Nat),z=Qk c ss->EP X pins Y Q (.str z t') { s with toks:=k }:=λz t' k e=>⟨.str z,H,I.tok _,⟨t',rfl⟩,by rw[e];exact q⟩
 have fin:(Made.str (Qk c (ps.map (·.1)))).post (λv s'=>EP X pins Y Q v s') s:=⟨by rw[N];omega,U _ _ _ (by rw[N])⟩
 cases ps with
 |nil=>exact fin
 |cons a ps=>
  cases ps with
  |nil=>subst N;exact U a.1 a.2 s.toks rfl
  |cons b ps=>exact fin
def O1(f:Str->Option Rr)(mo:Mi Rr):Mi Rr:=aB mo λx Z=>match x with
 | .fr (.str z)=>match f z with
  |some r=>some (.ok r,Z)
  |none=>none
 |_=>none
def IH(f:Str->A->Option Rr)(mo m:Mi Rr):Mi Rr:=aB mo λx I=>match x with
 | .fr (.str z)=>aB m (λy Z=>match res Z y with
  |some a=>match f z a with
   |some r=>some (.ok r,Z)
   |none=>none
  | none=>none) I
 |_=>none
theorem Ar{r:V->List V->Hp->VK->Prop}{f:Str->A->Option Rr}(hf:∀z,lD (kx X) (λw=>r (.str z) [w]) (f z))(Y:St)(H:Hp)(Q:VK)(h:i4 (kx X) E (IH f mo m) Y H Q):
  i4 (kx X) E mo Y H λx u=>L9 X.K "str" x u/\i4 (kx X) E m Y u λy e=>r x [y] e Q:=by
 obtain⟨c,Z,B,θ,o,O,G,b,em,q⟩:=h;refine aJ G b em (λx v U u n b1 s=>?_) (aH q);cases x with
 |rf i=>cases s
 |nw o=>cases s
 |fr a=>
  cases a<;>first|(cases s;done)|skip
  rename_i z;have S:=Bd.top b1 (a:=.str z) rfl;cases S;refine⟨rfl,?_⟩;refine aJ G b1.pop s (λy w Z0 e F b2 C=>?_) (aH q);obtain⟨a,r,J,T,rfl,rfl⟩:=oj C;exact hf z c Y e _ B θ y w a r Q G F b2 J T q
def hU(Y:Str):A->Option Rr
 | .lst xs=>match gG xs with
  |some ss=>if gS ss+ss.length*Y.length<=100000 then some (.fr (.str (Qk Y ss))) else none
  |none=>none
 |_=>none
theorem Cg(Y:Str):lD K (λw=>rS K.K (.str Y) [w]) (hU Y):=.scalar λH v a q S h=>by
 cases a<;>first|(cases h;done)|skip
 rename_i xs;unfold hU at h;simp only at h;cases es:gG xs with
 |none=>simp only[es] at h;cases h
 |some ss=>
  simp only[es] at h;split at h
  .rename_i hl;cases h;cases S with
   |lst e r=>rw[jb es] at r;rw[r.strs] at e;exact⟨_,_,rfl,λ_=>.str _,λQ k=>⟨Y,_,ss,rfl,rfl,e,hl,k⟩⟩
  .cases h
theorem BZ{o:Expr}(ho:JE X E o mo)(t:JE X E e m)(hp:∀{to v:TE},PE X o to->PE X e v->PE X (.Call (.Attribute o "join" apos) [e] [] cpos) (NV X.K "str" (rS X.K) to (DS v JZ))):
  JE X E (.Call (.Attribute o "join" apos) [e] [] cpos) (IH hU mo m):=⟨PE.weaken (hp ho.p t.p) λY H Q h=>Ar Cg Y H Q h⟩
def bR:Mi (Option Int):=j3 none
def bZ(m:Mi Rr):Mi (Option Int):=aB m λr Z=>match res Z r with
 |some (.int i)=>some (.ok (some i),Z)
 |_=>none
def IW(K:Kx)(E:XK)(c:Cn)(Y:St)(Z:List Sl)(B:St)(θ:List Sl)(Q:Option Int->Hp->Prop):Except Str (Option Int)->Prop
 | .ok i=>∀H,Bd c Y H Z B θ->Q i H
 | .error x=>∀C H,K.mg x=some (.ref C)->Bd c Y H Z B θ->E (.ref C) none H
inductive Oz(K:Kx)(E:XK)(m:Mi (Option Int))(Y:St)(H:Hp)(Q:Option Int->Hp->Prop):Prop
 |mk(c:Cn)(Z:List Sl)(B:St)(θ:List Sl)(o:Except Str (Option Int))(O:List Sl)(h1:c.toKx=K)(h2:Bd c Y H Z B θ)(h3:m Z=some (o,O))(h4:IW K E c Y O B θ Q o)
structure JP(X:Cx)(E:XK)(e:Option Expr)(m:Mi (Option Int)):Prop where
 p:PO X e (Oz (kx X) E m)
theorem PO.weaken{e:Option Expr}{t t':TO}(h:PO X e t)(f:∀Y H Q,t' Y H Q->t Y H Q):PO X e t':=λpins s Y H Q I q=>h pins s Y H Q I (f Y H Q q)
theorem yi{o:Except Str (Option Int)}(q:IW (kx X) E c Y O B θ Q o):∀e,o=.error e->∀C H,X.mg e=some (.ref C)->Bd c Y H O B θ->E (.ref C) none H:=λe Z=>by subst Z;exact q
theorem De:JP X E none bR:=⟨PO.weaken Dq λY H Q h=>by obtain⟨c,Z,B,θ,o,O,G,b,em,q⟩:=h;cases em;exact q H b⟩
theorem B3(h:JE X E e m):JP X E (some e) (bZ m):=⟨PO.weaken (Cz h.p) λY H Q h=>by
 obtain⟨c,Z,B,θ,o,O,G,b,em,q⟩:=h;refine aJ G b em (λx v U i u b1 s=>?_) (yi q);cases J:res U x with
 |none=>simp only[J] at s;cases s
 |some a=>
  have S:=Bd.rd b1 u J;cases a<;>first|(simp only[J] at s;cases s;done)|skip
  simp only[J] at s;cases s;cases S;exact⟨_,rfl,q i b1.drop⟩⟩
def jF(xs:List A)(lo hi:Option Int):List A:=(xs.drop (HT.cb xs.length 0 lo)).take (HT.cb xs.length xs.length hi-HT.cb xs.length 0 lo)
theorem wb{k:Kx}{G:Hp}{vs:List V}{as:List A}(r:bf k G vs as)(lo hi:Option Int):bf k G (oC vs lo hi) (jF as lo hi):=by unfold oC jF;rw[r.len];exact(r.drop _).take _
def L6(a:A)(lo hi:Option Int):Option Rr:=match a with
 | .lst xs=>some (.nw (.lst (jF xs lo hi)))
 | .tup xs=>some (.fr (.tup (jF xs lo hi)))
 | .str z=>if z.length<=100000 then some (.fr (.str (Sj z lo hi))) else none
 |_=>none
def pF(m:Mi Rr)(H b:Mi (Option Int)):Mi Rr:=aB m λx=>aB H λlo=>aB b λhi=>λZ=>match res Z x with
 |some a=>match L6 a lo hi with
  |some r=>some (.ok r,Z)
  |none=>none
 |none=>none
theorem tQ{j:Type}{m:Mi (Option Int)}{f:Option Int->Mi j}{o:Except Str j}(G:c.toKx=kx X)(b:Bd c Y H Z B θ)(em:aB m f Z=some (o,O))
  (h1:∀k U i,Bd c Y i U B θ->f k U=some (o,O)->Q k i)
  (h2:∀e,o=.error e->∀C H,X.mg e=some (.ref C)->Bd c Y H O B θ->E (.ref C) none H):Oz (kx X) E m Y H Q:=by
 rcases bind_some em with ⟨x,U,J,l⟩|⟨e,J,l⟩
 .exact⟨c,Z,B,θ,_,U,G,b,J,λi b1=>h1 x U i b1 l⟩
 .exact⟨c,Z,B,θ,_,O,G,b,J,λC i hm b1=>h2 e l C i hm b1⟩
theorem JD{lo hi:Option Expr}{A n:Mi (Option Int)}(h:JE X E e m)(hl:JP X E lo A)(V:JP X E hi n):JE X E (.Subscript e (.Slice lo hi none p2) pos) (pF m A n):=
 ⟨PE.weaken (wB (L2.gv.or Dj (L2.gv.or (L2.gv.or FT CA) FE)) h.p hl.p V.p) λY H Q h=>by
  obtain⟨c,Z,B,θ,o,O,I,b,em,q⟩:=h;refine aJ I b em (λx v U i P b1 s=>?_) (aH q);refine tQ I b1 s (λl Z0 D b2 C=>?_) (cM (aH q));refine tQ I b2 C (λu Z1 F f t=>?_) (cM (aH q));obtain⟨a,r,J,T,rfl,rfl⟩:=oj t;have j:c.K=X.K:=congrArg Kx.K I;obtain⟨L,bl,w⟩:=Bd.open f P J;have S:=Bd.rd f P J;cases a<;>first|(cases T;done)|skip
  .rename_i z;unfold L6 at T;simp only at T;split at T
   .rename_i hz;cases T;cases S;exact .inr (.inr ⟨z,rfl,Px hz hY,q _ F trivial (Bd.push ⟨L,bl⟩ λ_=>.str _)⟩)
   .cases T
  .rename_i xs;cases T;obtain⟨p,vs,rfl,s1,y⟩:=w.2.1 xs rfl;by_cases hn:HT.cb xs.length 0 l=0/\HT.cb xs.length xs.length u=xs.length
   .refine .inr (.inl (.inr ⟨p,vs,rfl,by rw[<-j];exact cu (g_same _ _ _) s1,by rw[y.len];exact hn,?_⟩));have R:jF xs l u=xs:=by unfold jF;rw[hn.1,hn.2,Vz,Uv,QC]
    rw[R] at q;exact q _ _ trivial (bl.push (.tup s1 y))
   .refine .inr (.inl (.inl ⟨p,vs,rfl,by rw[<-j];exact cu (g_same _ _ _) s1,by rw[y.len];exact hn,λg hp=>?_⟩));obtain⟨b2,sm,np⟩:=bl.new (o:=.tup (oC vs l u)) hp;exact q _ _ trivial (b2.push (.tup (.inl (.inl (by rw[cy np (bl.Ja hp)];exact br))) ((wb y l u).sm sm)))
  .rename_i xs;cases T;obtain⟨p,vs,rfl,s1,y⟩:=w.1 xs rfl;exact .inl ⟨p,vs,rfl,by rw[<-j];exact s1,λg hp=>q _ _ trivial (bl.gy hp λG H' sm q=>.lst q ((wb y l u).sm sm))⟩⟩
noncomputable def OU(f g:Mg):Mg:=λa Z=>match f a Z with
 |some r=>some r
 |none=>g a Z
def qT(m:Mi Rr)(G:Mg):Ms:=bz m λr Z=>match aS r Z with
 |some (a,U)=>match G a U with
  |some Z0=>some (.nx,Z0)
  |none=>none
 |none=>none
theorem EC{tg:Expr}{G:Mg}(he:JE X E e m)(hg:JG X 0 tg G)(hs:swapsWithSole [tg] e pos.line X.env=pure false:=by rfl)(hw:swappedStores [tg] e X.env=pure none:=by rfl)
  (hp:∀{te:TE}{g:TG},PE X e te->PG X tg g->PS X (.Assign [tg] e pos) (xf te g)):JS X E (.Assign [tg] e pos) (qT m G):=⟨PS.weaken (hp he.p hg.p) λD Y H h=>by
 obtain⟨c,Z,B,θ,f,O,ek,b,em,q⟩:=h;refine dH ek b em q λr v U H1 hv b1 em1=>?_;cases e1:aS r U with
 |none=>simp only[e1] at em1;cases em1
 |some p=>
  obtain⟨a,Z0⟩:=p;simp only[e1] at em1;have b2:=Bd.aS (xs:=[]) (ss:=[]) rfl b1 hv e1;cases e2:G a Z0 with
  |none=>simp only[e2] at em1;cases em1
  | some Z1=>simp only[e2] at em1;cases em1;exact⟨c,Z0,B,_,a,O,ek,b2,e2,λZ' H' _ _ b3=>q Z' H' b3⟩⟩
def A9(i j:Nat)(rs:List Rr)(Z:List Sl):Option (Fl×List Sl):=match d9 rs Z with
 |some ([a,b],U)=>match put i (.fr a) U with
  |some Z0=>match put j (.fr b) Z0 with
   |some Z1=>some (.nx,Z1)
   |none=>none
  |none=>none
 |_=>none
theorem ve{rs:List Rr}{f:Fl}(h:A9 i j rs Z=some (f,O)):∃a d Z0 Z1,d9 rs Z=some ([a,d],Z0)/\put i (.fr a) Z0=some Z1/\put j (.fr d) Z1=some O/\f=.nx:=by
 unfold A9 at h;cases R:d9 rs Z with
 |none=>rw[R] at h;cases h
 |some p=>
  rw[R] at h;obtain⟨as,Z0⟩:=p
  match as,h with
  |[a,d],h=>
   dsimp only at h;cases T:put i (.fr a) Z0 with
   |none=>rw[T] at h;cases h
   |some Z1=>
    rw[T] at h;dsimp only at h;cases v:put j (.fr d) Z1 with
    |none=>rw[v] at h;cases h
    |some I=>rw[v] at h;cases h;exact⟨a,d,Z0,Z1,rfl,T,v,rfl⟩
theorem Dm{l:List α}(h:l.length=2):∃a b,l=[a,b]:=match l,h with
 |[a,b],_=>⟨a,b,rfl⟩
def yX(i j:Nat)(m:Mi (List Rr)):Ms:=bz m (A9 i j)
theorem GO{s:Stmt}{m:Mi (List Rr)}(ha:JA X E es m)(Q:i≠j)(hp:∀{ta:TA},PA X es ta->PS X s (LA i j ta)):JS X E s (yX i j m):=⟨PS.weaken (hp ha.p) λD Y H h=>by
 obtain⟨c,Z,B,θ,f,O,G,b,em,q⟩:=h;rcases a8 em with ⟨rs,U,J,l⟩|⟨e,J,l⟩
 .refine⟨c,Z,B,_,_,U,G,b,J,λvs u n b1=>?_⟩;obtain⟨a,d,Z0,Z1,R,T,V,rfl⟩:=ve l;obtain⟨b2,r⟩:=Bd.d9 n b1 R;obtain⟨v,w,rfl⟩:=Dm r;refine⟨v,w,rfl,q _ u ?_⟩;have I:Bd c Y u Z0 (some w::some v::B) (.fr d::.fr a::θ.map Sl.fr):=by simpa using b2
  obtain⟨L,bl,x⟩:=Bd.cA (vs:=[w,v]) (as:=[d,a]) I rfl;cases x with|cons h1 x=>cases x with|cons h2 _=>
  exact Bd.put (Bd.put (eE.Jc bl h2 h1) (λo z=>by cases z) T) (λo z=>by cases z) V
 .subst l;exact⟨c,Z,B,_,_,O,G,b,J,λC u hm b1=>q C Y u hm b1⟩⟩
end
section
variable{X:Cx}{E:XK}{a b:Expr}{ma mb:Mi Rr}{pos:Pos}
abbrev dh:=bI uh xq
theorem F8(ha:JE X E a ma)(d:JE X E b mb):JE X E (.BinOp a .Sub b pos) (av gP ma mb):=mR Hv HZ ha d
theorem Iu(ha:JE X E a ma)(d:JE X E b mb):JE X E (.BinOp a .Mult b pos) (av dh ma mb):=mR (cP.or' B0 CJ) (Bn.or By) ha d
theorem GJ(ha:JE X E a ma)(d:JE X E b mb):JE X E (.BinOp a .FloorDiv b pos) (av ig ma mb):=mR x9 Hg ha d
theorem Fq(ha:JE X E a ma)(d:JE X E b mb):JE X E (.BinOp a .Mod b pos) (av gx ma mb):=mR AV HX ha d
theorem Fp(ha:JE X E a ma)(d:JE X E b mb):JE X E (.BinOp a .Pow b pos) (av iS ma mb):=mR Ht Hh ha d
theorem LJ(f:X.A.units+64<cLine)(ha:JE X E a ma)(d:JE X E b mb):JE X E (.Compare a [.Eq] [b] pos) (av iU ma mb):=cq (yq f) os_eq ha d (bW _)
theorem Jf(f:X.A.units+64<cLine)(ha:JE X E a ma)(d:JE X E b mb):JE X E (.Compare a [.NotEq] [b] pos) (av dA ma mb):=cq (wL f) DH ha d (bW _)
theorem Ll(ha:JE X E a ma)(d:JE X E b mb):JE X E (.Compare a [.Lt] [b] pos) (av El ma mb):=cq sI DR ha d (bW _)
theorem IV(ha:JE X E a ma)(d:JE X E b mb):JE X E (.Compare a [.LtE] [b] pos) (av Mm ma mb):=cq uj Dy ha d (bW _)
theorem Kc(ha:JE X E a ma)(d:JE X E b mb):JE X E (.Compare a [.Gt] [b] pos) (av Ij ma mb):=cq xR DN ha d (bW _)
theorem K1(ha:JE X E a ma)(d:JE X E b mb):JE X E (.Compare a [.GtE] [b] pos) (av IT ma mb):=cq wK Eo ha d (bW _)
theorem KW(ha:JE X E a ma)(d:JE X E b mb):JE X E (.Compare a [.Is] [b] pos) (av (Eh false) ma mb):=cq xx DB ha d (bW _)
theorem AD(ha:JE X E a ma)(d:JE X E b mb):JE X E (.Compare a [.IsNot] [b] pos) (av (Eh true) ma mb):=cq sP sF ha d (bW _)
theorem IY(f:X.A.units+64<cLine)(ha:JE X E a ma)(d:JE X E b mb):JT X E (.Compare a [.Eq] [b] pos) (aq (av iU ma mb)):=ck (yq f) os_eq ha d (bW _)
theorem JR(f:X.A.units+64<cLine)(ha:JE X E a ma)(d:JE X E b mb):JT X E (.Compare a [.NotEq] [b] pos) (aq (av dA ma mb)):=ck (wL f) DH ha d (bW _)
theorem LN(ha:JE X E a ma)(d:JE X E b mb):JT X E (.Compare a [.Lt] [b] pos) (aq (av El ma mb)):=ck sI DR ha d (bW _)
theorem K5(ha:JE X E a ma)(d:JE X E b mb):JT X E (.Compare a [.LtE] [b] pos) (aq (av Mm ma mb)):=ck uj Dy ha d (bW _)
theorem Kj(ha:JE X E a ma)(d:JE X E b mb):JT X E (.Compare a [.Gt] [b] pos) (aq (av Ij ma mb)):=ck xR DN ha d (bW _)
theorem K6(ha:JE X E a ma)(d:JE X E b mb):JT X E (.Compare a [.GtE] [b] pos) (aq (av IT ma mb)):=ck wK Eo ha d (bW _)
theorem LS(ha:JE X E a ma)(d:JE X E b mb):JT X E (.Compare a [.Is] [b] pos) (aq (av (Eh false) ma mb)):=ck xx DB ha d (bW _)
theorem B9(ha:JE X E a ma)(d:JE X E b mb):JT X E (.Compare a [.IsNot] [b] pos) (aq (av (Eh true) ma mb)):=ck sP sF ha d (bW _)
end
noncomputable def Ad:Nat:=2^10000
noncomputable def yT(K:O2):Sp:=λvs H Q _=>∃(p:Addr)(ns:List Int),vs=[.ref p]/\eX K H p (ns.map V.int)/\ns.length<=63/\∀H',Q (.bl true) H'
theorem tD{k:Kx}{G:Hp}:∀(ns:List Int),bf k G (ns.map V.int) (ns.map A.int)
 |[]=>.nil
 |n::ns=>.cons (.int n) (tD ns)
variable{k:Nat}{f:Addr}{fd:FuncData}{ps:List Str}
theorem HD{P:Program}{w:World}{K:O2}{mg:Str->Option Value}{base:Heap}{CX:ux}{m:Ms}(F:cR P w K mg base CX k f fd ps (vd ⟨K,mg,P,w⟩ 1 m))
  (h:∀ns:List Int,ns.length<=63->∃Z,m [.fr (.lst (ns.map A.int))]=some (.rt (.fr (.bl true)),Z)):cR P w K mg base CX k f fd ps (yT K):=
 F.imp λvs H Q E q=>by
  obtain⟨p,ns,rfl,N,hl,q⟩:=q;obtain⟨Z,e⟩:=h ns hl
  let c:Cn:={ K:=K,mg:=mg,P:=P,w:=w,σ0:=[some (.ref p)],H0:=H,Lp:=[],Hd:=[],Wk:=[] }
  refine⟨rfl,c,_,_,Z,rfl,rfl,rfl,⟨.nil,aw.cons (L:=[]) (.fr (.lst (kG (Sq.of λb o e=>?_) N) (tD ns))) .nil,λp hp=>(by cases hp),⟨λb o e=>⟨o,e,λ_ _=>rfl⟩,λq B=>(by cases B)⟩,λi o _=>rfl,rfl,λq B=>(by cases B)⟩,e,λv H' _ b=>?_⟩
  .rw[cy (c:=c) (λz=>by cases z) (λz=>by cases z)];exact e
  .have r:=Bd.top b (a:=.bl true) rfl;cases r;exact q H'
def tK(m:Mi Rr):Mi Rr:=aB m λr Z=>match aS r Z with
 |some (a,O)=>some (.ok (.fr a),O)
 |none=>none
variable{X:Cx}
theorem Kw{E:XK}(t:JE X E e m):JE X E e (tK m):=⟨PE.weaken t.p λY H Q h=>by
 obtain⟨c,Z,B,θ,o,O,G,b,em,q⟩:=h;refine aJ G b em (λx v U i u b1 s=>?_) (aH q);cases J:aS x U with
 |none=>simp only[J] at s;cases s
 | some p=>obtain⟨a,Z0⟩:=p;simp only[J] at s;cases s;exact q v i trivial (Bd.aS (xs:=[]) (ss:=[]) rfl b1 u J)⟩
variable{x y:Str}{p:Pos}
section
variable{X:Cx}{E:XK}
inductive Ty where|bool|int|str|tuple|list|dict
 deriving DecidableEq
noncomputable def Ty.n:Ty->String
 | .bool=> "bool" | .int=> "int" | .str=> "str" | .tuple=> "tuple" | .list=> "list" | .dict=> "dict"
noncomputable def MB(T:Ty):A->Option Bool
 | .non=>some false
 | .bl _=>some (T=.bool || T=.int)
 | .int _=>some (T=.int)
 | .str _=>some (T=.str)
 | .tup _=>some (T=.tuple)
 | .lst _=>some (T=.list)
 | .dic _=>some (T=.dict)
 |_=>none
def kM(T:Ty)(a:A):Option Rr:=match MB T a with
 |some k=>some (.fr (.bl k))
 |none=>none
theorem G0(K:O2)(T:Ty):Qg K (.type "NoneType") (.type T.n)=some false:=by cases T<;>kernel_rfl
theorem B6(K:O2)(T:Ty):Qg K (.type "bool") (.type T.n)=some (T=.bool || T=.int:Bool):=by cases T<;>kernel_rfl
theorem Il(K:O2)(T:Ty):Qg K (.type "int") (.type T.n)=some (T=.int:Bool):=by cases T<;>kernel_rfl
theorem Fn(K:O2)(T:Ty):Qg K (.type "str") (.type T.n)=some (T=.str:Bool):=by cases T<;>kernel_rfl
theorem Ez(K:O2)(T:Ty):Qg K (.type "tuple") (.type T.n)=some (T=.tuple:Bool):=by cases T<;>kernel_rfl
theorem Ew(K:O2)(T:Ty):Qg K (.type "list") (.type T.n)=some (T=.list:Bool):=by cases T<;>kernel_rfl
theorem Fw(K:O2)(T:Ty):Qg K (.type "dict") (.type T.n)=some (T=.dict:Bool):=by cases T<;>kernel_rfl
theorem Gu(T:Ty):lD K (λv H Q=>∃x c t b,[v,V.ty T.n]=[x,c]/\BQ K.K H x t/\qh c=true/\Qg K.K t (rb c)=some b/\Q (.bl b) H) (kM T):=.scalar λH v a q S h=>by
 cases a<;>first|(cases h;done)|skip
 .cases S;cases h;exact⟨_,_,rfl,λ_=>.bl _,λQ k=>⟨_,_,_,_,rfl,.of .non,rfl,G0 _ T,k⟩⟩
 .cases S;cases h;exact⟨_,_,rfl,λ_=>.bl _,λQ k=>⟨_,_,_,_,rfl,.of (.bl _),rfl,B6 _ T,k⟩⟩
 .cases S;cases h;exact⟨_,_,rfl,λ_=>.bl _,λQ k=>⟨_,_,_,_,rfl,.of (.int _),rfl,Il _ T,k⟩⟩
 .cases S;cases h;exact⟨_,_,rfl,λ_=>.bl _,λQ k=>⟨_,_,_,_,rfl,.of (.str _),rfl,Fn _ T,k⟩⟩
 .cases S with
  |tup e r=>cases h;exact⟨_,_,rfl,λ_=>.bl _,λQ k=>⟨_,_,_,_,rfl,.tup e,rfl,Ez _ T,k⟩⟩
 .cases S with
  |lst e r=>cases h;exact⟨_,_,rfl,λ_=>.bl _,λQ k=>⟨_,_,_,_,rfl,.lst e,rfl,Ew _ T,k⟩⟩
 .cases S with
  |dic e r=>cases h;exact⟨_,_,rfl,λ_=>.bl _,λQ k=>⟨_,_,_,_,rfl,.dic e,rfl,Fw _ T,k⟩⟩
theorem FW(T:Ty)(hg:Gl X x)(hm:X.mg x=none)(hv:bootBuiltins x=some (.builtin "isinstance"))(hg2:Gl X y)(hm2:X.mg y=none)(hv2:bootBuiltins y=some (.type T.n))(ha:JE X E e m)(hn:x ≠ "__name__")
  (hdb:eG x)(hn2:y ≠ "__name__")(hdb2:eG y)(hs:starEach [e,.Name y p2] X.env=(false,eval e X.env)::starEach [.Name y p2] X.env:=by rfl)(hs2:starEach [.Name y p2] X.env=(false,eval (.Name y p2) X.env)::starEach [] X.env:=by rfl)(hp:(backTo pos (starEach [.Name y p2] X.env)).any (·.1)=false:=by rfl):JE X E (.Call (.Name x p) [e,.Name y p2] [] pos) (cV (kM T) m):=
 ⟨PE.weaken (iO yG hg hm hv (bA ha.p (bA (Ct hg2 hm2 hv2 (v:=.ty T.n) rfl hn2 hdb2) cS hs2) hs) hn hdb hs hp) λY H Q h=>jN (r:=λv H Q=>∃x c t b,[v,V.ty T.n]=[x,c]/\BQ (kx X).K H x t/\qh c=true/\Qg (kx X).K t (rb c)=some b/\Q (.bl b) H) (Gu T) Y H Q h⟩
end
variable{r r':R2}{ma mb mc:Mi Rr}{op op':CmpOp}{b:Expr}
section
variable{X:Cx}{E:XK}
def iA(p q:Int->Int->Bool)(ma mb mc:Mi Rr):Mi Rr:=aB ma λx=>aB mb λy=>λZ=>match res Z x,res Z y with
 |some (.int i),some (.int j)=>match p i j with
  | true=>aB mc (λz Z0=>match res Z0 z with
   |some (.int k)=>some (.ok (.fr (.bl (q j k))),Z0)
   | _=>none) Z
  |false=>some (.ok (.fr (.bl false)),Z)
 |_,_=>none
theorem ke{p q:Int->Int->Bool}(D:∀i j H Q,Q (.bl (p i j)) H->r (.int i) (.int j) H Q)(e:∀i j H Q,Q (.bl (q i j)) H->r' (.int i) (.int j) H Q)(Y:St)(H:Hp)(Q:VK)(h:i4 (kx X) E (iA p q ma mb mc) Y H Q):
  rQ r r' (i4 (kx X) E ma) (i4 (kx X) E mb) (i4 (kx X) E mc) Y H Q:=by
 obtain⟨c,Z,B,θ,o,O,G,b,em,L⟩:=h;refine aJ G b em (λx v U n u b1 s=>?_) (aH L);refine aJ G b1 s (λy w Z0 A F b2 C=>?_) (cM (aH L));obtain⟨i,j,J,l,C⟩:=z8 C;obtain⟨rfl,rfl⟩:v=.int i/\w=.int j:=by have V:=Bd.rd b2 F l;have S:=Bd.rd b2.drop u J;cases S;cases V;exact⟨rfl,rfl⟩
 refine D _ _ _ _ ⟨p i j,rfl,?_⟩;cases ep:p i j with
 |false=>rw[ep] at C;cases C;exact L _ A trivial (Bd.push b2.drop.drop (λ_=>.bl _))
 |true=>rw[ep] at C;refine aJ G b2.drop.drop C (λz a Z1 g hz f t=>?_) (aH L);obtain⟨k,T,t⟩:=zU t;have K:=Bd.rd f hz T;cases K;cases t;exact e _ _ _ _ (L _ g trivial (Bd.push f.drop (λ_=>.bl _)))
theorem pK{p q:Int->Int->Bool}{a c:Expr}(ho:cP X (compareOp op) r)(ho':cP X (compareOp op') r')(hr:∀i j H Q,Q (.bl (p i j)) H->r (.int i) (.int j) H Q)(hr':∀i j H Q,Q (.bl (q i j)) H->r' (.int i) (.int j) H Q)
  (ha:JE X E a ma)(hb:JE X E b mb)(hc:JE X E c mc)(hm:lastMarks [op,op'] [b,c]=false:=by with_unfolding_all rfl):JE X E (.Compare a [op,op'] [b,c] pos) (iA p q ma mb mc):=⟨PE.weaken (zP ho ho' ha.p hb.p hc.p hm) (ke hr hr')⟩
theorem wF{p q:Int->Int->Bool}{a c:Expr}(ho:cP X (compareOp op) r)(ho':cP X (compareOp op') r')(hr:∀i j H Q,Q (.bl (p i j)) H->r (.int i) (.int j) H Q)(hr':∀i j H Q,Q (.bl (q i j)) H->r' (.int i) (.int j) H Q)
  (ha:JE X E a ma)(hb:JE X E b mb)(hc:JE X E c mc)(hm:lastMarks [op,op'] [b,c]=false:=by with_unfolding_all rfl):JT X E (.Compare a [op,op'] [b,c] pos) (aq (iA p q ma mb mc)):=⟨PT.weaken (z5 ho ho' ha.p hb.p hc.p hm) λY H Q h=>ke hr hr' Y H _ (c8 Y H Q h)⟩
noncomputable abbrev NH(i j:Int):Bool:=decide (i<j)
noncomputable abbrev Mz(i j:Int):Bool:=decide (i<=j)
noncomputable abbrev Of(i j:Int):Bool:=decide (j<i)
noncomputable abbrev OA(i j:Int):Bool:=decide (j<=i)
theorem Ed(i j:Int)(H:Hp)(Q:VK)(q:Q (.bl (NH i j)) H):oN (λi j=>.bl (decide (i<j))) (.int i) (.int j) H Q:=⟨_,_,rfl,rfl,q⟩
theorem Dx(i j:Int)(H:Hp)(Q:VK)(q:Q (.bl (Mz i j)) H):oN (λi j=>.bl (decide (i<=j))) (.int i) (.int j) H Q:=⟨_,_,rfl,rfl,q⟩
theorem Jd(i j:Int)(H:Hp)(Q:VK)(q:Q (.bl (Of i j)) H):oN (λi j=>.bl (decide (j<i))) (.int i) (.int j) H Q:=⟨_,_,rfl,rfl,q⟩
theorem J5(i j:Int)(H:Hp)(Q:VK)(q:Q (.bl (OA i j)) H):oN (λi j=>.bl (decide (j<=i))) (.int i) (.int j) H Q:=⟨_,_,rfl,rfl,q⟩
example {a b c:Expr} {ma mb mc:Mi Rr} {pos:Pos} (ha:JE X E a ma) (hb:JE X E b mb) (hc:JE X E c mc) (hm:lastMarks [.LtE,.Lt] [b,c]=false):JE X E (.Compare a [.LtE,.Lt] [b,c] pos) (iA Mz NH ma mb mc):=pK uj sI Dx Ed ha hb hc hm
end
section
variable{X:Cx}{E:XK}
def wa(K:O2):R2:=λx y H Q=>∃a b xs ys,x=.ref a/\y=.ref b/\eX K H a xs/\eX K H b ys/\xs.length+ys.length<=sizeLine/\∀p,H p=none->Q (.ref p) (upd H p (.lst (xs++ys)))
theorem zF:cP X (binaryOp .Add) (wa X.K):=by
 intro pins s Y H x y v u Q I e P h;obtain⟨a,b,xs,ys,rfl,rfl,ha,d,hz,q⟩:=h;cases e;cases P;obtain⟨O,S,T,_⟩:=I.list ha;obtain⟨A,p,p2,_⟩:=I.list d;obtain⟨⟨g,o,t,G⟩,m,J,c,U,r⟩:=id T;obtain⟨⟨C,z,w,R⟩,V,l,Z,E,L⟩:=id p2;simp only at c r Z L U E;subst c r Z L U E;have k1:=S.length;have k2:=p.length;refine concat_meets ⟨_,J,rfl⟩ ⟨_,l,rfl⟩ noFill_list_add seq_list_add PySem.F.slot_list_add PySem.F.entry_list_add (PySem.F.args_list_add_2 _ _) (Wh a b _ _ m V _ _ G R (by rw[O4,O4];omega)) ⟨J,l,?_⟩;have ea:O.toArray++A.toArray=(O++A).toArray:=by simp
 rw[ea];exact⟨.ref _,_,I.Nt (t':=s.toks) (S.append p) (by rw[Pk];omega),rfl,q _ I.fresh⟩
noncomputable def vW:A->A->Option Rr
 | .lst xs,.lst ys=>if xs.length+ys.length<=100000 then some (.nw (.lst (xs++ys))) else none
 |_,_=>none
theorem Dl:eB K (wa K.K) vW:=by
 intro c Y H Z B θ x y v w a b q Q I u F e J l T k;cases a<;>first|(cases T;done)|(cases b<;>first|(cases T;done)|skip)
 rename_i xs ys;unfold vW at T;simp only at T;split at T
 .rename_i hc;cases T;obtain⟨L,bl,o,A⟩:=Bd.qA e u F J l;obtain⟨O,h,rfl,s1,S⟩:=o.1 xs rfl;obtain⟨p2,r,rfl,s2,D⟩:=A.1 ys rfl;have V:=S.len;have R:=D.len;subst I;exact⟨O,p2,h,r,rfl,rfl,s1,s2,by have:=hY;omega,λp hp=>k _ _ trivial (bl.gy hp λG H' sm q=>.lst q ((S.app D).sm sm))⟩
 .cases T
abbrev aK:=bI qv (bI pL (bI mP vW))
theorem AL{a:Expr}(ha:JE X E a ma)(d:JE X E b mb):JE X E (.BinOp a .Add b pos) (av aK ma mb):=mR (cP.or' E2 (cP.or' rT (cP.or' AN zF))) (A8.or (CU.or (Bc.or Dl))) ha d
end
variable{px:Pos}
section
variable{X:Cx}{E:XK}
def rA(i:Nat):Mi Rr:=λZ=>match aC Z i with
 |some (.lst _)=>some (.ok (.fr .non),setAt Z i (.lst []))
 |_=>none
theorem wW(hN:X.N[i]?=some x)(hv:qy X.env.scope x)(hd:eG x)(hcd:t9 x)
  (hbase:attributeBase (.Name x px) "clear" X.env (eval (.Name x px) X.env)=eval (.Name x px) X.env:=by rfl)(hline:(apos.endLine==cpos.line)=true:=by rfl):
  JE X E (.Call (.Attribute (.Name x px) "clear" apos) [] [] cpos) (rA i):=
 ⟨PE.weaken (zy QN PySem.F.slot_list_clear PySem.F.type_list_clear wo (dq hN hv hd hcd) hbase hline) λY H Q h=>by
  obtain⟨c,Z,B,θ,o,O,ek,b,em,q⟩:=h;unfold rA at em;cases e2:aC Z i with
  |none=>simp only[e2] at em;cases em
  |some lo=>
   cases lo with
   |dic _=>simp only[e2] at em;cases em
   |dit _=>simp only[e2] at em;cases em
   |obj _ _=>simp only[e2] at em;cases em
   | lst xs=>simp only[e2] at em;cases em;obtain⟨p,vs,hp,hH⟩:=du b e2;obtain⟨L,bl⟩:=b;obtain⟨p',h1,h2,h3⟩:=bl.live e2 (.lst []) (.lst []);rw[hp] at h1;cases h1;refine⟨_,hp,.inl ⟨rfl,vs,.inl (.inl hH)⟩,?_⟩;exact⟨p,vs,rfl,rfl,hH,q _ _ trivial (Bd.push (h3 λH' hh=>.lst hh .nil) λ_=>.non)⟩⟩
theorem bf.dropLast{K:Kx}{G:Hp}:∀{vs:List V}{as:List A},bf K G vs as->bf K G vs.dropLast as.dropLast
 |_,_,.nil=>.nil
 |_,_,.cons h .nil=>.nil
 |_,_,.cons h (.cons h2 r)=>.cons h (bf.dropLast (.cons h2 r))
def qS(i:Nat):Mi Rr:=λZ=>match aC Z i with
 |some (.lst xs)=>match xs[xs.length-1]? with
  |some a=>some (.ok (.fr a),setAt Z i (.lst xs.dropLast))
  |none=>none
 |_=>none
theorem Fx(hN:X.N[i]?=some x)(hv:qy X.env.scope x)(hd:eG x)(hcd:t9 x)
  (hbase:attributeBase (.Name x px) "pop" X.env (eval (.Name x px) X.env)=eval (.Name x px) X.env:=by rfl)(hline:(apos.endLine==cpos.line)=true:=by rfl):
  JE X E (.Call (.Attribute (.Name x px) "pop" apos) [] [] cpos) (qS i):=
 ⟨PE.weaken (zy QN T4 T5 Fz (dq hN hv hd hcd) hbase hline) λY H Q h=>by
  obtain⟨c,Z,B,θ,o,O,ek,b,em,q⟩:=h;unfold qS at em;cases e2:aC Z i with
  |none=>simp only[e2] at em;cases em
  |some lo=>
   cases lo with
   |dic _=>simp only[e2] at em;cases em
   |dit _=>simp only[e2] at em;cases em
   |obj _ _=>simp only[e2] at em;cases em
   |lst xs=>
    simp only[e2] at em;cases e3:xs[xs.length-1]? with
    |none=>simp only[e3] at em;cases em
    |some a=>
     simp only[e3] at em;cases em;obtain⟨p,vs,hp,hH⟩:=du b e2;obtain⟨L,bl⟩:=b;obtain⟨p',h1,h2,h3⟩:=bl.live e2 (.lst xs) (.lst []);rw[hp] at h1;cases h1;cases h2 with
     |lst e rr=>
      rename_i ws;rw[hH] at e;cases e;obtain⟨v,g1,g2⟩:=rr.ta e3;obtain⟨L1,bl1⟩:=bl.push g2;obtain⟨p2,k1,k2,k3⟩:=bl1.live e2 (.lst xs.dropLast) (.lst vs.dropLast);rw[hp] at k1;cases k1;cases k2 with
      | lst e' rr'=>rw[hH] at e';cases e';refine⟨_,hp,.inl ⟨rfl,vs,.inl (.inl hH)⟩,?_⟩;exact⟨p,vs,v,rfl,rfl,hH,by rw[rr.len];exact g1,q _ _ trivial (k3 λH' hh=>.lst hh rr'.dropLast)⟩⟩
end
section
variable{c:Cn}{Y:St}{H:Hp}{Z:List Sl}{B:St}{θ:List Sl}
theorem Bd.unset(b:Bd c Y H Z B θ)(h:M.put i .un Z=some O):Bd c (Y.set i none) H O B θ:=by
 unfold M.put at h;have I:∀s,Z[i]?=some s->(∀o,s≠.pv o)->O=Z.set i .un->Bd c (Y.set i none) H O B θ:=λs e N y=>by
  subst y;obtain⟨L,nd,rel,own,fr,kp,lt,u⟩:=b;obtain⟨K,L2,J,S,p⟩:=aw.split lt rel;obtain⟨x,M1,M2,X,k,n,l,ins⟩:=p.at e;subst J l;have sub:∀a,a∈K++(M1++[]++X)->a∈K++(M1++M2++X):=λa ha=>by simp at ha ⊢;rcases ha with z|z|z<;>simp[z]
  have sm:Sq (c.g H (K++(M1++M2++X))) (c.g H (K++(M1++[]++X))):=cC sub;have hi:i<Z.length:=(O6.mp e).1;refine⟨K++(M1++[]++X),?_,(S.sm sm (λ_ _ _ e=>e)).app (ins sm (λ_ _ _ e=>e) (.un none)),λq r=>own q (sub q r),fr,kp.set (λo z=>?_) hi (λo z=>by cases z),lt,u⟩
  .refine nd.sublist (QF (QB _) (QF ?_ (QB _)));exact QF (QB _) (Vg _)
  .rw[e] at z;exact N o (Pn z)
 cases es:Z[i]? with
 |none=>simp only[es] at h;cases h
 |some s=>
  cases s with
  |pv o=>simp only[es] at h;cases h
  |un=>simp only[es] at h;exact I _ es (λo z=>by cases z) (Pn h).symm
  |fr a=>simp only[es] at h;exact I _ es (λo z=>by cases z) (Pn h).symm
  |lv o=>simp only[es] at h;exact I _ es (λo z=>by cases z) (Pn h).symm
end
section
variable{X:Cx}{E:XK}
def MM(K:Kx)(Ex:XS)(c:Cn)(O:List Sl)(B:St)(θ:List A)(D:Ends):Fl->Prop
 | .ex x=>∀C Y H,K.mg x=some (.ref C)->Bd c Y H O B (θ.map Sl.fr)->Ex (.ref C) Y H
 |f=>AZ K jH c O B θ D f
inductive NW(K:Kx)(m:Ms)(D:Ends)(Ex:XS)(Y:St)(H:Hp):Prop
 |mk(c:Cn)(Z:List Sl)(B:St)(θ:List A)(f:Fl)(O:List Sl)(h1:c.toKx=K)(h2:Bd c Y H Z B (θ.map Sl.fr))(h3:m Z=some (f,O))(h4:MM K Ex c O B θ D f)
structure JX(X:Cx)(st:Stmt)(m:Ms):Prop where
 p:PX X st (NW (kx X) m)
theorem PX.weaken{st:Stmt}{t t':TX}(h:PX X st t)(f:∀D Ex Y H,t' D Ex Y H->t D Ex Y H):PX X st t':=λpins s Y H D Ex I q=>h pins s Y H D Ex I (f D Ex Y H q)
noncomputable def iE{α:Type}(m:Mi α):Mi α:=λZ=>match m Z with
 |some (.ok x,U)=>some (.ok x,U)
 |_=>none
theorem gc{m:Mi α}{o:Except Str α}(h:iE m Z=some (o,O)):∃x,o=.ok x/\m Z=some (.ok x,O):=by
 unfold iE at h;cases e:m Z with
 |none=>simp only[e] at h;cases h
 |some p=>
  obtain⟨r,U⟩:=p;cases r with
  |ok x=>simp only[e] at h;cases h;exact⟨x,rfl,rfl⟩
  |error x=>simp only[e] at h;cases h
theorem eV{m:Ms}{n:Nat}{ma:Mi (List Rr)}{Q:VK}{u:XK}{o:Except Str Rr}(hn:∀Z rs O,ma Z=some (.ok rs,O)->rs.length+0=n)(I:c.toKx=kx X)(b:Bd c Y H Z B θ)(em:iw m [] (iE ma) Z=some (o,O))
  (t:∀r,o=.ok r->∀v H',VR Y r v->Bd c Y H' O (bp r v B) (bh r θ)->Q v H')(h:∀x,o=.error x->∀C H',X.mg x=some (.ref C)->Bd c Y H' O B θ->u (.ref C) none H'):
  My (kx X) jH ma Y H λvs i=>vd (kx X) n m (vs++[]) i Q u:=by
 rcases bind_some em with ⟨rs,U,J,l⟩|⟨e,J,l⟩
 .obtain⟨x,h1,h2⟩:=gc J;cases h1;refine⟨c,Z,B,θ,_,U,I,b,h2,λvs i q b1=>?_⟩;refine lV (E:=u) (dvs:=[]) (λG=>.nil) I ?_ q b1 l t h;rw[P8,<-q.len];exact hn Z rs U h2
 .obtain⟨x,h1,_⟩:=gc J;cases h1
theorem Ir{n:Nat}{m:Ms}{pos':Pos}{ma:Mi (List Rr)}(hN:X.N.Nodup)(hi:X.N[i]?=some y)(hx:Loc X.env.scope y)(F:cR X.prog X.w X.K X.mg X.base (mL X.prog X.w) k f fd ps (vd (kx X) n m))(hr:cE k X.A)(hg:Gl X x)
  (hm:X.mg x=some (.ref f))(hk:Qf X.K (.ref f)=true)(hb:Binds X.K fd ps [])(ha:JA X.uw jH (e::es) ma)(hn:∀Z rs O,ma Z=some (.ok rs,O)->rs.length+0=n)(hdb:eG x)(hs:swapsWith (.Call (.Name x p) (e::es) [] cpos) (some (.Name y pos')) pos.line X.env=pure false:=by rfl)
  (hf:X.fn y=true\/X.env.scope.names.lookup y=some .local:=by first|exact .inl rfl|exact .inr rfl|assumption)(he:starEach (e::es) X.env=(false,eval e X.env)::starEach es X.env:=by rfl)(hpl:(backTo cpos (starEach es X.env)).any (·.1)=false:=by rfl):
  JX X (.Assign [.Name y pos'] (.Call (.Name x p) (e::es) [] cpos) pos) (aE i (iw m [] (iE ma))):=
 ⟨PX.weaken (Fb hN hi hx (pQ (dvs:=[]) F hr hg hm hk hb .nil ha.p hdb he hpl) hs hf) λD Ex Y H h=>by
  obtain⟨c,Z,B,θ,f,O,ek,b,em,q⟩:=h;rcases a8 em with ⟨r,U,e1,e2⟩|⟨e,e1,e2⟩
  .refine eV hn ek b e1 (λr' hr' v H' hv b1=>?_) (λx hx=>by cases hx);cases hr';cases e3:uy r U with
   |none=>simp only[e3] at e2;cases e2
   |some p=>
    obtain⟨t,Z0⟩:=p;simp only[e3] at e2;obtain⟨b2,ht⟩:=Bd.uy hv b1 e3;cases e4:put i t Z0 with
    |none=>simp only[e4] at e2;cases e2
    |some Z1=>simp only[e4] at e2;cases e2;exact q _ H' (Bd.put b2 ht e4)
  .subst e2;exact eV hn ek b e1 (λr hr=>by cases hr) (λx hx=>by cases hx;exact λC H' hm b1=>q C Y H' hm b1)⟩
theorem A2{n:Nat}{m:Ms}{ma:Mi (List Rr)}(F:cR X.prog X.w X.K X.mg X.base (mL X.prog X.w) k f fd ps (vd (kx X) n m))(hr:cE k X.A)(hg:Gl X x)
  (hm:X.mg x=some (.ref f))(hk:Qf X.K (.ref f)=true)(hb:Binds X.K fd ps [])(ha:JA X.uw jH (e::es) ma)(hn:∀Z rs O,ma Z=some (.ok rs,O)->rs.length+0=n)(hdb:eG x)(hs:swapsWith (.Call (.Name x p) (e::es) [] cpos) none pos.line X.env=pure false:=by rfl)
  (he:starEach (e::es) X.env=(false,eval e X.env)::starEach es X.env:=by rfl)(hpl:(backTo cpos (starEach es X.env)).any (·.1)=false:=by rfl):
  JX X (.Expr (.Call (.Name x p) (e::es) [] cpos) pos) (dR (iw m [] (iE ma))):=
 ⟨PX.weaken (CS (pQ (dvs:=[]) F hr hg hm hk hb .nil ha.p hdb he hpl) hs) λD Ex Y H h=>by
  obtain⟨c,Z,B,θ,f,O,ek,b,em,q⟩:=h;rcases a8 em with ⟨r,U,e1,e2⟩|⟨e,e1,e2⟩
  .cases e2;exact eV hn ek b e1 (λr' hr' v H' hv b1=>by cases hr';exact q Y H' b1.drop) (λx hx=>by cases hx)
  .subst e2;exact eV hn ek b e1 (λr hr=>by cases hr) (λx hx=>by cases hx;exact λC H' hm b1=>q C Y H' hm b1)⟩
def F3(i:Nat)(sub:Str->Bool)(b s:Ms):Ms:=λZ=>match b Z with
 |some (.ex x,U)=>if sub x=true then match put i (.fr (.exc x)) U with
  |some Z0=>match s Z0 with
   |some (.nx,Z1)=>match put i .un Z1 with
    |some I=>some (.nx,I)
    |none=>none
   |some (.rt r,Z1)=>some (.rt r,Z1)
   |_=>none
  |none=>none else none
 |r=>r
theorem Eu{T:Addr}{n:Str}{b0 s0:Stmt}{suite:List Stmt}{mb ms:Ms}{sub:Str->Bool}{np hp:Pos}(hst:X.stack=X.env::X.outer)(hfr:X.env.frame=some X.env.locals)(hex:X.ex=[])(hN:X.N.Nodup)(hi:X.N[i]?=some n)(hn:X.env.scope.names.lookup n=some .local)
  (hg:Gl X x)(hm:X.mg x=some (.ref T))(hsub:∀c C,sub c=true->X.mg c=some (.ref C)->Sa X.K (.ref C) (.ref T)=some true)(hb:JX X b0 mb)(hs:∀a,vM (X.marked a) jH (s0::suite) ms)(hd:eG x)
  (hf:X.fn n=true\/X.env.scope.names.lookup n=some .local:=by first|exact .inl rfl|exact .inr rfl|assumption):
  JS X E (.Try [b0] [.ExceptHandler (some (.Name x np)) (some n) (s0::suite) hp] [] [] pos) (F3 i sub mb ms):=
 ⟨PS.weaken (Fh (ts:=ND (kx X) jH ms) hst hfr hex hN hi hn hg hm (uv hb.p) (λa=>(hs a).p) hd hf) λD Y H h=>by
  obtain⟨c,Z,B,θ,f,O,ek,b,em,q⟩:=h;unfold F3 at em;cases eb:mb Z with
  |none=>simp only[eb] at em;cases em
  |some p=>
   obtain⟨f1,U⟩:=p;simp only[eb] at em;refine⟨c,Z,B,θ,f1,U,ek,b,eb,?_⟩;cases f1 with
   |nx=>cases em;exact q
   |rt s=>cases em;exact q
   |bk=>cases em;exact q
   |ct=>cases em;exact q
   |ex y=>
    simp only at em;split at em
    .rename_i hsb;intro C Z' H' hmC b1;refine⟨C,rfl,hsub y C hsb hmC,λa ha=>?_⟩;cases ep:put i (.fr (.exc y)) U with
     |none=>simp only[ep] at em;cases em
     |some Z0=>
      simp only[ep] at em;cases es:ms Z0 with
      |none=>simp only[es] at em;cases em
      |some p=>
       obtain⟨f2,Z1⟩:=p;simp only[es] at em;have b2:Bd c (Z'.set i (some (.ref a))) (upd H' a (qk a C)) Z0 B (θ.map Sl.fr):=by obtain⟨L,bl⟩:=b1;obtain⟨b3,sm,np⟩:=bl.new (o:=qk a C) ha;exact Bd.put (b3.push (.exc (by rw[cy np (bl.Ja ha)];exact br) (by rw[ek];exact hmC))) (λo z=>by cases z) ep
       refine⟨c,Z0,B,θ,f2,Z1,ek,b2,es,?_⟩;cases f2 with
       |nx=>
        cases e4:put i .un Z1 with
        |none=>simp only[e4] at em;cases em
        |some I=>simp only[e4] at em;cases em;exact λV H3 b3=>q _ H3 (b3.unset e4)
       |rt r=>cases em;exact q
       |bk=>cases em
       |ct=>cases em
       |ex z=>cases em
    .cases em⟩
end
end M
set_option maxHeartbeats 4000000
set_option maxHeartbeats 1000000
namespace M
open PySem L2
noncomputable def DO(i j:Str):Bool:=!(QI j i 0 j.length 1).isEmpty
def iV(neg:Bool):A->A->Option Rr
 | .str i,.str j=>some (.fr (.bl (if neg then !(DO i j) else DO i j)))
 |_,_=>none
noncomputable def iR:List A->Option (List Bool)
 |[]=>some []
 | .bl b::r=>match iR r with
  |some bs=>some (b::bs)
  |none=>none
 |_=>none
theorem mB:∀{xs:List A}{bs:List Bool},iR xs=some bs->xs=bs.map A.bl
 |[],bs,h=>by cases h;rfl
 |a::r,bs,h=>by
  cases a<;>first|(cases h;done)|skip
  unfold iR at h;cases e:iR r with
  |none=>simp only[e] at h;cases h
  |some cs=>simp only[e] at h;cases h;rw[mB e];rfl
def xw(g:List Bool->Bool):A->Option Rr
 | .lst xs=>match iR xs with
  |some bs=>some (.fr (.bl (g bs)))
  |none=>none
 |_=>none
theorem oW{K:Kx}{G:Hp}:∀{bs:List Bool}{vs:List V},bf K G vs (bs.map A.bl)->vs=bs.map V.bl
 |[],vs,h=>by cases h;rfl
 |b::bs,vs,h=>by
  cases h with
  |cons h1 h2=>cases h1;rw[oW h2];rfl
variable{K:Kx}
theorem F0{g:List Bool->Bool}:lD K (λv=>Kz K.K g [v]) (xw g):=.scalar λH v a q S h=>by
 cases a<;>first|(cases h;done)|skip
 rename_i xs;unfold xw at h;simp only at h;cases e:iR xs with
 |none=>simp only[e] at h;cases h
 |some bs=>
  simp only[e] at h;cases h;have:=mB e;subst this;cases S with
  |lst I b=>exact⟨_,_,rfl,λ_=>.bl _,λQ k=>⟨_,_,bs,rfl,I,oW b,k⟩⟩
section
variable{X:Cx}{E:XK}{a b:Expr}{ma mb:Mi Rr}{pos:Pos}
theorem vU:eB K (λx y H Q=>∃i j,x=.str i/\y=.str j/\Q (.bl (!(QI j i 0 j.length 1).isEmpty)) H) (iV false):=.scalar λH v w a b q S p h=>by
 cases a<;>first|(cases h;done)|skip
 cases b<;>first|(cases h;done)|skip
 cases S;cases p;cases h;exact⟨_,_,rfl,λ_=>.bl _,λQ k=>⟨_,_,rfl,rfl,k⟩⟩
theorem sM:eB K (λx y H Q=>∃i j,x=.str i/\y=.str j/\Q (.bl (!(!(QI j i 0 j.length 1).isEmpty))) H) (iV true):=.scalar λH v w a b q S p h=>by
 cases a<;>first|(cases h;done)|skip
 cases b<;>first|(cases h;done)|skip
 cases S;cases p;cases h;exact⟨_,_,rfl,λ_=>.bl _,λQ k=>⟨_,_,rfl,rfl,k⟩⟩
theorem G3(f:X.A.units+1<cLine)(ha:JE X E a ma)(d:JE X E b mb)(hm:behindInMarks .In b=false):JE X E (.Compare a [.In] [b] pos) (av (bI (bI (fP false) (dm false)) (iV false)) ma mb):=cB (Jo f ha d hm) (cq lQ vU ha d hm)
theorem Hk(f:X.A.units+1<cLine)(ha:JE X E a ma)(d:JE X E b mb)(hm:behindInMarks .In b=false):JT X E (.Compare a [.In] [b] pos) (aq (av (bI (bI (fP false) (dm false)) (iV false)) ma mb)):=c4 (Lf f ha d hm) (ck lQ vU ha d hm)
theorem BF(f:X.A.units+1<cLine)(ha:JE X E a ma)(d:JE X E b mb)(hm:behindInMarks .NotIn b=false):JE X E (.Compare a [.NotIn] [b] pos) (av (bI (bI (fP true) (dm true)) (iV true)) ma mb):=cB (Gi f ha d hm) (cq iG sM ha d hm)
theorem BI(f:X.A.units+1<cLine)(ha:JE X E a ma)(d:JE X E b mb)(hm:behindInMarks .NotIn b=false):JT X E (.Compare a [.NotIn] [b] pos) (aq (av (bI (bI (fP true) (dm true)) (iV true)) ma mb)):=c4 (GK f ha d hm) (ck iG sM ha d hm)
theorem yr:bootBuiltins "all" = some (.builtin "all"):=by decide +kernel
end
def Lq(G G':Hp):Prop:=∀a u,G a=some u->(∀o,u≠.lst o)->G' a=some u
theorem oM(l:Addr)(xs:Array Value)(n:Nat)(b:Addr)(ys:Array Value)(U:Nat)(z:Option Addr)(N:Array (Option Value))(J:¬ (!xs.isEmpty&&Q4 (xs.size+ys.size))=true)(h1:xs.size<=sizeLine)(h2:xs.size+ys.size<=sizeLine+1):
  Meets (Builtin.«list.extend» ⟨[.ref l,.ref b],[]⟩) (λ_ R s=>s.heap.get? l=some { cls:=.type "list",data:=.seq xs n }/\s.heap.get? b=some { cls:=.type "list",dict:=z,data:=.seq ys U,slots:=N }/\R (.ok (.ret Rt)) { s with heap:=s.heap.update l (Rh λx=>x++ys),toks:=s.toks }):=
 .of_wp λprog w A R s h=>by
  obtain⟨hp,g,d,tk,os⟩:=s;obtain⟨hl,K,h⟩:=h;have S:=AutoSeq1.idx_int;have c:=AutoSeq1.sub_tuple_tuple;have T:=AutoSeq1.sub_list_list;have Y:=AutoSeq1.sub_tuple_list;have V:=AutoSeq1.sub_list_tuple;have H:(xs++ys).size<=sizeLine+1:=by rw[Array.size_append];exact h2
  wp_walk using (wpAny_updateSeq hl rfl (hz:=h1) (_hz':=H)),Ti hl,Ti K
  exact⟨_,rfl,h⟩
variable{i:Nat}{x:Str}{px apos cpos:Pos}{e:Expr}{m:Mi Rr}
section
variable{X:Cx}{E:XK}
def yu(K:O2):V->List V->Hp->VK->Prop:=λx vs H Q=>∃l b xs c,x=.ref l/\vs=[.ref b]/\H l=some (.lst xs)/\eX K H b c/\xs.length+c.length<=sizeLine/\Q .non (upd H l (.lst (xs++c)))
theorem rV:Jn X "list.extend" (yu X.K):=by
 intro pins s Y H x vs v us Q I a rv h;obtain⟨l,b,xs,y,rfl,rfl,S,U,hz,q⟩:=h;cases a;obtain⟨u,rfl,g⟩:=rv.one;cases g;obtain⟨z,O,n,r,hl,e⟩:=I.xt S;obtain⟨A,p,w,_⟩:=I.list U;obtain⟨⟨C,k,m,R⟩,V,N,c,E,L⟩:=id w;simp only at c L E;subst c L E;have k2:=p.length;have hsz:O.toArray.size+A.toArray.size<=sizeLine:=by rw[O4,O4];omega
 have Z:¬ (!O.toArray.isEmpty&&Q4 (O.toArray.size+A.toArray.size))=true:=by rw[xn hsz,RL];exact PL
 refine call_meets Tp ⟨_,e,rfl⟩ PySem.F.entry_list_extend (PySem.F.args_list_extend_2 _ _)
  (oM l O.toArray n b A.toArray V _ _ Z (by rw[O4];omega) (by omega)) ⟨e,N,?_⟩
 refine⟨.non,_,I.xU (its':=O++A) S e (by simp) (r.append p) ?_,rfl,q⟩;rw[Pk];omega
def gj(i:Nat)(m:Mi Rr):Mi Rr:=aB m λr Z=>match aS r Z with
 |some (.lst zs,U)=>match aC U i with
  |some (.lst xs)=>if xs.length+zs.length<=100000 then some (.ok (.fr .non),setAt U i (.lst (xs++zs))) else none
  |_=>none
 |_=>none
theorem uX(hN:X.N[i]?=some x)(hv:qy X.env.scope x)(hd:eG x)(hcd:t9 x)(he:JE X E e m)
  (hbase:attributeBase (.Name x px) "extend" X.env (eval (.Name x px) X.env)=eval (.Name x px) X.env:=by rfl)
  (hfew:((backTo cpos (starEach [e] X.env)).all (λx=>!x.1)&&(backToKw cpos (keywordEach [] X.env)).all (λx=>x.1.isSome)&&decide (([e]:List Expr).length+([]:List Keyword).length+(if ([]:List Keyword).isEmpty then 0 else 1)<30))=true:=by rfl)
  (hline:(apos.endLine==cpos.line)=true:=by rfl)(hs:starEach [e] X.env=(false,eval e X.env)::starEach [] X.env:=by rfl)(hplain:(backTo cpos (starEach [] X.env)).any (·.1)=false:=by rfl):
  JE X E (.Call (.Attribute (.Name x px) "extend" apos) [e] [] cpos) (fq i (gj i m)):=
 ⟨PE.weaken (uq QN Tp PySem.F.type_list_extend rV (dq hN hv hd hcd) (bA he.p cS hs) hbase hfew hline hs hplain) λY H Q h=>by
  obtain⟨c,Z,B,θ,o,O,ek,b,em,q⟩:=h;unfold fq at em;split at em
  .rename_i hl;obtain⟨xs0,hl⟩:=il hl;obtain⟨p,vs,hp,hH⟩:=du b hl;refine⟨_,hp,.inl ⟨rfl,vs,.inl (.inl hH)⟩,?_⟩;refine aJ ek b em (λr v U H1 hv b1 em1=>?_) (aH q);cases e1:aS r U with
   |none=>simp only[e1] at em1;cases em1
   |some pr=>
    obtain⟨a,Z0⟩:=pr;simp only[e1] at em1;have b2:=Bd.aS (xs:=[]) (ss:=[]) rfl b1 hv e1;cases a<;>first|(simp only at em1;cases em1;done)|skip
    rename_i zs;simp only at em1;cases e2:aC Z0 i with
    |none=>simp only[e2] at em1;cases em1
    |some lo=>
     cases lo with
     |dic _=>simp only[e2] at em1;cases em1
     |dit _=>simp only[e2] at em1;cases em1
     |obj _ _=>simp only[e2] at em1;cases em1
     |lst xs=>
      simp only[e2] at em1;split at em1
      .rename_i hx;cases em1;obtain⟨L,bl,ra⟩:=Bd.B5 b2;cases ra with
       |lst se sr=>
       rename_i pb us;obtain⟨p',h1,h2,h3⟩:=bl.live e2 (.lst (xs++zs)) (.lst ((match H1 p with|some (.lst ws)=>ws|_=>[])++us));rw[hp] at h1;cases h1;cases h2 with
       |lst e rr=>rename_i ws;simp only[e] at h3;have eK:c.K=X.K:=congrArg Kx.K ek;have n1:=rr.len;have n2:=sr.len;refine⟨p,pb,ws,us,rfl,rfl,e,by rw[<-eK];exact kG (g_same _ _ _) se,by have:=nV;omega,q _ _ trivial (Bd.push (h3 λH' hh=>.lst hh (rr.app sr)) λ_=>.non)⟩
      .cases em1
  .cases em⟩
def fR(i:Nat)(m:Mi Rr):Mi Rr:=fq i (aB m λr Z=>match res Z r,aC Z i with
 | some (.int k),some (.lst xs)=>if -(2^60)<=k/\k<2^60 then (match seqIndex? k xs.length with
  |some j=>match xs[j]? with
   |some a=>some (.ok (.fr a),setAt Z i (.lst (xs.eraseIdx j)))
   |none=>none
  | none=>none) else none
 | _,_=>none)
theorem bf.erase{K:Kx}{G:Hp}:∀{vs:List V}{as:List A}(j:Nat),bf K G vs as->bf K G (vs.eraseIdx j) (as.eraseIdx j)
 |_,_,_,.nil=>.nil
 |_,_,0,.cons h r=>r
 |_,_,j+1,.cons h r=>.cons h (r.erase j)
theorem xD(hN:X.N[i]?=some x)(hv:qy X.env.scope x)(hd:eG x)(hcd:t9 x)(he:JE X E e m)
  (hbase:attributeBase (.Name x px) "pop" X.env (eval (.Name x px) X.env)=eval (.Name x px) X.env:=by rfl)
  (hfew:((backTo cpos (starEach [e] X.env)).all (λx=>!x.1)&&(backToKw cpos (keywordEach [] X.env)).all (λx=>x.1.isSome)&&decide (([e]:List Expr).length+([]:List Keyword).length+(if ([]:List Keyword).isEmpty then 0 else 1)<30))=true:=by rfl)
  (hline:(apos.endLine==cpos.line)=true:=by rfl)(hs:starEach [e] X.env=(false,eval e X.env)::starEach [] X.env:=by rfl)(hplain:(backTo cpos (starEach [] X.env)).any (·.1)=false:=by rfl):
  JE X E (.Call (.Attribute (.Name x px) "pop" apos) [e] [] cpos) (fR i m):=
 ⟨PE.weaken (uq QN T4 T5 xK (dq hN hv hd hcd) (bA he.p cS hs) hbase hfew hline hs hplain) λY H Q h=>by
  obtain⟨c,Z,B,θ,o,O,ek,b,em,q⟩:=h;unfold fR fq at em;split at em
  .rename_i hl;obtain⟨xs0,hl⟩:=il hl;obtain⟨p,vs,hp,hH⟩:=du b hl;refine⟨_,hp,.inl ⟨rfl,vs,.inl (.inl hH)⟩,?_⟩;refine aJ ek b em (λr v U H1 hv b1 em1=>?_) (aH q);cases e1:res U r with
   |none=>simp only[e1] at em1;cases em1
   |some a=>
    cases a<;>first|(simp only[e1] at em1;cases em1;done)|skip
    rename_i k;simp only[e1] at em1;have rv:=Bd.rd b1 hv e1;cases rv;cases e2:aC U i with
    |none=>simp only[e2] at em1;cases em1
    |some lo=>
     cases lo with
     |dic _=>simp only[e2] at em1;cases em1
     |dit _=>simp only[e2] at em1;cases em1
     |obj _ _=>simp only[e2] at em1;cases em1
     |lst xs=>
      simp only[e2] at em1;split at em1
      .rename_i hk;cases e3:seqIndex? k xs.length with
       |none=>simp only[e3] at em1;cases em1
       |some j=>
        simp only[e3] at em1;cases e4:xs[j]? with
        |none=>simp only[e4] at em1;cases em1
        |some a=>
         simp only[e4] at em1;cases em1;have b2:=Bd.drop b1;obtain⟨p0,ws,hp0,hH1⟩:=du b2 e2;rw[hp] at hp0;cases hp0;obtain⟨L,bl⟩:=b2;obtain⟨p',h1,h2,h3⟩:=bl.live e2 (.lst xs) (.lst []);rw[hp] at h1;cases h1;cases h2 with
         |lst e rr=>
          rw[hH1] at e;cases e;obtain⟨u,g1,g2⟩:=rr.ta e4;obtain⟨L1,bl1⟩:=bl.push g2;obtain⟨p2,k1,k2,k3⟩:=bl1.live e2 (.lst (xs.eraseIdx j)) (.lst (ws.eraseIdx j));rw[hp] at k1;cases k1;cases k2 with
          |lst e' rr'=>rw[hH1] at e';cases e';exact⟨p,ws,k,j,u,rfl,rfl,hH1,by omega,by omega,by rw[rr.len];exact e3,g1,q _ _ trivial (k3 λH' hh=>.lst hh (rr'.erase j))⟩
      .cases em1
  .cases em⟩
end
end M
namespace L2
open PySem
theorem Ka{X:Cx}{t:Expr}{a b:List Stmt}{pos:Pos}{u:TT}{ta tb:TX}(R:PT X.uw t u)(ha:Lh X a ta)(K:Lh X b tb):PX X (.If t a b pos) (λD E Y H=>u Y H λk i=>if k=true then ta D E Y i else tb D E Y i):=by
 intro pins s Y H D E I h;refine wpAny_If (wpAny_mono (R pins s Y H _ (I.kC _) h) (λd s1 z=>?_) λ_ _ z=>z.elim);obtain⟨i,j,n⟩:=TP.gO z;cases d with
 |true=>exact ha pins s1 Y i D E j (by simpa using n)
 |false=>exact K pins s1 Y i D E j (by simpa using n)
end L2
namespace M
open PySem L2
section
variable{X:Cx}{E:XK}
structure NA(X:Cx)(st:List Stmt)(m:Ms):Prop where
 p:Lh X st (NW (kx X) m)
theorem tF{st:Stmt}{m:Ms}(h:JX X st m):NA X [st] m:=⟨uv h.p⟩
theorem J0{t:Expr}{a b:List Stmt}{pos:Pos}{mt:Mi Bool}{v mb:Ms}(j:JT X.uw jH t mt)(ha:NA X a v)(d:NA X b mb):JX X (.If t a b pos) (j4 (iE mt) v mb):=
 ⟨PX.weaken (Ka j.p ha.p d.p) λD Ex Y H h=>by
  obtain⟨c,Z,B,θ,f,O,G,b,em,q⟩:=h;rcases a8 em with ⟨k,U,J,l⟩|⟨e,J,l⟩
  .obtain⟨x,h1,h2⟩:=gc J;cases h1;refine⟨c,Z,B,θ.map Sl.fr,.ok k,U,G,b,h2,λi b1=>?_⟩;cases k with
   |true=>rw[if_pos rfl];exact⟨c,U,B,θ,f,O,G,b1,l,q⟩
   |false=>rw[if_neg (by decide)];exact⟨c,U,B,θ,f,O,G,b1,l,q⟩
  .obtain⟨x,h1,_⟩:=gc J;cases h1⟩
end
end M
set_option maxHeartbeats 4000000
set_option maxHeartbeats 1000000
set_option maxHeartbeats 4000000
set_option maxHeartbeats 1000000
set_option maxHeartbeats 4000000
set_option maxHeartbeats 1000000
namespace M
open PySem L2
section
variable{X:Cx}{E:XK}
theorem range_all(rs:List Bool):(Py rs.length).all (λj=>rs.getD j true)=rs.all id:=by
 rw[RD,PZ,PZ];constructor
 .intro h x L;obtain⟨j,V,e⟩:=So L;have:=h j (Qu.mpr V);rw[PQ,Pm V,e] at this;exact this
 .intro h j V;have V:=Qu.mp V;rw[PQ,Pm V];exact h _ (QD V)
variable{a b:Expr}{ma mb:Mi Rr}{pos:Pos}
end
end M
set_option maxHeartbeats 4000000
set_option maxHeartbeats 1000000
namespace M
open PySem L2
section
variable{X:Cx}{E:XK}
open PySem.Spec PyProof.Rows PySem.W in
end
open PySem.W (KasT kas_asc kas_desc kas_rev kas_tail3 kas_descPart kas_count kas_place kas_bin kas_sort)
open PyProof.Rows (mirror_perm bubble_perm bubble)
section
open PySem.Spec PyProof.Rows PySem.W PySem.Calls
variable{prog:Program}{w:World}{A:Around}{E:Value->Shared->Prop}{s:Shared}
theorem qi:∀{vs:List Value},vs.length<2->(vs.toArray.zip vs.toArray).map (·.2)=Qd ((Py vs.length).map λi=>vs.getD i .none)
 |[],_=>by simp
 |[_],_=>by simp[Py,Py.loop]
 |_::_::_,h=>absurd h (by simp)
end
section
variable{X:Cx}{E:XK}
theorem Vals.pick{vs:List V}{us:List Value}(r:Vals vs us):∀(p:List Nat),Vals (p.map λi=>vs.getD i .non) (p.map λi=>us.getD i .none)
 |[]=>.nil
 | i::p=>.cons (by
   have go:∀{vs:List V}{us:List Value}(i:Nat),Vals vs us->RelV (vs.getD i .non) (us.getD i .none):=by
    intro vs us i r;induction r generalizing i with
    |nil=>exact rfl
    |cons h _ m=>cases i with
     |zero=>exact h
     |succ i=>exact m i
   exact go i r) (Vals.pick r p)
open PySem.Spec PyProof.Rows PySem.W in
theorem bf.pick{k:Kx}{G:Hp}{vs:List V}{as:List A}(r:bf k G vs as):∀(p:List Nat),bf k G (p.map λi=>vs.getD i .non) (p.map λi=>as.getD i .non)
 |[]=>.nil
 | i::p=>.cons (by
   have go:∀{vs:List V}{as:List A}(i:Nat),bf k G vs as->RA k G (vs.getD i .non) (as.getD i .non):=by
    intro vs as i r;cases e:vs[i]? with
    |none=>
     have l:as[i]?=none:=by rw[TN] at e ⊢;rw[<-r.len];exact e
     rw[Sh,e,Sh,l];exact .non
    |some v=>obtain⟨a,h1,h2⟩:=r.at e;rw[Sh,e,Sh,h1];exact h2
   exact go i r) (bf.pick r p)
end
variable{i z lo base k' k hi m:Nat}{p:Array Nat}{left:Bool}
section
open PySem PyProof.Rows PySem.W
structure Cc(f:Nat->Nat->Bool)(n:Nat) where
 prog:Program
 w:World
 A:Around
 E:Value->Shared->Prop
 κ:SortKind
 it:Array Keyed
 s:Shared
 hc:∀i j (C:Bool->Shared->Prop),i<n->j<n->C (f i j) s->kas_cmp prog w A κ it i j C s
structure aQ where
 p:Array Nat
 pend:Array (Nat×Nat×Nat)
 mg:Nat
variable{f:Nat->Nat->Bool}{n:Nat}{α j D δ:Type}{Y Z':aQ}
noncomputable def Cc.ar(c:Cc f n)(q:Array Nat):Array Keyed:=q.map (kas_item c.it)
def Cc.st(c:Cc f n)(Y:aQ):SortSt:=Q8 c.κ (c.ar Y.p) Y.pend Y.mg none
def ao(m:Cc f n->StateT SortSt Sem α)(e:j->Cc f n->α)(Y:aQ)(P:j->aQ->Prop):Prop:=
 ∃b Z',P b Z'/\∀c,kasC (model c.prog c.w) c.A c.E (m c) (λa st s=>a=e b c/\st=c.st Z'/\s=c.s) (c.st Y) c.s
section
variable{m m2:Cc f n->StateT SortSt Sem α}{e:j->Cc f n->α}{e':δ->Cc f n->D}{P P2:j->aQ->Prop}{P':δ->aQ->Prop}
theorem ao.pure(b:j)(h:P b Y)(hm:∀c,m c=S6 (e b c)):ao m e Y P:=⟨b,Y,h,λc=>by rw[hm];exact kasC_pure ⟨rfl,rfl,rfl⟩⟩
theorem ao.mono(h:ao m e Y P)(hp:∀b Z',P b Z'->P2 b Z'):ao m e Y P2:=let ⟨b,Z',h1,h2⟩:=h;⟨b,Z',hp _ _ h1,h2⟩
theorem ao.bind{k:α->Cc f n->StateT SortSt Sem D}(h:ao m e Y P)(h2:∀b Z',P b Z'->ao (λc=>k (e b c) c) e' Z' P'):ao (λc=>m c >>= λa=>k a c) e' Y P':=by obtain⟨b,Z',hp,hm⟩:=h;obtain⟨Q,T,H,hk⟩:=h2 b Z' hp;refine⟨Q,T,H,λc=>kasC_bind (wpAny_mono (hm c) ?_ λ_ _ x=>x)⟩;rintro⟨a,st⟩ s ⟨ha,X,N⟩;subst ha X N;exact hk c
theorem ao.get{k:SortSt->Cc f n->StateT SortSt Sem D}(h:ao (λc=>k (c.st Y) c) e' Y P'):ao (λc=>get >>= λa=>k a c) e' Y P':=by obtain⟨b,Z',hp,hm⟩:=h;exact⟨b,Z',hp,λc=>kasC_bind (kasC_get (hm c))⟩
theorem ao.mod{k:PUnit->Cc f n->StateT SortSt Sem D}{g:Cc f n->SortSt->SortSt}(Q:∀c,g c (c.st Y)=c.st Z')(h:ao (λc=>k ⟨⟩ c) e' Z' P'):ao (λc=>modify (g c) >>= λa=>k a c) e' Y P':=by obtain⟨b,T,hp,hm⟩:=h;exact⟨b,T,hp,λc=>kasC_bind (kasC_modify (by rw[Q];exact hm c))⟩
theorem ao.rule{t:String}{k:Unit->Cc f n->StateT SortSt Sem D}(h:ao (λc=>k () c) e' Y P'):ao (λc=>(liftM (rule t):StateT SortSt Sem Unit) >>= λa=>k a c) e' Y P':=by obtain⟨b,T,hp,hm⟩:=h;exact⟨b,T,hp,λc=>kasC_bind (kasC_lift (wpAny_rule (hm c)))⟩
theorem Cc.at(c:Cc f n){q:Array Nat}(hi:i<q.size):(c.ar q)[i]?=some (kas_item c.it (q.getD i 0)):=by
 have e:q.getD i 0=q[i]:=by simp[SF,hi]
 rw[e];simp[Cc.ar,hi]
theorem ao.elem{q:Array Nat}{k:Keyed->Cc f n->StateT SortSt Sem D}(hi:i<q.size)(h:ao (λc=>k (kas_item c.it (q.getD i 0)) c) e' Y P'):ao (λc=>elem' (c.ar q) i >>= λa=>k a c) e' Y P':=by obtain⟨b,T,hp,hm⟩:=h;refine⟨b,T,hp,λc=>kasC_bind ?_⟩;rw[elem'_eq,c.at hi];exact kasC_pure (hm c)
theorem ao.lt{j:Nat}{k:Option Bool->Cc f n->StateT SortSt Sem D}(hi:i<n)(V:j<n)(h:ao (λc=>k (some (f i j)) c) e' Y P'):ao (λc=>lt' (kas_item c.it i) (kas_item c.it j) >>= λa=>k a c) e' Y P':=by obtain⟨b,T,hp,hm⟩:=h;refine⟨b,T,hp,λc=>kasC_bind ?_⟩;rw[lt'_eq];refine kasC_bind (kasC_get ?_);refine kasC_bind (kasC_lift (wpAny_attempt (wpAny_mono (c.hc i j (λb s=>b=f i j/\s=c.s) hi V ⟨rfl,rfl⟩) ?_ λ_ _ x=>x.elim)));rintro _ _ ⟨rfl,rfl⟩;exact kasC_pure (hm c)
theorem ao.ltAt{j:Nat}{k:Option Bool->Cc f n->StateT SortSt Sem D}(hi:i<Y.p.size)(V:j<Y.p.size)(H:Y.p.getD i 0<n)(Z:Y.p.getD j 0<n)(h:ao (λc=>k (some (f (Y.p.getD i 0) (Y.p.getD j 0))) c) e' Y P'):ao (λc=>ltAt' i j >>= λa=>k a c) e' Y P':=by obtain⟨b,T,hp,hm⟩:=h;refine⟨b,T,hp,λc=>kasC_bind ?_⟩;rw[ltAt'_eq];refine kasC_bind (kasC_get ?_);show kasC _ _ _ (do let x <- elem' (c.ar Y.p) i;let y <- elem' (c.ar Y.p) j;lt' x y) _ _ _;rw[elem'_eq,elem'_eq,c.at hi,c.at V];refine kasC_bind (kasC_pure (kasC_bind (kasC_pure ?_)));rw[lt'_eq];refine kasC_bind (kasC_get ?_);refine kasC_bind (kasC_lift (wpAny_attempt (wpAny_mono (c.hc _ _ (λb s=>b=f (Y.p.getD i 0) (Y.p.getD j 0)/\s=c.s) H Z ⟨rfl,rfl⟩) ?_ λ_ _ x=>x.elim)));rintro _ _ ⟨rfl,rfl⟩;exact kasC_pure (hm c)
noncomputable def qI(e:j->Cc f n->α):ForInStep j->Cc f n->ForInStep α
 | .yield b,c=>.yield (e b c)
 | .done b,c=>.done (e b c)
def Lp(I D:j->aQ->Prop):ForInStep j->aQ->Prop
 | .yield b,Y=>I b Y
 | .done b,Y=>D b Y
theorem ao.qH{H:Cc f n->Nat->α->StateT SortSt Sem (ForInStep α)}{init:Cc f n->α}(e:j->Cc f n->α)(I:Nat->j->aQ->Prop){D:j->aQ->Prop}{a:Nat}(Q:j)(hi:∀c,init c=e Q c)(J:I 0 Q Y)(fin:∀b Y,I (z-a) b Y->D b Y)
  (step:∀i b Y,i<z-a->I i b Y->ao (λc=>H c (a+i) (e b c)) (qI e) Y (Lp (I (i+1)) D)):ao (λc=>forIn [a:z] (init c) (H c)) e Y D:=by
 have U:∀k i b Y,i+k=z-a->I i b Y->ao (λc=>forIn (UH (a+i) k) (e b c) (H c)) e Y D:=by
  intro k;induction k with
  |zero=>intro i b Y hk S;exact⟨b,Y,fin b Y (by rw[<-hk];exact S),λc=>kasC_nil ⟨rfl,rfl,rfl⟩⟩
  |succ k m=>
   intro i b Y hk S;obtain⟨r,Z,F,hm⟩:=step i b Y (by omega) S;cases r with
   |done y=>refine⟨y,Z,F,λc=>?_⟩;rw[S7];refine kasC_cons (wpAny_mono (hm c) ?_ λ_ _ x=>x);rintro⟨a',st⟩ s ⟨ha,X,N⟩;subst ha X N;exact⟨rfl,rfl,rfl⟩
   |yield y=>obtain⟨b2,T,h2,h⟩:=m (i+1) y Z (by omega) F;refine⟨b2,T,h2,λc=>?_⟩;rw[S7];refine kasC_cons (wpAny_mono (hm c) ?_ λ_ _ x=>x);rintro⟨a',st⟩ s ⟨ha,X,N⟩;subst ha X N;exact h c
 obtain⟨b,Z',p,hm⟩:=U (z-a) 0 Q Y (by omega) J;exact⟨b,Z',p,λc=>kasC_range (by rw[hi];exact hm c)⟩
theorem ao.ite{q:Prop}[Decidable q](h1:q->ao m e Y P)(h2:¬q->ao m2 e Y P):ao (λc=>if q then m c else m2 c) e Y P:=by
 by_cases h:q
 .rw[funext λc=>if_pos h];exact h1 h
 .rw[funext λc=>if_neg h];exact h2 h
theorem ao.iP{I D:j->aQ->Prop}{m:Cc f n->StateT SortSt Sem (ForInStep α)}(b:j)(h:I b Y)(hm:∀c,m c=S6 (QR (e b c))):ao m (qI e) Y (Lp I D):=ao.pure (.yield b) h hm
theorem ao.dn{I D:j->aQ->Prop}{m:Cc f n->StateT SortSt Sem (ForInStep α)}(b:j)(h:D b Y)(hm:∀c,m c=S6 (ForInStep.done (e b c))):ao m (qI e) Y (Lp I D):=ao.pure (.done b) h hm
theorem ao.pre{q:Prop}[Decidable q](Q:aQ->Prop)(y:∀B,Q B->ao m2 e B P)(h1:q->(∀B,Q B->ao m2 e B P)->ao m e Y P)(h2:Q Y):ao (λc=>if q then m c else m2 c) e Y P:=ao.ite (λh=>h1 h y) λ_=>y Y h2
end
def Pt(n:Nat)(p:Array Nat):Prop:=p.Perm (Qd (Py n))
theorem Pt.size{p:Array Nat}(h:Pt n p):p.size=n:=by have:=Array.Perm.size_eq h;simpa using this
theorem Pt.lt(h:Pt n p)(hi:i<n):p.getD i 0<n:=by
 have N:=h.size;have e:p.getD i 0=p[i]'(by omega):=by simp[SF,N,hi]
 rw[e];have:p[i]'(by omega)∈(Qd (Py n)).toList:=(RJ.mp h).mem_iff.mp (by simp);simpa using this
theorem ao.la{j:Nat}{k:Option Bool->Cc f n->StateT SortSt Sem D}{e':δ->Cc f n->D}{P':δ->aQ->Prop}(hp:Pt n Y.p)(hi:i<n)(V:j<n)(h:∀b,ao (λc=>k (some b) c) e' Y P'):ao (λc=>ltAt' i j >>= λa=>k a c) e' Y P':=
 ao.ltAt (by rw[hp.size];exact hi) (by rw[hp.size];exact V) (hp.lt hi) (hp.lt V) (h _)
theorem ao.rv{j:Nat}{k:Unit->Cc f n->StateT SortSt Sem D}{e':δ->Cc f n->D}{P':δ->aQ->Prop}(h:ao (λc=>k () c) e' ⟨kas_rev Y.p i j,Y.pend,Y.mg⟩ P'):ao (λc=>reverseSlice' i j >>= λa=>k a c) e' Y P':=by simp only[reverseSlice'_eq];refine ao.mod (λc=>?_) h;show Q8 c.κ (mirror ((Y.p).map (kas_item c.it)) i j ((j-i) / 2)) Y.pend Y.mg none=Q8 c.κ ((mirror Y.p i j ((j-i) / 2)).map (kas_item c.it)) Y.pend Y.mg none;have J:mirror (Y.p.map (kas_item c.it)) i j ((j-i) / 2)=(mirror Y.p i j ((j-i) / 2)).map (kas_item c.it):=kas_swaps_map (kas_item c.it) (λk=>i+k) (λk=>j-1-k) _ Y.p;rw[J]
theorem Pt.rev(h:Pt n p)(i j:Nat):Pt n (kas_rev p i j):=(mirror_perm _ _ _ _).trans h
def Kp(Y Z':aQ):Prop:=Z'.pend=Y.pend
def Mw(n b:Nat)(Y:aQ)(r:Option Nat)(Z':aQ):Prop:=∃m,r=some m/\1<=m/\m<=b/\Pt n Z'.p/\Kp Y Z'
theorem vj{x:Nat}(hp:Pt n Y.p)(hl:lo+x<=n)(h1:1<=x):ao (λ_:Cc f n=>countRun' lo x) (λb _=>b) Y (Mw n x Y):=by
 rw[countRun'_eq];dsimp only;refine ao.bind (ao.qH (λb _=>b) (λi b Z'=>Z'=Y/\b=(none,1+i)) (D:=λb Z'=>Z'=Y/\b.1=none/\1<=b.2/\b.2<=x) (none,1) (λ_=>rfl) ⟨rfl,rfl⟩ ?_ ?_) ?_
 .rintro b Z' ⟨rfl,rfl⟩;exact⟨rfl,rfl,by omega,by omega⟩
 .rintro i b Z' hi ⟨rfl,rfl⟩;dsimp only;refine ao.la hp (by omega) (by omega) λb=>?_;dsimp only;refine ao.ite (λ_=>?_) (λ_=>?_)
  .exact ao.dn (none,1+i) ⟨rfl,rfl,by show 1<=1+i;omega,by show 1+i<=x;omega⟩ λ_=>rfl
  .exact ao.iP (none,1+i+1) ⟨rfl,rfl⟩ λ_=>rfl
 .rintro⟨r,m⟩ Z' ⟨rfl,J,c,Z⟩;cases J;dsimp only at c Z ⊢;refine ao.ite (λh=>?_) (λh=>?_)
  .exact ao.pure (some m) ⟨m,rfl,c,Z,hp,rfl⟩ λ_=>rfl
  have hm:m<x:=by have:m≠x:=λz=>h (by rw[z];exact beq_self_eq_true _);omega
  refine ao.pre (λB=>Pt n B.p/\Kp Z' B) ?_ (λh2 I=>?_) ⟨hp,rfl⟩
  rotate_left
  .refine ao.la hp (by omega) (by omega) λb=>?_;dsimp only;refine ao.ite (λ_=>?_) (λ_=>ao.rv (I _ ⟨hp.rev _ _,rfl⟩));exact ao.pure (some m) ⟨m,rfl,c,Z,hp,rfl⟩ λ_=>rfl
  .rintro B ⟨v,kt⟩;refine ao.rule ?_;refine ao.bind (ao.qH (λb _=>b) (λi b T=>Pt n T.p/\Kp Z' T/\∃q,b=(none,m+1+i,q)) (D:=λb T=>Pt n T.p/\Kp Z' T/\b.1=none/\1<=b.2.1/\b.2.1<=x) (none,m+1,0) (λ_=>rfl) ⟨v,kt,0,rfl⟩ ?_ ?_) ?_
   .rintro b T ⟨w,k2,q,rfl⟩;exact⟨w,k2,rfl,by show 1<=m+1+_;omega,by show m+1+_<=x;omega⟩
   .rintro i b T hi ⟨w,k2,q,rfl⟩;dsimp only;refine ao.la w (by omega) (by omega) λb=>?_;dsimp only;refine ao.ite (λ_=>ao.ite (λ_=>ao.rv ?_) (λ_=>?_)) (λ_=>?_)
    .exact ao.iP (none,m+1+i+1,0) ⟨w.rev _ _,k2,0,rfl⟩ λ_=>rfl
    .exact ao.iP (none,m+1+i+1,0) ⟨w,k2,0,rfl⟩ λ_=>rfl
    refine ao.la w (by omega) (by omega) λb=>?_;dsimp only;refine ao.ite (λ_=>?_) (λ_=>?_)
    .exact ao.dn (none,m+1+i,q) ⟨w,k2,rfl,by show 1<=m+1+i;omega,by show m+1+i<=x;omega⟩ λ_=>rfl
    .exact ao.iP (none,m+1+i+1,q+1) ⟨w,k2,q+1,rfl⟩ λ_=>rfl
   .rintro⟨r,X,q⟩ T ⟨w,k2,J,l,O⟩;cases J;dsimp only at l O ⊢;refine ao.pre (λB=>Pt n B.p/\Kp Z' B) ?_ (λh2 I=>ao.rv (I _ ⟨w.rev _ _,k2⟩)) ⟨w,k2⟩
    .rintro H ⟨U,k3⟩;refine ao.rv ?_;refine ao.bind (ao.qH (λb _=>b) (λi b V=>V=⟨kas_rev H.p lo (lo+X),H.pend,H.mg⟩/\b=(none,X+i)) (D:=λb V=>V=⟨kas_rev H.p lo (lo+X),H.pend,H.mg⟩/\b.1=none/\1<=b.2/\b.2<=x) (none,X) (λ_=>rfl) ⟨rfl,rfl⟩ ?_ ?_) ?_
     .rintro b V ⟨rfl,rfl⟩;exact⟨rfl,rfl,by show 1<=X+_;omega,by show X+_<=x;omega⟩
     .rintro i b V hi ⟨rfl,rfl⟩;dsimp only;refine ao.la (U.rev _ _) (by omega) (by omega) λb=>?_;dsimp only;refine ao.ite (λ_=>?_) (λ_=>?_)
      .exact ao.dn (none,X+i) ⟨rfl,rfl,by show 1<=X+i;omega,by show X+i<=x;omega⟩ λ_=>rfl
      .exact ao.iP (none,X+i+1) ⟨rfl,rfl⟩ λ_=>rfl
     .rintro⟨r,E⟩ V ⟨rfl,J,b1,b2⟩;cases J;exact ao.pure (some E) ⟨E,rfl,b1,b2,U.rev _ _,k3⟩ λ_=>rfl
theorem Pt.OP(h:Pt n p)(i j:Nat):Pt n (bubble p i j):=(bubble_perm _ _ _).trans h
theorem ao.mv{j:Nat}{k:Unit->Cc f n->StateT SortSt Sem D}{e':δ->Cc f n->D}{P':δ->aQ->Prop}(h:ao (λc=>k () c) e' ⟨bubble Y.p i (i-j),Y.pend,Y.mg⟩ P'):ao (λc=>moveDown' i j >>= λa=>k a c) e' Y P':=by simp only[moveDown'_eq];refine ao.mod (λc=>?_) h;show Q8 c.κ (bubble ((Y.p).map (kas_item c.it)) i (i-j)) Y.pend Y.mg none=Q8 c.κ ((bubble Y.p i (i-j)).map (kas_item c.it)) Y.pend Y.mg none;have J:bubble (Y.p.map (kas_item c.it)) i (i-j)=(bubble Y.p i (i-j)).map (kas_item c.it):=kas_swaps_map (kas_item c.it) (λk=>i-k) (λk=>i-k-1) _ Y.p;rw[J]
theorem Bp{ok:Nat}(hp:Pt n Y.p)(hl:lo+z<=n):ao (λ_:Cc f n=>binarySort' lo z ok) (λb _=>b) Y (λr Z'=>r=true/\Pt n Z'.p/\Kp Y Z'):=by
 rw[binarySort'_eq];dsimp only;refine ao.bind (ao.qH (λb _=>b) (λ_ b Z'=>b=(none,())/\Pt n Z'.p/\Kp Y Z') (D:=λb Z'=>b=(none,())/\Pt n Z'.p/\Kp Y Z') (none,()) (λ_=>rfl) ⟨rfl,hp,rfl⟩ (λ_ _ h=>h) ?_) ?_
 .rintro i b Z hi ⟨rfl,O,k1⟩;refine ao.bind (ao.qH (λb _=>b) (λ_ b Z'=>Z'=Z/\b.1=none/\b.2.2<=max ok 1+i) (D:=λb Z'=>Z'=Z/\b.1=none) (none,0,max ok 1+i) (λ_=>rfl) ⟨rfl,rfl,Pf _⟩ (λ_ _ h=>⟨h.1,h.2.1⟩) ?_) ?_
  .rintro j ⟨r,l,x⟩ T V ⟨rfl,J,L⟩;cases J;dsimp only at L ⊢;refine ao.ite (λ_=>?_) (λ_=>?_)
   .exact ao.dn (none,l,x) ⟨rfl,rfl⟩ λ_=>rfl
   refine ao.la O (by omega) (by omega) λb=>?_;dsimp only;refine ao.ite (λ_=>?_) (λ_=>?_)
   .exact ao.iP (none,l,(l+x) / 2) ⟨rfl,rfl,by show (l+x) / 2<=_;omega⟩ λ_=>rfl
   .exact ao.iP (none,(l+x) / 2+1,x) ⟨rfl,rfl,L⟩ λ_=>rfl
  .rintro⟨r,l,x⟩ T ⟨rfl,J⟩;cases J;dsimp only;refine ao.mv ?_;exact ao.iP (none,()) ⟨rfl,O.OP _ _,k1⟩ λ_=>rfl
 .rintro b Z' ⟨rfl,O,k1⟩;exact ao.pure true ⟨rfl,O,k1⟩ λ_=>rfl
noncomputable def cL:Bool->Keyed->Array Keyed->Nat->Nat->Nat->StateT SortSt Sem (Option Nat):=sortPriv% PySem.Builtin.gallop
noncomputable abbrev SM:=StateT SortSt Sem
noncomputable abbrev GS:=Option (Option Nat)×Nat×Nat
noncomputable def lE(left:Bool)(I:Keyed)(Y:Array Keyed)(base i:Nat):SM (Option Bool):=do
 let x <- elem' Y (base+i)
 if left=true then lt' x I else do
  let r <- lt' I x
  pure (r.map (!·))
def yD(B:Nat->SM (Option Bool))(z lo hi:Nat):SM (Option Nat):=do
 let s <- forIn [:z] ((none,lo,hi):GS) λ_ s=>if s.2.1≥s.2.2 then pure (.done (none,s.2.1,s.2.2)) else do
  let x <- B (s.2.1+(s.2.2-s.2.1) / 2)
  match x with
  |some more=>if more=true then pure (.yield (none,s.2.1+(s.2.2-s.2.1) / 2+1,s.2.2)) else pure (.yield (none,s.2.1,s.2.1+(s.2.2-s.2.1) / 2))
  |_=>pure (.done (some none,s.2.1,s.2.2))
 match s.1 with
 |some r=>pure r
 |none=>pure (some s.2.2)
def yL(B:Nat->SM (Option Bool))(Y:Bool->Bool)(H:Nat->Nat)(b z:Nat)(k:Nat->Nat->SM (Option Nat)):SM (Option Nat):=do
 let s <- forIn [:z] ((none,0,1):GS) λ_ s=>if s.2.2≥b then pure (.done (none,s.2.1,s.2.2)) else do
  let x <- B (H s.2.2)
  match x with
  |some more=>if Y more=true then pure (.done (none,s.2.1,s.2.2)) else pure (.yield (none,s.2.2,2*s.2.2+1))
  |_=>pure (.done (some none,s.2.1,s.2.2))
 match s.1 with
 |some r=>pure r
 |none=>k s.2.1 s.2.2
theorem rF(left:Bool)(I:Keyed)(Y:Array Keyed)(base z b:Nat):cL left I Y base z b=(lE left I Y base b >>= λx=>
  match x with
  | some right=>if right=true then yL (lE left I Y base) (!·) (b+·) (z-b) z λl o=>yD (lE left I Y base) z (b+l+1) (b+min o (z-b))
   else yL (lE left I Y base) (·) (b - ·) (b+1) z λl o=>yD (lE left I Y base) z (b+1-min o (b+1)) (b-l)
  | _=>pure none):=by
 unfold yL yD;show cL left I Y base z b=_;unfold cL;refine congrArg (bind (lE left I Y base b)) (funext λx=>?_);cases x with
 |none=>rfl
 |some r=>
  cases r with
  |true=>
   dsimp only;rw[if_pos rfl,if_pos rfl]
   congr 1
   funext ⟨r,l,o⟩
   cases r with
   |some r=>rfl
   |none=>
    dsimp only
    congr 1
    funext ⟨r,l,o⟩
    cases r<;>rfl
  |false=>
   dsimp only;rw[if_neg (by decide),if_neg (by decide)]
   congr 1
   funext ⟨r,l,o⟩
   cases r with
   |some r=>rfl
   |none=>
    dsimp only
    congr 1
    funext ⟨r,l,o⟩
    cases r<;>rfl
def Qn(n:Nat)(q:Array Nat):Prop:=∀i,i<q.size->q.getD i 0<n
theorem ao.OH{j:Nat}{P:Option Bool->aQ->Prop}(hi:i<n)(V:j<n)(h:P (some (f i j)) Y):ao (λc:Cc f n=>lt' (kas_item c.it i) (kas_item c.it j)) (λb _=>b) Y P:=by have:=ao.lt (k:=λa _=>S6 a) hi V (e':=λb _=>b) (P':=P) (Y:=Y) (f:=f) (ao.pure _ h λ_=>rfl);simpa using this
theorem j9{kx:Nat}{q:Array Nat}(hk:kx<n)(B:Qn n q)(hi:base+i<q.size):ao (λc:Cc f n=>lE left (kas_item c.it kx) (c.ar q) base i) (λb _=>b) Y (λr Z'=>Z'=Y/\∃b,r=some b):=by
 unfold lE;refine ao.elem hi (ao.ite (λ_=>?_) λ_=>ao.lt hk (B _ hi) ?_)
 .exact ao.OH (B _ hi) hk ⟨rfl,_,rfl⟩
 .exact ao.pure _ ⟨rfl,_,rfl⟩ λ_=>rfl
theorem f6{kx H:Nat}{q:Array Nat}(hk:kx<n)(B:Qn n q)(hz:base+z<=q.size)(V:H<z):ao (λc:Cc f n=>cL left (kas_item c.it kx) (c.ar q) base z H) (λb _=>b) Y (λr Z'=>Z'=Y/\∃k,r=some k/\k<=z):=by
 have X:∀lo hi,hi<=z->ao (λc:Cc f n=>yD (lE left (kas_item c.it kx) (c.ar q) base) z lo hi) (λb _=>b) Y (λr Z'=>Z'=Y/\∃k,r=some k/\k<=z):=by
  intro lo hi v;unfold yD;refine ao.bind (ao.qH (λb _=>b) (λ_ b Z'=>Z'=Y/\b.1=none/\b.2.2<=z) (D:=λb Z'=>Z'=Y/\b.1=none/\b.2.2<=z) (none,lo,hi) (λ_=>rfl) ⟨rfl,rfl,v⟩ (λ_ _ h=>h) ?_) ?_
  .rintro i ⟨r,l,h⟩ Z' hi ⟨rfl,J,L⟩;cases J;dsimp only at L ⊢;refine ao.ite (λ_=>?_) λU=>ao.bind (j9 hk B (by omega)) ?_
   .exact ao.dn (none,l,h) ⟨rfl,rfl,L⟩ λ_=>rfl
   rintro _ Z' ⟨rfl,b,rfl⟩;dsimp only;refine ao.ite (λ_=>?_) λ_=>?_
   .exact ao.iP (none,l+(h-l) / 2+1,h) ⟨rfl,rfl,L⟩ λ_=>rfl
   .exact ao.iP (none,l,l+(h-l) / 2) ⟨rfl,rfl,by show l+(h-l) / 2<=z;omega⟩ λ_=>rfl
  .rintro⟨r,l,h⟩ Z' ⟨rfl,J,L⟩;cases J;exact ao.pure (some h) ⟨rfl,h,rfl,L⟩ λ_=>rfl
 have Q:∀(O:Bool->Bool)(Z:Nat->Nat)(x:Nat)(k:Nat->Nat->Cc f n->SM (Option Nat)),(∀o,o<x->Z o<z)->(∀l o,ao (k l o) (λb _=>b) Y (λr Z'=>Z'=Y/\∃k,r=some k/\k<=z))->ao (λc:Cc f n=>yL (lE left (kas_item c.it kx) (c.ar q) base) O Z x z λl o=>k l o c) (λb _=>b) Y (λr Z'=>Z'=Y/\∃k,r=some k/\k<=z):=by
  intro O Z x k ha E;unfold yL;refine ao.bind (ao.qH (λb _=>b) (λ_ b Z'=>Z'=Y/\b.1=none) (D:=λb Z'=>Z'=Y/\b.1=none) (none,0,1) (λ_=>rfl) ⟨rfl,rfl⟩ (λ_ _ h=>h) ?_) ?_
  .rintro i ⟨r,l,o⟩ Z' hi ⟨rfl,J⟩;cases J;dsimp only;refine ao.ite (λ_=>?_) λU=>ao.bind (j9 hk B (by have:=ha o (by omega);omega)) ?_
   .exact ao.dn (none,l,o) ⟨rfl,rfl⟩ λ_=>rfl
   rintro _ Z' ⟨rfl,b,rfl⟩;dsimp only;refine ao.ite (λ_=>?_) λ_=>?_
   .exact ao.dn (none,l,o) ⟨rfl,rfl⟩ λ_=>rfl
   .exact ao.iP (none,o,2*o+1) ⟨rfl,rfl⟩ λ_=>rfl
  .rintro⟨r,l,h⟩ Z' ⟨rfl,J⟩;cases J;exact E l h
 simp only[rF];refine ao.bind (j9 hk B (by omega)) ?_;rintro _ Z' ⟨rfl,b,rfl⟩;dsimp only;refine ao.ite (λ_=>?_) λ_=>?_
 .exact Q _ _ _ (λl o c=>_) (λo ho=>by omega) λl o=>X _ _ (by omega)
 .exact Q _ _ _ (λl o c=>_) (λo ho=>by omega) λl o=>X _ _ (by omega)
noncomputable def iC:Array Keyed->Array Keyed->SM (Array Keyed):=sortPriv% PySem.Builtin.mergeLo
noncomputable def kT:Nat->SM Unit:=sortPriv% PySem.Builtin.setMinGallop
noncomputable abbrev ML:=Option (Array Keyed)×Array Keyed×Nat×Nat×Nat
noncomputable abbrev MI:=Option (Array Keyed)×Array Keyed×Nat×Nat×Nat×Nat
noncomputable abbrev MG:=Option (Array Keyed)×Array Keyed×Nat×Nat×Nat×Nat×Nat
noncomputable def pD{α:Type}(a b out:Array α)(F S:Nat):Array α:=out++a.extract F a.size++b.extract S b.size
noncomputable def vL{α:Type}(a b out:Array α)(F S:Nat):Array α:=out++b.extract S b.size++a.extract F a.size
section
variable(a b:Array Keyed)
def MP(mg:Nat)(out:Array Keyed)(F S c z:Nat):SM (ForInStep MI):=do
 let y <- elem' b S
 let x <- elem' a F
 let r <- lt' y x
 match r with
 | some w=>(if w=true then (do
   let y <- elem' b S
   if (S+1==b.size)=true then pure (.done (some (pD a b (out.push y) F (S+1)),out.push y,F,S+1,0,z+1)) else
    if z+1≥mg then pure (.done (none,out.push y,F,S+1,0,z+1)) else pure (.yield (none,out.push y,F,S+1,0,z+1)))
  else (do
   let x <- elem' a F
   if (F+1+1==a.size)=true then pure (.done (some (vL a b (out.push x) (F+1) S),out.push x,F+1,S,c+1,0)) else
    if c+1≥mg then pure (.done (none,out.push x,F+1,S,c+1,0)) else pure (.yield (none,out.push x,F+1,S,c+1,0))):SM (ForInStep MI))
 |_=>pure (.done (some (pD a b out F S),out,F,S,c,z))
def LY(mg c z:Nat)(out:Array Keyed)(F S:Nat):SM (ForInStep MG):=do
 let x <- elem' a F
 if (F+1+1==a.size)=true then pure (.done (some (vL a b (out.push x) (F+1) S),out.push x,F+1,S,mg,c,z)) else
  if (decide (c<7)&&decide (z<7))=true then pure (.done (none,out.push x,F+1,S,mg,c,z)) else pure (.yield (none,out.push x,F+1,S,mg,c,z))
def Me(mg c z:Nat)(out:Array Keyed)(F S:Nat):SM (ForInStep MG):=do
 let y <- elem' b S
 if (S+1==b.size)=true then pure (.done (some (pD a b (out.push y) F (S+1)),out.push y,F,S+1,mg,c,z)) else do
  let x <- elem' a F
  let r <- cL true x b (S+1) (b.size-(S+1)) 0
  match r with
  | some k=>(if k > 0 then
    if (S+1+k==b.size)=true then pure (.done (some (pD a b (out.push y++b.extract (S+1) (S+1+k)) F (S+1+k)),out.push y++b.extract (S+1) (S+1+k),F,S+1+k,mg,c,k))
    else LY a b mg c k (out.push y++b.extract (S+1) (S+1+k)) F (S+1+k)
   else LY a b mg c k (out.push y) F (S+1):SM (ForInStep MG))
  |_=>pure (.done (some (pD a b (out.push y) F (S+1)),out.push y,F,S+1,mg,c,z))
def Mj(c z:Nat)(out:Array Keyed)(F S mg:Nat):SM (ForInStep MG):=do
 kT mg
 let y <- elem' b S
 let r <- cL false y a F (a.size-F) 0
 match r with
 | some k=>(if k > 0 then
   if (F+k+1==a.size)=true then pure (.done (some (vL a b (out++a.extract F (F+k)) (F+k) S),out++a.extract F (F+k),F+k,S,mg,k,z))
   else if (F+k==a.size)=true then pure (.done (some (pD a b (out++a.extract F (F+k)) (F+k) S),out++a.extract F (F+k),F+k,S,mg,k,z))
   else Me a b mg k z (out++a.extract F (F+k)) (F+k) S
  else Me a b mg k z out F S:SM (ForInStep MG))
 |_=>pure (.done (some (pD a b out F S),out,F,S,mg,c,z))
def Mf(bb:Nat)(out:Array Keyed)(F S mg:Nat):SM (ForInStep ML):=do
 let s <- forIn [:bb] ((none,out,F,S,0,0):MI) λ_ s=>MP a b mg s.2.1 s.2.2.1 s.2.2.2.1 s.2.2.2.2.1 s.2.2.2.2.2
 match s.1 with
 |some r=>pure (.done (some r,s.2.1,s.2.2.1,s.2.2.2.1,mg))
 | none=>do
  liftM (rule "list.sort.gallop")
  let s <- forIn [:bb] ((none,s.2.1,s.2.2.1,s.2.2.2.1,mg+1,s.2.2.2.2.1,s.2.2.2.2.2):MG) λ_ s=>if s.2.2.2.2.1 > 1 then Mj a b s.2.2.2.2.2.1 s.2.2.2.2.2.2 s.2.1 s.2.2.1 s.2.2.2.1 (s.2.2.2.2.1-1) else Mj a b s.2.2.2.2.2.1 s.2.2.2.2.2.2 s.2.1 s.2.2.1 s.2.2.2.1 s.2.2.2.2.1
  match s.1 with
  |some r=>pure (.done (some r,s.2.1,s.2.2.1,s.2.2.2.1,s.2.2.2.2.1))
  | none=>do
   kT (s.2.2.2.2.1+1)
   pure (.yield (none,s.2.1,s.2.2.1,s.2.2.2.1,s.2.2.2.2.1+1))
theorem pB:iC a b=(do
  liftM (rule "list.sort.merge-lo")
  let y <- elem' b 0
  if (1==b.size)=true then pure (pD a b #[y] 0 1) else if (0+1==a.size)=true then pure (vL a b #[y] 0 1) else do
   let st <- get
   let s <- forIn [:a.size+b.size] ((none,#[y],0,1,gallopOf st):ML) λ_ s=>Mf a b (a.size+b.size) s.2.1 s.2.2.1 s.2.2.2.1 s.2.2.2.2
   match s.1 with
   |some r=>pure r
   | none=>liftM (unsupported "internal:list.sort.merge-bound" : Sem (Array Keyed))):=by
 unfold iC;refine congrArg _ (funext λ_=>congrArg (bind (elem' b 0)) (funext λy=>?_));dsimp only
 congr 1
 congr 1
 congr 1
 funext st
 congr 1
 .congr 1
  funext _ ⟨r,out,F,S,mg⟩
  unfold Mf;dsimp only
  congr 1
  funext ⟨r,out,F,S,ac,z⟩
  cases r with
  |some r=>rfl
  |none=>
   dsimp only
   congr 1
   funext _
   congr 1
   funext ⟨r,out,F,S,mg,ac,z⟩
   cases r<;>rfl
 .funext ⟨r,out,F,S,mg⟩
  cases r<;>rfl
end
section
variable{a b out:Array Nat}{F S k:Nat}
def PI(a b out:Array Nat)(F S:Nat):Prop:=(out.toList++(a.toList.drop F++b.toList.drop S)).Perm (a.toList++b.toList)
theorem tN(a:Array Nat)(h:i<a.size):a.toList.drop i=a.getD i 0::a.toList.drop (i+1):=by
 rw[QH (by simpa using h)]
 congr 1
 simp[SF,h]
theorem vV(a:Array Nat):a.toList.drop i=(a.extract i (i+k)).toList++a.toList.drop (i+k):=by rw[QJ,Qr,Uh,<-TF,QE]
theorem PI.pa(h:PI a b out F S)(hi:F<a.size):PI a b (out.push (a.getD F 0)) (F+1) S:=by unfold PI at h ⊢;rw[tN a hi] at h;simpa using h
theorem PI.pb(h:PI a b out F S)(hi:S<b.size):PI a b (out.push (b.getD S 0)) F (S+1):=by unfold PI at h ⊢;rw[tN b hi] at h;refine QU ?_ h;simp only[SR,O7,Vi,Tf];exact PU _ (List.perm_middle.symm)
theorem PI.ea(h:PI a b out F S):PI a b (out++a.extract F (F+k)) (F+k) S:=by unfold PI at h ⊢;rw[vV a (i:=F) (k:=k)] at h;rw[PV];simpa only[O7] using h
theorem PI.eb(h:PI a b out F S):PI a b (out++b.extract S (S+k)) F (S+k):=by unfold PI at h ⊢;rw[vV b (i:=S) (k:=k)] at h;refine QU ?_ h;rw[PV];simp only[O7];refine PU _ ?_;rw[<-O7,<-O7];exact List.Perm.append_right _ P0
theorem jO(a:Array Nat)(i:Nat):(a.extract i a.size).toList=a.toList.drop i:=by rw[QJ,Qr,Rm (by simp)]
theorem PI.d(h:PI a b out F S):(pD a b out F S).toList.Perm (a.toList++b.toList):=by unfold pD;rw[PV,PV,jO,jO,O7];exact h
theorem PI.l(h:PI a b out F S):(vL a b out F S).toList.Perm (a.toList++b.toList):=by unfold vL;rw[PV,PV,jO,jO,O7];exact(PU _ P0).trans h
end
theorem bC(c:Cc f n)(q:Array Nat):(c.ar q).size=q.size:=Vs
theorem dD(c:Cc f n)(q:Array Nat)(i:Nat):(c.ar q).push (kas_item c.it i)=c.ar (q.push i):=(Array.map_push).symm
theorem cT(c:Cc f n)(q r:Array Nat):c.ar q++c.ar r=c.ar (q++r):=(Array.map_append).symm
theorem cD(c:Cc f n)(q:Array Nat)(i j:Nat):(c.ar q).extract i j=c.ar (q.extract i j):=by unfold Cc.ar;simp
theorem uF(c:Cc f n)(a b q:Array Nat)(i j:Nat):pD (c.ar a) (c.ar b) (c.ar q) i j=c.ar (pD a b q i j):=by unfold pD;rw[bC,bC,cD,cD,cT,cT]
theorem BR(c:Cc f n)(a b q:Array Nat)(i j:Nat):vL (c.ar a) (c.ar b) (c.ar q) i j=c.ar (vL a b q i j):=by unfold vL;rw[bC,bC,cD,cD,cT,cT]
def eO{B:Type}(b:Option (Array Nat)×Array Nat×B)(c:Cc f n):Option (Array Keyed)×Array Keyed×B:=(b.1.map c.ar,c.ar b.2.1,b.2.2)
def Ks(Y Z':aQ):Prop:=Z'.p=Y.p/\Z'.pend=Y.pend
def Sn(a b:Array Nat)(k:Nat)(o:Option (Array Nat))(out:Array Nat)(F S:Nat):Prop:=o=none/\PI a b out F S/\F+1<a.size/\S<b.size/\k<=F+S
def Sr(a b:Array Nat)(k:Nat)(o:Option (Array Nat))(out:Array Nat)(F S:Nat):Prop:=Sn a b k o out F S\/∃r,o=some r/\r.toList.Perm (a.toList++b.toList)
noncomputable abbrev NG:=Option (Array Nat)×Array Nat×Nat×Nat×Nat×Nat×Nat
def GI(a b:Array Nat)(k:Nat)(Y:aQ)(x:NG)(Z':aQ):Prop:=Sn a b k x.1 x.2.1 x.2.2.1 x.2.2.2.1/\Ks Y Z'
def GD(a b:Array Nat)(k:Nat)(Y:aQ)(x:NG)(Z':aQ):Prop:=Sr a b k x.1 x.2.1 x.2.2.1 x.2.2.2.1/\Ks Y Z'
section
variable{a b out:Array Nat}{F S k mg ac z:Nat}{σ0:aQ}
theorem jT{x y:Nat}(h:¬(x==y)=true):x≠y:=by simpa using h
theorem tS(ks:Ks σ0 Y)(h:PI a b out F S)(ha:F+1<a.size)(d:S<b.size)(hk:k<=F+S):ao (λc:Cc f n=>LY (c.ar a) (c.ar b) mg ac z (c.ar out) F S) (qI eO) Y (Lp (GI a b k σ0) (GD a b k σ0)):=by
 unfold LY;simp only[bC];refine ao.elem (by omega) ?_;simp only[dD,uF,BR];have p:=h.pa (by omega);refine ao.ite (λ_=>?_) λt=>?_
 .exact ao.dn (some (vL a b (out.push (a.getD F 0)) (F+1) S),out.push (a.getD F 0),F+1,S,mg,ac,z) ⟨.inr ⟨_,rfl,p.l⟩,ks⟩ λ_=>rfl
 have t:F+1+1≠a.size:=jT t;have s:Sn a b k none (out.push (a.getD F 0)) (F+1) S:=⟨rfl,p,by omega,d,by omega⟩
 refine ao.ite (λ_=>?_) λ_=>?_
 .exact ao.dn (none,out.push (a.getD F 0),F+1,S,mg,ac,z) ⟨.inl s,ks⟩ λ_=>rfl
 .exact ao.iP (none,out.push (a.getD F 0),F+1,S,mg,ac,z) ⟨s,ks⟩ λ_=>rfl
theorem tG(q:Qn n a)(Z:Qn n b)(ks:Ks σ0 Y)(h:PI a b out F S)(ha:F+1<a.size)(K:S<b.size)(hk:k<=F+S):ao (λc:Cc f n=>Me (c.ar a) (c.ar b) mg ac z (c.ar out) F S) (qI eO) Y (Lp (GI a b k σ0) (GD a b k σ0)):=by
 unfold Me;simp only[bC];refine ao.elem K ?_;simp only[dD,uF,cD,cT];have p:=h.pb K;refine ao.ite (λ_=>?_) λt=>ao.elem (by omega) (ao.bind (f6 (q _ (by omega)) Z (by omega) (by have:=jT t;omega)) ?_)
 .exact ao.dn (some (pD a b (out.push (b.getD S 0)) F (S+1)),out.push (b.getD S 0),F,S+1,mg,ac,z) ⟨.inr ⟨_,rfl,p.d⟩,ks⟩ λ_=>rfl
 have t:S+1≠b.size:=jT t;rintro _ Z' ⟨rfl,x,rfl,L⟩;dsimp only;refine ao.ite (λ_=>ao.ite (λ_=>?_) λH=>tS ks p.eb ha (by have:=jT H;omega) (by omega)) λ_=>tS ks p ha (by omega) (by omega);exact ao.dn (some (pD a b (out.push (b.getD S 0)++b.extract (S+1) (S+1+x)) F (S+1+x)),out.push (b.getD S 0)++b.extract (S+1) (S+1+x),F,S+1+x,mg,ac,x) ⟨.inr ⟨_,rfl,p.eb.d⟩,ks⟩ λ_=>rfl
theorem ao.sR{g:Nat}{k:Unit->Cc f n->StateT SortSt Sem D}{e':δ->Cc f n->D}{P':δ->aQ->Prop}(h:ao (λc=>k () c) e' ⟨Y.p,Y.pend,g⟩ P'):ao (λc=>kT g >>= λa=>k a c) e' Y P':=
 ao.mod (g:=λ_ s=>Q8 (kindOf s) (arrOf s) (pendingOf s) g (failedOf s)) (Z':=⟨Y.p,Y.pend,g⟩) (λ_=>rfl) h
theorem ua(v:Qn n a)(Z:Qn n b)(ks:Ks σ0 Y)(h:PI a b out F S)(ha:F+1<a.size)(K:S<b.size)(hk:k<=F+S):ao (λc:Cc f n=>Mj (c.ar a) (c.ar b) ac z (c.ar out) F S mg) (qI eO) Y (Lp (GI a b k σ0) (GD a b k σ0)):=by
 unfold Mj;simp only[bC,uF,BR,cD,cT];refine ao.sR (ao.elem K (ao.bind (f6 (Z _ K) v (by omega) (by omega)) ?_));rintro _ Z' ⟨rfl,x,rfl,L⟩;dsimp only;refine ao.ite (λ_=>ao.ite (λ_=>?_) λH=>ao.ite (λ_=>?_) λq=>?_) λ_=>tG v Z ks h ha K hk
 .exact ao.dn (some (vL a b (out++a.extract F (F+x)) (F+x) S),out++a.extract F (F+x),F+x,S,mg,x,z) ⟨.inr ⟨_,rfl,h.ea.l⟩,ks⟩ λ_=>rfl
 .exact ao.dn (some (pD a b (out++a.extract F (F+x)) (F+x) S),out++a.extract F (F+x),F+x,S,mg,x,z) ⟨.inr ⟨_,rfl,h.ea.d⟩,ks⟩ λ_=>rfl
 .have H:F+x+1≠a.size:=jT H;have q:F+x≠a.size:=jT q;exact tG v Z ks h.ea (by omega) K (by omega)
end
noncomputable abbrev NI:=Option (Array Nat)×Array Nat×Nat×Nat×Nat×Nat
noncomputable abbrev NO:=Option (Array Nat)×Array Nat×Nat×Nat×Nat
section
variable{a b out:Array Nat}{F S k mg ac z bb:Nat}{σ0:aQ}
def II(a b:Array Nat)(k:Nat)(Y:aQ)(x:NI)(Z':aQ):Prop:=Sn a b k x.1 x.2.1 x.2.2.1 x.2.2.2.1/\Z'=Y
def ID(a b:Array Nat)(k:Nat)(Y:aQ)(x:NI)(Z':aQ):Prop:=Sr a b k x.1 x.2.1 x.2.2.1 x.2.2.2.1/\Z'=Y
theorem Am(q:Qn n a)(Z:Qn n b)(h:PI a b out F S)(ha:F+1<a.size)(K:S<b.size)(hk:k<=F+S):ao (λc:Cc f n=>MP (c.ar a) (c.ar b) mg (c.ar out) F S ac z) (qI eO) Y (Lp (II a b (k+1) Y) (ID a b (k+1) Y)):=by
 unfold MP;simp only[bC,uF];refine ao.elem K (ao.elem (by omega) (ao.lt (Z _ K) (q _ (by omega)) ?_));dsimp only;refine ao.ite (λ_=>ao.elem K ?_) λ_=>ao.elem (by omega) ?_
 .simp only[dD,uF];have p:=h.pb K;refine ao.ite (λ_=>?_) λt=>?_
  .exact ao.dn (some (pD a b (out.push (b.getD S 0)) F (S+1)),out.push (b.getD S 0),F,S+1,0,z+1) ⟨.inr ⟨_,rfl,p.d⟩,rfl⟩ λ_=>rfl
  have s:Sn a b (k+1) none (out.push (b.getD S 0)) F (S+1):=⟨rfl,p,ha,by have:=jT t;omega,by omega⟩
  refine ao.ite (λ_=>?_) λ_=>?_
  .exact ao.dn (none,out.push (b.getD S 0),F,S+1,0,z+1) ⟨.inl s,rfl⟩ λ_=>rfl
  .exact ao.iP (none,out.push (b.getD S 0),F,S+1,0,z+1) ⟨s,rfl⟩ λ_=>rfl
 .simp only[dD,BR];have p:=h.pa (by omega);refine ao.ite (λ_=>?_) λt=>?_
  .exact ao.dn (some (vL a b (out.push (a.getD F 0)) (F+1) S),out.push (a.getD F 0),F+1,S,ac+1,0) ⟨.inr ⟨_,rfl,p.l⟩,rfl⟩ λ_=>rfl
  have s:Sn a b (k+1) none (out.push (a.getD F 0)) (F+1) S:=⟨rfl,p,by have:=jT t;omega,K,by omega⟩
  refine ao.ite (λ_=>?_) λ_=>?_
  .exact ao.dn (none,out.push (a.getD F 0),F+1,S,ac+1,0) ⟨.inl s,rfl⟩ λ_=>rfl
  .exact ao.iP (none,out.push (a.getD F 0),F+1,S,ac+1,0) ⟨s,rfl⟩ λ_=>rfl
theorem Sn.mono{o:Option (Array Nat)}(h:Sn a b k o out F S)(hk:k'<=k):Sn a b k' o out F S:=⟨h.1,h.2.1,h.2.2.1,h.2.2.2.1,Px hk h.2.2.2.2⟩
theorem Sr.mono{o:Option (Array Nat)}{k':Nat}(h:Sr a b k o out F S)(hk:k'<=k):Sr a b k' o out F S:=h.imp (λs=>s.mono hk) id
def OI(a b:Array Nat)(k:Nat)(Y:aQ)(x:NO)(Z':aQ):Prop:=Sn a b k x.1 x.2.1 x.2.2.1 x.2.2.2.1/\Ks Y Z'
def OD(a b:Array Nat)(Y:aQ)(x:NO)(Z':aQ):Prop:=(∃r,x.1=some r/\r.toList.Perm (a.toList++b.toList))/\Ks Y Z'
theorem Dh(v:Qn n a)(Z:Qn n b)(j:1<=bb)(ks:Ks σ0 Y)(h:PI a b out F S)(ha:F+1<a.size)(d:S<b.size)(hk:k<=F+S):ao (λc:Cc f n=>Mf (c.ar a) (c.ar b) bb (c.ar out) F S mg) (qI eO) Y (Lp (OI a b (k+1) σ0) (OD a b σ0)):=by
 unfold Mf;refine ao.bind (ao.qH eO (λi x Z'=>II a b (k+i) Y x Z') (D:=ID a b (k+1) Y) (none,out,F,S,0,0) (λ_=>rfl) ⟨⟨rfl,h,ha,d,hk⟩,rfl⟩ ?_ ?_) ?_
 .rintro x Z' ⟨s,rfl⟩;exact⟨.inl (s.mono (by omega)),rfl⟩
 .rintro i ⟨o,out,F,S,ac,z⟩ Z' hi ⟨⟨J,p,h1,h2,h3⟩,rfl⟩;refine ao.mono (Am v Z p h1 h2 h3) ?_;rintro(x|x) Z' h
  .exact⟨h.1.mono (by omega),h.2⟩
  .exact h
 .rintro⟨o,out,F,S,ac,z⟩ Z' ⟨s,rfl⟩;rcases s with ⟨J,p,h1,h2,h3⟩|⟨r,J,y⟩
  .dsimp only at J;subst J;refine ao.rule ?_;refine ao.bind (ao.qH eO (λi x Z'=>GI a b (k+1) σ0 x Z') (D:=GD a b (k+1) σ0) (none,out,F,S,mg+1,ac,z) (λ_=>rfl) ⟨⟨rfl,p,h1,h2,h3⟩,ks⟩ (λ_ _ h=>⟨.inl h.1,h.2⟩) ?_) ?_
   .rintro i ⟨o,out,F,S,mg,ac,z⟩ Z' hi ⟨⟨J,p,h1,h2,h3⟩,ks⟩;dsimp only [eO];refine ao.ite (q:=mg > 1) (λ_=>?_) λ_=>?_
    .exact ua v Z ks p h1 h2 h3
    .exact ua v Z ks p h1 h2 h3
   .rintro⟨o,out,F,S,mg,ac,z⟩ Z' ⟨s,ks⟩;rcases s with ⟨J,p,h1,h2,h3⟩|⟨r,J,y⟩
    .dsimp only at J;subst J;dsimp only [eO,R1];refine ao.sR ?_;exact ao.iP (none,out,F,S,mg+1) ⟨⟨rfl,p,h1,h2,h3⟩,ks⟩ λ_=>rfl
    .dsimp only at J;subst J;exact ao.dn (some r,out,F,S,mg) ⟨⟨r,rfl,y⟩,ks⟩ λ_=>rfl
  .dsimp only at J;subst J;exact ao.dn (some r,out,F,S,mg) ⟨⟨r,rfl,y⟩,ks⟩ λ_=>rfl
theorem Ba(q:Qn n a)(Z:Qn n b)(ha:1<=a.size)(K:1<=b.size):ao (λc:Cc f n=>iC (c.ar a) (c.ar b)) (λr c=>c.ar r) Y (λr Z'=>r.toList.Perm (a.toList++b.toList)/\Ks Y Z'):=by
 simp only[pB,bC];refine ao.rule (ao.elem (by omega) ?_);have h:PI a b #[] 0 0:=by unfold PI;simp
 have p:PI a b #[b.getD 0 0] 0 1:=h.pb (by omega);have e:∀c:Cc f n,#[kas_item c.it (b.getD 0 0)]=c.ar #[b.getD 0 0]:=λc=>by unfold Cc.ar;simp
 simp only[e,uF,BR];refine ao.ite (λ_=>?_) λL=>ao.ite (λ_=>?_) λN=>ao.get ?_
 .exact ao.pure _ ⟨p.d,rfl,rfl⟩ λ_=>rfl
 .exact ao.pure _ ⟨p.l,rfl,rfl⟩ λ_=>rfl
 have L:=jT L;have N:=jT N;refine ao.bind (ao.qH eO (λi x Z'=>OI a b (1+i) Y x Z') (D:=OD a b Y) (none,#[b.getD 0 0],0,1,Y.mg) (λ_=>rfl) ⟨⟨rfl,p,(by omega:0+1<a.size),(by omega:1<b.size),(by omega:1+0<=0+1)⟩,rfl,rfl⟩ ?_ ?_) ?_
 .rintro x Z' ⟨⟨J,p,h1,h2,h3⟩,ks⟩;omega
 .rintro i ⟨o,out,F,S,mg⟩ Z' hi ⟨⟨J,p,h1,h2,h3⟩,ks⟩;exact Dh q Z (by omega) ks p h1 h2 h3
 .rintro⟨o,out,F,S,mg⟩ Z' ⟨⟨r,J,y⟩,ks⟩;dsimp only at J;subst J;exact ao.pure r ⟨y,ks⟩ λ_=>rfl
end
noncomputable def iK:Array Keyed->Array Keyed->SM (Array Keyed):=sortPriv% PySem.Builtin.mergeHi
noncomputable abbrev HL:=Option (Array Keyed)×Nat×Nat×Array Keyed×Nat
noncomputable abbrev HI:=Option (Array Keyed)×Nat×Nat×Array Keyed×Nat×Nat
noncomputable abbrev HG:=Option (Array Keyed)×Nat×Nat×Array Keyed×Nat×Nat×Nat
noncomputable def pS{α:Type}(a b out:Array α)(X nb:Nat):Array α:=a.extract 0 X++b.extract 0 nb++out.reverse
noncomputable def vI{α:Type}(a b out:Array α)(X nb:Nat):Array α:=b.extract 0 nb++a.extract 0 X++out.reverse
section
variable(a b:Array Keyed)
def Mx(mg X nb:Nat)(out:Array Keyed)(c z:Nat):SM (ForInStep HI):=do
 let y <- elem' b (nb-1)
 let x <- elem' a (X-1)
 let r <- lt' y x
 match r with
 | some w=>(if w=true then (do
   let x <- elem' a (X-1)
   if (X-1==0)=true then pure (.done (some (pS a b (out.push x) (X-1) nb),X-1,nb,out.push x,c+1,0)) else
    if c+1≥mg then pure (.done (none,X-1,nb,out.push x,c+1,0)) else pure (.yield (none,X-1,nb,out.push x,c+1,0)))
  else (do
   let y <- elem' b (nb-1)
   if (nb-1==1)=true then pure (.done (some (vI a b (out.push y) X (nb-1)),X,nb-1,out.push y,0,z+1)) else
    if z+1≥mg then pure (.done (none,X,nb-1,out.push y,0,z+1)) else pure (.yield (none,X,nb-1,out.push y,0,z+1))):SM (ForInStep HI))
 |_=>pure (.done (some (pS a b out X nb),X,nb,out,c,z))
def L7(mg c z X nb:Nat)(out:Array Keyed):SM (ForInStep HG):=do
 let x <- elem' a (X-1)
 if (X-1==0)=true then pure (.done (some (pS a b (out.push x) (X-1) nb),X-1,nb,out.push x,mg,c,z)) else
  if (decide (c<7)&&decide (z<7))=true then pure (.done (none,X-1,nb,out.push x,mg,c,z)) else pure (.yield (none,X-1,nb,out.push x,mg,c,z))
def Mb(mg c z X nb:Nat)(out:Array Keyed):SM (ForInStep HG):=do
 let y <- elem' b (nb-1)
 if (nb-1==1)=true then pure (.done (some (vI a b (out.push y) X (nb-1)),X,nb-1,out.push y,mg,c,z)) else do
  let x <- elem' a (X-1)
  let r <- cL true x b 0 (nb-1) (nb-1-1)
  match r with
  | some k=>(if nb-1-k > 0 then
    if (k==1)=true then pure (.done (some (vI a b (out.push y++(b.extract k (nb-1)).reverse) X k),X,k,out.push y++(b.extract k (nb-1)).reverse,mg,c,nb-1-k))
    else if (k==0)=true then pure (.done (some (pS a b (out.push y++(b.extract k (nb-1)).reverse) X k),X,k,out.push y++(b.extract k (nb-1)).reverse,mg,c,nb-1-k))
    else L7 a b mg c (nb-1-k) X k (out.push y++(b.extract k (nb-1)).reverse)
   else L7 a b mg c (nb-1-k) X (nb-1) (out.push y):SM (ForInStep HG))
  |_=>pure (.done (some (pS a b (out.push y) X (nb-1)),X,nb-1,out.push y,mg,c,z))
def Ma(c z X nb:Nat)(out:Array Keyed)(mg:Nat):SM (ForInStep HG):=do
 kT mg
 let y <- elem' b (nb-1)
 let r <- cL false y a 0 X (X-1)
 match r with
 | some k=>(if X-k > 0 then
   if (k==0)=true then pure (.done (some (pS a b (out++(a.extract k X).reverse) k nb),k,nb,out++(a.extract k X).reverse,mg,X-k,z))
   else Mb a b mg (X-k) z k nb (out++(a.extract k X).reverse)
  else Mb a b mg (X-k) z X nb out:SM (ForInStep HG))
 |_=>pure (.done (some (pS a b out X nb),X,nb,out,mg,c,z))
def L4(bb X nb:Nat)(out:Array Keyed)(mg:Nat):SM (ForInStep HL):=do
 let s <- forIn [:bb] ((none,X,nb,out,0,0):HI) λ_ s=>Mx a b mg s.2.1 s.2.2.1 s.2.2.2.1 s.2.2.2.2.1 s.2.2.2.2.2
 match s.1 with
 |some r=>pure (.done (some r,s.2.1,s.2.2.1,s.2.2.2.1,mg))
 | none=>do
  liftM (rule "list.sort.gallop")
  let s <- forIn [:bb] ((none,s.2.1,s.2.2.1,s.2.2.2.1,mg+1,s.2.2.2.2.1,s.2.2.2.2.2):HG) λ_ s=>if s.2.2.2.2.1 > 1 then Ma a b s.2.2.2.2.2.1 s.2.2.2.2.2.2 s.2.1 s.2.2.1 s.2.2.2.1 (s.2.2.2.2.1-1) else Ma a b s.2.2.2.2.2.1 s.2.2.2.2.2.2 s.2.1 s.2.2.1 s.2.2.2.1 s.2.2.2.2.1
  match s.1 with
  |some r=>pure (.done (some r,s.2.1,s.2.2.1,s.2.2.2.1,s.2.2.2.2.1))
  | none=>do
   kT (s.2.2.2.2.1+1)
   pure (.yield (none,s.2.1,s.2.2.1,s.2.2.2.1,s.2.2.2.2.1+1))
theorem o9:iK a b=(do
  liftM (rule "list.sort.merge-hi")
  let x <- elem' a (a.size-1)
  if (a.size-1==0)=true then pure (pS a b #[x] (a.size-1) b.size) else if (b.size==1)=true then pure (vI a b #[x] (a.size-1) b.size) else do
   let st <- get
   let s <- forIn [:a.size+b.size] ((none,a.size-1,b.size,#[x],gallopOf st):HL) λ_ s=>L4 a b (a.size+b.size) s.2.1 s.2.2.1 s.2.2.2.1 s.2.2.2.2
   match s.1 with
   |some r=>pure r
   | none=>liftM (unsupported "internal:list.sort.merge-bound" : Sem (Array Keyed))):=by
 unfold iK;refine congrArg _ (funext λ_=>congrArg (bind (elem' a (a.size-1))) (funext λy=>?_));dsimp only
 congr 1
 congr 1
 congr 1
 funext st
 congr 1
 .congr 1
  funext _ ⟨r,na,nb,out,mg⟩
  unfold L4;dsimp only
  congr 1
  funext ⟨r,na,nb,out,ac,z⟩
  cases r with
  |some r=>rfl
  |none=>
   dsimp only
   congr 1
   funext _
   congr 1
   funext ⟨r,na,nb,out,mg,ac,z⟩
   cases r<;>rfl
 .funext ⟨r,na,nb,out,mg⟩
  cases r<;>rfl
end
section
variable{a b out:Array Nat}{na nb k mg ac z bb:Nat}{σ0:aQ}
def PH(a b out:Array Nat)(na nb:Nat):Prop:=(a.toList.take na++(b.toList.take nb++out.toList)).Perm (a.toList++b.toList)
theorem sX(a:Array Nat)(h:i-1<a.size)(J:1<=i):a.toList.take i=a.toList.take (i-1)++[a.getD (i-1) 0]:=by
 obtain⟨j,rfl⟩:∃j,i=j+1:=⟨i-1,by omega⟩
 rw[Nat.add_sub_cancel] at h ⊢;rw[SV (by simpa using h)]
 congr 2
 simp[SF,h]
theorem qp(a:Array Nat){j:Nat}(h:i<=j):a.toList.take j=a.toList.take i++(a.extract i j).toList:=by
 rw[QJ,Qr];obtain⟨d,rfl⟩:∃d,j=i+d:=⟨j-i,by omega⟩
 rw[Uh,VH]
theorem PH.pb(h:PH a b out na nb)(hi:nb-1<b.size)(J:1<=nb):PH a b (out.push (b.getD (nb-1) 0)) na (nb-1):=by unfold PH at h ⊢;rw[sX b hi J] at h;refine QU (PU _ ?_) h;rw[SR,O7];exact PU _ P0
theorem PH.pa(h:PH a b out na nb)(hi:na-1<a.size)(J:1<=na):PH a b (out.push (a.getD (na-1) 0)) (na-1) nb:=by unfold PH at h ⊢;rw[sX a hi J] at h;refine QU ?_ h;rw[SR,O7];refine PU _ ?_;rw[<-O7];exact P0
theorem PH.eb(h:PH a b out na nb)(hi:k<=nb):PH a b (out++(b.extract k nb).reverse) na k:=by unfold PH at h ⊢;rw[qp b hi] at h;refine QU (PU _ ?_) h;rw[PV,RC,O7];exact PU _ (P0.trans ((RT _).append_right _))
theorem PH.ea(h:PH a b out na nb)(hi:k<=na):PH a b (out++(a.extract k na).reverse) k nb:=by unfold PH at h ⊢;rw[qp a hi] at h;refine QU ?_ h;rw[PV,RC,O7];refine PU _ ?_;rw[<-O7];exact P0.trans ((RT _).append_right _)
theorem sO(a:Array Nat)(i:Nat):(a.extract 0 i).toList=a.toList.take i:=by rw[QJ,Qr];rfl
theorem PH.d(h:PH a b out na nb):(pS a b out na nb).toList.Perm (a.toList++b.toList):=by unfold pS;rw[PV,PV,sO,sO,O7,RC];exact(PU _ (PU _ (RT _))).trans h
theorem PH.l(h:PH a b out na nb):(vI a b out na nb).toList.Perm (a.toList++b.toList):=by unfold vI;rw[PV,PV,sO,sO,RC];refine QU ?_ h;rw[<-O7];exact P0.append (RT _)
end
theorem nh(c:Cc f n)(q:Array Nat):(c.ar q).reverse=c.ar q.reverse:=by unfold Cc.ar;simp
theorem my(c:Cc f n)(a b q:Array Nat)(i j:Nat):pS (c.ar a) (c.ar b) (c.ar q) i j=c.ar (pS a b q i j):=by unfold pS;rw[cD,cD,nh,cT,cT]
theorem pf(c:Cc f n)(a b q:Array Nat)(i j:Nat):vI (c.ar a) (c.ar b) (c.ar q) i j=c.ar (vI a b q i j):=by unfold vI;rw[cD,cD,nh,cT,cT]
def eH{B:Type}(b:Option (Array Nat)×Nat×Nat×Array Nat×B)(c:Cc f n):Option (Array Keyed)×Nat×Nat×Array Keyed×B:=(b.1.map c.ar,b.2.1,b.2.2.1,c.ar b.2.2.2.1,b.2.2.2.2)
def Hn(a b:Array Nat)(k:Nat)(o:Option (Array Nat))(X nb:Nat)(out:Array Nat):Prop:=o=none/\PH a b out X nb/\1<=X/\X<=a.size/\2<=nb/\nb<=b.size/\X+nb+k<=a.size+b.size
def Hr(a b:Array Nat)(k:Nat)(o:Option (Array Nat))(X nb:Nat)(out:Array Nat):Prop:=Hn a b k o X nb out\/∃r,o=some r/\r.toList.Perm (a.toList++b.toList)
noncomputable abbrev Ow:=Option (Array Nat)×Nat×Nat×Array Nat×Nat×Nat×Nat
def KI(a b:Array Nat)(k:Nat)(Y:aQ)(x:Ow)(Z':aQ):Prop:=Hn a b k x.1 x.2.1 x.2.2.1 x.2.2.2.1/\Ks Y Z'
def KD(a b:Array Nat)(k:Nat)(Y:aQ)(x:Ow)(Z':aQ):Prop:=Hr a b k x.1 x.2.1 x.2.2.1 x.2.2.2.1/\Ks Y Z'
section
variable{a b out:Array Nat}{na nb k mg ac z bb:Nat}{σ0:aQ}
theorem um(ks:Ks σ0 Y)(h:Hn a b k none na nb out):ao (λc:Cc f n=>L7 (c.ar a) (c.ar b) mg ac z na nb (c.ar out)) (qI eH) Y (Lp (KI a b k σ0) (KD a b k σ0)):=by
 obtain⟨-,h,h1,h2,h3,h4,h5⟩:=h;unfold L7;refine ao.elem (by omega) ?_;simp only[dD,my,pf];have p:=h.pa (by omega) h1;refine ao.ite (λ_=>?_) λt=>?_
 .exact ao.dn (some (pS a b (out.push (a.getD (na-1) 0)) (na-1) nb),na-1,nb,out.push (a.getD (na-1) 0),mg,ac,z) ⟨.inr ⟨_,rfl,p.d⟩,ks⟩ λ_=>rfl
 have t:=jT t;have s:Hn a b k none (na-1) nb (out.push (a.getD (na-1) 0)):=⟨rfl,p,by omega,by omega,h3,h4,by omega⟩
 refine ao.ite (λ_=>?_) λ_=>?_
 .exact ao.dn (none,na-1,nb,out.push (a.getD (na-1) 0),mg,ac,z) ⟨.inl s,ks⟩ λ_=>rfl
 .exact ao.iP (none,na-1,nb,out.push (a.getD (na-1) 0),mg,ac,z) ⟨s,ks⟩ λ_=>rfl
theorem tT(v:Qn n a)(Z:Qn n b)(ks:Ks σ0 Y)(h:Hn a b k none na nb out):ao (λc:Cc f n=>Mb (c.ar a) (c.ar b) mg ac z na nb (c.ar out)) (qI eH) Y (Lp (KI a b k σ0) (KD a b k σ0)):=by
 obtain⟨-,h,h1,h2,h3,h4,h5⟩:=h;unfold Mb;refine ao.elem (by omega) ?_;simp only[dD,my,pf,cD,nh,cT];have p:=h.pb (by omega) (by omega);refine ao.ite (λ_=>?_) λt=>ao.elem (by omega) (ao.bind (f6 (v _ (by omega)) Z (by omega) (by have:=jT t;omega)) ?_)
 .exact ao.dn (some (vI a b (out.push (b.getD (nb-1) 0)) na (nb-1)),na,nb-1,out.push (b.getD (nb-1) 0),mg,ac,z) ⟨.inr ⟨_,rfl,p.l⟩,ks⟩ λ_=>rfl
 have t:=jT t;rintro _ Z' ⟨rfl,x,rfl,L⟩;dsimp only;have q:=p.eb L;refine ao.ite (λ_=>ao.ite (λ_=>?_) λN=>ao.ite (λ_=>?_) λT=>um ks ⟨rfl,q,h1,h2,by have:=jT N;have:=jT T;omega,by omega,by omega⟩) λ_=>um ks ⟨rfl,p,h1,h2,by omega,by omega,by omega⟩
 .exact ao.dn (some (vI a b (out.push (b.getD (nb-1) 0)++(b.extract x (nb-1)).reverse) na x),na,x,out.push (b.getD (nb-1) 0)++(b.extract x (nb-1)).reverse,mg,ac,nb-1-x) ⟨.inr ⟨_,rfl,q.l⟩,ks⟩ λ_=>rfl
 .exact ao.dn (some (pS a b (out.push (b.getD (nb-1) 0)++(b.extract x (nb-1)).reverse) na x),na,x,out.push (b.getD (nb-1) 0)++(b.extract x (nb-1)).reverse,mg,ac,nb-1-x) ⟨.inr ⟨_,rfl,q.d⟩,ks⟩ λ_=>rfl
theorem sZ(v:Qn n a)(Z:Qn n b)(ks:Ks σ0 Y)(h:Hn a b k none na nb out):ao (λc:Cc f n=>Ma (c.ar a) (c.ar b) ac z na nb (c.ar out) mg) (qI eH) Y (Lp (KI a b k σ0) (KD a b k σ0)):=by
 have h':=h;obtain⟨-,h,h1,h2,h3,h4,h5⟩:=h;unfold Ma;simp only[my,pf,cD,nh,cT];refine ao.sR (ao.elem (by omega) (ao.bind (f6 (Z _ (by omega)) v (by omega) (by omega)) ?_));rintro _ Z' ⟨rfl,x,rfl,L⟩;dsimp only;have q:=h.ea L;refine ao.ite (λ_=>ao.ite (λ_=>?_) λl=>?_) λ_=>tT v Z ks h'
 .exact ao.dn (some (pS a b (out++(a.extract x na).reverse) x nb),x,nb,out++(a.extract x na).reverse,mg,na-x,z) ⟨.inr ⟨_,rfl,q.d⟩,ks⟩ λ_=>rfl
 .exact tT v Z ks ⟨rfl,q,by have:=jT l;omega,by omega,h3,h4,by omega⟩
noncomputable abbrev NQ:=Option (Array Nat)×Nat×Nat×Array Nat×Nat×Nat
noncomputable abbrev Oh:=Option (Array Nat)×Nat×Nat×Array Nat×Nat
def OC(a b:Array Nat)(k:Nat)(Y:aQ)(x:NQ)(Z':aQ):Prop:=Hn a b k x.1 x.2.1 x.2.2.1 x.2.2.2.1/\Z'=Y
def Oi(a b:Array Nat)(k:Nat)(Y:aQ)(x:NQ)(Z':aQ):Prop:=Hr a b k x.1 x.2.1 x.2.2.1 x.2.2.2.1/\Z'=Y
theorem Cb(v:Qn n a)(Z:Qn n b)(h:Hn a b k none na nb out):ao (λc:Cc f n=>Mx (c.ar a) (c.ar b) mg na nb (c.ar out) ac z) (qI eH) Y (Lp (OC a b (k+1) Y) (Oi a b (k+1) Y)):=by
 obtain⟨-,h,h1,h2,h3,h4,h5⟩:=h;unfold Mx;simp only[my];refine ao.elem (by omega) (ao.elem (by omega) (ao.lt (Z _ (by omega)) (v _ (by omega)) ?_));dsimp only;refine ao.ite (λ_=>ao.elem (by omega) ?_) λ_=>ao.elem (by omega) ?_
 .simp only[dD,my];have p:=h.pa (by omega) h1;refine ao.ite (λ_=>?_) λt=>?_
  .exact ao.dn (some (pS a b (out.push (a.getD (na-1) 0)) (na-1) nb),na-1,nb,out.push (a.getD (na-1) 0),ac+1,0) ⟨.inr ⟨_,rfl,p.d⟩,rfl⟩ λ_=>rfl
  have s:Hn a b (k+1) none (na-1) nb (out.push (a.getD (na-1) 0)):=⟨rfl,p,by have:=jT t;omega,by omega,h3,h4,by omega⟩
  refine ao.ite (λ_=>?_) λ_=>?_
  .exact ao.dn (none,na-1,nb,out.push (a.getD (na-1) 0),ac+1,0) ⟨.inl s,rfl⟩ λ_=>rfl
  .exact ao.iP (none,na-1,nb,out.push (a.getD (na-1) 0),ac+1,0) ⟨s,rfl⟩ λ_=>rfl
 .simp only[dD,pf];have p:=h.pb (by omega) (by omega);refine ao.ite (λ_=>?_) λt=>?_
  .exact ao.dn (some (vI a b (out.push (b.getD (nb-1) 0)) na (nb-1)),na,nb-1,out.push (b.getD (nb-1) 0),0,z+1) ⟨.inr ⟨_,rfl,p.l⟩,rfl⟩ λ_=>rfl
  have s:Hn a b (k+1) none na (nb-1) (out.push (b.getD (nb-1) 0)):=⟨rfl,p,h1,h2,by have:=jT t;omega,by omega,by omega⟩
  refine ao.ite (λ_=>?_) λ_=>?_
  .exact ao.dn (none,na,nb-1,out.push (b.getD (nb-1) 0),0,z+1) ⟨.inl s,rfl⟩ λ_=>rfl
  .exact ao.iP (none,na,nb-1,out.push (b.getD (nb-1) 0),0,z+1) ⟨s,rfl⟩ λ_=>rfl
theorem Hn.mono{o:Option (Array Nat)}(h:Hn a b k o na nb out)(hk:k'<=k):Hn a b k' o na nb out:=⟨h.1,h.2.1,h.2.2.1,h.2.2.2.1,h.2.2.2.2.1,h.2.2.2.2.2.1,by have:=h.2.2.2.2.2.2;omega⟩
def N7(a b:Array Nat)(k:Nat)(Y:aQ)(x:Oh)(Z':aQ):Prop:=Hn a b k x.1 x.2.1 x.2.2.1 x.2.2.2.1/\Ks Y Z'
def OB(a b:Array Nat)(Y:aQ)(x:Oh)(Z':aQ):Prop:=(∃r,x.1=some r/\r.toList.Perm (a.toList++b.toList))/\Ks Y Z'
theorem BS(v:Qn n a)(Z:Qn n b)(j:1<=bb)(ks:Ks σ0 Y)(h:Hn a b k none na nb out):ao (λc:Cc f n=>L4 (c.ar a) (c.ar b) bb na nb (c.ar out) mg) (qI eH) Y (Lp (N7 a b (k+1) σ0) (OB a b σ0)):=by
 unfold L4;refine ao.bind (ao.qH eH (λi x Z'=>OC a b (k+i) Y x Z') (D:=Oi a b (k+1) Y) (none,na,nb,out,0,0) (λ_=>rfl) ⟨h,rfl⟩ ?_ ?_) ?_
 .rintro x Z' ⟨s,rfl⟩;exact⟨.inl (s.mono (by omega)),rfl⟩
 .rintro i ⟨o,na,nb,out,ac,z⟩ Z' hi ⟨s,rfl⟩;cases (show o=none from s.1);refine ao.mono (Cb v Z s) ?_;rintro(x|x) Z' h
  .exact⟨h.1.imp (λs=>s.mono (by omega)) id,h.2⟩
  .exact h
 .rintro⟨o,na,nb,out,ac,z⟩ Z' ⟨s,rfl⟩;rcases s with s|⟨r,J,y⟩
  .cases (show o=none from s.1);refine ao.rule ?_;refine ao.bind (ao.qH eH (λi x Z'=>KI a b (k+1) σ0 x Z') (D:=KD a b (k+1) σ0) (none,na,nb,out,mg+1,ac,z) (λ_=>rfl) ⟨s,ks⟩ (λ_ _ h=>⟨.inl h.1,h.2⟩) ?_) ?_
   .rintro i ⟨o,na,nb,out,mg,ac,z⟩ Z' hi ⟨s,ks⟩;cases (show o=none from s.1);dsimp only [eH];refine ao.ite (q:=mg > 1) (λ_=>?_) λ_=>?_
    .exact sZ v Z ks s
    .exact sZ v Z ks s
   .rintro⟨o,na,nb,out,mg,ac,z⟩ Z' ⟨s,ks⟩;rcases s with s|⟨r,J,y⟩
    .cases (show o=none from s.1);dsimp only [eH,R1];refine ao.sR ?_;exact ao.iP (none,na,nb,out,mg+1) ⟨s,ks⟩ λ_=>rfl
    .dsimp only at J;subst J;exact ao.dn (some r,na,nb,out,mg) ⟨⟨r,rfl,y⟩,ks⟩ λ_=>rfl
  .dsimp only at J;subst J;exact ao.dn (some r,na,nb,out,mg) ⟨⟨r,rfl,y⟩,ks⟩ λ_=>rfl
theorem CN(v:Qn n a)(Z:Qn n b)(ha:1<=a.size)(K:1<=b.size):ao (λc:Cc f n=>iK (c.ar a) (c.ar b)) (λr c=>c.ar r) Y (λr Z'=>r.toList.Perm (a.toList++b.toList)/\Ks Y Z'):=by
 simp only[o9,bC];refine ao.rule (ao.elem (by omega) ?_);have h:PH a b #[] a.size b.size:=by unfold PH;rw[Rm (by simp),Rm (by simp)];simp
 have p:PH a b #[a.getD (a.size-1) 0] (a.size-1) b.size:=h.pa (by omega) ha;have e:∀c:Cc f n,#[kas_item c.it (a.getD (a.size-1) 0)]=c.ar #[a.getD (a.size-1) 0]:=λc=>by unfold Cc.ar;simp
 simp only[e,my,pf];refine ao.ite (λ_=>?_) λL=>ao.ite (λ_=>?_) λN=>ao.get ?_
 .exact ao.pure _ ⟨p.d,rfl,rfl⟩ λ_=>rfl
 .exact ao.pure _ ⟨p.l,rfl,rfl⟩ λ_=>rfl
 have L:=jT L;have N:=jT N;refine ao.bind (ao.qH eH (λi x Z'=>N7 a b (1+i) Y x Z') (D:=OB a b Y) (none,a.size-1,b.size,#[a.getD (a.size-1) 0],Y.mg) (λ_=>rfl) ⟨⟨rfl,p,(by omega:1<=a.size-1),(by omega:a.size-1<=a.size),(by omega:2<=b.size),Pf _,(by omega:a.size-1+b.size+(1+0)<=a.size+b.size)⟩,rfl,rfl⟩ ?_ ?_) ?_
 .rintro x Z' ⟨⟨J,p,h1,h2,h3,h4,h5⟩,ks⟩;omega
 .rintro i ⟨o,na,nb,out,mg⟩ Z' hi ⟨s,ks⟩;cases (show o=none from s.1);exact BS v Z (by omega) ks s
 .rintro⟨o,na,nb,out,mg⟩ Z' ⟨⟨r,J,y⟩,ks⟩;dsimp only at J;subst J;exact ao.pure r ⟨y,ks⟩ λ_=>rfl
end
noncomputable def eZ(p:Array α)(i:Nat)(q:Array α):Array α:=q.toList.zipIdx.foldl (λa x=>a.setIfInBounds (i+x.2) x.1) p
theorem qw(i:Nat):mergeAt' i=(do
  let s <- get
  match ((pendingOf s)[i]?,(pendingOf s)[i+1]?) with
  | (some (sa,X,pw),some (sb,nb,_))=>do
   set (setPending s (((pendingOf s).setIfInBounds i (sa,X+nb,pw)).eraseIdxIfInBounds (i+1)))
   let y <- elem' (arrOf s) sb
   let r <- cL false y (arrOf s) sa X 0
   match r with
   | some k=>(if (X-k==0)=true then pure true else (do
     let x <- elem' (arrOf s) (sa+k+(X-k)-1)
     let r <- cL true x (arrOf s) sb nb (nb-1)
     match r with
     | some nb=>(if (nb==0)=true then pure true else (do
       let m <- (if X-k<=nb then iC ((arrOf s).extract (sa+k) sb) ((arrOf s).extract sb (sb+nb)) else iK ((arrOf s).extract (sa+k) sb) ((arrOf s).extract sb (sb+nb)):SM (Array Keyed))
       modify λs=>setArr s (eZ (arrOf s) (sa+k) m)
       let s <- get
       pure (failedOf s).isNone):SM Bool)
     | _=>pure false):SM Bool)
   |_=>pure false
  | _=>liftM (unsupported "internal:list.sort.pending" : Sem Bool)):=by
 unfold mergeAt';refine congrArg (bind get) (funext λs=>?_);cases h1:(pendingOf s)[i]? with
 |none=>rfl
 |some x=>
  obtain⟨sa,X,pw⟩:=x;cases h2:(pendingOf s)[i+1]? with
  |none=>rfl
  |some x=>
   obtain⟨sb,nb,_⟩:=x;dsimp only
   congr 1
   funext _
   congr 1
   funext y
   congr 1
   funext r
   cases r with
   |none=>rfl
   |some k=>
    dsimp only
    congr 1
    congr 1
    funext x
    congr 1
    funext r
    cases r with
    |none=>rfl
    |some nb=>
     dsimp only
     congr 1
     by_cases h:X-k<=nb
     .rw[if_pos h,if_pos h];rfl
     .rw[if_neg h,if_neg h];rfl
theorem pY(i:Nat):∀(l:List α)(p:Array α)(j:Nat),i+j+l.length<=p.size->((l.zipIdx j).foldl (λa x=>a.setIfInBounds (i+x.2) x.1) p).toList=p.toList.take (i+j)++l++p.toList.drop (i+j+l.length)
 |[],p,j,_=>by simp
 |x::l,p,j,h=>by
  rw[Pl] at h ⊢;rw[List.zipIdx_cons,Th,pY i l _ (j+1) (by rw[Array.size_setIfInBounds];omega)];dsimp only;rw[Tq];have V:i+j<p.toList.length:=by rw[P9];omega
  have J:(p.toList.set (i+j) x).take (i+(j+1))=p.toList.take (i+j)++[x]:=by rw[show i+(j+1)=i+j+1 by omega,SV (by simpa using V),UP (Pf _)];simp
  have N:(p.toList.set (i+j) x).drop (i+(j+1)+l.length)=p.toList.drop (i+j+(l.length+1)):=by
   rw[List.drop_set_of_lt (by omega)]
   congr 1
   omega
  rw[J,N];simp
theorem jc{p q:Array α}(h:i+q.size<=p.size):(eZ p i q).toList=p.toList.take i++q.toList++p.toList.drop (i+q.size):=by have:=pY i q.toList p 0 (by simpa using h);simpa[eZ] using this
theorem Fm(c:Cc f n){q:Array Nat}(h:i+q.size<=p.size):eZ (c.ar p) i (c.ar q)=c.ar (eZ p i q):=by apply RZ.mp;rw[jc (by rw[bC,bC];exact h),bC];unfold Cc.ar;rw[S3,S3,S3,jc h];simp
theorem ao.set{g:Cc f n->SortSt}{k:PUnit->Cc f n->StateT SortSt Sem D}{e':δ->Cc f n->D}{P':δ->aQ->Prop}(Q:∀c,g c=c.st Z')(h:ao (λc=>k ⟨⟩ c) e' Z' P'):ao (λc=>T7 (g c) >>= λa=>k a c) e' Y P':=by obtain⟨b,T,hp,hm⟩:=h;refine⟨b,T,hp,λc=>kasC_bind ?_⟩;unfold kasC;rw[show (T7 (g c):StateT SortSt Sem PUnit).run (c.st Y)=S6 (⟨⟩,g c) from rfl];refine wpAny_pure ?_;rw[Q];exact hm c
theorem Pt.q(h:Pt n p):Qn n p:=λi hi=>h.lt (by rw[<-h.size];exact hi)
theorem Qn.ext(h:Qn n p)(i j:Nat):Qn n (p.extract i j):=λk hk=>by
 have E:k<min j p.size-i:=by simpa using hk
 have e:(p.extract i j).getD k 0=p.getD (i+k) 0:=by
  have h3:i+k<p.size:=by omega
  simp[SF,E,h3]
 rw[e];exact h _ (by omega)
theorem Pt.put{m:Array Nat}{j:Nat}(h:Pt n p)(hm:m.toList.Perm ((p.extract i k).toList++(p.extract k j).toList))(h1:i<=k)(h2:k<=j)(h3:j<=n):i+m.size<=p.size/\Pt n (eZ p i m):=by
 have N:=h.size;have J:(p.extract i k).toList++(p.extract k j).toList=(p.toList.drop i).take (j-i):=by
  rw[QJ,QJ,Qr,Qr];have:p.toList.drop k=(p.toList.drop i).drop (k-i):=by rw[TF];congr 1;omega
  rw[this,show j-i=(k-i)+(j-k) by omega,VH]
 rw[J] at hm;have hl:m.size=j-i:=by have:=hm.length_eq;simp at this;omega
 refine⟨by omega,(RJ.mpr ?_).trans h⟩;rw[jc (by omega)];have l:p.toList=p.toList.take i++(p.toList.drop i).take (j-i)++p.toList.drop (i+m.size):=by rw[O7,hl,<-TF,QE,QE]
 exact((hm.append_left _).append_right _).trans (by rw[<-l])
theorem Ao{sa X nb pw U:Nat}(hp:Pt n Y.p)(J:Y.pend[i]?=some (sa,X,pw))(l:Y.pend[i+1]?=some (sa+X,nb,U))(h1:1<=X)(h2:1<=nb)(h3:sa+X+nb<=n):
  ao (λ_:Cc f n=>mergeAt' i) (λb _=>b) Y (λr Z'=>r=true/\Pt n Z'.p/\Z'.pend=(Y.pend.setIfInBounds i (sa,X+nb,pw)).eraseIdxIfInBounds (i+1)):=by
 have N:=hp.size;simp only[qw];refine ao.get ?_;have ep:∀c:Cc f n,pendingOf (c.st Y)=Y.pend:=λ_=>rfl;have ea:∀c:Cc f n,arrOf (c.st Y)=c.ar Y.p:=λ_=>rfl;simp only[ep,ea,J,l,cD];refine ao.set (Z':=⟨Y.p,(Y.pend.setIfInBounds i (sa,X+nb,pw)).eraseIdxIfInBounds (i+1),Y.mg⟩) (λ_=>rfl) (ao.elem (by omega) (ao.bind (f6 (hp.q _ (by omega)) hp.q (by omega) (by omega)) ?_));rintro _ Z' ⟨rfl,k,rfl,hk⟩;dsimp only;refine ao.ite (λ_=>?_) λA=>ao.elem (by have:=jT A;omega) (ao.bind (f6 (hp.q _ (by have:=jT A;omega)) hp.q (by omega) (by omega)) ?_)
 .exact ao.pure true ⟨rfl,hp,rfl⟩ λ_=>rfl
 have A:=jT A;rintro _ Z' ⟨rfl,H,rfl,Q⟩;dsimp only;refine ao.ite (λ_=>?_) λx=>?_
 .exact ao.pure true ⟨rfl,hp,rfl⟩ λ_=>rfl
 have x:=jT x;refine ao.bind (e:=λr c=>c.ar r) (P:=λr Z'=>r.toList.Perm ((Y.p.extract (sa+k) (sa+X)).toList++(Y.p.extract (sa+X) (sa+X+H)).toList)/\Ks ⟨Y.p,(Y.pend.setIfInBounds i (sa,X+nb,pw)).eraseIdxIfInBounds (i+1),Y.mg⟩ Z') (ao.ite (q:=X-k<=H) (λ_=>?_) λ_=>?_) ?_
 .exact Ba (hp.q.ext _ _) (hp.q.ext _ _) (by rw[RK];omega) (by rw[RK];omega)
 .exact CN (hp.q.ext _ _) (hp.q.ext _ _) (by rw[RK];omega) (by rw[RK];omega)
 rintro m ⟨o,h,E⟩ ⟨hm,kp,O⟩;dsimp only at kp O;subst kp O;obtain⟨z,w⟩:=hp.put hm (by omega) (by omega) (by omega);refine ao.mod (g:=λc s=>setArr s (eZ (arrOf s) (sa+k) (c.ar m))) (Z':=⟨eZ Y.p (sa+k) m,(Y.pend.setIfInBounds i (sa,X+nb,pw)).eraseIdxIfInBounds (i+1),E⟩) (λc=>?_) (ao.get ?_)
 .show Q8 c.κ (eZ (c.ar Y.p) (sa+k) (c.ar m)) _ _ _=_;rw[Fm c z];rfl
 .exact ao.pure true ⟨rfl,w,rfl⟩ λ_=>rfl
noncomputable abbrev US:=Option Unit×Unit
noncomputable abbrev UN:=Option Unit×Nat
noncomputable def LZ(lo m:Nat):SM (ForInStep UN):=do
 modify λs=>setPending s ((pendingOf s).push (lo,m,0))
 pure (.yield (none,lo+m))
def IQ(size lo m:Nat):SM (ForInStep UN):=do
 let s <- get
 match (pendingOf s).back? with
 | some (s1,n1,_)=>do
  let r <- forIn [:size] ((none,()):US) λ_ _=>do
   let s <- get
   match (if (pendingOf s).size > 1 then (pendingOf s)[(pendingOf s).size-2]? else none) with
   | some (_,_,old)=>(if old<=power' size (2*s1+n1) (2*s1+n1+n1+m) size then pure (.done (none,())) else (do
     let b <- mergeAt' ((pendingOf s).size-2)
     if (!b)=true then pure (.done (some (),())) else pure (.yield (none,()))):SM (ForInStep US))
   |_=>pure (.done (none,()))
  match r.1 with
  |some r=>pure (.done (some r,lo))
  | none=>do
   modify λs=>setPending s ((pendingOf s).modify ((pendingOf s).size-1) λ(st,len,_)=>(st,len,power' size (2*s1+n1) (2*s1+n1+n1+m) size))
   LZ lo m
 |_=>LZ lo m
def Mh(size lo:Nat):SM (ForInStep UN):=
 if lo≥size then pure (.done (none,lo)) else do
  let x <- countRun' lo (size-lo)
  match x with
  | some m=>(if m<minRun' size size 0 then (do
    liftM (rule "list.sort.binary-insertion")
    let b <- binarySort' lo (min (size-lo) (minRun' size size 0)) m
    if (!b)=true then pure (.done (some (),lo)) else IQ size lo (min (size-lo) (minRun' size size 0)))
   else IQ size lo m:SM (ForInStep UN))
  |_=>pure (.done (some (),lo))
noncomputable def M7(p:Array (Nat×Nat×Nat)):Nat:=if VQ (λx=>decide (x<p[p.size-2+1]?.elim 0 λx=>x.2.1)) (if p.size-2 > 0 then R1 (λx=>x.2.1) p[p.size-2-1]? else none)=true then p.size-2-1 else p.size-2
theorem oJ:sortRuns'=(do
  let s <- get
  let r <- forIn [:(arrOf s).size] ((none,0):UN) λ_ x=>Mh (arrOf s).size x.2
  match r.1 with
  |some r=>pure r
  | none=>do
   let r <- forIn [:(arrOf s).size] ((none,()):US) λ_ _=>do
    let s <- get
    (if (pendingOf s).size<=1 then pure (.done (none,())) else (do
     let b <- mergeAt' (M7 (pendingOf s))
     if (!b)=true then pure (.done (some (),())) else pure (.yield (none,()))):SM (ForInStep US))
   match r.1 with
   |some r=>pure r
   | none=>pure ()):=by
 unfold sortRuns';refine congrArg (bind get) (funext λs=>?_);dsimp only
 congr 1
 .congr 1
  funext _ ⟨r,lo⟩
  unfold Mh;dsimp only
  congr 1
  congr 1
  funext x
  cases x with
  |none=>rfl
  |some m=>
   dsimp only
   congr 1
   .congr 1
    funext _
    congr 1
    funext b
    congr 1
    unfold IQ
    congr 1
    funext st
    cases (pendingOf st).back? with
    |none=>rfl
    |some y=>
     dsimp only
     congr 1
     funext ⟨r,_⟩
     cases r<;>rfl
   .unfold IQ
    congr 1
    funext st
    cases (pendingOf st).back? with
    |none=>rfl
    |some y=>
     dsimp only
     congr 1
     funext ⟨r,_⟩
     cases r<;>rfl
 .funext ⟨r,lo⟩
  cases r with
  |some r=>rfl
  |none=>
   dsimp only
   congr 1
   funext ⟨r,_⟩
   cases r<;>rfl
noncomputable abbrev Pd:=Array (Nat×Nat×Nat)
def Rn(pend:Pd)(hi:Nat):Prop:=∀j x,pend[j]?=some x->1<=x.2.1/\x.1+x.2.1<=hi/\x.1+x.2.1=(pend[j+1]?.map (·.1)).getD hi
theorem Rn.push{pend:Pd}{lo m:Nat}(h:Rn pend lo)(hm:1<=m):Rn (pend.push (lo,m,0)) (lo+m):=by
 intro j x L;rw[Array.getElem?_push] at L ⊢;by_cases e:j=pend.size
 .rw[if_pos e] at L;cases L;rw[if_neg (by omega),R5 (by omega)];exact⟨hm,Pf _,rfl⟩
 .rw[if_neg e] at L;obtain⟨h1,h2,h3⟩:=h j x L;refine⟨h1,by omega,?_⟩;by_cases l:j+1=pend.size
  .rw[if_pos l];rw[R5 (by omega)] at h3;exact h3
  .rw[if_neg l];have V:j+1<pend.size:=by have:=(Ts.mp L).1;omega
   rw[QG V] at h3 ⊢;exact h3
variable{pend:Pd}
theorem Rn.same{b:Pd}(h:Rn pend hi)(e:∀j:Nat,b[j]?.map (λx:Nat×Nat×Nat=>(x.1,x.2.1))=pend[j]?.map λx:Nat×Nat×Nat=>(x.1,x.2.1)):Rn b hi:=by
 intro j x L;have J:=e j;rw[L] at J;cases s:pend[j]? with
 |none=>rw[s] at J;cases J
 |some y=>rw[s] at J;have J:(x.1,x.2.1)=(y.1,y.2.1):=Pn J;obtain⟨h1,h2,h3⟩:=h j y s;have Y:x.1=y.1:=(Sb J).1;have U:x.2.1=y.2.1:=(Sb J).2;rw[Y,U];refine⟨h1,h2,?_⟩;rw[h3];have l:=congrArg (R1 Prod.fst) (e (j+1));rw[Vj,Vj] at l;exact congrArg (λo=>Option.getD o hi) l.symm
noncomputable def MX(pend:Pd)(i:Nat)(x:Nat×Nat×Nat):Pd:=(pend.setIfInBounds i x).eraseIdxIfInBounds (i+1)
theorem GP(pend:Pd)(i:Nat)(x:Nat×Nat×Nat)(hi:i<pend.size)(j:Nat):(MX pend i x)[j]?=if j<i then pend[j]? else if j=i then some x else pend[j+1]?:=by
 unfold MX;rw[<-Qc,Array.toList_eraseIdxIfInBounds,List.getElem?_eraseIdx,Tq,U7,U7];by_cases h1:j<i
 .rw[if_pos (by omega),if_pos h1,if_neg (by omega),Qc]
 .rw[if_neg h1];by_cases h2:j=i
  .rw[if_pos (by omega),if_pos h2,if_pos h2.symm,if_pos (by simpa using hi)]
  .rw[if_neg (by omega),if_neg h2,if_neg (by omega),Qc]
theorem Rn.merge{x y:Nat×Nat×Nat}(h:Rn pend hi)(J:pend[i]?=some x)(l:pend[i+1]?=some y){pw:Nat}:Rn (MX pend i (x.1,x.2.1+y.2.1,pw)) hi:=by
 have N:=(Ts.mp J).1;have L:=h i x J;have m:=h (i+1) y l;rw[l] at L;have b:x.1+x.2.1=y.1:=L.2.2;intro j z hz;rw[GP _ _ _ N] at hz ⊢;by_cases h1:j<i
 .rw[if_pos h1] at hz;obtain⟨Y,U,E⟩:=h j z hz;refine⟨Y,U,?_⟩;by_cases h2:j+1<i
  .rw[if_pos h2];exact E
  .have h3:j+1=i:=by omega
   rw[if_neg h2,if_pos h3];rw[h3,J] at E;exact E
 .rw[if_neg h1] at hz;rw[if_neg (by omega),if_neg (by omega)];by_cases h2:j=i
  .rw[if_pos h2] at hz;cases hz;subst h2;refine⟨by show 1<=x.2.1+y.2.1;omega,by show x.1+(x.2.1+y.2.1)<=hi;omega,?_⟩;show x.1+(x.2.1+y.2.1)=_;rw[<-m.2.2];omega
  .rw[if_neg h2] at hz;exact h (j+1) z hz
theorem vN{P:Bool->aQ->Prop}(hp:Pt n Y.p)(D:Rn Y.pend hi)(V:hi<=n)(H:i+1<Y.pend.size)(h:∀Z',Pt n Z'.p->Rn Z'.pend hi->P true Z'):ao (λ_:Cc f n=>mergeAt' i) (λb _=>b) Y P:=by
 obtain⟨x,J⟩:∃x,Y.pend[i]?=some x:=⟨_,QG (by omega)⟩
 obtain⟨y,l⟩:∃x,Y.pend[i+1]?=some x:=⟨_,QG H⟩
 obtain⟨sa,X,pw⟩:=x;obtain⟨sb,nb,U⟩:=y;have L:=D _ _ J;have m:=D _ _ l;rw[l] at L;have e:sa+X=sb:=L.2.2;subst e;refine ao.mono (Ao hp J l L.1 m.1 (by have:sa+X+nb<=hi:=m.2.1;omega)) ?_;rintro b Z' ⟨rfl,g,A⟩;refine h Z' g ?_;rw[A];exact D.merge J l
theorem uz{I:UN->aQ->Prop}{D:UN->aQ->Prop}(h:I (none,lo+m) ⟨Y.p,Y.pend.push (lo,m,0),Y.mg⟩):ao (λ_:Cc f n=>LZ lo m) (qI λb _=>b) Y (Lp I D):=by unfold LZ;refine ao.mod (Z':=⟨Y.p,Y.pend.push (lo,m,0),Y.mg⟩) (λ_=>rfl) ?_;exact ao.iP (none,lo+m) h λ_=>rfl
def RI(n:Nat)(x:UN)(Y:aQ):Prop:=x.1=none/\Pt n Y.p/\Rn Y.pend x.2/\x.2<=n
theorem s9(hp:Pt n Y.p)(F:Rn Y.pend lo)(hm:1<=m)(hl:lo+m<=n):ao (λ_:Cc f n=>IQ n lo m) (qI λb _=>b) Y (Lp (RI n) (RI n)):=by
 unfold IQ;refine ao.get ?_;have ep:∀c:Cc f n,pendingOf (c.st Y)=Y.pend:=λ_=>rfl;simp only[ep];cases d:Y.pend.back? with
 |none=>exact uz ⟨rfl,hp,F.push hm,hl⟩
 |some y=>
  obtain⟨s1,S,w⟩:=y;dsimp only;refine ao.bind (ao.qH (λb _=>b) (λ_ x Z'=>x.1=none/\Pt n Z'.p/\Rn Z'.pend lo) (D:=λx Z'=>x.1=none/\Pt n Z'.p/\Rn Z'.pend lo) (none,()) (λ_=>rfl) ⟨rfl,hp,F⟩ (λ_ _ h=>h) ?_) ?_
  .rintro i x Z hi ⟨J,O,k⟩;refine ao.get ?_;have ep:∀c:Cc f n,pendingOf (c.st Z)=Z.pend:=λ_=>rfl;simp only[ep];by_cases N:Z.pend.size > 1
   .simp only[if_pos N];obtain⟨z,hz⟩:∃z,Z.pend[Z.pend.size-2]?=some z:=⟨_,QG (by omega)⟩
    obtain⟨o,R,old⟩:=z;simp only[hz];refine ao.ite (λ_=>?_) λ_=>ao.bind (vN (P:=λb Z'=>b=true/\Pt n Z'.p/\Rn Z'.pend lo) O k (by omega) (by omega) λZ' a b=>⟨rfl,a,b⟩) ?_
    .exact ao.dn (none,()) ⟨rfl,O,k⟩ λ_=>rfl
    .rintro b T ⟨rfl,U,V⟩;exact ao.iP (none,()) ⟨rfl,U,V⟩ λ_=>rfl
   .simp only[if_neg N];exact ao.dn (none,()) ⟨rfl,O,k⟩ λ_=>rfl
  .rintro⟨r,u⟩ Z ⟨J,O,k⟩;cases (show r=none from J);dsimp only;have V:Rn (Z.pend.modify (Z.pend.size-1) λx=>(x.1,x.2.1,power' n (2*s1+S) (2*s1+S+S+m) n)) lo:=k.same λj=>by
    rw[Array.getElem?_modify];split
    .cases Z.pend[j]?<;>rfl
    .rfl
   refine ao.mod (Z':=⟨Z.p,Z.pend.modify (Z.pend.size-1) λx=>(x.1,x.2.1,power' n (2*s1+S) (2*s1+S+S+m) n),Z.mg⟩) (λ_=>rfl) ?_;exact uz ⟨rfl,O,V.push hm,hl⟩
theorem C7(hp:Pt n Y.p)(y:Rn Y.pend lo)(hl:lo<=n):ao (λ_:Cc f n=>Mh n lo) (qI λb _=>b) Y (Lp (RI n) (RI n)):=by
 unfold Mh;refine ao.ite (λ_=>?_) λh=>ao.bind (vj hp (by omega) (by omega)) ?_
 .exact ao.dn (none,lo) ⟨rfl,hp,y,hl⟩ λ_=>rfl
 rintro _ Z ⟨m,rfl,R,X,O,k1⟩;have S:Rn Z.pend lo:=by rw[show Z.pend=Y.pend from k1];exact y
 dsimp only;refine ao.ite (λh2=>ao.rule (ao.bind (Bp O (by omega)) ?_)) λh2=>s9 O S R (by omega);rintro b T ⟨rfl,w,k2⟩;have D:Rn T.pend lo:=by rw[show T.pend=Z.pend from k2];exact S
 exact s9 w D (by omega) (by omega)
theorem FC{p:Pd}(h:1<p.size):M7 p+1<p.size:=by
 unfold M7;by_cases e:VQ (λx=>decide (x<p[p.size-2+1]?.elim 0 λx=>x.2.1)) (if p.size-2 > 0 then R1 (λx=>x.2.1) p[p.size-2-1]? else none)=true
 .rw[if_pos e];omega
 .rw[if_neg e];omega
theorem kP(n:Nat):ao (λ_:Cc f n=>sortRuns') (λb _=>b) ⟨Qd (Py n),#[],7⟩ (λ_ Z'=>Pt n Z'.p):=by
 have hp:Pt n (Qd (Py n)):=Array.Perm.refl _;rw[oJ];refine ao.get ?_;have ea:∀c:Cc f n,(arrOf (c.st ⟨Qd (Py n),#[],7⟩)).size=n:=λc=>by show (c.ar (Qd (Py n))).size=n;rw[bC,hp.size]
 simp only[ea];refine ao.bind (ao.qH (λb _=>b) (λ_=>RI n) (D:=RI n) (none,0) (λ_=>rfl) ⟨rfl,hp,λj x h=>by simp at h,Qm _⟩ (λ_ _ h=>h) ?_) ?_
 .rintro i ⟨r,lo⟩ Z hi ⟨J,O,S,G⟩;exact C7 O S G
 .rintro⟨r,lo⟩ Z ⟨J,O,S,G⟩;cases (show r=none from J);dsimp only;refine ao.bind (ao.qH (λb _=>b) (λ_ x Z'=>x.1=none/\Pt n Z'.p/\Rn Z'.pend lo) (D:=λx Z'=>x.1=none/\Pt n Z'.p/\Rn Z'.pend lo) (none,()) (λ_=>rfl) ⟨rfl,O,S⟩ (λ_ _ h=>h) ?_) ?_
  .rintro i x T hi ⟨J,w,z⟩;refine ao.get ?_;have ep:∀c:Cc f n,pendingOf (c.st T)=T.pend:=λ_=>rfl;simp only[ep];refine ao.ite (λ_=>?_) λh=>ao.bind (vN (P:=λb Z'=>b=true/\Pt n Z'.p/\Rn Z'.pend lo) w z G (FC (by omega)) λZ' a b=>⟨rfl,a,b⟩) ?_
   .exact ao.dn (none,()) ⟨rfl,w,z⟩ λ_=>rfl
   .rintro b V ⟨rfl,U,Q⟩;exact ao.iP (none,()) ⟨rfl,U,Q⟩ λ_=>rfl
  .rintro⟨r,u⟩ T ⟨J,w,z⟩;cases (show r=none from J);exact ao.pure () w λ_=>rfl
end
noncomputable def ltI:List Int->List Int->Bool
 |[],[]=>false
 |[],_::_=>true
 |_::_,[]=>false
 |a::r,b::q=>if a=b then ltI r q else decide (a<b)
def bN(ks:List (List Int)):List Nat:=if ks.length<2 then Py ks.length else (Classical.choose (QV (kP (f:=λi j=>ltI (ks.getD i []) (ks.getD j [])) ks.length))).p.toList
theorem fB(ks:List (List Int)):(bN ks).Perm (Py ks.length):=by
 unfold bN;split
 .exact List.Perm.refl _
 .have h:=(QV (QV (kP (f:=λi j=>ltI (ks.getD i []) (ks.getD j [])) ks.length))).1;have:=RJ.mp h;simpa using this
variable{ks:List (List Int)}{vs:List Value}
section
open PySem.Spec PyProof.Rows PySem.W PySem.Calls
variable{prog:Program}{w:World}{A:Around}{E:Value->Shared->Prop}{s:Shared}
theorem qX(h2:¬ks.length<2)(c:Cc (λi j=>ltI (ks.getD i []) (ks.getD j [])) ks.length):
  kasC (model c.prog c.w) c.A c.E sortRuns' (λ_ st s=>arrOf st=c.ar (bN ks).toArray/\failedOf st=none/\s=c.s) (c.st ⟨Qd (Py ks.length),#[],7⟩) c.s:=by
 have h:=(QV (QV (kP (f:=λi j=>ltI (ks.getD i []) (ks.getD j [])) ks.length))).2 c;refine wpAny_mono h ?_ λ_ _ x=>x;rintro⟨a,st⟩ s ⟨-,X,N⟩;refine⟨?_,?_,N⟩
 .rw[X];unfold bN;rw[if_neg h2];rfl
 .rw[X];rfl
inductive fK(h:Heap):List Value->List (List Int)->Prop
 |nil:fK h [] []
 |cons{b:Addr}{o:Obj}{k:Nat}{xs:List Value}{ns:List Int}{vs:List Value}{ks:List (List Int)}(ho:h.get? b=some o)(hc:o.cls=.type "tuple")(hd:o.data=.seq xs.toArray k)(hi:IntsAre xs ns)(hn:ns≠[])(r:fK h vs ks):fK h (.ref b::vs) (ns::ks)
theorem fK.len{h:Heap}:∀{vs:List Value}{ks:List (List Int)},fK h vs ks->ks.length=vs.length
 |_,_,.nil=>rfl
 |_,_,.cons _ _ _ _ _ r=>congrArg (·+1) r.len
theorem fK.keep{h h':Heap}(k:∀b o,h.get? b=some o->o.cls=.type "tuple" -> h'.get? b=some o):∀{vs:List Value}{ks:List (List Int)},fK h vs ks->fK h' vs ks
 |_,_,.nil=>.nil
 |_,_,.cons ho hc hd hi hn r=>.cons (k _ _ ho hc) hc hd hi hn (r.keep k)
theorem fK.at{h:Heap}:∀{vs:List Value}{ks:List (List Int)}(i:Nat),fK h vs ks->i<ks.length->∃b o k xs,vs.getD i .none=.ref b/\h.get? b=some o/\o.data=.seq (Qd xs) k/\IntsAre xs (ks.getD i [])
 |_,_,_,.nil,h=>absurd h (Nat.not_lt_zero _)
 |_,_,0,.cons ho hc hd hi hn r,_=>⟨_,_,_,_,rfl,ho,hd,hi⟩
 |_,_,i+1,.cons ho hc hd hi hn r,h=>r.at i (Nat.lt_of_succ_lt_succ h)
theorem fK.N9{h:Heap}:∀{vs:List Value}{ks:List (List Int)},fK h vs ks->∃fs,KatTups h vs fs/\fs.length=vs.length/\∀v∈fs,∃x t,v=Sf x t
 |_,_,.nil=>⟨[],.nil,rfl,λ_ h=>nomatch h⟩
 |_,_,.cons ho hc hd hi hn r=>by
  obtain⟨fs,h1,h2,h3⟩:=r.N9;cases hi with
  |nil=>exact absurd rfl hn
  |cons x t hi=>
   refine⟨.int x t::fs,.cons ho hc hd rfl h1,congrArg (·+1) h2,λv u=>?_⟩;rcases Po.mp u with rfl|u
   .exact⟨x,t,rfl⟩
   .exact h3 v u
theorem t6{C:Bool->Shared->Prop}:∀{xs ys:List Value}{a b:List Int}(i:Nat),IntsAre xs a->IntsAre ys b->∀{fin:Bool},fin=decide (a.length<b.length)->C (ltI a b) s->KatLex prog w A true fin C (xs.zip ys) i s
 |_,_,_,_,_,.nil,.nil,_,e,h=>by subst e;exact h
 |_,_,_,_,_,.nil,.cons _ _ _,_,e,h=>by subst e;exact h
 |_,_,_,_,_,.cons _ _ _,.nil,_,e,h=>by subst e;exact h
 |_,_,_,_,i,.cons x t p,.cons y u q,_,e,h=>by
  refine kat_cons (wpAny_eqBool_int ?_);by_cases Y:x=y
  .have:(x==y)=true:=by rw[Y];exact beq_self_eq_true _
   rw[this];refine kat_yes (t6 (i+1) p q (by rw[e,Pl,Pl];simp) ?_);rw[ltI,if_pos Y] at h;exact h
  .have:(x==y)=false:=beq_eq_false_iff_ne.mpr Y;rw[this];rw[ltI,if_neg Y] at h;refine kat_no ?_;cases d:(true&&i==0) with
   |true=>exact oneLt_int h
   |false=>exact kat_one _ _ (lt_int h)
theorem y7(T:fK s.heap vs ks)(i j:Nat)(C:Bool->Shared->Prop)(hi:i<ks.length)(V:j<ks.length)(h:C (ltI (ks.getD i []) (ks.getD j [])) s):kas_cmp prog w A (tuples' true) (vs.toArray.zip vs.toArray) i j C s:=by
 have e:kas_cmp prog w A (tuples' true) (vs.toArray.zip vs.toArray) i j C s=kas_ask prog w A (tuples' true) vs i j C s:=by rw[kas_ask_eq];rfl
 rw[e];unfold kas_ask;obtain⟨b,o,k,xs,J,h1,h2,h3⟩:=T.at i hi;obtain⟨Q,o',k',ys,Y,H,q,x⟩:=T.at j V;rw[J,Y];refine kat_lt h1 h2 H q (t6 0 h3 x ?_ h);have G:∀{xs:List Value}{ns:List Int},IntsAre xs ns->xs.length=ns.length:=by
  intro xs ns h;induction h with
  |nil=>rfl
  |cons _ _ _ m=>rw[Pl,Pl,m]
 rw[O4,O4,G h3,G x]
theorem Kt(c:Cc f n)(p:List Nat)(e:c.it=vs.toArray.zip vs.toArray):(c.ar p.toArray).map (·.2)=Qd (p.map λi=>vs.getD i .none):=by
 unfold Cc.ar;rw[Array.map_map];simp only[List.map_toArray]
 congr 1
 apply Qx;intro i _;show (kas_item c.it i).2=_;rw[e,kat_item rfl]
theorem uQ{a:Addr}{n:Nat}{P:PySem.Fin->Shared->Prop}(ho:s.heap.get? a=some (seqObj "list" vs.toArray n))(T:fK s.heap vs ks)(hz:vs.length<=sizeLine)
  (h:P (.done (.ret .none)) { s with heap:=sortedHeap s.heap a vs (Qd ((bN ks).map λi=>vs.getD i .none)) }):wpAny (model prog w) A (Builtin.«list.sort» ⟨[.ref a],[]⟩) P E s:=by
 rw[list_sort_plain];have hl:=T.len;have B:((bN ks).map λi=>vs.getD i .none).length=vs.length:=by rw[O5,(fB ks).length_eq,Qv,hl]
 have ha:a<s.heap.objs.size:=Pj ho;refine wpAny_bind (listItems_at ho rfl ?_);refine wpAny_bind (listUpdate_at ho rfl ?_ (by rw[O4];exact hz) (Qm _));obtain⟨J,H⟩:∃J,(s.heap.update a (Rh λ_=>#[])).get? a=some (seqObj "list" #[] J):=⟨_,get?_update_seq ho (λ_=>#[])⟩
 refine wpAny_bind (seqEpoch_at H rfl ?_);refine wpAny_bind (wpAny_newTuple ?_ (by show vs.length<=_;exact hz));refine wpAny_bind (wpAny_newList ?_ (Qm _));refine wpAny_holding ?_;generalize r:((s.heap.update a (Rh λ_=>#[])).push (seqObj "tuple" vs.toArray 0)).push (seqObj "list" #[] 0)=h6;have Y:h6.get? a=some (seqObj "list" #[] J):=by rw[<-r,U8 _ _ _ (by rw[size_push',Vk];exact PD (Q5 ha)),U8 _ _ _ (by rw[Vk];exact PD ha)];exact H
 have g:fK h6 vs ks:=T.keep λb o e c=>by
  rw[<-r];refine O8 _ (O8 _ ?_);rw[Heap.get?_update_ne _ _ _ _ λz=>?_]
  .exact e
  .subst z;rw[ho] at e;cases e;exact absurd (show UK "list" = UK "tuple" from c) (by decide)
 show wpAny (model prog w) A _ P E { s with heap:=h6 };have h:P (.done (.ret .none)) { s with heap:=h6.update a (Rh λ_=>Qd ((bN ks).map λi=>vs.getD i .none)) }:=by rw[<-r];exact h
 dsimp only;by_cases h2:vs.toArray.size<2
 .rw[if_pos h2,if_pos h2];refine wpAny_bind (wpAny_pure ?_);rw[StateT.run_pure];refine wpAny_bind (wpAny_pure ?_);dsimp only;refine wpAny_bind (seqEpoch_at Y rfl ?_);refine wpAny_bind (listUpdate_at Y rfl ?_ (hsz2:=by rw[Vs];show (pairsOf vs).size<=_;rw[pairsOf_size];omega));simp only[bne_self_eq_false,Rc,if_false];have e:(arrOf (Q8 general' (vs.toArray.zip vs.toArray) #[] 7 none)).map (·.2)=Qd ((bN ks).map λi=>vs.getD i .none):=by rw[O4] at h2;unfold bN;rw[if_pos (by omega),hl];exact qi h2
  rw[<-e] at h;exact wpAny_pure h
 .rw[if_neg h2,if_neg h2];rw[O4] at h2;obtain⟨fs,k1,k2,k3⟩:=g.N9;refine wpAny_bind (kat_kind (T:=.type "int") k1 (by omega) (λv u=>?_) rfl ?_)
  .obtain⟨x,t,rfl⟩:=k3 v u;exact .now
  have R:=qX (ks:=ks) (by omega) ⟨prog,w,A,E,tuples' true,vs.toArray.zip vs.toArray,{ s with heap:=h6 },λi j C hi V hc=>y7 g i j C hi V hc⟩;have Q:∀c:Cc (λi j=>ltI (ks.getD i []) (ks.getD j [])) ks.length,c.κ=tuples' true->c.it=vs.toArray.zip vs.toArray->c.st ⟨Qd (Py ks.length),#[],7⟩=Q8 (tuples' true) (vs.toArray.zip vs.toArray) #[] 7 none:=by intro c hk hi;unfold Cc.st Cc.ar;rw[hk,hi];have:=kas_range (vs.toArray.zip vs.toArray);rw[show (vs.toArray.zip vs.toArray).size=ks.length by rw[hl];simp] at this;rw[this]
  rw[Q _ rfl rfl] at R;refine wpAny_bind (wpAny_mono R ?_ λ_ _ e=>e);rintro⟨⟨⟩,Z⟩ s' ⟨hp,hf,rfl⟩;dsimp only;have q:(arrOf Z).map (·.2)=Qd ((bN ks).map λi=>vs.getD i .none):=by rw[hp];exact Kt _ _ rfl
  refine wpAny_bind (seqEpoch_at Y rfl ?_);refine wpAny_bind (listUpdate_at Y rfl ?_ (hsz2:=by rw[q,O4,B];omega));rw[hf];simp only[bne_self_eq_false,Rc,if_false];rw[q];exact wpAny_pure h
end
variable{h:Heap}{Q:Option Value->Shared->Prop}
section
open PySem.Spec PyProof.Rows PySem.W PySem.Calls
variable{prog:Program}{w:World}{A:Around}{E:Value->Shared->Prop}{s:Shared}{d it:Addr}{es:Array DictEntry}{ep i:Nat}
def jB(h:Heap)(d:Addr)(es:Array DictEntry)(ep:Nat):Prop:=∃o,h.get? d=some o/\o.ExactDict/\o.data=.dict es ep
theorem jB.ty(x:jB s.heap d es ep):s.TypeIs (.ref d) "dict" := let ⟨o,ho,hc,_⟩:=x;⟨o,ho,hc.1⟩
theorem jB.lt(x:jB h d es ep):d<h.objs.size:=let ⟨_,ho,_⟩:=x;Pj ho
theorem jB.to{h':Heap}(x:jB h d es ep)(e:∀o,h.get? d=some o->h'.get? d=some o):jB h' d es ep:=let ⟨o,ho,r⟩:=x;⟨o,e _ ho,r⟩
theorem xb{Q:Value->Shared->Prop}(hd:(d==sysModules)=false)(hm:jB s.heap d es ep)
  (X:Q (.ref s.heap.objs.size) { s with heap:=s.heap.push { cls:=.type "dict_keyiterator",data:=.fields #[.ref d,.int 0 0,.int es.size 0,.int ep 0] } }):wpAny (model prog w) A (pyIter (.ref d)) Q E s:=by
 have K:=hm.ty;obtain⟨o,ho,hc,x⟩:=hm;refine wpAny_pyIter_slot K VI (wpAny_call_entry VI K F.entry_dict_iter ?_ (F.args_dict_iter_1 _));unfold Builtin.«dict.__iter__»;refine wpAny_bind ?_;unfold Wi;refine wpAny_bind (wpAny_notOrdered_dict K ?_);show wpAny _ _ (pure (PY d)) _ _ s;refine wpAny_pure ?_;show wpAny _ _ (Te d >>= _) _ _ s;unfold Te;rw[if_neg (by rw[hd];exact PL)];refine wpAny_bind (wpAny_pure (wpAny_bind (wpAny_dictEntries ho x (wpAny_bind (wpAny_dictEpoch ho x ?_)))));refine wpAny_bind (wpAny_newObj_type (wpAny_pure ⟨_,rfl, "dict_keyiterator",_,⟨_,Pu _ rfl,rfl⟩,Qy.lookup,?_⟩));simpa[rawInt] using X
theorem zh(b:s.heap.IsKeyIter it d i es.size ep)(hm:jB s.heap d es ep)(O:i<es.size)
  (X:∀h',h'.IsKeyIter it d (i+1) es.size ep->R6 it s.heap h'->Q (some es[i].key) { s with heap:=h' }):wpAny (model prog w) A (pyNext (.ref it)) Q E s:=by
 obtain⟨o,ho,hc,hd⟩:=id b;obtain⟨od,h,C,I⟩:=hm;unfold pyNext;refine wpAny_bind (wpAny_attempt (wpAny_callSpecial?_slot (name:=SX "__next__") b.typeIs Qy
  (wpAny_call_entry Qy b.typeIs TH ?_ (Tu _))))
 refine wpAny_bind (wpAny_pure (wpAny_bind (wpAny_bind ?_)));refine wpAny_bind (wpAny_typeNameOfWhole_keyiter b.typeIs (wpAny_pure (wpAny_bind (wpAny_fieldsOf ho hd ?_))));have Y:R7 "dict_keyiterator" = false:=by decide
 simp only[Y,Rc,if_false];show wpAny _ _ (if (PY d==Rt)=true then _ else _) _ _ s;rw[if_neg (show ¬ ((PY d==Rt)=true) from PL)];refine wpAny_bind (wpAny_pure (wpAny_bind (wpAny_dictEntries h I ?_)));rw[if_neg (by simp)];refine wpAny_bind (wpAny_pure (wpAny_bind (wpAny_dictEpoch h I ?_)));rw[if_neg (by simp)];refine wpAny_pure ?_;simp only[show ¬ ((i:Int)<0) from by omega,if_false,Qq,QG O];refine wpAny_bind ?_;refine wpAny_bind (wpAny_typeNameOfWhole_keyiter b.typeIs (wpAny_pure (wpAny_bind (wpAny_isOneOf_keyiter b.typeIs ?_))));show wpAny _ _ (setField (.ref it) 1 (rawInt ((i:Int)+1)) >>= _) _ _ s;refine wpAny_bind (wpAny_setField ho hd (by simp) ?_);have x:(s.heap.update it (VS (·.setIfInBounds 1 (rawInt ((i:Int)+1))))).IsKeyIter it d (i+1) es.size ep:=
  ⟨_,Um _ ho (Obj.isFreed_of_fields (U9 hd _)),(Obj.cls_mapFields ..).trans hc,by rw[U9 hd];simp[rawInt]⟩
 refine wpAny_bind (wpAny_holding (wpAny_bind (wpAny_isOneOf_keyiter (s:={ s with heap:=s.heap.update it (VS (·.setIfInBounds 1 (rawInt ((i:Int)+1)))) }) x.typeIs ?_)));show wpAny _ _ (pure es[i].key) _ _ _;exact wpAny_pure (wpAny_pure ⟨_,rfl,wpAny_pure (X _ x (Tv ..))⟩)
theorem Bv(V:A.handled=none)(x:s.heap.IsKeyIter it d es.size es.size ep)(hm:jB s.heap d es ep)(X:∀h',Heap.ExtBut it s.heap h'->Q none { s with heap:=h' }):wpAny (model prog w) A (pyNext (.ref it)) Q E s:=by
 obtain⟨o,ho,hc,hd⟩:=id x;obtain⟨od,h,C,I⟩:=hm;unfold pyNext;refine wpAny_bind (wpAny_attempt (wpAny_callSpecial?_slot (name:=SX "__next__") x.typeIs Qy
  (wpAny_call_entry Qy x.typeIs TH ?_ (Tu _))))
 refine wpAny_bind (wpAny_pure (wpAny_bind (wpAny_bind ?_)));refine wpAny_bind (wpAny_typeNameOfWhole_keyiter x.typeIs (wpAny_pure (wpAny_bind (wpAny_fieldsOf ho hd ?_))));have Y:R7 "dict_keyiterator" = false:=by decide
 simp only[Y,Rc,if_false];show wpAny _ _ (if (PY d==Rt)=true then _ else _) _ _ s;rw[if_neg (show ¬ ((PY d==Rt)=true) from PL)];refine wpAny_bind (wpAny_pure (wpAny_bind (wpAny_dictEntries h I ?_)));rw[if_neg (by simp)];refine wpAny_bind (wpAny_pure (wpAny_bind (wpAny_dictEpoch h I ?_)));rw[if_neg (by simp)];refine wpAny_pure ?_;simp only[show ¬ ((es.size:Int)<0) from by omega,if_false,Qq,R5 (Pf es.size)];refine wpAny_bind ?_;refine wpAny_bind (wpAny_typeNameOfWhole_keyiter x.typeIs (wpAny_pure ?_));show wpAny _ _ (setField (.ref it) 0 .none >>= _) _ _ s;refine wpAny_bind (wpAny_setField ho hd (by simp) ?_);show wpAny _ _ (newExc (.type "StopIteration") [] >>= _) _ _ _;refine wpAny_bind ?_;simp only[newExc,newTuple];refine wpAny_bind (wpAny_newObj_type ?_ (by size_fits));refine wpAny_bind (m:=firstArgMember _ _) (wpAny_of_eq (a:=Rt) (by first|rfl|(simp only[firstArgMember];rfl)) ?_);refine wpAny_newObj_type ?_ (by size_fits);simp only[raiseNew];refine wpAny_bind (wpAny_handled ?_);rw[show A.in1.handled=none from V];refine wpAny_bind (wpAny_pure (wpAny_throw ?_));refine wpAny_bind (wpAny_isInstance (T:= "StopIteration") (b:=true) ⟨_,Pu _ rfl,rfl⟩ isSubtype_stop ?_);exact wpAny_pure (X _ (((Tv ..).extBut.push _).push _))
theorem BH(lo:(d==sysModules)=false):KdlSrc prog w "dict" d d es.size (λi v=>∃e,es[i]?=some e/\v=e.key) (λh=>jB h d es ep) where
 type:=λ_ hm=>hm.ty
 there:=λ_ hm=>⟨hm.lt,hm.lt⟩
 keep:=λ_ _ hm hk=>hm.to λo e=>hk d (.inl rfl) o e
 notList:=by decide
 notTuple:=by decide
 hint:=λ_ _ _ _ hm B=>kdl_hint_dict hm.ty B
 iter:=λA s V hm=>⟨_,λi h=>h.IsKeyIter s.heap.objs.size d i es.size ep/\jB h d es ep,(λ_ _ B=>xb lo hm B),{
  sub:=λb K=>by simp at K;simp[K]
  frame:=λ_ _ _ st hk=>⟨st.1.at λo e=>hk _ (by simp) o e,st.2.to λo e=>hk d (by simp) o e⟩
  item:=λi s' Q E hi st X=>zh st.1 st.2 hi λh' x n=>X _ h' s'.toks ⟨es[i],by simp[hi],rfl⟩ ⟨x,st.2.to λo e=>n.extBut d o (PD hm.lt) e⟩ λb o K e=>n.extBut b o (λh=>K (by simp[h])) e
  done:=λs' Q E st X=>Bv V st.1 st.2 λh' H=>X h' s'.toks λb o K e=>H b o (λh=>K (by simp[h])) e
  self:=λ_ _ _ _ st X=>wpAny_pyIter_keyiter st.1 X },⟨⟨_,Pu _ rfl,rfl,rfl⟩,hm.to λo e=>O8 _ e⟩⟩
end
variable{xs:List (List Key×Addr×V)}{ys:List (List Key×Addr×Value)}{v:V}{u:Value}{pos:Pos}
section
variable{X:Cx}{E:XK}{pins:List (Addr×Obj)}{Y:St}{H:Hp}{s:Shared}{a b:Addr}
theorem Dw{P:Program}{w:World}{a:Addr}(z:xs.length<=sizeLine)(lo:(a==sysModules)=false)(r:DU xs ys)
  (d:∃o es ep,h.get? a=some o/\o.ExactDict/\o.data=.dict es ep/\es.toList=ys.map (entryOfKey (tupleKind (aO P w)))/\(ys.map (·.1)).Nodup):aL P w H h a (dX P w a xs):=by
 obtain⟨o,es,ep,h1,h2⟩:=d;refine⟨⟨z,lo,ys,r,o,es,ep,h1,h2⟩,⟨o,h1⟩,?_⟩;rintro b x ⟨z,lo,ys,r,o,es,ep,h1,h2⟩ k;exact⟨z,lo,ys,r,o,es,ep,k o h1,h2⟩
theorem zc{ks:List Key}(I:Inv X pins Y H s)(e:dz X.K H b (ks.map kV)):(tupleKind (aO X.prog X.w)).is s.heap ks b:=by obtain⟨O,r,⟨o,h1,h2,n,h3⟩,_⟩:=I.tuple e;exact⟨o,O.toArray,n,h1,h2,h3,by simpa using jh r⟩
theorem DU.keys(r:DU xs ys):ys.map (λy=>(y.1,y.2.1))=xs.map λx=>(x.1,x.2.1):=by
 induction r with
 |nil=>rfl
 |cons h _ m=>rw[Pg,Pg,m,h.1,h.2.1]
theorem J7(I:Inv X pins Y H s)(e:H a=some (dX X.prog X.w a xs))(hk:∀x∈xs,dz X.K H x.2.1 (x.1.map kV)):xs.length<=sizeLine/\(a==sysModules)=false /\
  ∃ys,DU xs ys/\s.heap.DictOfH (tupleKind (aO X.prog X.w)) a ys:=by
 obtain⟨⟨z,lo,ys,r,o,es,ep,h1,h2,h3,h4,h5⟩,_⟩:=(show aL X.prog X.w H s.heap a (dX X.prog X.w a xs) from I.hok a _ e)
 refine⟨z,lo,ys,r,o,es,ep,h1,h2,h3,h4,λy b=>?_,h5⟩;have m:(y.1,y.2.1)∈xs.map λx=>(x.1,x.2.1):=by rw[<-r.keys];exact PN.mpr ⟨y,b,rfl⟩
 obtain⟨x,L,e⟩:=PN.mp m;have:=zc I (hk x L);rw[(Sb e).1,(Sb e).2] at this;exact this
noncomputable def n9{j:Type}(xs:List (List Key×Addr×j))(k:List Key)(b:Addr)(v:j):List (List Key×Addr×j):=if (xs.any λx=>decide (x.1=k))=true then xs.map λx=>if x.1=k then (x.1,x.2.1,v) else x else xs++[(k,b,v)]
theorem DU.put(r:DU xs ys)(k:List Key)(rv:RelV v u):DU (n9 xs k b v) (storedH ys k b u):=by
 have e:(xs.any λx=>decide (x.1=k))=(atKey ys k).isSome:=by
  induction r with
  |nil=>rfl
  |@cons p q ps X h t m=>
   rw[Qt,m];by_cases z:p.1=k
   .have c:q.1=k:=h.1.symm.trans z;simp[atKey,Qi,z,c]
   .have c:¬ q.1=k:=λy=>z (h.1.trans y);simp[atKey,Qi,z,c]
 unfold n9 storedH;rw[e];by_cases q:(atKey ys k).isSome=true
 .rw[if_pos q,if_pos q];clear e q;induction r with
  |nil=>exact .nil
  |@cons p q ps X h t m=>
   rw[Pg,Pg];refine .cons ?_ m;unfold putAt;by_cases z:p.1=k
   .rw[if_pos z,if_pos (h.1.symm.trans z)];exact⟨h.1,h.2.1,rv⟩
   .rw[if_neg z,if_neg (λy=>z (h.1.trans y))];exact h
 .rw[if_neg q,if_neg q];exact Ud r ⟨rfl,rfl,rv⟩
theorem yg{j:Type}(xs:List (List Key×Addr×j))(k:List Key)(b:Addr)(v:j):(n9 xs k b v).length<=xs.length+1:=by
 unfold n9;split
 .rw[O5];omega
 .simp
def Er(X:Cx)(H:Hp)(a:Addr)(y v:V)(H':Hp):Prop:=∃xs k b,H a=some (dX X.prog X.w a xs)/\(∀x∈xs,dz X.K H x.2.1 (x.1.map kV))/\y=.ref b/\dz X.K H b (k.map kV)/\xs.length<sizeLine/\H'=upd H a (dX X.prog X.w a (n9 xs k b v))
theorem HE{A:Around}{E:Value->Shared->Prop}{y:V}{r:Value}{H':Hp}{Q:Unit->Shared->Prop}(f:A.units+1<cLine)(I:Inv X pins Y H s)(g:Er X H a y v H')(P:RelV y u)(rv:RelV v r)(h:∀s',Inv X pins Y H' s'->Q () s'):
  wpAny (model X.prog X.w) A (setItem (.ref a) u r) Q E s:=by
 obtain⟨xs,k,b,e,hk,rfl,eb,hl,rfl⟩:=g;cases (show u=PY b from P);obtain⟨z,hd,ys,rel,dd⟩:=J7 I e hk;have hz:ys.length<=sizeLine:=by rw[<-RO rel];exact z
 have J:(n9 xs k b v).length<=sizeLine:=by have:=yg xs k b v;omega
 refine wpAny_setItem_heap (hsz:=hz) (tupleKind_room_in1 f) (zc I eb) dd λh' x N=>h _ ?_;obtain⟨q,es,ep,B,h2,h3,h4,_,h5⟩:=x;exact oD I (by rw[e];exact SJ) N ⟨q,B⟩ (Dw J hd (rel.put k rv) ⟨q,es,ep,B,h2,h3,h4,h5⟩)
theorem ED:PE X (.Dict [] [] pos) (λ_ H Q=>∀p,H p=none->Q (.ref p) (upd H p (dX X.prog X.w p []))):=λpins s Y H Q I h=>
 wpAny_Dict_empty ⟨.ref s.heap.objs.size,_,I.laid (a:=s.heap.objs.size) (o:=dX X.prog X.w s.heap.objs.size []) (t':=s.toks) (λ_ _ q=>O8 _ q) (Pf _)
  (Dw (ys:=[]) (Qm _) (beq_eq_false_iff_ne.mpr (QM (PD I.big))) .nil ⟨_,#[],0,Pu _ rfl,⟨rfl,rfl,rfl⟩,rfl,rfl,List.nodup_nil⟩),rfl,h _ (I.hok.fresh (Pf _))⟩
noncomputable def Gk(X:Cx)(h ty q:TE):TS:=λD Y H=>q Y H λv i=>h Y i λx e=>ty Y e λy F=>∃a g,x=.ref a/\Er X F a y v g/\D.nx Y g
theorem yY{o i value:Expr}{b:Pos}{E ty q:TE}(f:X.A.units+1<cLine)(ho:PE X o E)(hi:PE X i ty)(B:PE X value q)(N:swapsWith value (some (.Subscript o i b)) pos.line X.env=pure false):
  PS X (.Assign [.Subscript o i b] value pos) (Gk X E ty q):=by
 intro pins s Y H D I h;refine wpAny_Assign_Subscript (ba (B pins s Y H _ I h) λr s1 ⟨v,n,j,rv,t⟩=>ba (ho pins s1 Y n _ j t) λu s2 ⟨x,e,V,Z,z⟩=>ba (hi pins s2 Y e _ V z) λp m ⟨y,F,O,P,a,Q,ex,g,L⟩=>?_) N;subst ex;obtain rfl:u=PY a:=Z;exact HE f O g P rv λT J=>⟨Y,Q,J,L⟩
inductive Aa(K:O2)(H:Hp):List Addr->List (List Int)->Prop
 |nil:Aa K H [] []
 |cons{b:Addr}{k:List Int}{bs:List Addr}{ks:List (List Int)}(e:dz K H b (k.map V.int))(r:Aa K H bs ks):Aa K H (b::bs) (k::ks)
def z7(X:Cx):List V->Hp->VK->Prop:=λus H Q=>∃(a:Addr)(xs:List (List Key×Addr×V))(ks:List (List Int)),us=[.ref a]/\H a=some (dX X.prog X.w a xs)/\Aa X.K H (xs.map λx=>x.2.1) ks/\xs.map (·.1)=ks.map (λk=>k.map Qz)/\(∀k∈ks,k≠[]) /\
 ∀r,H r=none->Q (.ref r) (upd H r (.lst ((bN ks).map λi=>((xs.map λx=>x.2.1).map V.ref).getD i .non)))
theorem iY:∀{k:List Int}{us:List Value},Vals (k.map V.int) us->Wj us k
 |[],_,.nil=>.nil
 |i::k,_,.cons h r=>by obtain⟨t,e⟩:=h;subst e;exact .cons i t (iY r)
theorem Aa.to(I:Inv X pins Y H s):∀{bs:List Addr}{ks:List (List Int)},Aa X.K H bs ks->(∀k∈ks,k≠[])->fK s.heap (bs.map PY) ks
 |_,_,.nil,_=>.nil
 |_,_,.cons e r,h=>by obtain⟨O,p,⟨o,ho,hc,n,hd⟩,_⟩:=I.tuple e;exact .cons ho hc hd (iY p) (h _ PK) (r.to I λk hk=>h k (Pa _ hk))
theorem mE:∀bs:List Addr,Vals (bs.map V.ref) (bs.map PY)
 |[]=>.nil
 |_::bs=>.cons rfl (mE bs)
open PySem.Spec PyProof.Rows PySem.W in
theorem mY(hc:X.calm=true):bE X (.builtin "sorted") (z7 X):=by
 intro pins s Y H vs us Q I rv h;obtain⟨a,xs,ks,rfl,hd,tk,G,r,q⟩:=h;obtain⟨u,rfl,F⟩:=rv.one;cases F;obtain⟨⟨hz,lo,ys,kt,o,es,ep,h1,h2,h3,h4,h5⟩,_⟩:=(show aL X.prog X.w H s.heap a (dX X.prog X.w a xs) from I.hok a _ hd)
 have T:=tk.to I r;have hsz:es.size=ys.length:=size_of_entries h4;have E:ys.length=xs.length:=(RO kt).symm;have c:ks.length=xs.length:=by have:=congrArg RQ G;simpa using this.symm
 refine RN kind_sorted plain_sorted entry_sorted (args_sorted1 _) ?_;unfold Builtin.«sorted»;refine wpAny_bind (m:=checkCount "sorted" 1 1 _) (wpAny_pure ?_);refine wpAny_bind (kdu_collect (A:=X.A.in1) (BH (es:=es) (ep:=ep) lo) (I.ok.hd hc) ⟨o,h1,h2,h3⟩ (by rw[hsz,E];exact hz) λh' U acc hk C=>?_);have ea:acc.toList=(xs.map λx=>x.2.1).map PY:=by
  have B:(xs.map λx=>x.2.1)=ys.map λy=>y.2.1:=by have:=congrArg (UI Prod.snd) kt.keys;rw[Qe,Qe] at this;exact this.symm
  rw[B];apply Rk;intro j;rw[Pq,Pq,Qc];cases k:acc[j]? with
  |none=>
   have:acc.size<=j:=by simpa using k
   rw[Rv (by rw[<-hsz,<-C.1];exact this)];rfl
  |some v=>
   obtain⟨e,t,rfl⟩:=C.2 j v k;rw[entry_at h4] at t;cases ex:ys[j]? with
   |none=>rw[ex] at t;cases t
   |some x=>rw[ex] at t;cases t;rfl
 have J:acc.toList.length=xs.length:=by rw[ea,O5,O5]
 refine wpAny_bind (wpAny_newList ?_ (by rw[J];exact hz));have g:(h'.push (seqObj "list" acc.toList.toArray 0)).get? h'.objs.size=some (seqObj "list" acc.toList.toArray 0):=Pu _ rfl;have O:fK (h'.push (seqObj "list" acc.toList.toArray 0)) acc.toList ks:=by rw[ea];exact T.keep λb o e _=>O8 _ (hk b o e)
 refine wpAny_bind (wpAny_holding (wpAny_call_entry slot_list_sort ⟨_,g,rfl⟩ entry_list_sort (uQ g O (by rw[J];exact hz) ⟨_,rfl,?_⟩) (args_list_sort _)));obtain⟨e,t⟩:=sortedHeap_at (vs:=acc.toList) (n:=0) (out:=Qd ((bN ks).map λi=>acc.toList.getD i .none)) g;have hf:∀b o,s.heap.get? b=some o->b≠h'.objs.size:=λb o z=>PD (Pj (hk b o z));refine wpAny_pure ⟨_,rfl,.ref _,_,I.xa (t':=U) (a:=h'.objs.size) (o:=.lst ((bN ks).map λi=>((xs.map λx=>x.2.1).map V.ref).getD i .non)) (λb o z=>?_) hf ⟨?_,(bN ks).map λi=>acc.toList.getD i .none,e,?_,t⟩,rfl,q _ (I.jS hf)⟩
 .rw[sortedHeap_old (hf b o z) (by rw[size_push'];exact Q5 (Pj (hk b o z)))];exact O8 _ (hk b o z)
 .rw[O5,(fB ks).length_eq,Qv,c];exact hz
 .rw[ea];exact Vals.pick (mE _) _
end
def sE:List A->Option (List Key)
 |[]=>some []
 |a::r=>match fO a,sE r with
  |some y,some ys=>some (y::ys)
  |_,_=>none
def Ga:A->Option (List Key)
 | .tup xs=>sE xs
 |_=>none
theorem wx{K:Kx}{G:Hp}:∀{vs:List V}{as:List A}{ys:List Key},bf K G vs as->sE as=some ys->vs=ys.map kV
 |_,_,_,.nil,h=>by cases h;rfl
 |_,_,_,.cons (a:=a) (as:=as) q r,h=>by
  unfold sE at h;cases J:fO a with
  |none=>simp only[J] at h;cases h
  |some y=>cases l:sE as with
   |none=>simp only[J,l] at h;cases h
   |some ys=>simp only[J,l] at h;cases h;rw[gL q J,wx r l];rfl
noncomputable def so(kvs:List (List Key×A))(y:List Key)(a:A):List (List Key×A):=if (kvs.any λx=>decide (x.1=y))=true then kvs.map λx=>if x.1=y then (x.1,a) else x else kvs++[(y,a)]
section
variable{k:Kx}{G:Hp}
theorem jE.len:∀{vs:List (List Key×Addr×V)}{as:List (List Key×A)},jE k G vs as->vs.length=as.length
 |_,_,.nil=>rfl
 |_,_,.cons _ _ r=>congrArg (·+1) r.len
theorem jE.any(y:List Key):∀{vs:List (List Key×Addr×V)}{as:List (List Key×A)},jE k G vs as->(vs.any λx=>decide (x.1=y))=as.any λx=>decide (x.1=y)
 |_,_,.nil=>rfl
 |_,_,.cons _ _ r=>by rw[Qt,Qt,r.any y]
theorem jE.qY{y:List Key}{v:V}{a:A}(h:RA k G v a):∀{vs:List (List Key×Addr×V)}{as:List (List Key×A)},jE k G vs as->jE k G (vs.map λx=>if x.1=y then (x.1,x.2.1,v) else x) (as.map λx=>if x.1=y then (x.1,a) else x)
 |_,_,.nil=>.nil
 |_,_,.cons (y:=z) e q r=>by
  rw[Pg,Pg];by_cases w:z=y
  .rw[if_pos w,if_pos w];exact .cons e h (r.qY h)
  .rw[if_neg w,if_neg w];exact .cons e q (r.qY h)
theorem jE.snoc{y:List Key}{b:Addr}{v:V}{a:A}(e:dz k.K G b (y.map kV))(h:RA k G v a):∀{vs:List (List Key×Addr×V)}{as:List (List Key×A)},jE k G vs as->jE k G (vs++[(y,b,v)]) (as++[(y,a)])
 |_,_,.nil=>.cons e h .nil
 |_,_,.cons e' q r=>.cons e' q (r.snoc e h)
theorem jE.put{y:List Key}{b:Addr}{a:A}(e:dz k.K G b (y.map kV))(h:RA k G v a){vs:List (List Key×Addr×V)}{as:List (List Key×A)}(r:jE k G vs as):jE k G (n9 vs y b v) (so as y a):=by
 unfold n9 so;rw[r.any y];by_cases q:(as.any λx=>decide (x.1=y))=true
 .rw[if_pos q,if_pos q];exact r.qY h
 .rw[if_neg q,if_neg q];exact r.snoc e h
theorem jE.sq:∀{vs:List (List Key×Addr×V)}{as:List (List Key×A)},jE k G vs as->∀x∈vs,dz k.K G x.2.1 (x.1.map kV)
 |_,_,.nil,_,h=>nomatch h
 |_,_,.cons e _ r,x,h=>by
  rcases Po.mp h with rfl|h
  .exact e
  .exact r.sq x h
end
variable{c:Cn}{Y B:St}{H:Hp}{Z θ:List Sl}
theorem eE.top{L:List Addr}{a:A}(b:eE c Y H Z (some v::B) (.fr a::θ) L):eE c Y H Z B θ L/\RA c.toKx (c.g H L) v a:=by
 obtain⟨nd,rel,own,fr,kp,lt,hd⟩:=b;have rel:aw c.toKx (c.g H L) H (some v::(B++Y)) (.fr a::(θ++Z)) L:=rel;cases rel with
 |cons h r=>cases h with
  |fr q=>exact⟨⟨nd,r,own,fr,kp,by simpa using lt,hd⟩,q⟩
def Co(Z:List Sl)(i:Nat):Bool:=match aC Z i with
 |some (.dit _)=>true
 |_=>false
theorem vg(h:Co Z i=true):∃xs,aC Z i=some (.dit xs):=by
 unfold Co at h;cases e:aC Z i with
 |none=>rw[e] at h;cases h
 |some o=>cases o with
  |dit xs=>exact⟨xs,rfl⟩
  |lst _=>rw[e] at h;cases h
  |dic _=>rw[e] at h;cases h
  |obj _ _=>rw[e] at h;cases h
variable{x:Str}{px:Pos}{e:Expr}
section
variable{X:Cx}{E:XK}
noncomputable def nA:Mi Rr:=λZ=>some (.ok (.nw (.dit [])),Z)
theorem yk{pos}:JE X E (.Dict [] [] pos) nA:=⟨PE.weaken ED λY H Q h=>by obtain⟨c,Z,B,θ,o,O,I,b,em,q⟩:=h;cases em;intro p hp;obtain⟨L,bl⟩:=b;refine q _ _ trivial (bl.gy hp λG H' sm V=>?_);rw[I];exact .dit V .nil⟩
def qr(i:Nat)(mk m:Mi Rr):Ms:=bz m λr I=>if Co I i then bz mk (λH=>λZ=>match aS r Z with
 |some (a,U)=>match res U H,aC U i with
  |some ka,some (.dit kvs)=>match Ga ka with
   |some y=>if kvs.length<=16000000 then some (.nx,setAt U i (.dit (so kvs y a))) else none
   |none=>none
  |_,_=>none
 | none=>none) I else none
theorem Bt{p1:Pos}{ek:Expr}{mk m:Mi Rr}(hu:X.A.units+1<cLine)(hN:X.N[i]?=some x)(hv:qy X.env.scope x)(hd:eG x)(hcd:t9 x)(hk:JE X E ek mk)(he:JE X E e m)
  (hs:swapsWith e (some (.Subscript (.Name x px) ek p1)) pos.line X.env=pure false:=by rfl):JS X E (.Assign [.Subscript (.Name x px) ek p1] e pos) (qr i mk m):=
 ⟨PS.weaken (yY hu (dq hN hv hd hcd) hk.p he.p hs) λD Y H h=>by
  obtain⟨c,Z,B,θ,f,O,ek,b,em,q⟩:=h;refine dH ek b em q λr v U H1 hv b1 em1=>?_;split at em1
  .rename_i hl;obtain⟨xs0,hl⟩:=vg hl;obtain⟨p,hp⟩:∃p,Y[i]?=some (some (.ref p)):=by obtain⟨L,bl⟩:=b1;obtain⟨p,h1,_⟩:=bl.live hl (.dit xs0) (.lst []);exact⟨p,h1⟩
   refine⟨_,hp,?_⟩;rcases a8 em1 with ⟨rk,Z0,e1,e2⟩|⟨ee,e1,e2⟩
   .refine⟨c,U,_,_,_,Z0,ek,b1,e1,λw H2 hw b2=>?_⟩;cases ef:aS r Z0 with
    |none=>simp only[ef] at e2;cases e2
    |some pr=>
     obtain⟨a,Z1⟩:=pr;simp only[ef] at e2;have b3:Bd c Y H2 Z1 (bp rk w (some v::B)) (bh rk (.fr a::θ.map Sl.fr)):=by obtain⟨g1,g2,g3⟩:=cc rk w (bp r v B) (bh r (θ.map Sl.fr));obtain⟨g4,g5,_⟩:=cc rk w (some v::B) (.fr a::θ.map Sl.fr);rw[g4,g5];rw[g1,g2] at b2;exact Bd.aS g3 b2 hv ef
     cases er:res Z1 rk with
     |none=>simp only[er] at e2;cases e2
     |some ka=>
      obtain⟨L,bl0,it⟩:=Bd.open b3 hw er;obtain⟨bl,ra⟩:=bl0.top;cases el:aC Z1 i with
      |none=>simp only[er,el] at e2;cases e2
      |some lo=>
       cases lo with
       |lst _=>simp only[er,el] at e2;cases e2
       |dic _=>simp only[er,el] at e2;cases e2
       |obj _ _=>simp only[er,el] at e2;cases e2
       |dit kvs=>
        simp only[er,el] at e2;cases ej:Ga ka with
        |none=>simp only[ej] at e2;cases e2
        |some y=>
         simp only[ej] at e2;split at e2
         .rename_i h100;cases e2;cases ka with
          |tup as=>
           obtain⟨b,vs,rfl,sq,rs⟩:=it.2.1 as rfl;have ev:=wx rs ej;subst ev;obtain⟨p',h1,h2,_⟩:=bl.live el (.dit kvs) (.lst []);rw[hp] at h1;cases h1;cases h2 with
           |dit e rr=>rename_i ws;obtain⟨p',h1,h2,h3⟩:=bl.live el (.dit (so kvs y a)) (dX c.P c.w p (n9 ws y b v));rw[hp] at h1;cases h1;have eP:c.P=X.prog:=congrArg Kx.P ek;have ew:c.w=X.w:=congrArg Kx.w ek;have eK:c.K=X.K:=congrArg Kx.K ek;have rr':=(rr.sm (g_same c H2 L)).sq;have sq':=cu (g_same c H2 L) sq;rw[eK] at rr' sq';rw[eP,ew] at e h3;refine⟨p,_,rfl,⟨ws,y,b,e,rr',rfl,sq',by have:=rr.len;rw[sizeLine_eq];omega,rfl⟩,q Y _ (h3 λH' hh=>?_)⟩;rw[<-eP,<-ew] at hh;exact .dit hh (rr.put sq ra)
          |_=>cases ej
         .cases e2
   .subst e2;exact⟨c,U,_,_,_,O,ek,b1,e1,λC H2 hm b2=>q C Y H2 hm b2.drop⟩
  .cases em1⟩
end
noncomputable def jw:List Key->Option (List Int)
 |[]=>some []
 | .inl i::r=>match jw r with
  |some is=>some (i::is)
  |none=>none
 | .inr _::_=>none
theorem pX:∀{ys:List Key}{is:List Int},jw ys=some is->ys=is.map Qz
 |[],_,h=>by cases h;rfl
 | .inl i::r,_,h=>by
  unfold jw at h;cases e:jw r with
  |none=>rw[e] at h;cases h
  |some b=>rw[e] at h;cases h;rw[pX e];rfl
 | .inr _::_,_,h=>by cases h
def gB:List (List Key×A)->Option (List (List Int))
 |[]=>some []
 |kv::r=>match jw kv.1,gB r with
  |some i,some is=>some (i::is)
  |_,_=>none
noncomputable def tupI(k:List Int):A:=.tup (k.map A.int)
def iW(i:Nat):Mi Rr:=λZ=>match aC Z i with
 |some (.dit kvs)=>match gB kvs with
  |some ks=>if (ks.all λk=>!k.isEmpty)=true then some (.ok (.nw (.lst ((bN ks).map λj=>(ks.map tupI).getD j .non))),Z) else none
  |none=>none
 |_=>none
section
variable{k:Kx}{G:Hp}
theorem tR:∀{is:List Int}{vs:List V},vs=is.map V.int->bf k G vs (is.map A.int)
 |[],_,rfl=>.nil
 |_::_,_,rfl=>.cons (.int _) (tR rfl)
theorem jE.ints:∀{vs:List (List Key×Addr×V)}{as:List (List Key×A)}{ks:List (List Int)},jE k G vs as->gB as=some ks->Aa k.K G (vs.map λx=>x.2.1) ks/\vs.map (·.1)=ks.map (λk=>k.map Qz)/\bf k G ((vs.map λx=>x.2.1).map V.ref) (ks.map tupI)
 |_,_,_,.nil,h=>by cases h;exact⟨.nil,rfl,.nil⟩
 |_,_,_,.cons (y:=y) (b:=b) (as:=as) e q r,h=>by
  unfold gB at h;cases J:jw y with
  |none=>simp only[J] at h;cases h
  |some i=>cases l:gB as with
   |none=>simp only[J,l] at h;cases h
   |some is=>
    simp only[J,l] at h;cases h;obtain⟨h1,h2,h3⟩:=r.ints l;have F:=pX J;subst F;have e':dz k.K G b (i.map V.int):=by rw[Qe] at e;exact e
    exact⟨.cons e' h1,by rw[Pg,Pg,h2],.cons (.tup e' (tR rfl)) h3⟩
theorem Aa.sm{K:O2}{G G':Hp}(s:Sq G G'):∀{bs:List Addr}{ks:List (List Int)},Aa K G bs ks->Aa K G' bs ks
 |_,_,.nil=>.nil
 |_,_,.cons e r=>.cons (cu s e) (r.sm s)
end
section
variable{X:Cx}{E:XK}
theorem yc{y:Str}{p:Pos}(hc:X.calm=true)(hN:X.N[i]?=some y)(hv:qy X.env.scope y)(hd:eG y)(hcd:t9 y)(hg:Gl X x)(hm:X.mg x=none)(hb:bootBuiltins x=some (.builtin "sorted"))(hn:x ≠ "__name__")
  (hdb:eG x)(hs:starEach [.Name y px] X.env=(false,eval (.Name y px) X.env)::starEach [] X.env:=by rfl)(hp:(backTo pos (starEach [] X.env)).any (·.1)=false:=by rfl):JE X E (.Call (.Name x p) [.Name y px] [] pos) (iW i):=
 ⟨PE.weaken (iO (mY hc) hg hm hb (bA (dq hN hv hd hcd) cS hs) hn hdb hs hp) λY H Q h=>by
  obtain⟨c,Z,B,θ,o,O,ek,b,em,q⟩:=h;unfold iW at em;cases el:aC Z i with
  |none=>simp only[el] at em;cases em
  |some lo=>
   cases lo with
   |lst _=>simp only[el] at em;cases em
   |dic _=>simp only[el] at em;cases em
   |obj _ _=>simp only[el] at em;cases em
   |dit kvs=>
    simp only[el] at em;cases e1:gB kvs with
    |none=>simp only[e1] at em;cases em
    |some ks=>
     simp only[e1] at em;split at em
     .rename_i hne;cases em;obtain⟨L,bl⟩:=b;obtain⟨p,h1,h2,_⟩:=bl.live el (.dit kvs) (.lst []);cases h2 with
      |dit e rr=>rename_i ws;obtain⟨t1,t2,t3⟩:=rr.ints e1;have eP:c.P=X.prog:=congrArg Kx.P ek;have ew:c.w=X.w:=congrArg Kx.w ek;have eK:c.K=X.K:=congrArg Kx.K ek;have t1:=t1.sm (g_same c H L);rw[eK] at t1;rw[eP,ew] at e;refine⟨_,h1,p,ws,ks,rfl,e,t1,t2,λk hk z=>?_,λr hr=>q _ _ trivial (bl.gy hr λG H' sm hh=>.lst hh ((t3.sm sm).pick _))⟩;have:=PZ.mp hne k hk;rw[z] at this;cases this
     .cases em⟩
end
noncomputable def gA:List A->Option (List Int)
 |[]=>some []
 | .int i::r=>match gA r with
  |some is=>some (i::is)
  |none=>none
 |_::_=>none
theorem ot{K:Kx}{G:Hp}:∀{as:List A}{vs:List V}{is:List Int},bf K G vs as->gA as=some is->vs=is.map V.int
 |[],_,_,.nil,h=>by cases h;rfl
 |a::as,_,_,.cons q r,h=>by
  cases a<;>first|(cases h;done)|skip
  unfold gA at h;cases e:gA as with
  |none=>simp only[e] at h;cases h
  |some b=>simp only[e] at h;cases h;cases q;rw[ot r e];rfl
noncomputable def mZ(ns:List Int):Int:=ns.getD (argBest (λi j=>decide (ns.getD i 0<ns.getD j 0)) (ns.length-1)) 0
noncomputable def Ai:List Int->Int->Option Nat
 |[],_=>none
 |a::r,i=>if a=i then some 0 else (Ai r i).map (·+1)
theorem j5:∀{ns:List Int}{us:List Value},Vals (ns.map V.int) us->∃xs:List (Int×Tok),us.toArray=intItems xs.toArray/\xs.map (·.1)=ns
 |[],_,.nil=>⟨[],by simp[intItems],rfl⟩
 |n::ns,_,.cons h r=>by obtain⟨t,rfl⟩:=h;obtain⟨xs,h1,h2⟩:=j5 r;refine⟨(n,t)::xs,?_,by rw[Pg,h2]⟩;have h1:_=_:=congrArg T8 h1;apply RZ.mp;simp[intItems] at h1 ⊢;exact h1
variable{K:Kx}{apos cpos:Pos}
section
variable{X:Cx}{E:XK}
def D4(K:O2):List V->Hp->VK->Prop:=λus H Q=>∃(a:Addr)(ns:List Int),us=[.ref a]/\dz K H a (ns.map V.int)/\ns≠[]/\Q (.int (mZ ns)) H
theorem uI(hc:X.calm=true):bE X (.builtin "min") (D4 X.K):=by
 intro pins s Y H vs us Q I rv h;obtain⟨a,ns,rfl,B,z,q⟩:=h;obtain⟨u,rfl,g⟩:=rv.one;cases g;obtain⟨n,r,p,hz⟩:=I.tuple B;obtain⟨xs,J,l⟩:=j5 r;rw[J] at p;have E:s.heap.IsTuple a (intItems xs.toArray):=p;have O:a<s.heap.objs.size:=p.lt;have hsz:xs.length=ns.length:=by rw[<-l,O5]
 have x:0<ns.length:=UQ.mpr z;refine call_min_walk (wpAny_pyIter_tuple E ?_);refine⟨_,[_,a],[_],_,_,_,_,rfl,Walks.tuple (A:=X.A.in1) (I.ok.hd hc) _ a (PD O) (intItems xs.toArray),
  ⟨⟨_,Pu _ rfl,rfl,rfl⟩,E.push _⟩,λc hc=>?_,by simp[intItems,hsz,x],CmpOf.ints_lt (numAt xs.toArray) (λ_ _=>intItems_at),λv h' tk C hk=>?_⟩
 .show c<(s.heap.push _).objs.size;rw[Vx];rcases Po.mp hc with rfl|hc
  .exact S9 _
  .rcases Po.mp hc with rfl|hc
   .exact Q5 O
   .cases hc
 .have b:∀c o,s.heap.get? c=some o->h'.get? c=some o:=λc o e=>by
   refine hk c o (λhm=>?_) (O8 _ e);rcases Po.mp hm with J|hm
   .have:=Pj e;rw[J] at this;exact Qa _ this
   .cases hm
  have en:numAt xs.toArray=λi=>ns.getD i 0:=funext λi=>by rw[<-l];unfold numAt;rw[Uw,Sh,Pq]
  have P:∃t,v=.int (mZ ns) t:=by obtain⟨t,j⟩:=intItems_at C;refine⟨t,?_⟩;rw[j,en];unfold mZ;simp[intItems,hsz]
  obtain⟨t,rfl⟩:=P;exact⟨.int (mZ ns),H,I.kept b,⟨t,rfl⟩,q⟩
def kD:A->Option Rr
 | .tup as=>match gA as with
  |some ns=>if ns=[] then none else some (.fr (.int (mZ ns)))
  |none=>none
 |_=>none
theorem AG:lD K (λv=>D4 K.K [v]) kD:=.scalar λH v a q S h=>by
 cases a<;>first|(cases h;done)|skip
 rename_i as;cases S with
 |tup e r=>
  unfold kD at h;simp only at h;cases J:gA as with
  |none=>simp only[J] at h;cases h
  |some ns=>
   simp only[J] at h;split at h
   .cases h
   .rename_i hn;cases h;have I:=ot r J;subst I;exact⟨_,_,rfl,λ_=>.int _,λQ k=>⟨_,ns,rfl,e,hn,k⟩⟩
def wM(K:O2):V->List V->Hp->VK->Prop:=λx us H Q=>∃(a:Addr)(ns:List Int)(i:Int)(j:Nat),x=.ref a/\us=[.int i]/\dz K H a (ns.map V.int)/\Ai ns i=some j/\Q (.int j) H
open PySem.Builtin PyProof.Rows PySem.W in
theorem Gf:K9 X "tuple.index" (wM X.K):=by
 intro pins s Y H x vs v us Q I E rv h;obtain⟨a,ns,i,j,rfl,rfl,B,z,q⟩:=h;cases E;obtain⟨u,rfl,g⟩:=rv.one;obtain⟨t,rfl⟩:=g;obtain⟨O,r,p,hz⟩:=I.tuple B;have hi:=iY r;obtain⟨o,ho,hc,n,hd⟩:=id p;refine wpAny_call_entry Tw ⟨o,ho,hc⟩ PySem.F.entry_tuple_index ?_ (PySem.F.args_tuple_index_2 _ _);unfold Builtin.«tuple.index»;refine wpAny_bind (wpAny_of_eq (show selfAndSome "tuple.index" "index" 1 3 { pos:=[PY a,Sf i t] }=pure (PY a,[Sf i t]) from rfl) ?_);dsimp only;refine wpAny_bind (tupleItemsOf_ p ?_);refine wpAny_bind (wpAny_pure (wpAny_bind (wpAny_pure (wpAny_bind ?_))));rw[VA];have hsz:([0:Min.min O.toArray.size O.toArray.size]:Ui).size=O.length:=by simp[VB]
 show wpAny _ _ (forIn (UH 0 ([0:Min.min O.toArray.size O.toArray.size]:Ui).size 1) _ _) _ _ _;rw[hsz];have A:∀{O:List Value}{ns:List Int},IntsAre O ns->∀m c,Ai (ns.drop m) i=some c->∃y t',O[m]?=some (.int y t')/\(ns.drop m)=y::ns.drop (m+1):=by
  intro O ns h;induction h with
  |nil=>intro m c e;simp[Ai] at e
  |cons y t' h U=>
   intro m c e;cases m with
   |zero=>exact⟨y,t',rfl,rfl⟩
   |succ m=>exact U m c e
 refine wpAny_forIn_list _ (λrest b s'=>b=(none,())/\s'=s/\∃m c,rest=UH m (O.length-m)/\Ai (ns.drop m) i=some c/\m+c=j) _ ?_ ?_ _ _ ⟨rfl,rfl,0,j,rfl,z,by omega⟩
 .rintro x rest b s' ⟨rfl,rfl,m,c,J,l,T⟩;obtain⟨y,t',V,R⟩:=A hi m c l;have hm:m<O.length:=by have:=(O6.mp V).1;exact this
  rw[show O.length-m=(O.length-(m+1))+1 by omega,S7] at J;obtain⟨rfl,rfl⟩:=UY J;rw[Uw,V];dsimp only;refine wpAny_bind (wpAny_eqBool_int ?_);rw[R,Ai] at l;by_cases w:y=i
  .rw[if_pos w] at l;cases l;have:(y==i)=true:=by rw[w];exact beq_self_eq_true _
   rw[this,if_pos rfl];unfold retInt;refine wpAny_bind (wpAny_bind (wpAny_mkInt (wpAny_pure (wpAny_pure ?_))));refine wpAny_pure ⟨_,rfl,.int j,H,I.tok _,?_,q⟩;obtain rfl:j=x:=by omega
   exact⟨_,rfl⟩
  .rw[if_neg w] at l;have:(y==i)=false:=beq_eq_false_iff_ne.mpr w;rw[this,if_neg (by simp)];refine wpAny_pure ?_;obtain⟨k,h1,h2⟩:=T2.mp l;exact⟨rfl,rfl,x+1,k,rfl,h1,by omega⟩
 .rintro b s' ⟨rfl,rfl,m,c,J,l,T⟩;obtain⟨y,t',V,R⟩:=A hi m c l;have hm:m<O.length:=(O6.mp V).1;have:=congrArg RQ J;simp at this;omega
theorem Iq{o:Expr}{to:TE}{t:TA}{name:Str}{id:String}{r:V->List V->Hp->VK->Prop}(pa:PlainAttrs "tuple")(slot:Slot "tuple" name id)(w:typeOf (.builtin id)=pure (.type "method_descriptor"))(hm:K9 X id r)(ho:PE X o to)(ha:PA X [e] t)
  (q:attributeBase o name X.env (eval o X.env)=eval o X.env)(c:((backTo cpos (starEach [e] X.env)).all (λx=>!x.1)&&(backToKw cpos (keywordEach [] X.env)).all (λx=>x.1.isSome)&&decide (([e]:List Expr).length+([]:List Keyword).length+(if ([]:List Keyword).isEmpty then 0 else 1)<30))=true)
  (A:(apos.endLine==cpos.line)=true)(N:starEach [e] X.env=(false,eval e X.env)::starEach [] X.env)(b:(backTo cpos (starEach [] X.env)).any (·.1)=false):
  PE X (.Call (.Attribute o name apos) [e] [] cpos) (λY H Q=>to Y H λx i=>(∃p vs,x=.ref p/\dz X.K i p vs)/\t Y i λxs D=>r x xs D Q):=by
 intro pins s Y H Q I h;refine wpAny_Call_method_late q c A rfl (ba (ho pins s Y H _ I h) λv s1 ⟨x,i,j,S,ty,U⟩=>?_);obtain⟨p,vs,rfl,sq⟩:=ty;cases (show v=PY p from S);obtain⟨O,_,⟨ob,z,k,n,R,y⟩,_⟩:=j.E8 sq;refine⟨"tuple",id,pa,slot,w,⟨ob,z,k⟩,λa e=>by cases e;exact⟨ob,z,y⟩,?_⟩;have E:=ha cpos pins s1 Y i _ j U;rw[N] at E ⊢;refine Ri (by show (false || (backTo cpos (starEach [] X.env)).any (·.1))=false;rw[b]<;>rfl) (RB ?_);exact ba E λus s2 ⟨vs,D,g,C,Z⟩=>hm pins s2 Y D _ vs _ us Q g S C Z
def IK(a b:A):Option Rr:=match a,b with
 | .tup as,.int i=>match gA as with
  |some ns=>match Ai ns i with
   |some j=>some (.fr (.int (j:Int)))
   |none=>none
  |none=>none
 |_,_=>none
theorem E9:eB K (λv w=>wM K.K v [w]) IK:=.scalar λH v w a d q S p h=>by
 cases a<;>first|(cases h;done)|skip
 cases d<;>first|(cases h;done)|skip
 rename_i as i;cases p;cases S with
 |tup e r=>
  unfold IK at h;simp only at h;cases J:gA as with
  |none=>simp only[J] at h;cases h
  |some ns=>
   simp only[J] at h;cases l:Ai ns i with
   |none=>simp only[l] at h;cases h
   |some j=>simp only[l] at h;cases h;have I:=ot r J;subst I;exact⟨_,_,rfl,λ_=>.int _,λQ k=>⟨_,ns,i,j,rfl,rfl,e,l,k⟩⟩
noncomputable def Jz:A->Bool
 | .tup _=>true
 |_=>false
def yZ(Y m:Mi Rr):Mi Rr:=aB Y λx I=>match res I x with
 | some a0=>if Jz a0=true then aB m (λy Z=>match res Z x,res Z y with
  |some a,some b=>match IK a b with
   |some q=>some (.ok q,Z)
   |none=>none
  | _,_=>none) I else none
 |none=>none
theorem Gr{o:Expr}{mo m:Mi Rr}(ho:JE X E o mo)(he:JE X E e m)
  (hbase:attributeBase o "index" X.env (eval o X.env)=eval o X.env:=by rfl)(hfew:((backTo cpos (starEach [e] X.env)).all (λx=>!x.1)&&(backToKw cpos (keywordEach [] X.env)).all (λx=>x.1.isSome)&&decide (([e]:List Expr).length+([]:List Keyword).length+(if ([]:List Keyword).isEmpty then 0 else 1)<30))=true:=by rfl)
  (hline:(apos.endLine==cpos.line)=true:=by rfl)(hs:starEach [e] X.env=(false,eval e X.env)::starEach [] X.env:=by rfl)(hplain:(backTo cpos (starEach [] X.env)).any (·.1)=false:=by rfl):JE X E (.Call (.Attribute o "index" apos) [e] [] cpos) (yZ mo m):=
 ⟨PE.weaken (Iq PySem.F.plainAttrs_tuple Tw PySem.F.type_tuple_index Gf ho.p (bA he.p cS hs) hbase hfew hline hs hplain) λY H Q h=>by
  obtain⟨c,Z,B,θ,oo,O,ek,b,em,q⟩:=h;refine aJ ek b em (λx v U H1 hv b1 em1=>?_) (aH q);cases e0:res U x with
  |none=>simp only[e0] at em1;cases em1
  |some a0=>
   simp only[e0] at em1;split at em1
   .rename_i ht;cases a0<;>first|(cases ht;done)|skip
    have r0:=Bd.rd b1 hv e0;rw[ek] at r0;cases r0 with
    |tup sq0 _=>refine⟨⟨_,_,rfl,sq0⟩,?_⟩;refine aJ ek b1 em1 (λy w Z0 H2 hw b2 em2=>?_) (cM (aH q));obtain⟨a,d,r,e1,e2,e3,rfl,rfl⟩:=ui em2;exact E9 c Y H2 _ B θ x y _ w a d r Q ek hv hw b2 e1 e2 e3 q
   .cases em1⟩
end
variable{us:List Value}
section
variable{X:Cx}{E:XK}{pins:List (Addr×Obj)}{Y:St}{H:Hp}{s:Shared}
def Hs(K:O2)(neg:Bool):R2:=λx y H Q=>∃p xs d ds,y=.ref p/\eX K H p xs/\Den K H x d/\dw K H xs ds/\(∀e∈ds,D.depth e<=40)/\Q (.bl (if neg then !(ds.any λe=>D.eq e d) else ds.any λe=>D.eq e d)) H
open Classical in
def eW(us:List Value)(ds:List D)(d:D)(w:Value):Bool:=(us.zip ds).any λp=>decide (p.1=w)&&D.eq p.2 d
theorem zz(I:Inv X pins Y H s){A:Around}{x:V}{d:D}{v:Value}(f:A.units+40<cLine)(L:Den X.K H x d)(a:RelV x v):∀{xs:List V}{us:List Value}{ds:List D},dw X.K H xs ds->Vals xs us->(∀e∈ds,D.depth e<=40)->
  ∀p∈us.zip ds,Ru A s p.1 v (D.eq p.2 d)
 |_,_,_,.nil,.nil,_,u,hm=>nomatch hm
 |_,_,_,.cons h t,.cons r q,hd,u,hm=>by
  rcases Po.mp hm with rfl|hm
  .exact fQ I 40 f (hd _ PK) h L r a
  .exact zz I f L a t q (λe R=>hd e (Pa _ R)) u hm
theorem D5(I:Inv X pins Y H s){A:Around}{x:V}{d:D}{v:Value}(f:A.units+40<cLine)(L:Den X.K H x d)(a:RelV x v){xs:List V}{ds:List D}(h:dw X.K H xs ds)(r:Vals xs us)(hd:∀e∈ds,D.depth e<=40):
  ∀u∈us,Ru A s u v (eW us ds d u):=by
 intro u hm;have z:=zz I f L a h r hd;cases eb:eW us ds d u with
 |true=>obtain⟨p,hp,B⟩:=QQ.mp eb;rw[O3,decide_eq_true_iff] at B;have:=z p hp;rw[B.1,B.2] at this;exact this
 |false=>
  obtain⟨i,hi,rfl⟩:=So hm;have hl:us.length=ds.length:=by rw[<-r.length,h.len]
  have hp:(us[i],ds[i]'(by omega))∈us.zip ds:=by rw[<-Vl (h:=by simp;omega)];exact QD _
  have:=z _ hp;have hf:=RP.mp eb _ hp;simp only[decide_true,Bool.true_and,Bool.not_eq_true] at hf;rw[hf] at this;exact this
theorem xQ{ds:List D}{d:D}(hl:us.length=ds.length):us.any (eW us ds d)=ds.any λe=>D.eq e d:=by
 rw[RD,QQ,QQ];constructor
 .rintro⟨u,_,h⟩;obtain⟨p,hp,B⟩:=QQ.mp h;rw[O3] at B;exact⟨p.2,(R8 hp).2,B.2⟩
 .rintro⟨e,t,h⟩;obtain⟨i,hi,rfl⟩:=So t;have hp:(us[i]'(by omega),ds[i])∈us.zip ds:=by rw[<-Vl (h:=by simp;omega)];exact QD _
  exact⟨us[i]'(by omega),QD _,QQ.mpr ⟨_,hp,by simp[h]⟩⟩
theorem vQ(f:X.A.units+64<cLine):cP X (compareOp .In) (Hs X.K false):=by intro pins s Y H x y v u Q I a P h;obtain⟨p,xs,d,ds,rfl,B,dx,dd,hd,q⟩:=h;cases P;obtain⟨O,r,g,hz⟩:=I.list B;refine Vc (eW O ds d) g.isList (λw G=>D5 I (by have:X.A.in1.units=X.A.units+1:=rfl;omega) dx a dd r hd w (by simpa using G)) ⟨.bl _,H,I,rfl,?_⟩;rw[show O.toArray.any (eW O ds d)=O.any (eW O ds d) by simp,xQ (by rw[<-r.length,dd.len])];exact q
theorem lO(f:X.A.units+64<cLine):cP X (compareOp .NotIn) (Hs X.K true):=by intro pins s Y H x y v u Q I a P h;obtain⟨p,xs,d,ds,rfl,B,dx,dd,hd,q⟩:=h;cases P;obtain⟨O,r,g,hz⟩:=I.list B;refine UM (eW O ds d) g.isList (λw G=>D5 I (by have:X.A.in1.units=X.A.units+1:=rfl;omega) dx a dd r hd w (by simpa using G)) ⟨.bl _,H,I,rfl,?_⟩;rw[show O.toArray.any (eW O ds d)=O.any (eW O ds d) by simp,xQ (by rw[<-r.length,dd.len])];exact q
def gu(neg:Bool):A->A->Option Rr
 |x,.lst xs=>match toD x,cx xs with
  |some d,some ds=>if (ds.all λe=>decide (D.depth e<=40))=true then some (.fr (.bl (if neg then !(ds.any λe=>D.eq e d) else ds.any λe=>D.eq e d))) else none
  |_,_=>none
 |_,_=>none
theorem n8{neg:Bool}:eB K (Hs K.K neg) (gu neg):=.scalar λH v w a b q S p h=>by
 cases b<;>first|(cases h;done)|skip
 rename_i xs;cases p with
 |lst e r=>
  unfold gu at h;simp only at h;cases J:toD a with
  |none=>simp only[J] at h;cases h
  |some d=>cases l:cx xs with
   |none=>simp only[J,l] at h;cases h
   |some ds=>
    simp only[J,l] at h;split at h
    .rename_i hd;cases h;exact⟨_,_,rfl,λ_=>.bl _,λQ k=>⟨_,_,d,ds,rfl,e,iT S J,jR r l,λe t=>of_decide_eq_true (PZ.mp hd e t),k⟩⟩
    .cases h
variable{a b:Expr}{ma mb:Mi Rr}{pos:Pos}
theorem FZ(f:X.A.units+1<cLine)(h2:X.A.units+64<cLine)(ha:JE X E a ma)(d:JE X E b mb)(hm:behindInMarks .In b=false):JE X E (.Compare a [.In] [b] pos) (av (bI (bI (bI (fP false) (dm false)) (iV false)) (gu false)) ma mb):=cB (G3 f ha d hm) (cq (vQ h2) n8 ha d hm)
theorem EY(f:X.A.units+1<cLine)(h2:X.A.units+64<cLine)(ha:JE X E a ma)(d:JE X E b mb)(hm:behindInMarks .In b=false):JT X E (.Compare a [.In] [b] pos) (aq (av (bI (bI (bI (fP false) (dm false)) (iV false)) (gu false)) ma mb)):=c4 (Hk f ha d hm) (ck (vQ h2) n8 ha d hm)
theorem CK(f:X.A.units+1<cLine)(h2:X.A.units+64<cLine)(ha:JE X E a ma)(d:JE X E b mb)(hm:behindInMarks .NotIn b=false):JE X E (.Compare a [.NotIn] [b] pos) (av (bI (bI (bI (fP true) (dm true)) (iV true)) (gu true)) ma mb):=cB (BF f ha d hm) (cq (lO h2) n8 ha d hm)
theorem Ck(f:X.A.units+1<cLine)(h2:X.A.units+64<cLine)(ha:JE X E a ma)(d:JE X E b mb)(hm:behindInMarks .NotIn b=false):JT X E (.Compare a [.NotIn] [b] pos) (aq (av (bI (bI (bI (fP true) (dm true)) (iV true)) (gu true)) ma mb)):=c4 (BI f ha d hm) (ck (lO h2) n8 ha d hm)
end
variable{r:Rr}{rs:List Rr}{O:List Sl}
section
variable{c:Cn}{Y:St}{H:Hp}{Z:List Sl}{B:St}{θ:List Sl}
def gI:Rr->List Sl->Option (Sl×List Sl)
 | .fr a,Z=>some (.fr a,Z)
 | .nw o,Z=>some (.lv o,Z)
 | .rf i,Z=>match Z[i]? with
  |some (.lv o)=>some (.lv o,Z.set i .un)
  |some (.pv o)=>some (.lv o,Z.set i .un)
  |some (.fr a)=>some (.fr a,Z)
  |_=>none
def cQ:List Rr->List Sl->Option (List Sl×List Sl)
 |[],Z=>some ([],Z)
 |r::rs,Z=>match gI r Z with
  |some (a,U)=>match cQ rs U with
   |some (as,Z0)=>some (a::as,Z0)
   |none=>none
  |none=>none
theorem qC{as:List Sl}(h:cQ (r::rs) Z=some (as,O)):∃a H U,gI r Z=some (a,U)/\cQ rs U=some (H,O)/\as=a::H:=by
 unfold cQ at h;cases J:gI r Z with
 |none=>simp only[J] at h;cases h
 |some p=>
  obtain⟨a,U⟩:=p;simp only[J] at h;cases l:cQ rs U with
  |none=>simp only[l] at h;cases h
  |some q=>obtain⟨H,Z0⟩:=q;simp only[l] at h;cases h;exact⟨a,H,U,rfl,l,rfl⟩
theorem Bd.gI{r:Rr}{v:V}{a:Sl}{O:List Sl}{xs:St}{ss:List Sl}(e:xs.length=ss.length)(b:Bd c Y H Z (xs++bp r v B) (ss++bh r θ))(u:VR Y r v)(h:gI r Z=some (a,O)):Bd c Y H O (xs++some v::B) (ss++a::θ):=by
 cases r with
 |fr a'=>cases h;exact b
 |nw o=>cases h;exact b
 |rf i=>
  unfold M.gI at h;cases es:Z[i]? with
  |none=>simp only[es] at h;cases h
  |some s=>
   cases s with
   |un=>simp only[es] at h;cases h
   |fr a'=>simp only[es] at h;cases h;exact Bd.Bm e b u es
   |lv o=>simp only[es] at h;cases h;exact Bd.zp e b u es (.inl rfl)
   |pv o=>simp only[es] at h;cases h;exact Bd.zp e b u es (.inr rfl)
theorem Bd.cQ:∀{rs:List Rr}{vs:List V}{as:List Sl}{Z O:List Sl}{B:St}{θ:List Sl},jd Y rs vs->Bd c Y H Z (bG rs vs B) (bB rs θ)->cQ rs Z=some (as,O)->Bd c Y H O (vs.reverse.map some++B) (as.reverse++θ)/\vs.length=as.length
 |[],[],_,_,_,_,_,_,b,h=>by cases h;exact⟨b,rfl⟩
 |r::rs,v::vs,_,Z,O,B,θ,hv,b,h=>by obtain⟨a,as,U,J,l,rfl⟩:=qC h;have b:Bd c Y H Z (bG rs vs (bp r v B)) (bB rs (bh r θ)):=b;rw[bU,bT] at b;have b1:=Bd.gI (jI rs vs (jd.len hv.2)) b hv.1 J;rw[<-bU rs vs (some v::B),<-bT rs (a::θ)] at b1;obtain⟨b2,T⟩:=Bd.cQ hv.2 b1 l;exact⟨by simpa using b2,by simp[T]⟩
 |[],_::_,_,_,_,_,_,h,_,_=>h.elim
 |_::_,[],_,_,_,_,_,h,_,_=>h.elim
end
def nI(f:Ms)(das:List A)(v:Mi (List Rr)):Mi Rr:=aB v λrs Z=>match cQ (rs++das.map Rr.fr) Z with
 |some (as,U)=>match f (as.map rj) with
  |some (.rt s,T)=>match ji s,putL Z (rs++das.map Rr.fr) (aZ as.length T) U with
   |some r,some O=>some (.ok r,O)
   |_,_=>none
  |some (.ex x,T)=>match putL Z (rs++das.map Rr.fr) (aZ as.length T) U with
   |some O=>some (.error x,O)
   |none=>none
  |_=>none
 |none=>none
variable{dvs:List V}
section
variable{X:Cx}{E:XK}
theorem rK{m:Ms}{n:Nat}{das:List A}(hd:∀G,bf (kx X) G dvs das){Q:VK}{o:Except Str Rr}{vs:List V}(I:c.toKx=kx X)(hn:(vs++dvs).length=n)
  (u:jd Y rs vs)(b:Bd c Y H Z (bG rs vs B) (bB rs θ)) (em:(match cQ (rs++das.map Rr.fr) Z with
 |some (as,U)=>match m (as.map rj) with
  |some (.rt s,T)=>match ji s,putL Z (rs++das.map Rr.fr) (aZ as.length T) U with
   |some r,some O=>some (.ok r,O)
   |_,_=>none
  |some (.ex x,T)=>match putL Z (rs++das.map Rr.fr) (aZ as.length T) U with
   |some O=>some (.error x,O)
   |none=>none
  |_=>none
 | none=>none)=some (o,O)) (t:∀r,o=.ok r->∀v H',VR Y r v->Bd c Y H' O (bp r v B) (bh r θ)->Q v H') (w:∀x,o=.error x->∀C H',X.mg x=some (.ref C)->Bd c Y H' O B θ->E (.ref C) none H'):vd (kx X) n m (vs++dvs) H Q E:=by
 refine⟨hn,?_⟩;cases J:cQ (rs++das.map Rr.fr) Z with
 |none=>simp only[J] at em;cases em
 |some p=>
  obtain⟨as,U⟩:=p;simp only[J] at em;have ld:das.length=dvs.length:=(hd λ_=>none).len.symm;have h:jd Y (rs++das.map Rr.fr) (vs++dvs):=u.app (jd.cA ld);have b2:Bd c Y H Z (bG (rs++das.map Rr.fr) (vs++dvs) B) (bB (rs++das.map Rr.fr) θ):=by rw[j1 _ _ _ u.len,iQ];exact Bd.qZ (by rw[I];exact hd) b
  obtain⟨k,g⟩:=Bd.cQ h b2 J;obtain⟨K,k1,k2,k3,P,k5⟩:=Bd.enter g k;have kp:dW c.σ0 Y Z:=by obtain⟨L,b⟩:=b;exact b.kp
  cases q:m (as.map rj) with
  |none=>simp only[q] at em;cases em
  |some p=>
   obtain⟨f,T⟩:=p;simp only[q] at em;refine⟨K,_,f,T,k1.trans I,k2,k3,P,q,?_⟩;cases f with
   |nx=>cases em
   |bk=>cases em
   |ct=>cases em
   |rt s=>
    simp only at em;cases R:ji s with
    |none=>simp only[R] at em;cases em
    |some r=>
     cases y:putL Z (rs++das.map Rr.fr) (aZ as.length T) U with
     |none=>simp only[R,y] at em;cases em
     |some Z0=>
      simp only[R,y] at em;cases em;intro v H' N F;have S:=k5 H' _ _ _ (λs' e o z=>by rw[Pc.mp e] at z;exact N o z) (bS _ _) F;rw[g] at S;have D:=Bd.putL kp h S y;cases s with
      |fr a=>cases R;exact t _ rfl v H' trivial D
      |lv o=>cases R;exact t _ rfl v H' trivial D
      |_=>cases R
   |ex x=>
    simp only at em;cases y:putL Z (rs++das.map Rr.fr) (aZ as.length T) U with
    |none=>simp only[y] at em;cases em
    |some Z0=>simp only[y] at em;cases em;intro C H' hm F;have S:=k5 H' _ _ _ (λs' e=>by cases e) (bS _ _) F;rw[g] at S;exact w x rfl C H' hm (Bd.putL kp h S y)
theorem z4{CX:ux}{n:Nat}{f:Addr}{fd:FuncData}{ps:List Str}{m:Ms}{das:List A}{ds:List Value}{p:Pos}{es:List Expr}{ma:Mi (List Rr)}(F:cR X.prog X.w X.K X.mg X.base CX k f fd ps (vd (kx X) n m))(hr:cE k X.A)(hg:Gl X x)
  (hm:X.mg x=some (.ref f))(hk:Qf X.K (.ref f)=true)(hb:Binds X.K fd ps ds)(hd:Vals dvs ds)(hda:∀G,bf (kx X) G dvs das)(hx:Passes CX X E)(ha:JA X E (e::es) ma)(hn:∀Z rs O,ma Z=some (.ok rs,O)->rs.length+das.length=n)(hdb:eG x)
  (he:starEach (e::es) X.env=(false,eval e X.env)::starEach es X.env:=by rfl)(hpl:(backTo pos (starEach es X.env)).any (·.1)=false:=by rfl):JE X E (.Call (.Name x p) (e::es) [] pos) (nI m das ma):=
 ⟨PE.weaken (uf F hr hg hm hk hb hd hx ha.p hdb he hpl) λY H Q h=>by
  obtain⟨c,Z,B,θ,o,O,ek,b,em,q⟩:=h;rcases bind_some em with ⟨rs,U,e1,e2⟩|⟨e,e1,e2⟩
  .refine⟨c,Z,B,θ,_,U,ek,b,e1,λvs H1 hv b1=>?_⟩;refine rK hda ek ?_ hv b1 e2 (λr hr v H' hv b=>by subst hr;exact q v H' hv b) (λx hx=>by subst hx;exact q);rw[Pk,<-hv.len,<-hn Z rs U e1,(hda λ_=>none).len]
  .subst e2;exact⟨c,Z,B,θ,_,O,ek,b,e1,λC H1 hm b1=>q C H1 hm b1⟩⟩
end
open PySem L2 W
def fV(f:Ms)(das:List A):List Rr->Mi Rr:=λrs Z=>match cW (rs++das.map Rr.fr) Z with
 |some (as,U)=>match f (as.map rj) with
  |some (.rt s,T)=>match ji s,putL Z (rs++das.map Rr.fr) (aZ as.length T) U with
   |some r,some O=>some (.ok r,O)
   |_,_=>none
  |some (.ex x,T)=>match putL Z (rs++das.map Rr.fr) (aZ as.length T) U with
   |some O=>some (.error x,O)
   |none=>none
  |_=>none
 |none=>none
def Val(f:Ms)(as:List A)(a:A):Prop:=∃Z,f (as.map Sl.fr)=some (.rt (.fr a),Z)
def rG(f:Ms)(as:List A)(o:LO):Prop:=∃Z,f (as.map Sl.fr)=some (.rt (.lv o),Z)
def cN(f:Ms)(o:LO)(as:List A)(s:Sl)(o':LO):Prop:=∃Z,f (.pv o::as.map Sl.fr)=some (.rt s,.pv o'::Z)
theorem k6(as:List A)(Z:List Sl):cW (as.map Rr.fr) Z=some (as.map Sl.fr,Z):=by
 induction as generalizing Z with
 |nil=>rfl
 |cons a as m=>simp only[Pg,cW,take1,m]
theorem qR(as:List A):(as.map Sl.fr).map rj=as.map Sl.fr:=by rw[Qe];rfl
theorem jW(I:List Sl):∀(as:List A)(ss:List Sl)(Z:List Sl),as.length=ss.length->putL I (as.map Rr.fr) ss Z=some Z
 |[],[],Z,_=>rfl
 |a::as,s::ss,Z,h=>by rw[Pg,putL,jW I as ss Z (by simpa using h)];rfl
 |[],_::_,_,h=>by simp at h
 |_::_,[],_,h=>by simp at h
variable{f:Ms}
theorem bg{as:List A}{a:A}(h:Val f as a)(Z:List Sl):fV f [] (as.map Rr.fr) Z=some (.ok (.fr a),Z):=by obtain⟨T,h⟩:=h;unfold fV;rw[RG,P8,k6];simp only[qR,h,ji];rw[jW _ _ _ _ (by rw[bS,O5])]
variable{o:LO}
theorem ue{as:List A}(h:rG f as o)(Z:List Sl):fV f [] (as.map Rr.fr) Z=some (.ok (.nw o),Z):=by obtain⟨T,h⟩:=h;unfold fV;rw[RG,P8,k6];simp only[qR,h,ji];rw[jW _ _ _ _ (by rw[bS,O5])]
theorem BV{as:List A}{o':LO}{s:Sl}(h:cN f o as s o')(y:ji s=some r)(hl:aC Z i=some o):fV f [] (.rf i::as.map Rr.fr) Z=some (.ok r,setAt Z i o'):=by
 obtain⟨T,h⟩:=h;unfold aC at hl;unfold setAt;have hi:∀s,Z[i]?=some s->(Z.set i Sl.un)[i]?=some .un:=λs e=>PR (O6.mp e).1;have I:∀(u:Sl)(k:LO->Sl),Z[i]?=some u->take1 (.rf i) Z=some (.lv o,Z.set i .un)->(∀s O,O[i]?=some Sl.un->pe Z (.rf i) (.pv s) O=some (O.set i (k s)))->fV f [] (.rf i::as.map Rr.fr) Z=some (.ok r,Z.set i (k o')):=by
  intro u k es j hp;unfold fV;rw[RG,P8,cW,j];simp only[k6];have h':f (UI rj (Sl.lv o::UI Sl.fr as))=some (.rt s,.pv o'::T):=by rw[Pg,qR];exact h
  rw[h'];simp only[y];have d:aZ (Sl.lv o::UI Sl.fr as).length (.pv o'::T)=.pv o'::aZ as.length T:=by rw[Pl,O5];rfl
  rw[d,putL,jW _ _ _ _ (by rw[bS])];simp only[hp _ _ (hi u es),List.set_set]
 cases es:Z[i]? with
 |none=>simp only[es] at hl;cases hl
 |some t=>
  cases t with
  |un=>simp only[es] at hl;cases hl
  |fr a=>simp only[es] at hl;cases hl
  |lv x=>simp only[es] at hl;cases hl;refine I _ Sl.lv es (by unfold take1;simp only[es]) λs O e=>?_;unfold pe;simp only[es,e]
  |pv x=>simp only[es] at hl;cases hl;refine I _ Sl.pv es (by unfold take1;simp only[es]) λs O e=>?_;unfold pe;simp only[es,e]
variable{G:Mg}
theorem w8{b:Ms}{as:List A}(P:Nat->List Sl->Prop)(J:P 0 Z)(N:∀i a Z,as[i]?=some a->P i Z->∃U Z0,G a Z=some U/\(b U=some (.nx,Z0)\/b U=some (.ct,Z0))/\P (i+1) Z0):
  ∃O,forL G b as Z=some (.nx,O)/\P as.length O:=by
 have I:∀n i Z,as.length-i=n->i<=as.length->P i Z->∃O,forL G b (as.drop i) Z=some (.nx,O)/\P as.length O:=by
  intro n;induction n with
  |zero=>
   intro i Z e hi p;have:i=as.length:=by omega
   subst this;exact⟨Z,by rw[Ry];rfl,p⟩
  |succ n m=>
   intro i Z e hi p;have Y:i<as.length:=by omega
   obtain⟨U,Z0,h1,h2,h3⟩:=N i as[i] Z (by simp[Y]) p;obtain⟨O,h4,h5⟩:=m (i+1) Z0 (by omega) Y h3;refine⟨O,?_,h5⟩;rw[QH Y,forL,h1];rcases h2 with h2|h2
   .simp only[h2];exact h4
   .simp only[h2];exact h4
 simpa using I as.length 0 Z (by simp) (Qm _) J
theorem dS{t:Mi Bool}{e:Mi Rr}{as:List A}(P:Nat->List A->List Sl->Prop)(J:P 0 [] Z)
  (N:∀i a acc Z,as[i]?=some a->P i acc Z->∃U,G a Z=some U/\((∃Z0 r Z1 d I,t U=some (.ok true,Z0)/\e Z0=some (.ok r,Z1)/\aS r Z1=some (d,I)/\P (i+1) (acc++[d]) I)\/∃Z0,t U=some (.ok false,Z0)/\P (i+1) acc Z0)):
  ∃ys O,bY G t e as [] Z=some (ys,O)/\P as.length ys O:=by
 have h:∀n i acc Z,as.length-i=n->i<=as.length->P i acc Z->∃ys O,bY G t e (as.drop i) acc Z=some (ys,O)/\P as.length ys O:=by
  intro n;induction n with
  |zero=>
   intro i acc Z e' hi p;have:i=as.length:=by omega
   subst this;exact⟨acc,Z,by rw[Ry];rfl,p⟩
  |succ n m=>
   intro i acc Z e' hi p;have Y:i<as.length:=by omega
   obtain⟨U,h1,h2⟩:=N i as[i] acc Z (by simp[Y]) p;rw[QH Y,bY,h1];rcases h2 with ⟨Z0,r,Z1,d,I,Q,q,L,x⟩|⟨Z0,Q,q⟩
   .simp only[Q,q,L];exact m (i+1) _ I (by omega) Y x
   .simp only[Q];exact m (i+1) _ Z0 (by omega) Y q
 simpa using h as.length 0 [] Z (by simp) (Qm _) J
theorem i7{t:Mi Bool}{b:Ms}(P:Nat->List Sl->Prop)(Q:List Sl->Prop)(N:∀k Z,P k Z->(∃U,t Z=some (.ok false,U)/\Q U)\/∃U Z0 k',t Z=some (.ok true,U)/\(b U=some (.nx,Z0)\/b U=some (.ct,Z0))/\k'<k/\P k' Z0):
  ∀{n k:Nat}{Z:List Sl},P k Z->k<n->∃O,dN t b n Z=some (.nx,O)/\Q O:=by
 intro n;induction n with
 |zero=>intro k Z _ h;omega
 |succ n m=>
  intro k Z p hk;rcases N k Z p with ⟨U,h1,h2⟩|⟨U,Z0,k',h1,h2,h3,h4⟩
  .exact⟨U,by rw[dN,h1],h2⟩
  .obtain⟨O,h5,r⟩:=m h4 (by omega);refine⟨O,?_,r⟩;rw[dN,h1];rcases h2 with h2|h2
   .simp only[h2];exact h5
   .simp only[h2];exact h5
theorem rB{n:Nat}(h:n<2^9500):n<Ad:=O9 h (by unfold Ad;exact P6 (by decide) (by decide))
noncomputable def nm(x:Num):A:=.tup [.int x.1,.int x.2]
theorem Et(x:Num):toD (nm x)=some (.tup [.int x.1,.int x.2]):=by simp[nm,toD,cx]
theorem wY(x y:Num):lL (nm x) (nm y)=some (decide (x=y)):=by unfold lL;simp only[Et];rw[if_pos (by simp[D.depth,D.bX])];obtain⟨k,H⟩:=x;obtain⟨Q,b⟩:=y;simp[D.eq,D.eqs,Sd]
theorem iB(i j:Int):lL (.int i) (.int j)=some (decide (i=j)):=by unfold lL;simp only[toD];rw[if_pos (by simp[D.depth])];simp[D.eq,Sd]
section
variable{α j:Type}{Z:List Sl}
theorem DK(i:Nat):ae i Z=(match Z[i]? with|some (.fr a)=>some (.ok (.fr a),Z)|some (.lv _)=>some (.ok (.rf i),Z)|some (.pv _)=>some (.ok (.rf i),Z)|_=>none):=rfl
def cZ(f:A->A->Option Rr)(x y:Rr)(Z:List Sl):Option (Except Str Rr×List Sl):=match res Z x,res Z y with
 |some a,some b=>match f a b with
  |some r=>some (.ok r,Z)
  |none=>none
 |_,_=>none
theorem OT(f:A->A->Option Rr)(v mb:Mi Rr):av f v mb Z=(match v Z with|some (.ok x,U)=>(match mb U with|some (.ok y,Z0)=>cZ f x y Z0|some (.error e,Z0)=>some (.error e,Z0)|none=>none)|some (.error e,U)=>some (.error e,U)|none=>none):=by
 unfold av aB cZ;cases v Z with
 |none=>rfl
 |some p=>
  obtain⟨o,U⟩:=p;cases o with
  |error e=>rfl
  |ok x=>
   simp only;cases mb U with
   |none=>rfl
   |some p=>
    obtain⟨o,Z0⟩:=p;cases o with
    |error e=>rfl
    |ok y=>rfl
def MH(f:A->Option Rr)(x:Rr)(Z:List Sl):Option (Except Str Rr×List Sl):=match res Z x with
 |some a=>match f a with
  |some r=>some (.ok r,Z)
  |none=>none
 |none=>none
theorem Od(m n:Mi Bool):qc m n Z=(match m Z with|some (.ok true,U)=>n U|some (.ok false,U)=>some (.ok false,U)|some (.error e,U)=>some (.error e,U)|none=>none):=by
 unfold qc aB;cases m Z with
 |none=>rfl
 |some p=>obtain⟨o,U⟩:=p;cases o with|error e=>rfl|ok k=>cases k<;>rfl
theorem FX(m n:Mi Rr):kj m n Z=(match aq m Z with|some (.ok true,U)=>n U|some (.ok false,U)=>some (.ok (.fr (.bl false)),U)|some (.error e,U)=>some (.error e,U)|none=>none):=by
 unfold kj aB;cases aq m Z with
 |none=>rfl
 |some p=>obtain⟨o,U⟩:=p;cases o with|error e=>rfl|ok k=>cases k<;>rfl
def tupK(rs:List Rr)(Z:List Sl):Option (Except Str Rr×List Sl):=match d9 rs Z with
 |some (as,O)=>if as.length<=1000 then some (.ok (.fr (.tup as)),O) else none
 |none=>none
def lstK(rs:List Rr)(Z:List Sl):Option (Except Str Rr×List Sl):=match d9 rs Z with
 |some (as,O)=>if as.length<=1000 then some (.ok (.nw (.lst as)),O) else none
 |none=>none
theorem D1(m n:Ms):aA m n Z=(match m Z with|some (.nx,U)=>n U|r=>r):=rfl
def C8(i:Nat)(r:Rr)(Z:List Sl):Option (Fl×List Sl):=match uy r Z with
 |some (t,U)=>match put i t U with
  |some Z0=>some (.nx,Z0)
  |none=>none
 |none=>none
def Nr(r:Rr)(Z:List Sl):Option (Fl×List Sl):=match HC r Z with
 |some (s,O)=>some (.rt s,O)
 |none=>none
theorem Jq(loc:Nat)(m:Ms):cf loc m Z=(match m (Z++PB loc .un) with|some (.nx,O)=>some (.rt (.fr .non),O)|some (.rt s,O)=>some (.rt s,O)|some (.ex x,O)=>some (.ex x,O)|_=>none):=by
 unfold cf;cases m (Z++PB loc .un) with
 |none=>rfl
 |some p=>obtain⟨f,U⟩:=p;cases f<;>rfl
theorem Ko(m:Mi (List A))(G:Mg)(b:Ms):gq m G b Z=(match m Z with|some (.ok as,U)=>forL G b as U|some (.error e,U)=>some (.ex e,U)|none=>none):=by
 unfold gq bz;cases m Z with
 |none=>rfl
 |some p=>
  obtain⟨o,U⟩:=p;cases o with
  |error e=>rfl
  |ok x=>rfl
def Nn(r:Rr)(Z:List Sl):Option (Except Str (List A)×List Sl):=match aS r Z with
 |some (a,O)=>match Fg a with
  |some as=>some (.ok as,O)
  |none=>none
 |none=>none
def iq(r:Rr)(Z:List Sl):Option (Except Str (List A)×List Sl):=match res Z r with
 |some (.int j)=>if -(2^60)<=j/\j<2^60 then some (.ok (dj 0 j.toNat),Z) else none
 |_=>none
def fG(n:Nat)(G:Mg)(t:Mi Bool)(e:Mi Rr)(as:List A)(Z:List Sl):Option (Except Str Rr×List Sl):=if as.length<=100000 then match bY G t e as [] (Z++PB n .un) with
 |some (ys,O)=>some (.ok (.nw (.lst ys)),O.take Z.length)
 |none=>none else none
def KO(G:Mg)(r:Rr)(Z:List Sl):Option (Fl×List Sl):=match aS r Z with
 |some (a,U)=>match G a U with
  |some Z0=>some (.nx,Z0)
  |none=>none
 |none=>none
theorem JO(m:Mi Rr)(G:Mg):qT m G Z=(match m Z with|some (.ok x,U)=>KO G x U|some (.error e,U)=>some (.ex e,U)|none=>none):=by
 unfold qT bz;cases m Z with
 |none=>rfl
 |some p=>
  obtain⟨o,U⟩:=p;cases o with
  |error e=>rfl
  |ok x=>rfl
def OR(i:Nat)(r:Rr)(Z:List Sl):Option (Except Str Rr×List Sl):=match aS r Z with
 |some (a,U)=>match aC U i with
  |some (.lst xs)=>if xs.length<=100000 then some (.ok (.fr .non),setAt U i (.lst (xs++[a]))) else none
  |_=>none
 |none=>none
def OX(i:Nat)(r H:Rr)(Z:List Sl):Option (Fl×List Sl):=match aS r Z with
 |some (a,U)=>match res U H,aC U i with
  |some (.int k),some (.lst xs)=>match nR xs.length k with
   |some j=>some (.nx,setAt U i (.lst (xs.set j a)))
   |none=>none
  |_,_=>none
 |none=>none
def dK(i:Nat)(r H:Rr)(Z:List Sl):Option (Fl×List Sl):=match aS r Z with
 |some (a,U)=>match res U H,aC U i with
  |some ka,some (.dic kvs)=>match fO ka with
   |some y=>if kvs.length<=100000 then some (.nx,setAt U i (.dic (lG kvs y a))) else none
   |none=>none
  |_,_=>none
 |none=>none
def OK(r:Rr)(Z:List Sl):Option (Except Str Rr×List Sl):=match aS r Z with
 |some (a,O)=>some (.ok (.fr a),O)
 |none=>none
end
section
variable{Z:List Sl}
theorem BY(a b:A):uh a b=(kA λi j=>if fits 20000 i&&fits 20000 j then some (.fr (.int (i*j))) else none) a b:=rfl
theorem E4(a b:A):ig a b=(kA λi j=>if j != 0&&fits 9000 j then some (.fr (.int (i.fdiv j))) else none) a b:=rfl
end
noncomputable def np:Sl->Bool
 | .pv _=>false
 |_=>true
theorem KJ(i:Nat)(s:Sl)(Z:List Sl):put i s Z=(match Z[i]? with|some t=>if np t=true then some (Z.set i s) else none|none=>none):=by
 unfold put;cases Z[i]? with
 |none=>rfl
 |some t=>cases t<;>rfl
def Wp(m:Ms)(Z:List Sl)(Q:Fl->List Sl->Prop):Prop:=∃f O,m Z=some (f,O)/\Q f O
section
variable{m n b:Ms}{Z U:List Sl}{Q:Fl->List Sl->Prop}
theorem Wp.st(h:m Z=some (.nx,U))(k:Wp n U Q):Wp (aA m n) Z Q:=by obtain⟨f,O,e,q⟩:=k;exact⟨f,O,by rw[D1,h];exact e,q⟩
theorem Wp.sq(k:Wp m Z λf U=>f=.nx/\Wp n U Q):Wp (aA m n) Z Q:=by obtain⟨f,U,e,rfl,l,Z0,N,q⟩:=k;exact⟨l,Z0,by rw[D1,e];exact N,q⟩
theorem Wp.en{f:Fl}(h:m Z=some (f,U))(q:Q f U):Wp m Z Q:=⟨_,_,h,q⟩
theorem Wp.mono{H:Fl->List Sl->Prop}(k:Wp m Z Q)(h:∀f U,Q f U->H f U):Wp m Z H:=by obtain⟨f,U,e,q⟩:=k;exact⟨f,U,e,h f U q⟩
theorem Wp.fr{v:Mi (List A)}{as:List A}(P:Nat->List Sl->Prop)(h:v Z=some (.ok as,U))(J:P 0 U)(N:∀i a Z,as[i]?=some a->P i Z->∃U,G a Z=some U/\Wp b U λf Z0=>(f=.nx\/f=.ct)/\P (i+1) Z0)(B:∀O,P as.length O->Q .nx O):Wp (gq v G b) Z Q:=by
 obtain⟨O,h1,h2⟩:=w8 (G:=G) (b:=b) (as:=as) P J (λi a Z ha p=>by
  obtain⟨U,g,f,Z0,e,hf,o⟩:=N i a Z ha p;refine⟨U,Z0,g,?_,o⟩;rcases hf with rfl|rfl
  .exact .inl e
  .exact .inr e)
 exact⟨_,O,by rw[Ko,h];exact h1,B O h2⟩
theorem Wp.df{loc:Nat}(k:Wp m (Z++PB loc .un) λf O=>match f with | .nx=>Q (.rt (.fr .non)) O | .rt s=>Q (.rt s) O | .ex x=>Q (.ex x) O|_=>False):Wp (cf loc m) Z Q:=by
 obtain⟨f,O,e,q⟩:=k;unfold Wp;rw[Jq,e];cases f with
 |nx=>exact⟨_,_,rfl,q⟩
 |rt s=>exact⟨_,_,rfl,q⟩
 |ex x=>exact⟨_,_,rfl,q⟩
 |bk=>exact q.elim
 |ct=>exact q.elim
theorem Val.of{as:List A}{a:A}(k:Wp f (as.map Sl.fr) λg _=>g=.rt (.fr a)):Val f as a:=by obtain⟨g,O,e,rfl⟩:=k;exact⟨O,e⟩
theorem rG.of{as:List A}(k:Wp f (as.map Sl.fr) λg _=>g=.rt (.lv o)):rG f as o:=by obtain⟨g,O,e,rfl⟩:=k;exact⟨O,e⟩
theorem cN.of{as:List A}{R:Sl->LO->Prop}(k:Wp f (.pv o::as.map Sl.fr) λg Z=>∃s o' U,g=.rt s/\Z=.pv o'::U/\R s o'):∃s o',cN f o as s o'/\R s o':=by obtain⟨g,O,e,s,o',U,rfl,rfl,r⟩:=k;exact⟨s,o',⟨U,e⟩,r⟩
end
def Dt(n:Nat)(a:A):Prop:=∃d,toD a=some d/\D.depth d<=n
def qq(n:Nat)(as:List A):Prop:=∃ds,cx as=some ds/\D.bX ds<=n
theorem Dt.int{n:Nat}(i:Int):Dt n (.int i):=⟨.int i,by rw[toD],by simp[D.depth]⟩
theorem Dt.str{n:Nat}(x:Str):Dt n (.str x):=⟨.str x,by rw[toD],by simp[D.depth]⟩
theorem qq.nil{n:Nat}:qq n []:=⟨[],by rw[cx],by simp[D.bX]⟩
theorem qq.cons{n:Nat}{a:A}{as:List A}(h:Dt n a)(k:qq n as):qq n (a::as):=by obtain⟨d,h1,h2⟩:=h;obtain⟨ds,h3,h4⟩:=k;exact⟨d::ds,by rw[cx,h1,h3],by rw[D.bX];omega⟩
theorem qq.of{n:Nat}:∀{as:List A},(∀a∈as,Dt n a)->qq n as
 |[],_=>.nil
 |a::as,h=>.cons (h a PK) (qq.of λb d=>h b (Pa _ d))
theorem Dt.tup{n:Nat}{as:List A}(h:qq n as):Dt (n+1) (.tup as):=by obtain⟨ds,h1,h2⟩:=h;exact⟨.tup ds,by rw[toD,h1],by rw[D.depth];omega⟩
theorem Dt.lst{n:Nat}{as:List A}(h:qq n as):Dt (n+1) (.lst as):=by obtain⟨ds,h1,h2⟩:=h;exact⟨.lst ds,by rw[toD,h1],by rw[D.depth];omega⟩
theorem Dt.nm{n:Nat}(x:Num):Dt (n+1) (nm x):=Dt.tup (.cons (.int _) (.cons (.int _) .nil))
theorem wI{a:A}(h:Dt 40 a):lL a a=some true:=by obtain⟨d,h1,h2⟩:=h;unfold lL;simp only[h1];rw[if_pos h2,D.ip]
theorem ou(n:Nat):(dj 0 n).length=n:=by simp[dj]
theorem yd{n:Nat}{a:A}(h:(dj 0 n)[i]?=some a):i<n/\a=.int i:=by have hi:=(O6.mp h).1;rw[ou] at hi;unfold dj at h;rw[Pq,RE hi] at h;simp at h;exact⟨hi,h.symm⟩
section
variable{Z:List Sl}
def MC(i:Nat)(r:Rr)(Z:List Sl):Option (Except Str Rr×List Sl):=match aS r Z with
 |some (.lst zs,U)=>match aC U i with
  |some (.lst xs)=>if xs.length+zs.length<=100000 then some (.ok (.fr .non),setAt U i (.lst (xs++zs))) else none
  |_=>none
 |_=>none
end
variable{ms:Mi (List Rr)}{b:Bool}
section
variable{α j:Type}{Z I U Z0 Z1:List Sl}{m n mk:Mi Rr}{t u:Mi Bool}{x y r rk:Rr}
theorem bk{m:Mi α}{f:α->Mi j}{x:α}{q:Option (Except Str j×List Sl)}(h:m Z=some (.ok x,U))(k:f x U=q):aB m f Z=q:=by unfold aB;rw[h];exact k
theorem sk{m:Mi α}{f:α->Ms}{x:α}{q:Option (Fl×List Sl)}(h:m Z=some (.ok x,U))(k:f x U=q):bz m f Z=q:=by unfold bz;rw[h];exact k
theorem au{das:List A}(h:ms Z=some (.ok rs,U))(c:fV f das rs U=some (.ok r,Z0)):iw f das ms Z=some (.ok r,Z0):=bk h c
theorem ah(h:m Z=some (.ok x,U))(k:ms U=some (.ok rs,Z0)):cz m ms Z=some (.ok (x::rs),Z0):=bk h (bk k rfl)
theorem ag{f:A->A->Option Rr}(h:m Z=some (.ok x,U))(k:n U=some (.ok y,Z0))(o:cZ f x y Z0=some (.ok r,Z1)):av f m n Z=some (.ok r,Z1):=bk h (bk k o)
theorem dE{f:A->Option Rr}(h:m Z=some (.ok x,U))(o:MH f x U=some (.ok r,Z0)):vi f m Z=some (.ok r,Z0):=bk h o
theorem jz(h:m Z=some (.ok x,U))(o:OK x U=some (.ok r,Z0)):tK m Z=some (.ok r,Z0):=bk h o
theorem bw(h:ms Z=some (.ok rs,U))(o:tupK rs U=some (.ok r,Z0)):aU ms Z=some (.ok r,Z0):=bk h o
theorem Hq(h:ms Z=some (.ok rs,U))(o:lstK rs U=some (.ok r,Z0)):d0 ms Z=some (.ok r,Z0):=bk h o
theorem aG(h:m Z=some (.ok (.fr (.bl b)),U)):aq m Z=some (.ok b,U):=bk h rfl
theorem kb(h:t Z=some (.ok b,U)):nM t Z=some (.ok (!b),U):=bk h rfl
theorem i9(h:t Z=some (.ok false,U))(k:u U=some (.ok b,Z0)):Aj t u Z=some (.ok b,Z0):=bk h k
theorem AH(h:t Z=some (.ok false,U)):qc t u Z=some (.ok false,U):=bk h rfl
theorem ur(h:t Z=some (.ok true,U))(k:u U=some (.ok b,Z0)):qc t u Z=some (.ok b,Z0):=bk h k
theorem fL(h:m Z=some (.ok r,U))(k:C8 i r U=some (.nx,Z0)):aE i m Z=some (.nx,Z0):=sk h k
theorem tV(h:m Z=some (.ok r,I))(d:CQ I i=true)(hk:mk I=some (.ok rk,U))(k:dK i r rk U=some (.nx,Z0)):mK i mk m Z=some (.nx,Z0):=sk h ((if_pos d).trans (sk hk k))
theorem aT{f:Fl}(h:m Z=some (.ok r,U))(k:Nr r U=some (f,Z0)):bM m Z=some (f,Z0):=sk h k
theorem nX(h:m Z=some (.ok r,U)):dR m Z=some (.nx,U):=sk h rfl
theorem LU{a:Sl}(h:uy r Z=some (a,U))(k:U[i]?=some s)(hn:np s=true):C8 i r Z=some (.nx,U.set i a):=by unfold C8;rw[h];dsimp only;rw[KJ,k];dsimp only;rw[if_pos hn]
theorem Kd{a:A}{ka:A}{kvs:List (Key×A)}{q:Key}(h:aS r Z=some (a,U))(h1:res U rk=some ka)(h2:aC U i=some (.dic kvs))(h3:fO ka=some q)(hl:kvs.length<=100000):dK i r rk Z=some (.nx,setAt U i (.dic (lG kvs q a))):=by unfold dK;rw[h];dsimp only;rw[h1,h2];dsimp only;rw[h3];dsimp only;rw[if_pos hl]
end
end M
namespace W
open PySem L2
noncomputable def xj(o:Obj):Bool:=match o.data with
 | .freed=>false
 |_=>true
def mU:List Nat->List Obj->O2->O2
 |a::as,o::os,K=>mU as os (match xj o with|true=>(a,o)::K|false=>K)
 |_,_,K=>K
def gm(h:Heap):O2:=match h.get? mainGlobals with
 |some o=>(mainGlobals,o)::mU (Py h.objs.size) h.objs.toList []
 |none=>[]
theorem mj{o:Obj}{a:Addr}:∀{K:O2},K.lookup a=some o->(a,o)∈K
 |(b,u)::K,e=>by
  rw[P1] at e;split at e
  .rename_i q;cases e;rw[beq_iff_eq.mp q];exact PK
  .exact Pa _ (mj e)
theorem oQ{h:Heap}:∀{as:List Nat}{os:List Obj}{K:O2},(∀(i a:Nat)(o:Obj),as[i]?=some a->os[i]?=some o->h.objs[a]?=some o)->(∀(a:Nat)(o:Obj),(a,o)∈K->h.get? a=some o)->∀a o,(a,o)∈mU as os K->h.get? a=some o
 |[],_,K,_,k=>by unfold mU;exact k
 |_::_,[],K,_,k=>by unfold mU;exact k
 |a::as,o::os,K,e,k=>by
  unfold mU;refine oQ (λi b u h1 h2=>e (i+1) b u h1 h2) ?_;cases c:xj o with
  |false=>exact k
  |true=>
   intro b u m;rcases Po.mp m with m|m
   .cases m;unfold Heap.get?;rw[e 0 a o rfl rfl];obtain⟨x,z,r,Y⟩:=o;cases r<;>first|rfl|cases c
   .exact k b u m
theorem lA(h:Heap):(gm h).In h:=λa o e=>by
 have m:=mj e;unfold gm at m;split at m
 .rename_i o' H;rcases Po.mp m with m|m
  .cases m;exact H
  .refine oQ (λi b u h1 h2=>?_) (λ_ _ q=>by cases q) a o m;have hi:i<h.objs.size:=(O6.mp h1).1 |> λq=>by rwa[Qv] at q
   rw[RE hi] at h1;cases h1;rw[<-Qc];exact h2
 .cases m
noncomputable def Ki(K:O2)(n:Str):Option (Str×Str×Arguments×FuncBody×Scope×Addr×List (Str×Addr)×Value×Addr×Bool):=
 match SG K mainGlobals n with
 | some (some (.ref f))=>(match K.lookup f with
  |some ⟨_,_,.func d,_⟩=>some (d.name,d.qualname,d.params,d.body,d.scope,d.globals,d.closure,d.defaults,d.builtins,R9 K d.code n&&Qf K (.ref f))
  | _=>none)
 |_=>none
def JJ(n:Str)(st:Stmt):Option (Str×Str×Arguments×FuncBody×Scope×Addr×List (Str×Addr)×Value×Addr×Bool):=some (n,n,cK st,.stmts (cj st),aI st,mainGlobals,[],.none,builtinsNs,true)
noncomputable def Mr(K:O2)(a:Addr)(i j:Int):Bool:=match K.lookup a with
 | some ⟨.type "tuple",none,.seq its _,_⟩=>(match its.toList with
  |[.int x _,.int y _]=>x==i&&y==j
  | _=>false)
 |_=>false
def IP(ds:List (Str×Stmt))(e:O2->Bool)(K:O2):=(ds.map λx=>Ki K x.1,e K)
def IG(ds:List (Str×Stmt)):List (Option (Str×Str×Arguments×FuncBody×Scope×Addr×List (Str×Addr)×Value×Addr×Bool))×Bool:=(ds.map λx=>JJ x.1 x.2,true)
def hk(ds:List (Str×Stmt))(b:O2->Bool):Vt where
 α:=List (Option (Str×Str×Arguments×FuncBody×Scope×Addr×List (Str×Addr)×Value×Addr×Bool))×Bool
 obs:=λs=>IP ds b (gm s.heap)
 val:=λ_=>IG ds
 says:=λ_ h=>∃K:O2,IP ds b K=IG ds/\K.In h
 of:=λ_ s e=>⟨gm s.heap,e,lA _⟩
 keeps:=λ_ _ _ ⟨K,e,i⟩ k=>⟨K,e,i.keeps k⟩
noncomputable def LI(p:Program):List Stmt:=p.main.body.filter λs=>match s with | .FunctionDef n ..=>n==("law" : Str)|_=>false
noncomputable def LM:Stmt->List Str
 | .FunctionDef n ..=>[n]
 | .ClassDef n ..=>[n]
 | .Assign [.Name n _] _ _=>[n]
 |_=>[]
def Lc(p:Program):Program:={ p with main:={ p.main with body:=LI p } }
def tY(p:Program):List Str:=(p.main.body.flatMap LM).filter λn=>n != ("law" : Str)
variable{loose:List Str}
theorem v9{l:UZ}{n k:Nat}{q:Program}{XP:(Str->Option Value)->Heap->Prop}{YP:World->Heap->Prop}{d:DefRec}{x:Str}{sp:O2->Sp}
  (hn:l.most=some n)(c:n<=sizeLine)(E:d.params.defaults=[])(U:cE k callerA)
  (F:∀(w:World)(mg:Str->Option Value)(I:Addr)(h:Heap),YP w h->h.Ns mainGlobals mg->mg d.name=some (.ref I)->
   ∃K:O2,K.In h/\∃fd:FuncData,(∀(s:Shared)(u:Value),BindsTo s fd ⟨[u],[]⟩ [(x,u)])/\∀base:Heap,K.In base->base.Ns mainGlobals mg->cR l.prog w K mg base (mL l.prog w) k I fd [x] (sp K))
  (S:∀(K:O2)(H:Hp)(a:Addr)(ns:List Int),ns.length<=n->Hm H->eX K H a (ns.map V.int)->sp K [.ref a] H (λv _=>v=.bl true) λ_ _ _=>False):
  Vm q loose XP YP l.row.toRowW d [] (λf vs=>UO f vs):=by
 refine Att.pC hn E λw s₀ Z mg mb I o pm cd doc a vs ns G Y ho hd C Q A r D j=>?_;obtain⟨K,O,fd,N,R⟩:=F w mg I _ Y G.T.g Q;exact zB O G.T.g G.T.b G.T.builtins G.T.nolimit j A r (Px D c) U R N (λH t m=>S K H a ns D t m) λH e s' z=>by obtain⟨_,_,_,_,_,y⟩:=z;exact y
open PySem PySem.W PyProof.Rows
noncomputable abbrev DM:=Wm
noncomputable abbrev rD:=Wn
noncomputable abbrev LH:=Wo
noncomputable abbrev xC:=Wq
noncomputable abbrev Ef:=Wr
noncomputable abbrev DA:=Ws
noncomputable abbrev zj:=Wt
theorem zk:denote=DM:=Wu
theorem mm:treeTable=rD:=Wv
theorem AR:stepOk=LH:=Ww
theorem vk:stepT=xC:=Wx
theorem wu:importEnds=Ef:=Wz
theorem xp:fenceModules?=DA:=WA
theorem vo:openSeen=zj:=WB
def yJ(p:Program)(w:World)(Z:Nat)(h:Option Value):Nat->SharedT->Thread->Option SharedT
 |0,_,_=>none
 |m+1,s,t=>match through t with
  |true=>some s
  |false=>match LH Z h t with
   |false=>none
   |true=>match xC (DM rD) p w s t with
    |some (s',t')=>yJ p w Z h m s' t'
    |none=>none
theorem uB{p:Program}{w:World}{Z:Nat}{h:Option Value}:∀{m:Nat}{s s2:SharedT}{t:Thread},yJ p w Z h m s t=some s2->topRun treeTable p w Z h m s.abs t=some s2.abs
 |0,_,_,_,e=>by cases e
 |m+1,s,s2,t,e=>by
  unfold yJ at e;rw[<-AR,<-vk,<-zk,<-mm] at e;unfold topRun;cases z:through t with
  |true=>rw[z] at e;cases e;rfl
  |false=>
   rw[z] at e;simp only at e ⊢;cases n:stepOk Z h t with
   |false=>rw[n] at e;cases e
   |true=>
    rw[n] at e;simp only at e ⊢;cases es:stepT (denote treeTable) p w s t with
    |none=>rw[es] at e;cases e
    |some q=>obtain⟨T,o⟩:=q;rw[es] at e;rw[stepT_spec es];exact uB e
noncomputable def IJ:List Obj->Nat->BT->Option BT
 |[],_,t=>some t
 |o::os,n,t=>match ((t.ins n o).get n).isSome with
  |true=>IJ os (n+1) (t.ins n o)
  |false=>none
theorem xA(l:Life):∀{os:List Obj}{n:Nat}{t t':BT},IJ os n t=some t'->absHeap t' (n+os.length) l=⟨(absHeap t n l).objs++os.toArray,l⟩
 |[],n,t,t',e=>by cases e;show absHeap t n l=⟨(absHeap t n l).objs++#[],l⟩;rw[Array.append_empty];rfl
 |o::os,n,t,t',e=>by
  unfold IJ at e;cases H:((t.ins n o).get n).isSome with
  |false=>rw[H] at e;cases e
  |true=>
   rw[H] at e;have i:=xA l e;rw[absHeap_ins H] at i;have N:n+1+os.length=n+(o::os).length:=by rw[Pl];omega
   rw[<-N,i];show Heap.mk (((absHeap t n l).objs.push o)++os.toArray) l=_;simp
theorem yC{h:Heap}{t:BT}(e:IJ h.objs.toList 0 .nil=some t):absHeap t h.objs.size h.life=h:=by have i:=xA h.life e;rw[V2,P9] at i;rw[i];obtain⟨objs,l⟩:=h;show Heap.mk (#[]++objs.toList.toArray) l=_;simp
def FN(p:Program)(w:World)(N:Nat)(s₀:Shared):Option Shared:=match s₀.heap.isNs mainGlobals&&s₀.gens.size==0 with
 |true=>match IJ s₀.heap.objs.toList 0 .nil with
  |some t=>(yJ p w s₀.heap.objs.size (s₀.heap.nsMap mainGlobals "__annotations__") N ⟨t,s₀.heap.objs.size,s₀.heap.life,s₀.gens,s₀.drawn,s₀.toks,s₀.os⟩ (topStub p)).bind λq=>match staticsOk (importedModules p.main.body) s₀.heap q.abs.heap&&namesBound p q.abs.heap&&gensDone q.abs&&laidKept s₀.heap q.abs.heap with
   |true=>some q.abs
   |false=>none
  |none=>none
 |false=>none
variable{p:Program}{w:World}{N:Nat}{s:Shared}
theorem Cq{s₀:Shared}(e:FN p w N s₀=some s):topFrom treeTable p w N s₀=some s:=by
 unfold FN at e;unfold topFrom;cases J:s₀.heap.isNs mainGlobals&&s₀.gens.size==0 with
 |false=>rw[J] at e;cases e
 |true=>
  rw[J] at e;simp only at e ⊢;cases l:IJ s₀.heap.objs.toList 0 .nil with
  |none=>rw[l] at e;cases e
  |some t=>
   rw[l] at e;simp only at e;cases T:yJ p w s₀.heap.objs.size (s₀.heap.nsMap mainGlobals "__annotations__") N ⟨t,s₀.heap.objs.size,s₀.heap.life,s₀.gens,s₀.drawn,s₀.toks,s₀.os⟩ (topStub p) with
   |none=>rw[T] at e;cases e
   |some q=>
    rw[T] at e;have k:=uB T;have k0:VC ⟨t,s₀.heap.objs.size,s₀.heap.life,s₀.gens,s₀.drawn,s₀.toks,s₀.os⟩=s₀:=by unfold VC;rw[yC l]
    rw[k0] at k;rw[k];exact e
def uk(p:Program)(w:World)(N:Nat):Option Shared:=((Ef rD (opening p) w N (start (opening p)).1 (start (opening p)).2).bind (DA p)).bind (FN p w N)
theorem wJ(e:uk p w N=some s):openEnds treeTable p w N=some s:=by
 unfold uk at e;unfold openEnds fencedOpening;rw[<-wu,<-mm,<-xp] at e;cases J:(importEnds treeTable (opening p) w N (start (opening p)).1 (start (opening p)).2).bind (fenceModules? p) with
 |none=>rw[J] at e;cases e
 |some u=>rw[J] at e;exact Cq e
theorem xh{q:Program}{Xt:Shared->Bool}{α:Type}{Yf:Shared->α}{Ya:World->α}
  (h:∀w,R1 (λs=>(zj q loose (importedModules p.main.body) Xt true s,Yf s)) (uk p w N)=some (openGood q loose,Ya w)):LeftO p q loose Xt Yf Ya N:=λw=>by
 have h:=h w;rw[<-vo] at h;cases e:uk p w N with
 |none=>rw[e] at h;cases h
 |some s=>rw[e] at h;rw[wJ e];exact h
end W
namespace M
open PySem L2
structure FI where
 n:Nat
 m:Ms
 mu:List Bool
 df:List A
 hf:Bool
structure Tb where
 fns:List (Str×FI)
 cst:List (Str×A)
 exs:List Str
 kit:List (Str×List (Str×Bool))
 exm:List (Str×List Str)
 fld:List (Str×List Str)
 ini:List (Str×FI)
 mts:List (Str×Str×FI)
structure Sc where
 N:List Str
 nm:List (Str×NameKind)
 di:List Str
 ca:List Str
 hd:Bool
 lv:List Str
 tp:Bool:=false
noncomputable def M8(s:Sc):Sc:={ s with tp:=false }
noncomputable def af{α j:Type}(x:Option α)(f:α->Option j):Option j:=match x with
 |some a=>f a
 |none=>none
noncomputable def cw{α:Type}(b:Bool)(x:Option α):Option α:=match b with
 |true=>x
 |false=>none
variable{α:Type}
theorem aa{j:Type}{x:Option α}{f:α->Option j}{y:j}(h:af x f=some y):∃a,x=some a/\f a=some y:=by
 cases x with
 |none=>cases h
 |some a=>exact⟨a,rfl,h⟩
theorem aj{b:Bool}{x:Option α}{y:α}(h:cw b x=some y):b=true/\x=some y:=by
 cases b with
 |false=>cases h
 |true=>exact⟨rfl,h⟩
def l6(s:Sc)(x:Str)(k:NameKind):Bool:=s.nm.lookup x==some k
def Cu(s:Sc)(x:Str):Bool:=l6 s x .local || l6 s x .cell || l6 s x .free
def rM(s:Sc)(x:Str):Bool:=l6 s x .local || l6 s x .cell
noncomputable def okN(x:Str):Bool:=!(x==("__debug__" : Str))&&!(x==("__classdict__" : Str))
def qK(s:Sc)(x:Str):Bool:=l6 s x .globalImplicit&&okN x
def nR(x:Str):List Str->Nat->Option Nat
 |[],_=>none
 |y::ys,i=>if x==y then some i else nR x ys (i+1)
theorem ku{x:Str}:∀{N:List Str}{k i:Nat},nR x N k=some i->∃j,i=k+j/\N[j]?=some x
 |[],_,_,h=>by cases h
 |y::ys,k,i,h=>by
  unfold nR at h;split at h
  .rename_i e;cases h;exact⟨0,rfl,by rw[beq_iff_eq.mp e];rfl⟩
  .obtain⟨j,J,l⟩:=ku h;exact⟨j+1,by omega,by simpa using l⟩
def slot(s:Sc)(x:Str):Option Nat:=cw (Cu s x&&okN x) (nR x s.N 0)
def cU(s:Sc)(x:Str):Option Nat:=cw (rM s x&&okN x) (nR x s.N 0)
noncomputable def C0:List Str:=["len", "isinstance", "abs", "max", "min", "int", "bool", "str", "tuple", "list", "dict", "range", "ValueError", "sorted", "all", "zip", "set", "sum", "enumerate", "any", "reversed"]
def iu(P:Program)(w:World)(K:O2)(mg:Str->Option Value)(fd:FuncData)(ps:List Str)(df:List A):Prop:=∀j,j<=df.length->∃ds dvs,Binds K fd ps ds/\Vals dvs ds/\∀G,bf ⟨K,mg,P,w⟩ G dvs (df.drop j)
noncomputable def y0(fi:FI)(n:Nat):List A:=fi.df.drop (fi.df.length-(fi.n-n))
variable{P:Program}{w:World}{K:O2}{mg:Str->Option Value}{fd:FuncData}{ps:List Str}
theorem iu.of{fi:FI}(h:iu P w K mg fd ps fi.df)(n:Nat):∃ds dvs,Binds K fd ps ds/\Vals dvs ds/\∀G,bf ⟨K,mg,P,w⟩ G dvs (y0 fi n):=h _ (WM _ _)
theorem iu.all{df:List A}(h:iu P w K mg fd ps df):Binds K fd ps []:=by obtain⟨ds,dvs,h1,h2,h3⟩:=h df.length (Pf _);have h3:=h3 λ_=>none;rw[Ry] at h3;cases h3;cases h2;exact h1
noncomputable def Lm(tb:Tb)(f:Str):List Str:=(tb.fld.filter λp=>p.2.contains f).map (·.1)
structure Gd(tb:Tb)(k:Nat)(P:Program)(w:World)(K:O2)(mg:Str->Option Value)(base:Heap):Prop where
 fn:∀x f,tb.fns.lookup x=some f->∃a fd ps,cR P w K mg base (mL P w) k a fd ps (vd ⟨K,mg,P,w⟩ f.n f.m)/\mg x=some (.ref a)/\Qf K (.ref a)=true/\iu P w K mg fd ps f.df
 cs:∀x a,tb.cst.lookup x=some a->∃v u,mg x=some u/\RelV v u/\∀G,RA ⟨K,mg,P,w⟩ G v a
 bl:∀x∈C0,mg x=none
 ex:∀x∈tb.exs,∃C,mg x=some (.ref C)/\Rq K C tj "ValueError.__new__" = true
 kt:∀x l,tb.kit.lookup x=some l->∃u cv,qh cv=true/\RelV cv u/\((mg x=some u)\/(mg x=none/\bootBuiltins x=some u/\x ≠ "__name__"))/\∀c C k,l.lookup c=some k->mg c=some (.ref C)->hR K C/\Qg K (.ref C) (rb cv)=some k
 em:∀x l,tb.exm.lookup x=some l->∃T,mg x=some (.ref T)/\∀c C,l.contains c=true->mg c=some (.ref C)->Sa K (.ref C) (.ref T)=some true
 fl:∀f c C,(Lm tb f).contains c=true->mg c=some (.ref C)->F4 K C/\Ik K C f
 im:∀c f,tb.ini.lookup c=some f->∃C a fd ps j,j+1<=k/\cR P w K mg base (mL P w) j a fd ps (vd ⟨K,mg,P,w⟩ f.n f.m)/\mg c=some (.ref C)/\Mk K C a/\iu P w K mg fd ps f.df
 mt:∀m c f,(m,c,f)∈tb.mts->∃C a fd ps,cR P w K mg base (mL P w) k a fd ps (vd ⟨K,mg,P,w⟩ f.n f.m)/\mg c=some (.ref C)/\F4 K C/\Meth K C m a/\iu P w K mg fd ps f.df
structure Sit(tb:Tb)(k:Nat)(X:Cx)(E:XK)(s:Sc):Prop where
 n:X.N=s.N
 nd:s.N.Nodup
 gl:∀x,s.nm.lookup x=some .globalImplicit->Gl X x
 vs:∀x,Cu s x=true->qy X.env.scope x
 lo:∀x,rM s x=true->Loc X.env.scope x
 lc:∀x,s.nm.lookup x=some .local->X.env.scope.names.lookup x=some .local
 ce:∀x,s.nm.lookup x=some .cell->X.env.scope.names.lookup x=some .cell
 fx:∀x,rM s x=true->X.fn x=true\/X.env.scope.names.lookup x=some .local
 cm:s.hd=false->X.calm=true
 rm:s.hd=false->cE k X.A
 ps:s.hd=false->Passes (mL X.prog X.w) X E
 gd:Gd tb k X.prog X.w X.K X.mg X.base
variable{x:Str}
section
variable{tb:Tb}{k:Nat}{X:Cx}{E:XK}{s:Sc}
theorem nS(h:okN x=true):eG x/\t9 x:=by unfold okN at h;rw[O3] at h;exact⟨by simpa using h.1,by simpa using h.2⟩
theorem Sit.slot(S:Sit tb k X E s){i:Nat}(h:M.slot s x=some i):X.N[i]?=some x/\qy X.env.scope x/\eG x/\t9 x:=by
 obtain⟨h1,h2⟩:=aj h;rw[O3] at h1;obtain⟨j,J,l⟩:=ku h2;obtain rfl:i=j:=by omega
 exact⟨by rw[S.n];exact l,S.vs x h1.1,(nS h1.2).1,(nS h1.2).2⟩
theorem Sit.cU(S:Sit tb k X E s){i:Nat}(h:M.cU s x=some i):X.N[i]?=some x/\Loc X.env.scope x/\eG x/\(X.fn x=true\/X.env.scope.names.lookup x=some .local):=by
 obtain⟨h1,h2⟩:=aj h;rw[O3] at h1;obtain⟨j,J,l⟩:=ku h2;obtain rfl:i=j:=by omega
 exact⟨by rw[S.n];exact l,S.lo x h1.1,(nS h1.2).1,S.fx x h1.1⟩
theorem Sit.glob(S:Sit tb k X E s)(h:qK s x=true):Gl X x/\eG x:=by unfold qK l6 at h;rw[O3,beq_iff_eq] at h;exact⟨S.gl x h.1,(nS h.2).1⟩
end
noncomputable def notStar:Expr->Bool
 | .Starred _ _=>false
 |_=>true
variable{e:Expr}
theorem az(h:notStar e=true)(es:List Expr)(env:Env):starEach (e::es) env=(false,eval e env)::starEach es env:=by cases e<;>first|rfl|cases h
theorem dQ{env:Env}{pos:Pos}:∀{es:List Expr},es.all notStar=true->(backTo pos (starEach es env)).any (·.1)=false
 |[],_=>rfl
 |e::es,h=>by rw[P4,O3] at h;rw[az h.1];show (false || (backTo pos (starEach es env)).any (·.1))=false;rw[dQ h.2];rfl
noncomputable def hJ:Expr->Bool
 | .ListComp _ _ _ _=>false
 | .SetComp _ _ _ _=>false
 | .DictComp _ _ _ _ _=>false
 |_=>true
theorem c9(h:hJ e=true)(t:Option Expr)(l:Nat)(env:Env):swapsWith e t l env=pure false:=by cases e<;>first|rfl|cases h
noncomputable def eF:Expr->Bool
 | .Set _ _ _=>false
 |_=>true
theorem lC(h:eF e=true)(env:Env)(x:Value):foldedSetIterable e env x=pure x:=by cases e<;>first|rfl|cases h
noncomputable def plainT:Expr->Bool
 | .UnaryOp _ _ _=>false
 | .BoolOp _ _ _=>false
 | .IfExp _ _ _ _=>false
 | .Compare _ _ _ _=>false
 |_=>true
theorem rX(h:plainT e=true)(env:Env):∀I,isTrue e env I=(do let v <- I;standAt e.pos;holding [v] (truthy v)):=by intro I;cases e<;>first|rfl|cases h
noncomputable def d6:Expr->Bool
 | .Slice _ _ _ _=>false
 |_=>true
theorem qV(h:d6 e=true):jP e:=by intro o i;cases e<;>first|rfl|cases h
theorem Dn(h:d6 e=true):yW e:=by intro o i;cases e<;>first|rfl|cases h
variable{op:CmpOp}
theorem fI(h:eF e=true):behindInMarks op e=false:=by cases e<;>first|rfl|cases h
theorem ub{env:Env}:∀es:List Expr,(assignEach es env).length=es.length
 |[]=>rfl
 |e::es=>by cases e<;>(show (_::assignEach es env).length=_;rw[Pl,Pl,ub es])
theorem pI{env:Env}:∀es:List Expr,es.all notStar=true->(assignEach es env).findIdx? (·.1)=none
 |[],_=>rfl
 |e::es,h=>by
  rw[P4,O3] at h;have m:=pI (env:=env) es h.2;have J:assignEach (e::es) env=(false,assign e env)::assignEach es env:=by cases e<;>first|rfl|cases h.1
  rw[J,List.findIdx?_cons];simp[m]
variable{env:Env}
theorem xM{es:List Expr}(h:notStar e=true):(assignEach (e::es) env).map (·.2)=assign e env::(assignEach es env).map (·.2):=by cases e<;>first|rfl|cases h
noncomputable def MF(l:List Str):Str->Bool:=λc=>l.contains c
variable{b:Expr}{m:Mi Rr}{pos p:Pos}{f:Str}
section
variable{tb:Tb}{k:Nat}{X:Cx}{E:XK}{s:Sc}
def u6(F:Expr->Option (Mi Rr)):List Expr->Option (Mi (List Rr))
 |[]=>some fk
 |e::es=>cw (notStar e) (af (F e) λm=>af (u6 F es) λn=>some (cz m n))
def BX(F G:Expr->Option (Mi Rr)):List Expr->List Bool->Option (Mi (List Rr))
 |[],_=>some fk
 |e::es,b::bs=>cw (notStar e) (af (match b with|true=>F e|false=>G e) λm=>af (BX F G es bs) λn=>some (cz m n))
 |_::_,[]=>none
def NL(m:Mi (List Rr))(n:Nat):Prop:=∀Z rs O,m Z=some (.ok rs,O)->rs.length=n
theorem iD{F:Expr->Option (Mi Rr)}(h:∀e m,F e=some m->JE X E e m):∀{es:List Expr}{m:Mi (List Rr)},u6 F es=some m->JA X E es m/\NL m es.length/\es.all notStar=true
 |[],m,e=>by cases e;exact⟨rC,qL,rfl⟩
 |a::es,m,e=>by obtain⟨h1,e⟩:=aj e;obtain⟨R,J,e⟩:=aa e;obtain⟨V,l,e⟩:=aa e;cases e;obtain⟨o,A,x⟩:=iD h l;exact⟨oB (h _ _ J) o (az h1 _ _),oF A,by rw[P4,h1,x];rfl⟩
theorem jK{F G:Expr->Option (Mi Rr)}(h:∀e m,F e=some m->JE X E e m)(g:∀e m,G e=some m->JE X E e m):∀{es:List Expr}{bs:List Bool}{m:Mi (List Rr)},BX F G es bs=some m->JA X E es m/\NL m es.length/\es.all notStar=true
 |[],_,m,e=>by cases e;exact⟨rC,qL,rfl⟩
 |_::_,[],m,e=>by cases e
 |a::es,b::bs,m,e=>by
  obtain⟨h1,e⟩:=aj e;obtain⟨R,J,e⟩:=aa e;obtain⟨V,l,e⟩:=aa e;cases e;obtain⟨o,A,x⟩:=jK h g l;refine⟨oB ?_ o (az h1 _ _),oF A,by rw[P4,h1,x];rfl⟩;cases b
  .exact g _ _ J
  .exact h _ _ J
def Nc(op:BoolOp)(F:Expr->Option (Mi Rr)):List Expr->Option (Mi Rr)
 |[]=>none
 |[a]=>F a
 |a::b::r=>af (F a) λm=>af (Nc op F (b::r)) λn=>some (match op with | .And=>kj m n | .Or=>JM m n)
theorem zS{op:BoolOp}{F:Expr->Option (Mi Rr)}{pos:Pos}(h:∀e m,F e=some m->JE X E e m):∀{es:List Expr}{m:Mi Rr},Nc op F es=some m->JE X E (.BoolOp op es pos) m
 |[],m,e=>by cases e
 |[a],m,e=>GA (h _ _ e)
 |a::b::r,m,e=>by
  obtain⟨R,J,e⟩:=aa e;obtain⟨V,l,e⟩:=aa e;have i:=zS (pos:=pos) h l;cases op
  .cases e;exact GW (h _ _ J) i
  .cases e;exact KA (h _ _ J) i
def Nz(op:BoolOp)(F:Expr->Option (Mi Bool)):List Expr->Option (Mi Bool)
 |[]=>none
 |[a]=>F a
 |a::b::r=>af (F a) λm=>af (Nz op F (b::r)) λn=>some (match op with | .And=>qc m n | .Or=>Aj m n)
theorem zX{op:BoolOp}{F:Expr->Option (Mi Bool)}{pos:Pos}(h:∀e m,F e=some m->JT X E e m):∀{es:List Expr}{m:Mi Bool},Nz op F es=some m->JW X E (.BoolOp op es pos) m
 |[],m,e=>by cases e
 |[a],m,e=>by cases op;exact BL (h _ _ e);exact GR (h _ _ e)
 |a::b::r,m,e=>by
  obtain⟨R,J,e⟩:=aa e;obtain⟨V,l,e⟩:=aa e;have i:=zX (pos:=pos) h l;cases op
  .cases e;exact EG (h _ _ J) i
  .cases e;exact JY (h _ _ J) i
def Oc(s:Sc)(op:CmpOp)(a b:Expr)(m n:Mi Rr):Option (Mi Rr):=match op with
 | .Eq=>cw (!s.hd) (some (av iU m n))
 | .NotEq=>cw (!s.hd) (some (av dA m n))
 | .Lt=>some (av El m n)
 | .LtE=>some (av Mm m n)
 | .Gt=>some (av Ij m n)
 | .GtE=>some (av IT m n)
 | .Is=>some (av (Eh false) m n)
 | .IsNot=>some (av (Eh true) m n)
 | .In=>cw (!s.hd&&eF b) (some (av (bI (bI (bI (fP false) (dm false)) (iV false)) (gu false)) m n))
 | .NotIn=>cw (!s.hd&&eF b) (some (av (bI (bI (bI (fP true) (dm true)) (iV true)) (gu true)) m n))
theorem Fy(S:Sit tb k X E s){a:Expr}{n q:Mi Rr}(h:Oc s op a b m n=some q)(ha:JE X E a m)(d:JE X E b n):JE X E (.Compare a [op] [b] pos) q/\JT X E (.Compare a [op] [b] pos) (aq q):=by
 cases op
 case Eq=>obtain⟨h1,h⟩:=aj h;have f:=(S.rm (by simpa using h1)).units;cases h;exact⟨LJ f ha d,IY f ha d⟩
 case NotEq=>obtain⟨h1,h⟩:=aj h;have f:=(S.rm (by simpa using h1)).units;cases h;exact⟨Jf f ha d,JR f ha d⟩
 case Lt=>cases h;exact⟨Ll ha d,LN ha d⟩
 case LtE=>cases h;exact⟨IV ha d,K5 ha d⟩
 case Gt=>cases h;exact⟨Kc ha d,Kj ha d⟩
 case GtE=>cases h;exact⟨K1 ha d,K6 ha d⟩
 case Is=>cases h;exact⟨KW ha d,LS ha d⟩
 case IsNot=>cases h;exact⟨AD ha d,B9 ha d⟩
 case In=>obtain⟨h1,h⟩:=aj h;rw[O3] at h1;have f:=mX (S.rm (by simpa using h1.1));cases h;exact⟨FZ f (S.rm (by simpa using h1.1)).units ha d (fI h1.2),EY f (S.rm (by simpa using h1.1)).units ha d (fI h1.2)⟩
 case NotIn=>obtain⟨h1,h⟩:=aj h;rw[O3] at h1;have f:=mX (S.rm (by simpa using h1.1));cases h;exact⟨CK f (S.rm (by simpa using h1.1)).units ha d (fI h1.2),Ck f (S.rm (by simpa using h1.1)).units ha d (fI h1.2)⟩
def Mp:CmpOp->Option (Int->Int->Bool)
 | .Lt=>some NH
 | .LtE=>some Mz
 | .Gt=>some Of
 | .GtE=>some OA
 |_=>none
theorem x8{p:Int->Int->Bool}(h:Mp op=some p):∃r,cP X (compareOp op) r/\∀i j H Q,Q (.bl (p i j)) H->r (.int i) (.int j) H Q:=by
 cases op<;>first|(cases h;done)|skip
 .cases h;exact⟨_,sI,Ed⟩
 .cases h;exact⟨_,uj,Dx⟩
 .cases h;exact⟨_,xR,Jd⟩
 .cases h;exact⟨_,wK,J5⟩
def Nk(f:Str):Option (A->Option Rr):=
 if f==("len" : Str) then some dJ else if f==("abs" : Str) then some yQ else if f==("int" : Str) then some CO else if f==("tuple" : Str) then some gR else
 if f==("list" : Str) then some sN else if f==("sorted" : Str) then some (oV aX a9) else if f==("all" : Str) then some (xw λbs=>bs.all id) else none
theorem bD(S:Sit tb k X E s)(h:C0.contains x=true):X.mg x=none:=S.gd.bl x (Q0.mp h)
theorem EK(S:Sit tb k X E s){g:A->Option Rr}{a:Expr}(h:Nk f=some g)(Q:qK s f=true)(V:s.hd=false)(N:notStar a=true)(ha:JE X E a m):JE X E (.Call (.Name f p) [a] [] pos) (cV g m):=by
 obtain⟨b,w⟩:=S.glob Q;have hc:=S.cm V;have h1:=az N [] X.env;have h2:(backTo pos (starEach [] X.env)).any (·.1)=false:=rfl;unfold Nk at h;split at h
 .rename_i z;rw[beq_iff_eq] at z;subst z;cases h;exact pN zv F5 b (bD S (by decide +kernel)) Hu ha (by decide +kernel) w h1 h2
 split at h
 .rename_i z;rw[beq_iff_eq] at z;subst z;cases h;exact pN zQ EI b (bD S (by decide +kernel)) EU ha (by decide +kernel) w h1 h2
 split at h
 .rename_i z;rw[beq_iff_eq] at z;subst z;cases h;exact yM uR ET b (bD S (by decide +kernel)) zT ha (by decide +kernel) w h1 h2
 split at h
 .rename_i z;rw[beq_iff_eq] at z;subst z;cases h;exact yM lM v7 b (bD S (by decide +kernel)) p8 ha (by decide +kernel) w h1 h2
 split at h
 .rename_i z;rw[beq_iff_eq] at z;subst z;cases h;exact yM ng A4 b (bD S (by decide +kernel)) sS ha (by decide +kernel) w h1 h2
 split at h
 .rename_i z;rw[beq_iff_eq] at z;subst z;cases h;exact pN (oG hc) vm b (bD S (by decide +kernel)) mI ha (by decide +kernel) w h1 h2
 split at h
 .rename_i z;rw[beq_iff_eq] at z;subst z;cases h;exact pN (xB hc) F0 b (bD S (by decide +kernel)) yr ha (by decide +kernel) w h1 h2
 .cases h
def LX(f:Str):Option (A->A->Option Rr):=if f==("max" : Str) then some Bb else if f==("min" : Str) then some CT else none
theorem wk(S:Sit tb k X E s){g:A->A->Option Rr}{a:Expr}{n:Mi Rr}(h:LX f=some g)(Q:qK s f=true)(V:s.hd=false)(N:notStar a=true)(e:notStar b=true)(ha:JE X E a m)(d:JE X E b n):JE X E (.Call (.Name f p) [a,b] [] pos) (Ds g m n):=by
 obtain⟨Y,w⟩:=S.glob Q;have hc:=S.cm V;have h1:=az N [b] X.env;have h3:=az e [] X.env;have h2:(backTo pos (starEach [b] X.env)).any (·.1)=false:=dQ (by rw[P4,e];rfl);unfold LX at h;split at h
 .rename_i z;rw[beq_iff_eq] at z;subst z;cases h;exact Ep (vz hc) E7 Y (bD S (by decide +kernel)) Gj ha d (by decide +kernel) w h1 h3 h2
 split at h
 .rename_i z;rw[beq_iff_eq] at z;subst z;cases h;exact Ep (vh hc) E6 Y (bD S (by decide +kernel)) za ha d (by decide +kernel) w h1 h3 h2
 .cases h
noncomputable def Nl(x:Str):Option Ty:=if x==("int" : Str) then some .int else if x==("bool" : Str) then some .bool else if x==("str" : Str) then some .str else if x==("tuple" : Str) then some .tuple else if x==("list" : Str) then some .list else if x==("dict" : Str) then some .dict else none
theorem HN{T:Ty}(h:Nl x=some T):bootBuiltins x=some (.type T.n)/\C0.contains x=true/\x ≠ "__name__" := by
 unfold Nl at h;split at h
 .rename_i z;rw[beq_iff_eq] at z;subst z;cases h;exact⟨zT,by decide +kernel,by decide +kernel⟩
 split at h
 .rename_i z;rw[beq_iff_eq] at z;subst z;cases h;exact⟨Dp,by decide +kernel,by decide +kernel⟩
 split at h
 .rename_i z;rw[beq_iff_eq] at z;subst z;cases h;exact⟨HV,by decide +kernel,by decide +kernel⟩
 split at h
 .rename_i z;rw[beq_iff_eq] at z;subst z;cases h;exact⟨p8,by decide +kernel,by decide +kernel⟩
 split at h
 .rename_i z;rw[beq_iff_eq] at z;subst z;cases h;exact⟨sS,by decide +kernel,by decide +kernel⟩
 split at h
 .rename_i z;rw[beq_iff_eq] at z;subst z;cases h;exact⟨Dk,by decide +kernel,by decide +kernel⟩
 .cases h
end
structure Tr where
 E:Sc->Expr->Option (Mi Rr)
 T:Sc->Expr->Option (Mi Bool)
 I:Sc->Expr->Expr->Option (Mi (List A))
structure bP(tb:Tb)(k:Nat)(r:Tr):Prop where
 E:∀{X E s e m},Sit tb k X E s->r.E s e=some m->JE X E e m
 T:∀{X E s e m},Sit tb k X E s->r.T s e=some m->JT X E e m
 I:∀{X E s tg e m},Sit tb k X E s->r.I s tg e=some m->JI X E tg e m
def BW(s:Sc)(lo:Nat):Nat->Expr->Option Mg
 |0,_=>none
 |d+1,.Name x _=>af (cU s x) λi=>cw (Ux lo i) (some (bj i))
 |d+1,.Tuple es _ _=>cw (!s.hd) (af (trGs (BW s lo d) es) λgs=>some (jt es.length gs))
 |_+1,_=>none
where trGs (F:Expr->Option Mg):List Expr->Option Ah
 |[]=>some j8
 |e::es=>cw (notStar e) (af (F e) λg=>af (trGs F es) λgs=>some (cF g gs))
variable{r:Tr}{tg:Expr}
section
variable{tb:Tb}{k:Nat}{X:Cx}{E:XK}{s:Sc}
theorem sU{lo:Nat}{F:Expr->Option Mg}(h:∀e g,F e=some g->JG X lo e g):∀{es:List Expr}{gs:Ah},BW.trGs F es=some gs->Jk X lo es gs/\es.all notStar=true
 |[],gs,e=>by cases e;exact⟨Av,rfl⟩
 |a::es,gs,e=>by obtain⟨h1,e⟩:=aj e;obtain⟨g,J,e⟩:=aa e;obtain⟨n,l,e⟩:=aa e;cases e;obtain⟨o,A⟩:=sU h l;exact⟨zE (h _ _ J) o (λx y=>zH x y (xM h1)),by rw[P4,h1,A];rfl⟩
theorem nT(S:Sit tb k X E s){lo:Nat}:∀{d:Nat}{e:Expr}{g:Mg},BW s lo d e=some g->JG X lo e g
 |0,e,g,h=>by cases h
 |d+1,e,g,h=>by
  unfold BW at h;split at h
  .rename_i r;cases r
  .rename_i r;cases r;obtain⟨i,J,h⟩:=aa h;obtain⟨h1,h⟩:=aj h;cases h;obtain⟨l,U,b,Y⟩:=S.cU J;exact AI (by rw[S.n];exact S.nd) l U (Se h1) Y
  .rename_i r;cases r;obtain⟨a,h⟩:=aj h;obtain⟨gs,J,h⟩:=aa h;cases h;obtain⟨o,A⟩:=sU (λe g h=>nT S h) J;have hc:=S.cm (by simpa using a);exact Fs hc o (ub _) (pI _ A)
  .cases h
noncomputable def NX:Expr->Bool
 | .Name _ _=>true
 |_=>false
def EM(r:Tr)(s:Sc)(tg:Expr):Expr->Option (Mi (List A))
 | .Call (.Name f p) [a] [] pos=>match f==("range" : Str) with
  |true=>cw (qK s f&&notStar a) (af (r.E s a) λm=>some (dG m))
  |false=>af (r.E s (.Call (.Name f p) [a] [] pos)) λm=>some (da m)
 |e=>af (r.E s e) λm=>some (da m)
theorem Bo(R:bP tb k r)(S:Sit tb k X E s){m:Mi (List A)}(h:EM r s tg e=some m):JI X E tg e m:=by
 unfold EM at h;split at h
 .split at h
  .rename_i z;rw[beq_iff_eq] at z;subst z;obtain⟨h1,h⟩:=aj h;rw[O3] at h1;obtain⟨V,J,h⟩:=aa h;cases h;exact CB (S.glob h1.1).1 (bD S (by decide +kernel)) (R.E S J) (az h1.2 _ _) (az h1.2 _ _)
  .obtain⟨V,J,h⟩:=aa h;cases h;exact xl (R.E S J)
 .obtain⟨V,J,h⟩:=aa h;cases h;exact xl (R.E S J)
noncomputable def sW{α:Type}(a b:Option α):Option α:=match a with
 |some x=>some x
 |none=>b
theorem bt{a b:Option α}{x:α}(h:sW a b=some x):a=some x\/b=some x:=by
 cases a with
 |none=>exact .inr h
 |some y=>exact .inl h
def Nq(r:Tr)(s:Sc)(tg e:Expr):Option (Mi (List A)):=sW (r.I s tg e) (EM r s tg e)
theorem yx(R:bP tb k r)(S:Sit tb k X E s){m:Mi (List A)}(h:Nq r s tg e=some m):JI X E tg e m:=by
 rcases bt h with h|h
 .exact R.I S h
 .exact Bo R S h
noncomputable def Ou:Nat->Expr->List Str
 |0,_=>[]
 |_+1,.Name x _=>[x]
 |d+1,.Tuple es _ _=>es.flatMap (Ou d)
 |_+1,_=>[]
noncomputable def M9(N own:List Str):List Str:=N.map (λn=>if own.contains n then n++(" (of the def)" : Str) else n)++own
def yt(s:Sc)(N:List Str)(own:Nat)(sc:Scope):Bool:=
 sc.kind==.function&&sc.names.all (λy=>y.2 != .cell)&&sc.names.all (λy=>y.2 != .local || sc.names.lookup y.1==some .local)&&N.length==s.N.length+own&&decide N.Nodup &&
 ((N.take s.N.length).zip s.N).all (λp=>p.1==p.2 || sc.names.lookup p.1==none)&&(N.take s.N.length).all (λn=>sc.names.lookup n != some .local)&&sc.names.all (λy=>y.2 != .free || s.nm.lookup y.1==some .cell)
def xV(s:Sc)(N:List Str)(sc:Scope):Sc:={ N:=N,nm:=sc.names,di:=s.di,ca:=[],hd:=false,lv:=s.lv }
end
variable{elt:Expr}{gs:List Comprehension}{args:List Expr}
section
variable{tb:Tb}{k:Nat}{X:Cx}{E:XK}{s:Sc}
theorem bu{α:Type}{x:Str}{v:α}:∀{l:List (Str×α)},l.lookup x=some v->(x,v)∈l
 |(y,u)::l,h=>by
  rw[P1] at h;split at h
  .rename_i e;cases h;rw[beq_iff_eq.mp e];exact PK
  .exact Pa _ (bu h)
theorem Sit.comp(S:Sit tb k X E s){N:List Str}{sc:Scope}{own:Nat}(h:yt s N own sc=true)(V:s.hd=false):
  eQ X.N N own sc X.env.scope/\∀cl C u H fp,Sit tb k (gJ X N sc cl C u H fp) jH (xV s N sc):=by
 unfold yt at h;simp only[O3,beq_iff_eq,decide_eq_true_eq,PZ,Qw,bne_iff_ne,ne_eq] at h;obtain⟨⟨⟨⟨⟨⟨⟨h1,h2⟩,h3⟩,h4⟩,h5⟩,r⟩,c⟩,q⟩:=h;refine⟨⟨h1,h2,λy m e=>?_,by rw[S.n];exact h4,h5,by rw[S.n];exact r,by rw[S.n];exact c,λy m e=>?_⟩,λcl C u H fp=>?_⟩
 .rcases h3 y m with z|z
  .exact absurd e z
  .exact z
 .rcases q y m with z|z
  .exact absurd e z
  .exact .inl (S.ce _ z)
 .have loc:∀x,rM (xV s N sc) x=true->sc.names.lookup x=some .local:=λx L=>by
   unfold rM l6 xV at L;simp only[Qw,beq_iff_eq] at L;rcases L with z|z
   .exact z
   .exact absurd rfl (h2 _ (bu z))
  refine⟨rfl,h5,λx L=>zV L,λx L=>?_,λx L=>.inl (f9 (loc x L)),λx L=>f9 L,λx L=>absurd rfl (h2 _ (bu L)),λx L=>.inr (f9 (loc x L)),λ_=>S.cm V,λ_=>S.rm V,λ_=>y9,S.gd⟩;unfold Cu l6 xV at L;simp only[Qw,beq_iff_eq] at L;rcases L with (z|z)|z
  .exact .inl (f9 z)
  .exact absurd rfl (h2 _ (bu z))
  .exact pd z
def EB(r:Tr)(s:Sc):List Expr->Option (Mi Bool)
 |[]=>some bF
 |[t]=>r.T s t
 |_=>none
def n4(r:Tr)(s:Sc)(elt:Expr)(gs:List Comprehension)(sc:Scope):Option (Mi Rr):=match gs with
 |[g]=>
  let own:=Ou 9 g.target
  let N:=M9 s.N own
  let s':=xV s N sc
  cw (!s.hd&&g.is_async==0&&eF g.iter&&yt s N own.length sc) (af (Nq r s g.target g.iter) λv=>af (BW s' s.N.length 9 g.target) λG=>af (EB r s' g.ifs) λmt=>af (r.E s' elt) λe=>some (bV own.length v G mt e))
 |_=>none
theorem Bi(R:bP tb k r)(S:Sit tb k X E s){ifs:List Expr}{m:Mi Bool}(h:EB r s ifs=some m):JF X E ifs m:=by
 unfold EB at h;split at h
 .cases h;exact HB
 .exact ER (R.T S h)
 .cases h
theorem mQ(R:bP tb k r)(S:Sit tb k X E s){sc:Scope}(h:n4 r s elt gs sc=some m):
  s.hd=false/\∃N own tg iter ifs v G mt e,gs=[⟨tg,iter,ifs,0⟩]/\m=bV own v G mt e/\eQ X.N N own sc X.env.scope/\JI X E tg iter v/\(∀cl C u H fp,JG (gJ X N sc cl C u H fp) X.N.length tg G) /\
   (∀cl C u H fp,JF (gJ X N sc cl C u H fp) jH ifs mt)/\(∀cl C u H fp,JE (gJ X N sc cl C u H fp) jH elt e)/\∀x,foldedSetIterable iter X.env x=pure x:=by
 unfold n4 at h;split at h
 .rename_i g;obtain⟨tg,iter,ifs,F⟩:=g;obtain⟨J,h⟩:=aj h;simp only[O3,beq_iff_eq,Pw] at J;obtain⟨⟨⟨h1,rfl⟩,h3⟩,h4⟩:=J;obtain⟨v,L,h⟩:=aa h;obtain⟨G,l,h⟩:=aa h;obtain⟨mt,T,h⟩:=aa h;obtain⟨e,V,h⟩:=aa h;cases h;obtain⟨a,Y⟩:=S.comp h4 h1;exact⟨h1,_,_,tg,iter,ifs,v,G,mt,e,rfl,rfl,a,yx R S L,λcl C u H fp=>by rw[S.n];exact nT (Y cl C u H fp) l,λcl C u H fp=>Bi R (Y cl C u H fp) T,λcl C u H fp=>R.E (Y cl C u H fp) V,lC h3 _⟩
 .cases h
def Nh(F:Expr->Option (Mi Rr)):Option Expr->Option (Mi (Option Int))
 |none=>some bR
 |some e=>af (F e) λm=>some (bZ m)
theorem zY{F:Expr->Option (Mi Rr)}(h:∀e m,F e=some m->JE X E e m){o:Option Expr}{m:Mi (Option Int)}(e:Nh F o=some m):JP X E o m:=by
 cases o with
 |none=>cases e;exact De
 |some a=>obtain⟨R,J,e⟩:=aa e;cases e;exact B3 (h _ _ J)
def ye(r:Tr)(s:Sc)(a:Expr):Expr->Option (Mi Rr)
 | .Slice lo hi none _=>af (r.E s a) λm=>af (Nh (r.E s) lo) λH=>af (Nh (r.E s) hi) λh=>some (pF m H h)
 |b=>cw (d6 b&&!s.hd) (af (r.E s a) λm=>af (r.E s b) λn=>some (av (bI lP cX) m n))
theorem zr(R:bP tb k r)(S:Sit tb k X E s){a:Expr}(h:ye r s a b=some m):JE X E (.Subscript a b pos) m:=by
 unfold ye at h;split at h
 .obtain⟨V,L,h⟩:=aa h;obtain⟨d,l,h⟩:=aa h;obtain⟨n,T,h⟩:=aa h;cases h;exact JD (R.E S L) (zY (λ_ _=>R.E S) l) (zY (λ_ _=>R.E S) T)
 .obtain⟨J,h⟩:=aj h;simp only[O3,Pw] at J;obtain⟨V,L,h⟩:=aa h;obtain⟨d,l,h⟩:=aa h;cases h;exact JK (mX (S.rm J.2)) (R.E S L) (R.E S l) (qV J.1) (Dn J.1)
noncomputable def ON(f:Str):Bool:=match f.cps[0]? with
 |some c=>Ux 65 c&&Ux c 90
 |none=>false
def Ii:Expr->Bool
 | .ListComp _ _ _ _=>true
 | .List _ _=>true
 | .Dict _ _ _=>true
 | .BinOp _ .Add _ _=>true
 | .Subscript _ (.Slice _ _ _ _) _=>true
 | .Call (.Name f _) _ _ _=>f==("list" : Str) || f==("sorted" : Str) || f==("dict" : Str) || ON f
 | .Call (.Attribute _ _ _) _ _ _=>true
 |_=>false
def Ml(r:Tr)(s:Sc)(e:Expr):Option (Mi Rr):=match e with
 | .Name x _=>match s.lv.contains x with
  |true=>r.E s e
  |false=>match slot s x with
   |some i=>some (aR i)
   |none=>r.E s e
 |e=>match Ii e with
  |true=>af (r.E s e) λm=>some (tK m)
  |false=>r.E s e
theorem sA(R:bP tb k r)(S:Sit tb k X E s)(h:Ml r s e=some m):JE X E e m:=by
 unfold Ml at h;split at h
 .split at h
  .exact R.E S h
  split at h
  .rename_i J;cases h;obtain⟨l,U,b,Y⟩:=S.slot J;exact CC l U b Y
  .exact R.E S h
 .split at h
  .obtain⟨V,J,h⟩:=aa h;cases h;exact Kw (R.E S J)
  .exact R.E S h
def GV(tb:Tb)(r:Tr)(s:Sc)(fi:FI)(args:List Expr):Option (Mi (List Rr)):=cw (args.length+(y0 fi args.length).length==fi.n) (BX (r.E s) (Ml r s) args fi.mu)
def Du(tb:Tb)(r:Tr)(s:Sc)(a:Expr)(x:Str):Option (Mi Rr):=match Nl x with
 |some T=>af (r.E s a) λm=>some (cV (kM T) m)
 |none=>none
def wt(tb:Tb)(r:Tr)(s:Sc)(f:Str)(args:List Expr):Option (Mi Rr):=cw (qK s f) (match tb.fns.lookup f with
 |some fi=>match args with
  |[]=>none
  |a::as=>match s.hd with
   |true=>none
   |false=>af (GV tb r s fi (a::as)) λm=>some (iw fi.m (y0 fi (a::as).length) m)
 |none=>match args with
  |[a]=>cw (notStar a&&!s.hd) (af (Nk f) λg=>af (r.E s a) λm=>some (cV g m))
  |[a,.Name x p]=>match f==("isinstance" : Str) with
   |true=>cw (notStar a&&qK s x) (Du tb r s a x)
   |false=>cw (notStar a&&!s.hd) (af (LX f) λg=>af (r.E s a) λm=>af (r.E s (.Name x p)) λn=>some (Ds g m n))
  |[a,b]=>cw (notStar a&&notStar b&&!s.hd) (af (LX f) λg=>af (r.E s a) λm=>af (r.E s b) λn=>some (Ds g m n))
  | _=>none)
theorem vb(R:bP tb k r)(S:Sit tb k X E s)(h:wt tb r s f args=some m):JE X E (.Call (.Name f p) args [] pos) m:=by
 have h':=aj h;clear h;obtain⟨Q,h⟩:=h';split at h
 .rename_i fi K;split at h
  .cases h
  .rename_i a as;split at h
   .cases h
   rename_i n;obtain⟨H,L,h⟩:=aa h;cases h;obtain⟨h1,L⟩:=aj L;obtain⟨o,A,q⟩:=jK (λ_ _=>R.E S) (λ_ _=>sA R S) L;obtain⟨I,fd,ps,F,hm,hk,d⟩:=S.gd.fn f fi K;obtain⟨ds,dvs,c,G,e⟩:=d.of (a::as).length;have x:=q;rw[P4,O3] at x;exact Aw F (S.rm n) (S.glob Q).1 hm hk c G e (S.ps n) o (nQ A (by rw[beq_iff_eq] at h1;exact h1)) (S.glob Q).2 (az x.1 _ _) (dQ x.2)
 .split at h
  .obtain⟨J,h⟩:=aj h;simp only[O3,Pw] at J;obtain⟨g,L,h⟩:=aa h;obtain⟨V,l,h⟩:=aa h;cases h;exact EK S L Q J.2 J.1 (R.E S l)
  .split at h
   .rename_i z;rw[beq_iff_eq] at z;subst z;obtain⟨J,h⟩:=aj h;simp only[O3] at J;obtain⟨b,w⟩:=S.glob Q;obtain⟨v,y⟩:=S.glob J.2;unfold Du at h;split at h
    .rename_i T U;obtain⟨V,l,h⟩:=aa h;cases h;obtain⟨t,Y,Z⟩:=HN U;exact FW T b (bD S (by decide +kernel)) lJ v (bD S Y) t (R.E S l) (by decide +kernel) w Z y (az J.1 _ _)
    .cases h
   .obtain⟨J,h⟩:=aj h;simp only[O3,Pw] at J;obtain⟨g,L,h⟩:=aa h;obtain⟨V,l,h⟩:=aa h;obtain⟨C,D,h⟩:=aa h;cases h;exact wk S L Q J.2 J.1 rfl (R.E S l) (R.E S D)
  .obtain⟨J,h⟩:=aj h;simp only[O3,Pw] at J;obtain⟨g,L,h⟩:=aa h;obtain⟨V,l,h⟩:=aa h;obtain⟨C,D,h⟩:=aa h;cases h;exact wk S L Q J.2 J.1.1 J.1.2 (R.E S l) (R.E S D)
  .cases h
end
variable{o:Expr}{apos cpos:Pos}
section
variable{tb:Tb}{k:Nat}{X:Cx}{E:XK}{s:Sc}
noncomputable def wG(o:Expr):Bool:=match o with
 | .Call f args kw _=>match f with
  | .Name _ _=>!(args.isEmpty&&kw.isEmpty)
  |_=>true
 |_=>true
theorem iM(h:wG o=true)(m:Str)(env:Env)(w:Sem Value):attributeBase o m env w=w:=by
 cases o with
 |Call f args E p=>cases f with
  |Name _ _=>cases args with
   |cons _ _=>rfl
   |nil=>cases E with
    |cons _ _=>rfl
    |nil=>cases h
  |_=>rfl
 |_=>rfl
theorem wC(h:notStar e=true)(cpos:Pos)(env:Env):((backTo cpos (starEach [e] env)).all (λx=>!x.1)&&(backToKw cpos (keywordEach [] env)).all (λx=>x.1.isSome)&&decide (([e]:List Expr).length+([]:List Keyword).length+(if ([]:List Keyword).isEmpty then 0 else 1)<30))=true:=by rw[az h];rfl
theorem NK{f:Expr}(h:notStar e=true)(h':notStar f=true)(cpos:Pos)(env:Env):((backTo cpos (starEach [e,f] env)).all (λx=>!x.1)&&(backToKw cpos (keywordEach [] env)).all (λx=>x.1.isSome)&&decide (([e,f]:List Expr).length+([]:List Keyword).length+(if ([]:List Keyword).isEmpty then 0 else 1)<30))=true:=by rw[az h,az h'];rfl
theorem Lw{f:Expr}{m:Str}(J:wG o=true)(h:notStar e=true)(h':notStar f=true)(hl:(apos.endLine==cpos.line)=true):M2 X o m apos e f cpos:=⟨iM J _ _ _,NK h h' _ _,hl,by rw[az h,az h'];rfl⟩
def OF(e:Expr):Option (Expr×Str×Pos×Pos):=match e with
 | .Call f args kw cpos=>match f with
  | .Attribute o m apos=>cw (args.isEmpty&&kw.isEmpty) (some (o,m,apos,cpos))
  |_=>none
 |_=>none
def zi(e:Expr):Option (Expr×Str×Pos×Expr×Pos):=match e with
 | .Call f args kw cpos=>match f with
  | .Attribute o m apos=>match args with
   |[a]=>cw (kw.isEmpty&&notStar a) (some (o,m,apos,a,cpos))
   |_=>none
  |_=>none
 |_=>none
theorem ja{a:Expr}{m:Str}(h:zi e=some (o,m,apos,a,cpos)):e=.Call (.Attribute o m apos) [a] [] cpos/\notStar a=true:=by
 unfold zi at h;split at h
 .rename_i f args E c;split at h
  .split at h
   .obtain⟨J,h⟩:=aj h;rw[O3,Ql] at J;cases h;rw[J.1];exact⟨rfl,J.2⟩
   .cases h
  .cases h
 .cases h
def zR(e:Expr):Option (Str×Pos×Expr×Pos):=match e with
 | .Call f args kw cpos=>match f with
  | .Name x p=>match args with
   |[a]=>cw (kw.isEmpty&&notStar a) (some (x,p,a,cpos))
   |_=>none
  |_=>none
 |_=>none
theorem i5{a:Expr}(h:zR e=some (x,p,a,cpos)):e=.Call (.Name x p) [a] [] cpos/\notStar a=true:=by
 unfold zR at h;split at h
 .rename_i f args E c;split at h
  .split at h
   .obtain⟨J,h⟩:=aj h;rw[O3,Ql] at J;cases h;rw[J.1];exact⟨rfl,J.2⟩
   .cases h
  .cases h
 .cases h
noncomputable def vt(e:Expr):Option (Str×Pos):=match e with
 | .Name x p=>some (x,p)
 |_=>none
theorem bQ(h:vt e=some (x,p)):e=.Name x p:=by
 unfold vt at h;split at h
 .cases h;rfl
 .cases h
noncomputable def Ny:Expr->Bool
 | .Call _ _ _ _=>true
 |_=>false
def o8(tb:Tb)(r:Tr)(s:Sc)(e:Expr):Option (Mi Rr):=af (zR e) λ(f,_,a,_)=>cw (qK s f&&!s.hd&&Ny a) (af (tb.fns.lookup f) λfi=>cw (fi.mu==[true]&&1+(y0 fi 1).length==fi.n) (af (r.E s a) λm=>some (nI fi.m (y0 fi 1) (cz m fk))))
theorem pO(R:bP tb k r)(S:Sit tb k X E s){q:Mi Rr}(h:o8 tb r s e=some q):JE X E e q:=by obtain⟨⟨f,p,a,cpos⟩,h1,g⟩:=aa h;clear h;obtain⟨rfl,N⟩:=i5 h1;obtain⟨h2,g⟩:=aj g;simp only[O3,Pw] at h2;obtain⟨⟨Q,V⟩,_⟩:=h2;obtain⟨fi,K,g⟩:=aa g;obtain⟨h3,g⟩:=aj g;rw[O3,beq_iff_eq (a:=1+_)] at h3;obtain⟨m,J,g⟩:=aa g;cases g;obtain⟨I,fd,ps,F,hm,hk,d⟩:=S.gd.fn f fi K;obtain⟨ds,dvs,c,G,x⟩:=d.of 1;exact z4 F (S.rm V) (S.glob Q).1 hm hk c G x (S.ps V) (oB (R.E S J) rC (az N _ _)) (nQ (oF qL) h3.2) (S.glob Q).2 (az N _ _) rfl
def tW(_:Tb)(r:Tr)(s:Sc)(e:Expr):Option (Mi Rr):=af (zR e) λ(f,_,a,_)=>cw (f==("sorted" : Str)&&qK s f&&!s.hd) (af (vt a) λ(x,_)=>cw (s.di.contains x&&s.lv.contains x) (af (slot s x) λi=>some (iW i)))
theorem qU(R:bP tb k r)(S:Sit tb k X E s){q:Mi Rr}(h:tW tb r s e=some q):JE X E e q:=by obtain⟨⟨f,p,a,pos⟩,h1,g⟩:=aa h;clear h;obtain⟨rfl,N⟩:=i5 h1;obtain⟨h2,h⟩:=aj g;clear g;rw[O3,O3,beq_iff_eq,Pw] at h2;obtain⟨⟨rfl,Q⟩,V⟩:=h2;obtain⟨⟨x,z⟩,h3,w⟩:=aa h;clear h;obtain rfl:=bQ h3;obtain⟨_,h⟩:=aj w;obtain⟨i,J,h⟩:=aa h;cases h;obtain⟨l,U,b,Y⟩:=S.slot J;exact yc (S.cm V) l U b Y (S.glob Q).1 (bD S (by decide +kernel)) mI (by decide +kernel) (S.glob Q).2 (az N _ _) rfl
def lY(_:Tb)(r:Tr)(s:Sc)(e:Expr):Option (Mi Rr):=af (zi e) λ(o,m,apos,a,cpos)=>cw (m==("extend" : Str)&&apos.endLine==cpos.line) (af (vt o) λ(x,_)=>af (slot s x) λi=>af (r.E s a) λn=>some (fq i (gj i n)))
theorem oI(R:bP tb k r)(S:Sit tb k X E s){q:Mi Rr}(h:lY tb r s e=some q):JE X E e q:=by obtain⟨⟨o,m,apos,a,cpos⟩,h1,g⟩:=aa h;clear h;obtain⟨rfl,N⟩:=ja h1;obtain⟨h2,h⟩:=aj g;rw[O3,beq_iff_eq] at h2;obtain⟨⟨x,c⟩,h3,w⟩:=aa h;clear h;obtain rfl:=bQ h3;obtain⟨i,J,h⟩:=aa w;obtain⟨n,l,h⟩:=aa h;obtain⟨Y,U,b,z⟩:=S.slot J;cases h;obtain⟨rfl,hl⟩:=h2;exact uX Y U b z (R.E S l) rfl (wC N _ _) hl (az N _ _) rfl
def pE(_:Tb)(r:Tr)(s:Sc)(e:Expr):Option (Mi Rr):=af (zi e) λ(o,m,apos,a,cpos)=>cw (m==("pop" : Str)&&apos.endLine==cpos.line) (af (vt o) λ(x,_)=>af (slot s x) λi=>af (r.E s a) λn=>some (fR i n))
theorem pJ(R:bP tb k r)(S:Sit tb k X E s){q:Mi Rr}(h:pE tb r s e=some q):JE X E e q:=by obtain⟨⟨o,m,apos,a,cpos⟩,h1,g⟩:=aa h;clear h;obtain⟨rfl,N⟩:=ja h1;obtain⟨h2,h⟩:=aj g;rw[O3,beq_iff_eq] at h2;obtain⟨⟨x,c⟩,h3,w⟩:=aa h;clear h;obtain rfl:=bQ h3;obtain⟨i,J,h⟩:=aa w;obtain⟨n,l,h⟩:=aa h;obtain⟨Y,U,b,z⟩:=S.slot J;cases h;obtain⟨rfl,hl⟩:=h2;exact xD Y U b z (R.E S l) rfl (wC N _ _) hl (az N _ _) rfl
def ud(_:Tb)(r:Tr)(s:Sc)(e:Expr):Option (Mi Rr):=af (zR e) λ(f,_,a,_)=>cw (f==("min" : Str)&&qK s f&&!s.hd) (af (r.E s a) λn=>some (cV kD n))
theorem sC(R:bP tb k r)(S:Sit tb k X E s){q:Mi Rr}(h:ud tb r s e=some q):JE X E e q:=by obtain⟨⟨f,p,a,cpos⟩,h1,g⟩:=aa h;clear h;obtain⟨rfl,N⟩:=i5 h1;obtain⟨h2,g⟩:=aj g;simp only[O3,beq_iff_eq,Pw] at h2;obtain⟨n,l,g⟩:=aa g;cases g;obtain⟨⟨rfl,Q⟩,V⟩:=h2;exact pN (uI (S.cm V)) AG (S.glob Q).1 (bD S (by decide +kernel)) za (R.E S l) (by decide +kernel) (S.glob Q).2 (az N _ _) rfl
def yO(_:Tb)(r:Tr)(s:Sc)(e:Expr):Option (Mi Rr):=af (zi e) λ(o,m,apos,a,cpos)=>cw (m==("index" : Str)&&apos.endLine==cpos.line) (af (vt o) λ_=>af (r.E s o) λn=>af (r.E s a) λq=>some (yZ n q))
theorem vf(R:bP tb k r)(S:Sit tb k X E s){q:Mi Rr}(h:yO tb r s e=some q):JE X E e q:=by obtain⟨⟨o,m,apos,a,cpos⟩,h1,g⟩:=aa h;clear h;obtain⟨rfl,N⟩:=ja h1;obtain⟨h2,h⟩:=aj g;rw[O3,beq_iff_eq] at h2;obtain⟨⟨x,c⟩,h3,w⟩:=aa h;clear h;obtain rfl:=bQ h3;obtain⟨n,J,h⟩:=aa w;obtain⟨t,l,h⟩:=aa h;cases h;obtain⟨rfl,hl⟩:=h2;exact Gr (R.E S J) (R.E S l) rfl (wC N _ _) hl (az N _ _) rfl
def xP(tb:Tb)(r:Tr)(s:Sc)(e:Expr):Option (Mi Rr):=sW (o8 tb r s e) (sW (tW tb r s e) (none))
theorem K7(R:bP tb k r)(S:Sit tb k X E s)(h:xP tb r s e=some m):JE X E e m:=by
 rcases bt h with h|h
 .exact pO R S h
 rcases bt h with h|h
 .exact qU R S h
 cases h
def xE(tb:Tb)(r:Tr)(s:Sc)(e:Expr):Option (Mi Rr):=sW (lY tb r s e) (sW (pE tb r s e) (sW (ud tb r s e) (sW (yO tb r s e) (none))))
theorem Kb(R:bP tb k r)(S:Sit tb k X E s)(h:xE tb r s e=some m):JE X E e m:=by
 rcases bt h with h|h
 .exact oI R S h
 rcases bt h with h|h
 .exact pJ R S h
 rcases bt h with h|h
 .exact sC R S h
 rcases bt h with h|h
 .exact vf R S h
 cases h
noncomputable def xT(tb:Tb)(r:Tr)(s:Sc)(e:Expr):Option (Mi Bool):=none
theorem Ld(R:bP tb k r)(S:Sit tb k X E s){m:Mi Bool}(h:xT tb r s e=some m):JT X E e m:=by cases h
noncomputable def xI(tb:Tb)(r:Tr)(s:Sc)(tg e:Expr):Option (Mi (List A)):=none
theorem J3(R:bP tb k r)(S:Sit tb k X E s){m:Mi (List A)}(h:xI tb r s tg e=some m):JI X E tg e m:=by cases h
end
section
variable{tb:Tb}{k:Nat}{X:Cx}{E:XK}{s:Sc}
def LV(s:Sc)(o:Expr)(m:Str):Option (Mi Rr):=match o with
 | .Name x _=>af (slot s x) λi=>if m==("clear" : Str) then some (rA i) else if m==("pop" : Str) then some (qS i) else none
 |_=>none
def Kn(r:Tr)(s:Sc)(o:Expr)(m:Str)(e:Expr):Option (Mi Rr):=
 if m==("append" : Str) then (match o with
  | .Name x _=>af (slot s x) λi=>af (r.E s e) λn=>some (fq i (fg i n))
  | _=>none)
 else if m==("join" : Str) then af (r.E s o) λa=>af (r.E s e) λn=>some (IH hU a n)
 else none
def xN(tb:Tb)(r:Tr)(s:Sc)(o:Expr)(m:Str)(apos:Pos)(args:List Expr)(cpos:Pos):Option (Mi Rr):=cw (apos.endLine==cpos.line&&wG o) (match args with
 |[]=>LV s o m
 |[e]=>cw (notStar e) (Kn r s o m e)
 |[e,f]=>cw (notStar e&&notStar f&&m==("get" : Str)&&!s.hd) (af (r.E s o) λd=>af (r.E s e) λy=>af (r.E s f) λx=>some (lU d y x))
 | _=>none)
theorem uZ(R:bP tb k r)(S:Sit tb k X E s){q:Str}(h:xN tb r s o q apos args cpos=some m):JE X E (.Call (.Attribute o q apos) args [] cpos) m:=by
 have h':=aj h;clear h;obtain⟨J,h⟩:=h';rw[O3] at J;split at h
 .unfold LV at h;split at h
  .obtain⟨i,L,h⟩:=aa h;obtain⟨Y,U,b,e⟩:=S.slot L;split at h
   .rename_i z;rw[beq_iff_eq] at z;cases h;subst z;exact wW Y U b e rfl J.1
   .split at h
    .rename_i z;rw[beq_iff_eq] at z;cases h;subst z;exact Fx Y U b e rfl J.1
    .cases h
  .cases h
 .have h':=aj h;clear h;obtain⟨N,h⟩:=h';unfold Kn at h;split at h
  .rename_i z;rw[beq_iff_eq] at z;split at h
   .obtain⟨i,L,h⟩:=aa h;obtain⟨n,l,h⟩:=aa h;obtain⟨Y,U,b,e⟩:=S.slot L;cases h;subst z;exact vC Y U b e (R.E S l) rfl (wC N _ _) J.1 (az N _ _) rfl
   .cases h
  .split at h
   .rename_i z;rw[beq_iff_eq] at z;obtain⟨a,L,h⟩:=aa h;obtain⟨n,l,h⟩:=aa h;cases h;subst z;exact BZ (R.E S L) (R.E S l) (λx y=>uq PySem.F.plainAttrs_str PySem.F.slot_str_join PySem.F.type_str_join vY x (bA y cS (az N _ _)) (iM J.2 _ _ _) (wC N _ _) J.1 (az N _ _) rfl)
   .cases h
 .have h':=aj h;clear h;obtain⟨h1,h⟩:=h';simp only[O3,beq_iff_eq,Pw] at h1;obtain⟨⟨⟨h1,h2⟩,h3⟩,h4⟩:=h1;obtain⟨d,L,h⟩:=aa h;obtain⟨y,l,h⟩:=aa h;obtain⟨x,T,h⟩:=aa h;cases h;subst h3;exact CM (mX (S.rm h4)) (R.E S L) (R.E S l) (R.E S T) (Lw J.2 h1 h2 J.1)
 .cases h
def stK:Const->Option (Mi Rr)
 | .none=>some (mC .non)
 | .bool b=>some (mC (.bl b))
 | .int i=>some (mC (.int i))
 | .str x=>some (mC (.str x))
 |_=>none
def Ku(m n:Mi Rr):Operator->Option (Mi Rr)
 | .Add=>some (av aK m n)
 | .Sub=>some (av gP m n)
 | .Mult=>some (av dh m n)
 | .FloorDiv=>some (av ig m n)
 | .Mod=>some (av gx m n)
 | .Pow=>some (av iS m n)
 |_=>none
theorem Br{a:Expr}{n q:Mi Rr}{op:Operator}(h:Ku m n op=some q)(ha:JE X E a m)(d:JE X E b n):JE X E (.BinOp a op b pos) q:=by
 cases op<;>first|(cases h;done)|skip
 .cases h;exact AL ha d
 .cases h;exact F8 ha d
 .cases h;exact Iu ha d
 .cases h;exact Fq ha d
 .cases h;exact Fp ha d
 .cases h;exact GJ ha d
theorem D3{r:CmpOp}{c:Expr}(h:eF c=true):lastMarks [op,r] [b,c]=false:=fI h
def t4(r:Tr)(s:Sc)(a:Expr)(ops:List CmpOp)(bs:List Expr):Option (Mi Rr):=match ops,bs with
 |[op],[b]=>af (r.E s a) λm=>af (r.E s b) λn=>Oc s op a b m n
 |[op,op'],[b,c]=>cw (eF b&&eF c) (af (Mp op) λp=>af (Mp op') λq=>af (r.E s a) λv=>af (r.E s b) λmb=>af (r.E s c) λh=>some (iA p q v mb h))
 |_,_=>none
theorem oZ(R:bP tb k r)(S:Sit tb k X E s){a:Expr}{ops:List CmpOp}{bs:List Expr}(h:t4 r s a ops bs=some m):JE X E (.Compare a ops bs pos) m/\JT X E (.Compare a ops bs pos) (aq m):=by
 unfold t4 at h;split at h
 .obtain⟨V,J,h⟩:=aa h;obtain⟨d,l,h⟩:=aa h;exact Fy S h (R.E S J) (R.E S l)
 .obtain⟨n,h⟩:=aj h;rw[O3] at n;obtain⟨p,J,h⟩:=aa h;obtain⟨q,l,h⟩:=aa h;obtain⟨H,T,h⟩:=aa h;obtain⟨mb,v,h⟩:=aa h;obtain⟨e,x,h⟩:=aa h;cases h;obtain⟨w,O,t⟩:=x8 (X:=X) J;obtain⟨D,K,Z⟩:=x8 (X:=X) l;exact⟨pK O K t Z (R.E S T) (R.E S v) (R.E S x) (D3 n.2),wF O K t Z (R.E S T) (R.E S v) (R.E S x) (D3 n.2)⟩
 .cases h
def zd(r:Tr)(s:Sc)(ks:List (Option Expr))(vs:List Expr):Option (Mi Rr):=match ks,vs with
 |[],[]=>some sY
 |_,_=>none
theorem wj(R:bP tb k r)(S:Sit tb k X E s){ks:List (Option Expr)}{vs:List Expr}(h:zd r s ks vs=some m):JE X E (.Dict ks vs pos) m:=by
 unfold zd at h;split at h
 .cases h;exact CG
 .cases h
def EN(tb:Tb)(r:Tr)(s:Sc)(f:Expr)(args:List Expr)(E:List Keyword)(cpos:Pos):Option (Mi Rr):=match E with
 |[]=>match f with
  | .Name f _=>wt tb r s f args
  | .Attribute o m apos=>xN tb r s o m apos args cpos
  |_=>none
 |_::_=>none
theorem Df(R:bP tb k r)(S:Sit tb k X E s){f:Expr}{a:List Keyword}(h:EN tb r s f args a pos=some m):JE X E (.Call f args a pos) m:=by
 unfold EN at h;split at h
 .split at h
  .exact vb R S h
  .exact uZ R S h
  .cases h
 .cases h
def Om(tb:Tb)(r:Tr)(s:Sc):Expr->Option (Mi Rr)
 | .Name x _=>match slot s x with
  |some i=>some (ae i)
  |none=>af (tb.cst.lookup x) λa=>cw (qK s x) (some (mC a))
 | .Constant c _ _=>stK c
 | .BinOp a op b _=>af (r.E s a) λm=>af (r.E s b) λn=>Ku m n op
 | .UnaryOp op a _=>match op with
  | .USub=>af (r.E s a) λm=>some (vi lI m)
  | .Not=>af (r.E s a) λm=>some (xY m)
  |_=>none
 | .BoolOp op vs _=>Nc op (r.E s) vs
 | .Compare a ops bs _=>t4 r s a ops bs
 | .Tuple es _ _=>af (u6 (r.E s) es) λm=>some (aU m)
 | .List es _=>af (u6 (r.E s) es) λm=>some (d0 m)
 | .Dict ks vs _=>zd r s ks vs
 | .Subscript a b _=>ye r s a b
 | .Call f args kw cpos=>EN tb r s f args kw cpos
 | .ListComp elt gs sc _=>n4 r s elt gs sc
 |_=>none
theorem Fj(R:bP tb k r)(S:Sit tb k X E s)(h:Om tb r s e=some m):JE X E e m:=by
 cases e with
 |Name x _=>
  have h:(match slot s x with
   |some i=>some (ae i)
   | none=>af (tb.cst.lookup x) λa=>cw (qK s x) (some (mC a)))=some m:=h
  split at h
  .rename_i J;cases h;obtain⟨l,U,n,Y⟩:=S.slot J;exact FK l U n Y
  .obtain⟨a,J,h⟩:=aa h;obtain⟨Q,h⟩:=aj h;cases h;obtain⟨v,u,h1,h2,h3⟩:=S.gd.cs _ _ J;exact B1 (S.glob Q).1 h1 h2 h3 (S.glob Q).2
 |Constant c _ _=>
  cases c<;>first|(cases h;done)|skip
  .cases h;exact E3
  .cases h;exact LD
  .cases h;exact HA
  .cases h;exact Fu
 |BinOp a op b _=>obtain⟨V,J,h⟩:=aa h;obtain⟨d,F,h⟩:=aa h;exact Br h (R.E S J) (R.E S F)
 |UnaryOp op a _=>
  cases op<;>first|(cases h;done)|skip
  .obtain⟨V,J,h⟩:=aa h;cases h;exact FG (R.E S J)
  .obtain⟨V,J,h⟩:=aa h;cases h;exact HS (R.E S J)
 |BoolOp op vs _=>exact zS (λ_ _=>R.E S) h
 |Compare a ops bs _=>exact(oZ R S h).1
 |Tuple es _ _=>obtain⟨V,J,h⟩:=aa h;cases h;exact Hy (iD (λ_ _=>R.E S) J).1
 |List es _=>obtain⟨V,J,h⟩:=aa h;cases h;exact G7 (iD (λ_ _=>R.E S) J).1
 |Dict ks vs _=>exact wj R S h
 |Subscript a b _=>exact zr R S h
 |Call f args g cpos=>exact Df R S h
 |ListComp elt gs sc _=>obtain⟨q,N,own,tg,iter,ifs,H,G,mt,w,rfl,rfl,y,o,z,A,C,Z⟩:=mQ R S h;exact B7 (S.cm q) y rfl o z A C Z
 |JoinedStr es _=>cases h
 |_=>cases h
def EA(r:Tr)(s:Sc):Expr->Option (Mi Bool)
 | .Compare a ops bs _=>af (t4 r s a ops bs) λq=>some (aq q)
 | .UnaryOp .Not a _=>af (r.T s a) λm=>some (nM m)
 | .BoolOp op vs _=>Nz op (r.T s) vs
 |e=>cw (plainT e) (af (r.E s e) λm=>some (aq m))
theorem Ax(R:bP tb k r)(S:Sit tb k X E s){m:Mi Bool}(h:EA r s e=some m):JT X E e m:=by
 unfold EA at h;split at h
 .obtain⟨q,J,h⟩:=aa h;cases h;exact(oZ R S J).2
 .obtain⟨V,J,h⟩:=aa h;cases h;exact Gy (R.T S J)
 .exact Jg (zX (λ_ _=>R.T S) h)
 .obtain⟨a,h⟩:=aj h;obtain⟨V,J,h⟩:=aa h;cases h;exact Gg (R.E S J) (rX a _)
def tr(tb:Tb):Nat->Tr
 |0=>⟨λ_ _=>none,λ_ _=>none,λ_ _ _=>none⟩
 |n+1=>⟨λs e=>sW (xP tb (tr tb n) s e) (sW (Om tb (tr tb n) s e) (xE tb (tr tb n) s e)),λs e=>sW (EA (tr tb n) s e) (xT tb (tr tb n) s e),xI tb (tr tb n)⟩
theorem kY:∀n,bP tb k (tr tb n)
 |0=>⟨λ_ h=>(by cases h),λ_ h=>(by cases h),λ_ h=>(by cases h)⟩
 | n+1=>⟨λS h=>by
   rcases bt h with h|h
   .exact K7 (kY n) S h
   rcases bt h with h|h
   .exact Fj (kY n) S h
   .exact Kb (kY n) S h,λS h=>by
   rcases bt h with h|h
   .exact Ax (kY n) S h
   .exact Ld (kY n) S h,λS h=>J3 (kY n) S h⟩
end
structure fz(tb:Tb)(k:Nat)(X:Cx)(E:XK)(s:Sc):Prop extends Sit tb k X E s where
 xc:s.hd=false->Xc X E
 po:s.hd=false->PassesOwn (model X.prog X.w) X.A X.env X.xe
 st:s.hd=false->X.stack=X.env::X.outer/\X.env.frame=some X.env.locals/\X.ex=[]
 bk:X.env.blockKind=.function
noncomputable def L5:Expr->Bool
 | .Starred ..=>true
 |_=>false
def Mt(x y:Str)(c h:Pos)(a b:Expr):Bool:=x != y&&c.line==h.line&&notStar a&&notStar b&&!([a,b].all (foldedForSure 8))&&!([a,b].all (constantsAlone 8))
variable{y:Str}{px py:Pos}{kt:Nat}
theorem Jx{pt k:Pos}{k2:Nat}{a:Expr}(h:Mt x y px py a b=true)(L:env.kindOf x=some .local)(m:env.kindOf y=some .local)(d:env.blockKind=.function):
  swappedStores [.Tuple [.Name x px,.Name y py] kt pt] (.Tuple [a,b] k2 k) env=pure (some [x,y]):=by
 unfold Mt at h;simp only[O3,bne_iff_ne,ne_eq,beq_iff_eq,Pw] at h;obtain⟨⟨⟨⟨⟨h1,h2⟩,h3⟩,h4⟩,h5⟩,q⟩:=h;have s1:(([a,b]:List Expr).any fun | .Starred ..=>true|_=>false)=false:=by
  rw[RP];intro e t;have hn:notStar e=true:=by
   rcases Po.mp t with z|z
   .rw[z];exact h3
   .rw[Pc.mp z];exact h4
  cases e<;>first|(cases hn;done)|exact PL
 have r:(y==x)=false:=beq_eq_false_iff_ne.mpr λz=>h1 z.symm;have s:(x==y)=false:=beq_eq_false_iff_ne.mpr h1;unfold swappedStores;have pn:∀(n:Str)(p:Pos),(Expr.Name n p).pos=p:=λ_ _=>rfl;simp[d,s1,L,m,pn,<-h2,h5,q,List.eraseDups_cons,r,s];intro z;exfalso;rcases z with z|z
 .cases a<;>first|(cases h3;done)|cases z
 .cases b<;>first|(cases h4;done)|cases z
noncomputable def uc:Expr->Bool
 | .Tuple _ _ _=>false
 |_=>true
theorem kn(h:uc e=true):swappedStores [tg] e env=pure none:=by cases tg<;>first|rfl|(cases e<;>first|rfl|cases h)
variable{i:Expr}
theorem sv:swappedStores [.Subscript o i p] e env=pure none:=by cases e<;>rfl
theorem iX{l:Nat}:swapsWith e (some (.Subscript o i p)) l env=pure false:=by cases e<;>rfl
theorem sh{sc:Scope}{l:Nat}(h:env.kindOf x=some .cell):swapsWith (.ListComp elt gs sc pos) (some (.Name x px)) l env=pure false:=by unfold swapsWith;show (pure (env.blockKind==.function&&env.kindOf x==some .local&&px.line==pos.line&&!(sc.names.any λp=>p.1==x&&(p.2==.local || p.2==.cell))):Sem Bool)=pure false;rw[h,show (some (NameKind.cell)==some (NameKind.local))=false from rfl,RL,Tz,Tz]
theorem qG{t:Expr}(h:hJ e=true)(l:Nat)(env:Env):swapsWithSole [t] e l env=pure false:=c9 h (some t) l env
theorem wU{l:Nat}:swapsWithSole [.Subscript o i p] e l env=pure false:=iX (e:=e) (o:=o) (i:=i) (p:=p) (l:=l) (env:=env)
theorem CP(h:d6 i=true)(v:Value):assign (.Subscript o i p) env v=(do
   let ov <- holding [v] (eval o env)
   let iv <- holding [v,ov] (eval i env)
   standAt p
   holding [v,ov,iv] (setItem ov iv v)
   release [v,ov,iv] []):=by cases i<;>first|rfl|cases h
variable{ts:List Expr}{p1:Pos}
section
variable{tb:Tb}{k:Nat}{X:Cx}{E:XK}{s:Sc}
def zI(r:Tr)(s:Sc)(x:Str)(px:Pos)(e:Expr):Option Ms:=af (cU s x) λi=>match e with
 | .ListComp elt gs sc pos=>match l6 s x .local with
  |true=>cw (px.line==pos.line&&!(sc.names.any λp=>p.1==x&&(p.2==.local || p.2==.cell))) (af (n4 r s elt gs sc) λm=>some (aE i m))
  |false=>af (r.E s e) λm=>some (aE i m)
 |e=>cw (hJ e) (af (r.E s e) λm=>some (aE i m))
theorem uK(R:bP tb k r)(S:fz tb k X E s){m:Ms}(h:zI r s x px e=some m):JS X E (.Assign [.Name x px] e pos) m:=by
 obtain⟨i,L,h⟩:=aa h;obtain⟨Y,U,b,a⟩:=S.cU L;have Z:X.N.Nodup:=by rw[S.n];exact S.nd
 split at h
 .split at h
  .rename_i z;obtain⟨J,h⟩:=aj h;simp only[O3,Pw] at J;obtain⟨V,l,h⟩:=aa h;cases h;have hl:X.env.scope.names.lookup x=some .local:=S.lc x (by unfold l6 at z;simpa using z);obtain⟨q,N,own,tg,iter,ifs,c,G,mt,w,rfl,rfl,o,v,A,C,F,H⟩:=mQ R S.toSit l;exact Bu (S.cm q) o rfl Z Y hl (qP S.bk hl J.1 J.2) v A C F H
  .rename_i z;obtain⟨V,l,h⟩:=aa h;cases h;refine si Z Y U (R.E S.toSit l) (sh ?_) a;obtain⟨g,_⟩:=aj L;simp only[O3,rM,Qw] at g;rcases g.1 with y|y
   .rw[y] at z;cases z
   .exact S.ce x (by unfold l6 at y;simpa using y)
 .obtain⟨J,h⟩:=aj h;obtain⟨V,l,h⟩:=aa h;cases h;exact si Z Y U (R.E S.toSit l) (c9 J _ _ _) a
noncomputable def Gv(e:Expr):Option (Expr×Expr):=match e with
 | .Tuple es _ _=>match es with
  |[a,b]=>some (a,b)
  |_=>none
 |_=>none
theorem vB{a:Expr}(h:Gv e=some (a,b)):∃c p,e=.Tuple [a,b] c p:=by
 cases e with
 |Tuple es c p=>match es,h with
  |[a,b],h=>cases h;exact⟨c,p,rfl⟩
 |_=>cases h
def Ie(ts:List Expr):Option ((Str×Pos)×Str×Pos):=match ts with
 |[a,b]=>af (vt a) λp=>af (vt b) λq=>some (p,q)
 |_=>none
theorem vx(h:Ie ts=some ((x,px),y,py)):ts=[.Name x px,.Name y py]:=by
 match ts,h with
 |[a,b],h=>obtain⟨p,h1,h⟩:=aa h;obtain⟨q,h2,h⟩:=aa h;cases h;rw[bQ h1,bQ h2]
def sf(r:Tr)(s:Sc)(ts:List Expr)(e:Expr):Option Ms:=cw (uc e&&hJ e) (af (r.E s e) λm=>af (BW s 0 9 (.Tuple ts 0 default)) λg=>some (qT m g))
def v5(r:Tr)(s:Sc)(ts:List Expr)(e:Expr):Option Ms:=match Ie ts with
 | some ((x,px),y,py)=>(match Gv e with
  |some (a,b)=>cw (!s.hd&&l6 s x .local&&l6 s y .local&&okN x&&okN y&&Mt x y px py a b) (af (cU s x) λi=>af (cU s y) λj=>cw (i != j) (af (u6 (r.E s) [a,b]) λm=>some (yX i j m)))
  | none=>sf r s ts e)
 |none=>sf r s ts e
theorem Ip{lo d:Nat}{n y:Nat}{o:Pos}{g:Mg}(h:BW s lo d (.Tuple ts n p)=some g):BW s lo d (.Tuple ts y o)=some g:=by
 cases d with
 |zero=>cases h
 |succ d=>exact h
theorem l4(R:bP tb k r)(S:fz tb k X E s){pt:Pos}{m:Ms}(h:sf r s ts e=some m):JS X E (.Assign [.Tuple ts kt pt] e pos) m:=by obtain⟨J,h⟩:=aj h;rw[O3] at J;obtain⟨V,L,h⟩:=aa h;obtain⟨g,l,h⟩:=aa h;cases h;exact EC (R.E S.toSit L) (nT S.toSit (Ip l)) (qG J.2 _ _) (kn J.1) (hp:=λx y=>wV x y (qG J.2 _ _) (kn J.1))
theorem xG(R:bP tb k r)(S:fz tb k X E s){pt:Pos}{m:Ms}(h:v5 r s ts e=some m):JS X E (.Assign [.Tuple ts kt pt] e pos) m:=by
 unfold v5 at h;cases t:Ie ts with
 |none=>rw[t] at h;exact l4 R S h
 |some p=>
  obtain⟨⟨x,px⟩,y,py⟩:=p;rw[t] at h;dsimp only at h;cases q:Gv e with
  |none=>rw[q] at h;exact l4 R S h
  |some p=>
   obtain⟨a,b⟩:=p;rw[q] at h;obtain⟨J,h⟩:=aj h;simp only[O3,Pw] at J;obtain⟨⟨⟨⟨⟨h1,h2⟩,h3⟩,_⟩,_⟩,h4⟩:=J;obtain⟨i,L,h⟩:=aa h;obtain⟨j,l,h⟩:=aa h;obtain⟨Q,h⟩:=aj h;obtain⟨v,T,h⟩:=aa h;cases h;obtain rfl:=vx t;obtain⟨c,p,rfl⟩:=vB q;have Z:X.N.Nodup:=by rw[S.n];exact S.nd
   have G:=S.lc x (show s.nm.lookup _=_ by unfold l6 at h2;simpa using h2);have o:=S.lc y (show s.nm.lookup _=_ by unfold l6 at h3;simpa using h3);have z:i≠j:=by simpa using Q
   exact GO (iD (λ_ _=>R.E S.toSit) T).1 z (λy=>EZ (S.cm h1) Z (S.cU L).1 (S.cU l).1 z G o y (Jx h4 G o S.bk))
def LF(r:Tr)(s:Sc)(x:Str)(G e:Expr):Option Ms:=af (slot s x) λi=>af (r.E s G) λmk=>af (r.E s e) λm=>cw (!s.hd&&d6 G) (match s.di.contains x with
 |true=>some (mK i mk m)
 | false=>some (jY i mk m))
theorem Bk(R:bP tb k r)(S:fz tb k X E s){G:Expr}{m:Ms}(h:LF r s x G e=some m):JS X E (.Assign [.Subscript (.Name x px) G p1] e pos) m:=by
 obtain⟨i,J,h⟩:=aa h;obtain⟨mk,l,h⟩:=aa h;obtain⟨n,T,h⟩:=aa h;obtain⟨V,h⟩:=aj h;simp only[O3,Pw] at V;obtain⟨Y,U,b,a⟩:=S.slot J;split at h
 .cases h;exact B8 (mX (S.rm V.1)) Y U b a (R.E S.toSit l) (R.E S.toSit T) iX
 .cases h;exact yS Y U b a (R.E S.toSit l) (R.E S.toSit T) (λx y z=>wV z (HK x y set_list (CP V.2)) wU sv)
def zg(tb:Tb)(r:Tr)(s:Sc)(t e:Expr):Option Ms:=match t with
 | .Name x px=>zI r s x px e
 | .Tuple ts _ _=>v5 r s ts e
 | .Subscript (.Name x _) ek _=>LF r s x ek e
 |_=>none
theorem xF(R:bP tb k r)(S:fz tb k X E s){t:Expr}{m:Ms}(h:zg tb r s t e=some m):JS X E (.Assign [t] e pos) m:=by
 unfold zg at h;split at h
 .exact uK R S h
 .exact xG R S h
 .exact Bk R S h
 .cases h
end
variable{F:Sc->Stmt->Option Ms}
section
variable{tb:Tb}{k:Nat}{X:Cx}{E:XK}{s:Sc}
def jG(F:Stmt->Option Ms):List Stmt->Option Ms
 |[]=>some cp
 |[a]=>F a
 |a::b::r=>af (F a) λm=>af (jG F (b::r)) λn=>some (aA m n)
theorem eY{F:Stmt->Option Ms}(h:∀a m,F a=some m->JS X E a m):∀{l:List Stmt}{m:Ms},jG F l=some m->vM X E l m
 |[],m,e=>by cases e;exact BJ
 |[a],m,e=>CH (h _ _ e)
 |a::b::r,m,e=>by obtain⟨V,J,e⟩:=aa e;obtain⟨d,N,e⟩:=aa e;cases e;exact yn (h _ _ J) (eY h N)
def EO(st:Stmt):Option (Str×Pos×Pos×Pos):=match st with
 | .Assign ts e pos=>match ts with
  |[t]=>af (vt t) λ(x,px)=>match e with
   | .Dict ks vs p=>match ks,vs with
    |[],[]=>some (x,px,p,pos)
    |_,_=>none
   |_=>none
  |_=>none
 |_=>none
theorem u0{st:Stmt}(h:EO st=some (x,px,p,pos)):st=.Assign [.Name x px] (.Dict [] [] p) pos:=by
 unfold EO at h;split at h
 .split at h
  .obtain⟨⟨y,py⟩,h1,h⟩:=aa h;dsimp only at h;split at h
   .split at h
    .cases h;rw[bQ h1]
    .cases h
   .cases h
  .cases h
 .cases h
def GB(st:Stmt):Option (Str×Pos×Expr×Pos×Expr×Pos):=match st with
 | .Assign ts e pos=>match ts with
  |[t]=>match t with
   | .Subscript o i p1=>af (vt o) λ(x,px)=>some (x,px,i,p1,e,pos)
   |_=>none
  |_=>none
 |_=>none
theorem uW{st:Stmt}(h:GB st=some (x,px,i,p1,e,pos)):st=.Assign [.Subscript (.Name x px) i p1] e pos:=by
 unfold GB at h;split at h
 .split at h
  .split at h
   .obtain⟨⟨y,py⟩,h1,h⟩:=aa h;cases h;rw[bQ h1]
   .cases h
  .cases h
 .cases h
def zw(_:Tb)(r:Tr)(s:Sc)(_:Sc->Stmt->Option Ms)(st:Stmt):Option Ms:=sW (af (EO st) λ(x,_,_,_)=>cw (s.di.contains x&&s.lv.contains x) (af (cU s x) λi=>some (aE i nA)))
 (af (GB st) λ(x,_,G,_,e,_)=>cw (s.di.contains x&&s.lv.contains x&&(!s.hd&&d6 G)) (af (slot s x) λi=>af (r.E s G) λmk=>af (r.E s e) λm=>some (qr i mk m)))
theorem uV(R:bP tb k r)(S:fz tb k X E s)(y:∀u,Passes (mL X.prog X.w) X u->Xc X u->∀a m,F (M8 s) a=some m->JS X u a m){st:Stmt}{m:Ms}(h:zw tb r s F st=some m):JS X E st m:=by
 rcases bt h with h|h
 .obtain⟨⟨x,px,p,pos⟩,h1,h⟩:=aa h;obtain rfl:=u0 h1;obtain⟨_,h⟩:=aj h;obtain⟨i,J,h⟩:=aa h;cases h;obtain⟨Y,U,b,z⟩:=S.cU J;exact si (by rw[S.n];exact S.nd) Y U yk (c9 rfl _ _ _) z
 .obtain⟨⟨x,px,G,p1,e,pos⟩,h1,h⟩:=aa h;obtain rfl:=uW h1;obtain⟨V,h⟩:=aj h;simp only[O3,Pw] at V;obtain⟨i,J,h⟩:=aa h;obtain⟨mk,l,h⟩:=aa h;obtain⟨g,T,h⟩:=aa h;cases h;obtain⟨Y,U,b,z⟩:=S.slot J;exact Bt (mX (S.rm V.2.1)) Y U b z (R.E S.toSit l) (R.E S.toSit T) iX
def xS(tb:Tb)(r:Tr)(s:Sc)(F:Sc->Stmt->Option Ms)(st:Stmt):Option Ms:=sW (zw tb r s F st) (none)
theorem KR(R:bP tb k r)(S:fz tb k X E s)(y:∀Z,Passes (mL X.prog X.w) X Z->Xc X Z->∀a m,F (M8 s) a=some m->JS X Z a m){st:Stmt}{m:Ms}(h:xS tb r s F st=some m):JS X E st m:=by
 rcases bt h with h|h
 .exact uV R S y h
 cases h
end
variable{base:Heap}{dV:Value}
section
variable{tb:Tb}{k:Nat}{X:Cx}{E:XK}{s:Sc}
noncomputable def Oa(s:Sc)(n:Str):Sc:={ s with ca:=[n],hd:=true,tp:=false }
theorem Sit.uw(S:Sit tb k X E s):Sit tb k X.uw jH s:=⟨S.n,S.nd,S.gl,S.vs,S.lo,S.lc,S.ce,S.fx,S.cm,S.rm,λ_=>y9,S.gd⟩
theorem Sit.mark(S:fz tb k X E s)(a:Addr)(n:Str):fz tb k (X.marked a) jH (Oa s n) where
 n:=S.n
 nd:=S.nd
 gl:=S.gl
 vs:=S.vs
 lo:=S.lo
 lc:=S.lc
 ce:=S.ce
 fx:=S.fx
 cm:=λh=>by cases h
 rm:=λh=>by cases h
 ps:=λh=>by cases h
 gd:=S.gd
 xc:=λh=>by cases h
 po:=λh=>by cases h
 st:=λh=>by cases h
 bk:=S.bk
def yH(tb:Tb)(r:Tr)(s:Sc)(fi:FI)(args:List Expr):Option (Mi (List Rr)):=cw (args.length==fi.n) (BX (r.E s) (Ml r s) args fi.mu)
def ow(e:Expr):Option (Str×Pos×Expr×List Expr×Pos):=match e with
 | .Call f args kw cpos=>af (vt f) λ(x,p)=>match args with
  |a::as=>cw kw.isEmpty (some (x,p,a,as,cpos))
  |[]=>none
 |_=>none
theorem jv{a:Expr}{as:List Expr}(h:ow e=some (x,p,a,as,cpos)):e=.Call (.Name x p) (a::as) [] cpos:=by
 unfold ow at h;split at h
 .obtain⟨⟨y,py⟩,h1,g⟩:=aa h;clear h;obtain rfl:=bQ h1;simp only at g;split at g
  .obtain⟨J,g⟩:=aj g;rw[Ql] at J;cases g;rw[J]
  .cases g
 .cases h
noncomputable def j7{α:Type}(l:List α):Option α:=match l with
 |[a]=>some a
 |_=>none
theorem dg{l:List α}{a:α}(h:j7 l=some a):l=[a]:=by
 unfold j7 at h;split at h
 .cases h;rfl
 .cases h
def Lx(tb:Tb)(r:Tr)(s:Sc):Nat->Stmt->Option Ms
 |0,_=>none
 |d+1,st=>match st with
  | .Expr e _=>af (ow e) λ(f,_,a,as,_)=>cw (qK s f) (af (tb.fns.lookup f) λfi=>af (yH tb r s fi (a::as)) λm=>some (dR (iw fi.m [] (iE m))))
  | .Assign ts e _=>af (j7 ts) λt=>af (vt t) λ(y,_)=>af (ow e) λ(f,_,a,as,_)=>cw (qK s f) (af (cU s y) λi=>af (tb.fns.lookup f) λfi=>af (yH tb r s fi (a::as)) λm=>some (aE i (iw fi.m [] (iE m))))
  | .If t a b _=>af (r.T s t) λmt=>af (j7 a) λa0=>af (Lx tb r s d a0) λv=>af (j7 b) λQ=>af (Lx tb r s d Q) λmb=>some (j4 (iE mt) v mb)
  |_=>none
theorem qQ{r:Tr}(R:bP tb k r)(S:fz tb k X E s)(V:s.hd=false):∀{d:Nat}{st:Stmt}{m:Ms},Lx tb r s d st=some m->JX X st m
 |0,st,m,h=>by cases h
 |d+1,st,m,h=>by
  have z:X.N.Nodup:=by rw[S.n];exact S.nd
  unfold Lx at h;split at h
  .obtain⟨⟨f,p,a,as,cpos⟩,h1,g⟩:=aa h;clear h;obtain rfl:=jv h1;obtain⟨Q,h⟩:=aj g;obtain⟨fi,K,h⟩:=aa h;obtain⟨v,J,h⟩:=aa h;cases h;obtain⟨h1,J⟩:=aj J;obtain⟨o,A,q⟩:=jK (X:=X.uw) (E:=jH) (λ_ _=>R.E S.toSit.uw) (λ_ _=>sA R S.toSit.uw) J;obtain⟨I,fd,ps,F,hm,hk,e⟩:=S.gd.fn _ fi K;have x:=q;rw[P4,O3] at x;exact A2 F (S.rm V) (S.glob Q).1 hm hk e.all o (nQ (d:=0) A (by rw[beq_iff_eq] at h1;exact h1)) (S.glob Q).2 (c9 rfl _ _ _) (az x.1 _ _) (dQ x.2)
  .obtain⟨t,C,g0⟩:=aa h;clear h;obtain rfl:=dg C;obtain⟨⟨y,py⟩,h2,b⟩:=aa g0;clear g0;obtain rfl:=bQ h2;obtain⟨⟨f,p,a,as,cpos⟩,h1,g⟩:=aa b;clear b;obtain rfl:=jv h1;obtain⟨Q,h⟩:=aj g;obtain⟨i,B,h⟩:=aa h;obtain⟨fi,K,h⟩:=aa h;obtain⟨v,J,h⟩:=aa h;cases h;obtain⟨Y,U,Z,H⟩:=S.cU B;obtain⟨h1,J⟩:=aj J;obtain⟨o,A,q⟩:=jK (X:=X.uw) (E:=jH) (λ_ _=>R.E S.toSit.uw) (λ_ _=>sA R S.toSit.uw) J;obtain⟨I,fd,ps,F,hm,hk,e⟩:=S.gd.fn _ fi K;have x:=q;rw[P4,O3] at x;exact Ir z Y U F (S.rm V) (S.glob Q).1 hm hk e.all o (nQ (d:=0) A (by rw[beq_iff_eq] at h1;exact h1)) (S.glob Q).2 (c9 rfl _ _ _) H (az x.1 _ _) (dQ x.2)
  .obtain⟨mt,J,h⟩:=aa h;obtain⟨a0,l,h⟩:=aa h;obtain⟨v,D,h⟩:=aa h;obtain⟨w,c,h⟩:=aa h;obtain⟨mb,O,h⟩:=aa h;cases h;obtain rfl:=dg l;obtain rfl:=dg c;exact J0 (R.T S.toSit.uw J) (tF (qQ R S V D)) (tF (qQ R S V O))
  .cases h
def DX(b:List Stmt)(N:List ExceptHandler)(k fin:List Stmt):Option (Stmt×Str×Pos×Str×Stmt×List Stmt×Pos):=af (j7 b) λQ=>af (j7 N) λh=>cw (k.isEmpty&&fin.isEmpty) (match h with
 | .ExceptHandler t n su hp=>af t λe=>af (vt e) λ(x,np)=>af n λn=>match su with
  |s0::suite=>some (Q,x,np,n,s0,suite,hp)
  | []=>none)
theorem r9{b:List Stmt}{N:List ExceptHandler}{k fin:List Stmt}{Q u:Stmt}{n:Str}{np hp:Pos}{r:List Stmt}(h:DX b N k fin=some (Q,x,np,n,u,r,hp)):
  b=[Q]/\N=[.ExceptHandler (some (.Name x np)) (some n) (u::r) hp]/\k=[]/\fin=[]:=by
 obtain⟨b1,L,h⟩:=aa h;obtain⟨h1,l,h⟩:=aa h;obtain⟨J,h⟩:=aj h;rw[O3,Ql,Ql] at J;obtain⟨t,y,s,H⟩:=h1;obtain⟨e,T,h⟩:=aa h;obtain⟨⟨x',E⟩,v,h⟩:=aa h;obtain⟨a,R,h⟩:=aa h;cases s with
 |nil=>cases h
 |cons s1 s=>cases h;rw[dg L,dg l,T,R,bQ v];exact⟨rfl,rfl,J.1,J.2⟩
def DP(r:Tr)(s:Sc)(tg it:Expr)(b:Ms):Option Ms:=cw (eF it) (af (Nq r s tg it) λm=>af (BW s 0 9 tg) λG=>some (gq m G b))
theorem yI(R:bP tb k r)(S:fz tb k X E s)(V:s.hd=false){it:Expr}{H:List Stmt}{b m:Ms}(d:vM X E H b)(h:DP r s tg it b=some m):JS X E (.For tg it H [] pos) m:=by obtain⟨J,h⟩:=aj h;obtain⟨n,L,h⟩:=aa h;obtain⟨G,l,h⟩:=aa h;cases h;exact H9 (S.po V) (S.cm V) (yx R S.toSit L) (nT S.toSit l) d (lC J _)
def yz(tb:Tb)(r:Tr)(s:Sc)(ts:List Expr)(e:Expr):Option Ms:=match ts with
 |[t]=>zg tb r s t e
 |_=>none
def He(tb:Tb)(r:Tr)(s:Sc)(ex ca:Option Expr):Option Ms:=match ca with
 |some _=>none
 |none=>match ex with
  |some (.Call f (a::as) [] _)=>match f with
   | .Name c _=>cw (!s.hd&&qK s c&&tb.exs.contains c) (af (u6 (r.E s) (a::as)) λm=>some (z0 c m))
   |_=>none
  |_=>none
theorem B2(R:bP tb k r)(S:fz tb k X E s){ex ca:Option Expr}{m:Ms}(h:He tb r s ex ca=some m):JS X E (.Raise ex ca pos) m:=by
 unfold He at h;split at h
 .cases h
 .split at h
  .split at h
   .obtain⟨J,h⟩:=aj h;simp only[O3,Pw] at J;obtain⟨⟨V,Q⟩,hc⟩:=J;obtain⟨n,L,h⟩:=aa h;cases h;obtain⟨C,g,e⟩:=S.gd.ex _ (Q0.mp hc);obtain⟨o,A,x⟩:=iD (λ_ _=>R.E S.toSit) L;rw[P4,O3] at x;exact zb (S.xc V) (S.cm V) (S.glob Q).1 g e o (S.glob Q).2 (az x.1 _ _) (dQ x.2)
   .cases h
  .cases h
def OQ(tb:Tb)(r:Tr)(s:Sc)(F:Sc->Stmt->Option Ms):Stmt->Option Ms
 | .Assign ts e _=>yz tb r s ts e
 | .Return none _=>some Ee
 | .Return (some e) _=>af (r.E s e) λm=>some (bM m)
 | .If t a b _=>af (r.T s t) λmt=>af (jG (F s) a) λm=>af (jG (F s) b) λn=>some (j4 mt m n)
 | .While t b els _=>cw (!s.hd&&els.isEmpty) (af (r.T s t) λmt=>af (jG (F s) b) λm=>some (gQ Ad mt m))
 | .For tg it b els _=>cw (!s.hd&&els.isEmpty) (af (jG (F s) b) λm=>DP r s tg it m)
 | .Try b hs els fin _=>af (DX b hs els fin) λ(Q,x,_,n,u,h,_)=>cw (!s.hd&&qK s x&&l6 s n .local) (af (tb.exm.lookup x) λl=>af (cU s n) λi=>af (Lx tb r s 9 Q) λmb=>af (jG (F (Oa s n)) (u::h)) λk=>some (F3 i (MF l) mb k))
 | .Raise ex ca _=>He tb r s ex ca
 | .Expr e _=>cw (hJ e) (af (r.E s e) λm=>some (dR m))
 | .Pass _=>some cp
 | .Break _=>some zf
 | .Continue _=>some DL
 |_=>none
def Ac(tb:Tb)(r:Tr):Nat->Sc->Stmt->Option Ms
 |0,_,_=>none
 |d+1,s,st=>sW (xS tb r s (Ac tb r d) st) (OQ tb r s (Ac tb r d) st)
theorem fz.J2{u:XK}(S:fz tb k X E s)(h1:Passes (mL X.prog X.w) X u)(h2:Xc X u):fz tb k X u (M8 s):=⟨⟨S.n,S.nd,S.gl,S.vs,S.lo,S.lc,S.ce,S.fx,S.cm,S.rm,λ_=>h1,S.gd⟩,λ_=>h2,S.po,S.st,S.bk⟩
theorem m9{r:Tr}(R:bP tb k r):∀{d:Nat}{X:Cx}{E:XK}{s:Sc}{st:Stmt}{m:Ms},fz tb k X E s->Ac tb r d s st=some m->JS X E st m
 |0,X,E,s,st,m,S,h=>by cases h
 |d+1,X,E,s,st,m,S,h=>by
  have U:∀a m,Ac tb r d s a=some m->JS X E a m:=λa m e=>m9 R S e;unfold Ac at h;have h':=bt h;clear h;rcases h' with h|h
  .exact KR R S (λu h1 h2 a m e=>m9 R (S.J2 h1 h2) e) h
  cases st with
  |Assign ts e _=>
   have h:yz tb r s ts e=some m:=h;unfold yz at h;split at h
   .exact xF R S h
   .cases h
  |Return v _=>cases v with
   |none=>cases h;exact CZ
   |some e=>obtain⟨q,L,h⟩:=aa h;cases h;exact HR (R.E S.toSit L)
  |If t a b _=>obtain⟨mt,L,h⟩:=aa h;obtain⟨q,N,h⟩:=aa h;obtain⟨P,D,h⟩:=aa h;cases h;exact Lu (R.T S.toSit L) (eY U N) (eY U D)
  |While t b F _=>have h':=aj h;clear h;obtain⟨J,h⟩:=h';simp only[O3,Pw,Ql] at J;obtain⟨V,rfl⟩:=J;obtain⟨mt,L,h⟩:=aa h;obtain⟨q,N,h⟩:=aa h;cases h;exact yp (S.po V) (R.T S.toSit L) (eY U N)
  |For tg it b F _=>have h':=aj h;clear h;obtain⟨J,h⟩:=h';simp only[O3,Pw,Ql] at J;obtain⟨V,rfl⟩:=J;obtain⟨q,N,h⟩:=aa h;exact yI R S V (eY U N) h
  |Try b j F fin _=>obtain⟨⟨K,x,np,n,B,y,hp⟩,h1,g⟩:=aa h;clear h;obtain⟨rfl,rfl,rfl,rfl⟩:=r9 h1;obtain⟨J,h⟩:=aj g;simp only[O3,Pw] at J;obtain⟨⟨V,Q⟩,hn⟩:=J;obtain⟨l,L,h⟩:=aa h;obtain⟨i,N,h⟩:=aa h;obtain⟨mb,D,h⟩:=aa h;obtain⟨p,z,h⟩:=aa h;cases h;obtain⟨Y,I,f,H⟩:=S.cU N;obtain⟨T,A,w⟩:=S.gd.em _ _ L;obtain⟨O,Z,o⟩:=S.st V;exact Eu O Z o (by rw[S.n];exact S.nd) Y (S.lc _ (by unfold l6 at hn;simpa using hn)) (S.glob Q).1 A (λc C hc hm=>w c C hc hm) (qQ R S V D) (λa=>eY (λb m e=>m9 R (Sit.mark S a _) e) z) (S.glob Q).2 H
  |Raise ex ca _=>exact B2 R S h
  |Expr e _=>obtain⟨J,h⟩:=aj h;obtain⟨q,L,h⟩:=aa h;cases h;exact Aq (R.E S.toSit L) (c9 J _ _ _)
  |Pass _=>cases h;exact BA
  |Break _=>cases h;exact z6
  |Continue _=>cases h;exact A6
  |_=>cases h
structure DI where
 cl:Option Str
 name:Str
 st:Stmt
 N:List Str
 n:Nat
 di:List Str
 mu:List Bool
 df:List A
 lv:List Str
 m:Ms
 ce:List Str:=[]
 tp:Bool:=false
def DI.sc(d:DI):Sc:={ N:=d.N,nm:=(aI d.st).names,di:=d.di,ca:=[],hd:=false,lv:=d.lv }
def fY(d:DI):Bool:=(aI d.st).kind==.function&&!(aI d.st).isCoroutine&&!(aI d.st).isGenerator&&decide d.N.Nodup&&Ux d.n d.N.length&&(d.N.take d.n).all (λx=>(aI d.st).names.lookup x==some .local || (aI d.st).names.lookup x==some .cell)&&(aI d.st).names.all (λy=>y.2 != .free)
theorem gh{d:DI}(h:fY d=true):hZ d.N (d.N.take d.n) (aI d.st)/\(d.N.take d.n).length=d.n:=by
 unfold fY at h;simp only[O3,beq_iff_eq,Pw,decide_eq_true_eq,PZ,Qw,bne_iff_ne,ne_eq] at h;obtain⟨⟨⟨⟨⟨⟨h1,h2⟩,h3⟩,h4⟩,h5⟩,r⟩,c⟩:=h;have hl:(d.N.take d.n).length=d.n:=by rw[Qs];have:=Se h5;omega
 exact⟨⟨h1,h2,h3,h4,by rw[hl],r,c⟩,hl⟩
def DI.M(d:DI):Ms:=cf (d.N.length-d.n) d.m
noncomputable def DI.fi(d:DI):FI:=⟨d.n,d.M,d.mu,d.df,!d.ce.isEmpty⟩
noncomputable def DI.qual(d:DI):Str:=match d.cl with
 |none=>d.name
 |some c=>c++(("." : Str)++d.name)
def Tb.add(tb:Tb)(d:DI):Tb:=match d.cl with
 |none=>{ tb with fns:=(d.name,d.fi)::tb.fns }
 |some c=>match d.name==("__init__" : Str) with
  |true=>{ tb with ini:=(c,d.fi)::tb.ini }
  |false=>{ tb with mts:=(d.name,c,d.fi)::tb.mts }
noncomputable def lb:Nat:=40
theorem Ei{d:DI}{f:Addr}{qual:Str}(G:Gd tb k P w K mg base)(F:nK K d.name qual d.st f fd dV)(r:fY d=true)
  (h:jG (Ac tb (tr tb lb) lb d.sc) (cj d.st)=some d.m):cR P w K mg base (mL P w) (k+1) f fd (d.N.take d.n) (vd ⟨K,mg,P,w⟩ d.n d.M):=by
 obtain⟨S,hl⟩:=gh r;have I:=Io (P:=P) (w:=w) (mg:=mg) (base:=base) (k:=k) (m:=d.m) F S (λcdv A outer s H E y=>eY (λa m e=>m9 (kY lb) (?_:fz tb k _ E d.sc) e) h)
 .rw[hl] at I;exact I
 .refine⟨⟨rfl,S.nd,λx L=>L,λx L=>?_,λx L=>?_,λx L=>L,λx L=>L,λx L=>.inl rfl,λ_=>rfl,λ_=>y,λ_=>Eb.pass,G⟩,λ_=>Eb,λ_=>PassesOwn.leaving,λ_=>⟨rfl,rfl,rfl⟩,?_⟩
  .unfold Cu l6 DI.sc at L;simp only[Qw,beq_iff_eq] at L;rcases L with (z|z)|z
   .exact .inl z
   .exact .inr (.inl z)
   .exact .inr (.inr z)
  .unfold rM l6 DI.sc at L;simp only[Qw,beq_iff_eq] at L;exact L
  .show (if (aI d.st).kind.isAnnotationScope then ScopeKind.function else (aI d.st).kind)=.function;rw[S.kind];rfl
end
theorem sy:∀{us:List Value}{n:Str},us.length=ps.length->n∈ps->((ps.zip us).lookup n).isSome=true:=by
 induction ps with
 |nil=>intro us n _ h;cases h
 |cons p ps m=>
  intro us n hl h;cases us with
  |nil=>cases hl
  |cons u us=>
   rw[Rg,P1];split
   .rfl
   .rename_i z;rcases Po.mp h with y|y
    .rw[y,beq_self_eq_true] at z;cases z
    .exact m (by simpa using hl) y
theorem lq:∀{us:List Value}{pre:List (Str×Value)},us.length=ps.length->ps.Nodup->(∀n∈ps,pre.lookup n=none)->ps.filterMap (λn=>((pre++ps.zip us).lookup n).map (n,·))=ps.zip us:=by
 induction ps with
 |nil=>intro us pre _ _ _;rfl
 |cons p ps m=>
  intro us pre hl nd hp;cases us with
  |nil=>cases hl
  |cons u us=>
   obtain⟨S,U⟩:=PM.mp nd;have J:(pre++(p,u)::ps.zip us).lookup p=some u:=by rw[U0,hp p PK,P1,beq_self_eq_true];rfl
   rw[Rg,QP,J];show (p,u)::_=_
   congr 1
   have:=m (us:=us) (pre:=pre++[(p,u)]) (by simpa using hl) U (λn hn=>by rw[U0,hp n (Pa _ hn),P1];have:(n==p)=false:=beq_eq_false_iff_ne.mpr λz=>S (z▸hn);rw[this];rfl)
   simpa[O7] using this
theorem jj{α j:Type}{f:α->j->Sem (ForInStep j)}{g:j->α->j}(h:∀a b,f a b=pure (.yield (g b a))):∀(l:List α)(b:j),(forIn l b f:Sem j)=pure (l.foldl g b)
 |[],_=>rfl
 |a::l,b=>by rw[Vq,h,pure_bind];exact jj h l _
noncomputable def oR(S:List (Str×Value))(x:Str×Value):List (Str×Value):=if (S.lookup x.1).isNone=true then S++[(x.1,x.2)] else S
variable{us:List Value}
theorem nc(h1:fd.params.posonlyargs=[])(h2:fd.params.kwonlyargs=[])(h3:fd.params.vararg=none)(h4:fd.params.kwarg=none)(r:fd.params.args.map (·.arg)=ps)(hl:us.length<=ps.length):
  ∃k,bindArgs fd ⟨us,[]⟩=seqItems? fd.defaults >>= k/\∀(o:Option (Array Value))(ds:List Value),(o.getD #[]).toList.drop ((o.getD #[]).toList.length-ps.length)=ds->
   (ps.take (ps.length-ds.length)).filter (λn=>((ps.zip us).lookup n).isNone)=[]->
   k o=pure ((ps++[]).filterMap λn=>((((ps.drop (ps.length-ds.length)).zip ds).foldl oR (ps.zip us)).lookup n).map (n,·)):=by
 obtain⟨nm,e,d,C,sc,gl,cl,de,F,q,pm,an,cd,ct,j⟩:=fd;obtain⟨po,ar,h,s,x,E,df⟩:=d;obtain rfl:ar.map (·.arg)=ps:=r;obtain rfl:po=[]:=h1;obtain rfl:s=[]:=h2;obtain rfl:h=none:=h3;obtain rfl:E=none:=h4;refine⟨_,rfl,λo ds hd hm=>?_⟩;subst hd;refine(if_neg (λz=>?_)).trans ?_
 .rw[O3,decide_eq_true_eq] at z;exact absurd z.1 (Nat.not_lt.mpr hl)
 refine(if_neg (λz=>?_)).trans ?_
 .rw[Pw,List.isEmpty_eq_false_iff] at z;exact z hm
 refine(congrArg (· >>= _) (jj (g:=oR) (λa b=>?_) _ _)).trans ?_
 .unfold oR;by_cases z:(b.lookup a.1).isNone=true
  .rw[if_pos z];exact if_pos z
  .rw[if_neg z];exact if_neg z
 .exact rfl
theorem hV(hl:us.length=ps.length):ps.filter (λn=>((ps.zip us).lookup n).isNone)=[]:=by
 rw[Ro];intro n hn;have:=sy hl hn;cases e:(ps.zip us).lookup n with
 |none=>rw[e] at this;cases this
 |some v=>exact PL
theorem qf(h1:fd.params.posonlyargs=[])(h2:fd.params.kwonlyargs=[])(h3:fd.params.vararg=none)(h4:fd.params.kwarg=none)(h5:fd.defaults=.none)(r:fd.params.args.map (·.arg)=ps)(nd:ps.Nodup)(hl:us.length=ps.length):
  bindArgs fd ⟨us,[]⟩=pure (ps.zip us):=by
 obtain⟨k,J,N⟩:=nc (us:=us) h1 h2 h3 h4 r (Uo hl);rw[J,h5];refine(N none [] VJ (by rw[Vo,Uv,QC];exact hV hl)).trans ?_;rw[P8,List.zip_nil_right];have l:=lq (pre:=[]) hl nd (λn _=>rfl);rw[Tf] at l;exact congrArg pure l
theorem vP:∀{us:List Value}{z:Str},z∉ps->(ps.zip us).lookup z=none:=by
 induction ps with
 |nil=>intro us z _;rfl
 |cons p ps m=>
  intro us z hz;cases us with
  |nil=>rfl
  |cons u us=>rw[Rg,P1];have:(z==p)=false:=beq_eq_false_iff_ne.mpr λy=>hz (y▸PK);rw[this];exact m λy=>hz (Pa _ y)
variable{qs:List Str}
theorem uO:∀{us:List Value},us.length=ps.length->(ps++qs).zip us=ps.zip us:=by
 induction ps with
 |nil=>intro us h;cases us with
  |nil=>cases qs<;>rfl
  |cons _ _=>cases h
 |cons p ps m=>intro us h;cases us with
  |nil=>cases h
  |cons u us=>rw[Vi,Rg,Rg,m (by simpa using h)]
theorem yK{s:Shared}{z:Str}{E:Addr}{o:Obj}{h:Value}{ep:Nat}(h1:fd.params.posonlyargs=[])(h2:fd.params.kwonlyargs=[])(h3:fd.params.vararg=none)(h4:fd.params.kwarg=none)(h5:fd.defaults=.ref E)(ho:s.heap.get? E=some o)(N:o.data=.seq #[h] ep)
  (r:fd.params.args.map (·.arg)=qs++[z])(nd:(qs++[z]).Nodup):
  (us.length=(qs++[z]).length->BindsTo s fd ⟨us,[]⟩ ((qs++[z]).zip us))/\(us.length=qs.length->BindsTo s fd ⟨us,[]⟩ ((qs++[z]).zip (us++[h]))):=by
 have nz:z∉qs:=λy=>(Pz.mp nd).2.2 z y z PK rfl;have L:List.drop (1-(qs++[z]).length) [h]=[h]:=by rw[show 1-(qs++[z]).length=0 by simp];rfl
 have l:(qs++[z]).take ((qs++[z]).length - [h].length)=qs:=by simp
 have T:(qs++[z]).drop ((qs++[z]).length - [h].length)=[z]:=by simp
 refine⟨λhl=>?_,λhl=>?_⟩
 .obtain⟨k,k1,k2⟩:=nc (us:=us) h1 h2 h3 h4 r (Uo hl);refine .of_defaults h5 ho N k1 ((k2 (some #[h]) [h] L ?_).trans ?_)
  .rw[l,Ro];exact λn hn=>Ro.mp (hV hl) n (Ph _ hn)
  .have x:¬ (((qs++[z]).zip us).lookup z).isNone=true:=Ro.mp (hV hl) z (Pb _ PK);rw[T];have v:WC oR ((qs++[z]).zip us) ([z].zip [h])=(qs++[z]).zip us:=if_neg x;rw[v,P8];exact congrArg pure (lq (pre:=[]) hl nd (λn _=>rfl))
 .obtain⟨k,k1,k2⟩:=nc (us:=us) h1 h2 h3 h4 r (by rw[hl,Pk];exact Nat.le_add_right _ _);have hz:(qs++[z]).zip us=qs.zip us:=uO hl;refine .of_defaults h5 ho N k1 ((k2 (some #[h]) [h] L ?_).trans ?_)
  .rw[l,hz];exact hV hl
  .have J:(us++[h]).length=(qs++[z]).length:=by rw[Pk,Pk,hl];rfl
   have U:(qs++[z]).zip (us++[h])=qs.zip us++[(z,h)]:=by rw[List.zip_append hl.symm];rfl
   rw[T,hz];have v:WC oR (qs.zip us) ([z].zip [h])=qs.zip us++[(z,h)]:=if_pos (by rw[vP nz];rfl);rw[v,<-U,P8];exact congrArg pure (lq (pre:=[]) J nd (λn _=>rfl))
mutual
noncomputable def yj(K:O2):Nat->Value->A->Bool
 |0,_,_=>false
 |n+1,v,a=>match v,a with
  | .none,.non=>true
  | .bool b,.bl c=>b==c
  | .int i _,.int j=>i==j
  | .str x _,.str y=>x==y
  | .ref p,.tup as=>(match K.lookup p with
   |some ⟨.type "tuple",none,.seq its _,_⟩=>Ux its.size 1000&&uC K n its.toList as
   | _=>false)
  |_,_=>false
noncomputable def uC(K:O2):Nat->List Value->List A->Bool
 |0,_,_=>false
 |_+1,[],[]=>true
 |n+1,v::vs,a::as=>yj K n v a&&uC K n vs as
 |_+1,_,_=>false
end
mutual
theorem nE{P:Program}{w:World}{K:O2}{mg:Str->Option Value}:∀{n:Nat}{v:Value}{a:A},yj K n v a=true->∃x,RelV x v/\∀G,RA ⟨K,mg,P,w⟩ G x a
 |0,v,a,h=>by cases h
 |n+1,v,a,h=>by
  unfold yj at h;split at h
  .exact⟨.non,rfl,λ_=>.non⟩
  .rw[beq_iff_eq] at h;subst h;exact⟨.bl _,rfl,λ_=>.bl _⟩
  .rw[beq_iff_eq] at h;subst h;exact⟨.int _,⟨_,rfl⟩,λ_=>.int _⟩
  .rw[beq_iff_eq] at h;subst h;exact⟨.str _,⟨_,rfl⟩,λ_=>.str _⟩
  .split at h
   .rename_i O ep sl e;rw[O3] at h;obtain⟨xs,h1,h2⟩:=pU (P:=P) (w:=w) (mg:=mg) h.2;refine⟨.ref _,rfl,λG=>.tup (.inr ⟨_,O,_,e,⟨rfl,rfl⟩,rfl,?_,h1⟩) (h2 G)⟩;have:=Se h.1;have:=hY;omega
   .cases h
  .cases h
theorem pU{P:Program}{w:World}{K:O2}{mg:Str->Option Value}:∀{n:Nat}{vs:List Value}{as:List A},uC K n vs as=true->∃xs,Vals xs vs/\∀G,bf ⟨K,mg,P,w⟩ G xs as
 |0,vs,as,h=>by cases h
 |_+1,[],[],h=>⟨[],.nil,λ_=>.nil⟩
 |n+1,v::vs,a::as,h=>by rw[uC,O3] at h;obtain⟨x,h1,h2⟩:=nE (P:=P) (w:=w) (mg:=mg) h.1;obtain⟨xs,h3,h4⟩:=pU (P:=P) (w:=w) (mg:=mg) h.2;exact⟨x::xs,.cons h1 h3,λG=>.cons (h2 G) (h4 G)⟩
 |_+1,[],_::_,h=>by cases h
 |_+1,_::_,[],h=>by cases h
end
noncomputable def gV(K:O2)(x:Str):Option Value:=match SG K mainGlobals x with
 |some (some v)=>some v
 |_=>none
variable{h:Heap}
theorem iJ(X:K.In h)(G:h.Ns mainGlobals mg){v:Value}(e:gV K x=some v):mg x=some v:=by
 unfold gV at e;split at e
 .rename_i q;cases e;exact PySem.W.mg_of X G q
 .cases e
def JH(K:O2)(x:Str):Option V:=match gV K x with
 |some (.ref C)=>some (.ref C)
 |some _=>none
 |none=>match SG K mainGlobals x,bootBuiltins x with
  |some none,some (.type t)=>if x==("__name__" : Str) then none else some (.ty t)
  |_,_=>none
noncomputable def wH(K:O2)(C:Addr):Bool:=
 Qo K (.ref C) "__getattribute__" == some (some (.builtin "BaseException.__getattribute__"))&&Qo K (.ref C) "__getattr__" == some none&&Qo K (.ref C) "__class__" == some (some (.builtin "object.__class__")) &&
 UD K (.builtin "object.__class__") "__get__" == some (some (.builtin "getset_descriptor.__get__"))&&UR K (.builtin "object.__class__")==some true&&Tn K C (.type "object")==some true&&Tn K C (.type "BaseException")==some true
variable{C:Addr}
theorem vO(h:wH K C=true):hR K C:=by unfold wH at h;simp only[O3,beq_iff_eq] at h;obtain⟨⟨⟨⟨⟨⟨h1,h2⟩,h3⟩,h4⟩,h5⟩,r⟩,c⟩:=h;exact⟨h1,h2,h3,h4,h5,r,c⟩
def Js(K:O2)(p:Str×List (Str×Bool)):Bool:=match JH K p.1 with
 |some cv=>p.2.all λq=>match gV K q.1 with
  |some (.ref C)=>wH K C&&Qg K (.ref C) (rb cv)==some q.2
  |_=>false
 |none=>false
def Kk(K:O2)(p:Str×List Str):Bool:=match gV K p.1 with
 |some (.ref T)=>p.2.all λc=>match gV K c with
  |some (.ref C)=>Sa K (.ref C) (.ref T)==some true
  |_=>false
 |_=>false
def Ke(K:O2)(x:Str):Bool:=match gV K x with
 |some (.ref C)=>Rq K C tj "ValueError.__new__"
 |_=>false
def IU(K:O2)(p:Str×A):Bool:=match gV K p.1 with
 |some v=>yj K 20 v p.2
 |none=>false
noncomputable def nY(K:O2)(C:Addr):Bool:=SN K C Str.empty&&UB K C&&UC K C&&Qo K (.ref C) "__setattr__" == some (some (.builtin "object.__setattr__"))
theorem mq(h:nY K C=true):F4 K C:=by unfold nY at h;simp only[O3,beq_iff_eq] at h;obtain⟨⟨⟨h1,h2⟩,h3⟩,h4⟩:=h;exact⟨h1,h2,h3,h4⟩
def JQ(K:O2)(p:Str×List Str):Bool:=match gV K p.1 with
 |some (.ref C)=>nY K C&&p.2.all λf=>Qo K (.ref C) f==some none
 |_=>false
def Ea(tb:Tb)(K:O2):Bool:=tb.fns.isEmpty&&tb.cst.all (IU K)&&C0.all (λx=>SG K mainGlobals x==some none)&&tb.exs.all (Ke K)&&tb.kit.all (Js K)&&tb.exm.all (Kk K)&&tb.fld.all (JQ K)&&tb.ini.isEmpty&&tb.mts.isEmpty
variable{tb:Tb}
theorem HY(X:K.In h)(G:h.Ns mainGlobals mg)(e:Ea tb K=true):Gd tb 1 P w K mg base:=by
 unfold Ea at e;simp only[O3,Ql,PZ,beq_iff_eq] at e;obtain⟨⟨⟨⟨⟨⟨⟨⟨J,N⟩,D⟩,V⟩,O⟩,E⟩,g⟩,F⟩,A⟩:=e;refine⟨λx f q=>(by rw[J] at q;cases q),λx a q=>?_,λx q=>Uy X G (D x q),λx q=>?_,λx l q=>?_,λx l q=>?_,λf c C q hm=>?_,λc f q=>(by rw[F] at q;cases q),λm c f q=>(by rw[A] at q;cases q)⟩
 .have:=N _ (bu q);unfold IU at this;split at this
  .rename_i v I;obtain⟨y,Q,b⟩:=nE (P:=P) (w:=w) (mg:=mg) this;exact⟨y,v,iJ X G I,Q,b⟩
  .cases this
 .have:=V x q;unfold Ke at this;split at this
  .rename_i C I;exact⟨C,iJ X G I,this⟩
  .cases this
 .have:=O _ (bu q);unfold Js at this;split at this
  .rename_i cv R;rw[PZ] at this;have tail:∀c C k,l.lookup c=some k->mg c=some (.ref C)->hR K C/\Qg K (.ref C) (rb cv)=some k:=λc C k hk hm=>by
    have t:=this _ (bu hk);split at t
    .rename_i n I;have:=iJ X G I;rw[hm] at this;cases this;rw[O3,beq_iff_eq] at t;exact⟨vO t.1,t.2⟩
    .cases t
   unfold JH at R;split at R
   .rename_i C I;cases R;exact⟨.ref C,.ref C,rfl,rfl,.inl (iJ X G I),tail⟩
   .cases R
   .split at R
    .rename_i t en eb;split at R
     .cases R
     .rename_i hn;cases R;exact⟨.type t,.ty t,rfl,rfl,.inr ⟨Uy X G en,eb,λz=>hn (by rw[z];exact beq_self_eq_true _)⟩,tail⟩
    .cases R
  .cases this
 .have:=E _ (bu q);unfold Kk at this;split at this
  .rename_i T I;rw[PZ] at this;refine⟨T,iJ X G I,λc C hc hm=>?_⟩;have t:=this c (Q0.mp hc);split at t
   .rename_i n s;have:=iJ X G s;rw[hm] at this;cases this;rw[beq_iff_eq] at t;exact t
   .cases t
  .cases this
 .obtain⟨p,U,Z⟩:=PN.mp (Q0.mp q);obtain⟨L,r⟩:=Q9.mp U;have t:=g p L;subst Z;unfold JQ at t;split at t
  .rename_i n I;have:=iJ X G I;rw[hm] at this;cases this;rw[O3,PZ] at t;have:=t.2 f (Q0.mp r);exact⟨mq t.1,by rw[beq_iff_eq] at this;exact this⟩
  .cases t
def qW(d:DI):Bool:=(cK d.st).posonlyargs.isEmpty&&(cK d.st).kwonlyargs.isEmpty&&(cK d.st).vararg.isNone&&(cK d.st).kwarg.isNone&&(cK d.st).args.map (·.arg)==d.N.take d.n
def Iv(K:O2)(dV:Value)(a:A):Bool:=match dV with
 | .ref td=>match K.lookup td with
  | some ⟨_,_,.seq its _,_⟩=>(match its.toList with
   |[v]=>yj K 20 v a
   | _=>false)
  |_=>false
 |_=>false
def uE(K:O2)(dV:Value):List A->Bool
 |[]=>match dV with
  | .none=>true
  |_=>false
 |[a]=>Iv K dV a
 |_=>false
theorem IB{d:DI}{qual:Str}{f:Addr}(h:qW d=true)(r:fY d=true)(F:nK K d.name qual d.st f fd dV)(hd:uE K dV d.df=true):iu P w K mg fd (d.N.take d.n) d.df:=by
 unfold qW at h;simp only[O3,Ql,Tx,beq_iff_eq] at h;obtain⟨⟨⟨⟨h1,h2⟩,h3⟩,h4⟩,h5⟩:=h;obtain⟨S,hl⟩:=gh r;have nd:=S.nd.sublist (Rj d.n d.N);obtain⟨p1,U⟩:fd.params=cK d.st/\fd.defaults=dV:=by obtain⟨oc,od,kV,doc,pm,an,cdv,ct,osl,e,_⟩:=F.ex;rw[e];exact⟨rfl,rfl⟩
 rw[<-p1] at h1 h2 h3 h4 h5;clear F p1 S hl r;cases e:d.df with
 |nil=>
  rw[e] at hd;have hd:dV=.none:=by cases dV<;>first|rfl|cases hd
  subst hd
  .intro j V;refine⟨[],[],Binds.all λus D=>qf h1 h2 h3 h4 U h5 nd D,.nil,λ_=>?_⟩;rw[VJ];exact .nil
 |cons a as=>
  cases as with
  |cons _ _=>rw[e] at hd;cases hd
  |nil=>
   rw[e] at hd
   replace hd:Iv K dV a=true:=hd
   unfold Iv at hd;split at hd
   .rename_i A;split at hd
    .rename_i x y O ep sl Q;split at hd
     .rename_i v I;obtain⟨g,X,p⟩:=nE (P:=P) (w:=w) (mg:=mg) hd;have hi:O=#[v]:=by rw[<-RZ,I]
      subst hi;have E:∀(s:Shared)(us:List Value),K.In s.heap->((us.length=(d.N.take d.n).length->BindsTo s _ ⟨us,[]⟩ ((d.N.take d.n).zip us))/\(us.length+1=(d.N.take d.n).length->BindsTo s _ ⟨us,[]⟩ ((d.N.take d.n).zip (us++[v])))):=λs us C=>by
       rcases Rw (d.N.take d.n) with z|⟨qs,c,z⟩
       .rw[z] at h5 ⊢;refine⟨λhl=>?_,λhl=>by cases hl⟩;cases us with
        |cons _ _=>cases hl
        |nil=>obtain⟨k,k1,k2⟩:=nc (us:=[]) h1 h2 h3 h4 h5 (Pf 0);exact .of_defaults U (C _ _ Q) rfl k1 (k2 (some #[v]) [] rfl rfl)
       .rw[Rx] at z;rw[z] at h5 nd ⊢;have:=yK (s:=s) (us:=us) h1 h2 h3 h4 U (C _ _ Q) rfl h5 nd;exact⟨this.1,λq=>this.2 (by simpa using q)⟩
      intro j V;rcases Nat.le_one_iff_eq_zero_or_eq_one.mp V with rfl|rfl
      .exact⟨[v],[g],λs us C D=>(E s us C).2 (by simpa using D),.cons X .nil,λG=>.cons (p G) .nil⟩
      .exact⟨[],[],λs us C D=>by rw[P8] at D ⊢;exact(E s us C).1 D,.nil,λG=>.nil⟩
     .cases hd
    .cases hd
   .cases hd
def sL:Tb->List DI->List (Option Ms)
 |_,[]=>[]
 |tb,d::ds=>jG (Ac tb (tr tb lb) lb d.sc) (cj d.st)::sL (tb.add d) ds
def mf:Tb->List DI->Tb
 |tb,[]=>tb
 |tb,d::ds=>mf (tb.add d) ds
def gU(K:O2)(mg:Str->Option Value)(d:DI)(f:Addr):Prop:=match d.cl with
 |none=>mg d.name=some (.ref f)
 |some c=>∃C,mg c=some (.ref C)/\F4 K C/\Meth K C d.name f/\(d.name=("__init__" : Str)->Mk K C f)
section
variable{P:Program}{w:World}{K:O2}{mg:Str->Option Value}{base:Heap}
theorem Gd.up{j k:Nat}(G:Gd tb j P w K mg base)(h:j<=k):Gd tb k P w K mg base:=⟨λx f e=>by
 obtain⟨a,fd,ps,F,r⟩:=G.fn x f e;exact⟨a,fd,ps,F.mono h,r⟩,G.cs,G.bl,G.ex,G.kt,G.em,G.fl,λc f e=>by
 obtain⟨C,a,fd,ps,i,hi,r⟩:=G.im c f e;exact⟨C,a,fd,ps,i,Px hi h,r⟩,λm c f e=>by
 obtain⟨C,a,fd,ps,F,r⟩:=G.mt m c f e;exact⟨C,a,fd,ps,F.mono h,r⟩⟩
theorem Gd.add{tb:Tb}{k:Nat}(G:Gd tb k P w K mg base){d:DI}{f:Addr}{fd:FuncData}{dV:Value}(m:gU K mg d f)(F:nK K d.name d.qual d.st f fd dV)(hd:uE K dV d.df=true)(r:fY d=true)(hp:qW d=true)
  (h:jG (Ac tb (tr tb lb) lb d.sc) (cj d.st)=some d.m):Gd (tb.add d) (k+2) P w K mg base:=by
 have G2:=G.up (show k<=k+2 by omega);have s:=Ei G F r h;have a:iu P w K mg fd (d.N.take d.n) d.df:=IB hp r F hd;unfold Tb.add;unfold gU at m;split
 .rename_i hc;rw[hc] at m;refine⟨λx fi e=>?_,G2.cs,G2.bl,G2.ex,G2.kt,G2.em,G2.fl,G2.im,G2.mt⟩
  .have e:((d.name,d.fi)::tb.fns).lookup x=some fi:=e;rw[P1] at e;cases z:x==d.name with
   |true=>rw[z] at e;cases e;rw[beq_iff_eq] at z;subst z;exact⟨f,fd,_,s.mono (RU _),m,F.kp,a⟩
   |false=>rw[z] at e;exact G2.fn x fi e
 .rename_i c hc;rw[hc] at m;obtain⟨C,V,X,E,g⟩:=m;split
  .rename_i z;rw[beq_iff_eq] at z;refine⟨G2.fn,G2.cs,G2.bl,G2.ex,G2.kt,G2.em,G2.fl,λx fi e=>?_,G2.mt⟩;have e:((c,d.fi)::tb.ini).lookup x=some fi:=e;rw[P1] at e;cases y:x==c with
   |true=>rw[y] at e;cases e;rw[beq_iff_eq] at y;subst y;exact⟨C,f,fd,_,k+1,Pf _,s,V,g z,a⟩
   |false=>rw[y] at e;exact G2.im x fi e
  .refine⟨G2.fn,G2.cs,G2.bl,G2.ex,G2.kt,G2.em,G2.fl,G2.im,λx y fi e=>?_⟩;rcases Po.mp e with e|e
   .cases e;exact⟨C,f,fd,_,s.mono (RU _),V,X,E,a⟩
   .exact G2.mt x y fi e
theorem Gd.all:∀{ds:List DI}{tb:Tb}{k:Nat},Gd tb k P w K mg base->(∀d∈ds,∃f fd dV,gU K mg d f/\nK K d.name d.qual d.st f fd dV/\uE K dV d.df=true)->ds.all (λd=>fY d&&qW d)=true->sL tb ds=ds.map (λd=>some d.m)->Gd (mf tb ds) (k+2*ds.length) P w K mg base
 |[],tb,k,G,_,_,_=>G
 |d::ds,tb,k,G,hf,hs,ht=>by rw[P4,O3,O3] at hs;obtain⟨t,b⟩:=UY ht;obtain⟨f,fd,dV,m,F,hd⟩:=hf d PK;have:=Gd.all (G.add m F hd hs.1.1 hs.1.2 t) (λe R=>hf e (Pa _ R)) hs.2 b;rw[Pl,show k+2*(ds.length+1)=k+2+2*ds.length by omega];exact this
end
noncomputable abbrev wy:=Str×Str×Arguments×FuncBody×Scope×Addr×List (Str×Addr)×Addr×Bool
def KL(K:O2)(d:DI):Option Addr:=match d.cl with
 |none=>match gV K d.name with
  |some (.ref f)=>some f
  |_=>none
 |some c=>match gV K c with
  |some (.ref C)=>match Qo K (.ref C) d.name with
   |some (some (.ref f))=>some f
   |_=>none
  |_=>none
def OE(K:O2)(d:DI)(f:Addr):Bool:=match d.cl with
 |none=>true
 |some c=>match gV K c with
  |some (.ref C)=>nY K C&&TJ K (.ref f)&&(!(d.name==("__init__" : Str)) || (UU K C&&Qf K (.ref C)))
  |_=>false
def EW(K:O2)(d:DI):Option wy:=match KL K d with
 |some f=>match K.lookup f with
  |some ⟨_,_,.func x,_⟩=>some (x.name,x.qualname,x.params,x.body,x.scope,x.globals,x.closure,x.builtins,R9 K x.code d.qual&&Qf K (.ref f)&&uE K x.defaults d.df&&OE K d f)
  |_=>none
 |none=>none
def Hx(d:DI):Option wy:=some (d.name,d.qual,cK d.st,.stmts (cj d.st),aI d.st,mainGlobals,[],builtinsNs,true)
theorem AA(X:K.In h)(G:h.Ns mainGlobals mg){d:DI}(e:EW K d=Hx d):∃f fd dV,gU K mg d f/\nK K d.name d.qual d.st f fd dV/\uE K dV d.df=true:=by
 unfold EW Hx at e;split at e
 .rename_i f R;split at e
  .rename_i Y U x Z Q;obtain⟨b1,b2,A,D,H,S,P,r,t,a,n,F,q,E,g⟩:=x;simp only[WN,Vn] at e;obtain⟨rfl,rfl,rfl,rfl,rfl,rfl,rfl,rfl,N⟩:=e;simp only[O3] at N;obtain⟨⟨⟨b,w⟩,v⟩,k⟩:=N;refine⟨f,_,_,?_,⟨⟨_,_,_,_,_,_,_,_,_,rfl,Q,b⟩,w⟩,v⟩;unfold gU;unfold KL at R;unfold OE at k;split
   .rename_i hc;rw[hc] at R;simp only at R;split at R
    .rename_i o I;cases R;exact iJ X G I
    .cases R
   .rename_i c hc;rw[hc] at R k;simp only at R k;split at R
    .rename_i C I;rw[I] at k;simp only[O3,Qw,Pw,beq_eq_false_iff_ne] at k;split at R
     .rename_i o s;cases R;refine⟨C,iJ X G I,mq k.1.1,⟨s,k.1.2,w⟩,λz=>?_⟩;rcases k.2 with y|y
      .exact absurd z y
      .rw[z] at s;exact⟨y.1,s,k.1.2,y.2⟩
     .cases R
    .cases R
  .cases e
 .cases e
def IP(ds:List DI)(e:O2->Bool)(K:O2):List (Option wy)×Bool:=(ds.map (EW K),e K)
def IG(ds:List DI):List (Option wy)×Bool:=(ds.map Hx,true)
def hk(ds:List DI)(b:O2->Bool):Vt where
 α:=List (Option wy)×Bool
 obs:=λs=>IP ds b (W.gm s.heap)
 val:=λ_=>IG ds
 says:=λ_ h=>∃K:O2,IP ds b K=IG ds/\K.In h
 of:=λ_ s e=>⟨W.gm s.heap,e,W.lA _⟩
 keeps:=λ_ _ _ ⟨K,e,i⟩ k=>⟨K,e,i.keeps k⟩
variable{ds:List DI}
theorem CD{b:O2->Bool}(X:K.In h)(G:h.Ns mainGlobals mg)(e:IP ds b K=IG ds):b K=true/\∀d∈ds,∃f fd dV,gU K mg d f/\nK K d.name d.qual d.st f fd dV/\uE K dV d.df=true:=by obtain⟨J,l⟩:=Sb e;exact⟨l,λd hd=>AA X G (List.map_eq_map_iff.mp J d hd)⟩
theorem zW{l:UZ}{q:Program}{loose:List Str}{XP:(Str->Option Value)->Heap->Prop}{d:DefRec}{di:DI}(hn:l.most=some 63)(E:d.params.defaults=[])(dn:d.name = "law")
  (r:(ds++[di]).all (λd=>fY d&&qW d)=true)(j:sL tb ds=ds.map (λd=>some d.m))(hl:jG (Ac (mf tb ds) (tr (mf tb ds) lb) lb di.sc) (cj di.st)=some di.m)(F:di.name = "law")(X:di.cl=none)(I:di.df=[])(L:di.N.take di.n=[x])(D:cE (2+2*ds.length) callerA)
  (hm:∀ns:List Int,ns.length<=63->∃Z,di.M [.fr (.lst (ns.map A.int))]=some (.rt (.fr (.bl true)),Z)):
  Vm q loose XP (hk (ds++[di]) (Ea tb)).says l.row.toRowW d [] (λf vs=>UO f vs):=by
 refine W.v9 (l:=l) (n:=63) (k:=2+2*ds.length) (x:=x) (sp:=yT) hn (by decide) E D (λw mg B h Y G y=>?_) (λ_ _ a ns hl _ R=>⟨a,ns,rfl,R,hl,λ_=>rfl⟩);obtain⟨K,e,O⟩:=Y;obtain⟨J,Q⟩:=CD O G e;refine⟨K,O,?_⟩;rw[List.all_append,O3] at r;obtain⟨f,fd,dV,V,g,C⟩:=Q di (Pb _ PK);rw[I] at C;have C:dV=.none:=by cases dV<;>first|rfl|cases C
 subst C;unfold gU at V;rw[dn] at y;rw[X] at V;simp only at V;rw[F,y] at V;cases V;have z:=PZ.mp r.2 di PK;rw[O3] at z;have c:di.n=1:=by have:=(gh z.1).2;rw[L] at this;exact this.symm
 refine⟨fd,λs u=>?_,λbase _ _=>?_⟩
 .obtain⟨oc,od,kV,doc,pm,an,cdv,ct,osl,rfl,T,v⟩:=g.ex;obtain⟨S,H⟩:=gh z.1;have hp:=z.2;unfold qW at hp;simp only[O3,Ql,Tx,beq_iff_eq] at hp;obtain⟨⟨⟨⟨h1,h2⟩,h3⟩,h4⟩,h5⟩:=hp;have:=qf (fd:=Sx di.name di.qual (cK di.st) (cj di.st) (aI di.st) .none kV doc pm an cdv ct) (us:=[u]) h1 h2 h3 h4 rfl h5 (S.nd.sublist (Rj _ _)) (by rw[L];rfl);rw[L] at this;exact .of_eq this
 .have t:=Gd.all (HY (P:=l.prog) (w:=w) (base:=base) O G J) (λd hd=>Q d (Ph _ hd)) r.1 j;have o:=Ei t g z.1 hl;rw[L,c,show 1+2*ds.length+1=2+2*ds.length by omega] at o;exact HD o hm
end M
set_option maxHeartbeats 4000000
namespace W
open PySem L2 M
noncomputable def top(i:Nat):Stmt:=PySem.Challenge.pw_fitwhatever_k22_sums_of_chains.main.body.getD i (.Pass ⟨0,0,0,0⟩)
abbrev mix(m n:Mi Rr):Mi Rr:=av (bI lP cX) m n
abbrev ax(i:Int):Mi Rr:=mC (.int i)
abbrev DF(b:Bool):A->A->Option Rr:=bI (bI (fP b) (dm b)) (iV b)
abbrev bJ(f:Ms)(m:Mi (List Rr)):Mi Rr:=iw f [] m
abbrev KC(t:Mi Bool):Ms:=j4 t (bM (mC (.bl false))) cp
abbrev vv(a:Mi Rr):Mi (List Rr):=cz a fk
abbrev aP(a b:Mi Rr):Mi (List Rr):=cz a (vv b)
abbrev KP(a b c:Mi Rr):Mi (List Rr):=cz a (aP b c)
abbrev M0(a b c d:Mi Rr):Mi (List Rr):=cz a (KP b c d)
def jo:Ms:=aA (j4 (aq (av iU (mix (ae 0) (ax 0)) (ax 1))) (aA (aE 2 (av gx (mix (ae 0) (ax 1)) (ae 1))) (aA (jY 0 (ax 1) (av ig (mix (ae 0) (ax 1)) (ae 1))) (bM (ae 2)))) cp) (aA (aE 3 (av aK (mix (ae 0) (ax 2)) (ax 1))) (aA (jY 0 (ax 2) (ae 3)) (aA (aE 4 (av gx (av dh (av aK (av aK (mix (ae 0) (ax 1)) (av dh (av dh (ax 7919) (ae 3)) (ae 3))) (ae 3)) (ax 48271)) (ax 2305843009213693951))) (bM (av gx (av ig (av gx (av aK (av dh (ae 4) (ax 1442695040888963407)) (ax 4321)) (ax 2305843009213693921)) (ax 64)) (ae 1))))))
def ai:Ms:=cf 3 jo
def j0:Ms:=aA (j4 (aq (av iU (bJ ai (aP (ae 0) (ax 8))) (ax 1))) (bM (aU (aP (av aK (ax 3) (bJ ai (aP (ae 0) (ax 4)))) (av aK (ax 9) (bJ ai (aP (ae 0) (ax 8))))))) cp) (bM (aU (aP (av aK (ax 1) (bJ ai (aP (ae 0) (ax 4)))) (bJ ai (aP (ae 0) (ax 9))))))
def fe:Ms:=cf 0 j0
def ir:Ms:=aA (aE 2 (mC (.str "abcdefghijklmnopqrstuvwxyz"))) (aA (aE 3 (IH hU (mC (.str "")) (bV 1 (dG (ax 8)) (bj 7) bF (mix (ae 2) (bJ ai (aP (ae 0) (ax 26))))))) (aA (aE 4 (av aK (ax 1) (bJ ai (aP (ae 0) (ax 8))))) (aA (aE 5 (bJ ai (aP (ae 0) (aR 4)))) (aA (aE 6 (bJ ai (aP (ae 0) (ax 26)))) (bM (bV 1 (dG (ae 1)) (bj 7) bF (av aK (av aK (pF (ae 3) bR (bZ (ae 5))) (mix (ae 2) (av gx (av aK (ae 6) (av dh (ax 3) (ae 7))) (ax 26)))) (pF (ae 3) (bZ (av aK (ae 5) (ax 1))) (bZ (ae 4))))))))))
def eN:Ms:=cf 5 ir
def iL:Ms:=aA (aE 2 (d0 fk)) (aA (gq (da (bJ eN (aP (ae 0) (ax 6)))) (bj 3) (dR (fq 2 (gj 2 (d0 (aP (aU (aP (mC (.str "x")) (ae 3))) (aU (aP (mC (.str "y")) (ae 3))))))))) (bM (bV 1 (dG (ae 1)) (bj 4) bF (fR 2 (bJ ai (aP (ae 0) (cV dJ (ae 2))))))))
def cY:Ms:=cf 2 iL
def gC:Ms:=aA (gQ Ad (aq (av dA (ae 1) (ax 0))) (yX 0 1 (aP (ae 1) (av gx (ae 0) (ae 1))))) (bM (cV yQ (ae 0)))
def dM:Ms:=cf 0 gC
def kh:Ms:=aA (j4 (aq (av El (ae 1) (ax 0))) (aA (aE 0 (av gP (ax 0) (ae 0))) (aE 1 (av gP (ax 0) (ae 1)))) cp) (aA (aE 2 (bJ dM (aP (aR 0) (aR 1)))) (bM (aU (aP (av ig (ae 0) (ae 2)) (av ig (ae 1) (ae 2))))))
def dy:Ms:=cf 1 kh
def gD:Ms:=aA (aE 1 (bJ ai (aP (ae 0) (ax 8)))) (aA (j4 (aq (av iU (ae 1) (ax 7))) (bM (aU (aP (av gP (bJ ai (aP (ae 0) (tK (av aK (av dh (ax 2) (av iS (ax 10) (ax 17))) (ax 1))))) (av iS (ax 10) (ax 17))) (ax 1)))) cp) (aA (j4 (aq (av iU (ae 1) (ax 6))) (bM (bJ dy (aP (av gP (bJ ai (aP (ae 0) (tK (av aK (av dh (ax 2) (av iS (ax 10) (ax 8))) (ax 1))))) (av iS (ax 10) (ax 8))) (tK (av aK (ax 1) (bJ ai (aP (ae 0) (av iS (ax 10) (ax 8))))))))) cp) (aA (j4 (aq (av Ij (ae 1) (ax 3))) (bM (bJ dy (aP (av gP (bJ ai (aP (ae 0) (ax 201))) (ax 100)) (tK (av aK (ax 1) (bJ ai (aP (ae 0) (ax 6)))))))) cp) (bM (aU (aP (av gP (bJ ai (aP (ae 0) (ax 9))) (ax 4)) (ax 1)))))))
def cJ:Ms:=cf 1 gD
def kF:Ms:=aA (aE 2 (d0 fk)) (aA (gq (da (cV (oV aX a9) (ae 1))) (bj 3) (aA (aE 4 (bJ ai (aP (ae 0) (ax 9)))) (aA (aE 5 (mix (d0 (cz (aU (aP (ax 0) (ax 1))) (cz (aU (aP (ax 0) (ax 1))) (cz (aU (aP (ax 1) (ax 1))) (cz (aU (aP (vi lI (ax 1)) (ax 1))) (M0 (aU (aP (ax 2) (ax 1))) (aU (aP (vi lI (ax 2)) (ax 1))) (aU (aP (ax 1) (ax 3))) (aU (aP (vi lI (ax 5)) (ax 7))))))))) (av gx (ae 4) (ax 8)))) (aA (j4 (aq (av iU (ae 4) (ax 8))) (aE 5 (bJ cJ (vv (ae 0)))) cp) (j4 (aq (av dA (mix (ae 5) (ax 0)) (ax 0))) (dR (fq 2 (fg 2 (aU (aP (ae 3) (ae 5)))))) cp))))) (bM (aU (aP (bJ cJ (vv (ae 0))) (cV gR (ae 2))))))
def ff:Ms:=cf 4 kF
def jm:Ms:=aA (aE 1 (pF (d0 (cz (mC (.str "a")) (cz (mC (.str "b.c")) (M0 (mC (.str "b.ca")) (mC (.str "d7")) (mC (.str "e.f.g")) (mC (.str "zz")))))) bR (bZ (bJ ai (aP (ae 0) (ax 7)))))) (aA (qT (bJ fe (vv (ae 0))) (jt 2 (cF (bj 2) (cF (bj 3) j8)))) (aA (aE 4 (bJ cY (aP (ae 0) (aR 2)))) (aA (aE 5 (d0 fk)) (aA (gq (dG (av aK (ax 1) (ae 3))) (bj 6) (aA (aE 7 (bJ ff (aP (ae 0) (aR 1)))) (aA (j4 (qc (aq (av dA (ae 5) (d0 fk))) (aq (av iU (bJ ai (aP (ae 0) (ax 4))) (ax 1)))) (aA (aE 7 (mix (mix (ae 5) (vi lI (ax 1))) (ax 2))) (aE 7 (aU (aP (aU (aP (av gP (ax 0) (mix (mix (ae 7) (ax 0)) (ax 0))) (mix (mix (ae 7) (ax 0)) (ax 1)))) (cV gR (bV 2 (da (mix (ae 7) (ax 1))) (jt 2 (cF (bj 8) (cF (bj 9) j8))) bF (aU (aP (ae 8) (aU (aP (av gP (ax 0) (mix (ae 9) (ax 0))) (mix (ae 9) (ax 1)))))))))))) cp) (dR (fq 5 (fg 5 (aU (KP (mix (ae 4) (bJ ai (aP (ae 0) (aR 2)))) (mix (ae 4) (bJ ai (aP (ae 0) (aR 2)))) (ae 7))))))))) (bM (pF (ae 5) bR (bZ (ax 16))))))))
def dC:Ms:=cf 7 jm
def jq:Ms:=aA (aE 2 (ax 0)) (aA (j4 (aq (av El (ae 1) (cV dJ (ae 0)))) (aE 2 (mix (ae 0) (ae 1))) cp) (bM (d0 (KP (cV CO (av IT (cV yQ (ae 2)) (av iS (ax 10) (ax 18)))) (ae 2) (av dh (ax 17) (ae 1))))))
def jk:Ms:=cf 1 jq
def gF:Ms:=aA (aE 1 nA) (aA (aE 2 (bV 1 (dG (cV dJ (ae 0))) (bj 6) bF (aU (vv (ae 6))))) (aA (gQ Ad (aq (av dA (ae 2) (d0 fk))) (aA (aE 3 (qS 2)) (aA (aE 4 (mix (mix (ae 0) (mix (ae 3) (vi lI (ax 1)))) (ax 1))) (j4 (aq (av iU (ae 4) (mix (mix (ae 0) (mix (ae 3) (ax 0))) (ax 0)))) (aA (aE 5 (yZ (ae 3) (cV kD (ae 3)))) (qr 1 (av aK (pF (ae 3) (bZ (ae 5)) bR) (pF (ae 3) bR (bZ (ae 5)))) (mC (.bl true)))) (j4 (aq (av (bI (DF true) (gu true)) (ae 4) (bV 1 (da (ae 3)) (bj 6) bF (mix (mix (ae 0) (ae 6)) (ax 0))))) (dR (fq 2 (gj 2 (bV 1 (dG (cV dJ (ae 0))) (bj 6) (aq (av iU (mix (mix (ae 0) (ae 6)) (ax 0)) (ae 4))) (av aK (ae 3) (aU (vv (ae 6)))))))) cp))))) (bM (iW 1))))
def cG:Ms:=cf 5 gF
def lT:Ms:=aA (KC (Aj (nM (aq (cV (kM Ty.tuple) (ae 0)))) (Aj (aq (av dA (cV dJ (ae 0)) (ax 2))) (aq (av dA (ae 0) (ae 1)))))) (bM (av (bI (DF true) (gu true)) (mC (.bl false)) (bV 1 (da (ae 0)) (bj 2) bF (kj (cV (kM Ty.int) (ae 2)) (xY (cV (kM Ty.bool) (ae 2)))))))
def gp:Ms:=cf 0 lT
def gH:Ms:=aA (KC (Aj (nM (aq (cV (kM Ty.tuple) (ae 0)))) (Aj (aq (av dA (cV dJ (ae 0)) (ax 2))) (nM (aq (bJ gp (aP (mix (ae 0) (ax 0)) (mix (ae 1) (ax 0))))))))) (aA (KC (Aj (nM (aq (cV (kM Ty.tuple) (mix (ae 0) (ax 1))))) (aq (av dA (ae 0) (ae 1))))) (bM (av (bI (DF true) (gu true)) (mC (.bl false)) (bV 1 (da (mix (ae 0) (ax 1))) (bj 2) bF (kj (cV (kM Ty.tuple) (ae 2)) (bJ gp (aP (mix (ae 2) (ax 1)) (mix (ae 2) (ax 1)))))))))
def dO:Ms:=cf 0 gH
def dP:Ms:=aA (gQ Ad (aq (av dA (ae 1) (ax 0))) (aA (aE 2 (av gx (ae 0) (ae 1))) (aA (aE 0 (ae 1)) (aE 1 (ae 2))))) (bM (ae 0))
def eA:Ms:=cf 1 dP
def fE:Ms:=aA (aE 2 (bJ eA (aP (aR 0) (aR 1)))) (bM (aU (aP (av ig (ae 0) (ae 2)) (av ig (ae 1) (ae 2)))))
def fN:Ms:=cf 1 fE
def zM:Ms:=bM (bJ fN (aP (tK (av aK (av dh (mix (ae 0) (ax 0)) (mix (ae 1) (ax 1))) (av dh (mix (ae 1) (ax 0)) (mix (ae 0) (ax 1))))) (av dh (mix (ae 0) (ax 1)) (mix (ae 1) (ax 1)))))
def rp:Ms:=cf 0 zM
def qz:Ms:=aA (aE 2 sY) (aA (gq (da (ae 1)) (jt 2 (cF (bj 3) (cF (bj 4) j8))) (mK 2 (ae 3) (bJ rp (aP (tK (lU (ae 2) (ae 3) (mC (.tup [.int 0,.int 1])))) (aR 4))))) (bM (aU (aP (ae 0) (cV gR (bV 1 (da (cV (oV aX a9) (ae 2))) (bj 5) (aq (av dA (mix (ae 2) (ae 5)) (mC (.tup [.int 0,.int 1])))) (aU (aP (ae 5) (mix (ae 2) (ae 5))))))))))
def g9:Ms:=cf 3 qz
def kZ:Ms:=bM (bJ g9 (aP (bJ rp (aP (mix (ae 0) (ax 0)) (mix (ae 1) (ax 0)))) (tK (av aK (mix (ae 0) (ax 1)) (mix (ae 1) (ax 1))))))
def kB:Ms:=cf 0 kZ
def jy:Ms:=aA (aE 2 (bJ g9 (aP (mC (.tup [.int 0,.int 1])) (aU fk)))) (aA (gq (da (ae 1)) (bj 3) (aE 2 (bJ kB (aP (aR 2) (mix (mix (ae 0) (ae 3)) (ax 2)))))) (bM (ae 2)))
def dI:Ms:=cf 2 jy
def lj:Ms:=bM (bJ dy (aP (tK (av aK (av dh (mix (ae 0) (ax 0)) (mix (ae 1) (ax 1))) (av dh (mix (ae 1) (ax 0)) (mix (ae 0) (ax 1))))) (av dh (mix (ae 0) (ax 1)) (mix (ae 1) (ax 1)))))
def eR:Ms:=cf 0 lj
def k9:Ms:=aA (aE 2 (aU (aP (ax 0) (ax 1)))) (aA (aE 3 sY) (aA (gq (da (ae 1)) (bj 4) (aA (aE 2 (bJ eR (aP (aR 2) (mix (mix (mix (ae 0) (ae 4)) (ax 2)) (ax 0))))) (gq (da (mix (mix (mix (ae 0) (ae 4)) (ax 2)) (ax 1))) (jt 2 (cF (bj 5) (cF (bj 6) j8))) (mK 3 (ae 5) (bJ eR (aP (tK (lU (ae 3) (ae 5) (aU (aP (ax 0) (ax 1))))) (aR 6))))))) (aA (aE 7 (bV 1 (da (cV (oV aX a9) (ae 3))) (bj 8) (aq (av dA (mix (mix (ae 3) (ae 8)) (ax 0)) (ax 0))) (aU (aP (ae 8) (mix (ae 3) (ae 8)))))) (bM (aU (aP (ae 2) (cV gR (ae 7))))))))
def eJ:Ms:=cf 6 k9
def DW:Ms:=aA (gq (dG (Ds Bb (ax 1) (Ds CT (cV dJ (ae 0)) (ax 4)))) (bj 1) (aA (aE 2 (nI dC [] (vv (bJ jk (aP (aR 0) (aR 1)))))) (aA (aE 3 (cV sN (ae 2))) (gq (da (pF (bJ cG (vv (aR 2))) bR (bZ (ax 60)))) (bj 4) (KC (Aj (nM (aq (bJ dO (aP (bJ dI (aP (aR 3) (aR 4))) (bJ eJ (aP (aR 2) (aR 4))))))) (aq (av dA (ae 3) (ae 2))))))))) (bM (mC (.bl true)))
def DT:Ms:=cf 4 DW
noncomputable def D2:Tb:={ fns:=[],cst:=[("ZERO",(.tup [(.int 0),(.int 1)]))],exs:=[],kit:=[],exm:=[],fld:=[],ini:=[],mts:=[] }
def Ag:List DI:=[
 ⟨none, "_law_take",top 12,["_law_well_here", "_law_many", "_law_digit", "_law_turn", "_law_number_here"],2,[],[true,false],[],[],jo,[],false⟩,
 ⟨none, "_law_few",top 22,["_law_well_here"],1,[],[true],[],[],j0,[],false⟩,
 ⟨none, "_law_words",top 20,["_law_well_here", "_law_many", "_law_letters", "_law_base", "_law_long", "_law_spot", "_law_first"],2,[],[true,false],[],[],ir,[],false⟩,
 ⟨none, "_law_nodes",top 21,["_law_well_here", "_law_many", "_law_left", "_law_word"],2,[],[true,false],[],[],iL,[],false⟩,
 ⟨none, "_law_common",top 13,["_law_one", "_law_other"],2,[],[false,false],[],[],gC,[],false⟩,
 ⟨none, "_law_num",top 14,["_law_top", "_law_bottom", "_law_by"],2,[],[false,false],[],[],kh,[],false⟩,
 ⟨none, "_law_number",top 19,["_law_well_here", "_law_way"],1,[],[true],[],[],gD,[],false⟩,
 ⟨none, "_law_sum",top 24,["_law_well_here", "_law_names", "_law_pairs", "_law_name", "_law_way", "_law_factor"],2,[],[true,false],[],[],kF,[],false⟩,
 ⟨none, "_law_gaps",top 26,["_law_well_here", "_law_names", "_law_nodes_here", "_law_many", "_law_some", "_law_gaps_here", "_law_k", "_law_total"],1,[],[true],[],[],jm,[],false⟩,
 ⟨none, "_law_well",top 11,["_law_script", "_law_k", "_law_cell"],2,[],[false,false],[],[],jq,[],false⟩,
 ⟨none, "_law_chains",top 23,["_law_gaps_here", "_law_found", "_law_ways", "_law_way", "_law_here", "_law_at"],1,["_law_found"],[false],[],["_law_found"],gF,[],false⟩,
 ⟨none, "_law_is",top 25,["_law_found", "_law_due_here"],2,[],[false,false],[],[],lT,[],false⟩,
 ⟨none, "_law_is_sum",top 28,["_law_found", "_law_due_here"],2,[],[false,false],[],[],gH,[],false⟩,
 ⟨none, "common_divisor",top 2,["a", "b", "rest"],2,[],[false,false],[],[],dP,[],false⟩,
 ⟨none, "lowest_terms",top 3,["top", "bottom", "divisor"],2,[],[false,false],[],[],fE,[],false⟩,
 ⟨none, "plus",top 4,["a", "b"],2,[],[false,false],[],[],zM,[],false⟩,
 ⟨none, "sum_of",top 6,["number", "pairs", "factors", "name", "factor"],2,["factors"],[false,false],[],[],qz,[],false⟩,
 ⟨none, "sum_plus",top 7,["a", "b"],2,[],[false,false],[],[],kZ,[],false⟩,
 ⟨none, "chain_sum",top 9,["gaps", "chain", "total", "k"],2,[],[false,false],[],[],jy,[],false⟩,
 ⟨none, "_law_add",top 15,["_law_one", "_law_other"],2,[],[false,false],[],[],lj,[],false⟩,
 ⟨none, "_law_due",top 27,["_law_gaps_here", "_law_chain", "_law_number_here", "_law_factors", "_law_k", "_law_name", "_law_factor", "_law_pairs"],2,["_law_factors"],[false,false],[],[],k9,[],false⟩]
def kz:DI:=⟨none, "law",top 29,["_law_script", "_law_k", "_law_gaps_here", "_law_handed", "_law_chain"],1,[],[false],[],[],DW,[],false⟩
theorem Ig:sL D2 Ag=Ag.map (λd=>some d.m):=by kernel_rfl
theorem GC:jG (Ac (mf D2 Ag) (tr (mf D2 Ag) lb) lb kz.sc) (cj kz.st)=some kz.m:=by kernel_rfl
theorem HQ:(Ag++[kz]).all (λd=>fY d&&qW d)=true:=by decide +kernel
end W
section
open PySem PySem.W PyProof.Rows L2
set_option maxRecDepth 100000 in
theorem W.hl:LeftO PySem.Challenge.rw_fitwhatever_k22_sums_of_chains.row.prog (W.Lc PySem.Challenge.pw_fitwhatever_k22_sums_of_chains) (W.tY PySem.Challenge.pw_fitwhatever_k22_sums_of_chains) (λs=>xlAt (W.Lc PySem.Challenge.pw_fitwhatever_k22_sums_of_chains) [] s&&recOk PySem.Challenge.rw_fitwhatever_k22_sums_of_chains.row.records s) (Hook.obs (M.hk (W.Ag++[W.kz]) (M.Ea W.D2))) (Hook.val (M.hk (W.Ag++[W.kz]) (M.Ea W.D2))) 20000:=W.xh λw=>by kernel_rfl
set_option maxRecDepth 100000 in
set_option maxHeartbeats 0 in
theorem W.fin(LT:∀ns:List Int,ns.length<=63->∃Z,W.kz.M [.fr (.lst (ns.map M.A.int))]=some (.rt (.fr (.bl true)),Z)):PySem.Challenge.rw_fitwhatever_k22_sums_of_chains.Holds:=by
 w_on
 refine holds_law (by decide +kernel) λh=>?_
 refine holds_open (q:=W.Lc PySem.Challenge.pw_fitwhatever_k22_sums_of_chains) (loose:=W.tY PySem.Challenge.pw_fitwhatever_k22_sums_of_chains) (Xt:=λs=>xlAt (W.Lc PySem.Challenge.pw_fitwhatever_k22_sums_of_chains) [] s&&recOk (RowW.records _) s) (XP:=XL (W.Lc PySem.Challenge.pw_fitwhatever_k22_sums_of_chains) []) (Yf:=Hook.obs (M.hk (W.Ag++[W.kz]) (M.Ea W.D2))) (Ya:=Hook.val (M.hk (W.Ag++[W.kz]) (M.Ea W.D2))) (YP:=Hook.says (M.hk (W.Ag++[W.kz]) (M.Ea W.D2))) (N:=20000) W.hl (Hook.of _) (Hook.keeps _) (λs e=>xl_of s (UJ.mp e).1) XL.keeps (by rfl) (by rfl) (by rfl) (λs e=>recFacts_of (UJ.mp e).2) (by rfl) h (by decide +kernel) ⟨rfl,rfl,rfl,rfl,rfl,by decide +kernel⟩ ?hw ?hc
 case hw=>w_witness2
 case hc=>exact M.zW rfl rfl rfl W.HQ W.Ig W.GC rfl rfl rfl rfl ⟨rfl,by decide,by decide⟩ LT
end
set_option maxHeartbeats 1000000
set_option exponentiation.threshold 100000
namespace W
open PySem L2 M
inductive X2{α j:Type}(p:α->j->Prop):Prop|mk(a:α)(b:j)(h:p a b)
inductive X3{α j D:Type}(p:α->j->D->Prop):Prop|mk(a:α)(b:j)(c:D)(h:p a b c)
inductive X5{α j D δ ε:Type}(p:α->j->D->δ->ε->Prop):Prop|mk(a:α)(b:j)(c:D)(d:δ)(e:ε)(h:p a b c d e)
inductive N3(a b c:Prop):Prop|mk(x:a)(y:b)(z:c)
inductive N4(a b c d:Prop):Prop|mk(x:a)(y:b)(z:c)(w:d)
inductive N6(a b c d e f:Prop):Prop|mk(x:a)(y:b)(z:c)(w:d)(u:e)(v:f)
variable{x:Rr}{Z:List Sl}{i:Int}
theorem aM{xs:List A}{a:A}(h:res Z x=some (.lst xs)\/res Z x=some (.tup xs))(e:gr xs i=some a):cZ (bI lP cX) x (.fr (.int i)) Z=some (.ok (.fr a),Z):=by unfold cZ;rcases h with h|h<;>rw[h]<;>simp only[res,bI,lP,e]
variable{U:List Sl}{s:Sl}
theorem Wp.sr{m n:Ms}{Q:Fl->List Sl->Prop}(h:m Z=some (.rt s,U))(q:Q (.rt s) U):Wp (aA m n) Z Q:=⟨_,_,by unfold aA;rw[h],q⟩
theorem jD{t:Mi Bool}{m n:Ms}{r:Option (Fl×List Sl)}(h:t Z=some (.ok true,U))(k:m U=r):j4 t m n Z=r:=sk h k
theorem fo{t:Mi Bool}{m n:Ms}{r:Option (Fl×List Sl)}(h:t Z=some (.ok false,U))(k:n U=r):j4 t m n Z=r:=sk h k
theorem rY(i j:Int)(Z:List Sl):cZ iU (.fr (.int i)) (.fr (.int j)) Z=some (.ok (.fr (.bl (decide (i=j)))),Z):=by simp only[cZ,res,iU,iB]
theorem dU{m n:Ms}{r:Option (Fl×List Sl)}(h:m Z=some (.nx,U))(k:n U=r):aA m n Z=r:=by unfold aA;rw[h];exact k
variable{m:Mi Rr}{Z0:List Sl}{r:Rr}
theorem wN{i:Nat}(J:D8 Z i=true)(h:m Z=some (.ok x,U))(k:MC i x U=some (.ok r,Z0)):fq i (gj i m) Z=some (.ok r,Z0):=by exact(if_pos J).trans (bk h k)
theorem Ge{i:Nat}{a:Sl}(h:uy r Z=some (a,U))(k:U[i]?=some s)(hn:np s=true)(e:U.set i a=Z0):C8 i r Z=some (.nx,Z0):=by rw[LU h k hn,e]
variable{G:Mg}{e:Mi Rr}
theorem cH{n:Nat}{v:Mi (List A)}{t:Mi Bool}{as:List A}(h:v Z=some (.ok as,U))(k:fG n G t e as U=some (.ok r,Z0)):bV n v G t e Z=some (.ok r,Z0):=bk h k
theorem bq{i:Nat}{a:Sl}(h:m Z=some (.ok r,U))(h1:uy r U=some (a,U))(k:U[i]?=some s)(hn:np s=true)(e:U.set i a=Z0):aE i m Z=some (.nx,Z0):=fL h (Ge h1 k hn e)
theorem wg{i:Nat}{a:A}{xs:List A}(J:D8 Z i=true)(h:m Z=some (.ok x,U))(k:aS x U=some (a,U))(l:aC U i=some (.lst xs))(hl:xs.length<=100000)(e:setAt U i (.lst (xs++[a]))=Z0):dR (fq i (fg i m)) Z=some (.nx,Z0):=by refine nX (r:=.fr .non) ((if_pos J).trans (bk h ?_));rw[k];dsimp only;rw[l];dsimp only;rw[if_pos hl,e]
variable{y:Rr}
theorem fu{o:Option (Except Str Rr×List Sl)}{f:A->A->Option Rr}{a b:A}(h1:res Z x=some a)(h2:res Z y=some b)(k:f a b=some r):cZ f x y Z=some (.ok r,Z):=by unfold cZ;rw[h1,h2];dsimp only;rw[k]
variable{j:Int}
theorem kU{b:Bool}(h:decide (i=j)=b)(Z:List Sl):cZ dA (.fr (.int i)) (.fr (.int j)) Z=some (.ok (.fr (.bl (!b))),Z):=by rw[<-h];simp only[cZ,res,dA,iB]
theorem nF{b:Bool}(h:decide (i=j)=b)(Z:List Sl):cZ iU (.fr (.int i)) (.fr (.int j)) Z=some (.ok (.fr (.bl b)),Z):=by rw[<-h];exact rY i j Z
theorem gT(h:j≠0)(Z:List Sl):cZ gx (.fr (.int i)) (.fr (.int j)) Z=some (.ok (.fr (.int (i.fmod j))),Z):=fu (o:=none) rfl rfl (if_pos (by simpa using h))
theorem m6(h:j≠0)(f:fits 9000 j=true)(Z:List Sl):cZ ig (.fr (.int i)) (.fr (.int j)) Z=some (.ok (.fr (.int (i.fdiv j))),Z):=fu (o:=none) rfl rfl (if_pos (by rw[f];simpa using h))
theorem vK(h:fits 20000 i=true)(k:fits 20000 j=true)(Z:List Sl):cZ dh (.fr (.int i)) (.fr (.int j)) Z=some (.ok (.fr (.int (i*j))),Z):=by have e:uh (.int i) (.int j)=some (.fr (.int (i*j))):=if_pos (by rw[h,k];rfl);refine fu (o:=none) rfl rfl ?_;unfold dh bI;rw[e]
theorem ft{n m:Nat}(h:L2.Bd n i)(k:n<=m):fits m i=true:=dB h k
theorem pV{f:A->Option Rr}{a:A}(h:res Z x=some a)(k:f a=some r):MH f x Z=some (.ok r,Z):=by unfold MH;rw[h];dsimp only;rw[k]
theorem g8{as:List A}(h:m Z=some (.ok x,U))(k:Nn x U=some (.ok as,Z0)):da m Z=some (.ok as,Z0):=bk h k
theorem vR{n:Nat}{t:Mi Bool}{b:Ms}{r:Option (Fl×List Sl)}(h:dN t b n Z=r):gQ n t b Z=r:=h
theorem EX{i j:Nat}{p:Mi (List Rr)}{rs:List Rr}{r:Option (Fl×List Sl)}(h:p Z=some (.ok rs,U))(k:A9 i j rs U=r):yX i j p Z=r:=sk h k
variable{mk:Mi Rr}{I:List Sl}{rk:Rr}
theorem DJ{i:Nat}{q:Option (Fl×List Sl)}(h:m Z=some (.ok r,I))(l:D8 I i=true)(hk:mk I=some (.ok rk,U))(k:OX i r rk U=q):jY i mk m Z=q:=sk h ((if_pos l).trans (sk hk k))
theorem Nw{x y:Int}(h:y≠0)(d:L2.Bd 9000 y):Val eA [.int x,.int y] (.int (cd x y)):=by
 obtain⟨O,h1,q,r,rfl⟩:=i7 (t:=aq (av dA (ae 1) (ax 0))) (b:=aA (aE 2 (av gx (ae 0) (ae 1))) (aA (aE 0 (ae 1)) (aE 1 (ae 2)))) (n:=Ad)
  (P:=λk Z=>X3 λp q r=>N4 (Z=[.fr (.int p),.fr (.int q),r]) (k=q.natAbs) (np r=true) ((q=0->p=cd x y)/\(q≠0->cd p q=cd x y)))
  (Q:=λZ=>X2 λq r=>Z=[.fr (.int (cd x y)),q,r]) (by
   rintro k Z ⟨p,q,r,rfl,rfl,D,h1,h2⟩;by_cases z:q=0
   .exact .inl ⟨_,aG (ag rfl rfl (kU (decide_eq_true z) _)),_,_,by rw[<-h1 z]⟩
   .exact .inr ⟨_,[.fr (.int q),.fr (.int (p.fmod q)),.fr (.int (p.fmod q))],_,aG (ag rfl rfl (kU (decide_eq_false z) _)),.inl (dU (bq (ag rfl rfl (gT z _)) rfl rfl D rfl) <| dU (bq rfl rfl rfl rfl rfl) (bq rfl rfl rfl rfl rfl)),qt p z,q,p.fmod q,_,rfl,rfl,rfl,λe=>by rw[<-h2 z];exact Cr z e,λe=>by rw[CI z e];exact h2 z⟩) ⟨x,y,.un,rfl,rfl,rfl,λe=>absurd e h,λ_=>rfl⟩ (rB (O9 d (P6 (by decide) (by decide))))
 exact Val.of (Wp.df (Wp.st (vR h1) (Wp.en (aT rfl rfl) rfl)))
theorem yN{x y:Int}(d:L2.Bd 9000 y):Val dM [.int x,.int y] (.int (P7 x y)):=by
 obtain⟨O,h1,q,rfl,S⟩:=i7 (t:=aq (av dA (ae 1) (ax 0))) (b:=yX 0 1 (aP (ae 1) (av gx (ae 0) (ae 1)))) (n:=Ad)
  (P:=λk Z=>X2 λp q=>N3 (Z=[.fr (.int p),.fr (.int q)]) (k=q.natAbs) (P7 p q=P7 x y))
  (Q:=λZ=>∃p,Z=[.fr (.int p),.fr (.int 0)]/\P7 p 0=P7 x y) (by
   rintro k Z ⟨p,q,rfl,rfl,h1⟩;by_cases z:q=0
   .subst z;exact .inl ⟨_,aG (ag rfl rfl (kU rfl _)),p,rfl,h1⟩
   .exact .inr ⟨_,[.fr (.int q),.fr (.int (p.fmod q))],_,aG (ag rfl rfl (kU (decide_eq_false z) _)),.inl (EX (ah rfl (ah (ag rfl rfl (gT z _)) rfl)) rfl),qt p z,q,p.fmod q,rfl,rfl,by rw[kJ,h1]⟩) ⟨x,y,rfl,rfl,rfl⟩ (rB (O9 d (P6 (by decide) (by decide))))
 have e:(if q<0 then -q else q)=(P7 x y:Int):=by rw[<-S,U5];split<;>omega
 exact Val.of (Wp.df (Wp.st (vR h1) (Wp.en (aT (dE rfl (pV (r:=.fr (.int (P7 x y))) rfl (by rw[<-e];rfl))) rfl) rfl)))
variable{b:Int}
theorem yP{t:Int}(h:b≠0)(d:L2.Bd 9000 b):Val dy [.int t,.int b] (nm (gY t b)):=by
 rw[<-CL h];have I:∀t b:Int,b≠0->L2.Bd 9000 b->∀Z,Wp (aA (aE 2 (bJ dM (aP (aR 0) (aR 1)))) (bM (aU (aP (av ig (ae 0) (ae 2)) (av ig (ae 1) (ae 2)))))) (.fr (.int t)::.fr (.int b)::.un::Z) λg _=>g=.rt (.fr (nm (t.fdiv (P7 t b),b.fdiv (P7 t b)))):=λt b h d Z=>by
  have h1:P7 t b<=b.natAbs:=Int.gcd_le_natAbs_right _ h;have J:(P7 t b:Int)≠0:=by simpa using λz:P7 t b=0=>h (Int.gcd_eq_zero_iff.mp z).2
  have f:fits 9000 (P7 t b:Int)=true:=dB (show L2.Bd 9000 (P7 t b:Int) from QW (by simpa using h1) d) (Pf _);exact Wp.st (bq (au rfl (bg (yN d) _)) rfl rfl rfl rfl) (Wp.en (aT (bw (ah (ag rfl rfl (m6 J f _)) (ah (ag rfl rfl (m6 J f _)) rfl)) rfl) rfl) rfl)
 have u:∀c,decide (b<0)=c->aq (av El (ae 1) (ax 0)) [.fr (.int t),.fr (.int b),.un]=some (.ok c,[.fr (.int t),.fr (.int b),.un]):=by rintro c rfl;rfl
 unfold FR;by_cases c:b<0
 .rw[if_pos c,<-S4,<-S4];exact Val.of (Wp.df (Wp.st (jD (u true (decide_eq_true c)) (dU (bq rfl rfl rfl rfl rfl) (bq rfl rfl rfl rfl rfl))) (Wp.mono (I (0-t) (0-b) (by omega) (by rw[S4];exact d.neg) []) λf _ e=>by rw[e])))
 .rw[if_neg c];exact Val.of (Wp.df (Wp.st (fo (u false (decide_eq_false c)) rfl) (Wp.mono (I t b h d []) λf _ e=>by rw[e])))
def Wl(n:Int)(o:LO):Prop:=X3 λ(f c t:Int)=>N4 (o=.lst [.int f,.int c,.int t]) (f=0\/f=1) (f=0->c.natAbs<10^18) (0<=t/\t<=n)
variable{o:LO}
theorem Wl.mono{n m:Int}(h:Wl n o)(k:n<=m):Wl m o:=by obtain⟨f,c,t,h1,h2,h3,h4,h5⟩:=h;exact⟨f,c,t,h1,h2,h3,h4,by omega⟩
theorem yy(h:i.natAbs<2^64):fits 20000 i=true:=dB h (by decide)
theorem IA{n:Int}{m:Int}(w:Wl n o)(hn:n<2^40)(B:0<m)(V:m<2^64):X2 λr o'=>N4 (cN ai o [.int m] (.fr (.int r)) o') (0<=r) (r<m) (Wl (n+1) o'):=by
 suffices ∃s o',cN ai o [.int m] s o'/\∃r,N4 (s=.fr (.int r)) (0<=r) (r<m) (Wl (n+1) o') by obtain⟨s,o',v,r,rfl,h1,h2,h3⟩:=this;exact⟨r,o',v,h1,h2,h3⟩
 obtain⟨f,c,t,rfl,hf,hc,k,x⟩:=w
 have h:m≠0:=by omega
 refine cN.of (Wp.df ?_)
 have u:∀b,decide (f=1)=b->∀Z,aq (av iU (mix (ae 0) (ax 0)) (ax 1)) (.pv (.lst [.int f,.int c,.int t])::Z)=some (.ok b,.pv (.lst [.int f,.int c,.int t])::Z):=λb d Z=>aG (ag (ag rfl rfl (aM (.inl rfl) rfl)) rfl (nF d _))
 rcases hf with rfl|rfl
 .have hc:=hc rfl
  have b1:L2.Bd 128 (7919*(t+1)*(t+1)):=L2.Bd.mul (show (7919*(t+1)).natAbs<2^64 by omega) (show (t+1).natAbs<2^64 by omega)
  have b2:L2.Bd 130 (c+7919*(t+1)*(t+1)+(t+1)):=((L2.Bd.add (show c.natAbs<2^128 by omega) b1).add (show (t+1).natAbs<2^128 by omega)).mono (by decide)
  have J:∀i:Int,(i.fmod 2305843009213693951).natAbs<2^64:=λi=>by have Y:=To i (b:=2305843009213693951) (by decide);have e:=Va i (b:=2305843009213693951) (by decide);rw[TR _ (by decide)];omega
  refine Wp.st (fo (u false rfl _) rfl) ?_
  refine Wp.st (bq (ag (ag rfl rfl (aM (.inl rfl) rfl)) rfl rfl) rfl rfl rfl rfl) ?_
  refine Wp.st (DJ rfl rfl rfl rfl) ?_
  refine Wp.st (bq (ag (ag (ag (ag (ag rfl rfl (aM (.inl rfl) rfl)) (ag (ag rfl rfl (vK (yy (by decide)) (yy (by omega)) _)) rfl (vK (yy (by omega)) (yy (by omega)) _)) rfl) rfl rfl) rfl (vK (ft b2 (by decide)) (yy (by decide)) _)) rfl (gT (by decide) _)) rfl rfl rfl rfl) ?_
  exact Wp.en (aT (ag (ag (ag (ag (ag rfl rfl (vK (yy (J _)) (yy (by decide)) _)) rfl rfl) rfl (gT (by decide) _)) rfl (m6 (by decide) (dB (show (64:Int).natAbs<2^64 by decide) (by decide)) _)) rfl (gT h _)) rfl) ⟨_,_,_,rfl,rfl,_,rfl,Rp _ B,SQ _ B,0,c,t+1,rfl,.inl rfl,λ_=>hc,by omega,by omega⟩
 .have O:∀Z,mix (ae 0) (ax 1) (.pv (.lst [.int 1,.int c,.int t])::Z)=some (.ok (.fr (.int c)),.pv (.lst [.int 1,.int c,.int t])::Z):=λZ=>ag rfl rfl (aM (.inl rfl) rfl)
  exact Wp.sr (jD (u true rfl _) (dU (bq (ag (O _) rfl (gT h _)) rfl rfl rfl rfl) <| dU (DJ (ag (O _) rfl (m6 h (dB (show m.natAbs<2^64 by omega) (by decide)) _)) rfl rfl rfl) (aT rfl rfl))) ⟨_,.lst [.int 1,.int (c.fdiv m),.int t],_,rfl,rfl,_,rfl,Rp c B,SQ c B,1,c.fdiv m,t,rfl,.inr rfl,λz=>by omega,k,by omega⟩
variable{f:Ms}{o':LO}
theorem GN{as:List A}(h:cN f o as s o')(y:ji s=some r):∀Z,fV f [] (.rf 0::as.map Rr.fr) (.pv o::Z)=some (.ok r,.pv o'::Z):=λZ=>BV h y rfl
theorem tk{n:Int}(m:Int)(w:Wl n o)(hn:n<2^40)(B:0<m)(V:m<2^64):X2 λr o'=>N4 (∀Z,fV ai [] [.rf 0,.fr (.int m)] (.pv o::Z)=some (.ok (.fr (.int r)),.pv o'::Z)) (0<=r) (r<m) (Wl (n+1) o'):=by obtain⟨r,o',h,h1,h2,h3⟩:=IA w hn B V;exact⟨r,o',GN h rfl,h1,h2,h3⟩
theorem pw(k v:Int)(h:0<=k/\k<=1000000/\(10:Int).natAbs<2^64)(e:(10:Int)^k.toNat=v)(Z:List Sl):av iS (ax 10) (mC (.int k)) Z=some (.ok (.fr (.int v)),Z):=
 ag rfl rfl (fu (o:=none) rfl rfl (by rw[<-e];exact if_pos h))
theorem HP(ns:List Int)(k:Int)(k0:0<=k)(k1:k<=1000):∃o,rG jk [.lst (ns.map A.int),.int k] o/\Wl 17000 o:=by
 have I:∀c:Int,Wl 17000 (.lst [.int (if decide (1000000000000000000<=(if c<0 then -c else c))=true then 1 else 0),.int c,.int (17*k)]):=λc=>by
  refine⟨_,c,17*k,rfl,?_,λz=>?_,by omega,by omega⟩
  .generalize decide (1000000000000000000<=(if c<0 then -c else c))=d;cases d
   .exact .inl rfl
   .exact .inr rfl
  .by_cases h:1000000000000000000<=(if c<0 then -c else c)
   .simp[h] at z
   .split at h<;>omega
 have fin:∀c:Int,Wp (bM (d0 (KP (cV CO (av IT (cV yQ (ae 2)) (av iS (ax 10) (ax 18)))) (ae 2) (av dh (ax 17) (ae 1))))) [.fr (.lst (ns.map A.int)),.fr (.int k),.fr (.int c)] λg _=>g=.rt (.lv (.lst [.int (if decide (1000000000000000000<=(if c<0 then -c else c))=true then 1 else 0),.int c,.int (17*k)])):=λc=>Wp.en (aT (Hq (ah (dE (ag rfl (pw 18 1000000000000000000 (by decide) (by decide) _) rfl) rfl) (ah rfl (ah (ag rfl rfl (vK (yy (by decide)) (yy (by omega)) _)) rfl))) rfl) rfl) rfl
 have u:∀b,decide (k<((ns.map A.int).length:Int))=b->aq (av El (ae 1) (cV dJ (ae 0))) [.fr (.lst (ns.map A.int)),.fr (.int k),.fr (.int 0)]=some (.ok b,[.fr (.lst (ns.map A.int)),.fr (.int k),.fr (.int 0)]):=by rintro b rfl;rfl
 by_cases hk:k<((ns.map A.int).length:Int)
 .obtain⟨j,rfl⟩:∃j:Nat,k=j:=⟨k.toNat,by omega⟩
  have V:j<ns.length:=by rw[O5] at hk;omega
  exact⟨_,rG.of (Wp.df (Wp.st rfl (Wp.st (jD (u true (decide_eq_true hk)) (bq (ag rfl rfl (aM (.inl rfl) (gk (by rw[Pq,Pm V];rfl)))) rfl rfl rfl rfl)) (Wp.mono (fin ns[j]) λf _ e=>by rw[e])))),I ns[j]⟩
 .exact⟨_,rG.of (Wp.df (Wp.st rfl (Wp.st (fo (u false (decide_eq_false hk)) rfl) (Wp.mono (fin 0) λf _ e=>by rw[e])))),I 0⟩
theorem Lg{t:Int}(h:b≠0)(K:L2.Bd 9000 b):Val fN [.int t,.int b] (nm (gY t b)):=by
 have k:=bg (Nw (x:=t) h K);have hc:=tP (x:=t) h;have f:fits 9000 (cd t b)=true:=dB (show L2.Bd 9000 (cd t b) from QW (J9 h) K) (Pf _);have d:∀(u:Int)(Z:List Sl),cZ ig (.fr (.int u)) (.fr (.int (cd t b))) Z=some (.ok (.fr (.int (u.fdiv (cd t b)))),Z):=λu Z=>by unfold cZ;simp only[res,E4,M.kA,f,bne_iff_ne,ne_eq,hc,not_false_eq_true,SA,decide_true,if_true]
 exact Val.of (Wp.df (Wp.st (fL (au rfl (k _)) rfl) (Wp.en (aT (bw (ah (ag rfl rfl (d _ _)) (ah (ag rfl rfl (d _ _)) rfl)) rfl) rfl) rfl)))
section
variable{x y:Num}{n m:Nat}(hx:NB n x)(hy:NB m y)(h:n+m<=8999)
include hx hy h
theorem sG:Val rp [nm x,nm y] (nm (fD x y)):=
 Val.of (Wp.df (Wp.en (aT (au (ah (jz (ag (ag rfl rfl (vK (ft hx.b1 (by omega)) (ft hy.b2 (by omega)) _)) (ag rfl rfl (vK (ft hy.b1 (by omega)) (ft hx.b2 (by omega)) _)) rfl) rfl) (ah (ag rfl rfl (vK (ft hx.b2 (by omega)) (ft hy.b2 (by omega)) _)) rfl)) (bg (Lg (RF hx.nz hy.nz) ((hx.b2.mul hy.b2).mono (by omega))) _)) rfl) rfl))
theorem sT:Val eR [nm x,nm y] (nm (fD x y)):=
 Val.of (Wp.df (Wp.en (aT (au (ah (jz (ag (ag rfl rfl (vK (ft hx.b1 (by omega)) (ft hy.b2 (by omega)) _)) (ag rfl rfl (vK (ft hy.b1 (by omega)) (ft hx.b2 (by omega)) _)) rfl) rfl) (ah (ag rfl rfl (vK (ft hx.b2 (by omega)) (ft hy.b2 (by omega)) _)) rfl)) (bg (yP (RF hx.nz hy.nz) ((hx.b2.mul hy.b2).mono (by omega))) _)) rfl) rfl))
end
theorem MS:NB 60 (0,1):=NB.zero
theorem yB{i:Nat}{x:Sl}{t:Sl}(hi:I.length=i)(L:∀o,x≠Sl.pv o):put i t (I++[x])=some (I++[t]):=by
 subst hi;unfold put;rw[Qp (Pf _),V3];simp only[List.getElem?_cons_zero];have e:(I++[x]).set I.length t=I++[t]:=by rw[List.set_append_right _ _ (Pf _),V3];rfl
 cases x with
 |pv o=>exact absurd rfl (L o)
 |un=>simp only[e]
 |fr a=>simp only[e]
 |lv o=>simp only[e]
variable{T:Type}
theorem gi{i:Nat}{ts:List T}(k g:T->A)(hi:I.length=i)(hl:ts.length<=100000)(h:∀t∈ts,∃r,e (I++[.fr (k t)])=some (.ok r,I++[.fr (k t)])/\aS r (I++[.fr (k t)])=some (g t,I++[.fr (k t)])):
  fG 1 (bj i) bF e (ts.map k) I=some (.ok (.nw (.lst (ts.map g))),I):=by
 obtain⟨ys,O,h1,x,rfl,_,rfl⟩:=dS (G:=bj i) (t:=bF) (as:=ts.map k)
  (λj acc Z=>∃x:Sl,N3 (Z=I++[x]) (∀o,x≠Sl.pv o) (acc=(ts.take j).map g)) ⟨.un,rfl,(λo z=>by cases z),rfl⟩ (by
   rintro j q acc Z B ⟨x,rfl,L,rfl⟩;rw[Pq] at B;cases s:ts[j]? with
   |none=>rw[s] at B;cases B
   | some t=>rw[s] at B;cases B;obtain⟨r,k1,k2⟩:=h t (PJ s);refine⟨I++[Sl.fr (k t)],(show put i (.fr (k t)) (I++[x])=some (I++[.fr (k t)]) from yB hi L),.inl ⟨_,r,_,g t,_,rfl,k1,k2,.fr (k t),rfl,(λo z=>by cases z),?_⟩⟩;rw[QK,s,Pp];rfl)
 unfold fG;rw[if_pos (by rw[O5];exact hl)];have J:I++PB 1 Sl.un=I++[.un]:=rfl;rw[J,h1];simp
theorem MK(x:Int):Ok (x,1):=⟨by show (0:Int)<1;decide,by show P7 x 1=1;simp⟩
theorem Kg{x y:Int}(h:m Z=some (.ok (.fr (.int x)),U)):aU (aP m (mC (.int y))) Z=some (.ok (.fr (nm (x,y))),U):=bw (ah h rfl) rfl
theorem Gb(hi:i.natAbs<2^64)(V:j.natAbs<2^64)(Z:List Sl):cZ dh (.fr (.int i)) (.fr (.int j)) Z=some (.ok (.fr (.int (i*j))),Z):=by have S:fits 20000 i=true:=dB hi (by decide);have l:fits 20000 j=true:=dB V (by decide);simp only[cZ,res,dh,bI,BY,M.kA,S,l,Bool.and_self,if_true]
theorem Eg(h:i.natAbs<2^64):NB 64 (i,1):=⟨MK i,h,by show (1:Int).natAbs<2^64;decide⟩
variable{k:Int}
theorem tw{n:Int}{v:Int}(w:Wl n o)(hn:n<2^38)(h:0<=k/\k<=1000000/\(10:Int).natAbs<2^64)(e:(10:Int)^k.toNat=v)(B:0<=v)(x:v<2^60):X2 λu o'=>N4 (0<=u) (u<2*v+1) (Wl (n+1) o') (∀Z,av gP (bJ ai (aP (ae 0) (tK (av aK (av dh (ax 2) (av iS (ax 10) (mC (.int k)))) (ax 1))))) (av iS (ax 10) (mC (.int k))) (.pv o::Z)=some (.ok (.fr (.int (u-v))),.pv o'::Z)):=by obtain⟨u,o',c,a,b,y⟩:=tk (2*v+1) w (by omega) (by omega) (by omega);exact⟨u,o',a,b,y,λZ=>ag (au (ah rfl (ah (jz (ag (ag rfl (pw k v h e _) (Gb (by decide) (by omega) _)) rfl rfl) rfl) rfl)) (c _)) (pw k v h e _) rfl⟩
theorem CW(b:Bool)(d:decide (i=j)=b)(h:Z[1]?=some (.fr (.int i))):aq (av iU (ae 1) (mC (.int j))) Z=some (.ok b,Z):=by rw[<-d];exact aG (ag (by rw[DK,h]) rfl (rY _ _ _))
theorem zx{t:Int}(h:b≠0)(d:b.natAbs<2^64)(Z:List Sl):fV dy [] [.fr (.int t),.fr (.int b)] Z=some (.ok (.fr (nm (gY t b))),Z):=bg (yP h (show b.natAbs<2^9000 from O9 d (P6 (by decide) (by decide)))) Z
theorem An(x:Num):lL (nm x) (nm x)=some true:=by rw[wY];simp
abbrev Mk:=Str×Num
def eC(p:Mk):A:=.tup [.str p.1,nm p.2]
abbrev G2(i j:Nat):Mg:=jt 2 (cF (bj i) (cF (bj j) j8))
theorem m8{i:Nat}{t:Mi Bool}{ts:List T}(k g:T->A)(c:T->Bool)(hi:I.length=i)(hl:ts.length<=100000)(h:∀x∈ts,t (I++[.fr (k x)])=some (.ok (c x),I++[.fr (k x)])/\(c x=true->∃r,e (I++[.fr (k x)])=some (.ok r,I++[.fr (k x)])/\aS r (I++[.fr (k x)])=some (g x,I++[.fr (k x)]))):
  fG 1 (bj i) t e (ts.map k) I=some (.ok (.nw (.lst ((ts.filter c).map g))),I):=by
 obtain⟨ys,O,h1,x,rfl,_,rfl⟩:=dS (G:=bj i) (as:=ts.map k)
  (λj acc Z=>∃x:Sl,N3 (Z=I++[x]) (∀o,x≠Sl.pv o) (acc=((ts.take j).filter c).map g)) ⟨.un,rfl,(λo z=>by cases z),rfl⟩ (by
   rintro j q acc Z B ⟨x,rfl,L,rfl⟩;rw[Pq] at B;cases s:ts[j]? with
   |none=>rw[s] at B;cases B
   |some y=>
    rw[s] at B;cases B;obtain⟨k1,k2⟩:=h y (PJ s);refine⟨I++[Sl.fr (k y)],(show put i (.fr (k y)) (I++[x])=some (I++[.fr (k y)]) from yB hi L),?_⟩;rw[QK,s,List.filter_append];cases R:c y with
    |true=>obtain⟨r,k3,P⟩:=k2 R;rw[R] at k1;exact .inl ⟨_,r,_,g y,_,k1,k3,P,.fr (k y),rfl,(λo z=>by cases z),by simp[R]⟩
    | false=>rw[R] at k1;exact .inr ⟨_,k1,.fr (k y),rfl,(λo z=>by cases z),by simp[R]⟩)
 unfold fG;rw[if_pos (by rw[O5];exact hl)];have J:I++PB 1 Sl.un=I++[.un]:=rfl;rw[J,h1];simp
structure Ng(F:List Mk):Prop where
 nb:∀q∈F,NB 64 q.2
 nd:(F.map (·.1)).Nodup
 ln:F.length<=13
 lg:∀q∈F,q.1.length<=1000
abbrev Jp(x:Num)(F:List Mk):A:=.tup [nm x,.tup (F.map eC)]
variable{α:Type}
section
variable{Z U Z0:List Sl}{m:Mi Rr}{ms:Mi (List Rr)}{e x:Str}
theorem bs{m:Mi α}{f:α->Ms}(h:m Z=some (.error e,U)):bz m f Z=some (.ex e,U):=by unfold bz;rw[h]
end
structure Fc(F:List Mk):Prop where
 fc:Ng F
 st:F.map (·.1)=aV (F.map (·.1))
 nz:∀p∈F,p.2.1≠0
theorem oY{n:Int}(w:Wl n o)(hn:n<2^37):X2 λx o'=>N3 (cN cJ o [] (.fr (nm x)) o') (NB 64 x) (Wl (n+3) o'):=by
 obtain⟨r,O,g,Y,b1,K⟩:=tk 8 w (by omega) (by decide) (by decide)
 suffices ∃s o',cN cJ o [] s o'/\∃x,N3 (s=.fr (nm x)) (NB 64 x) (Wl (n+3) o') by obtain⟨s,o',v,x,rfl,h1,h2⟩:=this;exact⟨x,o',v,h1,h2⟩
 refine cN.of (Wp.df ?_);refine Wp.st (fL (au rfl (g _)) rfl) ?_;by_cases c:r=7
 .obtain⟨u,a,U,b2,h,l⟩:=tw (k:=17) (v:=100000000000000000) K (by omega) (by decide) (by decide) (by decide) (by decide);exact Wp.sr (jD (CW true (decide_eq_true c) rfl) (aT (Kg (l _)) rfl)) ⟨_,_,_,rfl,rfl,_,rfl,Eg (by omega),h.mono (by omega)⟩
 refine Wp.st (fo (CW false (decide_eq_false c) rfl) rfl) ?_;by_cases q:r=6
 .obtain⟨u,a,U,b2,h,l⟩:=tw (k:=8) (v:=100000000) K (by omega) (by decide) (by decide) (by decide) (by decide);obtain⟨d,F,e,b,f,S⟩:=tk 100000000 h (by omega) (by decide) (by decide);exact Wp.sr (jD (CW true (decide_eq_true q) rfl) (aT (au (ah (l _) (ah (jz (ag rfl (au (ah rfl (ah (pw 8 100000000 (by decide) (by decide) _) rfl)) (e _)) rfl) rfl) rfl)) (zx (by omega) (by omega) _)) rfl)) ⟨_,_,_,rfl,rfl,_,rfl,.gY (by omega) (show (u-100000000).natAbs<2^64 by omega) (show (1+d).natAbs<2^64 by omega),S.mono (by omega)⟩
 refine Wp.st (fo (CW false (decide_eq_false q) rfl) rfl) ?_;by_cases h3:r > 3
 .obtain⟨u,a,C,U,b2,h⟩:=tk 201 K (by omega) (by decide) (by decide);obtain⟨d,F,e,b,f,S⟩:=tk 6 h (by omega) (by decide) (by decide);have z:aq (av Ij (ae 1) (ax 3)) [.pv O,.fr (.int r)]=some (.ok true,[.pv O,.fr (.int r)]):=by rw[<-decide_eq_true h3];rfl
  exact Wp.sr (jD z (aT (au (ah (ag (au rfl (C _)) rfl rfl) (ah (jz (ag rfl (au rfl (e _)) rfl) rfl) rfl)) (zx (by omega) (by omega) _)) rfl)) ⟨_,_,_,rfl,rfl,_,rfl,.gY (by omega) (show (u-100).natAbs<2^64 by omega) (show (1+d).natAbs<2^64 by omega),S.mono (by omega)⟩
 have z:aq (av Ij (ae 1) (ax 3)) [.pv O,.fr (.int r)]=some (.ok false,[.pv O,.fr (.int r)]):=by rw[<-decide_eq_false h3];rfl
 obtain⟨u,a,C,U,b2,h⟩:=tk 9 K (by omega) (by decide) (by decide);exact Wp.st (fo z rfl) (Wp.en (aT (Kg (ag (au rfl (C _)) rfl rfl)) rfl) ⟨_,_,_,rfl,rfl,_,rfl,Eg (by omega),h.mono (by omega)⟩)
theorem IF(h:Ok (i,j))(hi:i.natAbs<2^64)(V:j.natAbs<2^64):NB 64 (i,j):=⟨h,hi,V⟩
abbrev L8:List A:=[nm (0,1),nm (0,1),nm (1,1),nm (-1,1),nm (2,1),nm (-2,1),nm (1,3),nm (-5,7)]
theorem OL:∀r:Nat,r<9->∃q:Num,gr L8 ((r:Int).fmod 8)=some (nm q)/\NB 64 q:=by
 intro r y;have z:NB 64 (0,1):=MS.mono (by decide)
 match r,y with
 |0,_=>exact⟨(0,1),rfl,z⟩
 |1,_=>exact⟨(0,1),rfl,z⟩
 |2,_=>exact⟨(1,1),rfl,IF ⟨by decide,by decide⟩ (by decide) (by decide)⟩
 |3,_=>exact⟨(-1,1),rfl,IF ⟨by decide,by decide⟩ (by decide) (by decide)⟩
 |4,_=>exact⟨(2,1),rfl,IF ⟨by decide,by decide⟩ (by decide) (by decide)⟩
 |5,_=>exact⟨(-2,1),rfl,IF ⟨by decide,by decide⟩ (by decide) (by decide)⟩
 |6,_=>exact⟨(1,3),rfl,IF ⟨by decide,by decide⟩ (by decide) (by decide)⟩
 |7,_=>exact⟨(-5,7),rfl,IF ⟨by decide,by decide⟩ (by decide) (by decide)⟩
 |8,_=>exact⟨(0,1),rfl,z⟩
abbrev zJ(o:LO)(ns:List Str)(F:List Mk)(h x4 k:Sl):List Sl:=[.pv o,.fr (.lst (ns.map A.str)),.lv (.lst (F.map eC)),h,x4,k]
theorem Dr{l ns:List Str}(h:l.Sublist (aV ns)):l=aV l:=
 ((aW l).symm).eq_of_pairwise (λa b _ _ h1 h2=>qj h1 h2) ((fJ ns).sublist h) (fJ l)
theorem Gh{n:Int}{ns:List Str}(w:Wl n o)(hn:n<2^36)(nd:ns.Nodup)(hl:ns.length<=12)(Q:∀s∈ns,s.length<=30):X3 λx F o'=>N6 (cN ff o [.lst (ns.map A.str)] (.fr (Jp x F)) o') (NB 64 x) (Fc F) (F.length<=12) (∀p∈F,p.1∈ns) (Wl (n+60) o'):=by
 suffices ∃s o',cN ff o [.lst (ns.map A.str)] s o'/\X2 λx F=>N6 (s=.fr (Jp x F)) (NB 64 x) (Fc F) (F.length<=12) (∀p∈F,p.1∈ns) (Wl (n+60) o') by obtain⟨s,o',v,x,F,rfl,h1,h2,h3,h4,h5⟩:=this;exact⟨x,F,o',v,h1,h2,h3,h4,h5⟩
 have sl:(aV ns).length=ns.length:=(aW ns).length_eq
 have sq:da (cV (oV aX a9) (ae 1)) (zJ o ns [] .un .un .un)=some (.ok ((aV ns).map A.str),zJ o ns [] .un .un .un):=by
  have J:oV aX a9 (.lst (ns.map A.str))=some (.nw (.lst ((aV ns).map A.str))):=by unfold oV aX;dsimp only;rw[ql];dsimp only;rw[if_pos (by omega)]
  exact g8 (dE rfl (pV rfl J)) rfl
 refine cN.of (Wp.df (Wp.st rfl ?_))
 refine Wp.sq (Wp.fr (λi Z=>X5 λo' F e x4 C=>N6 (Z=zJ o' ns F e x4 C) (Wl (n+4*i) o') ((F.map (·.1)).Sublist ((aV ns).take i)) (∀p∈F,NB 64 p.2/\p.2.1≠0) (np e=true) (np x4=true/\np C=true)) sq ⟨o,[],.un,.un,.un,rfl,w.mono (by omega),.slnil,(λp hp=>by cases hp),rfl,rfl,rfl⟩ ?_ ?_)
 .rintro i a Z ha ⟨o',F,e,x4,C,rfl,y,N,hp,h3,h4,h5⟩
  rw[Pq] at ha
  cases X:(aV ns)[i]? with
  |none=>rw[X] at ha;cases ha
  |some s=>
   rw[X] at ha;cases ha;have hi:=(O6.mp X).1;have J:(aV ns).take (i+1)=(aV ns).take i++[s]:=by rw[QK,X];rfl
   have fl:F.length<=12:=by have:=N.length_le;rw[O5,Qs] at this;omega
   obtain⟨r,H,Y,D,b1,l⟩:=tk 9 y (by omega) (by decide) (by decide);obtain⟨r,rfl⟩:∃k:Nat,r=k:=⟨r.toNat,by omega⟩
   obtain⟨q,eq,d⟩:=OL r (by omega);have R:∀Z,cZ gx (.fr (.int (r:Int))) (.fr (.int 8)) Z=some (.ok (.fr (.int ((r:Int).fmod 8))),Z):=λZ=>rfl;refine⟨zJ o' ns F (.fr (.str s)) x4 C,by cases e<;>first|(cases h3;done)|rfl,?_⟩;refine Wp.st (bq (au rfl (Y _)) rfl rfl h4 rfl) ?_;refine Wp.st (bq (ag rfl (ag rfl rfl (R _)) (aM (.inl rfl) eq)) rfl rfl h5 rfl) ?_;have fin:∀K q,NB 64 q->Wl (n+4*(i+1:Nat)) K->Wp (j4 (aq (av dA (mix (ae 5) (ax 0)) (ax 0))) (dR (fq 2 (fg 2 (aU (aP (ae 3) (ae 5)))))) cp) (zJ K ns F (.fr (.str s)) (.fr (.int r)) (.fr (nm q))) λf Z0=>(f=.nx\/f=.ct)/\X5 λo' F e x4 C=>N6 (Z0=zJ o' ns F e x4 C) (Wl (n+4*(i+1:Nat)) o') ((F.map (·.1)).Sublist ((aV ns).take (i+1))) (∀p∈F,NB 64 p.2/\p.2.1≠0) (np e=true) (np x4=true/\np C=true):=by
    intro K q d E;have t:aq (av dA (mix (ae 5) (ax 0)) (ax 0)) (zJ K ns F (.fr (.str s)) (.fr (.int r)) (.fr (nm q)))=some (.ok (!decide (q.1=0)),zJ K ns F (.fr (.str s)) (.fr (.int r)) (.fr (nm q))):=aG (ag (ag rfl rfl (aM (.inr rfl) rfl)) rfl (by simp only[cZ,res,dA,iB]));by_cases c:q.1=0
    .rw[decide_eq_true c] at t;exact Wp.en (fo t rfl) ⟨.inl rfl,_,F,_,_,_,rfl,E,by rw[J];exact N.trans (List.sublist_append_left _ _),hp,rfl,rfl,rfl⟩
    .rw[decide_eq_false c] at t;refine Wp.en (jD t (wg rfl rfl rfl rfl (by rw[O5];omega) rfl)) ⟨.inl rfl,_,F++[(s,q)],_,_,_,by unfold zJ;rw[Pp];rfl,E,?_,λp g=>?_,rfl,rfl,rfl⟩
     .rw[J,Pp];exact N.append (QB _)
     .rcases Pe.mp g with z|z
      .exact hp p z
      .rw[Pc.mp z];exact⟨d,c⟩
   have j:∀b,decide ((r:Int)=8)=b->aq (av iU (ae 4) (ax 8)) (zJ H ns F (.fr (.str s)) (.fr (.int r)) (.fr (nm q)))=some (.ok b,zJ H ns F (.fr (.str s)) (.fr (.int r)) (.fr (nm q))):=by rintro b rfl;exact aG (ag rfl rfl (rY _ _ _))
   by_cases m:(r:Int)=8
   .obtain⟨u,K,P,U,E⟩:=oY l (by omega);exact Wp.st (jD (j true (decide_eq_true m)) (bq (au rfl (GN P rfl _)) rfl rfl rfl rfl)) (fin K u U (E.mono (by omega)))
   .exact Wp.st (fo (j false (decide_eq_false m)) rfl) (fin H q d (l.mono (by omega)))
 .rintro O ⟨o',F,e,x4,C,rfl,y,N,hp,h3,h4,h5⟩
  rw[O5] at y N
  rw[QC] at N
  obtain⟨x,K,P,U,E⟩:=oY y (by omega)
  have fl:F.length<=12:=by have:=N.length_le;rw[O5] at this;omega
  have fi:∀p∈F,p.1∈ns:=λp hp=>(aW ns).mem_iff.mp (N.subset (List.mem_map_of_mem hp))
  refine⟨rfl,Wp.en (aT (bw (ah (au rfl (GN P rfl _)) (ah (dE rfl rfl) rfl)) rfl) rfl) ⟨_,K,_,rfl,rfl,x,F,rfl,U,⟨⟨λp h=>(hp p h).1,(((aW ns).nodup_iff).mpr nd).sublist N,by omega,λp h=>Px (Q _ (fi p h)) (by decide)⟩,Dr N,λp h=>(hp p h).2⟩,fl,fi,E.mono (by omega)⟩⟩
noncomputable def aF(ks:List Str)(g:Str->A):List (Key×A):=ks.map λn=>(Qj n,g n)
theorem iN(ks:List Str)(g:Str->A)(n:Str):fC (aF ks g) (.inr n)=if n∈ks then some (g n) else none:=by
 unfold fC aF;induction ks with
 |nil=>simp
 |cons k ks m=>
  rw[Pg,Qi];by_cases c:k=n
  .subst c;simp
  .have Y:decide ((Qj k:Key)=Qj n)=false:=decide_eq_false λz=>c (SS z);have C:¬ n=k:=λz=>c z.symm;simp only[Y];rw[m];simp[C]
theorem Ca(ks:List Str)(g:Str->A)(n:Str):((aF ks g).any λs=>decide (s.1=Qj n))=decide (n∈ks):=by
 unfold aF;induction ks with
 |nil=>simp
 |cons k ks m=>
  rw[Pg,Qt,m];by_cases c:k=n
  .subst c;simp
  .have Y:decide ((Qj k:Key)=Qj n)=false:=decide_eq_false λz=>c (SS z);have C:¬ n=k:=λz=>c z.symm;simp only[Y,VG,Po,C,false_or]
theorem qF(ks:List Str)(g:Str->A)(n:Str)(a:A):lG (aF ks g) (.inr n) a=aF (if n∈ks then ks else ks++[n]) (λm=>if m=n then a else g m):=by
 unfold lG;rw[Ca];by_cases c:n∈ks
 .rw[if_pos (decide_eq_true c),if_pos c];unfold aF;rw[Qe];refine Qx λm _=>?_;show (if (Qj m:Key)=Qj n then (Qj m,a) else (Qj m,g m))=(Qj m,if m=n then a else g m);by_cases z:m=n
  .subst z;simp
  .rw[if_neg (λe=>z (SS e)),if_neg z]
 .rw[if_neg (by simpa using c),if_neg c];unfold aF;rw[Pp]
  congr 1
  .refine Qx λm hm=>?_;show (Qj m,g m)=(Qj m,if m=n then a else g m);rw[if_neg λe:m=n=>c (by rw[<-e];exact hm)]
  .simp
theorem jn(ks:List Str)(g:Str->A):strKeys (aF ks g)=some ks:=by
 unfold aF;induction ks with
 |nil=>rfl
 |cons k ks m=>rw[Pg,strKeys,m]
theorem lZ(ks:List Str)(g:Str->A):(aF ks g).length=ks.length:=by unfold aF;rw[O5]
theorem jl{ks:List Str}{g g':Str->A}(h:∀n∈ks,g n=g' n):aF ks g=aF ks g':=Qx λn hn=>by rw[h n hn]
variable{ps:List Pr}
theorem jM{n:Str}(h:∀p∈ps,p.1≠n):bb ps n=(0,1):=by revert h;refine snoc_ind (M:=λps:List Pr=>(∀p∈ps,p.1≠n)->bb ps n=(0,1)) (λ_=>rfl) (λl a m h=>?_) ps;rw[dr,if_neg (h a (by simp)),m λp hp=>h p (Ph _ hp)]
theorem take_snoc{l:List α}{i:Nat}{a:α}(h:l[i]?=some a):l.take (i+1)=l.take i++[a]:=by rw[QK,h];rfl
theorem pT(ps:List Pr)(i:Nat)(n:Str):cnt (ps.take i) n<=cnt ps n:=WD (Rj _ _)
def nz(ps:List Pr)(n:Str):Bool:=!decide (bb ps n=(0,1))
def eI(ps:List Pr)(ss:List Str):List Pr:=(ss.filter (nz ps)).map λn=>(n,bb ps n)
variable{ss:List Str}
theorem rising(h:ss.Pairwise (λa b=>qJ a b=true))(nd:ss.Nodup):ss.Pairwise vA:=
 h.imp₂ (λa b h1 h2=>⟨by rw[kg,decide_eq_true_eq] at h1;exact h1,h2⟩) nd
theorem oS{ks:List Str}(nd:ks.Nodup)(hk:∀n,n∈ks↔∃p∈ps,p.1=n):Canon ps (eI ps (aV ks)):=by
 have y:=rising (fJ ks) ((aW ks).nodup_iff.mpr nd);refine⟨Q3.mpr (y.sublist List.filter_sublist),λp=>?_⟩;unfold eI;rw[PN];constructor
 .rintro⟨n,hn,rfl⟩;have:=(Q9.mp hn).2;exact⟨rfl,by simpa[nz] using this⟩
 .rintro⟨e,Q⟩;refine⟨p.1,Q9.mpr ⟨(aW ks).mem_iff.mpr ((hk p.1).mpr ?_),by unfold nz;rw[<-e,decide_eq_false Q];rfl⟩,UE rfl e.symm⟩;by_cases c:∃q∈ps,q.1=p.1
  .exact c
  .exact absurd (e.trans (jM λq B z=>c ⟨q,B,z⟩)) Q
def bL(x:Num)(L:List Pr):A:=.tup [nm x,.tup (L.map eC)]
abbrev Jh(x:Num)(ps:List Pr)(K:List (Key×A))(h x4:Sl):List Sl:=[.fr (nm x),.fr (.tup (ps.map eC)),.lv (.dic K),h,x4]
variable{x3 x4:Sl}
theorem OZ{a b c:Sl}(p:Pr)(h3:np x3=true)(h4:np x4=true):G2 3 4 (eC p) [a,b,c,x3,x4]=some [a,b,c,.fr (.str p.1),.fr (nm p.2)]:=by cases x3<;>first|(cases h3;done)|(cases x4<;>first|(cases h4;done)|rfl)
theorem sH{j b:Mi Rr}{d k:Rr}{K:List (Key×A)}{x:Str}{v:Num}(h1:j Z=some (.ok d,Z))(h2:res Z d=some (.dic K))(h3:mk Z=some (.ok k,Z))(h4:res Z k=some (.str x))(h5:b Z=some (.ok (.fr (nm (0,1))),Z))(u:fC K (.inr x)=some (nm v)\/fC K (.inr x)=none/\v=(0,1)):lU j mk b Z=some (.ok (.fr (nm v)),Z):=by
 refine bk h1 ?_;rw[h2];refine bk h3 (bk h5 ?_);rw[h2,h4];dsimp only [fO];rcases u with e|⟨e,rfl⟩
 .rw[e]
 .rw[e];rfl
variable{c:Nat}
theorem pM{x:Num}{b:Nat}(nb:∀p∈ps,NB b p.2)(cn:∀n,cnt ps n<=c)(E:(b+1)*c+1<=4000)(K:b<=4000)(hl:ps.length<=60):
  ∃L,Val g9 [nm x,.tup (ps.map eC)] (bL x L)/\Canon ps L/\L.length<=ps.length:=by
 suffices Wp g9 ([nm x,.tup (ps.map eC)].map Sl.fr) λg _=>∃L,g=.rt (.fr (bL x L))/\Canon ps L/\L.length<=ps.length by obtain⟨_,_,e,L,rfl,h⟩:=this;exact⟨L,⟨_,e⟩,h⟩
 refine Wp.df (Wp.st rfl ?_)
 refine Wp.sq (Wp.fr (λi Z=>∃(ks:List Str)(x3 x4:Sl),Z=Jh x ps (aF ks λn=>nm (bb (ps.take i) n)) x3 x4/\ks.Nodup/\(∀n,n∈ks↔∃p∈ps.take i,p.1=n)/\ks.length<=i/\np x3=true/\np x4=true) rfl ⟨[],_,_,rfl,.nil,by simp,by simp,rfl,rfl⟩ ?_ ?_)
 .rintro i a Z ha ⟨ks,x3,x4,rfl,nd,hk,o,h3,h4⟩
  rw[Pq] at ha
  cases hp:ps[i]? with
  |none=>rw[hp] at ha;cases ha
  |some p=>
   rw[hp] at ha;cases ha;obtain⟨n,y⟩:=p;have F:=PJ hp;have v:=nb _ F;have C:NB ((b+1)*c+1) (bb (ps.take i) n):=(sj (λp hp=>nb p (QL hp)) n).mono (by have:=SH (b+1) (Px (pT ps i n) (cn n));omega);have P:i<ps.length:=(O6.mp hp).1;have J:bb (ps.take (i+1)) n=fD (bb (ps.take i) n) y:=by rw[take_snoc hp,dr,if_pos rfl]
   have l:∀m,m≠n->bb (ps.take (i+1)) m=bb (ps.take i) m:=λm hm=>by rw[take_snoc hp,dr,if_neg (λz=>hm z.symm)]
   have kp:=bg (sG C v (by omega));have q:fC (aF ks λn=>nm (bb (ps.take i) n)) (.inr n)=some (nm (bb (ps.take i) n))\/fC (aF ks λn=>nm (bb (ps.take i) n)) (.inr n)=none/\bb (ps.take i) n=(0,1):=by
    rw[iN];by_cases z:n∈ks
    .rw[if_pos z];exact .inl rfl
    .rw[if_neg z];exact .inr ⟨rfl,jM λp hp e=>z ((hk n).mpr ⟨p,hp,e⟩)⟩
   have H:lG (aF ks λn=>nm (bb (ps.take i) n)) (.inr n) (nm (fD (bb (ps.take i) n) y))=aF (if n∈ks then ks else ks++[n]) λm=>nm (bb (ps.take (i+1)) m):=by
    rw[qF];refine jl λm _=>?_;by_cases z:m=n
    .rw[if_pos z,z,J]
    .rw[if_neg z,l m z]
   refine⟨_,OZ (n,y) h3 h4,Wp.en (U:=Jh x ps (aF (if n∈ks then ks else ks++[n]) λm=>nm (bb (ps.take (i+1)) m)) (.fr (.str n)) (.fr (nm y))) ?_ ⟨.inl rfl,_,_,_,rfl,?_,?_,?_,rfl,rfl⟩⟩
   .refine(tV (au (ah (jz (sH rfl rfl rfl rfl rfl q) rfl) rfl) (kp _)) rfl rfl (Kd rfl rfl rfl rfl (by rw[lZ];omega))).trans ?_;rw[H];rfl
   .split
    .exact nd
    .rename_i z;exact Pz.mpr ⟨nd,PM.mpr ⟨by simp,.nil⟩,λa ha b K e=>by rw[Pc.mp K] at e;exact z (e▸ha)⟩
   .intro m;rw[take_snoc hp];by_cases z:n∈ks
    .rw[if_pos z,hk m];constructor
     .rintro⟨p,h1,h2⟩;exact⟨p,Ph _ h1,h2⟩
     .rintro⟨p,h1,h2⟩;rcases Pe.mp h1 with h|h
      .exact⟨p,h,h2⟩
      .rw[Pc.mp h] at h2;exact h2▸(hk n).mp z
    .rw[if_neg z,Pe,hk m];constructor
     .rintro(⟨p,h1,h2⟩|h)
      .exact⟨p,Ph _ h1,h2⟩
      .exact⟨(n,y),Pb _ (Pc.mpr rfl),(Pc.mp h).symm⟩
     .rintro⟨p,h1,h2⟩;rcases Pe.mp h1 with h|h
      .exact .inl ⟨p,h,h2⟩
      .rw[Pc.mp h] at h2;exact .inr (Pc.mpr h2.symm)
   .split
    .omega
    .rw[Pk];simp;omega
 .rintro O ⟨ks,x3,x4,rfl,nd,hk,o,h3,h4⟩
  rw[O5,QC] at hk ⊢
  rw[O5] at o
  have sl:(aV ks).length<=60:=by rw[(aW _).length_eq];omega
  have X:∀s∈aV ks,fC (aF ks λn=>nm (bb ps n)) (.inr s)=some (nm (bb ps s)):=λs N=>by rw[iN,if_pos ((aW ks).mem_iff.mp N)]
  have w:∀s∈aV ks,∀{d:Rr}{Z:List Sl},res Z d=some (.dic (aF ks λn=>nm (bb ps n)))->cZ (bI lP cX) d (.fr (.str s)) Z=some (.ok (.fr (nm (bb ps s))),Z):=λs N d Z h=>by
   unfold cZ;rw[h];show (match bI lP cX (.dic (aF ks λn=>nm (bb ps n))) (.str s) with|some r=>some ((.ok r:Except Str Rr),Z)|none=>none)=_;have:bI lP cX (.dic (aF ks λn=>nm (bb ps n))) (.str s)=some (.fr (nm (bb ps s))):=by unfold bI lP cX;dsimp only [fO];rw[X s N]
   rw[this]
  have k:=m8 (I:=Jh x ps (aF ks λn=>nm (bb ps n)) x3 x4) (t:=aq (av dA (mix (ae 2) (ae 5)) (mC (.tup [.int 0,.int 1])))) (e:=aU (aP (ae 5) (mix (ae 2) (ae 5))))
   A.str (λs=>eC (s,bb ps s)) (nz ps) rfl (by omega:(aV ks).length<=100000) (λs N=>⟨aG (ag (ag rfl rfl (w s N rfl)) rfl (by show cZ dA (.fr (nm (bb ps s))) (.fr (nm (0,1))) _=_;simp only[cZ,res,dA,wY,nz])),λ_=>⟨.fr (eC (s,bb ps s)),bw (ah rfl (ah (ag rfl rfl (w s N rfl)) rfl)) rfl,rfl⟩⟩)
  have l:((aV ks).filter (nz ps)).map (λs=>eC (s,bb ps s))=(eI ps (aV ks)).map eC:=by unfold eI;rw[Qe];rfl
  rw[l] at k
  have sq:da (cV (oV aX a9) (ae 2)) (Jh x ps (aF ks λn=>nm (bb ps n)) x3 x4)=some (.ok ((aV ks).map A.str),Jh x ps (aF ks λn=>nm (bb ps n)) x3 x4):=by
   have J:oV aX a9 (.dic (aF ks λn=>nm (bb ps n)))=some (.nw (.lst ((aV ks).map A.str))):=by unfold oV aX a9;dsimp only;rw[jn];dsimp only;rw[if_pos (by omega)]
   exact g8 (dE rfl (pV rfl J)) rfl
  refine⟨rfl,Wp.en (aT (bw (ah rfl (ah (dE (cH sq k) rfl) rfl)) rfl) rfl) ⟨eI ps (aV ks),rfl,oS nd hk,?_⟩⟩
  unfold eI
  rw[O5]
  exact Px (Uz _ _) (by rw[(aW _).length_eq];omega)
structure Sm(b l:Nat)(ss:List Str)(x:Num)(L:List Pr):Prop where
 x:NB b x
 rise:L.Pairwise (λa b=>vA a.1 b.1)
 nb:∀p∈L,NB b p.2
 nz:∀p∈L,p.2≠(0,1)
 len:L.length<=l
 nms:∀p∈L,p.1∈ss
variable{L:List Pr}
theorem Sm.Oo{b l:Nat}{x:Num}(h:Sm b l ss x L):∀p∈L,Ok p.2:=λp hp=>(h.nb p hp).ok
theorem rH(o:∀p∈ps,Ok p.2)(h:Canon ps L)(n:Str):fj L n=fj ps n:=by
 obtain⟨S,D⟩:=mO h.rise;by_cases c:∃q∈L,q.1=n
 .obtain⟨q,B,rfl⟩:=c;rw[S q B,((h.mem q).mp B).1,nB o]
 .rw[D n λp hp e=>c ⟨p,hp,e⟩];by_cases z:bb ps n=(0,1)
  .rw[<-nB o,z,oy]
  .exact absurd ⟨(n,bb ps n),(h.mem (n,bb ps n)).mpr ⟨rfl,z⟩,rfl⟩ c
theorem jL(L M:List Pr)(n:Str):cnt (L++M) n=cnt L n+cnt M n:=UX
theorem kL{α:Type}[DecidableEq α]:∀{xs ys:List α},xs.Nodup->(∀x∈xs,x∈ys)->xs.length<=ys.length
 |[],_,_,_=>Qm _
 |x::xs,ys,nd,h=>by obtain⟨S,U⟩:=PM.mp nd;have L:=h x (.head _);have m:=kL (ys:=ys.erase x) U λu f=>(List.mem_erase_of_ne λz=>S (by rw[<-z];exact f)).mpr (h u (Pa _ f));rw[List.length_erase_of_mem L] at m;have:=List.length_pos_of_mem L;rw[Pl];omega
theorem Jw(L M:List Pr)(hl:L.length+M.length<=100)(Z:List Sl):cZ aK (.fr (.tup (L.map eC))) (.fr (.tup (M.map eC))) Z=some (.ok (.fr (.tup ((L++M).map eC))),Z):=by
 have e:mP (.tup (L.map eC)) (.tup (M.map eC))=some (.fr (.tup ((L++M).map eC))):=by unfold mP;dsimp only;rw[if_pos (by rw[O5,O5];omega),Pp]
 unfold cZ aK bI;dsimp only [res];rw[show qv (.tup (L.map eC)) (.tup (M.map eC))=none from rfl,show pL (.tup (L.map eC)) (.tup (M.map eC))=none from rfl];dsimp only;rw[e]
structure Tt(k:Nat)(ss:List Str)(ps:List Pr)(x:Num)(L:List Pr):Prop where
 cn:Canon ps L
 nb:∀p∈ps,NB 64 p.2
 ct:∀n,cnt ps n<=k
 nx:NB (65*k+1) x
 nm:∀p∈ps,p.1∈ss
theorem Tt.N5{k:Nat}{x:Num}(h:Tt k ss ps x L)(p:Pr)(hp:p∈L):NB (65*k+1) p.2:=by rw[((h.cn.mem p).mp hp).1];exact(sj h.nb p.1).mono (by have:=SH (64+1) (h.ct p.1);omega)
theorem Tt.Og{k:Nat}{x:Num}(h:Tt k ss ps x L)(p:Pr)(hp:p∈L):p.1∈ss:=by
 obtain⟨e,n⟩:=(h.cn.mem p).mp hp;by_cases z:∃q∈ps,q.1=p.1
 .obtain⟨q,B,l⟩:=z;rw[<-l];exact h.nm q B
 .exact absurd (e.trans (jM λq B l=>z ⟨q,B,l⟩)) n
theorem ie(r:L.Pairwise (λa b=>vA a.1 b.1))(h:∀p∈L,p.1∈ss):L.length<=ss.length:=by
 have nd:(L.map (·.1)).Nodup:=Q3.mpr (r.imp λh e=>h.2 e);have:=kL nd (ys:=ss) λx k=>by obtain⟨p,hp,rfl⟩:=PN.mp k;exact h p hp
 rwa[O5] at this
theorem Tt.next{k:Nat}{M N:List Pr}{x y:Num}(h:Tt k ss ps x L)(g:Sm 64 6 ss y M)(c:Canon (L++M) N):Tt (k+1) ss (ps++M) (fD x y) N:=by
 have F:∀p∈L,Ok p.2:=λp hp=>(h.N5 p hp).ok;have s:∀p∈ps,Ok p.2:=λp hp=>(h.nb p hp).ok;have a:∀p∈L++M,Ok p.2:=λp hp=>(Pe.mp hp).elim (F p) (g.Oo p);have e:∀p∈ps++M,Ok p.2:=λp hp=>(Pe.mp hp).elim (s p) (g.Oo p);have z:∀n,bb (L++M) n=bb (ps++M) n:=λn=>En (nO a n) (nO e n) (by rw[nB a,nB e,fW,fW,rH s h.cn]);exact⟨⟨c.rise,λp=>by rw[c.mem,z]⟩,λp hp=>(Pe.mp hp).elim (h.nb p) (g.nb p),λn=>by rw[jL];have:=h.ct n;have:=fS g.rise n;omega,
  (h.nx.Ih g.x).mono (by omega),λp hp=>(Pe.mp hp).elim (h.nm p) (g.nms p)⟩
theorem AU{k:Nat}{M:List Pr}{x y:Num}(h:Tt k ss ps x L)(g:Sm 64 6 ss y M)(hk:k<=16)(r:ss.length<=6):∃N,Val kB [bL x L,bL y M] (bL (fD x y) N)/\Tt (k+1) ss (ps++M) (fD x y) N:=by
 have G:=ie h.cn.rise h.Og;have R:=ie g.rise g.nms;obtain⟨N,v,c,-⟩:=pM (x:=fD x y) (ps:=L++M) (b:=1041) (c:=2) (λp hp=>(Pe.mp hp).elim (λq=>(h.N5 p q).mono (by omega)) λq=>(g.nb p q).mono (by omega))
  (λn=>by rw[jL];have:=fS h.cn.rise n;have:=fS g.rise n;omega) (by omega) (by omega) (by rw[Pk];omega)
 refine⟨N,?_,h.next g c⟩;have k1:=bg (sG h.nx g.x (by omega));have k2:=bg v;have ea:=Jw L M (by omega);exact Val.of (Wp.df (Wp.en (aT (au (ah (au (ah (ag rfl rfl rfl) (ah (ag rfl rfl rfl) rfl)) (k1 _)) (ah (jz (ag (ag rfl rfl rfl) (ag rfl rfl rfl) (ea _)) rfl) rfl)) (k2 _)) rfl) rfl))
structure Gp where
 u:A
 v:A
 x:Num
 M:List Pr
def aN(g:Gp):A:=.tup [g.u,g.v,bL g.x g.M]
noncomputable def g0:Gp:=⟨.non,.non,(0,1),[]⟩
def qo(gs:List Gp)(k:Int):Gp:=gs.getD k.toNat g0
def bH(gs:List Gp)(ks:List Int):List Pr:=ks.flatMap λk=>(qo gs k).M
def lH(gs:List Gp)(ks:List Int):Num:=ks.foldl (λacc k=>fD acc (qo gs k).x) (0,1)
theorem i8(gs:List Gp)(ks:List Int)(k:Int):bH gs (ks++[k])=bH gs ks++(qo gs k).M:=by unfold bH;rw[List.flatMap_append,List.flatMap_singleton]
theorem iI(gs:List Gp)(ks:List Int)(k:Int):lH gs (ks++[k])=fD (lH gs ks) (qo gs k).x:=by unfold lH;rw[U6];rfl
theorem D9:NB 1 (0,1):=⟨⟨by decide,by decide⟩,show (0:Int).natAbs<2^1 by decide,show (1:Int).natAbs<2^1 by decide⟩
variable{gs:List Gp}
theorem gM(J:0<=k)(h1:k<gs.length):gr (gs.map aN) k=some (aN (qo gs k))/\qo gs k∈gs:=by
 obtain⟨j,rfl⟩:∃j:Nat,k=j:=⟨k.toNat,by omega⟩
 have V:j<gs.length:=by omega
 have e:qo gs (j:Int)=gs[j]:=by unfold qo;rw[Qq,Sh,Pm V];rfl
 rw[e];exact⟨gk (by rw[Pq,Pm V];rfl),QD _⟩
def vG(gs:List Gp)(ks:List Int):Prop:=∀k∈ks,0<=k/\k<(gs.length:Int)
variable{ks:List Int}
theorem pz(Q:∀g∈gs,Sm 64 6 ss g.x g.M)(hk:vG gs ks)(hl:ks.length<=16)(r:ss.length<=6):
  ∃L,Val dI [.lst (gs.map aN),.tup (ks.map A.int)] (bL (lH gs ks) L)/\Tt ks.length ss (bH gs ks) (lH gs ks) L:=by
 suffices Wp dI ([.lst (gs.map aN),.tup (ks.map A.int)].map Sl.fr) λg _=>∃L,g=.rt (.fr (bL (lH gs ks) L))/\Tt ks.length ss (bH gs ks) (lH gs ks) L by obtain⟨_,_,e,L,rfl,h⟩:=this;exact⟨L,⟨_,e⟩,h⟩
 obtain⟨u,q,o,-⟩:=pM (x:=(0,1)) (ps:=[]) (b:=0) (c:=0) (λp hp=>nomatch hp) (λn=>Pf _) (by omega) (by omega) (by simp)
 refine Wp.df (Wp.st (fL (au (ah rfl (ah (bw rfl rfl) rfl)) (bg q _)) rfl) ?_)
 refine Wp.sq (Wp.fr (λi Z=>∃L x3,Z=[.fr (.lst (gs.map aN)),.fr (.tup (ks.map A.int)),.fr (bL (lH gs (ks.take i)) L),x3]/\Tt i ss (bH gs (ks.take i)) (lH gs (ks.take i)) L/\np x3=true) rfl ⟨u,.un,rfl,⟨o,(λp hp=>nomatch hp),(λn=>Pf _),D9,λp hp=>nomatch hp⟩,rfl⟩ ?_ ?_)
 .rintro i a Z ha ⟨L,x3,rfl,h,h3⟩
  rw[Pq] at ha
  cases s:ks[i]? with
  |none=>rw[s] at ha;cases ha
  |some k=>
   rw[s] at ha;cases ha;have z:=PJ s;have y:i<ks.length:=(O6.mp s).1;obtain⟨J,l⟩:=gM (hk k z).1 (hk k z).2;obtain⟨N,v,t⟩:=AU h (Q _ l) (by omega) r;have es:ks.take (i+1)=ks.take i++[k]:=by rw[QK,s];rfl
   rw[<-i8,<-iI,<-es] at t;rw[<-iI,<-es] at v;refine⟨[.fr (.lst (gs.map aN)),.fr (.tup (ks.map A.int)),.fr (bL (lH gs (ks.take i)) L),.fr (.int k)],by cases x3<;>first|(cases h3;done)|rfl,Wp.en (fL (au (ah rfl (ah (ag (ag rfl rfl (aM (.inl rfl) J)) rfl (aM (.inr rfl) rfl)) rfl)) (bg v _)) rfl) ⟨.inl rfl,N,_,rfl,t,rfl⟩⟩
 .rintro O ⟨L,x3,rfl,h,h3⟩
  rw[O5,QC] at h ⊢
  exact⟨rfl,Wp.en (aT rfl rfl) ⟨L,rfl,h⟩⟩
structure Dc(ks:List Str)(ps:List Pr):Prop where
 nd:ks.Nodup
 mem:∀n,n∈ks↔∃p∈ps,p.1=n
theorem Dc.get{ks:List Str}(h:Dc ks ps)(n:Str):fC (aF ks λn=>nm (bb ps n)) (.inr n)=some (nm (bb ps n))\/fC (aF ks λn=>nm (bb ps n)) (.inr n)=none/\bb ps n=(0,1):=by
 rw[iN];by_cases z:n∈ks
 .rw[if_pos z];exact .inl rfl
 .rw[if_neg z];exact .inr ⟨rfl,jM λp hp e=>z ((h.mem n).mpr ⟨p,hp,e⟩)⟩
theorem Dc.put{ks:List Str}(h:Dc ks ps)(n:Str)(y:Num):∃x,lG (aF ks λn=>nm (bb ps n)) (.inr n) (nm (fD (bb ps n) y))=aF x (λm=>nm (bb (ps++[(n,y)]) m))/\Dc x (ps++[(n,y)]):=by
 refine⟨if n∈ks then ks else ks++[n],?_,?_,λm=>?_⟩
 .rw[qF];refine jl λm _=>?_;rw[dr];by_cases z:m=n
  .rw[if_pos z,z,if_pos rfl]
  .rw[if_neg z,if_neg λe=>z e.symm]
 .split
  .exact h.nd
  .rename_i z;exact Pz.mpr ⟨h.nd,PM.mpr ⟨by simp,.nil⟩,λa ha b d e=>by rw[Pc.mp d] at e;exact z (e▸ha)⟩
 .by_cases z:n∈ks
  .rw[if_pos z,h.mem m];constructor
   .rintro⟨p,h1,h2⟩;exact⟨p,Ph _ h1,h2⟩
   .rintro⟨p,h1,h2⟩;rcases Pe.mp h1 with q|q
    .exact⟨p,q,h2⟩
    .rw[Pc.mp q] at h2;exact h2▸(h.mem n).mp z
  .rw[if_neg z,Pe,h.mem m];constructor
   .rintro(⟨p,h1,h2⟩|q)
    .exact⟨p,Ph _ h1,h2⟩
    .exact⟨(n,y),Pb _ (Pc.mpr rfl),(Pc.mp q).symm⟩
   .rintro⟨p,h1,h2⟩;rcases Pe.mp h1 with q|q
    .exact .inl ⟨p,q,h2⟩
    .rw[Pc.mp q] at h2;exact .inr (Pc.mpr h2.symm)
theorem Dc.len{ks:List Str}(h:Dc ks ps)(N:∀p∈ps,p.1∈ss):ks.length<=ss.length:=kL h.nd λn hn=>by obtain⟨p,hp,rfl⟩:=(h.mem n).mp hn;exact N p hp
theorem Gq(h:∀k∈ks,NB 64 (qo gs k).x):NB (65*ks.length+1) (lH gs ks):=by revert h;refine snoc_ind (M:=λks:List Int=>(∀k∈ks,NB 64 (qo gs k).x)->NB (65*ks.length+1) (lH gs ks)) (λ_=>D9) (λl a m h=>?_) ks;rw[iI,Pk,QZ];exact((m λk hk=>h k (Ph _ hk)).Ih (h a (by simp))).mono (by omega)
theorem MT{x:Num}(h:Ok x):decide (x.1=0)=decide (x=(0,1)):=by
 by_cases z:x=(0,1)
 .subst z;rfl
 .rw[decide_eq_false z];refine decide_eq_false λe=>z ?_;exact En h tI (by rw[oy];unfold nv;rw[e];simp)
abbrev Ae(gs:List Gp)(ks:List Int)(x:Num)(K:List (Key×A))(x4 k n h:Sl):List Sl:=[.fr (.lst (gs.map aN)),.fr (.tup (ks.map A.int)),.fr (nm x),.lv (.dic K),x4,k,n,h]
variable{x5 x6:Sl}
theorem OM{a b c d e f:Sl}(p:Pr)(h5:np x5=true)(r:np x6=true):G2 5 6 (eC p) [a,b,c,d,e,x5,x6,f]=some [a,b,c,d,e,.fr (.str p.1),.fr (nm p.2),f]:=by cases x5<;>first|(cases h5;done)|(cases x6<;>first|(cases r;done)|rfl)
variable{x7:Sl}
theorem Fd{x:Num}{M:List Pr}{ns:List Str}(hd:Dc ns ps)(nb:∀p∈ps,NB 64 p.2)(ct:∀n,cnt ps n<=16)(N:∀p∈ps,p.1∈ss)(g:Sm 64 6 ss x' M)(z:ss.length<=6)
  (J:0<=k)(h1:k<(gs.length:Int))(H:(qo gs k).M=M)(h5:np x5=true)(r:np x6=true):
  Wp (gq (da (mix (mix (mix (ae 0) (ae 4)) (ax 2)) (ax 1))) (G2 5 6) (mK 3 (ae 5) (bJ eR (aP (tK (lU (ae 3) (ae 5) (aU (aP (ax 0) (ax 1))))) (aR 6))))) (Ae gs ks x (aF ns λn=>nm (bb ps n)) (.fr (.int k)) x5 x6 x7) λf Z=>f=.nx /\
   ∃D e s,Z=Ae gs ks x (aF D λn=>nm (bb (ps++M) n)) (.fr (.int k)) e s x7/\Dc D (ps++M)/\np e=true/\np s=true:=by
 obtain⟨E,l⟩:=gM J h1;refine Wp.fr (λi Z=>∃D e s,Z=Ae gs ks x (aF D λn=>nm (bb (ps++M.take i) n)) (.fr (.int k)) e s x7/\Dc D (ps++M.take i)/\np e=true/\np s=true) (as:=M.map eC)
  (g8 (ag (ag (ag rfl rfl (aM (.inl rfl) E)) rfl (aM (.inr rfl) rfl)) rfl (aM (.inr rfl) (by show some (A.tup ((qo gs k).M.map eC))=_;rw[H]))) rfl) ⟨ns,x5,x6,by rw[VD,P8],by rw[VD,P8];exact hd,h5,r⟩ ?_ ?_
 .rintro i a Z ha ⟨D,e,s,rfl,h,h5,r⟩;rw[Pq] at ha;cases X:M[i]? with
  |none=>rw[X] at ha;cases ha
  |some p=>
   rw[X] at ha;cases ha;obtain⟨n,y⟩:=p;have F:=PJ X;have C:NB 1200 (bb (ps++M.take i) n):=(sj (λp hp=>(Pe.mp hp).elim (nb p) λq=>g.nb p (QL q)) n).mono (by
    have Y:=ct n;have o:=fS g.rise n;have t:=pT M i n;rw[jL];have:cnt ps n+cnt (M.take i) n<=17:=by omega
    have:=SH (64+1) this;omega)
   have kp:=bg (sT C (g.nb _ F) (by omega));obtain⟨w,c,L⟩:=h.put n y;have es:ps++M.take (i+1)=ps++M.take i++[(n,y)]:=by rw[take_snoc X,O7]
   have R:D.length<=6:=Px (h.len λp hp=>(Pe.mp hp).elim (N p) λq=>g.nms p (QL q)) z;refine⟨_,OM (n,y) h5 r,Wp.en (U:=Ae gs ks x (aF w λm=>nm (bb (ps++M.take (i+1)) m)) (.fr (.int k)) (.fr (.str n)) (.fr (nm y)) x7) ?_ ⟨.inl rfl,_,_,_,rfl,by rw[es];exact L,rfl,rfl⟩⟩;refine(tV (au (ah (jz (sH rfl rfl rfl rfl rfl (h.get n)) rfl) rfl) (kp _)) rfl rfl (Kd rfl rfl rfl rfl (by rw[lZ];omega))).trans ?_;rw[c,es];rfl
 .rintro O ⟨D,e,s,rfl,h,h5,r⟩;rw[O5,QC] at h ⊢;exact⟨rfl,_,_,_,rfl,h,h5,r⟩
theorem wR(Q:∀g∈gs,Sm 64 6 ss g.x g.M)(hk:vG gs ks)(n:Str):cnt (bH gs ks) n<=ks.length:=by revert hk;refine snoc_ind (M:=λks:List Int=>vG gs ks->cnt (bH gs ks) n<=ks.length) (λ_=>Pf _) (λl a m h=>?_) ks;rw[i8,jL,Pk,QZ];have h1:=m λk hk=>h k (Ph _ hk);have h2:=fS (Q _ (gM (h a (by simp)).1 (h a (by simp)).2).2).rise n;omega
theorem qx(hk:vG gs ks){p:Pr}(hp:p∈bH gs ks):∃g∈gs,p∈g.M:=by unfold bH at hp;obtain⟨k,h1,h2⟩:=List.mem_flatMap.mp hp;exact⟨_,(gM (hk k h1).1 (hk k h1).2).2,h2⟩
theorem vG.take{gs:List Gp}{ks:List Int}(h:vG gs ks)(i:Nat):vG gs (ks.take i):=λk hk=>h k (QL hk)
theorem Li(Q:∀g∈gs,Sm 64 6 ss g.x g.M)(hk:vG gs ks)(hl:ks.length<=16)(F:ss.length<=6):
  ∃L,Val eJ [.lst (gs.map aN),.tup (ks.map A.int)] (bL (lH gs ks) L)/\Canon (bH gs ks) L:=by
 suffices Wp eJ ([.lst (gs.map aN),.tup (ks.map A.int)].map Sl.fr) λg _=>∃L,g=.rt (.fr (bL (lH gs ks) L))/\Canon (bH gs ks) L by obtain⟨_,_,e,L,rfl,h⟩:=this;exact⟨L,⟨_,e⟩,h⟩
 have q:∀i,∀p∈bH gs (ks.take i),NB 64 p.2:=λi p hp=>by obtain⟨g,h1,h2⟩:=qx (hk.take i) hp;exact(Q g h1).nb p h2
 have S:∀i,∀p∈bH gs (ks.take i),p.1∈ss:=λi p hp=>by obtain⟨g,h1,h2⟩:=qx (hk.take i) hp;exact(Q g h1).nms p h2
 have c:∀i n,cnt (bH gs (ks.take i)) n<=16:=λi n=>Px (wR Q (hk.take i) n) (by rw[Qs];omega)
 have o:∀i,NB 1041 (lH gs (ks.take i)):=λi=>(Gq λk v=>(Q _ (gM (hk.take i k v).1 (hk.take i k v).2).2).x).mono (by rw[Qs];omega)
 refine Wp.df (Wp.st (fL (bw rfl rfl) rfl) (Wp.st rfl ?_))
 refine Wp.sq (Wp.fr (λi Z=>∃ns x4 x5 x6,Z=Ae gs ks (lH gs (ks.take i)) (aF ns λn=>nm (bb (bH gs (ks.take i)) n)) x4 x5 x6 .un/\Dc ns (bH gs (ks.take i))/\np x4=true/\np x5=true/\np x6=true) rfl ⟨[],.un,.un,.un,rfl,⟨.nil,λn=>by simp[bH]⟩,rfl,rfl,rfl⟩ ?_ ?_)
 .rintro i a Z ha ⟨ns,x4,x5,x6,rfl,hd,h4,h5,w⟩
  rw[Pq] at ha
  cases X:ks[i]? with
  |none=>rw[X] at ha;cases ha
  |some k=>
   rw[X] at ha;cases ha;have z:=PJ X;obtain⟨J,l⟩:=gM (hk k z).1 (hk k z).2;have es:ks.take (i+1)=ks.take i++[k]:=by rw[QK,X];rfl
   refine⟨Ae gs ks (lH gs (ks.take i)) (aF ns λn=>nm (bb (bH gs (ks.take i)) n)) (.fr (.int k)) x5 x6 .un,by cases x4<;>first|(cases h4;done)|rfl,?_⟩;refine Wp.st (U:=Ae gs ks (lH gs (ks.take (i+1))) (aF ns λn=>nm (bb (bH gs (ks.take i)) n)) (.fr (.int k)) x5 x6 .un) ?_ ?_
   .rw[es,iI];exact fL (au (ah rfl (ah (ag (ag (ag rfl rfl (aM (.inl rfl) J)) rfl (aM (.inr rfl) rfl)) rfl (aM (.inr rfl) rfl)) rfl)) (bg (sT (o i) (Q _ l).x (by omega)) _)) rfl
   .refine(Fd (x':=(qo gs k).x) hd (q i) (c i) (S i) (Q _ l) F (hk k z).1 (hk k z).2 rfl h5 w).mono ?_;rintro f Z ⟨rfl,D,P,y,rfl,E,h5,F⟩;rw[<-i8,<-es] at E ⊢;exact⟨.inl rfl,D,_,_,_,rfl,E,rfl,h5,F⟩
 .rintro O ⟨ns,x4,x5,x6,rfl,hd,h4,h5,w⟩
  have q:=q ks.length
  have S:=S ks.length
  rw[O5,QC] at hd ⊢
  rw[QC] at q S
  have H:=hd.len S
  have sl:(aV ns).length<=6:=by rw[(aW _).length_eq];omega
  have C:∀s∈aV ns,∀{d:Rr}{Z:List Sl},res Z d=some (.dic (aF ns λn=>nm (bb (bH gs ks) n)))->cZ (bI lP cX) d (.fr (.str s)) Z=some (.ok (.fr (nm (bb (bH gs ks) s))),Z):=λs N d Z h=>by
   unfold cZ;rw[h];show (match bI lP cX (.dic (aF ns λn=>nm (bb (bH gs ks) n))) (.str s) with|some r=>some ((.ok r:Except Str Rr),Z)|none=>none)=_;have:bI lP cX (.dic (aF ns λn=>nm (bb (bH gs ks) n))) (.str s)=some (.fr (nm (bb (bH gs ks) s))):=by unfold bI lP cX;dsimp only [fO];rw[iN,if_pos ((aW ns).mem_iff.mp N)]
   rw[this]
  have k:=m8 (I:=Ae gs ks (lH gs ks) (aF ns λn=>nm (bb (bH gs ks) n)) x4 x5 x6 .un) (t:=aq (av dA (mix (mix (ae 3) (ae 8)) (ax 0)) (ax 0))) (e:=aU (aP (ae 8) (mix (ae 3) (ae 8))))
   A.str (λs=>eC (s,bb (bH gs ks) s)) (nz (bH gs ks)) rfl (by omega:(aV ns).length<=100000) (λs N=>⟨aG (ag (ag (ag rfl rfl (C s N rfl)) rfl (aM (.inr rfl) rfl)) rfl (by unfold nz;rw[<-MT (nO (λp hp=>(q p hp).ok) s)];exact kU rfl _)),λ_=>⟨.fr (eC (s,bb (bH gs ks) s)),bw (ah rfl (ah (ag rfl rfl (C s N rfl)) rfl)) rfl,rfl⟩⟩)
  have l:((aV ns).filter (nz (bH gs ks))).map (λs=>eC (s,bb (bH gs ks) s))=(eI (bH gs ks) (aV ns)).map eC:=by unfold eI;rw[Qe];rfl
  rw[l] at k
  have sq:da (cV (oV aX a9) (ae 3)) (Ae gs ks (lH gs ks) (aF ns λn=>nm (bb (bH gs ks) n)) x4 x5 x6 .un)=some (.ok ((aV ns).map A.str),Ae gs ks (lH gs ks) (aF ns λn=>nm (bb (bH gs ks) n)) x4 x5 x6 .un):=by
   have J:oV aX a9 (.dic (aF ns λn=>nm (bb (bH gs ks) n)))=some (.nw (.lst ((aV ns).map A.str))):=by unfold oV aX a9;dsimp only;rw[jn];dsimp only;rw[if_pos (by omega)]
   exact g8 (dE rfl (pV rfl J)) rfl
  exact⟨rfl,Wp.st (fL (cH sq k) rfl) (Wp.en (aT (bw (ah rfl (ah (dE rfl rfl) rfl)) rfl) rfl) ⟨eI (bH gs ks) (aV ns),rfl,oS hd.nd hd.mem⟩)⟩
theorem v_is(x:Num):Val gp [nm x,nm x] (.bl true):=by
 have J:∀Z,cZ dA (.fr (.int 2)) (.fr (.int 2)) Z=some (.ok (.fr (.bl false)),Z):=λZ=>by simp only[cZ,res,dA,iB,decide_true,RX]
 have l:∀Z,cZ dA (.fr (nm x)) (.fr (nm x)) Z=some (.ok (.fr (.bl false)),Z):=λZ=>by simp only[cZ,res,dA,An,RX]
 exact Val.of (Wp.df (Wp.st (fo (i9 (kb (b:=true) rfl) (i9 (aG (ag rfl rfl (J _))) (aG (ag rfl rfl (l _))))) rfl) (Wp.en rfl rfl)))
theorem pP:∀L:List Pr,cx (L.map eC)=some (L.map λp=>.tup [.str p.1,.tup [.int p.2.1,.int p.2.2]])
 |[]=>by simp[cx]
 |p::L=>by rw[Pg,cx,pP L];simp[eC,nm,toD,cx]
theorem AF(x:Num)(L:List Pr):toD (bL x L)=some (.tup [.tup [.int x.1,.int x.2],.tup (L.map λp=>.tup [.str p.1,.tup [.int p.2.1,.int p.2.2]])]):=by unfold bL;simp[toD,cx,pP,nm]
theorem kf:∀L:List Pr,D.bX (L.map λp=>.tup [.str p.1,.tup [.int p.2.1,.int p.2.2]])<=5
 |[]=>by simp[D.bX]
 |p::L=>by rw[Pg];have:=kf L;simp[D.bX,D.depth];omega
theorem BN(x:Num)(L:List Pr):lL (bL x L) (bL x L)=some true:=by unfold lL;simp only[AF,D.ip];rw[if_pos ?_];have:=kf L;simp[D.bX,D.depth];omega
theorem yV(l:List α)(Z:List Sl):cZ (bI (DF true) (gu true)) (.fr (.bl false)) (.nw (.lst (l.map λ_=>A.bl true))) Z=some (.ok (.fr (.bl true)),Z):=by
 have e:fP true (.bl false) (.lst (l.map λ_=>A.bl true))=some (.fr (.bl true)):=by
  show IS true (.bl false) (l.map λ_=>A.bl true)=_;unfold IS;have f:(lW (.bl false)&&(l.map λ_=>A.bl true).all lW)=true:=by rw[O3,PZ];refine⟨rfl,λa ha=>?_⟩;obtain⟨y,_,rfl⟩:=PN.mp ha;rfl
  have e:IM (lF (.bl false)) ((l.map λ_=>A.bl true).map lF)=false:=by unfold IM;rw[Qe,List.any_map,RP];intro _ _;exact(show ¬ (Bg (lF (.bl true)) (lF (.bl false))=true) by decide)
  rw[if_pos f,e];rfl
 unfold cZ DF bI;dsimp only [res,LO.a];rw[e]
theorem yw(x:Num)(hl:L.length<=100):Val dO [bL x L,bL x L] (.bl true):=by
 have J:∀Z,cZ dA (.fr (.int 2)) (.fr (.int 2)) Z=some (.ok (.fr (.bl false)),Z):=λZ=>by simp only[cZ,res,dA,iB,decide_true,RX]
 have l:∀Z,cZ dA (.fr (bL x L)) (.fr (bL x L)) Z=some (.ok (.fr (.bl false)),Z):=λZ=>by simp only[cZ,res,dA,BN,RX]
 have k:=gi (ts:=L) (I:=[.fr (bL x L),.fr (bL x L)]) (e:=kj (cV (kM Ty.tuple) (ae 2)) (bJ gp (aP (mix (ae 2) (ax 1)) (mix (ae 2) (ax 1))))) eC (λ_=>.bl true) rfl (by omega) (λp _=>⟨.fr (.bl true),by have t:aq (cV (kM Ty.tuple) (ae 2)) ([.fr (bL x L),.fr (bL x L)]++[.fr (eC p)])=some (.ok true,[.fr (bL x L),.fr (bL x L)]++[.fr (eC p)]):=rfl;rw[FX,t];exact au (ah (ag rfl rfl rfl) (ah (ag rfl rfl rfl) rfl)) (bg (v_is p.2) _),rfl⟩)
 exact Val.of (Wp.df (Wp.st (fo (i9 (kb (b:=true) rfl) (i9 (aG (ag rfl rfl (J _))) (kb (b:=true) (aG (au (ah (ag rfl rfl rfl) (ah (ag rfl rfl rfl) rfl)) (bg (v_is x) _)))))) rfl)
  (Wp.st (fo (i9 (kb (b:=true) (aG (dE (ag rfl rfl rfl) rfl))) (aG (ag rfl rfl (l _)))) rfl) (Wp.en (aT (ag rfl (cH (g8 (ag rfl rfl (aM (.inr rfl) rfl)) rfl) k) (yV L _)) rfl) rfl))))
theorem gN{as:List A}(h:m Z=some (.ok r,U))(k:iq r U=some (.ok as,Z0)):dG m Z=some (.ok as,Z0):=bk h k
variable{z:Str}
theorem vS(h:res Z x=some (.str z))(l:z.length<=100000)(e:gr z.cps.toList i=some c):cZ (bI lP cX) x (.fr (.int i)) Z=some (.ok (.fr (.str ⟨#[c]⟩)),Z):=by have k:lP (.str z) (.int i)=some (.fr (.str ⟨#[c]⟩)):=(if_pos l).trans (by rw[e]);refine fu (o:=none) h rfl ?_;unfold bI;rw[k]
variable{mo:Mi Rr}
theorem LQ{F:Str->A->Option Rr}{a:A}(h:mo Z=some (.ok (.fr (.str z)),I))(k:m I=some (.ok y,U))(e:res U y=some a)(f:F z a=some r):IH F mo m Z=some (.ok r,U):=by refine bk h (bk k ?_);rw[e];dsimp only;rw[f]
variable{ml mh:Mi (Option Int)}{lo hi:Option Int}
theorem DY(h:m Z=some (.ok x,Z))(l:ml Z=some (.ok lo,Z))(u:mh Z=some (.ok hi,Z))(e:res Z x=some (.str z))(hz:z.length<=100000):pF m ml mh Z=some (.ok (.fr (.str (Sj z lo hi))),Z):=by have k:L6 (.str z) lo hi=some (.fr (.str (Sj z lo hi))):=if_pos hz;refine bk h (bk l (bk u ?_));rw[e];dsimp only;rw[k]
theorem nW(h:m Z=some (.ok (.fr (.int i)),Z)):bZ m Z=some (.ok (some i),Z):=by unfold bZ aB;rw[h];rfl
theorem Cj{x y:Str}(h:x.length+y.length<=100000)(Z:List Sl):cZ aK (.fr (.str x)) (.fr (.str y)) Z=some (.ok (.fr (.str (x++y))),Z):=by have k:pL (.str x) (.str y)=some (.fr (.str (x++y))):=if_pos h;refine fu (o:=none) rfl rfl ?_;unfold aK bI;rw[show qv (.str x) (.str y)=none from rfl];dsimp only;rw[k]
theorem vF(ss:List Str):(Qk ⟨#[]⟩ ss).cps.toList=ss.flatMap (λs=>s.cps.toList):=by
 unfold Qk;cases ss with
 |nil=>rfl
 |cons a r=>
  show (r.foldl (λacc p=>acc++#[]++p.cps) a.cps).toList=_;rw[Vb];have:∀(acc:Array Nat),(r.foldl (λacc p=>acc++#[]++p.cps) acc).toList=acc.toList++r.flatMap (λs=>s.cps.toList):=by
   induction r with
   |nil=>intro acc;simp
   |cons p r m=>intro acc;rw[Th,m];simp
  exact this _
theorem Bx(x y:Str):(x++y).length=x.length+y.length:=by show (x.cps++y.cps).size=x.cps.size+y.cps.size;simp
theorem CF(x:Str):x.length=x.cps.toList.length:=by rw[P9];rfl
theorem Lz{n:Int}(w:Wl n o)(hn:n<2^38):X3 λ(a b:Int)(o':LO)=>N4 (cN fe o [] (.fr (.tup [.int a,.int b])) o') (1<=a/\a<=6) (0<=b/\b<=16) (Wl (n+3) o'):=by
 obtain⟨r,O,g,Y,b1,K⟩:=tk 8 w (by omega) (by decide) (by decide);obtain⟨p,k,C,U,b2,E⟩:=tk 4 K (by omega) (by decide) (by decide)
 suffices ∃s o',cN fe o [] s o'/\X2 λ(a b:Int)=>N4 (s=.fr (.tup [.int a,.int b])) (1<=a/\a<=6) (0<=b/\b<=16) (Wl (n+3) o') by obtain⟨s,o',v,x,y,rfl,h1,h2,h3⟩:=this;exact⟨x,y,o',v,h1,h2,h3⟩
 have u:∀b,decide (r=1)=b->∀Z,aq (av iU (bJ ai (aP (ae 0) (ax 8))) (ax 1)) (.pv o::Z)=some (.ok b,.pv O::Z):=λb d Z=>aG (ag (au rfl (g _)) rfl (nF d _));refine cN.of (Wp.df ?_);by_cases h:r=1
 .obtain⟨q,F,e,f,I,S⟩:=tk 8 E (by omega) (by decide) (by decide);exact Wp.sr (jD (u true (decide_eq_true h) _) (aT (bw (ah (ag rfl (au rfl (C _)) rfl) (ah (ag rfl (au rfl (e _)) rfl) rfl)) rfl) rfl)) ⟨_,_,_,rfl,rfl,_,_,rfl,by omega,by omega,S.mono (by omega)⟩
 .obtain⟨q,F,e,f,I,S⟩:=tk 9 E (by omega) (by decide) (by decide);exact Wp.st (fo (u false (decide_eq_false h) _) rfl) (Wp.en (aT (bw (ah (ag rfl (au rfl (C _)) rfl) (ah (au rfl (e _)) rfl)) rfl) rfl) ⟨_,_,_,rfl,rfl,_,_,rfl,by omega,by omega,S.mono (by omega)⟩)
noncomputable abbrev qm:Str:= "abcdefghijklmnopqrstuvwxyz"
theorem DQ:qm.cps.toList.length=26:=by decide +kernel
theorem zD:(qm.length<=100000)=True:=by simp only[eq_iff_iff,iff_true];decide +kernel
theorem Ia{r:Int}(J:0<=r)(h1:r<26):∃c,gr qm.cps.toList r=some c:=by
 obtain⟨j,rfl⟩:∃j:Nat,r=j:=⟨r.toNat,by omega⟩
 have V:j<qm.cps.toList.length:=by rw[DQ];omega
 exact⟨_,gk (Pm V)⟩
theorem BB{n:Int}(m:Int)(w:Wl n o)(hn:n<2^38):X2 λ(B:Str)(o':LO)=>N3 (aE 3 (IH hU (mC (.str "")) (bV 1 (dG (ax 8)) (bj 7) bF (mix (ae 2) (bJ ai (aP (ae 0) (ax 26)))))) [.pv o,.fr (.int m),.fr (.str qm),.un,.un,.un,.un]=some (.nx,[.pv o',.fr (.int m),.fr (.str qm),.fr (.str B),.un,.un,.un])) (B.length=8) (Wl (n+8) o'):=by
 obtain⟨ys,O,hc,cs,h,J,l,T,k⟩:=dS (G:=bj 7) (t:=bF) (e:=mix (ae 2) (bJ ai (aP (ae 0) (ax 26)))) (as:=dj 0 8)
  (λi acc Z=>X2 λ(cs:List Nat)(h:LO)=>N4 (acc=(cs.map λc=>(⟨#[c]⟩:Str)).map A.str) (cs.length=i) (∃x,Z=[.pv h,.fr (.int m),.fr (.str qm),.un,.un,.un,.un,x]/\∀q,x≠Sl.pv q) (Wl (n+i) h))
  ⟨[],o,rfl,rfl,⟨.un,rfl,λq z=>by cases z⟩,w.mono (by simp)⟩ (by
   rintro i a acc Z ha ⟨cs,h,rfl,X,⟨x,rfl,L⟩,k⟩;have hi:i<8:=by have:=(O6.mp ha).1;simpa[dj] using this
   obtain⟨Q,F,g,b,f,S⟩:=tk 26 k (by omega) (by decide) (by decide);obtain⟨ch,D⟩:=Ia b f;refine⟨[.pv h,.fr (.int m),.fr (.str qm),.un,.un,.un,.un,.fr a],?_,.inl ⟨_,.fr (.str ⟨#[ch]⟩),[.pv F,.fr (.int m),.fr (.str qm),.un,.un,.un,.un,.fr a],.str ⟨#[ch]⟩,_,rfl,?_,rfl,cs++[ch],F,?_,?_,⟨.fr a,rfl,λq z=>by cases z⟩,S.mono (by omega)⟩⟩
   .cases x with
    |pv q=>exact absurd rfl (L q)
    |_=>rfl
   .exact ag rfl (au rfl (g _)) (vS rfl (of_eq_true zD) D)
   .rw[Pp,Pp];rfl
   .rw[Pk,X];rfl)
 obtain⟨x,T,_⟩:=T;subst J T;have v:(dj 0 8).length=8:=by simp[dj]
 rw[v] at l k;have fl:(cs.map λc=>(⟨#[c]⟩:Str)).flatMap (λs=>s.cps.toList)=cs:=by
  rw[List.flatMap_map];induction cs with
  |nil=>rfl
  |cons c cs U=>rw[Vb];simp
 have gl:=vF (cs.map λc=>(⟨#[c]⟩:Str));rw[fl] at gl;refine⟨Qk ⟨#[]⟩ (cs.map λc=>(⟨#[c]⟩:Str)),h,?_,by rw[CF,gl];exact l,k.mono (by simp)⟩;have E:gS (cs.map λc=>(⟨#[c]⟩:Str))=8:=by unfold gS;rw[Qe];have:(WI∘λc=>(⟨#[c]⟩:Str))=λ_=>1:=rfl;rw[this,List.map_const',List.sum_replicate_nat,l]
 have P:hU "" (.lst ((cs.map λc=>(⟨#[c]⟩:Str)).map A.str))=some (.fr (.str (Qk ⟨#[]⟩ (cs.map λc=>(⟨#[c]⟩:Str))))):=by show hU ⟨#[]⟩ _=_;unfold hU;simp only[ql];rw[if_pos (by rw[E];show 8+_*0<=100000;omega)]
 have H:fG 1 (bj 7) bF (mix (ae 2) (bJ ai (aP (ae 0) (ax 26)))) (dj 0 8) [.pv o,.fr (.int m),.fr (.str qm),.un,.un,.un,.un]=some (.ok (.nw (.lst ((cs.map λc=>(⟨#[c]⟩:Str)).map A.str))),[.pv h,.fr (.int m),.fr (.str qm),.un,.un,.un,.un]):=by unfold fG;rw[if_pos (by rw[v];decide)];show (match bY (bj 7) bF (mix (ae 2) (bJ ai (aP (ae 0) (ax 26)))) (dj 0 8) [] [.pv o,.fr (.int m),.fr (.str qm),.un,.un,.un,.un,.un] with|some (ys,O)=>some ((Rb (Rr.nw (.lst ys)):Except Str Rr),O.take 7)|none=>none)=_;rw[hc];rfl
 exact bq (LQ rfl (cH (gN rfl rfl) H) rfl P) rfl rfl rfl rfl
theorem A5{n:Int}(w:Wl n o)(hn:n<2^37):X2 λ(ss:List Str)(o':LO)=>N3 (cN eN o [.int 6] (.lv (.lst (ss.map A.str))) o') (ss.length=6) (Wl (n+11) o'):=by
 obtain⟨B,H,m,U,K⟩:=BB 6 w (by omega);obtain⟨a,C,q,E,F,z⟩:=tk 8 K (by omega) (by decide) (by decide);obtain⟨V,P,c,p,S,g⟩:=tk (1+a) z (by omega) (by omega) (by omega);obtain⟨x,t,O,r,D,X⟩:=tk 26 g (by omega) (by decide) (by decide);have h:B.length<=100000:=by omega
 let ch:Nat->Nat:=λk=>qm.cps.toList.getD ((x+3*(k:Int)).fmod 26).toNat 0
 let f:Nat->Str:=λk=>Sj B none (some V)++⟨#[ch k]⟩++Sj B (some (V+1)) (some (1+a))
 have k:=gi (i:=7) (ts:=Py 6) (e:=av aK (av aK (pF (ae 3) bR (bZ (ae 5))) (mix (ae 2) (av gx (av aK (ae 6) (av dh (ax 3) (ae 7))) (ax 26)))) (pF (ae 3) (bZ (av aK (ae 5) (ax 1))) (bZ (ae 4)))) (I:=[.pv t,.fr (.int 6),.fr (.str qm),.fr (.str B),.fr (.int (1+a)),.fr (.int V),.fr (.int x)]) (λk=>.int (0+(k:Nat))) (λk=>.str (f k)) rfl (by simp) (by
  intro k hk;have hk:=Qu.mp hk;have T:=To (x+3*(k:Int)) (b:=26) (by decide);have R:=Va (x+3*(k:Int)) (b:=26) (by decide);have em:(x+3*(k:Int)).fmod 26=(x+3*(k:Int))%26:=TR _ (by decide);have ea:gr qm.cps.toList ((x+3*(0+(k:Int))).fmod 26)=some (ch k):=by
   rw[Int.zero_add];show gr _ _=some (qm.cps.toList.getD ((x+3*(k:Int)).fmod 26).toNat 0);rw[em];obtain⟨j,Y⟩:∃j:Nat,(x+3*(k:Int))%26=j:=⟨((x+3*(k:Int))%26).toNat,by omega⟩
   rw[Y,Qq];have Z:j<qm.cps.toList.length:=by rw[DQ];omega
   exact gk (by rw[PQ,Pm Z];rfl)
  have Q:=Ut B none (some V);have u:=Ut B (some (V+1)) (some (1+a));have e:(⟨#[ch k]⟩:Str).length=1:=rfl;refine⟨.fr (.str (f k)),?_,rfl⟩;exact ag (ag (DY rfl rfl (nW rfl) rfl h) (ag rfl (ag (ag rfl (ag rfl rfl (vK (yy (by decide)) (yy (by omega)) _)) rfl) rfl (gT (by decide) _)) (vS rfl (of_eq_true zD) ea)) (Cj (by omega) _)) (DY rfl (nW rfl) (nW rfl) rfl h) (Cj (by rw[Bx];omega) _))
 suffices ∃s o',cN eN o [.int 6] s o'/\∃ss:List Str,N3 (s=.lv (.lst (ss.map A.str))) (ss.length=6) (Wl (n+11) o') by obtain⟨s,o',v,ss,rfl,h1,h2⟩:=this;exact⟨ss,o',v,h1,h2⟩
 have y:(Py 6).map (λk=>A.str (f k))=((Py 6).map f).map A.str:=by rw[Qe];rfl
 rw[y] at k;exact cN.of (Wp.df (Wp.st rfl (Wp.st m (Wp.st (bq (ag rfl (au rfl (q _)) rfl) rfl rfl rfl rfl) (Wp.st (bq (au rfl (c _)) rfl rfl rfl rfl) (Wp.st (bq (au rfl (O _)) rfl rfl rfl rfl) (Wp.en (aT (cH (gN rfl rfl) k) rfl) ⟨_,_,_,rfl,rfl,_,rfl,by simp,X.mono (by omega)⟩)))))))
noncomputable abbrev Nd:=Str×Str
noncomputable def cg(p:Nd):A:=.tup [.str p.1,.str p.2]
theorem six{n:Nat}(J:0<=k)(h1:k<n):seqIndex? k n=some k.toNat:=V4 J h1
theorem sV{α j:Type}(f:α->j):∀(l:List α)(i:Nat),(l.map f).eraseIdx i=(l.eraseIdx i).map f
 |[],_=>rfl
 |a::l,0=>rfl
 |a::l,i+1=>congrArg (f a::·) (sV f l i)
theorem Cw{n:Int}{a:Int}(w:Wl n o)(hn:n<2^36)(h1:1<=a)(B:a<=6):X2 λ(ns:List Nd)(o':LO)=>N3 (cN cY o [.int a] (.lv (.lst (ns.map cg))) o') ((ns.length:Int)=a) (Wl (n+20) o'):=by
 obtain⟨ss,H,c,Y,K⟩:=A5 w (by omega)
 suffices ∃s o',cN cY o [.int a] s o'/\∃ns:List Nd,N3 (s=.lv (.lst (ns.map cg))) ((ns.length:Int)=a) (Wl (n+20) o') by obtain⟨s,o',v,ss,rfl,h1,h2⟩:=this;exact⟨ss,o',v,h1,h2⟩
 refine cN.of (Wp.df (Wp.st rfl (Wp.sq (Wp.fr (as:=ss.map A.str) (λi Z=>X2 λ(L:List Nd)(x3:Sl)=>N3 (Z=[.pv H,.fr (.int a),.lv (.lst (L.map cg)),x3]) (L.length=2*i) (np x3=true)) (g8 (au rfl (GN c rfl _)) rfl) ⟨[],.un,rfl,rfl,rfl⟩ ?_ ?_))))
 .rintro i z Z hz ⟨L,x3,rfl,hl,h3⟩;have P:=(O6.mp hz).1;rw[O5,Y] at P;rw[Pq] at hz;cases X:ss[i]? with
  |none=>rw[X] at hz;cases hz
  |some s=>rw[X] at hz;cases hz;refine⟨[.pv H,.fr (.int a),.lv (.lst (L.map cg)),.fr (.str s)],by cases x3<;>first|(cases h3;done)|rfl,?_⟩;refine Wp.en (U:=[.pv H,.fr (.int a),.lv (.lst ((L++([("x",s),("y",s)]:List Nd)).map cg)),.fr (.str s)]) (nX (r:=.fr .non) (wN rfl rfl ?_)) ⟨.inl rfl,_,_,rfl,by rw[Pk,hl];rfl,rfl⟩;rw[Pp];exact if_pos (by rw[O5,hl];show 2*i+2<=_;omega)
 .rintro O ⟨L,x3,rfl,hl,h3⟩;rw[O5,Y] at hl;refine⟨rfl,?_⟩;obtain⟨m,rfl⟩:∃m:Nat,a=m:=⟨a.toNat,by omega⟩
  obtain⟨ys,O,hc,ns,M,h,J,l,D,V,k⟩:=dS (G:=bj 4) (t:=bF) (e:=fR 2 (bJ ai (aP (ae 0) (cV dJ (ae 2))))) (as:=dj 0 m) (Z:=[.pv H,.fr (.int m),.lv (.lst (L.map cg)),x3,.un])
   (λi acc Z=>X3 λ(ns M:List Nd)(h:LO)=>N6 (acc=ns.map cg) (ns.length=i) (M.length+i=12) (∃x,Z=[.pv h,.fr (.int m),.lv (.lst (M.map cg)),x3,x]/\∀q,x≠Sl.pv q) (Wl (n+11+i) h) True)
   ⟨[],L,H,rfl,rfl,hl,⟨.un,rfl,λq z=>by cases z⟩,K.mono (by simp),trivial⟩ (by
    rintro i z acc Z ha ⟨ns,M,h,rfl,X,em,⟨x,rfl,C⟩,k,-⟩;have hi:i<m:=by have:=(O6.mp ha).1;simpa[dj] using this
    obtain⟨Q,F,g,b,f,S⟩:=tk (M.length:Int) k (by omega) (by omega) (by omega);have y:Q.toNat<M.length:=by omega
    have T:dJ (.lst (M.map cg))=some (.fr (.int (M.length:Int))):=by show some (Rr.fr (.int ((M.map cg).length:Int)))=_;rw[O5]
    refine⟨[.pv h,.fr (.int m),.lv (.lst (M.map cg)),x3,.fr z],?_,.inl ⟨_,.fr (cg M[Q.toNat]),[.pv F,.fr (.int m),.lv (.lst ((M.eraseIdx Q.toNat).map cg)),x3,.fr z],cg M[Q.toNat],_,rfl,?_,rfl,ns++[M[Q.toNat]],M.eraseIdx Q.toNat,F,?_,?_,?_,⟨.fr z,rfl,λq z=>by cases z⟩,S.mono (by omega),trivial⟩⟩
    .cases x with
     |pv q=>exact absurd rfl (C q)
     |_=>rfl
    .have R:bJ ai (aP (ae 0) (cV dJ (ae 2))) [.pv h,.fr (.int m),.lv (.lst (M.map cg)),x3,.fr z]=some (.ok (.fr (.int Q)),[.pv F,.fr (.int m),.lv (.lst (M.map cg)),x3,.fr z]):=au (ah rfl (ah (dE rfl (pV rfl T)) rfl)) (g _);unfold fR fq;rw[if_pos (show D8 _ 2=true from rfl)];refine bk R ?_;show (if -(2^60)<=Q/\Q<2^60 then (match seqIndex? Q (M.map cg).length with|some j=>(match (M.map cg)[j]? with|some a=>some ((Rb (Rr.fr a):Except Str Rr),[Sl.pv F,.fr (.int m),.lv (.lst ((M.map cg).eraseIdx j)),x3,.fr z])|none=>none)|none=>none) else none)=_;rw[if_pos (by omega),O5,six b f];dsimp only;rw[Pq,Pm y,sV];rfl
    .rw[Pp];rfl
    .rw[Pk,X];rfl
    .rw[List.length_eraseIdx_of_lt y];omega)
  obtain⟨x,V,_⟩:=V;subst J V;rw[ou] at l k;have E:∀Z,iq (.fr (.int (m:Int))) Z=some (.ok (dj 0 m),Z):=λZ=>by unfold iq;dsimp only [res];rw[if_pos (by omega),Qq]
  have p:fG 1 (bj 4) bF (fR 2 (bJ ai (aP (ae 0) (cV dJ (ae 2))))) (dj 0 m) [.pv H,.fr (.int m),.lv (.lst (L.map cg)),x3]=some (.ok (.nw (.lst (ns.map cg))),[.pv h,.fr (.int m),.lv (.lst (M.map cg)),x3]):=by unfold fG;rw[if_pos (by rw[ou];omega)];show (match bY (bj 4) bF (fR 2 (bJ ai (aP (ae 0) (cV dJ (ae 2))))) (dj 0 m) [] [.pv H,.fr (.int m),.lv (.lst (L.map cg)),x3,.un] with|some (ys,O)=>some ((Rb (Rr.nw (.lst ys)):Except Str Rr),O.take 4)|none=>none)=_;rw[hc];rfl
  exact Wp.en (aT (cH (gN rfl (E _)) p) rfl) ⟨_,_,_,rfl,rfl,ns,rfl,by omega,k.mono (by omega)⟩
theorem Dg{F:List Mk}(g:Mk->A)(hl:F.length<=1000)(n:∀p x y,np x=true->np y=true->G (eC p) (I++[x,y])=some (I++[.fr (.str p.1),.fr (nm p.2)]))
  (h:∀p∈F,∃r,e (I++[.fr (.str p.1),.fr (nm p.2)])=some (.ok r,I++[.fr (.str p.1),.fr (nm p.2)])/\aS r (I++[.fr (.str p.1),.fr (nm p.2)])=some (g p,I++[.fr (.str p.1),.fr (nm p.2)])):
  fG 2 G bF e (F.map eC) I=some (.ok (.nw (.lst (F.map g))),I):=by
 obtain⟨ys,O,h1,x,y,rfl,_,_,rfl⟩:=dS (t:=bF) (as:=F.map eC)
  (λj acc Z=>X2 λ(x y:Sl)=>N4 (Z=I++[x,y]) (np x=true) (np y=true) (acc=(F.take j).map g)) ⟨.un,.un,rfl,rfl,rfl,rfl⟩ (by
   rintro j q acc Z B ⟨x,y,rfl,L,m,rfl⟩;rw[Pq] at B;cases X:F[j]? with
   |none=>rw[X] at B;cases B
   | some p=>rw[X] at B;cases B;obtain⟨r,k1,k2⟩:=h p (PJ X);refine⟨_,n p x y L m,.inl ⟨_,r,_,g p,_,rfl,k1,k2,_,_,rfl,rfl,rfl,?_⟩⟩;rw[QK,X,Pp];rfl)
 unfold fG;rw[if_pos (by rw[O5];omega)];have J:I++PB 2 Sl.un=I++[.un,.un]:=rfl;rw[J,h1];simp
variable{Z1:List Sl}
theorem lu{a:A}(h:m Z=some (.ok x,U))(l:ml U=some (.ok lo,Z0))(u:mh Z0=some (.ok hi,Z1))(e:res Z1 x=some a)(f:L6 a lo hi=some r):pF m ml mh Z=some (.ok r,Z1):=by refine bk h (bk l (bk u ?_));rw[e];dsimp only;rw[f]
theorem fX(h:m Z=some (.ok (.fr (.int i)),U)):bZ m Z=some (.ok (some i),U):=by unfold bZ aB;rw[h];rfl
theorem Hj{r:Option (Fl×List Sl)}(h:m Z=some (.ok x,U))(k:KO G x U=r):qT m G Z=r:=by rw[JO,h];exact k
theorem jJ(f:α->A)(xs:List α)(k:Nat):jF (xs.map f) none (some (k:Int))=(xs.take (min k xs.length)).map f:=by unfold jF;rw[O5,HT.oO,HT.tu,Vz,Uv,List.map_take]
theorem pA{xs:List A}(h:qq 39 xs):lL (.lst xs) (.lst [])=some (decide (xs=[])):=by
 obtain⟨ds,h1,h2⟩:=h;unfold lL;simp only[toD,h1,cx];rw[if_pos (by rw[D.depth];omega)];cases xs with
 |nil=>rw[cx] at h1;cases h1;simp[D.eq,D.eqs]
 |cons a xs=>
  cases ds with
  |nil=>
   rw[cx] at h1;cases J:toD a with
   |none=>simp only[J] at h1;cases h1
   |some d=>cases l:cx xs with
    |none=>simp only[J,l] at h1;cases h1
    |some ds=>simp only[J,l] at h1;cases h1
  |cons d ds=>simp[D.eq,D.eqs]
theorem Dv(p:Nd):Dt 5 (cg p):=Dt.tup (.cons (.str _) (.cons (.str _) .nil))
theorem Ff(x:Num)(L:List Pr):Dt 5 (bL x L):=Dt.tup (.cons (Dt.nm x) (.cons (Dt.tup (qq.of λa ha=>by obtain⟨p,_,rfl⟩:=PN.mp ha;exact Dt.tup (.cons (.str _) (.cons (Dt.nm _) .nil)))) .nil))
structure Gd(ns:List Nd)(ss:List Str)(g:Gp):Prop where
 u:∃p∈ns,g.u=cg p
 v:∃p∈ns,g.v=cg p
 s:Sm 64 6 ss g.x g.M
variable{ns:List Nd}
theorem p4(h:∀g∈gs,Gd ns ss g):qq 39 (gs.map aN):=qq.of λa ha=>by obtain⟨g,Q,rfl⟩:=PN.mp ha;obtain⟨⟨p,_,J⟩,⟨q,_,l⟩,-⟩:=h g Q;obtain⟨o,h1,k1⟩:=Dv p;obtain⟨z,h2,k2⟩:=Dv q;obtain⟨r,h3,k3⟩:=Ff g.x g.M;unfold aN;rw[J,l];exact Dt.tup (n:=38) (.cons ⟨o,h1,by omega⟩ (.cons ⟨z,h2,by omega⟩ (.cons ⟨r,h3,by omega⟩ .nil)))
theorem Sm.OO{x:Num}{F:List Pr}(L:NB 64 x)(hf:Fc F)(hm:∀p∈F,p.1∈ss)(q:ss.length<=6):Sm 64 6 ss x F:=by
 have r:F.Pairwise (λa b=>vA a.1 b.1):=by have:=rising (fJ (F.map (·.1))) (by rw[<-hf.st];exact hf.fc.nd);rw[<-hf.st,Q3] at this;exact this
 exact⟨L,r,hf.fc.nb,λp hp e=>hf.nz p hp (by rw[e]),Px (ie r hm) q,hm⟩
noncomputable def DG(x:Num):Num:=(0-x.1,x.2)
def IL(p:Pr):Pr:=(p.1,DG p.2)
theorem NB.DG{n:Nat}{x:Num}(h:NB n x):NB n (DG x):=by unfold W.DG;rw[S4];exact h.neg
theorem Sm.neg{x:Num}(h:Sm 64 6 ss x L):Sm 64 6 ss (DG x) (L.map IL):=by
 refine⟨h.x.DG,by rw[Q3];exact h.rise,λp hp=>?_,λp hp=>?_,by rw[O5];exact h.len,λp hp=>?_⟩<;>obtain⟨q,B,rfl⟩:=PN.mp hp
 .exact(h.nb q B).DG
 .intro e;have e:(0-q.2.1,q.2.2)=((0:Int),(1:Int)):=e;have h1:=congrArg Prod.fst e;have h2:=congrArg Prod.snd e;simp only at h1 h2;exact h.nz q B (UE (by show q.2.1=0;omega) h2)
 .exact h.nms q B
abbrev tJ(o:LO)(k:Sl)(a b:Int)(ns:List Nd)(gs:List Gp)(x6 x7:Sl):List Sl:=[.pv o,k,.fr (.int a),.fr (.int b),.lv (.lst (ns.map cg)),.lv (.lst (gs.map aN)),x6,x7]
noncomputable abbrev IE:List Str:=["a", "b.c", "b.ca", "d7", "e.f.g", "zz"]
theorem Ji:IE.Nodup:=by decide +kernel
theorem J8:∀s∈IE,s.length<=30:=by decide +kernel
theorem DE{r:Int}(J:0<=r)(h1:r<(ns.length:Int)):∃p∈ns,gr (ns.map cg) r=some (cg p):=by
 obtain⟨j,rfl⟩:∃j:Nat,r=j:=⟨r.toNat,by omega⟩
 have V:j<ns.length:=by omega
 exact⟨ns[j],QD V,gk (by rw[Pq,Pm V];rfl)⟩
abbrev OS:Mi Bool:=qc (aq (av dA (ae 5) (d0 fk))) (aq (av iU (bJ ai (aP (ae 0) (ax 4))) (ax 1)))
abbrev NS:Ms:=aA (aE 7 (mix (mix (ae 5) (vi lI (ax 1))) (ax 2))) (aE 7 (aU (aP (aU (aP (av gP (ax 0) (mix (mix (ae 7) (ax 0)) (ax 0))) (mix (mix (ae 7) (ax 0)) (ax 1)))) (cV gR (bV 2 (da (mix (ae 7) (ax 1))) (G2 8 9) bF (aU (aP (ae 8) (aU (aP (av gP (ax 0) (mix (ae 9) (ax 0))) (mix (ae 9) (ax 1)))))))))))
abbrev NZ:Ms:=dR (fq 5 (fg 5 (aU (KP (mix (ae 4) (bJ ai (aP (ae 0) (aR 2)))) (mix (ae 4) (bJ ai (aP (ae 0) (aR 2)))) (ae 7)))))
theorem BG:dC=cf 7 (aA (aE 1 (pF (d0 (cz (mC (.str "a")) (cz (mC (.str "b.c")) (M0 (mC (.str "b.ca")) (mC (.str "d7")) (mC (.str "e.f.g")) (mC (.str "zz")))))) bR (bZ (bJ ai (aP (ae 0) (ax 7)))))) (aA (qT (bJ fe (vv (ae 0))) (G2 2 3)) (aA (aE 4 (bJ cY (aP (ae 0) (aR 2)))) (aA (aE 5 (d0 fk)) (aA (gq (dG (av aK (ax 1) (ae 3))) (bj 6) (aA (aE 7 (bJ ff (aP (ae 0) (aR 1)))) (aA (j4 OS NS cp) NZ))) (bM (pF (ae 5) bR (bZ (ax 16))))))))):=rfl
theorem GY{z:Sl}{a:Int}{g:Gp}(c:np x7=true)(hl:g.M.length<=1000):NS (tJ o z a b ns (gs++[g]) x6 x7)=some (.nx,tJ o z a b ns (gs++[g]) x6 (.fr (bL (DG g.x) (g.M.map IL)))):=by
 have k:=Dg (G:=G2 8 9) (F:=g.M) (I:=tJ o z a b ns (gs++[g]) x6 (.fr (bL g.x g.M))) (e:=aU (aP (ae 8) (aU (aP (av gP (ax 0) (mix (ae 9) (ax 0))) (mix (ae 9) (ax 1)))))) (λp=>eC (IL p)) hl
  (λp x y L m=>by cases x<;>first|(cases L;done)|(cases y<;>first|(cases m;done)|rfl))
  (λp hp=>⟨.fr (eC (IL p)),bw (ah rfl (ah (bw (ah (ag rfl (ag rfl rfl (aM (.inr rfl) rfl)) rfl) (ah (ag rfl rfl (aM (.inr rfl) rfl)) rfl)) rfl) rfl)) rfl,rfl⟩)
 have e:g.M.map (λp=>eC (IL p))=(g.M.map IL).map eC:=by rw[Qe];rfl
 rw[e] at k;have la:gr ((gs++[g]).map aN) (-1)=some (aN g):=by rw[Pp];exact pG _ _
 refine dU (bq (U:=tJ o z a b ns (gs++[g]) x6 x7) (ag (ag rfl rfl (aM (.inl rfl) la)) rfl (aM (.inr rfl) rfl)) rfl rfl c rfl) ?_;exact bq (bw (ah (bw (ah (ag rfl (ag (ag rfl rfl (aM (.inr rfl) rfl)) rfl (aM (.inr rfl) rfl)) rfl) (ah (ag (ag rfl rfl (aM (.inr rfl) rfl)) rfl (aM (.inr rfl) rfl)) rfl)) rfl) (ah (dE (cH (g8 (ag rfl rfl (aM (.inr rfl) rfl)) rfl) k) rfl) rfl)) rfl) rfl rfl rfl rfl
theorem Ho{n:Int}(w:Wl n o)(hn:n<2^34):X3 λ(ns:List Nd)(ss:List Str)(gs:List Gp)=>∃o',N6 (cN dC o [] (.lv (.lst (gs.map aN))) o') (ns.length<=6) (ss.length<=6) (gs.length<=16) (∀g∈gs,Gd ns ss g) True:=by
 obtain⟨S,V,l,a1,b1,J⟩:=tk 7 w (by omega) (by decide) (by decide);obtain⟨a,b,o2,v2,ha,d,w2⟩:=Lz J (by omega);obtain⟨ns,R,v3,l3,w3⟩:=Cw w2 (by omega) ha.1 ha.2;obtain⟨S,rfl⟩:∃j:Nat,S=j:=⟨S.toNat,by omega⟩
 obtain⟨m,hm⟩:∃m:Nat,1+b=m:=⟨(1+b).toNat,by omega⟩
 have E:=jJ A.str IE S;generalize X:IE.take (min S IE.length)=ss at E;have t:ss.Sublist IE:=by rw[<-X];exact Rj _ _
 have snd:ss.Nodup:=Ji.sublist t;have Y:ss.length<=6:=t.length_le
 suffices ∃s o',cN dC o [] s o'/\∃gs:List Gp,N3 (s=.lv (.lst (gs.map aN))) (gs.length<=16) (∀g∈gs,Gd ns ss g) by obtain⟨s,o',v,gs,rfl,h1,h2⟩:=this;exact⟨ns,ss,gs,o',v,by omega,Y,h1,h2,trivial⟩
 rw[BG];have er:∀Z,iq (.fr (.int (1+b))) Z=some (.ok (dj 0 m),Z):=λZ=>by unfold iq;dsimp only [res];rw[if_pos (by omega),hm,Qq]
 refine cN.of (Wp.df (Wp.st (U:=[.pv V,.lv (.lst (ss.map A.str)),.un,.un,.un,.un,.un,.un]) (by rw[<-E];exact bq (lu rfl rfl (fX (au rfl (l _))) rfl rfl) rfl rfl rfl rfl) (Wp.st (Hj (au rfl (GN v2 rfl _)) rfl) (Wp.st (bq (au rfl (GN v3 rfl _)) rfl rfl rfl rfl) (Wp.st (U:=tJ R (.lv (.lst (ss.map A.str))) a b ns [] .un .un) rfl ?_)))));refine Wp.sq (Wp.fr (λi Z=>X5 λo' c gs x6 x7=>N6 (Z=tJ o' c a b ns gs x6 x7) (c=.lv (.lst (ss.map A.str))\/c=.fr (.lst (ss.map A.str))) (gs.length=i) (∀g∈gs,Gd ns ss g) (np x6=true/\np x7=true) (Wl (n+24+63*i) o')) (gN (ag rfl rfl rfl) (er _)) ⟨R,_,[],.un,.un,rfl,.inl rfl,rfl,(λg Q=>nomatch Q),⟨rfl,rfl⟩,w3.mono (by omega)⟩ ?_ ?_)
 .rintro i z Z hz ⟨o',c,gs,x6,x7,rfl,H,hl,Q,⟨B,D⟩,T⟩;obtain⟨hi,rfl⟩:=yd hz;refine⟨tJ o' c a b ns gs (.fr (.int i)) x7,by cases x6<;>first|(cases B;done)|rfl,?_⟩;obtain⟨x,F,y,v4,nx,fs,_,fm,u⟩:=Gh T (by omega) snd (by omega) λs hs=>J8 s (t.subset hs);have sm:=Sm.OO nx fs fm Y;refine Wp.st (U:=tJ y (.fr (.lst (ss.map A.str))) a b ns gs (.fr (.int i)) (.fr (bL x F))) (by rcases H with rfl|rfl<;>exact bq (au (ah rfl (ah rfl rfl)) (GN v4 rfl _)) rfl rfl D rfl) ?_;have fin:∀C x L,Sm 64 6 ss x L->Wl (n+24+63*i+61) C->Wp NZ (tJ C (.fr (.lst (ss.map A.str))) a b ns gs (.fr (.int i)) (.fr (bL x L))) λf Z0=>(f=.nx\/f=.ct)/\X5 λo' c gs x6 x7=>N6 (Z0=tJ o' c a b ns gs x6 x7) (c=.lv (.lst (ss.map A.str))\/c=.fr (.lst (ss.map A.str))) (gs.length=i+1) (∀g∈gs,Gd ns ss g) (np x6=true/\np x7=true) (Wl (n+24+63*(i+1:Nat)) o'):=by
   intro C x L sm P;obtain⟨r6,o6,c6,a6,b6,w6⟩:=tk a P (by omega) (by omega) (by omega);obtain⟨r7,o7,c7,a7,b7,w7⟩:=tk a w6 (by omega) (by omega) (by omega);obtain⟨p,hp,ep⟩:=DE (ns:=ns) a6 (by omega);obtain⟨q,hq,eq⟩:=DE (ns:=ns) a7 (by omega);refine Wp.en (wg (a:=aN ⟨cg p,cg q,x,L⟩) (xs:=gs.map aN) rfl (bw (ah (ag rfl (au rfl (c6 _)) (aM (.inl rfl) ep)) (ah (ag rfl (au rfl (c7 _)) (aM (.inl rfl) eq)) rfl)) rfl) rfl rfl (by rw[O5];omega) rfl) ⟨.inl rfl,o7,_,gs++[⟨cg p,cg q,x,L⟩],_,_,by unfold tJ;rw[Pp];rfl,.inr rfl,by rw[Pk,hl];rfl,λg h=>?_,⟨rfl,rfl⟩,w7.mono (by omega)⟩;rcases Pe.mp h with h|h
   .exact Q g h
   .rw[Pc.mp h];exact⟨⟨p,hp,rfl⟩,⟨q,hq,rfl⟩,sm⟩
  have I:aq (av dA (ae 5) (d0 fk)) (tJ y (.fr (.lst (ss.map A.str))) a b ns gs (.fr (.int i)) (.fr (bL x F)))=some (.ok (!decide (gs.map aN=[])),tJ y (.fr (.lst (ss.map A.str))) a b ns gs (.fr (.int i)) (.fr (bL x F))):=aG (ag rfl rfl (by simp only[cZ,res,dA];show (match (match lL (.lst (gs.map aN)) (.lst []) with|some k=>some (Rr.fr (.bl (!k)))|none=>none) with|some r=>some ((Rb r:Except Str Rr),tJ y (.fr (.lst (ss.map A.str))) a b ns gs (.fr (.int i)) (.fr (bL x F)))|none=>none)=_;rw[pA (p4 Q)]))
  rcases Rw gs with e|⟨gs',g,e⟩
  .rw[e] at I fin ⊢;exact Wp.st (fo (AH I) rfl) (fin y x F sm (u.mono (by omega)))
  .rw[Rx] at e;have ne:decide (gs.map aN=[])=false:=by rw[e,Pp];simp
   rw[ne] at I;obtain⟨G,C,c5,a5,b5,P⟩:=tk 4 u (by omega) (by decide) (by decide);have N:∀b,decide (G=1)=b->∀Z,aq (av iU (bJ ai (aP (ae 0) (ax 4))) (ax 1)) (.pv y::Z)=some (.ok b,.pv C::Z):=λb d Z=>aG (ag (au rfl (c5 _)) rfl (nF d _));by_cases h5:G=1
   .have gd:=Q g (by rw[e];simp);refine Wp.st (jD (ur I (N true (decide_eq_true h5) _)) ?_) (fin C _ _ gd.s.neg (P.mono (by omega)));rw[e];exact GY rfl (by have:=gd.s.len;omega)
   .exact Wp.st (fo (ur I (N false (decide_eq_false h5) _)) rfl) (fin C x F sm (P.mono (by omega)))
 .rintro O ⟨o',c,gs,x6,x7,rfl,H,hl,Q,⟨B,D⟩,T⟩;have K:=jJ aN gs 16;refine⟨rfl,Wp.en (aT (lu rfl rfl (fX rfl) rfl rfl) rfl) ⟨_,o',_,rfl,rfl,gs.take (min 16 gs.length),congrArg (λz=>Sl.lv (.lst z)) K,by rw[Qs];omega,λg h=>Q g (QL h)⟩⟩
theorem vT(b:Nat->Nat->Bool):∀n,argBest b n<=n
 |0=>Pf 0
 |n+1=>by
  have e:argBest b (n+1)=if b (n+1) (argBest b n) then n+1 else argBest b n:=rfl
  have:=vT b n;rw[e];split<;>omega
variable{w:List Int}
theorem min_mem(h:w≠[]):mZ w∈w:=by have l:0<w.length:=UQ.mpr h;have a:=vT (λi j=>decide (w.getD i 0<w.getD j 0)) (w.length-1);unfold mZ;rw[PQ,Pm (by omega)];exact QD _
theorem wd:∀{w:List Int}{i:Int},i∈w->∃j,Ai w i=some j
 |a::w,i,h=>by
  rw[Ai];by_cases e:a=i
  .exact⟨0,if_pos e⟩
  .obtain⟨j,V⟩:=wd (w:=w) ((Po.mp h).resolve_left λz=>e z.symm);exact⟨j+1,by rw[if_neg e,V];rfl⟩
theorem oh:∀w:List Int,gA (w.map A.int)=some w
 |[]=>rfl
 |a::w=>by rw[Pg,gA,oh w]
theorem yo:∀w:List Int,sE (w.map A.int)=some (w.map Qz)
 |[]=>rfl
 |a::w=>by rw[Pg,sE,yo w];rfl
theorem mr:∀w:List Int,jw (w.map Qz)=some w
 |[]=>rfl
 |a::w=>by rw[Pg,jw,mr w]
noncomputable def dY(D:List (List Int)):List (List Key×A):=D.map λk=>(k.map Qz,A.bl true)
theorem tL:∀{k w:List Int},(k.map Qz:List Key)=w.map Qz->k=w
 |[],[],_=>rfl
 |[],_::_,h=>by cases h
 |_::_,[],h=>by cases h
 |a::k,b::w,h=>by rw[Pg,Pg] at h;injection h with h1 h2;injection h1 with h1;rw[h1,tL h2]
theorem AB(D:List (List Int))(k:List Int):so (dY D) (k.map Qz) (.bl true)=dY (if k∈D then D else D++[k]):=by
 unfold so;have e:((dY D).any λx=>decide (x.1=k.map Qz))=decide (k∈D):=by
  rw[RD,QQ,decide_eq_true_iff];constructor
  .rintro⟨x,L,e⟩;obtain⟨w,G,rfl⟩:=PN.mp L;rw[<-tL (of_decide_eq_true e)];exact G
  .intro h;exact⟨_,PN.mpr ⟨k,h,rfl⟩,decide_eq_true rfl⟩
 rw[e];by_cases h:k∈D
 .rw[if_pos (decide_eq_true h),if_pos h];unfold dY;rw[Qe];refine Qx λw _=>?_;show (if (w.map Qz:List Key)=k.map Qz then _ else _)=_;split<;>rfl
 .rw[if_neg (by rw[decide_eq_false h];decide),if_neg h];unfold dY;rw[Pp];rfl
theorem qD:∀D:List (List Int),gB (dY D)=some D
 |[]=>rfl
 |k::D=>by show gB ((k.map Qz,A.bl true)::dY D)=_;rw[gB,qD D];dsimp only;rw[mr]
noncomputable def enc:List Nat->Nat
 |[]=>0
 |d::r=>1+d+15*enc r
theorem tH:∀{x y:List Nat},(∀d∈x,d<15)->(∀d∈y,d<15)->enc x=enc y->x=y
 |[],[],_,_,_=>rfl
 |[],d::y,_,_,h=>by simp only[enc] at h;omega
 |d::x,[],_,_,h=>by simp only[enc] at h;omega
 |d::x,e::y,hx,hy,h=>by
  have h1:=hx d (.head _);have h2:=hy e (.head _);simp only[enc] at h;have J:d=e:=by omega
  rw[J,tH (λc hc=>hx c (Pa _ hc)) (λc hc=>hy c (Pa _ hc)) (by omega:enc x=enc y)]
theorem xr:∀{x:List Nat},(∀d∈x,d<15)->14*enc x+15<=15^(x.length+1)
 |[],_=>by simp[enc]
 |d::x,h=>by have h1:=h d (.head _);have h2:=xr (x:=x) λc hc=>h c (Pa _ hc);rw[Pl,Up];simp only[enc];omega
noncomputable def dig(f k:Int):Nat:=((k-f-1)%16).toNat
def code:List Int->Nat
 |[]=>0
 |f::r=>f.toNat+16*enc (r.map (dig f))
structure Ky(n:Nat)(k:List Int):Prop where
 ne:k≠[]
 r:∀i∈k,0<=i/\i<(n:Int)
 nd:k.Nodup
 len:k.length<=6
theorem GX{n:Nat}(hn:n<=16){f:Int}(hf:0<=f/\f<(n:Int))(hk:0<=k/\k<(n:Int))(ne:k≠f):dig f k<15:=by unfold dig;omega
theorem uu{n:Nat}(hn:n<=16){f:Int}:∀{x y:List Int},(∀i∈x,0<=i/\i<(n:Int))->(∀i∈y,0<=i/\i<(n:Int))->x.map (dig f)=y.map (dig f)->x=y
 |[],[],_,_,_=>rfl
 |[],_::_,_,_,h=>by cases h
 |_::_,[],_,_,h=>by cases h
 |a::x,b::y,hx,hy,h=>by
  rw[Pg,Pg] at h;injection h with h1 h2;have ha:=hx a (.head _);have d:=hy b (.head _);have e:a=b:=by unfold dig at h1;omega
  rw[e,uu hn (λc hc=>hx c (Pa _ hc)) (λc hc=>hy c (Pa _ hc)) h2]
theorem Ky.FD{n:Nat}(hn:n<=16){f:Int}{r:List Int}(h:Ky n (f::r)):∀d∈r.map (dig f),d<15:=λd hd=>by obtain⟨k,hk,rfl⟩:=PN.mp hd;exact GX hn (h.r f (.head _)) (h.r k (Pa _ hk)) λe=>(PM.mp h.nd).1 (e▸hk)
theorem code_inj{n:Nat}(hn:n<=16){x y:List Int}(L:Ky n x)(m:Ky n y)(h:code x=code y):x=y:=by
 cases x with
 |nil=>exact absurd rfl L.ne
 |cons f x=>cases y with
  |nil=>exact absurd rfl m.ne
  |cons g y=>
   have h1:=L.r f (.head _);have h2:=m.r g (.head _);simp only[code] at h;have e:f=g:=by omega
   subst e;have l:=tH (L.FD hn) (m.FD hn) (by omega);rw[uu hn (λc hc=>L.r c (Pa _ hc)) (λc hc=>m.r c (Pa _ hc)) l]
theorem Bh{n:Nat}(hn:n<=16){x:List Int}(L:Ky n x):code x<16000000:=by
 cases x with
 |nil=>exact absurd rfl L.ne
 |cons f x=>have h1:=L.r f (.head _);have h2:=xr (L.FD hn);have h3:=L.len;rw[Pl] at h3;have h4:15^((x.map (dig f)).length+1)<=15^6:=P6 (by decide) (by rw[O5];omega);simp only[code];omega
theorem xm{n:Nat}(hn:n<=16){D:List (List Int)}(nd:D.Nodup)(h:∀k∈D,Ky n k):D.length<=16000000:=by
 have U:(D.map code).Nodup:=by unfold WE at nd ⊢;rw[Q3];exact V5 (λha d o e=>o (code_inj hn (h _ ha) (h _ d) e)) nd
 have:=kL (ys:=Py 16000000) U λc hc=>by obtain⟨k,hk,rfl⟩:=PN.mp hc;exact Qu.mpr (Bh hn (h k hk))
 rw[O5,Qv] at this;exact this
noncomputable def KQ:A->Nd
 | .tup [.str a,.str b]=>(a,b)
 |_=>("", "")
def un(gs:List Gp)(k:Int):Nd:=KQ (qo gs k).u
def vn(gs:List Gp)(k:Int):Nd:=KQ (qo gs k).v
def gX(gs:List Gp)(k:Int):A:=.tup [cg (un gs k),cg (vn gs k),bL (qo gs k).x (qo gs k).M]
section
variable{ns:List Nd}{ss:List Str}{gs:List Gp}
theorem ix(Q:∀g∈gs,Gd ns ss g)(h:0<=k/\k<(gs.length:Int)):gr (gs.map aN) k=some (gX gs k)/\un gs k∈ns:=by
 obtain⟨e,m⟩:=gM h.1 h.2;obtain⟨⟨p,hp,J⟩,⟨q,B,l⟩,-⟩:=Q _ m;have n:un gs k=p:=by unfold un;rw[J];rfl
 have x:vn gs k=q:=by unfold vn;rw[l];rfl
 rw[e];unfold gX aN;rw[n,x,J,l];exact⟨rfl,hp⟩
structure Wy(gs:List Gp)(w:List Int):Prop where
 ne:w≠[]
 r:vG gs w
 nd:(w.map (un gs)).Nodup
theorem Wy.len(Q:∀g∈gs,Gd ns ss g)(q:ns.length<=6)(h:Wy gs w):w.length<=6:=by
 have:=kL (ys:=ns) h.nd λa ha=>by obtain⟨k,hk,rfl⟩:=PN.mp ha;exact(ix Q (h.r k hk)).2
 rw[O5] at this;omega
theorem uN{j:Type}(f:α->j){l:List α}(h:(l.map f).Nodup):l.Nodup:=by unfold WE at h ⊢;rw[Q3] at h;exact h.imp λo e=>o (by rw[e])
end
theorem zZ(p q:Nd):D.eq (.tup [.str p.1,.str p.2]) (.tup [.str q.1,.str q.2])=decide (p=q):=by obtain⟨a,b⟩:=p;obtain⟨c,d⟩:=q;simp[D.eq,D.eqs,Sd,Vn]
theorem nk(p:Nd):toD (cg p)=some (.tup [.str p.1,.str p.2]):=by unfold cg;simp[toD,cx]
theorem tE:∀ps:List Nd,cx (ps.map cg)=some (ps.map λp=>.tup [.str p.1,.str p.2])
 |[]=>by simp[cx]
 |p::ps=>by rw[Pg,cx,tE ps,nk];rfl
theorem xH(p q:Nd)(Z:List Sl):cZ iU (.fr (cg p)) (.fr (cg q)) Z=some (.ok (.fr (.bl (decide (p=q)))),Z):=by refine fu (o:=none) rfl rfl ?_;unfold iU lL;rw[nk,nk];dsimp only;rw[if_pos (by simp[D.depth,D.bX]),zZ]
theorem AW(p:Nd)(ps:List Nd)(Z:List Sl):cZ (bI (DF true) (gu true)) (.fr (cg p)) (.nw (.lst (ps.map cg))) Z=some (.ok (.fr (.bl (!decide (p∈ps)))),Z):=by
 refine fu (o:=none) (b:=.lst (ps.map cg)) rfl rfl ?_;have J:DF true (cg p) (.lst (ps.map cg))=none:=rfl;have l:gu true (cg p) (.lst (ps.map cg))=some (.fr (.bl (!decide (p∈ps)))):=by
  unfold gu;dsimp only;rw[nk,tE];dsimp only;have h1:((ps.map λp=>D.tup [.str p.1,.str p.2]).all λe=>decide (D.depth e<=40))=true:=by rw[PZ];intro d hd;obtain⟨q,_,rfl⟩:=PN.mp hd;simp[D.depth,D.bX]
  have h2:((ps.map λp=>D.tup [.str p.1,.str p.2]).any λe=>D.eq e (.tup [.str p.1,.str p.2]))=decide (p∈ps):=by
   rw[RD,QQ,decide_eq_true_iff];constructor
   .rintro⟨d,hd,e⟩;obtain⟨q,B,rfl⟩:=PN.mp hd;rw[zZ] at e;exact of_decide_eq_true e▸B
   .intro h;exact⟨_,PN.mpr ⟨p,h,rfl⟩,by rw[zZ];exact decide_eq_true rfl⟩
  rw[if_pos h1,h2];rfl
 unfold bI;rw[J];exact l
theorem Hw{a b:A}(h:mo Z=some (.ok x,Z))(h1:res Z x=some a)(j:Jz a=true)(k:m Z=some (.ok y,Z))(h2:res Z y=some b)(e:IK a b=some r):yZ mo m Z=some (.ok r,Z):=by refine bk h ?_;rw[h1];dsimp only;rw[if_pos j];refine bk k ?_;rw[h1,h2];dsimp only;rw[e]
theorem Cf{i:Nat}{a ka:A}{kvs:List (List Key×A)}{y:List Key}(h:m Z=some (.ok r,I))(d:Co I i=true)(hk:mk I=some (.ok rk,U))(f:aS r U=some (a,Z0))(h1:res Z0 rk=some ka)(l:aC Z0 i=some (.dit kvs))(z:Ga ka=some y)(hl:kvs.length<=16000000)(e:setAt Z0 i (.dit (so kvs y a))=Z1):qr i mk m Z=some (.nx,Z1):=by refine sk h ((if_pos d).trans (sk hk ?_));rw[f];dsimp only;rw[h1,l];dsimp only;rw[z];dsimp only;rw[if_pos hl,e]
theorem K3{x y:List A}(h:x.length+y.length<=100000)(Z:List Sl):cZ aK (.fr (.tup x)) (.fr (.tup y)) Z=some (.ok (.fr (.tup (x++y))),Z):=by have k:mP (.tup x) (.tup y)=some (.fr (.tup (x++y))):=if_pos h;refine fu (o:=none) rfl rfl ?_;unfold aK bI;rw[show qv (.tup x) (.tup y)=none from rfl];dsimp only;rw[show pL (.tup x) (.tup y)=none from rfl,k]
theorem wq(f:α->A)(xs:List α)(k:Nat):jF (xs.map f) (some (k:Int)) none=(xs.drop (min k xs.length)).map f:=by unfold jF;rw[O5,HT.oO,HT.tu,List.map_drop,Rm];rw[S5,O5];omega
abbrev gZ(gs:List Gp)(D S:List (List Int))(x3 x4 x5:Sl):List Sl:=[.fr (.lst (gs.map aN)),.lv (.dit (dY D)),.lv (.lst (S.map tupI)),x3,x4,x5]
abbrev Ov:Ms:=aA (aE 5 (yZ (ae 3) (cV kD (ae 3)))) (qr 1 (av aK (pF (ae 3) (bZ (ae 5)) bR) (pF (ae 3) bR (bZ (ae 5)))) (mC (.bl true)))
abbrev Oy:Ms:=dR (fq 2 (gj 2 (bV 1 (dG (cV dJ (ae 0))) (bj 6) (aq (av iU (mix (mix (ae 0) (ae 6)) (ax 0)) (ae 4))) (av aK (ae 3) (aU (vv (ae 6)))))))
abbrev NR:Mi Bool:=aq (av (bI (DF true) (gu true)) (ae 4) (bV 1 (da (ae 3)) (bj 6) bF (mix (mix (ae 0) (ae 6)) (ax 0))))
abbrev Ob:Mi Bool:=aq (av iU (ae 4) (mix (mix (ae 0) (mix (ae 3) (ax 0))) (ax 0)))
abbrev Np:Ms:=aA (aE 3 (qS 2)) (aA (aE 4 (mix (mix (ae 0) (mix (ae 3) (vi lI (ax 1)))) (ax 1))) (j4 Ob Ov (j4 NR Oy cp)))
theorem vy:cG=cf 5 (aA (aE 1 nA) (aA (aE 2 (bV 1 (dG (cV dJ (ae 0))) (bj 6) bF (aU (vv (ae 6))))) (aA (gQ Ad (aq (av dA (ae 2) (d0 fk))) Np) (bM (iW 1))))):=rfl
structure Cs(gs:List Gp)(D S:List (List Int)):Prop where
 dn:D.Nodup
 dk:∀k∈D,Ky gs.length k
 sw:∀w∈S,Wy gs w
 sb:∀i w,S[i]?=some w->i<16*w.length
noncomputable def sg(S:List (List Int)):Nat:=(S.map λw=>17^(16-w.length)).sum
theorem oq(S T:List (List Int)):sg (S++T)=sg S+sg T:=by unfold sg;rw[Pp,List.sum_append]
theorem tm(w:List Int):sg [w]=17^(16-w.length):=by simp[sg]
variable{S:List (List Int)}
theorem zG:(∀w∈S,17^(16-w.length)<=c)->sg S<=S.length*c:=by
 induction S with
 |nil=>intro _;exact Qm _
 |cons w S m=>
  intro h;have h1:=h w (.head _);have h2:=m λv u=>h v (Pa _ u);have e:sg (w::S)=17^(16-w.length)+sg S:=by simp[sg]
  rw[e,Pl,Nat.succ_mul];omega
theorem Cs.pop{D:List (List Int)}(h:Cs gs D (S++[w])):Cs gs D S:=⟨h.dn,h.dk,λv u=>h.sw v (Ph _ u),λi v u=>h.sb i v (by rw[P5 (O6.mp u).1];exact u)⟩
theorem Ft{D:List (List Int)}:qS 2 (gZ gs D (S++[w]) x3 x4 x5)=some (.ok (.fr (tupI w)),gZ gs D S x3 x4 x5):=by
 show (match ((S++[w]).map tupI)[((S++[w]).map tupI).length-1]? with|some a=>some ((Rb (Rr.fr a):Except Str Rr),setAt (gZ gs D (S++[w]) x3 x4 x5) 2 (.lst ((S++[w]).map tupI).dropLast))|none=>none)=_;have e:((S++[w]).map tupI)[((S++[w]).map tupI).length-1]?=some (tupI w):=by rw[Pp];simp
 have l:((S++[w]).map tupI).dropLast=S.map tupI:=by rw[Pp,U1,List.dropLast_concat]
 rw[e,l];rfl
theorem oX{n:Nat}(h:n<=16)(Z:List Sl):iq (.fr (.int (n:Int))) Z=some (.ok ((Py n).map λk=>A.int (0+(k:Nat))),Z):=by unfold iq;dsimp only [res];rw[if_pos (by omega),Qq];rfl
section
variable{ns:List Nd}{ss:List Str}{gs:List Gp}
theorem wO(Z:List Sl)(h:Z[0]?=some (.fr (.lst (gs.map aN)))):cV dJ (ae 0) Z=some (.ok (.fr (.int (gs.length:Int))),Z):=by
 have e:dJ (.lst (gs.map aN))=some (.fr (.int (gs.length:Int))):=by show some (Rr.fr (.int ((gs.map aN).length:Int)))=_;rw[O5]
 exact dE (x:=.fr (.lst (gs.map aN))) (by rw[DK,h]) (pV rfl e)
theorem zK{D:List (List Int)}(n:gs.length<=16)(hl:w.length<=6)(G:Wy gs w)(hc:Cs gs D S)(h5:np x5=true):X2 λx P=>N3 (Ov (gZ gs D S (.fr (tupI w)) x4 x5)=some (.nx,gZ gs x S (.fr (tupI w)) x4 P)) (Cs gs x S) (np P=true):=by
 obtain⟨j,V⟩:=wd (min_mem G.ne);have J:kD (tupI w)=some (.fr (.int (mZ w))):=by unfold kD tupI;dsimp only;rw[oh];dsimp only;rw[if_neg G.ne]
 have l:IK (tupI w) (.int (mZ w))=some (.fr (.int (j:Int))):=by unfold IK tupI;dsimp only;rw[oh];dsimp only;rw[V]
 have ka:(jF (w.map A.int) (some (j:Int)) none++jF (w.map A.int) none (some (j:Int)))=(w.drop (min j w.length)++w.take (min j w.length)).map A.int:=by rw[wq,jJ,Pp]
 generalize I:w.drop (min j w.length)++w.take (min j w.length)=k at ka;have pm:k.Perm w:=by rw[<-I];exact P0.trans (by rw[QE])
 have p:Ky gs.length k:=⟨λz=>G.ne (by rw[z] at pm;exact pm.symm.eq_nil),λi hi=>G.r i (pm.mem_iff.mp hi),pm.nodup_iff.mpr (uN _ G.nd),by rw[pm.length_eq];exact hl⟩
 refine⟨if k∈D then D else D++[k],.fr (.int j),?_,⟨?_,?_,hc.sw,hc.sb⟩,rfl⟩
 .refine dU (bq (U:=gZ gs D S (.fr (tupI w)) x4 x5) (Hw rfl rfl rfl (dE rfl (pV rfl J)) rfl l) rfl rfl h5 rfl) ?_;refine Cf (a:=.bl true) (ka:=.tup (k.map A.int)) (y:=k.map Qz) (kvs:=dY D) rfl rfl (ag (lu (a:=tupI w) rfl (fX rfl) rfl rfl rfl) (lu (a:=tupI w) rfl rfl (fX rfl) rfl rfl) (K3 ?_ _)) rfl ?_ rfl (yo k) ?_ ?_
  .rw[<-Pk,ka,O5,pm.length_eq];omega
  .rw[ka];rfl
  .unfold dY;rw[O5];exact xm n hc.dn hc.dk
  .rw[AB];rfl
 .split
  .exact hc.dn
  .rename_i z;exact Pz.mpr ⟨hc.dn,PM.mpr ⟨by simp,.nil⟩,λa ha b d e=>by rw[Pc.mp d] at e;exact z (e▸ha)⟩
 .intro q B;split at B
  .exact hc.dk q B
  .rcases Pe.mp B with h|h
   .exact hc.dk q h
   .rw[Pc.mp h];exact p
end
section
variable{ns:List Nd}{ss:List Str}{gs:List Gp}
def kids(gs:List Gp)(w:List Int)(q:Nd):List (List Int):=((Py gs.length).filter λ(i:Nat)=>decide (un gs (0+(i:Nat))=q)).map λ(i:Nat)=>w++[(0+(i:Nat):Int)]
theorem kH(w:List Int)(q:Nd):(kids gs w q).length<=gs.length:=by unfold kids;rw[O5];exact Px (Uz _ _) (by rw[Qv];exact Pf _)
theorem kN{v:List Int}{q:Nd}(h:v∈kids gs w q):∃k:Int,v=w++[k]/\un gs k=q/\0<=k/\k<(gs.length:Int):=by obtain⟨i,hi,rfl⟩:=PN.mp h;obtain⟨h1,h2⟩:=Q9.mp hi;have:=Qu.mp h1;exact⟨_,rfl,of_decide_eq_true h2,by omega,by omega⟩
theorem AM(Q:∀g∈gs,Gd ns ss g){D:List (List Int)}{q:Nd}(n:gs.length<=16)(hl:w.length<=6)(a:S.length<=1000):Oy (gZ gs D S (.fr (tupI w)) (.fr (cg q)) x5)=some (.nx,gZ gs D (S++kids gs w q) (.fr (tupI w)) (.fr (cg q)) x5):=by
 have k:=m8 (i:=6) (ts:=Py gs.length) (I:=gZ gs D S (.fr (tupI w)) (.fr (cg q)) x5) (t:=aq (av iU (mix (mix (ae 0) (ae 6)) (ax 0)) (ae 4))) (e:=av aK (ae 3) (aU (vv (ae 6)))) (λi=>.int (0+(i:Nat))) (λi=>.tup (w.map A.int++[.int (0+(i:Nat))])) (λi=>decide (un gs (0+(i:Nat))=q)) rfl (by rw[Qv];omega) (λi hi=>by have hi:=Qu.mp hi;obtain⟨e,-⟩:=ix Q (k:=0+(i:Nat)) ⟨by omega,by omega⟩;exact⟨aG (ag (ag (ag rfl rfl (aM (.inl rfl) e)) rfl (aM (.inr rfl) rfl)) rfl (xH _ _ _)),λ_=>⟨_,ag rfl (bw rfl rfl) (K3 (by rw[O5];show w.length+1<=_;omega) _),rfl⟩⟩)
 have e:((Py gs.length).filter λi=>decide (un gs (0+(i:Nat))=q)).map (λi=>A.tup (w.map A.int++[.int (0+(i:Nat))]))=(kids gs w q).map tupI:=by unfold kids;rw[Qe];refine Qx λi _=>?_;show _=tupI (w++[_]);unfold tupI;rw[Pp];rfl
 rw[e] at k;have T:=kH (gs:=gs) w q;refine nX (r:=.fr .non) (wN rfl (cH (gN (wO _ rfl) (oX n _)) k) ?_);show (if (S.map tupI).length+((kids gs w q).map tupI).length<=100000 then some ((Rb (Rr.fr A.non):Except Str Rr),setAt (gZ gs D S (.fr (tupI w)) (.fr (cg q)) x5) 2 (.lst (S.map tupI++(kids gs w q).map tupI))) else none)=_;rw[if_pos (by rw[O5,O5];omega),<-Pp];rfl
theorem B4(Q:∀g∈gs,Gd ns ss g)(E:ns.length<=6){D:List (List Int)}(n:gs.length<=16)(hc:Cs gs D (S++[w]))(h3:np x3=true)(h4:np x4=true)(h5:np x5=true):
  X5 λZ s F y P=>N4 (Np (gZ gs D (S++[w]) x3 x4 x5)=some (.nx,gZ gs Z s F y P)) (Cs gs Z s) (sg s<sg (S++[w])) (N3 (np F=true) (np y=true) (np P=true)):=by
 have G:=hc.sw w (by simp);have hl:=G.len Q E;have X:S.length<16*w.length:=hc.sb S.length w (by simp);have o:=hc.pop;have x:sg S<sg (S++[w]):=by rw[oq,tm];have:0<17^(16-w.length):=WG (by decide);omega
 rcases Rw w with z|⟨T,l,q⟩
 .exact absurd z G.ne
 rw[Rx] at q;obtain⟨f,t,R⟩:∃f t,w=f::t:=by
  cases w with
  |nil=>exact absurd rfl G.ne
  |cons f t=>exact⟨f,t,rfl⟩
 have la:gr (w.map A.int) (-1)=some (.int l):=by rw[q,Pp];exact pG _ _
 have J:gr (w.map A.int) 0=some (.int f):=by rw[R];exact gk (j:=0) rfl
 obtain⟨gl,-⟩:=ix Q (G.r l (by rw[q];simp));obtain⟨H,-⟩:=ix Q (G.r f (by rw[R];simp));have s1:aE 3 (qS 2) (gZ gs D (S++[w]) x3 x4 x5)=some (.nx,gZ gs D S (.fr (tupI w)) x4 x5):=bq Ft rfl rfl h3 rfl;have s2:aE 4 (mix (mix (ae 0) (mix (ae 3) (vi lI (ax 1)))) (ax 1)) (gZ gs D S (.fr (tupI w)) x4 x5)=some (.nx,gZ gs D S (.fr (tupI w)) (.fr (cg (vn gs l))) x5):=bq (ag (ag rfl (ag rfl rfl (aM (.inr rfl) la)) (aM (.inl rfl) gl)) rfl (aM (.inr rfl) rfl)) rfl rfl h4 rfl;have O:∀b,decide (vn gs l=un gs f)=b->Ob (gZ gs D S (.fr (tupI w)) (.fr (cg (vn gs l))) x5)=some (.ok b,gZ gs D S (.fr (tupI w)) (.fr (cg (vn gs l))) x5):=by rintro b rfl;exact aG (ag rfl (ag (ag rfl (ag rfl rfl (aM (.inr rfl) J)) (aM (.inl rfl) H)) rfl (aM (.inr rfl) rfl)) (xH _ _ _))
 by_cases B:vn gs l=un gs f
 .obtain⟨Z,P,e,K,m⟩:=zK (x4:=.fr (cg (vn gs l))) n hl G o h5;exact⟨Z,S,_,_,P,dU s1 (dU s2 (jD (O true (decide_eq_true B)) e)),K,x,rfl,rfl,m⟩
 .have k:=gi (i:=6) (ts:=w) (I:=gZ gs D S (.fr (tupI w)) (.fr (cg (vn gs l))) x5) (e:=mix (mix (ae 0) (ae 6)) (ax 0)) A.int (λk=>cg (un gs k)) rfl (by omega) (λi hi=>by obtain⟨e,-⟩:=ix Q (G.r i hi);exact⟨_,ag (ag rfl rfl (aM (.inl rfl) e)) rfl (aM (.inr rfl) rfl),rfl⟩)
  have em:w.map (λk=>cg (un gs k))=(w.map (un gs)).map cg:=by rw[Qe];rfl
  rw[em] at k;have C:∀b,(!decide (vn gs l∈w.map (un gs)))=b->NR (gZ gs D S (.fr (tupI w)) (.fr (cg (vn gs l))) x5)=some (.ok b,gZ gs D S (.fr (tupI w)) (.fr (cg (vn gs l))) x5):=by rintro b rfl;exact aG (ag rfl (cH (g8 rfl rfl) k) (AW _ _ _))
  by_cases hn:vn gs l∈w.map (un gs)
  .exact⟨D,S,_,_,x5,dU s1 (dU s2 (fo (O false (decide_eq_false B)) (fo (C false (by rw[decide_eq_true hn];rfl)) rfl))),o,x,rfl,rfl,h5⟩
  .refine⟨D,S++kids gs w (vn gs l),_,_,x5,dU s1 (dU s2 (fo (O false (decide_eq_false B)) (jD (C true (by rw[decide_eq_false hn];rfl)) (AM Q n hl (by omega))))),⟨hc.dn,hc.dk,λv u=>?_,λi v u=>?_⟩,?_,rfl,rfl,h5⟩
   .rcases Pe.mp u with h|h
    .exact o.sw v h
    .obtain⟨k,rfl,e,k0,k1⟩:=kN h;refine⟨by simp,λi hi=>?_,?_⟩
     .rcases Pe.mp hi with h|h
      .exact G.r i h
      .rw[Pc.mp h];exact⟨k0,k1⟩
     .rw[Pp];exact Pz.mpr ⟨G.nd,PM.mpr ⟨by simp,.nil⟩,λa ha b d e'=>by rw[U1] at d;rw[Pc.mp d,e] at e';exact hn (e'▸ha)⟩
   .by_cases hi:i<S.length
    .rw[P5 hi] at u;exact o.sb i v u
    .rw[Qp (by omega)] at u;have h1:=(O6.mp u).1;obtain⟨k,rfl,-⟩:=kN (PJ u);have h2:=kH (gs:=gs) w (vn gs l);rw[Pk,QZ];omega
   .rw[oq,oq,tm];have h1:=zG (S:=kids gs w (vn gs l)) (c:=17^(15-w.length)) λv u=>by obtain⟨k,rfl,-⟩:=kN u;rw[Pk,QZ];exact P6 (by decide) (by omega)
    have h2:=kH (gs:=gs) w (vn gs l);have h3:=Sg (17^(15-w.length)) (Px h2 n);have h4:17^(16-w.length)=17^(15-w.length)*17:=by rw[<-Up];congr 1;omega
    have h5:0<17^(15-w.length):=WG (by decide);omega
theorem zt(C:∀g∈gs,Gd ns ss g)(q:ns.length<=6)(x:gs.length<=16):∃cs:List (List Int),rG cG [.lst (gs.map aN)] (.lst (cs.map tupI))/\∀c∈cs,vG gs c/\c.length<=6:=by
 suffices Wp cG ([A.lst (gs.map aN)].map Sl.fr) λg _=>∃cs:List (List Int),g=.rt (.lv (.lst (cs.map tupI)))/\∀c∈cs,vG gs c/\c.length<=6 by obtain⟨_,_,e,cs,rfl,h⟩:=this;exact⟨cs,⟨_,e⟩,h⟩
 rw[vy]
 have k:=gi (i:=6) (ts:=Py gs.length) (I:=[.fr (.lst (gs.map aN)),.lv (.dit (dY [])),.un,.un,.un,.un]) (e:=aU (vv (ae 6))) (λi=>.int (0+(i:Nat))) (λi=>tupI [(0+(i:Nat):Int)]) rfl (by rw[Qv];omega) (λi hi=>⟨_,bw rfl rfl,rfl⟩)
 have B:(Py gs.length).map (λi=>tupI [(0+(i:Nat):Int)])=((Py gs.length).map λ(i:Nat)=>[(0+(i:Nat):Int)]).map tupI:=by rw[Qe];rfl
 rw[B] at k
 have X:((Py gs.length).map λ(i:Nat)=>[(0+(i:Nat):Int)]).length=gs.length:=by rw[O5,Qv]
 have s:∀w∈(Py gs.length).map λ(i:Nat)=>[(0+(i:Nat):Int)],Wy gs w/\w.length=1:=λw G=>by obtain⟨i,hi,rfl⟩:=PN.mp G;have:=Qu.mp hi;exact⟨⟨by simp,λj V=>by rw[Pc.mp V];omega,PM.mpr ⟨by simp,.nil⟩⟩,rfl⟩
 generalize ((Py gs.length).map λ(i:Nat)=>[(0+(i:Nat):Int)])=S0 at k X s
 have o:Cs gs [] S0:=⟨.nil,(λk hk=>nomatch hk),λw G=>(s w G).1,λi w G=>by have h1:=(O6.mp G).1;have h2:=(s w (PJ G)).2;omega⟩
 obtain⟨O,h1,D,x3,x4,x5,rfl,dn,dk⟩:=i7 (t:=aq (av dA (ae 2) (d0 fk))) (b:=Np) (n:=Ad)
  (P:=λk Z=>X5 λD S x3 x4 x5=>N4 (Z=gZ gs D S x3 x4 x5) (k=sg S) (Cs gs D S) (N3 (np x3=true) (np x4=true) (np x5=true)))
  (Q:=λZ=>∃D x3 x4 x5,Z=gZ gs D [] x3 x4 x5/\D.Nodup/\∀k∈D,Ky gs.length k) (by
   rintro k Z ⟨D,S,x3,x4,x5,rfl,rfl,hc,h3,h4,h5⟩;have v:qq 39 (S.map tupI):=qq.of λa ha=>by
    obtain⟨w,_,rfl⟩:=PN.mp ha;exact Dt.tup (n:=38) (qq.of λb d=>by obtain⟨i,_,rfl⟩:=PN.mp d;exact .int i)
   have u:∀b,decide (S.map tupI=[])=b->aq (av dA (ae 2) (d0 fk)) (gZ gs D S x3 x4 x5)=some (.ok (!b),gZ gs D S x3 x4 x5):=by rintro b rfl;refine aG (ag rfl rfl ?_);simp only[cZ,res,dA];show (match (match lL (.lst (S.map tupI)) (.lst []) with|some k=>some (Rr.fr (.bl (!k)))|none=>none) with|some r=>some ((Rb r:Except Str Rr),gZ gs D S x3 x4 x5)|none=>none)=_;rw[pA v]
   rcases Rw S with z|⟨m,w,z⟩
   .rw[z] at u hc ⊢;exact .inl ⟨_,u true rfl,D,x3,x4,x5,rfl,hc.dn,hc.dk⟩
   .rw[Rx] at z;subst z;obtain⟨F,p,y,E,H,e,K,ml,k3,R,k5⟩:=B4 C q x hc h3 h4 h5;exact .inr ⟨_,_,_,u false (by rw[Pp];simp),.inl e,ml,F,p,y,E,H,rfl,rfl,K,k3,R,k5⟩) ⟨[],S0,.un,.un,.un,rfl,rfl,o,rfl,rfl,rfl⟩ (rB (by
   have:=zG (S:=S0) (c:=17^15) λw G=>by rw[(s w G).2];exact Pf _
   have h2:=Sg (17^15) (show S0.length<=16 by omega);exact QW (Px this h2) (O9 (show 16*17^15<2^100 by decide) (P6 (by decide) (by decide)))))
 have pm:=fB D
 have Y:(D.all λk=>!k.isEmpty)=true:=by
  rw[PZ];intro k hk;cases k with
  |nil=>exact absurd rfl (dk _ hk).ne
  |cons a b=>rfl
 have f:iW 1 (gZ gs D [] x3 x4 x5)=some (.ok (.nw (.lst (((bN D).map λj=>D.getD j []).map tupI))),gZ gs D [] x3 x4 x5):=by show (match gB (dY D) with|some ks=>if (ks.all λk=>!k.isEmpty)=true then some ((Rb (Rr.nw (.lst ((bN ks).map λj=>(ks.map tupI).getD j .non))):Except Str Rr),gZ gs D [] x3 x4 x5) else none|none=>none)=_;rw[qD];dsimp only;rw[if_pos Y,Qe];refine congrArg (λz=>some ((Rb (Rr.nw (.lst z)):Except Str Rr),gZ gs D [] x3 x4 x5)) (Qx λj V=>?_);have V:=Qu.mp (pm.mem_iff.mp V);show (D.map tupI).getD j .non=tupI (D.getD j []);rw[PQ,PQ,Pq,Pm V];rfl
 refine Wp.df (Wp.st (U:=[.fr (.lst (gs.map aN)),.lv (.dit (dY [])),.un,.un,.un,.un]) rfl (Wp.st (bq (cH (gN (wO _ rfl) (oX x _)) k) rfl rfl rfl rfl) (Wp.st (vR h1) (Wp.en (aT f rfl) ⟨_,rfl,λc hc=>?_⟩))))
 obtain⟨j,V,rfl⟩:=PN.mp hc
 have V:=Qu.mp (pm.mem_iff.mp V)
 have hm:D.getD j []∈D:=by rw[PQ,Pm V];exact QD V
 exact⟨(dk _ hm).r,(dk _ hm).len⟩
end
theorem xZ{H:Mi (List Rr)}(h:H Z=some (.ok [.nw o],U))(v:cN f o [] s o')(y:ji s=some r):nI f [] H Z=some (.ok r,U):=by
 obtain⟨T,e⟩:=v;refine bk h ?_;show (match f [.pv o] with
  | some (.rt s,T)=>(match ji s,putL U [.nw o] (aZ 1 T) U with
   |some r,some O=>some ((Rb r:Except Str Rr),O)
   | _,_=>none)
  | some (.ex x,T)=>(match putL U [.nw o] (aZ 1 T) U with
   |some O=>some (.error x,O)
   | none=>none)
  | _=>none)=_
 have e:f [.pv o]=some (.rt s,.pv o'::T):=e;rw[e];dsimp only;rw[y];rfl
abbrev wm(sc:A)(k H x3 x4:Sl):List Sl:=[.fr sc,k,H,x3,x4]
theorem zL(Q:∀g∈gs,Gd ns ss g):lL (.lst (gs.map aN)) (.lst (gs.map aN))=some true:=wI (Dt.lst (p4 Q))
theorem G4(Q:∀g∈gs,Gd ns ss g)(r:ss.length<=6)(hk:vG gs ks)(hl:ks.length<=6)(sc:A)(k x3:Sl)(h3:x3=.lv (.lst (gs.map aN))\/x3=.fr (.lst (gs.map aN))):
  KC (Aj (nM (aq (bJ dO (aP (bJ dI (aP (aR 3) (aR 4))) (bJ eJ (aP (aR 2) (aR 4))))))) (aq (av dA (ae 3) (ae 2)))) (wm sc k (.fr (.lst (gs.map aN))) x3 (.fr (tupI ks)))=some (.nx,wm sc k (.fr (.lst (gs.map aN))) (.fr (.lst (gs.map aN))) (.fr (tupI ks))):=by
 have N:∀g∈gs,Sm 64 6 ss g.x g.M:=λg h=>(Q g h).s;obtain⟨L,a,t⟩:=pz N hk (by omega) r;obtain⟨L',P,c⟩:=Li N hk (by omega) r;have e:L'=L:=Canon.eq c t.cn;subst e;have n:L'.length<=100:=by have:=ie t.cn.rise t.Og;omega
 have en:∀Z,cZ dA (.fr (.lst (gs.map aN))) (.fr (.lst (gs.map aN))) Z=some (.ok (.fr (.bl false)),Z):=λZ=>by simp only[cZ,res,dA,zL Q,RX]
 have Y:aP (aR 3) (aR 4) (wm sc k (.fr (.lst (gs.map aN))) x3 (.fr (tupI ks)))=some (.ok [.fr (.lst (gs.map aN)),.fr (tupI ks)],wm sc k (.fr (.lst (gs.map aN))) (.fr (.lst (gs.map aN))) (.fr (tupI ks))):=by rcases h3 with rfl|rfl<;>rfl
 exact fo (i9 (kb (b:=true) (aG (au (ah (au Y (bg a _)) (ah (au (ah rfl (ah rfl rfl)) (bg P _)) rfl)) (bg (yw _ n) _)))) (aG (ag rfl rfl (en _)))) rfl
theorem law_true:∀ns:List Int,ns.length<=63->∃Z,kz.M [.fr (.lst (ns.map A.int))]=some (.rt (.fr (.bl true)),Z):=by
 intro ns y;show ∃Z,DT [.fr (.lst (ns.map A.int))]=some (.rt (.fr (.bl true)),Z);generalize h:A.lst (ns.map A.int)=sc;obtain⟨t,z,r,C⟩:∃t:Int,N3 (∀Z,Ds Bb (ax 1) (Ds CT (cV dJ (ae 0)) (ax 4)) (.fr sc::Z)=some (.ok (.fr (.int t)),.fr sc::Z)) (1<=t) (t<=4):=by
  subst h;refine⟨if (if (4:Int)<((ns.map A.int).length:Int) then 4 else ((ns.map A.int).length:Int)) > 1 then (if (4:Int)<((ns.map A.int).length:Int) then 4 else ((ns.map A.int).length:Int)) else 1,λZ=>?_,?_,?_⟩
  .rfl
  ·(repeat' split)<;>omega
  ·(repeat' split)<;>omega
 obtain⟨m,rfl⟩:∃m:Nat,t=m:=⟨t.toNat,by omega⟩
 have w:∀Z,iq (.fr (.int (m:Int))) Z=some (.ok (dj 0 m),Z):=λZ=>by unfold iq;dsimp only [res];rw[if_pos (by omega),Qq]
 suffices Wp DT [.fr sc] λg _=>g=.rt (.fr (.bl true)) by obtain⟨f,Z,e,rfl⟩:=this;exact⟨Z,e⟩
 refine Wp.df (Wp.sq (Wp.fr (λ_ Z=>∃k H x3 x4,Z=wm sc k H x3 x4/\N4 (np k=true) (np H=true) (np x3=true) (np x4=true)) (gN (z _) (w _)) ⟨.un,.un,.un,.un,rfl,rfl,rfl,rfl,rfl⟩ ?_ ?_))
 .rintro i a Z ha ⟨k,H,x3,x4,rfl,h1,h2,h3,h4⟩;obtain⟨hi,rfl⟩:=yd ha;obtain⟨o,s,K⟩:=HP ns (i:Int) (by omega) (by omega);rw[h] at s;obtain⟨nd,ss,gs,o',v,b,Y,n,Q,-⟩:=Ho K (by decide);obtain⟨cs,q,hc⟩:=zt Q b n;have fl:oV sN HU (.lst (gs.map aN))=some (.nw (.lst (gs.map aN))):=rfl;have R:=jJ tupI cs 60;refine⟨wm sc (.fr (.int i)) H x3 x4,by cases k<;>first|(cases h1;done)|rfl,?_⟩;refine Wp.st (U:=wm sc (.fr (.int i)) (.lv (.lst (gs.map aN))) x3 x4) (bq (xZ (ah (au (ah rfl (ah rfl rfl)) (ue s _)) rfl) v rfl) rfl rfl h2 rfl) ?_;refine Wp.st (U:=wm sc (.fr (.int i)) (.lv (.lst (gs.map aN))) (.lv (.lst (gs.map aN))) x4) (bq (dE rfl (pV rfl fl)) rfl rfl h3 rfl) ?_;refine Wp.fr (as:=(cs.take (min 60 cs.length)).map tupI) (U:=wm sc (.fr (.int i)) (.fr (.lst (gs.map aN))) (.lv (.lst (gs.map aN))) x4) (λ_ Z=>∃x3 x4,Z=wm sc (.fr (.int i)) (.fr (.lst (gs.map aN))) x3 x4/\(x3=.lv (.lst (gs.map aN))\/x3=.fr (.lst (gs.map aN)))/\np x4=true) (by rw[<-R];exact g8 (lu (a:=.lst (cs.map tupI)) (au (ah rfl rfl) (ue q _)) rfl (fX rfl) rfl rfl) rfl) ⟨_,_,rfl,.inl rfl,h4⟩ ?_ ?_
  .rintro j c Z V ⟨F,E,rfl,k3,P⟩;obtain⟨ks,x,rfl⟩:=PN.mp (PJ V);obtain⟨S,p⟩:=hc ks (QL x);exact⟨wm sc (.fr (.int i)) (.fr (.lst (gs.map aN))) F (.fr (tupI ks)),by cases E<;>first|(cases P;done)|rfl,Wp.en (G4 Q Y S p sc _ F k3) ⟨.inl rfl,_,_,rfl,.inr rfl,rfl⟩⟩
  .rintro O ⟨F,E,rfl,k3,P⟩;exact⟨.inl rfl,_,_,_,_,rfl,rfl,rfl,by rcases k3 with rfl|rfl<;>rfl,P⟩
 .rintro O ⟨k,H,x3,x4,rfl,h1,h2,h3,h4⟩;exact⟨rfl,Wp.en (aT rfl rfl) rfl⟩
end W
set_option maxHeartbeats 4000000
theorem PySem.Challenge.cw_fitwhatever_k22_sums_of_chains_holds : PySem.Challenge.rw_fitwhatever_k22_sums_of_chains.Holds :=
 W.fin W.law_true
#print axioms PySem.Challenge.cw_fitwhatever_k22_sums_of_chains_holds
