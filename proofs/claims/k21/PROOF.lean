import PyProof.Rows.All
import Wide.All
import OpenK.AllK
import Wide.FinOn
import Lean
import PyProof.EqAt
import PyProof.EqKinds
import PyProof.TupleCall
import PyProof.StrLaws
import KE.KSortTup
import PySem.Challenge.RW_fitwhatever_k21_chains
set_option genSizeOf false
set_option genInjectivity false
set_option bootstrap.genMatcherCode false
set_option compiler.extract_closed false
open PySem.W renaming Frag->Nh,keepIn->O4,kitOne->O6,findIn->Pq,codeIn->Ri,methodObj->RK,fnOf->RL,kitx_list->RO,kitx_dict->RP,plainGet->RV,instObj->R6,lookIn->So,isFn->SY,cellsFrom_some->S3,nsIn->S5,kitx_tuple->Tz,hasDictIn->TN,plainOver->TQ,makesIn->Ud,OpenLaw->Ul,WalkO->UH,Hook->UW
open Bool renaming and_eq_true->Ni,not_eq_true'->NX,false_eq_true->NY,false_ne_true->Og,or_eq_true->OY,eq_false_iff->Pn,and_false->P5,eq_iff_iff->Rj,false_and->SJ,and_true->Td,not_true->Th,and_self->Ti,beq_eq_decide_eq->TJ,and_eq_true_iff->TZ,not_false->U3,or_false->U6,true_and->Vb
open List renaming append_assoc->Nj,size_toArray->Nk,length_map->Nl,getElem?_eq_some_iff->Np,mem_append_right->Nq,mem_cons_of_mem->Nt,mem_cons_self->Nu,mem_append->Nv,mem_singleton->Nw,getElem?_eq_getElem->Nx,length_append->Ny,range->NA,mem_map->NB,mem_cons->ND,mem_append_left->NF,map_cons->NK,length_cons->NM,getElem?_map->NS,map_append->NT,mem_range->NU,mem_of_getElem?->NV,nodup_append->N8,pairwise_append->N9,getElem?_append_right->Oa,getElem?_append_left->Ob,replicate->Oc,nodup_cons->Oe,all_eq_true->Oh,length_range->Oi,map_map->Om,append_nil->Oo,getElem?_set_self->Ov,perm_append_comm->Oz,take_append_drop->OA,getD_eq_getElem?_getD->OB,lookup_cons->OC,toArray->OH,getElem?_eq_none->OK,getElem_mem->OM,extract_eq_take_drop->ON,getElem?_set_ne->OT,reverse_append->OX,pairwise_iff_getElem->O0,any_eq_true->O3,ext_getElem?->O8,getElem?_range->Pb,getElem_of_mem->Pc,mem_of_mem_head?->Pj,drop_eq_getElem_cons->Pl,all_cons->Pp,isEmpty_iff->Px,eq_nil_of_length_eq_zero->PJ,getLast?_eq_some_getLast->PK,take_of_length_le->PL,idxOf_lt_length_of_mem->PX,pairwise_map->PY,length_take->P6,filterMap_cons->Qd,map_congr_left->Qe,flatMap_append->Qf,mem_filter->Qj,pairwise_cons->Ql,zip_cons_cons->Qm,head?_eq_some_head->Qo,filter_eq_nil_iff->Qq,length_drop->Qv,reverse_reverse->Qz,nil_append->QE,map_nil->QF,getElem_idxOf->QL,perm_ext_iff_of_nodup->QM,length_eraseIdx_of_lt->QN,filter_append->QO,sublist_append_right->QR,reverse_cons->QV,reverse_perm->QW,take_add_one->QY,getElem?_take_of_lt->QZ,drop_length->Q4,take_length->Q5,perm_middle->Q6,nodup_range->Q7,not_mem_nil->Q8,mem_flatMap->Q9,pairwise_lt_range->Rg,of_mem_zip->Rh,foldl_cons->Rl,length_singleton->Rp,contains_iff_mem->Rv,eq_nil_or_concat->Rw,concat_eq_append->Rx,getElem?_of_mem->RD,perm_iff_count->RG,length_pos_iff->RJ,any_cons->RQ,mem_filterMap->RU,any_eq_false->RY,take_sublist->RZ,count_append->R0,take_succ_eq_append_getElem->R1,eraseIdxIfInBounds_toArray->R7,getElem_inj->Sf,getD->Sh,range'_succ->Sj,forIn_cons->Sw,drop_drop->SO,nodup_nil->SR,map->SS,getLast?_eq_none_iff->S8,eq_of_mem_replicate->Te,getElem?_replicate->Tp,drop_of_length_le->Tt,length_replicate->Tv,set_append_right->TC,getElem?_toArray->TF,pairwise_flatMap->TM,length->TR,range'->TU,mem_of_mem_take->TV,getLast?_append->T3,take_set_of_le->T7,Nodup->Uj,lookup_append->Um,map_singleton->Uo,getElem?_set->Ut,flatMap_cons->Uy,map_reverse->UA,cons_append->UB,getElem_zip->UG,filter_cons->UJ,count_cons->UL,find?_cons->UM,drop_zero->UZ,take_add->U8,drop_nil->Vc,foldl->VS
open PySem.Heap renaming get?_push_of_some->Nm,lt_size->Nz,get?_push_size->NH,get?_update_other->Pf,get?_update_self->Ph,SameBut->Qp,size_push->SN,get?_push_ne->Uu,size_update->UC
open Nat renaming lt_of_lt_of_le->Nn,le_refl->Nr,ne_of_lt->NR,le_trans->N5,zero_le->Ou,lt_irrefl->OE,not_lt_zero->OZ,lt_of_le_of_lt->O5,pow_le_pow_right->O7,lt_succ_of_lt->O9,le_add_right->Pg,add_sub_cancel_left->PB,ne_of_gt->P8,le_of_not_lt->P9,lt_succ_self->Qa,zero_add->Qb,le_of_lt->QG,lt_trans->QJ,le_succ->Q0,mod_lt->Rm,le_of_ble_eq_true->RB,mul_le_mul_right->RE,le_of_eq->R8,pow_succ->R9,sub_self->Se,lt_of_not_le->Ss,min_self->Tx,sub_zero->TB,ble->TL,add_le_add_left->Ug,not_lt->Us,le_max_right->UK,le_max_left->UY,log2_lt->Vu,pow_pos->VT,sub_le->VX
open Array renaming getElem?_eq_getElem->NC,length_toList->NP,getD_eq_getD_getElem?->NQ,toList_append->NW,getElem?_toList->NZ,getElem?_eq_some_iff->Oj,getD->Ox,getElem?_eq_none->OG,toList_push->OO,toList_reverse->OS,toList_extract->Pm,perm_iff_toList_perm->P4,getElem?_push->Qc,toList_inj->Qu,size_setIfInBounds->QX,mem_toList_iff->Ry,size_map->Rz,toList_eraseIdxIfInBounds->R3,toList_map->Sb,toList_setIfInBounds->SE,getElem?_replicate->S4,toList->To,getElem?_extract->Tq,toList_filterMap->Ts,size_extract->T8,forIn_toList->T9
open Option.some renaming inj->NJ,injEq->VY
open PySem.SetTable renaming insertAt->N7,below->Oy,leap->OP,turns->OQ,bits->OU,runEnd->OV,fresh->Sk,has->SV,layClean->TH,grown->Uk,slot->Uv,laid->Uw,fits->Ux
open PySem.Value renaming ref->Of,none->P1,type->Qi,builtin->RF,int->R5,str->Uq,isStrOf->UX,isInt->Vd,bool->Vj
open List.Perm renaming append_left->Ol,trans->PD,refl->QD,eq_of_pairwise->QK,swap->Ub
open Sum renaming inl->Ot,inr->Qr
open Int renaming toNat_natCast->OF,gcd->Po,fmod_nonneg_of_pos->Rk,emod_nonneg->Rq,fmod_lt_of_pos->RW,emod_lt_of_pos->RX,le_refl->Sz,fmod_eq_emod_of_nonneg->S7,toNat_of_nonneg->Up,mul_comm->Vo
open PyProof.Rows renaming slot_tuple_getitem->OJ,callWith_type1->Py,callWith_builtin1->RC,tuple_addW0->Vv,list_addW->Vw,IntsAre->Vz,envOfC->VQ
open Classical renaming byContradiction->OL
open PySem.Builtin.Str renaming glued->OR,tooLong->Rc,occurrences->Sm
open PySem.Obj renaming mapFields->OW,mapSeq->PM,data_mapFields->QQ,putSet->Ro,isFreed_of_fields->TY,cls_mapFields->UD
open PySem.F renaming called_set->O1,slot_dict_keyiterator_next->Pe,plainAttrs_list->Pu,args_tuple_add_2->QP,entry_tuple_add->QU,slot_tuple_add->Q3,plain_extend_loop->Sy,slot_list_extend->SD,args_dict_keyiterator_next_1->SF,slot_tuple_index->SG,entry_dict_keyiterator_next->SQ,plain_list_iadd->SW,plainAttrs_str->S6,slot_list_pop->Tf,type_list_pop->Tg,plain_set_new->Tj,slot_set_iter->Tn,excAttr_ValueError->Ur,entry_list_pop->U7,slot_dict_iter->Va,slot_list_pop->Vg
open PySem.SetTable.layClean renaming free->O2
open Ne renaming symm->Pa
open Except renaming ok->Pk
open PySem renaming mem_of_lookup->Pw,Builtin->RH,Str->S9,call->T5,Within->U5,Fin->Vx
open ForInStep renaming yield->Pz
open PySem.Builtin.Slice renaming slicePlaces->PN,sliceAdjust->Qw,sliceApplied->RM,slicePartIndex->Vl,sliceFields->Vm
open PyProof.Rows.F renaming plain_set_update_loop->PQ,entry_set_update_loop->Q2
open PySem.Txt renaming slice->PR,slice_le->Sa
open PySem.Heap.SameBut renaming update->PU,refl->VA
open PySem.Builtin.Tuple renaming tupleExact->PV,tupleItemsOf->RN,tupleIsExact->Vp
open PySem.Builtin.List renaming listTooLong->PZ,listLengthHint->RS,listExtendWith->RT,listSameRef->R4
open PySem.Around renaming under_plainId->P0
open PySem.NameKind renaming free->P7
open PyProof.Rows.SortSt renaming mk'->Qg
open Prod.mk renaming inj->Qh,injEq->UI
open False renaming elim->Qk
open List.Sublist renaming append->Qs,refl->QB
open Option renaming map->Qt,map_map->Ru,isNone_iff_eq_none->SH,getD_none->Ue,getD->U9,any->Vi
open PySem.SetTable.below renaming go->Qx
open PySem.SetTable.probe renaming go->Qy
open List.Pairwise renaming imp_of_mem->QC,nil->Vn,filterMap->Vq,filter->Vs
open PySem.Str renaming ofString->QH,length->VW
open PySem.SeqAt renaming EqAt->QI
open PySem.Calls renaming callWith_builtin->Rb,Name_function_global->SA,call_function_entry->SU,evalArgs_plain->Tw,spliced_cons->T4,spliced_nil->Uc
open PySem.Builtin.Dict_items renaming ownsTuple->Rf
open Pure renaming pure->Si
open PySem.Builtin.Dict renaming showsAll->Su,dictSlotNone->Vy
open PySem.Manifest renaming sig_set_iterator->Sv,owners->Ua
open PySem.AutoSeq1 renaming wpAny_loadPart'->Sx
open PySem.Paired renaming length->SI
open PySem.Builtin.Int renaming intBits->SK
open PySem.SeqAt.EqAt renaming int_str->Ta,str_int->Tc
open Std.Legacy renaming Range->Tu
open PySem.Code renaming quiet_builtin->Uh
open List.cons renaming inj->Ui
open PySem.Builtin.ObjectAttr renaming bindTo->Uz
open Nat.succ renaming inj->UE
open PySem.Builtin.Frozenset renaming newClass->UO,updateFrom->UQ,slot0->UT,sizeOf->UU
open PySem.Shared renaming TypeIs->UP
open String renaming ofList->UR
open Prod renaming fst->U0
open Std.Legacy.Range renaming forIn_eq_forIn_range'->U1,size->U2
open PySem.W.SharedT renaming abs->U4
open PySem.CmpOp renaming NotIn->Ve,In->VU
open PySem.Heap.IsSliceOf renaming new->Vf
open PySem.W.WShape renaming has->Vh
open PySem.Builtin.Range renaming rangeSize->Vk
open PySem.StrLaws renaming seqIndex_nonneg->Vr
open PySem.W.WData renaming int->Vt
open PySem.W.Fast renaming tw11892475500146522536->VB,tw14364793385576792824->VC,tw6613529449190102663->VD,tw10156331382660048174->VE,tw10274390034422433532->VF,tw14289696077712309145->VG,tw4187177175401517315->VH,te11892475500146522536->VI,te14364793385576792824->VJ,te6613529449190102663->VL,te10156331382660048174->VM,te10274390034422433532->VN,te14289696077712309145->VO,te4187177175401517315->VP
open PySem.Flow renaming next->VV
set_option Elab.async false
set_option linter.all false
set_option maxRecDepth 100000
abbrev gq(x:S9):Prop:=(x==("__debug__" : S9))=false
abbrev uR(x:S9):Prop:=(x==("__classdict__" : S9))=false
noncomputable section
namespace L2
open PySem PySem.Spec PyProof.Rows
noncomputable abbrev Key:=Sum Int Str
noncomputable def gc:Key->Value->Bool
 | .inl k,v=>Vd k v
 | .inr x,v=>UX x v
noncomputable def KP(w:World):Key->Int
 | .inl k=>hashInt k
 | .inr x=>hashStr w x
theorem aL:∀{k:Key}{v:Value},gc k v=true->(∃i t,k=Ot i/\v=R5 i t)\/(∃x t,k=Qr x/\v=Uq x t)
 | .inl i,v,h=>by obtain⟨t,e⟩:=Value.isInt_shape (k:=i) (v:=v) h;exact .inl ⟨i,t,rfl,e⟩
 | .inr x,v,h=>by obtain⟨t,e⟩:=Value.isStrOf_shape (x:=x) (v:=v) h;exact .inr ⟨x,t,rfl,e⟩
theorem uj(i:Int)(t:Tok):gc (.inl i) (.int i t)=true:=by simp[gc,Vd]
theorem ui(x:Str)(t:Tok):gc (.inr x) (.str x t)=true:=by simp[gc,UX]
theorem FZ(a b:Int):decide ((Ot a:Key)=Ot b)=(a==b):=by
 by_cases e:a=b
 .subst e;simp
 .have h:¬ (Ot a:Key)=Ot b:=λq=>e (Ot.inj q);rw[decide_eq_false h];exact(beq_eq_false_iff_ne.mpr e).symm
theorem Fz(a b:Str):decide ((Qr a:Key)=Qr b)=decide (a=b):=by
 by_cases e:a=b
 .subst e;simp
 .have h:¬ (Qr a:Key)=Qr b:=λq=>e (Qr.inj q);rw[decide_eq_false h,decide_eq_false e]
theorem EG(a:Int)(b:Str):decide ((Ot a:Key)=Qr b)=false:=decide_eq_false (λq=>nomatch q)
theorem D1(a:Str)(b:Int):decide ((Qr a:Key)=Ot b)=false:=decide_eq_false (λq=>nomatch q)
def aW(prog:Program)(w:World):PySem.KeyKind prog w Key where
 is:=gc
 hash:=KP w
 inj:=λv a b ha hb=>by
  rcases aL ha with ⟨i,t,rfl,rfl⟩|⟨x,t,rfl,rfl⟩
  .rcases aL hb with ⟨j,u,rfl,e⟩|⟨y,u,rfl,e⟩
   .injection e with e1 _;rw[e1]
   .exact nomatch e
  .rcases aL hb with ⟨j,u,rfl,e⟩|⟨y,u,rfl,e⟩
   .exact nomatch e
   .injection e with e1 _;rw[e1]
 byValue:=λk v h=>by rcases aL h with ⟨i,t,rfl,rfl⟩|⟨x,t,rfl,rfl⟩<;>rfl
 pyHash:=λc h=>by
  rcases aL c with ⟨i,t,rfl,rfl⟩|⟨x,t,rfl,rfl⟩
  .exact wpAny_pyHash_int h
  .exact wpAny_pyHash_str h
 eqBool:=λd c h=>by
  rcases aL d with ⟨i,t,rfl,rfl⟩|⟨x,t,rfl,rfl⟩
  .rcases aL c with ⟨j,u,rfl,rfl⟩|⟨y,u,rfl,rfl⟩
   .rw[FZ] at h;exact wpAny_eqBool_int h
   .rw[EG] at h;exact Ta i t y u _ _ _ _ h
  .rcases aL c with ⟨j,u,rfl,rfl⟩|⟨y,u,rfl,rfl⟩
   .rw[D1] at h;exact Tc x t j u _ _ _ _ h
   .rw[Fz] at h;exact wpAny_eqBool_str h
 «strs»:=λk x t v h=>by
  rcases aL h with ⟨i,u,rfl,e⟩|⟨y,u,rfl,e⟩
  .exact nomatch e
  .injection e with e1 _;subst e1;cases v<;>rfl
theorem ot(prog:Program)(w:World)(i:Int)(t:Tok):(aW prog w).is (.inl i) (.int i t)=true:=uj i t
theorem n5(prog:Program)(w:World)(x:Str)(t:Tok):(aW prog w).is (.inr x) (.str x t)=true:=ui x t
inductive V where
 |non|bl(b:Bool)|int(i:Int)|str(x:Str)|byt(b:Array UInt8)|flt(b:UInt64)|ref(a:Addr)|ty(n:String)
 deriving DecidableEq
def RelV:V->Value->Prop
 | .non,u=>u=P1
 | .bl b,u=>u=Vj b
 | .int i,u=>∃t,u=R5 i t
 | .str x,u=>∃t,u=Uq x t
 | .byt b,u=>∃t,u=Value.bytes b t
 | .flt b,u=>∃t,u=Value.float b t
 | .ref a,u=>u=Of a
 | .ty n,u=>u=Qi n
abbrev Vals:List V->List Value->Prop:=Paired RelV
theorem Vals.length{xs:List V}{us:List Value}(r:Vals xs us):xs.length=us.length:=SI r
theorem Vals.get:∀{xs:List V}{us:List Value}{i:Nat}{x:V},Vals xs us->xs[i]?=some x->∃u,us[i]?=some u/\RelV x u
 |_,_,_,_,.nil,e=>by simp at e
 |_,_,0,_,.cons r _,e=>by simp at e;subst e;exact⟨_,rfl,r⟩
 |_,_,i+1,x,.cons _ t,e=>by obtain⟨u,h1,h2⟩:=Vals.get (i:=i) (x:=x) t (by simpa using e);exact⟨u,by simpa using h1,h2⟩
theorem Vals.set{x:V}{u:Value}(r:RelV x u):∀{xs:List V}{us:List Value}(i:Nat),Vals xs us->Vals (xs.set i x) (us.set i u)
 |_,_,_,.nil=>.nil
 |_,_,0,.cons _ t=>.cons r t
 |_,_,i+1,.cons q t=>.cons q (Vals.set r i t)
theorem Vals.append:∀{xs ys:List V}{us a:List Value},Vals xs us->Vals ys a->Vals (xs++ys) (us++a)
 |_,_,_,_,.nil,s=>s
 |_,_,_,_,.cons r t,s=>.cons r (Vals.append t s)
theorem Vals.take:∀{xs:List V}{us:List Value}(n:Nat),Vals xs us->Vals (xs.take n) (us.take n)
 |_,_,0,_=>.nil
 |_,_,_+1,.nil=>.nil
 |_,_,n+1,.cons r t=>.cons r (Vals.take n t)
theorem Vals.drop:∀{xs:List V}{us:List Value}(n:Nat),Vals xs us->Vals (xs.drop n) (us.drop n)
 |_,_,0,r=>r
 |_,_,_+1,.nil=>.nil
 |_,_,n+1,.cons _ t=>Vals.drop n t
def G0:Option V->Option Value->Prop
 |some v,some u=>RelV v u
 |none,none=>True
 |_,_=>False
def KV{κ:Type}:List (κ×V)->List (κ×Value)->Prop:=Paired λ(p:κ×V)(q:κ×Value)=>p.1=q.1/\RelV p.2 q.2
noncomputable def kV:Key->V
 | .inl i=>.int i
 | .inr x=>.str x
inductive HO where
  |lst(xs:List V)
  |tup(xs:List V)
  |dK(kvs:List (Key×V))|dT(kvs:List (List Key×V))
  |set(S:Int->Bool)(n:Nat)
  |ins(C dx:Addr)(fs:List (Str×V))
  |own(x:Addr)
  |xd(fs:List (Str×V))
  |met(f x:Addr)
  |rng(lo hi:Int)
  |frz(o:Obj)(u:HO)
  |tbl(ps:Array Value)
  |ext(φ:Heap->Prop)
noncomputable abbrev Hp:=Addr->Option HO
noncomputable def upd(H:Hp)(a:Addr)(o:HO):Hp:=λb=>if b=a then some o else H b
variable{H:Hp}
theorem bT{a:Addr}{o:HO}:upd H a o a=some o:=by unfold upd;rw[if_pos rfl]
variable{b:Addr}
theorem aE{a:Addr}{o:HO}(h:b≠a):upd H a o b=H b:=by unfold upd;rw[if_neg h]
theorem aH{a:Addr}{o:HO}(h:H a=some o)(h':H b=none):a≠b:=by intro e;subst e;rw[h] at h';cases h'
variable{h:Heap}
section
variable(P:Program)(w:World)
def fE(h:Heap)(a:Addr)(items:Array Value):Prop:=∃o,h.get? a=some o/\o.cls=.type "tuple" /\ ∃n,o.data=.seq items n/\o.dict=none
theorem fE.t{a:Addr}{items:Array Value}(x:fE h a items):IsTup h a items:=let ⟨o,e,c,n,d,_⟩:=x;⟨o,e,c,n,d⟩
theorem fE.new(h:Heap)(items:Array Value):fE (h.push { cls:=.type "tuple",data:=.seq items }) h.objs.size items:=⟨_,NH _ rfl,rfl,_,rfl,rfl⟩
def bj(H:Hp)(h:Heap)(a:Addr):HO->Prop
 | .lst xs=>xs.length<=sizeLine/\∃(b:List Value)(n:Nat),Vals xs b/\h.get? a=some { cls:=.type "list",data:=.seq b.toArray n }
 | .tup xs=>xs.length<=sizeLine/\∃b:List Value,Vals xs b/\fE h a b.toArray
 | .dK kvs=>kvs.length<=sizeLine/\(a==sysModules)=false/\∃vs,KV kvs vs/\h.DictOf (aW P w) a vs
 | .dT kvs=>kvs.length<=sizeLine/\(a==sysModules)=false/\∃xs:List (List Key×Addr×Value),
   Paired (λ(p:List Key×V)(q:List Key×Addr×Value)=>p.1=q.1/\H q.2.1=some (.tup (p.1.map kV))/\RelV p.2 q.2.2) kvs xs /\
   ∃o es ep,h.get? a=some o/\o.ExactDict/\o.data=.dict es ep/\es.toList=xs.map (entryOfKey (tupleKind (aW P w)))/\(xs.map (·.1)).Nodup
 | .set S n=>h.SetOf (intKind P w) a S n
 | .ins C dx fs=>H dx=some (.own a)/\fs.length<=1000/\dx≠a/\h.get? a=some (R6 C dx) /\
   ∃mA,h.Ns1 dx mA/\(∀f,G0 (fs.lookup f) (mA f))/\U5 mA (fs.map (·.1))
 | .own _=>∃o,h.get? a=some o
 | .xd fs=>∃mA,h.Ns1 a mA/\∀f,G0 (fs.lookup f) (mA f)
 | .rng lo hi=>∃t u v,h.get? a=some { cls:=.type "range",data:=.fields #[.int lo t,.int hi u,.int 1 v] }
 | .frz o u=>h.get? a=some o/\bj H h a u
 | .tbl ps=>h.get? a=some { cls:=.none,data:=.fields ps }
 | .met f x=>h.get? a=some (RK (.ref f) (.ref x))
 | .ext φ=>φ h/\(∃o,h.get? a=some o)/\∀h1 h2:Heap,φ h1->(∀o,h1.get? a=some o->h2.get? a=some o)->φ h2
def iD(H:Hp)(h:Heap):Prop:=∀a o,H a=some o->bj P w H h a o
end
section
variable{P:Program}{w:World}{H H':Hp}{h h':Heap}{a:Addr}{o:HO}
theorem bj.lt(x:bj P w H h a o):a<h.objs.size:=by
 cases o with
 |lst xs=>obtain⟨_,_,_,_,e⟩:=x;exact Nz e
 |tup xs=>obtain⟨_,_,_,p⟩:=x;exact p.t.lt
 |dK kvs=>obtain⟨_,_,_,_,o,_,_,e,_⟩:=x;exact Nz e
 |dT kvs=>obtain⟨_,_,_,_,o,_,_,e,_⟩:=x;exact Nz e
 |set S n=>obtain⟨o,_,_,_,e,_⟩:=x;exact Nz e
 |ins C dx fs=>obtain⟨_,_,_,e,_⟩:=x;exact Nz e
 |own y=>obtain⟨_,e⟩:=x;exact Nz e
 |xd fs=>obtain⟨_,⟨_,_,_,e,_⟩,_⟩:=x;exact Nz e
 |rng lo hi=>obtain⟨_,_,_,e⟩:=x;exact Nz e
 |frz ob u=>obtain⟨e,_⟩:=x;exact Nz e
 |tbl ps=>exact Nz (show h.get? a=some _ from x)
 |met f y=>exact Nz (show h.get? a=some _ from x)
 |ext φ=>obtain⟨_,⟨_,e⟩,_⟩:=x;exact Nz e
theorem Paired.IU{α β:Type}{F G:α->β->Prop}:∀{e:List α}{l₂:List β},Paired F e l₂->(∀a b,F a b->G a b)->Paired G e l₂
 |_,_,.nil,_=>.nil
 |_,_,.cons r t,f=>.cons (f _ _ r) (Paired.IU t f)
theorem bj.q5(x:bj P w H h a o)(k:∀b u,(b=a\/H b=some (.own a))->h.get? b=some u->h'.get? b=some u)
  (ho:∀b,H b=some (.own a)->H' b=some (.own a))(ht:∀b xs,H b=some (.tup xs)->H' b=some (.tup xs)):bj P w H' h' a o:=by
 induction o with
 |lst xs=>obtain⟨z,g,n,r,e⟩:=x;exact⟨z,g,n,r,k _ _ (.inl rfl) e⟩
 |tup xs=>obtain⟨z,g,r,ob,e,c⟩:=x;exact⟨z,g,r,ob,k _ _ (.inl rfl) e,c⟩
 |dK kvs=>obtain⟨z,y,vs,r,ob,es,ep,e,c⟩:=x;exact⟨z,y,vs,r,ob,es,ep,k _ _ (.inl rfl) e,c⟩
 |dT kvs=>obtain⟨z,y,xs,r,ob,es,ep,e,c⟩:=x;exact⟨z,y,xs,Paired.IU r λp q z=>⟨z.1,ht _ _ z.2.1,z.2.2⟩,ob,es,ep,k _ _ (.inl rfl) e,c⟩
 |set S n=>obtain⟨ob,es,ep,t,e,c⟩:=x;exact⟨ob,es,ep,t,k _ _ (.inl rfl) e,c⟩
 |ins C dx fs=>obtain⟨d,z,ne,e,mA,⟨od,es,ep,i,c⟩,r⟩:=x;exact⟨ho _ d,z,ne,k _ _ (.inl rfl) e,mA,⟨od,es,ep,k _ _ (.inr d) i,c⟩,r⟩
 |own y=>obtain⟨ob,e⟩:=x;exact⟨ob,k _ _ (.inl rfl) e⟩
 |xd fs=>obtain⟨mA,⟨od,es,ep,e,c⟩,r⟩:=x;exact⟨mA,⟨od,es,ep,k _ _ (.inl rfl) e,c⟩,r⟩
 |rng lo hi=>obtain⟨t,u,v,e⟩:=x;exact⟨t,u,v,k _ _ (.inl rfl) e⟩
 |frz ob u j=>obtain⟨e,q⟩:=x;exact⟨k _ _ (.inl rfl) e,j q⟩
 |tbl ps=>have e:h.get? a=some { cls:=.none,data:=.fields ps }:=x;show h'.get? a=some { cls:=.none,data:=.fields ps };exact k a _ (.inl rfl) e
 |met f y=>have e:h.get? a=some (RK (.ref f) (.ref y)):=x;show h'.get? a=some (RK (.ref f) (.ref y));exact k a _ (.inl rfl) e
 |ext φ=>obtain⟨p,⟨o,e⟩,st⟩:=x;exact⟨st _ _ p λo q=>k _ _ (.inl rfl) q,⟨o,k _ _ (.inl rfl) e⟩,st⟩
theorem iD.lt(x:iD P w H h)(e:H a=some o):a<h.objs.size:=(x a o e).lt
theorem iD.fresh(x:iD P w H h)(e:h.objs.size<=a):H a=none:=by
 cases q:H a with
 |none=>rfl
 |some u=>exact absurd (Nn (x.lt q) e) (OE _)
theorem iD.kept(x:iD P w H h)(k:∀b u,h.get? b=some u->h'.get? b=some u):iD P w H h':=λa o e=>(x a o e).q5 (λb u _ q=>k b u q) (λ_ q=>q) λ_ _ q=>q
theorem iD.laid(x:iD P w H h)(k:∀b u,h.get? b=some u->h'.get? b=some u)(hp:h.objs.size<=a)(new:bj P w (upd H a o) h' a o):iD P w (upd H a o) h':=λb u e=>by
 have hn:=x.fresh hp;by_cases hb:b=a
 .subst hb;rw[bT] at e;cases e;exact new
 .rw[aE hb] at e;exact(x b u e).q5 (λc v _ q=>k c v q) (λc q=>by rw[aE (aH q hn)];exact q) λc xs q=>by rw[aE (aH q hn)];exact q
end
def Rd(H:Hp)(a:Addr)(u:HO):Prop:=H a=some u\/∃o,H a=some (.frz o u)
variable{P:Program}{w:World}
theorem Rd.ok{a:Addr}{u:HO}(r:Rd H a u)(x:iD P w H h):bj P w H h a u:=by
 rcases r with r|⟨o,r⟩
 .exact x a u r
 .obtain⟨_,q⟩:=x a _ r;exact q
def HV:Option HO->Prop
 |some (.lst _)=>True
 |some (.dK _)=>True
 |some (.dT _)=>True
 |some (.set _ _)=>True
 |some (.ins _ _ _)=>True
 |some (.ext _)=>True
 |_=>False
section
variable{P:Program}{w:World}{H:Hp}{h h':Heap}{x e:Addr}{o':HO}
theorem iD.write(ok:iD P w H h)(mu:HV (H x))(he:e=x\/H e=some (.own x))(k:∀b u,b≠e->h.get? b=some u->h'.get? b=some u)(n:∃u,h'.get? e=some u)
  (new:bj P w (upd H x o') h' x o'):iD P w (upd H x o') h':=λb u q=>by
 have l:∀c y,H c=some (.own y)->c≠x:=λc y r z=>by subst z;rw[r] at mu;exact mu
 have m:∀c xs,H c=some (.tup xs)->c≠x:=λc xs r z=>by subst z;rw[r] at mu;exact mu
 by_cases hb:b=x
 .subst hb;rw[bT] at q;cases q;exact new
 .rw[aE hb] at q;by_cases f:b=e
  .have o:H b=some (.own x):=by
    rcases he with z|z
    .exact absurd (f.trans z) hb
    .rw[f];exact z
   rw[q] at o;cases o;obtain⟨v,p⟩:=n;exact⟨v,by rw[f];exact p⟩
  .refine(ok b u q).q5 (λc v hc r=>k c v ?_ r) (λc r=>by rw[aE (l c b r)];exact r) λc xs r=>by rw[aE (m c xs r)];exact r
   rcases hc with rfl|hc
   .exact f
   .rintro rfl;rcases he with z|z
    .exact l c b hc z
    .rw[hc] at z;cases z;exact hb rfl
end
structure Un(fs ex:List Addr)(H H':Hp)(h h':Heap):Prop where
 keep:∀b o,h.get? b=some o->H b=none->b∉fs->b∉ex->h'.get? b=some o
 slot:∀b o,h.get? b=some o->H b=none->b∈fs->b∉ex->∃sl,h'.get? b=some { o with slots:=sl }
 free:∀b o,h.get? b=some o->H b=none->b∉ex->H' b=none
 there:∀b o,h.get? b=some o->b∉ex->∃o',h'.get? b=some o'
 tups:∀b xs,H b=some (.tup xs)->H' b=some (.tup xs)
 frzs:∀b o u,H b=some (.frz o u)->H' b=some (.frz o u)
 tbls:∀b ps,H b=some (.tbl ps)->∃more,H' b=some (.tbl (ps++more))
section
variable{fs fs' ex ex':List Addr}{H H1 H2:Hp}{h h1 h2 h':Heap}{a x e:Addr}{o:HO}
theorem Un.any(u:Un fs ex H H1 h h1){ob:Obj}(q:h.get? b=some ob)(n:H b=none)(hx:b∉ex):∃sl,h1.get? b=some { ob with slots:=sl }:=by
 by_cases hb:b∈fs
 .exact u.slot b ob q n hb hx
 .exact⟨ob.slots,u.keep b ob q n hb hx⟩
theorem Un.kept(k:∀b u,h.get? b=some u->h'.get? b=some u):Un fs ex H H h h':=
 ⟨λb ob q _ _ _=>k b ob q,λb ob q _ _ _=>⟨ob.slots,k b ob q⟩,λ_ _ _ n _=>n,λb ob q _=>⟨ob,k b ob q⟩,λ_ _ q=>q,λ_ _ _ q=>q,λ_ ps q=>⟨#[],by rw[q];simp⟩⟩
theorem Un.refl:Un fs ex H H h h:=Un.kept λ_ _ q=>q
theorem Un.laid(k:∀b u,h.get? b=some u->h'.get? b=some u)(hp:h.objs.size<=a)(hn:H a=none):Un fs ex H (upd H a o) h h' where
 keep:=λb u q _ _ _=>k b u q
 slot:=λb u q _ _ _=>⟨u.slots,k b u q⟩
 free:=λb u q n _=>by rw[aE (NR (Nn (Nz q) hp))];exact n
 there:=λb u q _=>⟨u,k b u q⟩
 tups:=λb xs q=>by rw[aE (aH q hn)];exact q
 frzs:=λb u xs q=>by rw[aE (aH q hn)];exact q
 tbls:=λb ps q=>⟨#[],by rw[aE (aH q hn),q];simp⟩
theorem Un.write(mu:HV (H x))(he:e=x\/H e=some (.own x))(k:∀b u,b≠e->h.get? b=some u->h'.get? b=some u)(s:∃u,h'.get? e=some u):Un fs ex H (upd H x o) h h':=by
 have hx:∀b,H b=none->b≠x:=λb n z=>by subst z;rw[n] at mu;exact mu
 have hb:∀b,H b=none->b≠e:=λb n z=>by
  subst z;rcases he with r|r
  .exact hx b n r
  .rw[n] at r;cases r
 have hm:∀b u,H b=some u->¬ HV (some u)->b≠x:=λb u q nm z=>by subst z;rw[q] at mu;exact nm mu
 refine⟨λb u q n _ _=>k b u (hb b n) q,λb u q n _ _=>⟨u.slots,k b u (hb b n) q⟩,λb u q n _=>by rw[aE (hx b n)];exact n,λb u q _=>?_,
  λb xs q=>by rw[aE (hm b _ q λz=>z)];exact q,λb u xs q=>by rw[aE (hm b _ q λz=>z)];exact q,λb ps q=>⟨#[],by rw[aE (hm b _ q λz=>z),q];simp⟩⟩
 by_cases f:b=e
 .subst f;exact s
 .exact⟨u,k b u f q⟩
end
noncomputable def J6(h:Heap)(H:Hp):List Addr:=(NA h.objs.size).filter λa=>(H a).isSome
def m6(h:Heap)(H:Hp):Heap:=PySem.W.hideAll h (J6 h H)
theorem ve(h:Heap)(H:Hp):(m6 h H).objs.size=h.objs.size:=PySem.W.hideAll_size _ _
variable{o:Obj}
theorem we(e:h.get? b=some o)(n:H b=none):(m6 h H).get? b=some o:=
 PySem.W.hideAll_get _ e λhm=>by have q:(H b).isSome=true:=(Qj.mp hm).2;rw[n] at q;simp at q
theorem Bw(e:(m6 h H).get? b=some o):h.get? b=some o/\H b=none:=by
 have e':h.get? b=some o:=PySem.W.of_hideAll (J6 h H) e;refine⟨e',?_⟩;cases q:H b with
 |none=>rfl
 |some x=>have hm:b∈J6 h H:=Qj.mpr ⟨NU.mpr (Nz e'),by simp[q]⟩;have z:(m6 h H).get? b=none:=PySem.W.hideAll_none (J6 h H) hm;rw[z] at e;cases e
noncomputable def B0(g h:Heap)(L:Addr):List (Addr×Obj):=(NA h.objs.size).filterMap λa=>if a=L\/(g.get? a).isSome=true then none else (h.get? a).map λo=>(a,o)
def rest(g h:Heap)(L d:Addr):List (Addr×Obj):=(B0 g h L).filter λp=>decide (p.1≠d)
structure Mod(K:Nh)(mg:Str->Option Value)(base:Heap):Prop where
 kin:K.In base
 glob:base.Ns mainGlobals mg
 blt:∃mb,base.Ns builtinsNs mb/\∀x:Str,x ≠ "__name__" -> mb x=bootBuiltins x
 nolimit:base.NoLimit
structure Cx where
 prog:Program
 w:World
 K:Nh
 mg:Str->Option Value
 base:Heap
 A:Around
 N:List Str
 s₀:Shared
 H₀:Hp
 env:Env
 outer:List Env
 stack:List Env
 ex:List Addr
 fn:Str->Bool
 calm:Bool
 pn:List (Addr×Obj)
 xe:Value->Shared->Prop
noncomputable def jo(l:List Env):List Addr:=l.filterMap (·.frame)
abbrev Cx.fs(X:Cx):List Addr:=jo X.outer
def pH(sc:Scope)(x:Str):Prop:=sc.names.lookup x=some .local\/sc.names.lookup x=some .cell\/sc.names.lookup x=some .free
def Loc(sc:Scope)(x:Str):Prop:=sc.names.lookup x=some .local\/sc.names.lookup x=some .cell
def Look(env:Env)(h:Heap)(m:Str->Option Value)(x:Str)(u:Value):Prop:=
 (env.kindOf x=some .local/\m x=some u)\/((env.kindOf x=some .cell\/env.kindOf x=some .free)/\∃c,env.cells.lookup x=some c/\h.IsCell c (some u))
structure Cx.Ok(X:Cx):Prop where
 mod:Mod X.K X.mg X.base
 kind:X.env.scope.kind=.function
 glob:X.env.globals=mainGlobals
 blt:X.env.builtins=builtinsNs
 above:X.s₀.heap.objs.size<=X.env.locals
 inj:∀x y c,X.env.cells.lookup x=some c->X.env.cells.lookup y=some c->x=y
 has:∀x,(X.env.kindOf x=some .cell\/X.env.kindOf x=some .free)->∃c,X.env.cells.lookup x=some c
 cab:∀x c,X.fn x=true->X.env.cells.lookup x=some c->X.s₀.heap.objs.size<=c
 hd:X.calm=true->X.A.handled=none
 frames:X.A.frames=some X.stack
 stk:X.stack=X.outer\/(X.stack=X.env::X.outer/\X.env.frame=some X.env.locals)
 exf:∀b∈X.ex,b≠X.env.locals/\∀x c,X.env.cells.lookup x=some c->c≠b
 bs:∀b o,X.base.get? b=some o->X.s₀.heap.get? b=some o/\X.H₀ b=none
 bsz:X.base.objs.size<=X.s₀.heap.objs.size
 noex:∀b o,X.base.get? b=some o->b∉X.ex
 exfs:∀b∈X.ex,b∉X.fs
 l5:X.s₀.heap.FunFrames X.base X.outer
 frf:∀b∈X.fs,X.H₀ b=none
structure Inv(X:Cx)(pins:List (Addr×Obj))(Y:List (Option V))(H:Hp)(s:Shared):Prop where
 ok:X.Ok
 os:s.os=X.s₀.os
 bare:AllBare s.gens
 base:Un X.fs X.ex X.H₀ H X.s₀.heap s.heap
 loc:∃m,s.heap.Ns X.env.locals m/\∀(i:Nat)(x:Str)(v:V),X.N[i]?=some x->Y[i]?=some (some v)->pH X.env.scope x->∃u,RelV v u/\Look X.env s.heap m x u
 cell:∀x c,X.env.cells.lookup x=some c->∃v,s.heap.IsCell c v
 free:H X.env.locals=none
 freeC:∀x c,X.env.cells.lookup x=some c->H c=none
 pin:∀p∈X.pn++pins,s.heap.get? p.1=some p.2/\H p.1=none/\p.1≠X.env.locals/\p.1∉X.fs/\∀v,p.2.data≠.cell v
 hok:iD X.prog X.w H s.heap
 len:Y.length=X.N.length
variable{g':Array GenState}{t' i j:Nat}{d':Drawn}{ch:List Addr}{it:Addr}{N:List Str}{x:Str}{E:Value->Shared->Prop}{v:V}{u:Value}{Q:Unit->Shared->Prop}
section
variable{X:Cx}{pins:List (Addr×Obj)}{Y:List (Option V)}{H H':Hp}{s:Shared}{h':Heap}
theorem Cx.Ok.LA(ok:X.Ok)(e:X.base.get? b=some o):b∉X.fs:=λhb=>by have:=(ok.l5.mem hb).1;rw[e] at this;cases this
theorem Inv.bs(I:Inv X pins Y H s):∀b o,X.base.get? b=some o->s.heap.get? b=some o/\H b=none:=λb o e=>⟨I.base.keep b o (I.ok.bs b o e).1 (I.ok.bs b o e).2 (I.ok.LA e) (I.ok.noex b o e),I.base.free b o (I.ok.bs b o e).1 (I.ok.bs b o e).2 (I.ok.noex b o e)⟩
theorem Inv.bk(I:Inv X pins Y H s):∀b o,X.base.get? b=some o->s.heap.get? b=some o:=λb o e=>(I.bs b o e).1
theorem Inv.mod(I:Inv X pins Y H s):Mod X.K X.mg X.base:=I.ok.mod
theorem Inv.Cm(I:Inv X pins Y H s):X.K.In s.heap:=I.ok.mod.kin.keeps I.bk
theorem Inv.lt(I:Inv X pins Y H s):X.env.locals<s.heap.objs.size:=let ⟨_,hn,_⟩:=I.loc;hn.lt
theorem Inv.sz(I:Inv X pins Y H s):X.s₀.heap.objs.size<=s.heap.objs.size:=N5 I.ok.above (QG I.lt)
theorem Inv.IE(I:Inv X pins Y H s){a:Addr}(h:s.heap.objs.size<=a):a∉X.fs:=λhb=>by obtain⟨_,o,ho,_⟩:=I.ok.l5.mem hb;exact absurd (Nn (Nz ho) (N5 I.sz h)) (OE _)
theorem Inv.DN(I:Inv X pins Y H s):∀x c,X.env.cells.lookup x=some c->c≠X.env.locals:=λx c e z=>by obtain⟨v,o,ho,hd⟩:=I.cell x c e;obtain⟨m,⟨o',es,ep,h,k,_⟩,_⟩:=I.loc;rw[z,h] at ho;cases ho;rw[k] at hd;cases hd
theorem Inv.l5(I:Inv X pins Y H s):s.heap.FunFrames X.base X.outer:=by
 have all:∀(l:List Env),(∀b∈jo l,b∈X.fs)->X.s₀.heap.FunFrames X.base l->s.heap.FunFrames X.base l:=by
  intro l;induction l with
  |nil=>intro _ _;trivial
  |cons env r j=>intro hs hl;obtain⟨hk,⟨L,o,hf,hn,ho,hd⟩,t⟩:=hl;have q:L∈X.fs:=hs L (by unfold jo;rw[Qd,hf];exact Nu);obtain⟨sl,e⟩:=I.base.slot L o ho (I.ok.frf L q) q λz=>I.ok.exfs L z q;exact⟨hk,⟨L,_,hf,hn,e,hd⟩,j (λb hb=>hs b (by unfold jo;rw[Qd,hf];exact Nt _ hb)) t⟩
 exact all X.outer (λ_ hb=>hb) I.ok.l5
theorem Inv.stack(I:Inv X pins Y H s):s.heap.FunFrames X.base X.stack:=by
 rcases I.ok.stk with e|⟨e,hf⟩
 .rw[e];exact I.l5
 .rw[e];obtain⟨m,hn,_⟩:=I.loc;refine .cons (by rw[I.ok.kind];decide) hf hn ?_ I.l5;exact Heap.get?_none_of_le (N5 I.ok.bsz I.ok.above)
theorem Inv.ip(I:Inv X pins Y H s):∀b∈jo X.stack,b∈X.env.locals::X.fs:=λb hb=>by
 rcases I.ok.stk with e|⟨e,hf⟩
 .rw[e] at hb;exact Nt _ hb
 .rw[e] at hb;unfold jo at hb;rw[Qd,hf] at hb;exact hb
theorem Inv.tm(I:Inv X pins Y H s):∀b∈jo X.stack,H b=none:=λb hb=>by
 rcases ND.mp (I.ip b hb) with e|hb
 .rw[e];exact I.free
 .obtain⟨_,o,ho,_⟩:=I.ok.l5.mem hb;exact I.base.free b o ho (I.ok.frf b hb) λz=>I.ok.exfs b z hb
theorem Inv.step(I:Inv X pins Y H s)
  (y:∀b∈ch,(b∈X.ex\/X.s₀.heap.objs.size<=b)/\b≠X.env.locals/\(∀x c,X.env.cells.lookup x=some c->c≠b)/\∀p∈X.pn++pins,p.1≠b)
  (keep:∀b o,b≠X.env.locals->b∉X.fs->b∉ch->s.heap.get? b=some o->H b=none->h'.get? b=some o)
  (slot:∀b o,b≠X.env.locals->b∈X.fs->b∉ch->s.heap.get? b=some o->H b=none->∃sl,h'.get? b=some { o with slots:=sl })(free:∀b o,b∉ch->s.heap.get? b=some o->H b=none->H' b=none)
  (there:∀b o,b∉ch->s.heap.get? b=some o->∃o',h'.get? b=some o')
  (tups:∀b xs,H b=some (.tup xs)->H' b=some (.tup xs))(frzs:∀b o u,H b=some (.frz o u)->H' b=some (.frz o u))(tbls:∀b ps,H b=some (.tbl ps)->∃more,H' b=some (.tbl (ps++more)))
  (ns:∀m,s.heap.Ns X.env.locals m->h'.Ns X.env.locals m)(hok:iD X.prog X.w H' h')(K:AllBare g'):
  Inv X pins Y H' { s with heap:=h',gens:=g',drawn:=d',toks:=t' }:=by
 have E:∀b o,X.s₀.heap.get? b=some o->b≠X.env.locals:=λb o e=>NR (Nn (Nz e) I.ok.above);have C:∀b o,X.s₀.heap.get? b=some o->b∉X.ex->b∉ch:=λb o e hx hb=>by
  rcases(y b hb).1 with z|z
  .exact hx z
  .exact absurd (Nn (Nz e) z) (OE _)
 have A:∀x c,X.env.cells.lookup x=some c->∀v,s.heap.IsCell c v->h'.IsCell c v:=λx c e v ⟨o,ho,hd⟩=>by
  have B:c∉ch:=λz=>(y c z).2.2.1 x c e rfl;by_cases hc:c∈X.fs
  .obtain⟨sl,q⟩:=slot c o (I.DN x c e) hc B ho (I.freeC x c e);exact⟨_,q,hd⟩
  .exact⟨o,keep c o (I.DN x c e) hc B ho (I.freeC x c e),hd⟩
 refine⟨I.ok,I.os,K,⟨λb o e n hb hx=>?_,λb o e n hb hx=>?_,λb o e n hx=>?_,λb o e hx=>?_,λb xs e=>tups b xs (I.base.tups b xs e),λb o xs e=>frzs b o xs (I.base.frzs b o xs e),λb ps e=>?_⟩,?_,λx c e=>?_,?_,λx c e=>?_,λp hp=>?_,hok,I.len⟩
 .exact keep b o (E b o e) hb (C b o e hx) (I.base.keep b o e n hb hx) (I.base.free b o e n hx)
 .obtain⟨sl,D⟩:=I.base.slot b o e n hb hx;obtain⟨G,F⟩:=slot b _ (E b o e) hb (C b o e hx) D (I.base.free b o e n hx);exact⟨G,F⟩
 .obtain⟨o',D⟩:=I.base.there b o e hx;exact free b o' (C b o e hx) D (I.base.free b o e n hx)
 .obtain⟨o',D⟩:=I.base.there b o e hx;exact there b o' (C b o e hx) D
 .obtain⟨L,D⟩:=I.base.tbls b ps e;obtain⟨N,F⟩:=tbls b _ D;exact⟨L++N,by rw[F,Array.append_assoc]⟩
 .obtain⟨m,hn,hl⟩:=I.loc;refine⟨m,ns m hn,λi x v D F O=>?_⟩;obtain⟨u,r,l⟩:=hl i x v D F O;refine⟨u,r,?_⟩;rcases l with l|⟨k,c,e,z⟩
  .exact .inl l
  .exact .inr ⟨k,c,e,A x c e _ z⟩
 .obtain⟨v,z⟩:=I.cell x c e;exact⟨v,A x c e v z⟩
 .obtain⟨m,⟨o,_,_,ho,_⟩,_⟩:=I.loc;exact free _ o (λz=>(y _ z).2.1 rfl) ho I.free
 .obtain⟨v,o,ho,hd⟩:=I.cell x c e;exact free c o (λz=>(y c z).2.2.1 x c e rfl) ho (I.freeC x c e)
 .obtain⟨e,n,ne,J,d⟩:=I.pin p hp;have B:p.1∉ch:=λz=>(y p.1 z).2.2.2 p hp rfl;exact⟨keep p.1 p.2 ne J B e n,free p.1 p.2 B e n,ne,J,d⟩
theorem Inv.un(I:Inv X pins Y H s)(u:Un X.fs [] H H' s.heap h')(hok:iD X.prog X.w H' h'):Inv X pins Y H' { s with heap:=h',toks:=t' }:=by
 obtain⟨m,⟨o,es,ep,ho,r⟩,_⟩:=id I.loc;obtain⟨sl,q⟩:=u.any ho I.free (by simp);exact I.step (g':=s.gens) (d':=s.drawn) (ch:=[]) (λ_ z=>nomatch z) (λb o _ hb _ e n=>u.keep b o e n hb (by simp)) (λb o _ hb _ e n=>u.slot b o e n hb (by simp)) (λb o _ e n=>u.free b o e n (by simp)) (λb o _ e=>u.there b o e (by simp)) u.tups u.frzs u.tbls (λP hm=>by obtain⟨o',es',v,h,x⟩:=hm;rw[ho] at h;cases h;exact⟨_,es',v,q,x⟩) hok I.bare
theorem Inv.call(I:Inv X pins Y H s)(u:Un (jo X.stack) ch H H' s.heap h')(hok:iD X.prog X.w H' h')(K:AllBare g')
  (y:∀b∈ch,(b∈X.ex\/X.s₀.heap.objs.size<=b)/\b≠X.env.locals/\(∀x c,X.env.cells.lookup x=some c->c≠b)/\∀p∈X.pn++pins,p.1≠b):
  Inv X pins Y H' { s with heap:=h',gens:=g',drawn:=d',toks:=t' }:=by
 obtain⟨m,⟨o,es,ep,ho,r⟩,_⟩:=id I.loc;obtain⟨sl,q⟩:=u.any ho I.free λz=>(y _ z).2.1 rfl;exact I.step (ch:=ch) y (λb o q hb hc e n=>u.keep b o e n (λz=>(ND.mp (I.ip b z)).elim q hb) hc) (λb o _ _ hc e n=>u.any e n hc) (λb o hc e n=>u.free b o e n hc) (λb o hc e=>u.there b o e hc) u.tups u.frzs u.tbls (λP hm=>by obtain⟨o',es',v,h,Q⟩:=hm;rw[ho] at h;cases h;exact⟨_,es',v,q,Q⟩) hok K
theorem Inv.turned(I:Inv X pins Y H s)(k:∀b o,b≠it->s.heap.get? b=some o->h'.get? b=some o)(hn:H it=none)(R:it≠X.env.locals)
  (h1:it∈X.ex\/X.s₀.heap.objs.size<=it)(h2:∀x c,X.env.cells.lookup x=some c->c≠it)(h3:∀p∈X.pn++pins,p.1≠it):Inv X pins Y H { s with heap:=h',toks:=t' }:=by
 have w:∀b u,H b=some u->b≠it:=λb u e z=>by rw[z,hn] at e;cases e
 refine I.step (g':=s.gens) (d':=s.drawn) (ch:=[it]) (λb hb=>?_) (λb o _ _ hc e _=>k b o (λz=>hc (by simp[z])) e) (λb o _ _ hc e _=>⟨o.slots,k b o (λz=>hc (by simp[z])) e⟩) (λ_ _ _ _ n=>n)
  (λb o hc e=>⟨o,k b o (λz=>hc (by simp[z])) e⟩) (λ_ _ e=>e) (λ_ _ _ e=>e) (λb ps e=>⟨#[],by rw[e];simp⟩) (λm hm=>?_) (λb u e=>?_) I.bare
 .have e:b=it:=by simpa using hb
  subst e;exact⟨h1,R,h2,h3⟩
 .obtain⟨o,es,ep,ho,r⟩:=hm;exact⟨o,es,ep,k _ o (Pa R) ho,r⟩
 .refine(I.hok b u e).q5 (λc v hc q=>k c v ?_ q) (λ_ q=>q) λ_ _ q=>q;rcases hc with z|z
  .rw[z];exact w b u e
  .exact w c _ z
theorem Inv.tok(I:Inv X pins Y H s)(t:Nat):Inv X pins Y H { s with toks:=t }:=I.un (h':=s.heap) (t':=t) Un.refl I.hok
theorem Inv.kept{t':Nat}(I:Inv X pins Y H s)(k:∀b u,s.heap.get? b=some u->h'.get? b=some u):Inv X pins Y H { s with heap:=h',toks:=t' }:=I.un (Un.kept k) (I.hok.kept k)
theorem Inv.laid{a:Addr}{o:HO}{t':Nat}(I:Inv X pins Y H s)(k:∀b u,s.heap.get? b=some u->h'.get? b=some u)(hp:s.heap.objs.size<=a)(new:bj X.prog X.w (upd H a o) h' a o):
  Inv X pins Y (upd H a o) { s with heap:=h',toks:=t' }:=I.un (Un.laid k hp (I.hok.fresh hp)) (I.hok.laid k hp new)
theorem Inv.write{x e:Addr}{o:HO}{t':Nat}(I:Inv X pins Y H s)(mu:HV (H x))(he:e=x\/H e=some (.own x))(k:∀b u,b≠e->s.heap.get? b=some u->h'.get? b=some u)(n:∃u,h'.get? e=some u)
  (new:bj X.prog X.w (upd H x o) h' x o):Inv X pins Y (upd H x o) { s with heap:=h',toks:=t' }:=I.un (Un.write mu he k n) (I.hok.write mu he k n new)
theorem Inv.mq{r:List (Addr×Obj)}(I:Inv X pins Y H s)(h:∀p∈r,s.heap.get? p.1=some p.2/\H p.1=none/\p.1≠X.env.locals/\p.1∉X.fs/\∀v,p.2.data≠.cell v):Inv X r Y H s:=
 ⟨I.ok,I.os,I.bare,I.base,I.loc,I.cell,I.free,I.freeC,λp hp=>(Nv.mp hp).elim (λz=>I.pin p (NF _ z)) (h p),I.hok,I.len⟩
theorem nZ(u:N.Nodup)(a:N[i]?=some x)(b:N[j]?=some x):i=j:=by obtain⟨h1,D⟩:=Np.mp a;obtain⟨h2,F⟩:=Np.mp b;exact(Sf u).mp (D.trans F.symm)
theorem lW{M:Model}{A:Around}(I:Inv X pins Y H s)(hN:X.N.Nodup)(hi:X.N[i]?=some x)(hx:Loc X.env.scope x)(r:RelV v u)
  (h:∀s',Inv X pins (Y.set i (some v)) H s'->(∃a,Qp a s.heap s'.heap/\(a=X.env.locals\/X.env.cells.lookup x=some a))->Q () s')(hf:X.fn x=true\/X.env.scope.names.lookup x=some .local:=by first|exact .inl rfl|exact .inr rfl|assumption):wpAny M A (storeName X.env x u) Q E s:=by
 obtain⟨m,hn,hl⟩:=id I.loc;have hcls:(X.env.scope.kind==.class || (X.env.scope.kind==.module&&X.env.locals != X.env.globals))=false:=by rw[I.ok.kind];rfl
 have hiσ:i<Y.length:=by rw[I.len];exact(Np.mp hi).1
 have DN:=I.DN;have tracked:∀{a:Addr}{h':Heap},(∃o,s.heap.get? a=some o/\H a=none)->Qp a s.heap h'->iD X.prog X.w H h':=λ{a h'} ha hs b ob e=>by
  obtain⟨_,_,hfree⟩:=ha;refine(I.hok b ob e).q5 (λc w' hc q=>(hs.2 c ?_).trans q) (λ_ q=>q) λ_ _ q=>q;rintro rfl;rcases hc with rfl|hc
  .rw[hfree] at e;cases e
  .rw[hfree] at hc;cases hc
 rcases hx with hk|hk
 .refine wpAny_storeName_local hk hn (λh' hn' hs=>?_) hcls;obtain⟨oL,_,_,hoL,_⟩:=id hn;refine h _ ⟨I.ok,I.os,I.bare,⟨λb o e n hb hx=>?_,λb o e n hb hx=>?_,I.base.free,λb o e hx=>?_,I.base.tups,I.base.frzs,I.base.tbls⟩,⟨_,hn',λj y v' e1 e2 e3=>?_⟩,λy c e=>?_,I.free,I.freeC,λp hp=>?_,tracked ⟨oL,hoL,I.free⟩ hs,by simpa using I.len⟩ ⟨_,hs,.inl rfl⟩
  .exact(hs.2 b (NR (Nn (Nz e) I.ok.above))).trans (I.base.keep b o e n hb hx)
  .obtain⟨sl,e1⟩:=I.base.slot b o e n hb hx;exact⟨sl,(hs.2 b (NR (Nn (Nz e) I.ok.above))).trans e1⟩
  .obtain⟨o',e1⟩:=I.base.there b o e hx;exact⟨o',(hs.2 b (NR (Nn (Nz e) I.ok.above))).trans e1⟩
  .by_cases hj:j=i
   .subst hj;rw[hi] at e1;cases e1;rw[Ov hiσ] at e2;cases e2;exact⟨u,r,.inl ⟨hk,by simp⟩⟩
   .rw[OT (Pa hj)] at e2;obtain⟨u',r',q⟩:=hl j y v' e1 e2 e3;refine⟨u',r',?_⟩;rcases q with ⟨k,e⟩|⟨k,c,e,z⟩
    .refine .inl ⟨k,?_⟩;have:y≠x:=λe=>hj (nZ hN e1 (e▸hi));simp[this,e]
    .exact .inr ⟨k,c,e,z.sameBut hs (DN y c e)⟩
  .obtain⟨w',z⟩:=I.cell y c e;exact⟨w',z.sameBut hs (DN y c e)⟩
  .obtain⟨e,n,ne,nf,d⟩:=I.pin p hp;exact⟨(hs.2 p.1 ne).trans e,n,ne,nf,d⟩
 .have hfn:X.fn x=true:=by
   rcases hf with z|z
   .exact z
   .rw[z] at hk;cases hk
  obtain⟨c,hc⟩:=I.ok.has x (.inl hk);obtain⟨w',z⟩:=I.cell x c hc;refine wpAny_storeName_cell I.ok.kind hk hc z (λh' hc' hs=>?_);obtain⟨oc,hoc,hocd⟩:=id z;refine h { s with heap:=h' } ⟨I.ok,I.os,I.bare,⟨λb o e n hb hx=>?_,λb o e n hb hx=>?_,I.base.free,λb o e hx=>?_,I.base.tups,I.base.frzs,I.base.tbls⟩,⟨m,hn.sameBut hs (Pa (DN x c hc)),λj y v' e1 e2 e3=>?_⟩,λy c' e=>?_,I.free,I.freeC,λp hp=>?_,tracked ⟨oc,hoc,I.freeC x c hc⟩ hs,by simpa using I.len⟩ ⟨c,hs,.inr hc⟩
  .exact(hs.2 b (NR (Nn (Nz e) (I.ok.cab x c hfn hc)))).trans (I.base.keep b o e n hb hx)
  .obtain⟨sl,e1⟩:=I.base.slot b o e n hb hx;exact⟨sl,(hs.2 b (NR (Nn (Nz e) (I.ok.cab x c hfn hc)))).trans e1⟩
  .obtain⟨o',e1⟩:=I.base.there b o e hx;exact⟨o',(hs.2 b (NR (Nn (Nz e) (I.ok.cab x c hfn hc)))).trans e1⟩
  .by_cases hj:j=i
   .subst hj;rw[hi] at e1;cases e1;rw[Ov hiσ] at e2;cases e2;exact⟨u,r,.inr ⟨.inl hk,c,hc,hc'⟩⟩
   .rw[OT (Pa hj)] at e2;obtain⟨u',r',q⟩:=hl j y v' e1 e2 e3;refine⟨u',r',?_⟩;rcases q with q|⟨k,c',e,z'⟩
    .exact .inl q
    .refine .inr ⟨k,c',e,z'.sameBut hs ?_⟩;rintro rfl;exact hj (nZ hN e1 (I.ok.inj _ _ _ e hc▸hi))
  .by_cases hcc:c'=c
   .subst hcc;exact⟨_,hc'⟩
   .obtain⟨w2,z2⟩:=I.cell y c' e;exact⟨w2,z2.sameBut hs hcc⟩
  .obtain⟨e,n,ne,nf,d⟩:=I.pin p hp;refine⟨(hs.2 p.1 ?_).trans e,n,ne,nf,d⟩;intro q;rw[q,hoc] at e;have q':oc=p.2:=NJ e;exact d w' (by rw[<-q'];exact hocd)
theorem gI{M:Model}{A:Around}(I:Inv X pins Y H s)(hN:X.N.Nodup)(hi:X.N[i]?=some x)(hx:Loc X.env.scope x)(r:RelV v u)
  (h:∀s',Inv X pins (Y.set i (some v)) H s'->Q () s')(hf:X.fn x=true\/X.env.scope.names.lookup x=some .local:=by first|exact .inl rfl|exact .inr rfl|assumption):wpAny M A (storeName X.env x u) Q E s:=
 lW I hN hi hx r (λs' I' _=>h s' I') hf
theorem Inv.IQ{s':Shared}(I:Inv X pins Y H s)(ho:s'.os=s.os)(u:Un (jo X.stack) ch H H' s.heap s'.heap)(hok:iD X.prog X.w H' s'.heap)(K:AllBare s'.gens)
  (y:∀b∈ch,(b∈X.ex\/X.s₀.heap.objs.size<=b)/\b≠X.env.locals/\(∀x c,X.env.cells.lookup x=some c->c≠b)/\∀p∈X.pn++pins,p.1≠b):Inv X pins Y H' s':=by
 obtain⟨h',g',d',t',o'⟩:=s';have e:o'=s.os:=ho;subst e;exact I.call (g':=g') (t':=t') (d':=d') u hok K y
end
abbrev XK:=Value->Option Addr->Hp->Prop
noncomputable abbrev St:=List (Option V)
abbrev VK:=V->Hp->Prop
abbrev TE:=St->Hp->VK->Prop
abbrev TT:=St->Hp->(Bool->Hp->Prop)->Prop
abbrev TA:=St->Hp->(List V->Hp->Prop)->Prop
structure Ends where
 nx:St->Hp->Prop
 rt:VK
 bk:St->Hp->Prop:=λ_ _=>False
 ct:St->Hp->Prop:=λ_ _=>False
abbrev TS:=Ends->St->Hp->Prop
inductive EP(X:Cx)(pins:List (Addr×Obj))(Y:St)(Q:VK)(u:Value)(s':Shared):Prop
 |mk(v:V)(H':Hp)(i:Inv X pins Y H' s')(r:RelV v u)(q:Q v H')
inductive TP(X:Cx)(pins:List (Addr×Obj))(Y:St)(Q:Bool->Hp->Prop)(b:Bool)(s':Shared):Prop
 |mk(H':Hp)(i:Inv X pins Y H' s')(q:Q b H')
inductive AP(X:Cx)(pins:List (Addr×Obj))(Y:St)(Q:List V->Hp->Prop)(us:List Value)(s':Shared):Prop
 |mk(vs:List V)(H':Hp)(i:Inv X pins Y H' s')(r:Vals vs us)(q:Q vs H')
def SP(X:Cx)(pins:List (Addr×Obj))(D:Ends)(f:Flow)(s':Shared):Prop:=
 match f with
 | .next=>∃Z' H',Inv X pins Z' H' s'/\D.nx Z' H'
 | .brk=>∃Z' H',Inv X pins Z' H' s'/\D.bk Z' H'
 | .cont=>∃Z' H',Inv X pins Z' H' s'/\D.ct Z' H'
 | .ret u=>∃v Z' H',Inv X pins Z' H' s'/\RelV v u/\D.rt v H'
def PE(X:Cx)(e:Expr)(t:TE):Prop:=
 ∀(pins:List (Addr×Obj))(s:Shared)(Y:St)(H:Hp)(Q:VK),Inv X pins Y H s->t Y H Q->wpAny (model X.prog X.w) X.A (eval e X.env) (EP X pins Y Q) X.xe s
def PT(X:Cx)(e:Expr)(t:TT):Prop:=
 ∀(pins:List (Addr×Obj))(s:Shared)(Y:St)(H:Hp)(Q:Bool->Hp->Prop),Inv X pins Y H s->t Y H Q->wpAny (model X.prog X.w) X.A (isTrue e X.env (eval e X.env)) (TP X pins Y Q) X.xe s
def PW(X:Cx)(e:Expr)(t:TT):Prop:=
 ∀(z:Sem Value)(pins:List (Addr×Obj))(s:Shared)(Y:St)(H:Hp)(Q:Bool->Hp->Prop),Inv X pins Y H s->t Y H Q->wpAny (model X.prog X.w) X.A (isTrue e X.env z) (TP X pins Y Q) X.xe s
variable{X:Cx}{e:Expr}
theorem PW.pt{t:TT}(h:PW X e t):PT X e t:=h _
def PA(X:Cx)(es:List Expr)(t:TA):Prop:=
 ∀(pos:Pos)(pins:List (Addr×Obj))(s:Shared)(Y:St)(H:Hp)(Q:List V->Hp->Prop),Inv X pins Y H s->t Y H Q->wpAny (model X.prog X.w) X.A (spliced (backTo pos (starEach es X.env))) (AP X pins Y Q) X.xe s
def PS(X:Cx)(st:Stmt)(t:TS):Prop:=
 ∀(pins:List (Addr×Obj))(s:Shared)(Y:St)(H:Hp)(D:Ends),Inv X pins Y H s->t D Y H->wpAny (model X.prog X.w) X.A (exec st X.env) (SP X pins D) X.xe s
def pF(X:Cx)(st:List Stmt)(t:TS):Prop:=
 ∀(pins:List (Addr×Obj))(s:Shared)(Y:St)(H:Hp)(D:Ends),Inv X pins Y H s->t D Y H->wpAny (model X.prog X.w) X.A (execs st X.env) (SP X pins D) X.xe s
variable{α:Type}{s:Shared}
theorem bA{t:Sem α}{Q H:α->Shared->Prop}{M:Model}{A:Around}(h:wpAny M A t Q E s)(I:∀a s,Q a s->H a s):wpAny M A t H E s:=wpAny_mono h I λ_ _ x=>x
variable{pins:List (Addr×Obj)}{R:V->V->Hp->Prop}{pos:Pos}{op:CmpOp}
section
variable{X:Cx}
theorem bin{a b:Expr}{ta tb:TE}(ha:PE X a ta)(hb:PE X b tb){Y:St}(I:Inv X pins Y H s)(h:ta Y H λx T=>tb Y T λy S=>R x y S)
  {Q:α->Shared->Prop}{f:Value->Value->Sem α}
  (hf:∀v u s2 x y S,Inv X pins Y S s2->RelV x v->RelV y u->R x y S->wpAny (model X.prog X.w) X.A (f v u) Q X.xe s2):
  wpAny (model X.prog X.w) X.A (eval a X.env) (λv Z=>wpAny (model X.prog X.w) X.A (eval b X.env) (λu U=>wpAny (model X.prog X.w) X.A (f v u) Q X.xe U) X.xe Z) X.xe s:=by
 refine bA (ha pins s Y H _ I h) λv s1 ⟨x,T,V,c,d⟩=>?_;refine bA (hb pins s1 Y T _ V d) λu s2 ⟨y,S,e,g,i⟩=>?_;exact hf v u s2 x y S e c g i
noncomputable def Ln(i:Nat):TE:=λY H Q=>∃v,Y[i]?=some (some v)/\Q v H
noncomputable def tC(v:V):TE:=λ_ H Q=>Q v H
theorem dF(hN:X.N[i]?=some x)(hv:pH X.env.scope x)(hd:gq x:=by decide)(hcd:uR x:=by decide):PE X (.Name x pos) (Ln i):=by
 intro pins s Y H Q I h;obtain⟨v,e,h⟩:=h;obtain⟨m,hn,hl⟩:=I.loc;obtain⟨u,r,l⟩:=hl i x v hN e hv;have fin:EP X pins Y Q u s:=⟨v,H,I,r,h⟩
 rcases l with ⟨hk,hm⟩|⟨hk,c,hc,hcell⟩
 .exact wpAny_Name (wpAny_loadName_local I.ok.kind hk hn hm fin) hd
 .rcases hk with hk|hk
  .exact wpAny_Name (wpAny_loadName_cell I.ok.kind hk hc hcell fin) hd
  .exact wpAny_Name (wpAny_loadName_free I.ok.kind hk hc hcell fin hcd) hd
theorem Fo{i j pos}:PE X (.Constant (.int i) j pos) (tC (.int i)):=λ_ _ _ H _ I h=>wpAny_Constant_int ⟨.int i,H,I.tok _,⟨_,rfl⟩,h⟩
theorem HD{b j pos}:PE X (.Constant (.bool b) j pos) (tC (.bl b)):=λ_ _ _ H _ I h=>Constant_bool ⟨.bl b,H,I,rfl,h⟩
theorem GR{j pos}:PE X (.Constant .none j pos) (tC .non):=λ_ _ _ H _ I h=>Constant_none ⟨.non,H,I,rfl,h⟩
theorem Er{x j pos}:PE X (.Constant (.str x) j pos) (tC (.str x)):=λ_ _ _ H _ I h=>Calls.Constant_str ⟨.str x,H,I.tok _,⟨_,rfl⟩,h⟩
def Gl(X:Cx)(x:Str):Prop:=X.env.kindOf x=some .globalImplicit
theorem rD{Y:St}{Q:Value->Shared->Prop}(I:Inv X pins Y H s)(hg:Gl X x)(hm:X.mg x=some u)(h:Q u s)
  (hd:gq x:=by decide):wpAny (model X.prog X.w) X.A (eval (.Name x pos) X.env) Q E s:=
 SA I.ok.kind hg (Calls.loadGlobal_global (by rw[I.ok.glob];exact I.mod.glob.keeps I.bk) hm h) hd
theorem gn{Y:St}{Q:Value->Shared->Prop}(I:Inv X pins Y H s)(hg:Gl X x)(hm:X.mg x=none)(hv:bootBuiltins x=some u)(h:Q u s)
  (hn:x ≠ "__name__" := by decide)(hd:gq x:=by decide):wpAny (model X.prog X.w) X.A (eval (.Name x pos) X.env) Q E s:=by
 obtain⟨mb,h1,h2⟩:=I.mod.blt;exact SA I.ok.kind hg (Calls.loadGlobal_builtin (by rw[I.ok.glob];exact I.mod.glob.keeps I.bk) hm (by rw[I.ok.blt];exact h1.keeps I.bk) ((h2 x hn).trans hv) h) hd
theorem AZ(hg:Gl X x)(hm:X.mg x=some u)(r:RelV v u)(hd:gq x:=by decide):PE X (.Name x pos) (tC v):=
 λ_ _ _ H _ I h=>rD I hg hm ⟨v,H,I,r,h⟩ hd
theorem Bt(hg:Gl X x)(hm:X.mg x=none)(hv:bootBuiltins x=some u)(r:RelV v u)(hn:x ≠ "__name__" := by decide)(hd:gq x:=by decide):PE X (.Name x pos) (tC v):=
 λ_ _ _ H _ I h=>gn I hg hm hv ⟨v,H,I,r,h⟩ hn hd
variable{a b:Expr}{ta tb:TE}{pos:Pos}
def PC(X:Cx)(op:CmpOp)(a b:Expr)(t:TE):Prop:=
 ∀(pins:List (Addr×Obj))(s:Shared)(Y:St)(H:Hp)(Q:VK),Inv X pins Y H s->t Y H Q->
  wpAny (model X.prog X.w) X.A (eval a X.env) (λv Z=>wpAny (model X.prog X.w) X.A (eval b X.env) (λu U=>wpAny (model X.prog X.w) X.A (compareOp op v u) (EP X pins Y Q) X.xe U) X.xe Z) X.xe s
theorem yS(b:Expr)(h:op≠.In)(h2:op≠.NotIn):behindInMarks op b=false:=by
 have D:(op==VU)=false:=by cases op<;>first|rfl|exact absurd rfl h
 have F:(op==Ve)=false:=by cases op<;>first|rfl|exact absurd rfl h2
 cases b<;>simp[behindInMarks,D,F]
noncomputable def tB(t:TE):TT:=λY H Q=>t Y H λx T=>∃c,x=.bl c/\Q c T
theorem K7{t:TE}(h:PC X op a b t)(h1:behindInMarks op b=false:=by first|exact yS _ (by decide) (by decide)|rfl):PT X (.Compare a [op] [b] pos) (tB t):=by intro pins s Y H Q I hw;refine wpAny_isTrue_Compare1 (bA (h pins s Y H _ I hw) λv s1 h1=>bA h1 λu s2 h2=>bA h2 λc s3 ⟨x,H1,I1,r1,q1⟩=>?_) h1;obtain⟨d,rfl,q⟩:=q1;cases r1;exact wpAny_truthy_bool ⟨H1,I1,q⟩
theorem Fx{t:TE}(h:PE X e t)(he:∀whole,isTrue e X.env whole=(do let v <- whole;standAt e.pos;holding [v] (truthy v)):=by intro _;rfl):PT X e (tB t):=by intro pins s Y H Q I hw;refine isTrue_plain (bA (h pins s Y H _ I hw) λv s1 ⟨x,H1,I1,r1,q1⟩=>?_) (he _);obtain⟨d,rfl,q⟩:=q1;cases r1;exact wpAny_truthy_bool ⟨H1,I1,q⟩
variable{tA tB':TT}{rest:List Expr}
noncomputable def Ll(t u:TT):TT:=λY H Q=>t Y H λc T=>if c=true then u Y T Q else Q false T
noncomputable def MP(t u:TT):TT:=λY H Q=>t Y H λc T=>if c=true then Q true T else u Y T Q
noncomputable def Lm(t:TT):TT:=λY H Q=>t Y H λc T=>Q (!c) T
theorem BJ(ha:PT X a tA):PW X (.BoolOp .And [a] pos) tA:=by
 intro U pins s Y H Q I h;refine isTrue_and (bA (ha pins s Y H Q I h) λc s1 e=>?_);cases c with
 |true=>exact isTrue_and_nil e
 |false=>exact e
theorem FU(ha:PT X a tA):PW X (.BoolOp .Or [a] pos) tA:=by
 intro U pins s Y H Q I h;refine isTrue_or (bA (ha pins s Y H Q I h) λc s1 e=>?_);cases c with
 |false=>exact isTrue_or_nil e
 |true=>exact e
theorem EJ(ha:PT X a tA)(hb:PW X (.BoolOp .And (b::rest) pos) tB'):PW X (.BoolOp .And (a::b::rest) pos) (Ll tA tB'):=by
 intro U pins s Y H Q I h;refine isTrue_and (bA (ha pins s Y H _ I h) λc s1 ⟨T,V,d⟩=>?_);cases c with
 |true=>exact hb U pins s1 Y T Q V d
 |false=>exact⟨T,V,d⟩
theorem Jv(ha:PT X a tA)(hb:PW X (.BoolOp .Or (b::rest) pos) tB'):PW X (.BoolOp .Or (a::b::rest) pos) (MP tA tB'):=by
 intro U pins s Y H Q I h;refine isTrue_or (bA (ha pins s Y H _ I h) λc s1 ⟨T,V,d⟩=>?_);cases c with
 |true=>exact⟨T,V,d⟩
 |false=>exact hb U pins s1 Y T Q V d
theorem FA(ha:PT X a tA):PT X (.UnaryOp .Not a pos) (Lm tA):=by intro pins s Y H Q I h;exact isTrue_not (bA (ha pins s Y H (λc T=>Q (!c) T) I h) λc s' ⟨H',i,q⟩=>⟨H',i,q⟩)
noncomputable def Ip(ta tb:TE):TE:=λY H Q=>ta Y H λx T=>∃c,x=.bl c/\if c=true then tb Y T Q else Q (.bl false) T
noncomputable def HA(ta:TE):TE:=λY H Q=>ta Y H λx T=>∃c,x=.bl c/\Q (.bl (!c)) T
theorem Eg{op}{t:TE}(h:PE X a t):PE X (.BoolOp op [a] pos) t:=λpins s Y H Q I Z=>BoolOp_one (h pins s Y H Q I Z)
theorem GO(ha:PE X a ta)(hb:PE X (.BoolOp .And (b::rest) pos) tb):PE X (.BoolOp .And (a::b::rest) pos) (Ip ta tb):=by
 intro pins s Y H Q I h;refine BoolOp_and (bA (ha pins s Y H _ I h) λv s1 ⟨x,T,V,k,d⟩=>?_);obtain⟨c,rfl,d⟩:=d;cases k;refine wpAny_truthy_bool ?_;cases c with
 |true=>exact hb pins s1 Y T Q V d
 |false=>exact⟨.bl false,T,V,rfl,d⟩
theorem Gw(ha:PE X a ta):PE X (.UnaryOp .Not a pos) (HA ta):=by intro pins s Y H Q I h;refine UnaryOp_ (bA (ha pins s Y H _ I h) λv s1 ⟨x,T,V,k,d⟩=>?_);obtain⟨c,rfl,d⟩:=d;cases k;exact not_of (wpAny_truthy_bool ⟨.bl (!c),T,V,rfl,d⟩)
end
def fo(K:Nh)(H:Hp)(a:Addr)(xs:List V):Prop:=
 Rd H a (.lst xs) \/
  ∃(o:Obj)(b:Array Value)(n:Nat),K.lookup a=some o/\o.cls=.type "list" /\ o.dict=none/\o.data=.seq b n/\b.size<=sizeLine/\Vals xs b.toList
def cQ(K:Nh)(H:Hp)(a:Addr)(xs:List V):Prop:=
 Rd H a (.tup xs) \/
  ∃(o:Obj)(b:Array Value)(n:Nat),K.lookup a=some o/\(o.cls=.type "tuple" /\ o.dict=none)/\o.data=.seq b n/\b.size<=sizeLine/\Vals xs b.toList
noncomputable def Le:Value->Option V
 | .none=>some .non
 | .bool b=>some (.bl b)
 | .int i _=>some (.int i)
 | .str x _=>some (.str x)
 | .bytes b _=>some (.byt b)
 | .float b _=>some (.flt b)
 | .ref a=>some (.ref a)
 | .type n=>some (.ty n)
 |_=>none
theorem RelV.abs{x:V}(r:RelV x u):Le u=some x:=by
 cases x with
 |non=>cases r;rfl
 |bl _=>cases r;rfl
 |int _=>obtain⟨t,rfl⟩:=r;rfl
 |str _=>obtain⟨t,rfl⟩:=r;rfl
 |byt _=>obtain⟨t,rfl⟩:=r;rfl
 |flt _=>obtain⟨t,rfl⟩:=r;rfl
 |ref _=>cases r;rfl
 |ty _=>cases r;rfl
variable{y:V}
theorem RelV.inj{x:V}(r:RelV x u)(q:RelV y u):x=y:=NJ (r.abs.symm.trans q.abs)
theorem Vals.inj:∀{xs ys:List V}{us:List Value},Vals xs us->Vals ys us->xs=ys
 |_,_,_,.nil,.nil=>rfl
 |_,_,_,.cons r t,.cons r' t'=>by rw[r.inj r',Vals.inj t t']
section
variable{X:Cx}{pins:List (Addr×Obj)}{Y:St}{H:Hp}{s:Shared}{a:Addr}{xs ys:List V}
theorem Inv.list(I:Inv X pins Y H s)(h:fo X.K H a xs):∃b:List Value,Vals xs b/\PlainL s.heap a b.toArray/\xs.length<=sizeLine:=by
 rcases h with h|⟨o,b,n,hk,hc,hd,hs,hz,r⟩
 .obtain⟨z,b,n,r,e⟩:=h.ok I.hok;exact⟨b,r,⟨_,n,e,rfl,rfl,rfl⟩,z⟩
 .refine⟨b.toList,r,⟨o,n,I.Cm a o hk,hc,hd,by simpa using hs⟩,?_⟩;have e:=r.length;simp only[NP] at e;lia
theorem Inv.tuple(I:Inv X pins Y H s)(h:cQ X.K H a xs):∃b:List Value,Vals xs b/\IsTup s.heap a b.toArray/\xs.length<=sizeLine:=by
 rcases h with h|⟨o,b,n,hk,hc,hs,hz,r⟩
 .obtain⟨z,b,r,p⟩:=h.ok I.hok;exact⟨b,r,p.t,z⟩
 .refine⟨b.toList,r,⟨o,I.Cm a o hk,hc.1,n,by simpa using hs⟩,?_⟩;have e:=r.length;simp only[NP] at e;lia
theorem Inv.FT(I:Inv X pins Y H s)(h:cQ X.K H a xs):∃b:List Value,Vals xs b/\fE s.heap a b.toArray/\xs.length<=sizeLine:=by
 rcases h with h|⟨o,b,n,hk,hc,hs,hz,r⟩
 .obtain⟨z,b,r,p⟩:=h.ok I.hok;exact⟨b,r,p,z⟩
 .refine⟨b.toList,r,⟨o,I.Cm a o hk,hc.1,n,by simpa using hs,hc.2⟩,?_⟩;have e:=r.length;simp only[NP] at e;lia
theorem Inv.nY(I:Inv X pins Y H s)(h:fo X.K H a xs)(h':fo X.K H a ys):xs=ys:=by
 obtain⟨b,r,⟨o,n,e,_,_,d⟩,_⟩:=I.list h;obtain⟨its',x,⟨o',n',e',_,_,d'⟩,_⟩:=I.list h';rw[e] at e';cases e';rw[d] at d';injection d' with d1 _;have:b=its':=by simpa using congrArg To d1
 subst this;exact r.inj x
theorem Inv.lE(I:Inv X pins Y H s)(h:cQ X.K H a xs)(h':cQ X.K H a ys):xs=ys:=by
 obtain⟨b,r,⟨o,e,_,n,d⟩,_⟩:=I.tuple h;obtain⟨its',x,⟨o',e',_,n',d'⟩,_⟩:=I.tuple h';rw[e] at e';cases e';rw[d] at d';injection d' with d1 _;have:b=its':=by simpa using congrArg To d1
 subst this;exact r.inj x
end
variable{c:Expr}{tc:TT}
section
variable{X:Cx}{st:Stmt}{rest:List Stmt}{t u:TS}{e:Expr}{te:TE}{pos:Pos}
noncomputable def CK:TS:=λD Y H=>D.nx Y H
noncomputable def KR(t u:TS):TS:=λD Y H=>t { D with nx:=u D } Y H
theorem zS:pF X [] CK:=λ_ _ Y H _ I h=>wpAny_execs_nil ⟨Y,H,I,h⟩
theorem xY(h1:PS X st t)(h2:pF X rest u):pF X (st::rest) (KR t u):=by
 intro pins s Y H D I h;refine wpAny_execs_cons (bA (h1 pins s Y H { D with nx:=u D } I h) λf s1 q=>?_);cases f with
 |next=>obtain⟨Z',H',a,q⟩:=q;exact h2 pins s1 Z' H' D a q
 |ret v=>exact q
 |brk=>exact q
 |cont=>exact q
theorem BR(h1:PS X st t):pF X [st] t:=by
 intro pins s Y H D I h;refine wpAny_execs_cons (bA (h1 pins s Y H D I h) λf s1 q=>?_);cases f with
 |next=>exact wpAny_execs_nil q
 |ret v=>exact q
 |brk=>exact q
 |cont=>exact q
noncomputable def D4:TS:=λD Y H=>D.bk Y H
noncomputable def IF:TS:=λD Y H=>D.ct Y H
theorem B2:PS X (.Pass pos) CK:=λ_ _ Y H _ I h=>wpAny_Pass ⟨Y,H,I,h⟩
theorem vM:PS X (.Break pos) D4:=λ_ _ Y H _ I h=>wpAny_Break ⟨Y,H,I,h⟩
theorem oJ:PS X (.Continue pos) IF:=λ_ _ Y H _ I h=>wpAny_Continue ⟨Y,H,I,h⟩
theorem Inv.quiet{Y:St}(I:Inv X pins Y H s):interactive X.env=false:=by simp[interactive,I.ok.kind]
noncomputable def IG(te:TE):TS:=λD Y H=>te Y H λ_ T=>D.nx Y T
theorem A7(he:PE X e te)(hs:swapsWith e none pos.line X.env=pure false:=by rfl):PS X (.Expr e pos) (IG te):=by intro pins s Y H D I h;exact wpAny_Expr_any (bA (he pins s Y H _ I h) λv s1 ⟨x,H1,I1,r1,q1⟩=>⟨Y,H1,I1,q1⟩) I.quiet hs
noncomputable def KJ(te:TE):TS:=λD Y H=>te Y H D.rt
theorem F6(he:PE X e te):PS X (.Return (some e) pos) (KJ te):=by intro pins s Y H D I h;exact wpAny_Return_some (bA (he pins s Y H _ I h) λv s1 ⟨x,T,V,k,d⟩=>⟨x,Y,T,V,k,d⟩)
noncomputable def HB:TS:=λD _ H=>D.rt .non H
theorem A2:PS X (.Return none pos) HB:=λ_ _ Y H _ I h=>wpAny_Return_none ⟨.non,Y,H,I,rfl,h⟩
noncomputable def Lg(c:TT)(t u:TS):TS:=λD Y H=>c Y H λb T=>if b=true then t D Y T else u D Y T
theorem JH{a b:List Stmt}(hc:PT X c tc)(ha:pF X a t)(hb:pF X b u):PS X (.If c a b pos) (Lg tc t u):=by
 intro pins s Y H D I h;refine wpAny_If (bA (hc pins s Y H _ I h) λd s1 ⟨T,V,l⟩=>?_);cases d with
 |true=>exact ha pins s1 Y T D V l
 |false=>exact hb pins s1 Y T D V l
end
abbrev TG:=V->St->Hp->(St->Hp->Prop)->Prop
abbrev CL:=List V->St->Hp->(St->Hp->Prop)->Prop
def PG(X:Cx)(m:Expr)(t:TG):Prop:=
 ∀(pins:List (Addr×Obj))(s:Shared)(Y:St)(H:Hp)(v:V)(u:Value)(Q:St->Hp->Prop),Inv X pins Y H s->RelV v u->t v Y H Q->
  wpAny (model X.prog X.w) X.A (assign m X.env u) (λ_ s'=>∃Z' H',Inv X pins Z' H' s'/\Q Z' H') X.xe s
def Fp(X:Cx)(ts:List Expr)(t:CL):Prop:=
 ∀(pins:List (Addr×Obj))(s:Shared)(Y:St)(H:Hp)(vs:List V)(us:List Value)(Q:St->Hp->Prop),Inv X pins Y H s->Vals vs us->t vs Y H Q->
  wpAny (model X.prog X.w) X.A (assignInOrder ((assignEach ts X.env).map (·.2)) us) (λ_ s'=>∃Z' H',Inv X pins Z' H' s'/\Q Z' H') X.xe s
abbrev GY:=V->V->V->Hp->(Hp->Prop)->Prop
def Jf(X:Cx)(t:GY):Prop:=
 ∀(pins:List (Addr×Obj))(s:Shared)(Y:St)(H:Hp)(o i v:V)(p r u:Value)(Q:Hp->Prop),Inv X pins Y H s->RelV o p->RelV i r->RelV v u->t o i v H Q->
  wpAny (model X.prog X.w) X.A (setItem p r u) (λ_ s'=>∃H',Inv X pins Y H' s'/\Q H') X.xe s
variable{es:List Expr}{k:Nat}{tg:Expr}{te:TE}
section
variable{X:Cx}{pos:Pos}
noncomputable def xK(i:Nat):TG:=λv Y H Q=>Q (Y.set i (some v)) H
theorem Ak(hN:X.N.Nodup)(hi:X.N[i]?=some x)(hx:Loc X.env.scope x)(hf:X.fn x=true\/X.env.scope.names.lookup x=some .local:=by first|exact .inl rfl|exact .inr rfl|assumption):PG X (.Name x pos) (xK i):=by intro pins s Y H v u Q I r h;exact wpAny_assign_Name (gI I hN hi hx r (λs' I'=>⟨_,H,I',h⟩) hf)
noncomputable def KA:CL:=λvs Y H Q=>vs=[]/\Q Y H
noncomputable def CI(t:TG)(u:CL):CL:=λvs Y H Q=>∃v r,vs=v::r/\t v Y H λZ' H'=>u r Z' H' Q
theorem AS:Fp X [] KA:=by intro pins s Y H vs us Q I r h;obtain⟨e,h⟩:=h;subst e;cases r;exact assignInOrder_nil ⟨Y,H,I,h⟩
theorem yn{t:TG}{u:CL}(h1:PG X e t)(h2:Fp X es u)
  (hs:(assignEach (e::es) X.env).map (·.2)=assign e X.env::(assignEach es X.env).map (·.2):=by rfl):Fp X (e::es) (CI t u):=by
 intro pins s Y H vs us Q I r h;obtain⟨v,vr,e1,h⟩:=h;subst e1;cases r with
 |cons r rr=>rw[hs];refine assignInOrder_cons (bA (h1 pins s Y H _ _ _ I r h) λ_ s1 ⟨Z,H1,I1,q1⟩=>?_);exact h2 pins s1 Z H1 _ _ Q I1 rr q1
noncomputable def KN(K:Nh)(n:Nat)(t:CL):TG:=λv Y H Q=>∃a xs,v=.ref a/\cQ K H a xs/\xs.length=n/\t xs Y H Q
theorem FW{t:CL}{n:Nat}(hc:X.calm=true)(h:Fp X es t)
  (hn:(assignEach es X.env).length=n:=by rfl)(hst:(assignEach es X.env).findIdx? (·.1)=none:=by rfl):PG X (.Tuple es k pos) (KN X.K n t):=by
 intro pins s Y H v u Q I r hw;obtain⟨a,xs,e1,hq,hl,hw⟩:=hw;subst e1;cases r;obtain⟨its,rv,ht,hz⟩:=I.tuple hq;refine assign_Tuple_tuple (I.ok.hd hc) ht (by simp[hn,<-hl,rv.length]) hst λh' hx=>?_;have I1:Inv X pins Y H { s with heap:=h' }:=I.kept (t':=s.toks) λb o e=>hx b o (NR (Nz e)) e;exact h pins _ Y H xs _ Q I1 (by simpa using rv) hw
noncomputable def Ij(to X:TE)(t:GY):TG:=λv Y H Q=>to Y H λo T=>X Y T λi S=>t o i v S λs=>Q Y s
theorem Fn{o i:Expr}{to ti:TE}{t:GY}(ho:PE X o to)(hi:PE X i ti)(hs:Jf X t)
  (ha:∀v,assign (.Subscript o i pos) X.env v=(do
   let ov <- holding [v] (eval o X.env)
   let iv <- holding [v,ov] (eval i X.env)
   standAt pos
   holding [v,ov,iv] (setItem ov iv v)
   release [v,ov,iv] []):=by intro _;rfl):PG X (.Subscript o i pos) (Ij to ti t):=by
 intro pins s Y H v u Q I r h;rw[ha];refine wpAny_bind (wpAny_holding (bA (ho pins s Y H _ I h) λov s1 ⟨x,H1,I1,r1,q1⟩=>?_));refine wpAny_bind (wpAny_holding (bA (hi pins s1 Y H1 _ I1 q1) λiv s2 ⟨y,H2,I2,r2,q2⟩=>?_));refine wpAny_bind (wpAny_standAt (wpAny_bind (wpAny_holding (bA (hs pins s2 Y H2 x y v ov iv u _ I2 r1 r2 r q2) λ_ s3 ⟨H3,I3,q3⟩=>?_))));exact wpAny_release ⟨Y,H3,I3,q3⟩
noncomputable def zf(te:TE)(g:TG):TS:=λD Y H=>te Y H λx T=>g x Y T D.nx
theorem yI{g:TG}(he:PE X e te)(hg:PG X tg g)(hs:swapsWithSole [tg] e pos.line X.env=pure false:=by rfl)(hw:swappedStores [tg] e X.env=pure none:=by rfl)
  (h1:(assignEach [tg] X.env).map (·.2)=[assign tg X.env]:=by rfl):PS X (.Assign [tg] e pos) (zf te g):=by
 intro pins s Y H D I h;refine wpAny_Assign_stores (bA (he pins s Y H _ I h) λv s1 ⟨x,H1,I1,r1,q1⟩=>?_) hs hw;rw[h1];exact bA (hg pins s1 Y H1 x v _ I1 r1 q1) λ_ s2 q=>q
theorem En{pos':Pos}(hN:X.N.Nodup)(hi:X.N[i]?=some x)(hx:Loc X.env.scope x)(he:PE X e te)(hs:swapsWith e (some (.Name x pos')) pos.line X.env=pure false:=by rfl)(hf:X.fn x=true\/X.env.scope.names.lookup x=some .local:=by first|exact .inl rfl|exact .inr rfl|assumption):
  PS X (.Assign [.Name x pos'] e pos) (zf te (xK i)):=by
 intro pins s Y H D I h;refine wpAny_Assign_Name (bA (he pins s Y H _ I h) λv s1 ⟨y,H1,I1,r1,q1⟩=>?_) hs;exact gI I1 hN hi hx r1 (λs2 I2=>⟨_,H1,I2,q1⟩) hf
noncomputable def JB(i j:Nat)(ta:TA):TS:=λD Y H=>ta Y H λvs T=>∃v w,vs=[v,w]/\D.nx ((Y.set i (some v)).set j (some w)) T
theorem Ep{y:Str}{a b:Expr}{ta:TA}{px py pt:Pos}{kt k2 pt2}(hc:X.calm=true)(hN:X.N.Nodup)(hi:X.N[i]?=some x)(hj:X.N[j]?=some y)(hij:i≠j)
  (hx:X.env.scope.names.lookup x=some .local)(hy:X.env.scope.names.lookup y=some .local)(ha:PA X [a,b] ta)
  (hw:swappedStores [.Tuple [.Name x px,.Name y py] kt pt] (.Tuple [a,b] k2 pt2) X.env=pure (some [x,y]))
  (hs:swapsWithSole [.Tuple [.Name x px,.Name y py] kt pt] (.Tuple [a,b] k2 pt2) pos.line X.env=pure false:=by rfl):
  PS X (.Assign [.Tuple [.Name x px,.Name y py] kt pt] (.Tuple [a,b] k2 pt2) pos) (JB i j ta):=by
 intro pins s Y H D I h;rw[exec_Assign_arm];refine wpAny_bind (wpAny_standAt ?_);rw[hs];refine wpAny_bind (wpAny_pure ?_);rw[if_neg (by decide)];refine wpAny_bind (Tuple_ (bA (ha _ pins s Y H _ I h) λus s1 ⟨vs,H1,I1,r1,q1⟩=>?_));obtain⟨v,w,e1,q1⟩:=q1;subst e1;obtain⟨u1,u2,rfl,rv,rw'⟩:∃u1 u2,us=[u1,u2]/\RelV v u1/\RelV w u2:=by
  cases r1 with
  |cons p q=>
   cases q with
   |cons p' q'=>cases q';exact⟨_,_,rfl,p,p'⟩
 refine wpAny_newObj_type ?_ (by show 2<=sizeLine;decide);have I2:Inv X pins Y H1 { s1 with heap:=s1.heap.push { cls:=.type "tuple",data:=.seq [u1,u2].toArray } }:=I1.kept (t':=s1.toks) λb o e=>Nm _ e;rw [hw];refine wpAny_bind (wpAny_pure ?_);show wpAny (model X.prog X.w) X.A (do rule "assign.swapped-stores"; let items ← unpackItems (.ref s1.heap.objs.size) 2 none; assignInOrder [fun v=>bindName X.env y v,fun v=>bindName X.env x v] items.reverse; pure VV) _ _ _;refine wpAny_bind (wpAny_rule (wpAny_bind (unpackItems_tuple (items:=#[u1,u2]) (I.ok.hd hc) (IsTup.new s1.heap _) fun h' hx'=>?_)));have I3:=I2.kept (h':=h') (t':=s1.toks) fun b o e=>hx' b o (NR (Nz e)) e
 show wpAny _ _ (assignInOrder [fun v=>bindName X.env y v,fun v=>bindName X.env x v] [u2,u1] >>= fun _=>pure VV) _ _ _;refine wpAny_bind (assignInOrder_cons (wpAny_bindName (gI I3 hN hj (.inl hy) rw' (fun s2 I4=>?_) (.inr hy))));refine assignInOrder_cons (wpAny_bindName (gI I4 hN hi (.inl hx) rv (fun s3 I5=>assignInOrder_nil (wpAny_pure ?_)) (.inr hx)));rw [List.set_comm _ _ (Pa hij)] at I5;exact ⟨_,H1,I5,q1⟩
end
variable{body:List Stmt}
section
variable{X:Cx}{pos:Pos}
def DX(c:TT)(tb:TS):TS:=λD Y H=>∃W:Nat->St->Hp->Prop,(∃m,W m Y H)/\∀m Y H,W m Y H->
 c Y H λb T=>if b=true then ∃N:St->Hp->Prop,(∀Z' H',N Z' H'->∃P,P<m/\W P Z' H')/\tb { D with nx:=N,ct:=N,bk:=D.nx } Y T else D.nx Y T
theorem xW{tb:TS}(hp:PassesOwn (model X.prog X.w) X.A X.env X.xe)(hc:PT X c tc)(hb:pF X body tb):PS X (.While c body [] pos) (DX tc tb):=by
 intro pins s Y H D I h;obtain⟨W,⟨G,J⟩,o⟩:=h;refine wpAny_While (codeAny_whileLoop (λn s'=>∃Z' H',Inv X pins Z' H' s'/\W n Z' H') ?_ G ⟨Y,H,I,J⟩);rintro n s1 ⟨Z,T,L,O⟩;refine wpAny_passesOwn hp (bA (hc pins s1 Z T _ L (o n Z T O)) λb s2 ⟨S,e,i⟩=>?_);cases b with
 |true=>
  obtain⟨N,E,i⟩:=i;rw[if_pos rfl];refine wpAny_passesOwn hp (bA (hb pins s2 Z S _ e i) λf Q u=>?_);cases f with
  |next=>obtain⟨V,t,z,B⟩:=u;obtain⟨P,hm,C⟩:=E V t B;exact⟨P,hm,V,t,z,C⟩
  |cont=>obtain⟨V,t,z,B⟩:=u;obtain⟨P,hm,C⟩:=E V t B;exact⟨P,hm,V,t,z,C⟩
  |brk=>exact u
  |ret v=>exact u
 |false=>rw[if_neg Og];exact wpAny_execs_nil ⟨Z,S,e,i⟩
end
structure It where
 go:Nat->Hp->Prop
 iX:Nat->Hp->V->Hp->Prop
 stop:Nat->Hp->Prop
def j9(X:Cx)(pins:List (Addr×Obj))(H:Hp)(b:Addr):Prop:=
 H b=none/\b≠X.env.locals/\b∉X.fs/\(b∈X.ex\/X.s₀.heap.objs.size<=b)/\(∀x c,X.env.cells.lookup x=some c->c≠b)/\∀p∈X.pn++pins,p.1≠b
theorem Inv.AL{Y:St}{H':Hp}(I:Inv X pins Y H s)(hb:s.heap.objs.size<=b)(hn:H' b=none):j9 X pins H' b:=by
 refine⟨hn,P8 (Nn I.lt hb),I.IE hb,.inr (N5 I.sz hb),λx c e z=>?_,λp hp z=>?_⟩
 .obtain⟨v,q⟩:=I.cell x c e;exact absurd (Nn q.lt (by rw[z];exact hb)) (OE _)
 .exact absurd (Nn (Nz (I.pin p hp).1) (by rw[z];exact hb)) (OE _)
structure Turn(P:Program)(w:World)(K:Nh)(tg:Expr)(J:It)(fp:List Addr)(it:Addr)(tn:Nat->Heap->Prop):Prop where
 mem:it∈fp
 obj:∀i h,tn i h->∀b∈fp,∃o,h.get? b=some o/\∀v,o.data≠.cell v
 keep:∀i h h',tn i h->(∀b∈fp,∀o,h.get? b=some o->h'.get? b=some o)->tn i h'
 item:∀(X:Cx),X.prog=P->X.w=w->X.K=K->X.calm=true->∀(i:Nat)(pins:List (Addr×Obj))(s:Shared)(Y:St)(H:Hp)(E:Value->Shared->Prop),Inv X pins Y H s->(∀b∈fp,j9 X pins H b)->tn i s.heap->J.go i H->
  wpAny (model P w) X.A (pyNext (.ref it)) (λr s1=>∃u,r=some u /\
   wpAny (model P w) X.A (letOwnedTupleGo tg (.ref it) u) (λ_ s2=>∃x H',Inv X pins Y H' s2/\RelV x u/\J.iX i H x H'/\tn (i+1) s2.heap/\∀b∈fp,H' b=none) E s1) E s
 done:∀(X:Cx),X.prog=P->X.w=w->X.K=K->X.calm=true->∀(i:Nat)(pins:List (Addr×Obj))(s:Shared)(Y:St)(H:Hp)(E:Value->Shared->Prop),Inv X pins Y H s->(∀b∈fp,j9 X pins H b)->tn i s.heap->J.stop i H->
  wpAny (model P w) X.A (pyNext (.ref it)) (λr s1=>r=none/\Inv X pins Y H s1) E s
 self:∀(A:Around)(i:Nat)(s:Shared)(Q:Value->Shared->Prop)(E:Value->Shared->Prop),tn i s.heap->Q (.ref it) s->wpAny (model P w) A (pyIter (.ref it)) Q E s
abbrev TI:=St->Hp->(It->Hp->Prop)->Prop
def L9(X:Cx)(pins:List (Addr×Obj))(Y:St)(tg:Expr)(R:It->Hp->Prop)(A:Value)(s2:Shared):Prop:=
 ∃(it:Addr)(fp:List Addr)(tn:Nat->Heap->Prop)(J:It)(H':Hp),A=.ref it/\Inv X pins Y H' s2/\Turn X.prog X.w X.K tg J fp it tn/\tn 0 s2.heap/\(∀b∈fp,j9 X pins H' b)/\R J H'
def PI(X:Cx)(tg iter:Expr)(I:TI):Prop:=
 ∀(pins:List (Addr×Obj))(s:Shared)(Y:St)(H:Hp)(R:It->Hp->Prop),Inv X pins Y H s->I Y H R->
  wpAny (model X.prog X.w) X.A (eval iter X.env) (λv s1=>wpAny (model X.prog X.w) X.A (pyIter v) (L9 X pins Y tg R) X.xe s1) X.xe s
theorem nG{M:Model}{A:Around}{n:String}{vs:Array Value}(ho:s.heap.get? it=some o)(hc:o.cls=.type n)(hd:o.data=.fields vs)
    (hn:["enumerate", "zip", "dict_itemiterator", "dict_reverseitemiterator", "odict_iterator", "itertools.zip_longest", "itertools.pairwise"].contains n=false)(I:Q () s):wpAny M A (letOwnedTupleGo tg (.ref it) u) Q E s:=by
  unfold letOwnedTupleGo;cases tg<;>first
    |exact wpAny_pure I
    | (cases u<;>first
        |exact wpAny_pure I
        | (refine wpAny_bind (wpAny_load ho ?_)
           rw[hc,hd]
           show wpAny M A (if (["enumerate", "zip", "dict_itemiterator", "dict_reverseitemiterator", "odict_iterator", "itertools.zip_longest", "itertools.pairwise"].contains n&&vs[0]?==some (rawInt _))=true then _ else _) Q E s
           rw[if_neg (by intro h;rw[hn,SJ] at h;cases h)]
           exact wpAny_pure I))
noncomputable def LM(K:Nh)(a:Addr):It:=
 ⟨λi H=>∃xs x,fo K H a xs/\xs[i]?=some x,λi H x H'=>H'=H/\∀xs,fo K H a xs->xs[i]?=some x,λi H=>∃xs,fo K H a xs/\xs.length<=i⟩
noncomputable def LZ(K:Nh)(a:Addr):It:=
 ⟨λi H=>∃xs x,cQ K H a xs/\xs[i]?=some x,λi H x H'=>H'=H/\∀xs,cQ K H a xs->xs[i]?=some x,λi H=>∃xs,cQ K H a xs/\xs.length<=i⟩
noncomputable def Il(lo:Int)(n:Nat):It:=⟨λi _=>i<n,λi H x H'=>H'=H/\x=.int (lo+i),λi _=>n<=i⟩
variable{K:Nh}
theorem uv(a it:Addr):Turn P w K tg (LM K a) [it] it (λi h=>h.IsListIter it a i) where
 mem:=by simp
 obj:=λi h st b hb=>by
  have e:b=it:=by simpa using hb
  subst e;obtain⟨o,e,c,d⟩:=st;exact⟨o,e,λv z=>by rw[d] at z;cases z⟩
 keep:=λi h h' st k=>st.at λo e=>k it (by simp) o e
 item:=by intro X Z f g hc i pins s Y H E I hf st j;subst Z f g;obtain⟨xs,x,R,hx⟩:=j;obtain⟨l,rv,p,hz⟩:=I.list R;obtain⟨u,B,C⟩:=rv.get hx;obtain⟨m,n,G,r,t,A⟩:=hf it (by simp);refine wpAny_pyNext_list_item st p.isList (x:=u) (by simpa using B) λh' N sb=>?_;have V:Inv X pins Y H { s with heap:=h' }:=I.turned (t':=s.toks) (λb o hb e=>(sb.2 b hb).trans e) m n r t A;obtain⟨o,e,c,d⟩:=id N;exact⟨u,rfl,nG (s:={ s with heap:=h' }) e c d (by decide) ⟨x,H,V,C,⟨rfl,λys hy=>by rw[I.nY hy R];exact hx⟩,N,λb hb=>(hf b hb).1⟩⟩
 done:=by intro X Z f g hc i pins s Y H E I hf st j;subst Z f g;obtain⟨xs,R,hx⟩:=j;obtain⟨l,rv,p,hz⟩:=I.list R;obtain⟨m,n,G,r,t,A⟩:=hf it (by simp);have hl:=rv.length;exact wpAny_pyNext_list_end (I.ok.hd hc) st p.isList (by simp;lia) λh' eb=>⟨rfl,I.turned (t':=s.toks) (λb o hb e=>eb b o hb e) m n r t A⟩
 self:=λ_ _ _ _ _ st h=>wpAny_pyIter_listiter st h
theorem qF(a it:Addr):Turn P w K tg (LZ K a) [it] it (λi h=>h.IsTupleIter it a i) where
 mem:=by simp
 obj:=λi h st b hb=>by
  have e:b=it:=by simpa using hb
  subst e;obtain⟨o,e,c,d⟩:=st;exact⟨o,e,λv z=>by rw[d] at z;cases z⟩
 keep:=λi h h' st k=>st.at λo e=>k it (by simp) o e
 item:=by intro X Z f J hc i pins s Y H E I hf st j;subst Z f J;obtain⟨xs,x,R,hx⟩:=j;obtain⟨g,rv,p,hz⟩:=I.tuple R;obtain⟨u,B,C⟩:=rv.get hx;obtain⟨m,n,G,r,t,A⟩:=hf it (by simp);refine wpAny_pyNext_tuple_item st (show s.heap.IsTuple a g.toArray from p) (x:=u) (by simpa using B) λh' N sb=>?_;have V:Inv X pins Y H { s with heap:=h' }:=I.turned (t':=s.toks) (λb o hb e=>(sb.2 b hb).trans e) m n r t A;obtain⟨o,e,c,d⟩:=id N;exact⟨u,rfl,nG (s:={ s with heap:=h' }) e c d (by decide) ⟨x,H,V,C,⟨rfl,λys hy=>by rw[I.lE hy R];exact hx⟩,N,λb hb=>(hf b hb).1⟩⟩
 done:=by intro X Z f J hc i pins s Y H E I hf st j;subst Z f J;obtain⟨xs,R,hx⟩:=j;obtain⟨g,rv,p,hz⟩:=I.tuple R;obtain⟨m,n,G,r,t,A⟩:=hf it (by simp);have hl:=rv.length;exact wpAny_pyNext_tuple_end (I.ok.hd hc) st (show s.heap.IsTuple a g.toArray from p) (by simp;lia) λh' eb=>⟨rfl,I.turned (t':=s.toks) (λb o hb e=>eb b o hb e) m n r t A⟩
 self:=λ_ _ _ _ _ st h=>wpAny_pyIter_tupleiter st h
theorem qx(it:Addr)(lo:Int)(n:Nat):Turn P w K tg (Il lo n) [it] it (λi h=>IsRangeIter h it (lo+(i:Nat)*1) ((n:Int)-(i:Nat)) 1) where
 mem:=by simp
 obj:=λi h st b hb=>by
  have e:b=it:=by simpa using hb
  subst e;exact⟨_,st,λv z=>by have p:Data.fields _=Data.cell v:=z;cases p⟩
 keep:=λi h h' st k=>k it (by simp) _ st
 item:=by intro X Z f J hc i pins s Y H E I hf st j;subst Z f J;obtain⟨m,a,G,r,c,A⟩:=hf it (by simp);have W:=Walks.range (prog:=X.prog) (w:=X.w) (I.ok.hd hc) it lo 1 n;refine W.item i s _ _ j st λv h' tk u N kk=>?_;obtain⟨t,rfl⟩:=u;have V:Inv X pins Y H { s with heap:=h',toks:=tk }:=I.turned (λb o hb e=>kk b o (by simpa using hb) e) m a r c A;refine⟨_,rfl,nG (s:={ s with heap:=h',toks:=tk }) (n:= "range_iterator") N rfl rfl (by decide) ⟨.int (lo+i),H,V,⟨t,?_⟩,⟨rfl,rfl⟩,N,λb hb=>(hf b hb).1⟩⟩;rw[Int.mul_one]
 done:=by intro X Z f J hc i pins s Y H E I hf st j;subst Z f J;obtain⟨m,a,G,r,c,A⟩:=hf it (by simp);exact wpAny_pyNext_range_end (I.ok.hd hc) st (by have:n<=i:=j;lia) λh' eb=>⟨rfl,I.turned (t':=s.toks) (λb o hb e=>eb b o hb e) m a r c A⟩
 self:=λ_ _ _ _ _ st h=>wpAny_pyIter_rangeiter st h
variable{p:Pos}{fp:List Addr}
section
variable{X:Cx}{tg:Expr}
theorem nJ{Y:St}{R:It->Hp->Prop}{lo hi:Int}{t u v:Tok}{tk:Nat}(I:Inv X pins Y H s)(h1:-(2^62)<=lo)(h2:lo<2^62)(h3:-(2^62)<=hi)(h4:hi<2^62)
  (q:R (Il lo (hi-lo).toNat) H):wpAny (model X.prog X.w) X.A (pyIter (.ref s.heap.objs.size)) (L9 X pins Y tg R) E { s with heap:=s.heap.push { cls:=.type "range",data:=.fields #[.int lo t,.int hi u,.int 1 v] },toks:=tk }:=by
 refine wpAny_pyIter_range (IsRange.new ..) (small_one h1 h2 h3 h4) ?_;have V:Inv X pins Y H { s with heap:=s.heap.push { cls:=.type "range",data:=.fields #[.int lo t,.int hi u,.int 1 v] },toks:=tk }:=I.kept λb o e=>Nm _ e;refine⟨(s.heap.push { cls:=.type "range",data:=.fields #[.int lo t,.int hi u,.int 1 v] }).objs.size,[(s.heap.push { cls:=.type "range",data:=.fields #[.int lo t,.int hi u,.int 1 v] }).objs.size],_,_,H,rfl,
  V.kept (t':=tk) λb o e=>Nm _ e,qx _ lo (hi-lo).toNat,?_,λb hb=>?_,q⟩
 .have D:lo+((0:Nat):Int)*1=lo:=by simp
  have F:(((hi-lo).toNat:Nat):Int)-((0:Nat):Int)=Vk lo hi 1:=by rw[rangeSize_one];split<;>lia
  show IsRangeIter _ _ (lo+((0:Nat):Int)*1) ((((hi-lo).toNat:Nat):Int)-((0:Nat):Int)) 1;rw[D,F];exact NH _ rfl
 .have e:b=(s.heap.push { cls:=.type "range",data:=.fields #[.int lo t,.int hi u,.int 1 v] }).objs.size:=by simpa using hb
  subst e;exact V.AL (Nr _) (V.hok.fresh (Nr _))
def Ik(ta:TA):TI:=λY H R=>ta Y H λvs T=>∃j:Int,vs=[.int j] /\ -(2^62)<=j/\j<2^62/\R (Il 0 j.toNat) T
def Ht(ta:TA):TI:=λY H R=>ta Y H λvs T=>∃i j:Int,vs=[.int i,.int j]/\(-(2^62)<=i/\i<2^62 /\ -(2^62)<=j/\j<2^62)/\R (Il i (j-i).toNat) T
theorem u5{a:Expr}{ta:TA}(hg:Gl X "range")(hm:X.mg "range" = none)(ha:PA X [a] ta)(hs:starEach [a] X.env=[(false,eval a X.env)]:=by rfl):PI X tg (.Call (.Name "range" p) [a] [] pos) (Ik ta):=by
 intro pins s Y H R I h;refine Call_ (gn I hg hm boot_range (Py (bA (ha pos pins s Y H _ I h) λus s1 ⟨vs,H1,I1,r1,q1⟩=>?_) hs rfl));obtain⟨j,e,q1,q2,q⟩:=q1;subst e;cases r1 with
 |cons r rr=>cases rr;obtain⟨t,rfl⟩:=r;exact call_range_1 (nJ I1 (by lia) (by lia) q1 q2 (by simpa using q))
theorem vd{a b:Expr}{ta:TA}(hg:Gl X "range")(hm:X.mg "range" = none)(ha:PA X [a,b] ta)(hs:starEach [a,b] X.env=[(false,eval a X.env),(false,eval b X.env)]:=by rfl)(hs2:starEach [b] X.env=[(false,eval b X.env)]:=by rfl):
  PI X tg (.Call (.Name "range" p) [a,b] [] pos) (Ht ta):=by
 intro pins s Y H R I h;refine Call_ (gn I hg hm boot_range (Py (bA (ha pos pins s Y H _ I h) λus s1 ⟨vs,H1,I1,r1,q1⟩=>?_) (by rw[hs,hs2]) (by rw[hs2];rfl)));obtain⟨i,j,e,⟨q1,q2,q3,q4⟩,q⟩:=q1;subst e;cases r1 with
 |cons r rr=>
  cases rr with
  |cons r' rr=>cases rr;obtain⟨t,rfl⟩:=r;obtain⟨t',rfl⟩:=r';exact call_range_2 (nJ I1 q1 q2 q3 q4 q)
def KH(I:TI)(g:TG)(tb:TS):TS:=λD Y H=>I Y H λJ w=>∃W:Nat->Nat->St->Hp->Prop,(∃m,W 0 m Y w)/\∀i m Y H,W i m Y H->
 (J.stop i H/\D.nx Y H)\/(J.go i H/\∃N:St->Hp->Prop,(∀Z' H',N Z' H'->∃P,P<m/\W (i+1) P Z' H')/\∀x H',J.iX i H x H'->g x Y H' λT S=>tb { D with nx:=N,ct:=N,bk:=D.nx } T S)
noncomputable def jN(fp:List Addr)(h:Heap):List (Addr×Obj):=fp.filterMap λb=>(h.get? b).map λo=>(b,o)
theorem d6(hb:b∈fp)(e:h.get? b=some o):(b,o)∈jN fp h:=RU.mpr ⟨b,hb,by rw[e];rfl⟩
theorem uO{p:Addr×Obj}(hp:p∈jN fp h):p.1∈fp/\h.get? p.1=some p.2:=by
 obtain⟨b,hb,e⟩:=RU.mp hp;cases q:h.get? b with
 |none=>rw[q] at e;cases e
 |some o=>rw[q] at e;have e':(b,o)=p:=NJ e;subst e';exact⟨hb,q⟩
theorem Inv.pinned{Y:St}(I:Inv X pins Y H s)(hf:∀b∈fp,j9 X pins H b)(ho:∀b∈fp,∃o,s.heap.get? b=some o/\∀v,o.data≠.cell v):Inv X (pins++jN fp s.heap) Y H s:=
 I.mq λp hp=>(Nv.mp hp).elim (λz=>I.pin p (Nq _ z)) λz=>by obtain⟨hb,e⟩:=uO z;obtain⟨m,n,G,_⟩:=hf p.1 hb;obtain⟨o,e',d⟩:=ho p.1 hb;rw[e] at e';cases e';exact⟨e,m,n,G,d⟩
theorem Inv.cE{pl:List (Addr×Obj)}{Y:St}(I:Inv X (pins++pl) Y H s):Inv X pins Y H s:=I.mq λp hp=>I.pin p (Nq _ (NF _ hp))
theorem Dy{iter:Expr}{wi:TI}{g:TG}{tb:TS}(hp:PassesOwn (model X.prog X.w) X.A X.env X.xe)(hc:X.calm=true)(hi:PI X tg iter wi)(hg:PG X tg g)(hb:pF X body tb)
  (hs:∀x,foldedSetIterable iter X.env x=pure x:=by intro _;rfl):PS X (.For tg iter body [] pos) (KH wi g tb):=by
 intro pins s Y H D I h;refine wpAny_For (bA (hi pins s Y H _ I h) λv s1 h1=>bA h1 λitv s2 h2=>?_) hs;obtain⟨it,fp,tn,J,H2,e,I2,T,st2,f2,W,⟨m0,w0⟩,turn⟩:=h2;subst e;have stat:∀{H':Hp},(∀b∈fp,H' b=none)->∀b∈fp,j9 X pins H' b:=λhn b hb=>⟨hn b hb,(f2 b hb).2⟩
 refine codeAny_forLoop_any (λn s'=>∃i Z' H',Inv X pins Z' H' s'/\tn i s'.heap/\(∀b∈fp,H' b=none)/\W i n Z' H') ?_ m0 ⟨0,Y,H2,I2,st2,λb hb=>(f2 b hb).1,w0⟩;rintro n s3 ⟨i,V,H3,I3,st3,fr3,w3⟩;rcases turn i n V H3 w3 with ⟨stop,qn⟩|⟨go,N,hN,step⟩
 .refine wpAny_passesOwn hp (bA (T.done X rfl rfl rfl hc i pins s3 V H3 X.xe I3 (stat fr3) st3 stop) λr s4 ⟨hr,I4⟩=>?_);subst hr;exact wpAny_execs_nil ⟨V,H3,I4,qn⟩
 .refine wpAny_passesOwn hp (bA (T.item X rfl rfl rfl hc i pins s3 V H3 X.xe I3 (stat fr3) st3 go) λr s4 ⟨u,hr,h4⟩=>?_);subst hr;refine wpAny_passesOwn hp (bA h4 λ_ s5 ⟨x,H5,I5,r5,y5,st5,fr5⟩=>?_);have I5':=I5.pinned (stat fr5) (T.obj _ _ st5);refine wpAny_passesOwn hp (bA (hg _ s5 V H5 x u _ I5' r5 (step x H5 y5)) λ_ s6 ⟨R,H6,I6,q6⟩=>?_);refine wpAny_passesOwn hp (bA (hb _ s6 R H6 _ I6 q6) λf s7 q7=>?_);have again:∀{Z:St}{H7:Hp},Inv X (pins++jN fp s5.heap) Z H7 s7->N Z H7->∃m,m<n/\∃i Z' H',Inv X pins Z' H' s7/\tn i s7.heap/\(∀b∈fp,H' b=none)/\W i m Z' H':=λ{Z H7} I7 n7=>by obtain⟨m',hm,w7⟩:=hN Z H7 n7;refine⟨m',hm,i+1,Z,H7,I7.cE,T.keep _ _ _ st5 λb hb o e=>(I7.pin (b,o) (Nq _ (Nq _ (d6 hb e)))).1,λb hb=>?_,w7⟩;obtain⟨o,e,d⟩:=T.obj _ _ st5 b hb;exact(I7.pin (b,o) (Nq _ (Nq _ (d6 hb e)))).2.1
  cases f with
  |next=>obtain⟨Z,H7,I7,n7⟩:=q7;exact again I7 n7
  |cont=>obtain⟨Z,H7,I7,n7⟩:=q7;exact again I7 n7
  |brk=>obtain⟨Z,H7,I7,q7⟩:=q7;exact⟨Z,H7,I7.cE,q7⟩
  |ret v=>obtain⟨x7,Z,H7,I7,r7,q7⟩:=q7;exact⟨x7,Z,H7,I7.cE,r7,q7⟩
end
abbrev R2:=V->V->Hp->VK->Prop
def fG(X:Cx)(f:Value->Value->Sem Value)(r:R2):Prop:=
 ∀(pins:List (Addr×Obj))(s:Shared)(Y:St)(H:Hp)(x y:V)(v u:Value)(Q:VK),Inv X pins Y H s->RelV x v->RelV y u->r x y H Q->
  wpAny (model X.prog X.w) X.A (f v u) (EP X pins Y Q) X.xe s
def KO(X:Cx)(f:Value->Sem Value)(r:V->Hp->VK->Prop):Prop:=
 ∀(pins:List (Addr×Obj))(s:Shared)(Y:St)(H:Hp)(x:V)(v:Value)(Q:VK),Inv X pins Y H s->RelV x v->r x H Q->
  wpAny (model X.prog X.w) X.A (f v) (EP X pins Y Q) X.xe s
def dy(X:Cx)(f:Value)(r:List V->Hp->VK->Prop):Prop:=
 ∀(pins:List (Addr×Obj))(s:Shared)(Y:St)(H:Hp)(xs:List V)(us:List Value)(Q:VK),Inv X pins Y H s->Vals xs us->r xs H Q->
  wpAny (model X.prog X.w) X.A (call f us) (EP X pins Y Q) X.xe s
noncomputable def IP(r:R2)(ta tb:TE):TE:=λY H Q=>ta Y H λx T=>tb Y T λy S=>r x y S Q
noncomputable def MQ(r:V->Hp->VK->Prop)(ta:TE):TE:=λY H Q=>ta Y H λx T=>r x T Q
noncomputable def rI(C:Int->Int->Prop)(g:Int->Int->V):R2:=λx y H Q=>∃i j,x=.int i/\y=.int j/\C i j/\Q (g i j) H
noncomputable def vi(g:Int->Int->V):R2:=λx y H Q=>∃i j,x=.int i/\y=.int j/\Q (g i j) H
def rU(g:Int->V):V->Hp->VK->Prop:=λx H Q=>∃i,x=.int i/\Q (g i) H
variable{f:Value->Value->Sem Value}{r:R2}
section
variable{X:Cx}{a b c:Expr}{ta tb tc:TE}{pos:Pos}
theorem FL(ha:PE X a ta)(hb:PE X b tb){Y:St}(I:Inv X pins Y H s)
  (h:ta Y H λx T=>tb Y T λy S=>R x y S){Q:Value->Shared->Prop}
  (hf:∀v u s2 x y S,Inv X pins Y S s2->RelV x v->RelV y u->R x y S->wpAny (model X.prog X.w) X.A (f v u) Q X.xe s2):
  wpAny (model X.prog X.w) X.A (eval a X.env) (λv Z=>wpAny (model X.prog X.w) X.A (eval b X.env) (λu U=>wpAny (model X.prog X.w) X.A (f v u) Q X.xe U) X.xe Z) X.xe s:=by
 refine bA (ha pins s Y H _ I h) λv s1 ⟨x,T,V,k,d⟩=>?_;refine bA (hb pins s1 Y T _ V d) λu s2 ⟨y,S,e,g,i⟩=>?_;exact hf v u s2 x y S e k g i
theorem HH{op:Operator}(ho:fG X (binaryOp op) r)(ha:PE X a ta)(hb:PE X b tb):PE X (.BinOp a op b pos) (IP r ta tb):=by intro pins s Y H Q I h;exact wpAny_BinOp (FL ha hb I h λv u s2 x y S e o w q=>ho pins s2 Y S x y v u Q e o w q)
theorem HY{op:UnaryOp}{r:V->Hp->VK->Prop}(ho:KO X (unaryOp op) r)(ha:PE X a ta):PE X (.UnaryOp op a pos) (MQ r ta):=by intro pins s Y H Q I h;exact UnaryOp_ (bA (ha pins s Y H _ I h) λv s1 ⟨x,T,L,k,d⟩=>ho pins s1 Y T x v Q L k d)
theorem kO{C:Int->Int->Prop}{g:Int->Int->Int}
  (rule:∀(i j:Int)(t u:Tok)(s:Shared)(Q:Value->Shared->Prop)(E:Value->Shared->Prop),C i j->Q (.int (g i j) s.toks) { s with toks:=s.toks+1 }->wpAny (model X.prog X.w) X.A (f (.int i t) (.int j u)) Q E s):
  fG X f (rI C λi j=>.int (g i j)):=by
 intro pins s Y H x y v u Q I o z h;obtain⟨i,j,rfl,rfl,hc,q⟩:=h;obtain⟨t,rfl⟩:=o;obtain⟨t',rfl⟩:=z;exact rule i j t t' s _ _ hc ⟨.int (g i j),H,I.tok _,⟨_,rfl⟩,q⟩
theorem JO{g:Int->Int->Int}
  (rule:∀(i j:Int)(t u:Tok)(s:Shared)(Q:Value->Shared->Prop)(E:Value->Shared->Prop),Q (.int (g i j) s.toks) { s with toks:=s.toks+1 }->wpAny (model X.prog X.w) X.A (f (.int i t) (.int j u)) Q E s):
  fG X f (vi λi j=>.int (g i j)):=by
 intro pins s Y H x y v u Q I o z h;obtain⟨i,j,rfl,rfl,q⟩:=h;obtain⟨t,rfl⟩:=o;obtain⟨t',rfl⟩:=z;exact rule i j t t' s _ _ ⟨.int (g i j),H,I.tok _,⟨_,rfl⟩,q⟩
theorem FK{g:Int->Int->Bool}
  (rule:∀(i j:Int)(t u:Tok)(s:Shared)(Q:Value->Shared->Prop)(E:Value->Shared->Prop),Q (.bool (g i j)) s->wpAny (model X.prog X.w) X.A (f (.int i t) (.int j u)) Q E s):
  fG X f (vi λi j=>.bl (g i j)):=by
 intro pins s Y H x y v u Q I o z h;obtain⟨i,j,rfl,rfl,q⟩:=h;obtain⟨t,rfl⟩:=o;obtain⟨t',rfl⟩:=z;exact rule i j t t' s _ _ ⟨.bl (g i j),H,I,rfl,q⟩
def HZ(i j:Int):Prop:=0<=j/\j<=1000000/\i.natAbs<2^64
theorem F2:fG X (binaryOp .Add) (vi λi j=>.int (i+j)):=JO λ_ _ _ _ _ _ _ q=>add_int q
theorem Ga:fG X (binaryOp .Sub) (vi λi j=>.int (i-j)):=JO λ_ _ _ _ _ _ _ q=>sub_int q
theorem z4:fG X (binaryOp .Mod) (rI (λ_ j=>j≠0) λi j=>.int (i.fmod j)):=kO λ_ _ _ _ _ _ _ hc q=>mod_int' hc q
theorem EN:fG X (binaryOp .Pow) (rI HZ λi j=>.int (i^j.toNat)):=kO λ_ _ _ _ _ _ _ hc q=>pow_int_small hc.1 hc.2.1 hc.2.2 q
theorem MC{f:Value->Sem Value}{g:Int->Int}
  (rule:∀(i:Int)(t:Tok)(s:Shared)(Q:Value->Shared->Prop)(E:Value->Shared->Prop),Q (.int (g i) s.toks) { s with toks:=s.toks+1 }->wpAny (model X.prog X.w) X.A (f (.int i t)) Q E s):
  KO X f (rU λi=>.int (g i)):=by
 intro pins s Y H x v Q I o h;obtain⟨i,rfl,q⟩:=h;obtain⟨t,rfl⟩:=o;exact rule i t s _ _ ⟨.int (g i),H,I.tok _,⟨_,rfl⟩,q⟩
theorem Gu:KO X (unaryOp .USub) (rU λi=>.int (-i)):=MC λ_ _ _ _ _ q=>neg_int q
end
variable{us:List Value}
section
variable{X:Cx}{a b c:Expr}{ta tb tc:TE}{pos:Pos}
theorem Ck:fG X (compareOp .Lt) (vi λi j=>.bl (decide (i<j))):=FK λ_ _ _ _ _ _ _ q=>lt_int q
theorem Dk:fG X (compareOp .Gt) (vi λi j=>.bl (decide (j<i))):=FK λ_ _ _ _ _ _ _ q=>gt_int q
theorem Ci:fG X (compareOp .GtE) (vi λi j=>.bl (decide (j<=i))):=FK λ_ _ _ _ _ _ _ q=>ge_int q
theorem dP(b:Expr)(h:op≠.In:=by decide)(h2:op≠.NotIn:=by decide):behindInMarks op b=false:=by
 have e1:(op==VU)=false:=by cases op<;>first|rfl|exact absurd rfl h
 have e2:(op==Ve)=false:=by cases op<;>first|rfl|exact absurd rfl h2
 cases b<;>simp[behindInMarks,e1,e2]
theorem Bu(ho:fG X (compareOp op) r)(ha:PE X a ta)(hb:PE X b tb)(hm:behindInMarks op b=false):PE X (.Compare a [op] [b] pos) (IP r ta tb):=by intro pins s Y H Q I h;exact wpAny_Compare1 (FL ha hb I h λv u s2 x y S e o z q=>ho pins s2 Y S x y v u Q e o z q) hm
noncomputable def Ie(t:TE):TT:=λY H Q=>t Y H λx H'=>∃k,x=.bl k/\Q k H'
theorem BU(ho:fG X (compareOp op) r)(ha:PE X a ta)(hb:PE X b tb)(hm:behindInMarks op b=false):PT X (.Compare a [op] [b] pos) (Ie (IP r ta tb)):=by
 intro pins s Y H Q I h;refine wpAny_isTrue_Compare1 (bA (ha pins s Y H _ I h) λv s1 ⟨x,T,V,E,d⟩=>bA (hb pins s1 Y T _ V d) λu s2 ⟨y,S,O,g,i⟩=>bA (ho pins s2 Y S x y v u _ O E g i) λc w ⟨z,t,l,p,k,e,q⟩=>?_) hm
 subst e;cases p;exact wpAny_truthy_bool ⟨t,l,q⟩
theorem jt:(sizeLine:Nat)<2^63:=by rw[sizeLine_eq];decide
theorem qO:fG X (binaryOp .Add) (λx y H Q=>∃i j,x=.str i/\y=.str j/\i.length+j.length<=sizeLine/\Q (.str (i++j)) H):=by intro pins s Y H x y v u Q I o z h;obtain⟨i,j,rfl,rfl,hz,q⟩:=h;obtain⟨t,rfl⟩:=o;obtain⟨t',rfl⟩:=z;exact add_str (λt' tk=>⟨.str (i++j),H,I.tok _,⟨_,rfl⟩,q⟩) hz
theorem vals1{x:V}(r:Vals [x] us):∃u,us=[u]/\RelV x u:=by
 cases r with
 |cons k g=>cases g;exact⟨_,rfl,k⟩
theorem vals2{x:V}(r:Vals [x,y] us):∃u Y,us=[u,Y]/\RelV x u/\RelV y Y:=by
 cases r with
 |cons k g=>
  cases g with
  |cons p r4=>cases r4;exact⟨_,_,rfl,k,p⟩
theorem zv:dy X (.builtin "abs") (λxs H Q=>∃i,xs=[.int i]/\Q (.int (if i<0 then -i else i)) H):=by intro pins s Y H xs us Q I r h;obtain⟨i,rfl,q⟩:=h;obtain⟨u,rfl,t,rfl⟩:=vals1 r;exact call_abs_int λu tk=>⟨.int (if i<0 then -i else i),H,I.tok _,⟨_,rfl⟩,q⟩
theorem uF(hc:X.calm=true):dy X (.builtin "max") (λxs H Q=>∃i j,xs=[.int i,.int j]/\Q (.int (if j > i then j else i)) H):=by
 intro pins s Y H xs us Q I r h;obtain⟨i,j,rfl,q⟩:=h;obtain⟨u,a,rfl,⟨t,rfl⟩,⟨t',rfl⟩⟩:=vals2 r;refine max_two_ints (I.ok.hd hc) λh' tk k=>⟨_,H,I.kept k,?_,q⟩
 by_cases v:j > i
 .rw[if_pos v,if_pos v];exact⟨_,rfl⟩
 .rw[if_neg v,if_neg v];exact⟨_,rfl⟩
theorem uX(hc:X.calm=true):dy X (.builtin "min") (λxs H Q=>∃i j,xs=[.int i,.int j]/\Q (.int (if j<i then j else i)) H):=by
 intro pins s Y H xs us Q I r h;obtain⟨i,j,rfl,q⟩:=h;obtain⟨u,a,rfl,⟨t,rfl⟩,⟨t',rfl⟩⟩:=vals2 r;refine min_two_ints (I.ok.hd hc) λh' tk k=>⟨_,H,I.kept k,?_,q⟩
 by_cases v:j<i
 .rw[if_pos v,if_pos v];exact⟨_,rfl⟩
 .rw[if_neg v,if_neg v];exact⟨_,rfl⟩
theorem ub:dy X (.type "int") (λxs H Q=>(∃i,xs=[.int i]/\Q (.int i) H)\/∃k,xs=[.bl k]/\Q (.int (if k then 1 else 0)) H):=by
 intro pins s Y H xs us Q I r h;rcases h with ⟨i,rfl,q⟩|⟨k,rfl,q⟩
 .obtain⟨u,rfl,t,rfl⟩:=vals1 r;exact call_int_int ⟨.int i,H,I,⟨_,rfl⟩,q⟩
 .obtain⟨u,rfl,c⟩:=vals1 r;cases c;exact call_int_bool ⟨.int (if k then 1 else 0),H,I.tok _,⟨_,rfl⟩,q⟩
def Ji(K:Nh)(x:V)(H:Hp)(n:Nat):Prop:=
 match x with
 | .str y=>y.length<=sizeLine/\n=y.length
 | .byt y=>y.size<=sizeLine/\n=y.size
 | .ref p=>(∃xs,fo K H p xs/\n=xs.length)\/∃xs,cQ K H p xs/\n=xs.length
 |_=>False
theorem yw:dy X (.builtin "len") (λxs H Q=>∃x n,xs=[x]/\Ji X.K x H n/\Q (.int n) H):=by
 intro pins s Y H xs us Q I r h;obtain⟨x,n,rfl,e,q⟩:=h;obtain⟨u,rfl,o⟩:=vals1 r;have hl:=jt;have hs:sizeLine=16777216:=sizeLine_eq;cases x with
 |str y=>obtain⟨t,rfl⟩:=o;obtain⟨hy,e'⟩:y.length<=sizeLine/\n=y.length:=e;subst e';exact len_str (by lia) ⟨.int _,H,I.tok _,⟨_,rfl⟩,q⟩
 |byt y=>obtain⟨t,rfl⟩:=o;obtain⟨hy,e'⟩:y.size<=sizeLine/\n=y.size:=e;subst e';exact PySem.W.len_bytes (by lia) ⟨.int _,H,I.tok _,⟨_,rfl⟩,q⟩
 |ref p=>
  cases o;have e':(∃xs,fo X.K H p xs/\n=xs.length)\/∃xs,cQ X.K H p xs/\n=xs.length:=e;rcases e' with ⟨xs,hx,e'⟩|⟨xs,hx,e'⟩
  .subst e';obtain⟨b,L,pl,hz⟩:=I.list hx;have E:=L.length;exact Calls.call_len_list pl.isList (by simp only[Nk];lia) ⟨.int xs.length,H,I.tok _,⟨_,by simp only[Nk];rw[E]⟩,q⟩
  .subst e';obtain⟨b,L,pl,hz⟩:=I.tuple hx;have E:=L.length;exact len_tuple pl (by simp only[Nk];lia) ⟨.int xs.length,H,I.tok _,⟨_,by simp only[Nk];rw[E]⟩,q⟩
 |_=>exact(show False from e).elim
end
structure FH(h:Heap)(x dx C:Addr)(mA:Str->Option Value):Prop where
 obj:h.get? x=some (R6 C dx)
 ns:h.Ns1 dx mA
 ne:dx≠x
variable{dx:Addr}{mA:Str->Option Value}
theorem uL(n:h.Ns1 dx mA):∃od,h.get? dx=some od/\∀name,So name od=some (mA name):=by
 obtain⟨o,es,ep,ho,hd,hk,_,hm⟩:=n;refine⟨o,ho,λname=>?_⟩;have e:=hm name;unfold nsFind findBy at e;rw[<-Array.find?_toList] at e;unfold So;rw[hd];dsimp only;split
 .rename_i y q;rw[q] at e;exact congrArg some e
 .rename_i q;rw[q] at e;have a:es.toList.any (·.refKey)=false:=by rw[RY];intro y hy;obtain⟨z,t,H⟩:=hk y (Ry.mp hy);simp[DictEntry.refKey,H]
  have a':¬ es.toList.any (·.refKey)=true:=by rw[a];exact Og
  rw[if_neg a'];exact congrArg some e
variable{C:Addr}
theorem FH.look{x:Addr}(I:FH h x dx C mA):∃od,PySem.W.InstAt h x (R6 C dx) C (some od)/\∀name,So name od=some (mA name):=
 let ⟨od,ho,hl⟩:=uL I.ns
 ⟨od,⟨I.obj,rfl,rfl,ho⟩,hl⟩
section
variable{P:Program}{w:World}{H H':Hp}{h h':Heap}{a C dx:Addr}{fs fs':List (Str×V)}
theorem Ab(hok:iD P w H h)(e:H a=some (.ins C dx fs)):∃mA,FH h a dx C mA/\(∀f,G0 (fs.lookup f) (mA f))/\U5 mA (fs.map (·.1))/\fs.length<=1000/\H dx=some (.own a):=by
 obtain⟨d,z,ne,ob,mA,n,r,q⟩:=(show bj P w H h a (.ins C dx fs) from hok a _ e)
 exact⟨mA,⟨ob,n,ne⟩,r,q,z,d⟩
end
structure Fu(K:Nh)(C:Addr):Prop where
 pg:RV K C Str.empty=true
 hd:TN K C=true
 po:TQ K C=true
 sa:Pq K (.ref C) "__setattr__" = some (some (.builtin "object.__setattr__"))
theorem Fu.get(c:Fu K C)(f:Str):RV K C f=true:=c.pg
def DO(K:Nh)(C:Addr)(f:Str):Prop:=Pq K (.ref C) f=some none
structure Meth(K:Nh)(C:Addr)(m:Str)(f:Addr):Prop where
 at_:Pq K (.ref C) m=some (some (.ref f))
 fn:SY K (.ref f)=true
 kp:O4 K (.ref f)=true
section
variable{X:Cx}{pins:List (Addr×Obj)}{Y:St}{H:Hp}{s:Shared}{A:Around}{E:Value->Shared->Prop}{Q:Value->Shared->Prop}{c:Value}{b:Bool}
inductive i7(K:Nh)(H:Hp):V->Value->Prop where
 |non:i7 K H .non (.type "NoneType")
 |bl(x:Bool):i7 K H (.bl x) (.type "bool")
 |int(i:Int):i7 K H (.int i) (.type "int")
 |str(x:Str):i7 K H (.str x) (.type "str")
 |flt(x:UInt64):i7 K H (.flt x) (.type "float")
 |lst{a:Addr}{xs:List V}(e:H a=some (.lst xs)):i7 K H (.ref a) (.type "list")
 |frz{a:Addr}{o:Obj}{xs:List V}(e:H a=some (.frz o (.lst xs))):i7 K H (.ref a) (.type "list")
 |tup{a:Addr}{xs:List V}(e:H a=some (.tup xs)):i7 K H (.ref a) (.type "tuple")
 |dK{a:Addr}{kvs:List (Key×V)}(e:H a=some (.dK kvs)):i7 K H (.ref a) (.type "dict")
 |dT{a:Addr}{kvs:List (List Key×V)}(e:H a=some (.dT kvs)):i7 K H (.ref a) (.type "dict")
 | ins {a C dx:Addr} {fs:List (Str×V)} (e:H a=some (.ins C dx fs)) (cl:Fu K C) (ha:Pq K (.ref C) "__class__" = some (some (.builtin "object.__class__")))
   (hn:PySem.W.specialIn K (.builtin "object.__class__") "__get__" = some (some (.builtin "getset_descriptor.__get__"))) (htk:PySem.W.takesIn K (.builtin "object.__class__")=some true)
   (hm:PySem.W.mroIn K C (.type "object")=some true):i7 K H (.ref a) (.ref C)
end
structure cY(k:Nat)(A:Around):Prop where
 hd:A.handled=none
 dp:A.depth+3*k+5<recursionLimit
 un:A.units+16*k+200<cLine
theorem cY.mono{A:Around}(r:cY k A)(h:j<=k):cY j A:=⟨r.hd,by have:=r.dp;lia,by have:=r.un;lia⟩
theorem cY.deeper{k:Nat}{A:Around}(r:cY (k+1) A)(env:Env):cY k (A.deeper env):=
 ⟨r.hd,by have:=r.dp;show A.depth+1+3*k+5<_;lia,by have:=r.un;show A.units+3+16*k+200<_;lia⟩
theorem cY.depth{k:Nat}{A:Around}(r:cY k A):A.depth<recursionLimit:=by have:=r.dp;lia
theorem cY.units{k:Nat}{A:Around}(r:cY k A):A.units+64<cLine:=by have:=r.un;lia
noncomputable def Fd:TA:=λ_ H Q=>Q [] H
noncomputable def vA(ta:TE)(tr:TA):TA:=λY H Q=>ta Y H λx T=>tr Y T λxs S=>Q (x::xs) S
section
variable{X:Cx}{e:Expr}{es:List Expr}{te:TE}{t:TA}{pos:Pos}
theorem bZ:PA X [] Fd:=λ_ _ _ _ H Q I h=>Uc ⟨[],H,I,.nil,h⟩
theorem bb(ha:PE X e te)(hr:PA X es t)(hs:starEach (e::es) X.env=(false,eval e X.env)::starEach es X.env:=by rfl):PA X (e::es) (vA te t):=by intro pos pins s Y H Q I h;rw[hs];show wpAny _ _ (spliced ((false,eval e X.env)::backTo pos (starEach es X.env))) _ _ s;refine T4 (bA (ha pins s Y H _ I h) λu s1 ⟨x,H1,I1,r1,q1⟩=>?_);exact bA (hr pos pins s1 Y H1 _ I1 q1) λus s2 ⟨xs,H2,I2,r2,q2⟩=>⟨x::xs,H2,I2,.cons r1 r2,q2⟩
def Kv(t:TA):TE:=λY H Q=>t Y H λxs T=>xs.length<=sizeLine/\∀p,T p=none->Q (.ref p) (upd T p (.tup xs))
def Lx(t:TA):TE:=λY H Q=>t Y H λxs T=>xs.length<=sizeLine/\∀p,T p=none->Q (.ref p) (upd T p (.lst xs))
theorem Gx{x1}(h:PA X es t):PE X (.Tuple es x1 pos) (Kv t):=by intro pins s Y H Q I R;refine wpAny_Tuple_spliced (bA (h pos pins s Y H _ I R) λus s1 ⟨xs,T,V,r,z,q⟩=>⟨by rw[<-r.length];exact z,?_⟩);have hf:T s1.heap.objs.size=none:=V.hok.fresh (Nr _);refine⟨.ref s1.heap.objs.size,upd T s1.heap.objs.size (.tup xs),V.laid (t':=s1.toks) (λb u e=>Nm _ e) (Nr _) ?_,rfl,q _ hf⟩;exact⟨z,us,r,⟨_,NH _ rfl,rfl,_,rfl,rfl⟩⟩
theorem G5(h:PA X es t):PE X (.List es pos) (Lx t):=by intro pins s Y H Q I R;refine wpAny_List_spliced (bA (h pos pins s Y H _ I R) λus s1 ⟨xs,T,V,r,z,q⟩=>⟨by rw[<-r.length];exact z,?_⟩);have hf:T s1.heap.objs.size=none:=V.hok.fresh (Nr _);refine⟨.ref s1.heap.objs.size,upd T s1.heap.objs.size (.lst xs),V.laid (t':=s1.toks) (λb u e=>Nm _ e) (Nr _) ?_,rfl,q _ hf⟩;exact⟨z,us,0,r,NH _ rfl⟩
end
abbrev Sp:=List V->Hp->VK->XK->Prop
abbrev oj:=List Env->Hp->Shared->XK->Value->Shared->Prop
structure AN(P:Program)(w:World)(K:Nh)(mg:Str->Option Value)(base:Heap)(A:Around)(outer:List Env)(s:Shared)(H:Hp):Prop where
 frames:A.frames=some outer
 mod:Mod K mg base
 bs:∀b o,base.get? b=some o->s.heap.get? b=some o/\H b=none
 bsz:base.objs.size<=s.heap.objs.size
 l5:s.heap.FunFrames base outer
 frf:∀b∈jo outer,H b=none
 hok:iD P w H s.heap
 bare:AllBare s.gens
def CE(outer:List Env)(P:Program)(w:World)(H:Hp)(s:Shared)(Q:VK)(u:Value)(s':Shared):Prop:=
 ∃v H',s'.os=s.os/\AllBare s'.gens/\Un (jo outer) [] H H' s.heap s'.heap/\iD P w H' s'.heap/\RelV v u/\Q v H'
def CR(CX:oj)(outer:List Env)(P:Program)(w:World)(H:Hp)(s:Shared)(Q:VK)(E:XK)(r:Result)(s':Shared):Prop:=
 match r with
 | .ok (.ret u)=>CE outer P w H s Q u s'
 | .ok _=>False
 | .error e=>CX outer H s E e s'
structure dM(P:Program)(w:World)(K:Nh)(mg:Str->Option Value)(base:Heap)(CX:oj)(k:Nat)(f:Addr)(fd:FuncData)(ps:List Str)(sp:Sp):Prop where
 len:∀vs H Q E,sp vs H Q E->vs.length=ps.length
 run:∀(A:Around)(outer:List Env)(s:Shared)(H:Hp)(args:Args)(us:List Value)(vs:List V)(Q:VK)(E:XK),cY k A->AN P w K mg base A outer s H->BindsTo s fd args (ps.zip us)->Vals vs us->sp vs H Q E->
  codeAny (model P w) A (.call (.ref f) args) (CR CX outer P w H s Q E) s
theorem dM.mono{P:Program}{w:World}{K:Nh}{mg:Str->Option Value}{base:Heap}{CX:oj}{j k:Nat}{f:Addr}{fd:FuncData}{ps:List Str}{sp:Sp}(F:dM P w K mg base CX j f fd ps sp)(h:j<=k):
  dM P w K mg base CX k f fd ps sp:=⟨F.len,λA outer s H args us vs Q E t=>F.run A outer s H args us vs Q E (t.mono h)⟩
variable{mg:Str->Option Value}{base:Heap}{CX:oj}{fd:FuncData}{ps:List Str}
theorem dM.imp{f:Addr}{sp X:Sp}(F:dM P w K mg base CX k f fd ps sp)
  (h:∀vs H Q E,X vs H Q E->sp vs H Q E):dM P w K mg base CX k f fd ps X:=
 ⟨λvs H Q E q=>F.len vs H Q E (h _ _ _ _ q),λA outer s H args us vs Q E t he hb u hs=>F.run A outer s H args us vs Q E t he hb u (h _ _ _ _ hs)⟩
section
variable{X:Cx}{pins:List (Addr×Obj)}{Y:St}{H:Hp}{s s':Shared}
theorem Inv.K3(I:Inv X pins Y H s):AN X.prog X.w X.K X.mg X.base X.A X.stack s H:=
 ⟨I.ok.frames,I.ok.mod,I.bs,N5 I.ok.bsz I.sz,I.stack,I.tm,I.hok,I.bare⟩
theorem Inv.after{Q:VK}(I:Inv X pins Y H s)(h:CE X.stack X.prog X.w H s Q u s'):EP X pins Y Q u s':=by obtain⟨v,H',os,bare,un,hok,r,q⟩:=h;obtain⟨y,g,d,t,x⟩:=s';obtain rfl:x=s.os:=os;exact⟨v,H',I.call (h':=y) (g':=g) (d':=d) (t':=t) (ch:=[]) un hok bare (λb z=>absurd z (by simp)),r,q⟩
end
noncomputable def IA(sp:Sp)(dvs:List V)(E:XK)(t:TA):TE:=λY H Q=>t Y H λvs T=>sp (vs++dvs) T Q E
def Binds(K:Nh)(fd:FuncData)(ps:List Str)(ds:List Value):Prop:=
 ∀(s:Shared)(us:List Value),K.In s.heap->(us++ds).length=ps.length->BindsTo s fd ⟨us,[]⟩ (ps.zip (us++ds))
theorem Binds.all(h:∀us:List Value,us.length=ps.length->bindArgs fd ⟨us,[]⟩=pure (ps.zip us)):Binds K fd ps []:=λs us _ hl=>by rw[Oo] at hl ⊢;exact .of_eq (h us hl)
def Passes(CX:oj)(X:Cx)(E:XK):Prop:=∀(pins:List (Addr×Obj))(Y:St)(H:Hp)(s:Shared)(e:Value)(s':Shared),Inv X pins Y H s->CX X.stack H s E e s'->X.xe e s'
variable{vs:List V}
section
variable{X:Cx}{CX:oj}{k:Nat}{f C:Addr}{fd:FuncData}{ps:List Str}{sp:Sp}{dvs:List V}{ds:List Value}{E:XK}{x m:Str}{p pos apos:Pos}{e o:Expr}{es:List Expr}{ta:TE}{t:TA}
theorem Ef{Y:St}{Q:VK}(F:dM X.prog X.w X.K X.mg X.base CX k f fd ps sp)(t:cY k X.A)(hb:Binds X.K fd ps ds)(hd:Vals dvs ds)(hx:Passes CX X E)
  (I:Inv X pins Y H s)(r:Vals vs us)(h:sp (vs++dvs) H Q E):wpAny (model X.prog X.w) X.A (call (.ref f) us) (EP X pins Y Q) X.xe s:=by
 have g:Vals (vs++dvs) (us++ds):=r.append hd;have hl:(us++ds).length=ps.length:=by rw[<-g.length];exact F.len _ _ _ _ h
 refine wpAny_call (codeAny_mono (F.run X.A X.stack s H ⟨us,[]⟩ (us++ds) (vs++dvs) Q E t I.K3 (hb s us I.Cm hl) g h) λr s' R=>?_);cases r with
 |error e=>exact hx pins Y H s e s' I R
 |ok fl=>
  cases fl with
  |ret u=>exact I.after R
  |next=>exact Qk R
  |brk=>exact Qk R
  |cont=>exact Qk R
theorem sH(F:dM X.prog X.w X.K X.mg X.base CX k f fd ps sp)(hr:cY k X.A)(hg:Gl X x)(hm:X.mg x=some (.ref f))(hk:O4 X.K (.ref f)=true)(hb:Binds X.K fd ps ds)(hd:Vals dvs ds)(hx:Passes CX X E)
  (ha:PA X (e::es) t)(hdb:gq x:=by decide)(he:starEach (e::es) X.env=(false,eval e X.env)::starEach es X.env:=by rfl)(hpl:(backTo pos (starEach es X.env)).any (·.1)=false:=by rfl):
  PE X (.Call (.Name x p) (e::es) [] pos) (IA sp dvs E t):=by
 intro pins s Y H Q I h;refine wpAny_Call_Name_kw (rD I hg hm ?_ hdb);refine PySem.W.callWith_K (h₀:=X.base) I.ok.mod.kin hk (bA (ha pos pins s Y H _ I h) λus s1 ⟨vs,H1,I1,r,q⟩=>⟨I1.Cm,?_⟩) he hpl;exact Ef F hr hb hd hx I1 r q
structure Mk(K:Nh)(C f:Addr):Prop where
 makes:Ud K C=true
 init:Pq K (.ref C) "__init__" = some (some (.ref f))
 fn:SY K (.ref f)=true
 kp:O4 K (.ref C)=true
end
structure gY(N P:List Str)(sc:Scope):Prop where
 kind:sc.kind=.function
 co:sc.isCoroutine=false
 gen:sc.isGenerator=false
 nd:N.Nodup
 pre:N.take P.length=P
 par:∀x∈P,sc.names.lookup x=some .local\/sc.names.lookup x=some .cell
 nofree:∀y∈sc.names,y.2≠.free
theorem lM{kindOf:Str->Option NameKind}{x:Str}:∀{Y:List (Str×Value)}{m:Str->Option Value},(∀v,(x,v)∉Y)->bindL kindOf Y m x=m x
 |[],_,_=>rfl
 |(n,v)::r,m,h=>by
  unfold bindL;rw[lM λw f=>h w (Nt _ f)];split
  .have:x≠n:=by rintro rfl;exact h v Nu
   simp[this]
  .rfl
theorem lu{kindOf:Str->Option NameKind}{x:Str}:∀{Y:List (Str×Value)}{m:Str->Option Value},(∀v,(x,v)∉Y)->bindC kindOf Y m x=m x
 |[],_,_=>rfl
 |(n,v)::r,m,h=>by
  unfold bindC;rw[lu λw f=>h w (Nt _ f)];split
  .rfl
  .have:x≠n:=by rintro rfl;exact h v Nu
   simp[this]
theorem lj{kindOf:Str->Option NameKind}{x:Str}{v:Value}:∀{P:List Str}{vs:List Value}{i:Nat}{m:Str->Option Value},P.Nodup->P[i]?=some x->vs[i]?=some v->kindOf x=some .local->
  bindL kindOf (P.zip vs) m x=some v
 |[],_,_,_,_,h,_,_=>by simp at h
 |_::_,[],_,_,_,_,h,_=>by simp at h
 |p::P,w::vs,0,m,nd,h1,h2,hk=>by simp at h1 h2;subst h1;subst h2;show bindL kindOf ((p,w)::P.zip vs) m p=_;unfold bindL;rw[lM λv u=>(Oe.mp nd).1 (Rh u).1,if_pos hk];simp
 |p::P,w::vs,i+1,m,nd,h1,h2,hk=>by show bindL kindOf ((p,w)::P.zip vs) m x=_;unfold bindL;exact lj (i:=i) (Oe.mp nd).2 (by simpa using h1) (by simpa using h2) hk
theorem lp{kindOf:Str->Option NameKind}{x:Str}{v:Value}:∀{P:List Str}{vs:List Value}{i:Nat}{m:Str->Option Value},P.Nodup->P[i]?=some x->vs[i]?=some v->kindOf x≠some .local->
  bindC kindOf (P.zip vs) m x=some v
 |[],_,_,_,_,h,_,_=>by simp at h
 |_::_,[],_,_,_,_,h,_=>by simp at h
 |p::P,w::vs,0,m,nd,h1,h2,hk=>by simp at h1 h2;subst h1;subst h2;show bindC kindOf ((p,w)::P.zip vs) m p=_;unfold bindC;rw[lu λv u=>(Oe.mp nd).1 (Rh u).1,if_neg hk];simp
 |p::P,w::vs,i+1,m,nd,h1,h2,hk=>by show bindC kindOf ((p,w)::P.zip vs) m x=_;unfold bindC;exact lp (i:=i) (Oe.mp nd).2 (by simpa using h1) (by simpa using h2) hk
noncomputable def start(N:List Str)(vs:List V):St:=vs.map some++Oc (N.length-vs.length) none
noncomputable def p7(CX:oj)(P:Program)(w:World)(K:Nh)(mg:Str->Option Value)(base:Heap)(N:List Str)(qual:Str)(scope:Scope)(f:Addr)(cd:Value)(A:Around)(outer:List Env)(s:Shared)(H:Hp)(E:XK):Cx where
 prog:=P
 w:=w
 K:=K
 mg:=mg
 base:=base
 A:=A.deeper (envOfC qual scope s.heap.objs.size f cd)
 N:=N
 s₀:=s
 H₀:=H
 env:=envOfC qual scope s.heap.objs.size f cd
 outer:=outer
 stack:=envOfC qual scope s.heap.objs.size f cd::outer
 ex:=[]
 calm:=true
 fn:=λ_=>true
 pn:=[]
 xe:=λe s'=>wpAny (model P w) (A.deeper (envOfC qual scope s.heap.objs.size f cd)) (leaving (envOfC qual scope s.heap.objs.size f cd) e) (λ_ Q=>CX outer H s E e Q) (λe' Q=>CX outer H s E e' Q) s'
theorem nV{sc:Scope}{n:Nat}(h:sc.names.lookup x=some .cell):∃c,(cellsFrom n sc.names []).lookup x=some c:=by have q:=S3 sc.names n [] (.inl h);exact Option.isSome_iff_exists.mp q
variable{scope:Scope}
theorem uw{qual:Str}{f:Addr}{cd:Value}{A:Around}{outer:List Env}{s1:Shared}{E:XK}
  (S:gY N ps scope)(hd:A.handled=none)(X:AN P w K mg base A outer s H)(hl:vs.length=ps.length)(r:Vals vs us)
  (x:InCallC s s.heap.objs.size (bindL (envOfC qual scope s.heap.objs.size f cd).kindOf (ps.zip us) λ_=>none) (cellsFrom (s.heap.objs.size+1) scope.names []) (bindC (envOfC qual scope s.heap.objs.size f cd).kindOf (ps.zip us) λ_=>none) s1):
  Inv (p7 CX P w K mg base N qual scope f cd A outer s H E) [] (start N vs) H s1:=by
 have Y:ps.length<=N.length:=by have:=congrArg TR S.pre;rw[P6] at this;lia
 obtain⟨h1,tk,rfl,hk⟩:=x.done;have O:∀b:Addr,b∉(p7 CX P w K mg base N qual scope f cd A outer s H E).ex:=λb z=>absurd (show b∈([]:List Addr) from z) (by simp);refine⟨⟨X.mod,S.kind,rfl,rfl,Nr _,λy z c h1 h2=>?_,λy hy=>?_,λy c _ h=>?_,λ_=>hd,Around.frames_deeper X.frames,.inr ⟨rfl,rfl⟩,λb z=>absurd z (O b),X.bs,X.bsz,λb _ _=>O b,λb z=>absurd z (O b),X.l5,X.frf⟩,
  rfl,X.bare,Un.kept hk,⟨_,x.toInCall.ns,λi y v h1 h2 h3=>?_⟩,λy c h=>⟨_,x.cell y c h⟩,X.hok.fresh (Nr _),λy c h=>?_,λp hp=>absurd (show p∈([]:List (Addr×Obj)) from hp) (by simp),X.hok.kept hk,?_⟩
 .exact name_of_addr x.apart (Pw h1) (Pw h2)
 .have hy:scope.names.lookup y=some .cell\/scope.names.lookup y=some .free:=hy;rcases hy with hy|hy
  .exact nV hy
  .exact absurd rfl (S.nofree _ (Pw hy))
 .exact QG (x.above y c (Pw h))
 .have hi:i<vs.length:=by
   unfold start at h2;by_cases hi:i<vs.length
   .exact hi
   .rw[Oa (by simpa using hi)] at h2;rw[Tp] at h2;split at h2<;>cases h2
  have ha:vs[i]?=some v:=by
   unfold start at h2;rw[Ob (by simpa using hi),NS] at h2;cases e:vs[i]? with
   |none=>rw[e] at h2;cases h2
   |some a=>rw[e] at h2;cases h2;rfl
  obtain⟨u,B,rv⟩:=r.get ha;have hp:ps[i]?=some y:=by rw[<-S.pre,QZ (by lia)];exact h1
  have Q:ps.Nodup:=by rw[<-S.pre];exact S.nd.sublist (RZ _ _)
  refine⟨u,rv,?_⟩;rcases S.par y (NV hp) with k|k
  .exact .inl ⟨k,lj Q hp B k⟩
  .obtain⟨c,e⟩:=nV (n:=s.heap.objs.size+1) k;refine .inr ⟨.inl k,c,e,?_⟩;have q:=x.cell y c e;rw[lp Q hp B (by show scope.names.lookup y≠_;rw[k];decide)] at q;exact q
 .exact X.hok.fresh (QG (x.above y c (Pw h)))
 .unfold start;show _=N.length;rw[Ny,Nl,Tv];lia
theorem J1{f:Addr}{name qual:Str}{params:Arguments}{dV kV doc pm cdv ct oc:Value}{an od:Option Addr}
  {osl:Array (Option Value)}{sp:Sp}(lk:K.lookup f=some ⟨oc,od,.func (RL name qual params body scope dV kV doc pm an cdv ct),osl⟩)(C:Ri K cdv qual=true)(S:gY N ps scope)
  (len:∀vs H Q E,sp vs H Q E->vs.length=ps.length)
  (h:∀(A:Around)(outer:List Env)(s:Shared)(H:Hp)(vs:List V)(Q:VK)(E:XK),cY k (A.deeper (envOfC qual scope s.heap.objs.size f cdv))->sp vs H Q E->
   ∃t,pF (p7 CX P w K mg base N qual scope f cdv A outer s H E) body t/\t { nx:=λ_ H'=>Q .non H',rt:=Q } (start N vs) H):
  dM P w K mg base CX (k+1) f (RL name qual params body scope dV kV doc pm an cdv ct) ps sp:=by
 refine⟨len,λA outer s H args us vs Q E D c hb r l=>?_⟩;have hl:=len _ _ _ _ l;have L:K.In s.heap:=c.mod.kin.keeps λb o e=>(c.bs b o e).1;have F:s.heap.NoLimit:=c.mod.nolimit.keeps λb o e=>(c.bs b o e).1;have X:∀y∈ps.zip us,scope.names.lookup y.1=some .local\/(scope.names.lookup y.1=some .cell/\((cellsFrom (s.heap.objs.size+1) scope.names []).lookup y.1).isSome=true):=λ⟨n,v⟩ hy=>by
  rcases S.par n (Rh hy).1 with q|q
  .exact .inl q
  .exact .inr ⟨q,S3 _ _ _ (.inl q)⟩
 refine codeAny_call_function D.depth (L _ _ lk) rfl S.co S.gen rfl (PySem.W.codeRec_of L C) (hb _ _ _ _ ?_);refine wpAny_newFunctionEnv_cells S.kind X λenv he s1 x=>?_;subst he;refine⟨F.keeps x.toInCall.keep,codeAny_func ?_⟩;obtain⟨t,ht,R⟩:=h A outer s H vs Q E (D.deeper _) l;have I:Inv (p7 CX P w K mg base N qual scope f cdv A outer s H E) [] (start N vs) H s1:=uw S D.hd c hl r x;refine wpAny_mono (ht [] s1 (start N vs) H _ I R) (λfl s' hs=>?_) λe s' hs=>hs;have fin:∀{Z':St}{H':Hp}{v:V}{u:Value},Inv (p7 CX P w K mg base N qual scope f cdv A outer s H E) [] Z' H' s'->RelV v u->Q v H'->CE outer P w H s Q u s':=
  λ{Z' H' v u} J rv q=>⟨v,H',J.os,J.bare,J.base,J.hok,rv,q⟩
 cases fl with
 |ret u=>obtain⟨v,Z',H',J,rv,q⟩:=hs;exact fin J rv q
 |next=>obtain⟨Z',H',J,q⟩:=hs;exact fin (v:=V.non) (u:=P1) J rfl q
 |brk=>obtain⟨_,_,_,q⟩:=hs;exact Qk q
 |cont=>obtain⟨_,_,_,q⟩:=hs;exact Qk q
section
variable{X:Cx}{x:Str}{p pos:Pos}{e:Expr}{es:List Expr}{t:TA}{id T:String}{r:List V->Hp->VK->Prop}
noncomputable def L7(r:List V->Hp->VK->Prop)(t:TA):TE:=λY H Q=>t Y H λvs T=>r vs T Q
theorem hG(hc:dy X (.builtin id) r)(hg:Gl X x)(hm:X.mg x=none)(hv:bootBuiltins x=some (.builtin id))(ha:PA X (e::es) t)(hn:x ≠ "__name__" := by decide)(hdb:gq x:=by decide)
  (he:starEach (e::es) X.env=(false,eval e X.env)::starEach es X.env:=by rfl)(hpl:(backTo pos (starEach es X.env)).any (·.1)=false:=by rfl):PE X (.Call (.Name x p) (e::es) [] pos) (L7 r t):=by
 intro pins s Y H Q I h;refine wpAny_Call_Name_kw (gn I hg hm hv ?_ hn hdb);exact RC (bA (ha pos pins s Y H _ I h) λus s1 ⟨vs,H1,I1,r1,q1⟩=>hc pins s1 Y H1 vs us Q I1 r1 q1) he hpl
theorem uz(hc:dy X (.type T) r)(hg:Gl X x)(hm:X.mg x=none)(hv:bootBuiltins x=some (.type T))(ha:PA X (e::es) t)(hn:x ≠ "__name__" := by decide)(hdb:gq x:=by decide)
  (he:starEach (e::es) X.env=(false,eval e X.env)::starEach es X.env:=by rfl)(hpl:(backTo pos (starEach es X.env)).any (·.1)=false:=by rfl):PE X (.Call (.Name x p) (e::es) [] pos) (L7 r t):=by
 intro pins s Y H Q I h;refine wpAny_Call_Name_kw (gn I hg hm hv ?_ hn hdb);exact Py (bA (ha pos pins s Y H _ I h) λus s1 ⟨vs,H1,I1,r1,q1⟩=>hc pins s1 Y H1 vs us Q I1 r1 q1) he hpl
end
end L2
namespace HT
open PySem PyProof.Rows
variable{Q:Value->Shared->Prop}{sl:Addr}{vl vu:Value}{lo hi:Option Int}
section
variable{prog:Program}{w:World}{A:Around}{E:Value->Shared->Prop}{s:Shared}
theorem BP{t b:Addr}{vs a:List Value}(ht:IsTup s.heap t vs.toArray)(hb:IsTup s.heap b a.toArray)(u:vs≠[])
  (h1:a=[]->Q (.ref t) s)(h2:a≠[]->Q (.ref s.heap.objs.size) { s with heap:=s.heap.push { cls:=.type "tuple",data:=.seq (vs++a).toArray } })
  (hsz:vs.length+a.length<=sizeLine):wpAny (model prog w) A (binaryOp .Add (.ref t) (.ref b)) Q E s:=by
 obtain⟨⟨cls,x,data,sl⟩,ho,hc,n,hd⟩:=id ht;obtain⟨⟨y,K,data2,h⟩,H,q,I,v⟩:=id hb;simp only at hc hd q v;subst hc hd q v;have e:vs.toArray++a.toArray=(vs++a).toArray:=by simp
 by_cases f:a=[]
 .exact concat_meets ⟨_,ho,rfl⟩ ⟨_,H,rfl⟩ noFill_tuple_add seq_tuple_add Q3 QU (QP _ _)
   (tuple_addW1 t b vs.toArray a.toArray n I x K sl h (by simpa using u) (by simp[f])) ⟨ho,H,h1 f⟩
 .refine concat_meets ⟨_,ho,rfl⟩ ⟨_,H,rfl⟩ noFill_tuple_add seq_tuple_add Q3 QU (QP _ _)
   (tuple_addW2 t b vs.toArray a.toArray n I x K sl h (by simpa using u) (by simpa using f) (by rw[Nk,Nk];exact hsz)) ⟨ho,H,?_⟩
  rw[e];exact h2 f
noncomputable def bV(n d:Nat):Option Int->Nat
 |none=>d
 |some v=>if v<0 then (v+(n:Int)).toNat else min v.toNat n
theorem oK(n d:Nat):bV n d none=d:=rfl
theorem tY(n d k:Nat):bV n d (some (k:Int))=min k n:=by show (if (k:Int)<0 then ((k:Int)+(n:Int)).toNat else min (k:Int).toNat n)=min k n;rw[if_neg (by lia),OF]
theorem Dv(n d:Nat)(hd:d<=n)(o:Option Int):bV n d o<=n:=by
 cases o with
 |none=>exact hd
 |some v=>
  show (if v<0 then (v+(n:Int)).toNat else min v.toNat n)<=n;by_cases u:v<0
  .rw[if_pos u];lia
  .rw[if_neg u];exact Nat.min_le_right _ _
theorem sC(v:Int)(n d:Nat):(if v<0 then max (v+(n:Int)) 0 else min v (n:Int))=((bV n d (some v):Nat):Int):=by
 show (if v<0 then max (v+(n:Int)) 0 else min v (n:Int))=(((if v<0 then (v+(n:Int)).toNat else min v.toNat n):Nat):Int);by_cases u:v<0
 .simp only[if_pos u];lia
 .simp only[if_neg u];lia
theorem pP(lo hi:Option Int)(n:Nat):Qw lo hi 1 (n:Int)=(((bV n 0 lo:Nat):Int),((bV n n hi:Nat):Int)):=by
 have h1:¬ ((1:Int)<0):=by lia
 unfold Qw;simp only[h1,if_false];refine Prod.ext ?_ ?_
 .cases lo with
  |none=>rfl
  |some v=>exact sC v n 0
 .cases hi with
  |none=>rfl
  |some v=>exact sC v n n
theorem qz(i j:Nat):PN (i:Int) (j:Int) 1=j-i:=by
 unfold PN;have h1:(1:Int) > 0:=by lia
 simp only[h1,if_true,Int.ediv_one];split<;>lia
theorem jM{v:Value}{o:Option Int}{Q:Option Int->Shared->Prop}(p:IsPart v o)(h:Q o s):wpAny (model prog w) A (Vl v) Q E s:=by
 cases p with
 |none=>exact slicePart_none h
 |int i t=>exact slicePart_int h
theorem dW{n:Nat}{Q:Int×Int×Nat->Shared->Prop}(hs:s.heap.IsSliceOf sl vl vu .none)(pl:IsPart vl lo)(K:IsPart vu hi)
  (h:Q (((bV n 0 lo:Nat):Int),1,bV n n hi-bV n 0 lo) s):wpAny (model prog w) A (RM (.ref sl) (pure (n:Int))) Q E s:=by
 obtain⟨os,H,N,J⟩:=id hs;unfold RM Vm;refine wpAny_bind (wpAny_bind (wpAny_field H J (x:=vl) rfl (wpAny_bind (wpAny_field H J (x:=vu) rfl (wpAny_bind (wpAny_field H J (x:=.none) rfl (wpAny_pure ?_)))))));refine wpAny_bind (slicePart_none ?_);show wpAny _ _ (if ((1:Int)==0)=true then _ else _) _ _ s;rw[if_neg (by decide)];refine wpAny_bind (jM pl (wpAny_bind (jM K (wpAny_bind (wpAny_pure ?_)))));show wpAny _ _ (match Qw lo hi 1 (n:Int) with|(lo,hi)=>pure (lo,(1:Int),PN lo hi 1)) _ _ s;rw[pP lo hi n];show wpAny _ _ (pure (((bV n 0 lo:Nat):Int),(1:Int),PN ((bV n 0 lo:Nat):Int) ((bV n n hi:Nat):Int) 1)) _ _ s;rw[qz];exact wpAny_pure h
theorem vI(xs:Array Value)(i k:Nat):((NA k).filterMap λ(m:Nat)=>xs[((i:Int)+(m:Int)*1).toNat]?).toArray=((xs.toList.drop i).take k).toArray:=by
 have e:(λ(m:Nat)=>xs[((i:Int)+(m:Int)*1).toNat]?)=λm=>xs[i+m]?:=by
  funext m
  have:((i:Int)+(m:Int)*1).toNat=i+m:=by lia
  rw[this]
 rw[e];have:=pick_run xs i k;rw[List.filterMap_map] at this;have F:((λx=>xs[x]?)∘λx=>i+x)=λm=>xs[i+m]?:=rfl;rw[F] at this;rw[this]
theorem gO{t:Addr}{items:Array Value}(ht:IsTup s.heap t items)(hs:s.heap.IsSliceOf sl vl vu .none)(pl:IsPart vl lo)(K:IsPart vu hi)
  (f:¬ (bV items.size 0 lo=0/\bV items.size items.size hi=items.size))
  (h:Q (.ref s.heap.objs.size) { s with heap:=s.heap.push { cls:=.type "tuple",data:=.seq ((items.toList.drop (bV items.size 0 lo)).take (bV items.size items.size hi-bV items.size 0 lo)).toArray } })
  (hsz:items.size<=sizeLine):wpAny (model prog w) A (getItem (.ref t) (.ref sl)) Q E s:=by
 have H:sizeOk (.seq ((items.toList.drop (bV items.size 0 lo)).take (bV items.size items.size hi-bV items.size 0 lo)).toArray):=by show ((items.toList.drop (bV items.size 0 lo)).take (bV items.size items.size hi-bV items.size 0 lo)).toArray.size<=sizeLine;rw[Nk,P6,Qv,NP];omega
 have v:bV items.size items.size hi<=items.size:=Dv _ _ (Nr _) hi;obtain⟨os,O,N,J⟩:=id hs;have U:s.TypeIs (.ref sl) "slice" := ⟨os,O,N⟩
 unfold getItem
 try with_reducible refine wpAny_holding ?_
 first|refine wpAny_bind (wpAny_pure ?_)|skip
 refine wpAny_bind (wpAny_sequenceKey ht.typeIs (by decide) ?_);refine wpAny_bind (wpAny_callSpecial?_slot (name:=QH "__getitem__") ht.typeIs OJ
  (wpAny_call_entry OJ ht.typeIs entry_tuple_getitem ?_ (args_tuple_getitem _ _)))
 show wpAny _ _ (RN (.ref t) >>= _) _ _ s;refine wpAny_bind (tupleItemsOf_ ht ?_);refine wpAny_bind (wpAny_typeOf U ?_);rw[if_pos (by decide)];refine wpAny_bind (dW hs pl K ?_);have X:¬ ((((bV items.size 0 lo:Nat):Int)==0&&(1:Int)==1&&(bV items.size items.size hi-bV items.size 0 lo)==items.size)=true):=by intro q;rw[Ni,Ni] at q;have d:((bV items.size 0 lo:Nat):Int)=0:=eq_of_beq q.1.1;have i:bV items.size items.size hi-bV items.size 0 lo=items.size:=eq_of_beq q.2;exact f ⟨by omega,by omega⟩
 show wpAny _ _ (if (((bV items.size 0 lo:Nat):Int)==0&&(1:Int)==1&&(bV items.size items.size hi-bV items.size 0 lo)==items.size)=true then _ else _) _ _ s;rw[if_neg X,vI]
 first
  |exact wpAny_bind (m:=PV _) (wpAny_newObj_type (wpAny_pure ⟨_,rfl,wpAny_pure h⟩) H)
  |exact wpAny_bind (m:=PV _) (wpAny_newObj_type (wpAny_bind (wpAny_pure (wpAny_pure ⟨_,rfl,wpAny_pure h⟩))) H)
  |exact wpAny_bind (wpAny_bind (m:=PV _) (wpAny_newObj_type (wpAny_pure (wpAny_pure ⟨_,rfl,wpAny_pure h⟩)) H))
  |exact wpAny_bind (wpAny_bind (m:=PV _) (wpAny_newObj_type (wpAny_pure ⟨_,rfl,wpAny_pure h⟩) H))
end
end HT
namespace L2
open PySem PySem.Spec PyProof.Rows
abbrev TO:=St->Hp->(Option Int->Hp->Prop)->Prop
def PO(X:Cx)(e:Option Expr)(t:TO):Prop:=
 ∀(pins:List (Addr×Obj))(s:Shared)(Y:St)(H:Hp)(Q:Option Int->Hp->Prop),Inv X pins Y H s->t Y H Q->
  wpAny (model X.prog X.w) X.A (evalPart e X.env) (λu s'=>∃o H',Inv X pins Y H' s'/\IsPart u o/\Q o H') X.xe s
noncomputable def z5:TO:=λ_ H Q=>Q none H
noncomputable def Iv(t:TE):TO:=λY H Q=>t Y H λx T=>∃i,x=.int i/\Q (some i) T
variable{r:V->Option Int->Option Int->Hp->VK->Prop}{xs:List V}
section
variable{X:Cx}{e:Expr}{te:TE}{lo hi:Option Expr}{tl th:TO}{pos p2:Pos}
theorem BE:PO X none z5:=by intro pins s Y H Q I h;rw[evalPart_none];exact wpAny_pure ⟨none,H,I,.none,h⟩
theorem Aj(h:PE X e te):PO X (some e) (Iv te):=by intro pins s Y H Q I f;rw[evalPart_some];refine bA (h pins s Y H _ I f) λu s1 ⟨x,T,V,k,d⟩=>?_;obtain⟨i,rfl,q⟩:=d;obtain⟨t,rfl⟩:=k;exact⟨some i,T,V,.int i t,q⟩
def d5(X:Cx)(r:V->Option Int->Option Int->Hp->VK->Prop):Prop:=
 ∀(pins:List (Addr×Obj))(s:Shared)(Y:St)(H:Hp)(x:V)(v E Z:Value)(lo hi:Option Int)(sl:Addr)(Q:VK),Inv X pins Y H s->RelV x v->s.heap.IsSliceOf sl E Z .none->IsPart E lo->IsPart Z hi->r x lo hi H Q->
  ∃T id,typeLookup (.type T) "__getitem__" = pure (some (.builtin id))/\s.TypeIs v T/\wpAny (model X.prog X.w) X.A (getItem v (.ref sl)) (EP X pins Y Q) X.xe s
theorem d5.or{L:V->Option Int->Option Int->Hp->VK->Prop}(h:d5 X r)(h':d5 X L):d5 X (λx lo hi H Q=>r x lo hi H Q\/L x lo hi H Q):=by
 intro pins s Y H x v E Z lo hi sl Q I o hs pl K q;rcases q with q|q
 .exact h pins s Y H x v E Z lo hi sl Q I o hs pl K q
 .exact h' pins s Y H x v E Z lo hi sl Q I o hs pl K q
noncomputable def M8(r:V->Option Int->Option Int->Hp->VK->Prop)(te:TE)(tl th:TO):TE:=λY H Q=>te Y H λx T=>tl Y T λl S=>th Y S λu t=>r x l u t Q
theorem y0(D:d5 X r)(he:PE X e te)(hl:PO X lo tl)(B:PO X hi th):PE X (.Subscript e (.Slice lo hi none p2) pos) (M8 r te tl th):=by intro pins s Y H Q I h;refine Subscript_ (bA (he pins s Y H _ I h) λv s1 ⟨x,j,V,k,d⟩=>?_);refine wpAny_Slice (bA (hl pins s1 Y j _ V d) λE s2 ⟨l,S,O,pl,i⟩=>bA (B pins s2 Y S _ O i) λZ c ⟨u,t,z,K,n⟩=>?_);rw[evalPart_none];refine wpAny_pure ?_;have p:Inv X pins Y t { c with heap:=c.heap.push { cls:=.type "slice",data:=.fields #[E,Z,.none] } }:=z.kept (t':=c.toks) λb ob q=>Nm _ q;obtain⟨T,id,hT,ht,y⟩:=D pins { c with heap:=c.heap.push { cls:=.type "slice",data:=.fields #[E,Z,.none] } } Y t x v E Z l u c.heap.objs.size Q p k (Vf ..) pl K n;show wpAny (model X.prog X.w) X.A (subscriptTail e (.Slice lo hi none p2) v (.ref c.heap.objs.size)) (EP X pins Y Q) X.xe { c with heap:=c.heap.push { cls:=.type "slice",data:=.fields #[E,Z,.none] } };exact tail_any (ops:=[.ref c.heap.objs.size,v]) ht hT y (by with_unfolding_all rfl)
def mY(xs:List V)(lo hi:Option Int):List V:=(xs.drop (HT.bV xs.length 0 lo)).take (HT.bV xs.length xs.length hi-HT.bV xs.length 0 lo)
theorem iC(xs:List V)(lo hi:Option Int):(mY xs lo hi).length<=xs.length:=by unfold mY;rw[P6,Qv];lia
def LH(K:Nh):V->Option Int->Option Int->Hp->VK->Prop:=λx lo hi H Q=>∃a xs,x=.ref a/\cQ K H a xs /\
 ¬ (HT.bV xs.length 0 lo=0/\HT.bV xs.length xs.length hi=xs.length)/\∀p,H p=none->Q (.ref p) (upd H p (.tup (mY xs lo hi)))
theorem E4:d5 X (LH X.K):=by
 intro pins s Y H x v A Z lo hi sl Q I w hs pl l h;obtain⟨a,xs,rfl,hx,f,q⟩:=h;cases w;obtain⟨g,r,ht,hz⟩:=I.tuple hx;have E:g.toArray.size=xs.length:=by rw[Nk];exact r.length.symm
 refine⟨"tuple",_,OJ.lookup,ht.typeIs,?_⟩;refine HT.gO ht hs pl l (by rw[E];exact f) ?_ (by rw[E];exact hz);rw[E];refine⟨.ref s.heap.objs.size,_,I.laid (t':=s.toks) (o:=.tup (mY xs lo hi)) (λb ob q=>Nm _ q) (Nr _) ?_,rfl,q _ (I.hok.fresh (Nr _))⟩;exact⟨N5 (iC xs lo hi) hz,_,(r.drop (HT.bV xs.length 0 lo)).take (HT.bV xs.length xs.length hi-HT.bV xs.length 0 lo),fE.new _ _⟩
def Jy(K:Nh):R2:=λx y H Q=>∃a b xs ys,x=.ref a/\y=.ref b/\cQ K H a xs/\cQ K H b ys/\xs≠[]/\xs.length+ys.length<=sizeLine /\
 (ys=[]->Q (.ref a) H)/\(ys≠[]->∀p,H p=none->Q (.ref p) (upd H p (.tup (xs++ys))))
theorem Vals.l7{us:List Value}(r:Vals xs us):us=[]↔xs=[]:=by
 cases r with
 |nil=>simp
 |cons _ _=>simp
theorem AV:fG X (binaryOp .Add) (Jy X.K):=by intro pins s Y H x y v u Q I C P h;obtain⟨a,b,xs,ys,rfl,rfl,ha,hb,hx,hz,d,i⟩:=h;cases C;cases P;obtain⟨l,k,U,_⟩:=I.tuple ha;obtain⟨r,g,p2,_⟩:=I.tuple hb;refine HT.BP U p2 (λz=>hx (k.l7.mp z)) (λz=>⟨.ref a,H,I,rfl,d (g.l7.mp z)⟩) (λz=>?_) (by rw[<-k.length,<-g.length];exact hz);refine⟨.ref s.heap.objs.size,_,I.laid (t':=s.toks) (o:=.tup (xs++ys)) (λb ob q=>Nm _ q) (Nr _) ?_,rfl,i (λw=>z (g.l7.mpr w)) _ (I.hok.fresh (Nr _))⟩;exact⟨by rw[Ny];exact hz,_,k.append g,fE.new _ _⟩
end
noncomputable def kR(n:Nat)(i:Int):Option Nat:=if 0<=i then (if i<n then some i.toNat else none) else if -(n:Int)<=i then some (i+n).toNat else none
def fk{α:Type}(xs:List α)(i:Int):Option α:=(kR xs.length i).bind λj=>xs[j]?
variable{i:Int}{j:Nat}
theorem sd{n:Nat}(h:kR n i=some j):seqIndex? i n=some j/\j<n /\ -(n:Int)<=i/\i<n:=by
 unfold kR at h;by_cases s:0<=i
 .rw[if_pos s] at h;by_cases h1:i<n
  .rw[if_pos h1] at h;have e:i.toNat=j:=NJ h;exact⟨by rw[seqIndex_of s h1,e],by lia,by lia,h1⟩
  .rw[if_neg h1] at h;cases h
 .rw[if_neg s] at h;by_cases h1:-(n:Int)<=i
  .rw[if_pos h1] at h;have e:(i+n).toNat=j:=NJ h;exact⟨by rw[seqIndex_neg (by lia) h1,e],by lia,h1,by lia⟩
  .rw[if_neg h1] at h;cases h
variable{α:Type}
theorem md{xs:List α}{v:α}(h:fk xs i=some v):∃j,seqIndex? i xs.length=some j/\xs[j]?=some v/\j<xs.length /\ -(xs.length:Int)<=i/\i<xs.length:=by
 unfold fk at h;cases e:kR xs.length i with
 |none=>rw[e] at h;cases h
 |some j=>rw[e] at h;obtain⟨h1,h2,h3,h4⟩:=sd e;exact⟨j,h1,h,h2,h3,h4⟩
theorem eJ{xs:List α}{v:α}(h:xs[j]?=some v):fk xs (j:Int)=some v:=by
 have s:j<xs.length:=(Np.mp h).1;have e:kR xs.length (j:Int)=some j:=by unfold kR;rw[if_pos (by lia),if_pos (by lia)];simp
 unfold fk;rw[e];exact h
theorem zw(xs:List α)(v:α):fk (xs++[v]) (-1)=some v:=by
 have hl:(xs++[v]).length=xs.length+1:=by simp
 have e:kR (xs++[v]).length (-1)=some xs.length:=by
  unfold kR;rw[hl,if_neg (by decide),if_pos (by lia)]
  congr 1
  lia
 unfold fk;rw[e];show (xs++[v])[xs.length]?=some v;simp
def my(b:Expr):Prop:=∀o i,subscripted b false o i=operate [o,i] (getItem o i)
def Al(X:Cx)(r:R2):Prop:=
 ∀(value slice:Expr)(pins:List (Addr×Obj))(s:Shared)(Y:St)(H:Hp)(x y:V)(v u:Value)(Q:VK),Inv X pins Y H s->RelV x v->RelV y u->r x y H Q->
  subscripted slice false v u=operate [v,u] (getItem v u)->wpAny (model X.prog X.w) X.A (subscriptTail value slice v u) (EP X pins Y Q) X.xe s
def Hb(X:Cx)(id:String)(r:V->List V->Hp->VK->Prop):Prop:=
 ∀(pins:List (Addr×Obj))(s:Shared)(Y:St)(H:Hp)(x:V)(xs:List V)(v:Value)(us:List Value)(Q:VK),Inv X pins Y H s->RelV x v->Vals xs us->r x xs H Q->
  wpAny (model X.prog X.w) X.A (call (.builtin id) (v::us)) (EP X pins Y Q) X.xe s
variable{pins:List (Addr×Obj)}{H:Hp}{s:Shared}{p:Addr}{its its':List Value}{x:V}{u v:Value}
section
variable{X:Cx}{a b:Expr}{ta tb:TE}{pos:Pos}
theorem Al.or{r L:R2}(h:Al X r)(h':Al X L):Al X (λx y H Q=>r x y H Q\/L x y H Q):=by
 intro value slice pins s Y H x y v u Q I o z q hs;rcases q with q|q
 .exact h value slice pins s Y H x y v u Q I o z q hs
 .exact h' value slice pins s Y H x y v u Q I o z q hs
theorem Iy{r:R2}(t:Al X r)(ha:PE X a ta)(hb:PE X b tb)(hs:my b):PE X (.Subscript a b pos) (IP r ta tb):=by intro pins s Y H Q I h;exact Subscript_ (FL ha hb I h λv u s2 x y S e o z q=>t a b pins s2 Y S x y v u Q e o z q (hs _ _))
def IJ(K:Nh):R2:=λx y H Q=>∃p xs i v,x=.ref p/\y=.int i/\fo K H p xs/\fk xs i=some v/\Q v H
def xn(K:Nh):R2:=λx y H Q=>∃p xs i v,x=.ref p/\y=.int i/\cQ K H p xs/\fk xs i=some v/\Q v H
def u6:R2:=λx y H Q=>∃z i c,x=.str z/\y=.int i/\z.length<=sizeLine/\fk z.cps.toList i=some c/\Q (.str ⟨#[c]⟩) H
theorem z8:Al X (IJ X.K):=by
 intro value slice pins s Y H x y v u Q I o P h hs;obtain⟨p,xs,i,z,rfl,rfl,R,he,q⟩:=h;cases o;obtain⟨t,rfl⟩:=P;obtain⟨its,r,pl,hz⟩:=I.list R;obtain⟨j,h1,h2,h3,h4,h5⟩:=md he;obtain⟨w,m,a⟩:=r.get h2;have hl:=r.length;have hn:=jt;have fin:EP X pins Y Q w s:=⟨z,H,I,a,q⟩
 by_cases n:0<=i
 .have c:i.toNat=j:=by rw[seqIndex_of n h5] at h1;exact NJ h1
  exact item_listR pl.isList n (by lia) (by rw[c];simpa using m) fin hs
 .have c:(i+(its.toArray.size:Int)).toNat=j:=by rw[seqIndex_neg (by lia) h4] at h1;rw[Nk,<-hl];exact NJ h1
  exact subscriptTail_builtinR (x:=w) pl.isList.typeIs slot_list_getitem.lookup
   (wpAny_getItem_list_neg (Q:=λr s'=>r=w/\EP X pins Y Q r s') pl.isList (by lia) (by rw[Nk]<;>lia) (by lia) (by rw[c];simpa using m) ⟨rfl,fin⟩) hs
theorem EU:Al X (xn X.K):=by
 intro value slice pins s Y H x y v u Q I o P h hs;obtain⟨p,xs,i,z,rfl,rfl,R,he,q⟩:=h;cases o;obtain⟨t,rfl⟩:=P;obtain⟨its,r,pl,hz⟩:=I.tuple R;obtain⟨j,h1,h2,h3,h4,h5⟩:=md he;obtain⟨w,m,a⟩:=r.get h2;have hl:=r.length;have hn:=jt;have fin:EP X pins Y Q w s:=⟨z,H,I,a,q⟩
 exact subscriptTail_builtinR (x:=w) pl.typeIs slot_tuple_getitem.lookup
  (getItem_tuple (j:=j) (Q:=λr s'=>r=w/\EP X pins Y Q r s') pl (by lia) (by lia) (by rw[Nk,<-hl];exact h1) (by simpa using m) ⟨rfl,fin⟩) hs
theorem DD:Al X u6:=by
 intro value slice pins s Y H x y v u Q I o P h hs;obtain⟨z,i,c,rfl,rfl,hz,he,q⟩:=h;obtain⟨t,rfl⟩:=o;obtain⟨t',rfl⟩:=P;obtain⟨j,h1,h2,h3,h4,h5⟩:=md he;have hl:z.cps.toList.length=z.length:=by simp[VW]
 rw[hl] at h1 h4 h5;have hn:=jt;exact tail_any (typeIs_str s z t) slot_str_getitem.lookup (getItem_str (c:=c) (by have D:decide (i < -(2^63:Int))=false:=decide_eq_false (by lia);have F:decide (i≥2^63)=false:=decide_eq_false (by lia);rw[D,F,U6]) (by rw[h1];simpa using h2) ⟨.str ⟨#[c]⟩,H,I.tok _,⟨_,rfl⟩,q⟩) hs
def LQ(K:Nh):R2:=λx y H Q=>IJ K x y H Q\/xn K x y H Q\/u6 x y H Q
theorem Fm:Al X (LQ X.K):=z8.or (EU.or DD)
theorem qJ(its:List Value)(n j:Nat)(u:Value):PM (·.setIfInBounds j u) { cls:=.type "list",data:=.seq its.toArray n }={ cls:=.type "list",data:=.seq (its.set j u).toArray n }:=by simp[PM]
theorem Inv.lst{Y:St}(I:Inv X pins Y H s)(h:H p=some (.lst xs)):
  ∃(its:List Value)(n:Nat),Vals xs its/\s.heap.get? p=some { cls:=.type "list",data:=.seq its.toArray n }/\xs.length<=sizeLine:=by
 obtain⟨z,its,n,r,e⟩:=I.hok p _ h;exact⟨its,n,r,e,z⟩
theorem Inv.DB{Y:St}{ys:List V}{n n':Nat}{f:Obj->Obj}(I:Inv X pins Y H s)(h:H p=some (.lst xs))
  (ho:s.heap.get? p=some { cls:=.type "list",data:=.seq its.toArray n })(hf:f { cls:=.type "list",data:=.seq its.toArray n }={ cls:=.type "list",data:=.seq its'.toArray n' })(r:Vals ys its')(hz:ys.length<=sizeLine)(t:Nat):
  Inv X pins Y (upd H p (.lst ys)) { s with heap:=s.heap.update p f,toks:=t }:=by
 have e:(s.heap.update p f).get? p=some { cls:=.type "list",data:=.seq its'.toArray n' }:=by rw[Ph f ho (by rw[hf]<;>rfl),hf]
 refine I.write (x:=p) (e:=p) (by rw[h];trivial) (.inl rfl) (λb u hb q=>(Pf _ _ (Pa hb)).trans q) ⟨_,e⟩ ?_;exact⟨hz,its',n',r,e⟩
def Cw:V->V->V->Hp->(Hp->Prop)->Prop:=λo i v H Q=>∃p xs k j,o=.ref p/\i=.int k/\H p=some (.lst xs)/\kR xs.length k=some j/\Q (upd H p (.lst (xs.set j v)))
theorem set_list:Jf X Cw:=by
 intro pins s Y H o i v y A u Q I x ri rv h;obtain⟨p,xs,k,j,rfl,rfl,hp,c,q⟩:=h;cases x;obtain⟨t,rfl⟩:=ri;obtain⟨its,n,r,ho,hz⟩:=I.lst hp;obtain⟨h1,h2,h3,h4⟩:=sd c;have hl:=r.length;have hn:=jt;have a:Inv X pins Y (upd H p (.lst (xs.set j v))) { s with heap:=s.heap.update p (PM (·.setIfInBounds j u)) }:=
  I.DB hp ho (qJ its n j u) (r.set rv j) (by rw[List.length_set];exact hz) s.toks
 by_cases w:0<=k
 .have hk:k.toNat=j:=by rw[seqIndex_of w h4] at h1;exact NJ h1
  exact PySem.W.ki_setAt ho w (by lia) (by rw[Nk,<-hl];exact h4) (by rw[hk];exact⟨_,a,q⟩)
 .have hk:(k+(its.toArray.size:Int)).toNat=j:=by rw[seqIndex_neg (by lia) h3] at h1;rw[Nk,<-hl];exact NJ h1
  exact PySem.W.ki_setBack ho (by lia) (by rw[Nk,<-hl];exact h3) (by lia) (by rw[hk];exact⟨_,a,q⟩)
theorem mI(lo hi:Option Int)(n:Nat):(sliceBounds lo hi none n).1=((HT.bV n 0 lo:Nat):Int)/\(sliceBounds lo hi none n).2.1=((HT.bV n n hi:Nat):Int)/\(sliceBounds lo hi none n).2.2=1:=by
 refine⟨?_,?_,rfl⟩
 .cases lo with
  |none=>simp[sliceBounds,HT.bV]
  |some i=>
   simp only[sliceBounds,HT.bV,Ue,show (1:Int) > 0 by decide,if_true];by_cases h:i<0
   .simp only[h,if_true]<;>lia
   .simp only[h,if_false]<;>lia
 .cases hi with
  |none=>simp[sliceBounds,HT.bV]
  |some i=>
   simp only[sliceBounds,HT.bV,Ue,show (1:Int) > 0 by decide,if_true];by_cases h:i<0
   .simp only[h,if_true]<;>lia
   .simp only[h,if_false]<;>lia
theorem kL(its:List Value)(lo hi:Option Int):slicePick its.toArray lo hi none=((its.drop (HT.bV its.length 0 lo)).take (HT.bV its.length its.length hi-HT.bV its.length 0 lo)).toArray:=by obtain⟨h1,h2,h3⟩:=mI lo hi its.toArray.size;unfold slicePick;rw[h1,h2,h3];simp only[sliceRange_one,pick_run,Nk]<;>rfl
def Kn(K:Nh):V->Option Int->Option Int->Hp->VK->Prop:=λx lo hi H Q=>∃a xs,x=.ref a/\fo K H a xs/\∀p,H p=none->Q (.ref p) (upd H p (.lst (mY xs lo hi)))
theorem zV:d5 X (Kn X.K):=by intro pins s Y H x v A Z lo hi sl Q I w hs pl l h;obtain⟨a,xs,rfl,hx,q⟩:=h;cases w;obtain⟨its,r,ht,hz⟩:=I.list hx;have E:=r.length;refine⟨"list",_,slot_list_getitem.lookup,ht.isList.typeIs,?_⟩;refine wpAny_getItem_list_slice ht.isList hs pl l .none (by simp) ?_ (by rw[Nk]<;>lia);rw[kL,<-E];refine⟨.ref s.heap.objs.size,_,I.laid (t':=s.toks) (o:=.lst (mY xs lo hi)) (λb ob q=>Nm _ q) (Nr _) ?_,rfl,q _ (I.hok.fresh (Nr _))⟩;exact⟨N5 (iC xs lo hi) hz,_,0,(r.drop (HT.bV xs.length 0 lo)).take (HT.bV xs.length xs.length hi-HT.bV xs.length 0 lo),NH _ rfl⟩
noncomputable def xc:V->Bool
 | .non=>true
 | .bl _=>true
 | .int _=>true
 | .str _=>true
 |_=>false
noncomputable def Mb:V->V->Bool
 | .non,.non=>true
 | .bl a,.bl b=>a==b
 | .bl a,.int b=>(if a then 1 else 0)==b
 | .int a,.bl b=>a==(if b then 1 else 0)
 | .int a,.int b=>a==b
 | .str a,.str b=>a==b
 |_,_=>false
theorem bQ{A:Around}{y:V}(z:RelV y u)(o:RelV x v)(Q:xc y=true)(fx:xc x=true):QI A s u v (Mb y x):=by
 cases y with
 |non=>
  cases z;cases x with
  |non=>cases o;exact QI.same _
  |bl b=>cases o;exact QI.none_bool b
  |int b=>obtain⟨t,rfl⟩:=o;exact QI.none_int b t
  |str b=>obtain⟨t,rfl⟩:=o;exact QI.none_str b t
  |_=>exact absurd (show false=true from fx) Og
 |bl a=>
  cases z;cases x with
  |non=>cases o;exact QI.bool_none a
  |bl b=>cases o;exact QI.bool_bool a b
  |int b=>obtain⟨t,rfl⟩:=o;exact QI.bool_int a b t
  |str b=>obtain⟨t,rfl⟩:=o;exact QI.bool_str a b t
  |_=>exact absurd (show false=true from fx) Og
 |int a=>
  obtain⟨t',rfl⟩:=z;cases x with
  |non=>cases o;exact QI.int_none a t'
  |bl b=>cases o;exact QI.int_bool a t' b
  |int b=>obtain⟨t,rfl⟩:=o;exact QI.int_int a t' b t
  |str b=>obtain⟨t,rfl⟩:=o;exact Ta a t' b t
  |_=>exact absurd (show false=true from fx) Og
 |str a=>
  obtain⟨t',rfl⟩:=z;cases x with
  |non=>cases o;exact QI.str_none a t'
  |bl b=>cases o;exact QI.str_bool a t' b
  |int b=>obtain⟨t,rfl⟩:=o;exact Tc a t' b t
  |str b=>obtain⟨t,rfl⟩:=o;exact QI.str_str a t' b t
  |_=>exact absurd (show false=true from fx) Og
 |_=>exact absurd (show false=true from Q) Og
def Mn(x:V)(xs:List V):Bool:=xs.any λy=>Mb y x
theorem mf:dy X (.type "list") (λxs H Q=>∃p ys,xs=[.ref p]/\(fo X.K H p ys\/cQ X.K H p ys)/\∀l,H l=none->Q (.ref l) (upd H l (.lst ys))):=by
 intro pins s Y H xs us Q I r h;obtain⟨p,ys,rfl,R,q⟩:=h;obtain⟨u,rfl,C⟩:=vals1 r;cases C;have fin:∀(its:List Value),Vals ys its->ys.length<=sizeLine->∀(h':Heap)(j:Nat),(∀b o',s.heap.get? b=some o'->h'.get? b=some o')->
   h'.get? s.heap.objs.size=some { cls:=.type "list",dict:=none,data:=.seq its.toArray j,slots:=#[] }->EP X pins Y Q (.ref s.heap.objs.size) { s with heap:=h' }:=λits x hz h' j kp e=>
  ⟨.ref s.heap.objs.size,_,I.laid (t':=s.toks) kp (Nr _) (show bj X.prog X.w _ h' _ (.lst ys) from ⟨hz,its,j,x,e⟩),rfl,q _ (I.hok.fresh (Nr _))⟩
 rcases R with R|R
 .obtain⟨its,x,pl,hz⟩:=I.list R;have E:=x.length;obtain⟨o,ho,hc,n,hd⟩:=pl.isList;exact call_list_seq p (.inl rfl) ho hc hd (λh' j kp e=>fin its x hz h' j kp e) (by simp only[Nk]<;>lia)
 .obtain⟨its,x,pl,hz⟩:=I.tuple R;have E:=x.length;obtain⟨o,ho,hc,n,hd⟩:=pl;exact call_list_seq p (.inr rfl) ho hc hd (λh' j kp e=>fin its x hz h' j kp e) (by simp only[Nk]<;>lia)
def Kd(K:Nh)(T:String)(x:V)(H:Hp):Prop:=match x with
 | .str _=>T = "str"
 | .int _=>T = "int"
 | .ref p=>(T = "list" /\ ∃xs,fo K H p xs)\/(T = "tuple" /\ ∃o,K.lookup p=some o/\o.cls=.type "tuple" /\ o.dict=none) \/
   (T = "dict" /\ ((∃kvs,H p=some (.dK kvs))\/∃kvs,H p=some (.dT kvs)))\/(T = "set" /\ ∃S n,H p=some (.set S n))
 |_=>False
theorem vF{Y:St}{T:String}(I:Inv X pins Y H s)(r:RelV x v)(ty:Kd X.K T x H):
  s.TypeIs v T/\∀a,v=.ref a->∃ob,s.heap.get? a=some ob/\ob.dict=none:=by
 cases x with
 |str z=>obtain⟨t,rfl⟩:=r;cases (show T = "str" from ty);exact⟨typeIs_str s z t,λ_ e=>nomatch e⟩
 |int i=>obtain⟨t,rfl⟩:=r;cases (show T = "int" from ty);exact⟨typeIs_int s i t,λ_ e=>nomatch e⟩
 |ref p=>
  cases r;rcases ty with ⟨rfl,xs,R⟩|⟨rfl,o,hk,hc,hd⟩|⟨rfl,hk⟩|⟨rfl,S,n,hk⟩
  .obtain⟨its,_,pl,_⟩:=I.list R;refine⟨pl.isList.typeIs,λa e=>?_⟩;cases e;obtain⟨o,n,e,c,hd,_⟩:=pl;exact⟨o,e,hd⟩
  .refine⟨⟨o,I.Cm p o hk,hc⟩,λa e=>?_⟩;cases e;exact⟨o,I.Cm _ o hk,hd⟩
  .have z:∃o,s.heap.get? p=some o/\o.ExactDict:=by
    rcases hk with ⟨kvs,hk⟩|⟨kvs,hk⟩
    .obtain⟨_,_,_,_,o,_,_,e,ex,_⟩:=I.hok p _ hk;exact⟨o,e,ex⟩
    .obtain⟨_,_,_,_,o,_,_,e,ex,_⟩:=I.hok p _ hk;exact⟨o,e,ex⟩
   obtain⟨o,e,ex⟩:=z;refine⟨⟨o,e,ex.1⟩,λa F=>?_⟩;cases F;exact⟨o,e,ex.2.1⟩
  .obtain⟨o,_,_,_,e,ex,_⟩:=I.hok p _ hk;refine⟨⟨o,e,ex.1⟩,λa F=>?_⟩;cases F;exact⟨o,e,ex.2.1⟩
 |_=>exact Qk ty
noncomputable def KC(K:Nh)(T:String)(r:V->List V->Hp->VK->Prop)(to:TE):TE:=λY H Q=>to Y H λx j=>Kd K T x j/\r x [] j Q
noncomputable def KZ(K:Nh)(T:String)(r:V->List V->Hp->VK->Prop)(to:TE)(t:TA):TE:=λY H Q=>to Y H λx j=>Kd K T x j/\t Y j λxs S=>r x xs S Q
variable{o e:Expr}{es:List Expr}{to:TE}{t:TA}{name:Str}{apos cpos:Pos}{T id:String}{r:V->List V->Hp->VK->Prop}
theorem xC(pa:PlainAttrs T)(slot:Slot T name id)(hty:typeOf (.builtin id)=pure (.type "method_descriptor"))(hm:Hb X id r)(ho:PE X o to)
  (hbase:attributeBase o name X.env (eval o X.env)=eval o X.env:=by rfl)(hline:(apos.endLine==cpos.line)=true:=by rfl):PE X (.Call (.Attribute o name apos) [] [] cpos) (KC X.K T r to):=by
 intro pins s Y H Q I h;refine wpAny_Call_method0_late hbase hline (bA (ho pins s Y H _ I h) λv s1 ⟨x,H1,I1,r1,ty,q1⟩=>?_);obtain⟨h1,h2⟩:=vF I1 r1 ty;exact⟨T,id,pa,slot,hty,h1,h2,Rb rfl (PySem.evalArgs_none (hm pins s1 Y H1 x [] v [] Q I1 r1 .nil q1))⟩
theorem n8(pa:PlainAttrs T)(slot:Slot T name id)(hty:typeOf (.builtin id)=pure (.type "method_descriptor"))(hm:Hb X id r)(ho:PE X o to)(ha:PA X (e::es) t)
  (hbase:attributeBase o name X.env (eval o X.env)=eval o X.env:=by rfl)
  (hfew:((backTo cpos (starEach (e::es) X.env)).all (λx=>!x.1)&&(backToKw cpos (keywordEach [] X.env)).all (λx=>x.1.isSome)
   && decide ((e::es).length+([]:List Keyword).length+(if ([]:List Keyword).isEmpty then 0 else 1)<30))=true:=by rfl)
  (hline:(apos.endLine==cpos.line)=true:=by rfl) (hs:starEach (e::es) X.env=(false,eval e X.env)::starEach es X.env:=by rfl) (hplain:(backTo cpos (starEach es X.env)).any (·.1)=false:=by rfl):
  PE X (.Call (.Attribute o name apos) (e::es) [] cpos) (KZ X.K T r to t):=by
 intro pins s Y H Q I h;refine wpAny_Call_method_late hbase hfew hline rfl (bA (ho pins s Y H _ I h) λv s1 ⟨x,H1,I1,r1,ty,q1⟩=>?_);obtain⟨h1,h2⟩:=vF I1 r1 ty;refine⟨T,id,pa,slot,hty,h1,h2,?_⟩;have hA:=ha cpos pins s1 Y H1 _ I1 q1;rw[hs] at hA ⊢;refine Rb (by show (false || (backTo cpos (starEach es X.env)).any (·.1))=false;rw[hplain]<;>rfl) (Tw ?_);exact bA hA λus s2 ⟨vs,H2,I2,r2,q2⟩=>hm pins s2 Y H2 x vs v us Q I2 r1 r2 q2
end
def Jx(X:Cx)(id:String)(r:V->List V->Hp->VK->Prop):Prop:=
 ∀(pins:List (Addr×Obj))(s:Shared)(Y:St)(H:Hp)(x:V)(xs:List V)(v:Value)(us:List Value)(Q:VK),Inv X pins Y H s->RelV x v->Vals xs us->r x xs H Q->
  wpAny (model X.prog X.w) X.A (call (.builtin id) (v::us)) (EP X pins Y Q) X.xe s
theorem Vals.one:∀{x:V}{us:List Value},Vals [x] us->∃u,us=[u]/\RelV x u
 |_,_,.cons r .nil=>⟨_,rfl,r⟩
theorem Vals.zero:∀{us:List Value},Vals [] us->us=[]
 |_,.nil=>rfl
theorem Vals.dropLast{xs:List V}{us:List Value}(h:Vals xs us):Vals xs.dropLast us.dropLast:=by
 induction h with
 |nil=>exact .nil
 |cons r t j=>
  cases t with
  |nil=>exact .nil
  |cons q t'=>exact .cons r j
theorem Vals.eraseIdx:∀{xs:List V}{us:List Value}(i:Nat),Vals xs us->Vals (xs.eraseIdx i) (us.eraseIdx i)
 |_,_,_,.nil=>.nil
 |_,_,0,.cons _ t=>t
 |_,_,i+1,.cons r t=>.cons r (Vals.eraseIdx i t)
theorem pM(l:List α):l.eraseIdx (l.length-1)=l.dropLast:=by
 induction l with
 |nil=>rfl
 |cons a r j=>
  cases r with
  |nil=>rfl
  |cons b r=>
   have e:(a::b::r).length-1=((b::r).length-1)+1:=by have h1:(a::b::r).length=r.length+2:=rfl;have h2:(b::r).length=r.length+1:=rfl;lia
   rw[e,List.eraseIdx_cons_succ,j]
   all_goals rfl
theorem lT{α:Type}:∀(l:List α)(i:Nat),(l.eraseIdx i).length<=l.length
 |[],_=>Nr _
 |_::_,0=>Q0 _
 |_::r,i+1=>Nat.succ_le_succ (lT r i)
variable{t':Nat}
section
variable{X:Cx}{pins:List (Addr×Obj)}{Y:St}{H:Hp}{s:Shared}{l b:Addr}{xs ys zs:List V}
theorem Inv.wA{n:Nat}{f:Array Value->Array Value}(I:Inv X pins Y H s)(h:H l=some (.lst xs))
  (e:s.heap.get? l=some { cls:=.type "list",data:=.seq its.toArray n })(hf:f its.toArray=its'.toArray)(p:Vals ys its')(hz:ys.length<=sizeLine):
  Inv X pins Y (upd H l (.lst ys)) { s with heap:=s.heap.update l (PM f),toks:=t' }:=by
 have q:=PySem.IsL.update e f;rw[hf] at q;refine I.write (x:=l) (e:=l) (by rw[h];exact trivial) (.inl rfl) (λQ u hb B=>(Pf s.heap (PM f) (Pa hb)).trans B) ⟨_,q⟩ ?_;exact⟨hz,its',_,p,q⟩
theorem Inv.Kt(I:Inv X pins Y H s)(u:Vals ys its)(hz:ys.length<=sizeLine):
  Inv X pins Y (upd H s.heap.objs.size (.lst ys)) { s with heap:=s.heap.push { cls:=.type "list",data:=.seq its.toArray },toks:=t' }:=
 I.laid (λ_ _ q=>Nm _ q) (Nr _) ⟨hz,its,0,u,NH _ rfl⟩
theorem Inv.fresh(I:Inv X pins Y H s):H s.heap.objs.size=none:=I.hok.fresh (Nr _)
theorem Inv.wG(I:Inv X pins Y H s)(h:H l=some (.lst xs)):xs.length<=sizeLine/\∃(its:List Value)(n:Nat),Vals xs its/\xs.length=its.length/\s.heap.get? l=some { cls:=.type "list",data:=.seq its.toArray n }:=by obtain⟨z,its,n,r,e⟩:=I.hok l _ h;exact⟨z,its,n,r,r.length,e⟩
theorem vJ{n:Nat}(h:n<=sizeLine):PZ n=false:=by unfold PZ;exact decide_eq_false (by lia)
end
section
variable{X:Cx}
def BB:V->List V->Hp->VK->Prop:=λx vs H Q=>∃l xs y,x=.ref l/\vs=[y]/\H l=some (.lst xs)/\xs.length<sizeLine/\Q .non (upd H l (.lst (xs++[y])))
theorem uV:Jx X "list.append" BB:=by intro pins s Y H x vs v us Q I o rv h;obtain⟨l,xs,y,rfl,rfl,G,hz,q⟩:=h;cases o;obtain⟨u,rfl,C⟩:=rv.one;obtain⟨z,its,n,r,hl,e⟩:=I.wG G;refine call_meets F.slot_list_append ⟨_,e,rfl⟩ F.entry_list_append (F.args_list_append_2 _ _) (PySem.list_append l its.toArray n u (by rw[Nk];lia)) ⟨e,?_⟩;refine⟨.non,_,I.wA (its':=its++[u]) G e (by simp) (r.append (.cons C .nil)) ?_,rfl,q⟩;rw[Ny,Rp];lia
def KW:V->List V->Hp->VK->Prop:=λx vs H Q=>∃l xs y,x=.ref l/\vs=[]/\H l=some (.lst xs)/\xs[xs.length-1]?=some y/\Q y (upd H l (.lst xs.dropLast))
theorem Gr:Jx X "list.pop" KW:=by
 intro pins s Y H x vs v us Q I o rv h;obtain⟨l,xs,y,rfl,rfl,G,hy,q⟩:=h;cases o;have J:=rv.zero;subst J;obtain⟨z,its,n,r,hl,e⟩:=I.wG G;obtain⟨u,B,C⟩:=r.get hy;have N:its.toArray[its.toArray.size-1]?=some u:=by show its.toArray[its.length-1]?=some u;rw[<-NZ,<-hl];exact B
 refine call_meets Vg ⟨_,e,rfl⟩ U7 (F.args_list_pop_1 _) (MeetsSeq.list_pop_last l its.toArray n u N (by rw[Nk];lia)) ⟨e,?_⟩;refine⟨y,_,I.wA (its':=its.dropLast) G e ?_ r.dropLast ?_,C,q⟩
 .show its.toArray.eraseIdxIfInBounds (its.toArray.size-1)=its.dropLast.toArray;rw[Nk,R7,pM]
 .rw[List.length_dropLast];lia
def Fw:V->List V->Hp->VK->Prop:=λx vs H Q=>∃l xs i k y,x=.ref l/\vs=[.int i]/\H l=some (.lst xs) /\ -(2^63)<=i/\i<2^63/\seqIndex? i xs.length=some k/\xs[k]?=some y/\Q y (upd H l (.lst (xs.eraseIdx k)))
theorem yh:Jx X "list.pop" Fw:=by
 intro pins s Y H x vs v us Q I o rv h;obtain⟨l,xs,i,k,y,rfl,rfl,G,h1,h2,hk,hy,q⟩:=h;cases o;obtain⟨u,rfl,C⟩:=rv.one;obtain⟨t,rfl⟩:=C;obtain⟨z,its,n,r,hl,e⟩:=I.wG G;obtain⟨w,f,a⟩:=r.get hy;refine call_meets Vg ⟨_,e,rfl⟩ U7 (F.args_list_pop_2 _ _)
  (MeetsSeq.list_pop_at l its.toArray n i t k w (fitsIndex_both h1 h2) (by rw[Nk,<-hl];exact hk) (by rw[<-NZ];exact f) (by rw[Nk];lia)) ⟨e,?_⟩
 refine⟨y,_,I.wA (its':=its.eraseIdx k) G e ?_ (r.eraseIdx k) ?_,a,q⟩
 .show its.toArray.eraseIdxIfInBounds k=(its.eraseIdx k).toArray;rw[R7]
 .have:=lT xs k;lia
def GQ:V->List V->Hp->VK->Prop:=λx vs H Q=>∃l xs,x=.ref l/\vs=[]/\H l=some (.lst xs)/\Q .non (upd H l (.lst []))
theorem zh:Jx X "list.clear" GQ:=by intro pins s Y H x vs v us Q I o rv h;obtain⟨l,xs,rfl,rfl,G,q⟩:=h;cases o;have J:=rv.zero;subst J;obtain⟨z,its,n,r,hl,e⟩:=I.wG G;refine call_meets F.slot_list_clear ⟨_,e,rfl⟩ F.entry_list_clear (F.args_list_clear_1 _) (AutoSeq1.list_clear_list_0 l its.toArray n (by rw[Nk];lia)) ⟨e,?_⟩;exact⟨.non,_,I.wA (its':=[]) (ys:=[]) G e rfl .nil (Ou _),rfl,q⟩
end
section
variable{prog:Program}{w:World}{A:Around}{E:Value->Shared->Prop}{s:Shared}
set_option maxRecDepth 100000 in
end
theorem Hq{P:Program}{w:World}{k:Key}(r:RelV (kV k) u):(aW P w).is k u=true:=by
 cases k with
 |inl i=>obtain⟨t,e⟩:=(show ∃t,u=R5 i t from r);subst e;exact ot P w i t
 |inr x=>obtain⟨t,e⟩:=(show ∃t,u=Uq x t from r);subst e;exact n5 P w x t
theorem hU{P:Program}{w:World}:∀{ks:List Key}{us:List Value},Vals (ks.map kV) us->ItemsAre (aW P w) ks us
 |[],_,r=>by rw[QF] at r;cases r;exact .nil
 |k::ks,_,r=>by
  rw[NK] at r;cases r with
  |cons h t=>exact .cons (Hq h) (hU t)
section
variable{P:Program}{w:World}{H:Hp}{h:Heap}{a:Addr}
theorem Ja{u:HO}(ok:iD P w H h)(e:Rd H a u):bj P w H h a u:=e.ok ok
theorem tW{kvs:List (Key×V)}(ok:iD P w H h)(e:Rd H a (.dK kvs)):kvs.length<=sizeLine/\(a==sysModules)=false/\∃vs,KV kvs vs/\h.DictOf (aW P w) a vs:=
 show bj P w H h a (.dK kvs) from Ja ok e
end
section
variable{X:Cx}{pins:List (Addr×Obj)}{Y:St}{H:Hp}{s:Shared}{a:Addr}{y v:V}{u r:Value}{o:Option V}{A:Around}{E:Value->Shared->Prop}
theorem Inv.big(I:Inv X pins Y H s):sysModules<s.heap.objs.size:=by have h:mainGlobals<s.heap.objs.size:=(I.mod.glob.keeps I.bk).lt;exact QJ (by decide) h
theorem AG{h':Heap}{ob:HO}(I:Inv X pins Y H s)(mu:HV (H a))(hs:Qp a s.heap h')(he:∃q,h'.get? a=some q)(new:bj X.prog X.w (upd H a ob) h' a ob):
  Inv X pins Y (upd H a ob) { s with heap:=h',toks:=t' }:=
 I.write (x:=a) (e:=a) mu (.inl rfl) (λb q hb z=>(hs.2 b hb).trans z) he new
end
structure M1(X:Cx)(o:Expr)(m:Str)(apos:Pos)(e:Expr)(cpos:Pos):Prop where
 base:attributeBase o m X.env (eval o X.env)=eval o X.env
 LB:((backTo cpos (starEach [e] X.env)).all (λx=>!x.1)&&(backToKw cpos (keywordEach [] X.env)).all (λx=>x.1.isSome)
  && decide (([e]:List Expr).length+([]:List Keyword).length+(if ([]:List Keyword).isEmpty then 0 else 1)<30))=true
 line:(apos.endLine==cpos.line)=true
 trees:backTo cpos (starEach [e] X.env)=[(false,eval e X.env)]
end L2
namespace Att
open PySem PySem.W PySem.Calls PyProof.Rows
variable{P:Params}{h:Heap}
theorem iR:∀(ns:List Int)(vs:List Value),WellAll P h vs (ns.map Vt)->IntsAre vs ns:=by
 intro ns;induction ns with
 |nil=>intro vs w;rw[QF] at w;cases w;exact .nil
 |cons n ns j=>
  intro vs w;rw[NK] at w;cases w with
  |cons a b=>cases a;exact .cons _ _ (j _ b)
theorem uJ{l:OpenLaw}{n:Nat}(hn:l.most=some n){args:List WData}{s:List Value}
  (Y:l.row.toRowW.claim.pre args=true)(I:WellAll P h s args):
  ∃a vs ns,s=[Of a]/\args=[WData.list (ns.map Vt)]/\h.get? a=some { cls:=.type "list",data:=.seq vs.toArray }/\IntsAre vs ns/\ns.length<=n:=by
 have X:WShape.hasAll [] args [.list .int]=true:=(pre_splitW Y).1;have hc:l.pre.holds [] { args:=args }=true:=(pre_splitW Y).2;obtain⟨d,r,rfl,h1,h2⟩:=hasAllW_cons X;obtain rfl:=hasAllW_nil h2;obtain⟨xs,rfl,h3⟩:=hasW_list h1;obtain⟨ns,rfl⟩:=items_int h3;have E:ns.length<=n:=by
  unfold OpenLaw.pre at hc;have h4:(WTm.not (.lt (.lit (.int (n:Int))) (.len (.arg 0)))).holds [] { args:=[.list (ns.map .int)] }=true:=by have h4:=(holds_andW hc).1;rw[hn] at h4;exact h4
  have h5:=condW_of h4 (w_not (w_lt w_lit (w_len_list (w_arg rfl))));rw[Nl] at h5;refine P9 λq=>?_;have o:(n:Int)<((ns.length:Nat):Int):=by omega
  first
   |(rw[decide_eq_true o] at h5;exact absurd h5 (by decide))
   |(simp at h5;omega)
 cases I with
 |cons O v=>
  cases v;cases O with
  |list ho H=>exact⟨_,_,ns,rfl,rfl,ho,iR ns _ H,E⟩
theorem u4(l:OpenLaw)(args:List WData):l.row.toRowW.claim.post args (.bool true) args=true:=
 postW_of (r:=l.row.toRowW) (X:=(true==true))
  (show Vh [] (.bool true) .bool=true by first|rfl|decide|simp[Vh,WShape.arms,WShape.armsAll])
  (show (WTm.eq .res (.lit (.bool true))).value [] { args:=args,res:=some (.bool true),after:=args }=some (.bool (true==true)) from w_eq_bool (w_res rfl) w_lit) rfl
theorem pC{l:OpenLaw}{n:Nat}{q:Program}{loose:List Str}{XP:(Str->Option Value)->Heap->Prop}{YP:World->Heap->Prop}{d:DefRec}
  (hn:l.most=some n)(U:d.params.defaults=[])
  (call:∀(w:World)(s₀ Z:Shared)(mg mb:Str->Option Value)(H:Addr)(o:Obj)(pm cd doc:Value)(a:Addr)(vs:List Value)(ns:List Int),
   Ground q loose [] XP w s₀ mg mb Z.heap->YP w Z.heap->
   Z.heap.get? H=some o->o.data=.func (docDef d.name d.params d.body d.scope pm cd doc)->Z.heap.CodeRec cd d.name->mg d.name=some (.ref H)->
   Z.heap.get? a=some { cls:=.type "list",data:=.seq vs.toArray }->IntsAre vs ns->ns.length<=n->Z.gens=#[]->
   codeAny (model l.prog w) callerA (.call (.ref H) ⟨[.ref a],[]⟩) (λr s'=>r=.ok (.ret (.bool true))/\OldK Z.heap s'.heap/\s'.os=Z.os/\AllBare s'.gens) Z):
  WalkO q loose XP YP l.row.toRowW d [] (λf vs=>T5 f vs):=by
 intro w s₀ Z mg mb G Y H o pm cd doc dV kV ho hd C h X K args p as I v x e y;obtain rfl:dV=.none:=Dflts.none h U;obtain rfl:kV=.none:=Dflts.noKw h;obtain⟨a,vs,ns,rfl,rfl,Q,s,E⟩:=uJ hn I e;refine enter_call (codeAny_mono (call w s₀ Z mg mb H o pm cd doc a vs ns G Y ho (fd_plain hd) C X Q s E K) λr s' R=>?_);obtain⟨rfl,h2,h3,h4⟩:=R;exact⟨.inl ⟨.bool true,.bool true,[],rfl,λ_=>rfl,.bool true,u4 l _,λ_=>⟨Vn,λ_ hm=>(nomatch hm)⟩⟩,h2,h3,h4⟩
end Att
namespace L2
open PySem PySem.Spec PyProof.Rows
theorem kP:∀{vs:List Value}{ns:List Int},IntsAre vs ns->Vals (ns.map V.int) vs
 |_,_,.nil=>.nil
 |_,_,.cons n t h=>.cons ⟨t,rfl⟩ (kP h)
def Ei(H:Hp):Prop:=∀b,H b=none\/∃o xs,H b=some (.frz o (.lst xs))
variable{k:Nat}
theorem wH{P:Program}{w:World}{K:Nh}{mg mb:Str->Option Value}{CX:oj}{X a:Addr}{fd:FuncData}{x:Str}{sp:Sp}{Z:Shared}{vs:List Value}{ns:List Int}
  (A:K.In Z.heap)(L:Z.heap.Ns mainGlobals mg)(hb:Z.heap.Ns builtinsNs mb)(c:∀x:Str,x ≠ "__name__" -> mb x=bootBuiltins x)(N:Z.heap.NoLimit)(j:Z.gens=#[])
  (ha:Z.heap.get? a=some { cls:=.type "list",data:=.seq vs.toArray })(hi:IntsAre vs ns)(hl:ns.length<=sizeLine)(t:cY k callerA)
  (F:∀base:Heap,K.In base->base.Ns mainGlobals mg->dM P w K mg base CX k X fd [x] sp)(I:∀(s:Shared)(u:Value),BindsTo s fd ⟨[u],[]⟩ [(x,u)])
  (l:∀H:Hp,Ei H->fo K H a (ns.map V.int)->sp [.ref a] H (λv _=>v=.bl true) λ_ _ _=>False)
  (i:∀H e s',CX [] H Z (λ_ _ _=>False) e s'->False):
  codeAny (model P w) callerA (.call (.ref X) ⟨[.ref a],[]⟩) (λr s'=>r=.ok (.ret (.bool true))/\OldK Z.heap s'.heap/\s'.os=Z.os/\AllBare s'.gens) Z:=by
 have rv:=kP hi;have O:=hi.length;have D:∀H:Hp,Ei H->fo K H a (ns.map V.int)->iD P w H Z.heap->(∀b,H b≠none->b=a)->(H a≠none->K.lookup a=none)->
   codeAny (model P w) callerA (.call (.ref X) ⟨[.ref a],[]⟩) (λr s'=>r=.ok (.ret (.bool true))/\OldK Z.heap s'.heap/\s'.os=Z.os/\AllBare s'.gens) Z:=by
  intro H B g hok J C;have jd:∀{b:Addr}{o:Obj},Z.heap.get? b=some o->H b=none->(m6 Z.heap H).get? b=some o:=λe n=>we e n;have y:∀{b:Addr}{o:Obj}{es:Array DictEntry}{ep:Nat},Z.heap.get? b=some o->o.data=.dict es ep->H b=none:=λ{b o es ep} e d=>by
   cases q:H b with
   |none=>rfl
   |some u=>have e':b=a:=J b (by rw[q];simp);subst e';rw[ha] at e;cases e;have d':Data.seq vs.toArray _=Data.dict es ep:=d;cases d'
  have Y:∀{b:Addr}{m:Str->Option Value},Z.heap.Ns b m->(m6 Z.heap H).Ns b m:=λ{b m} ⟨o,es,ep,e,d,r⟩=>⟨o,es,ep,jd e (y e d),d,r⟩
  have Q:K.In (m6 Z.heap H):=λb o e=>jd (A b o e) (by
   cases q:H b with
   |none=>rfl
   | some u=>have e':b=a:=J b (by rw[q];simp);subst e';rw[C (by rw[q];simp)] at e;cases e)
  have f:Mod K mg (m6 Z.heap H):=⟨Q,Y L,⟨mb,Y hb,c⟩,let ⟨mc,h1,h2⟩:=N;⟨mc,Y h1,h2⟩⟩
  have E:AN P w K mg (m6 Z.heap H) callerA [] Z H:=⟨rfl,f,λb o e=>Bw e,R8 (ve _ _),trivial,λb hb=>absurd (show b∈([]:List Addr) from hb) (by simp),hok,.of_eq j⟩
  refine codeAny_mono ((F _ Q (Y L)).run callerA [] Z H ⟨[.ref a],[]⟩ [.ref a] [.ref a] _ _ t E (I Z (.ref a)) (.cons rfl .nil) (l H B g)) λr s' h=>?_;cases r with
  |error e=>exact(i H e s' h).elim
  |ok fl=>
   cases fl with
   |next=>exact Qk h
   |brk=>exact Qk h
   |cont=>exact Qk h
   |ret u=>
    obtain⟨v,H',os,bare,un,U,R,q⟩:=h;have S:v=.bl true:=q;subst S;obtain rfl:u=Vj true:=R;refine⟨rfl,OldK.of_keep λb o e=>?_,os,bare⟩;cases q:H b with
    |none=>exact un.keep b o e q (by intro z;exact absurd (show b∈([]:List Addr) from z) (by simp)) (by simp)
    |some u=>
     rcases B b with z|⟨ob,xs,z⟩
     .rw[q] at z;cases z
     .have T:=un.frzs b ob _ z;obtain⟨G,_⟩:=hok b _ z;obtain⟨e2,_⟩:=U b _ T;rw[e] at G;cases G;exact e2
 cases hk:K.lookup a with
 |some o=>have e:=A a o hk;rw[ha] at e;cases e;refine D (λ_=>none) (λ_=>.inl rfl) (.inr ⟨_,vs.toArray,_,hk,rfl,rfl,rfl,by rw[Nk,O];exact hl,by simpa using rv⟩) (λb u z=>by have p:(none:Option HO)=some u:=z;cases p) (λb z=>absurd rfl z) λz=>absurd rfl z
 |none=>
  refine D (λb=>if b=a then some (.frz { cls:=.type "list",data:=.seq vs.toArray } (.lst (ns.map V.int))) else none) (λb=>?_) (.inl (.inr ⟨{ cls:=.type "list",data:=.seq vs.toArray },if_pos rfl⟩)) (λb u z=>?_) (λb z=>?_) λ_=>hk
  .by_cases hb:b=a
   .exact .inr ⟨_,_,if_pos hb⟩
   .exact .inl (if_neg hb)
  .by_cases hb:b=a
   .have p:=(if_pos hb).symm.trans z;cases p;subst hb;exact⟨ha,by rw[Nl];exact hl,vs,_,rv,ha⟩
   .have p:=(if_neg hb).symm.trans z;cases p
  .by_cases hb:b=a
   .exact hb
   .exact absurd (if_neg hb) z
noncomputable def cC(s:Stmt):Arguments:=match s with
 | .FunctionDef _ a _ _ _ _ _ _ _ _=>a
 |_=>{ posonlyargs:=[],args:=[],vararg:=none,kwonlyargs:=[],kw_defaults:=[],kwarg:=none,defaults:=[] }
noncomputable def dr(s:Stmt):List Stmt:=match s with
 | .FunctionDef _ _ b _ _ _ _ _ _ _=>b
 |_=>[]
noncomputable def aN(s:Stmt):Scope:=match s with
 | .FunctionDef _ _ _ _ _ _ sc _ _ _=>sc
 |_=>{ kind:=.function,names:=[],isGenerator:=false,isCoroutine:=false }
noncomputable abbrev E0:XK:=λ_ _ _=>False
theorem JM{A:Around}(t:cY k A):A.units+1<cLine:=O5 (Ug (by decide:1<=64) _) t.units
def K0(H H':Hp):Prop:=∀b o,H b=some o->H' b=some o
end L2
set_option maxHeartbeats 4000000
namespace L2
open PySem PySem.Spec PyProof.Rows PySem.W
open PySem.Builtin.ObjectAttr (find dataDescriptor? getOf)
open PySem.Builtin.Getset_descriptor (descrGet descrGetter descrCheckInstance descrNameAndClass)
variable{R:Result->Shared->Prop}
section
variable{prog:Program}{w:World}{A:Around}{E:Value->Shared->Prop}{h:Heap}{g:Array GenState}{d:Drawn}{t:Nat}{os:OsState}{K:Frag}{x C:Addr}
structure jQ(K:Frag)(C:Addr):Prop where
 ga:findIn K (.ref C) "__getattribute__" = some (some (.builtin "BaseException.__getattribute__"))
 gt:findIn K (.ref C) "__getattr__" = some none
 cl:findIn K (.ref C) "__class__" = some (some (.builtin "object.__class__"))
 gg:specialIn K (.builtin "object.__class__") "__get__" = some (some (.builtin "getset_descriptor.__get__"))
 tk:takesIn K (.builtin "object.__class__")=some true
 ob:mroIn K C (.type "object")=some true
 be:mroIn K C (.type "BaseException")=some true
def ExcAt(a C:Addr)(h:Heap):Prop:=∃oa,h.get? a=some oa/\oa.cls=.ref C
theorem ExcAt.type{M:Model}(I:ExcAt x C h):Looks M h (typeOf (.ref x)) (.ref C):=by obtain⟨oa,D,F⟩:=I;exact F▸(Looks.ld D).andThen .now
theorem FG{M:Model}{q:Value}{Q:Unit->Shared->Prop}(X:K.In h)(T:jQ K C)(I:ExcAt x C h)(R:Q () ⟨h,g,d,t,os⟩):
  wpAny M A (checkBuiltinCall "BaseException.__getattribute__" ⟨[.ref x,q],[]⟩) Q E ⟨h,g,d,t,os⟩:=by
 have r:builtinKind "BaseException.__getattribute__" = some .slot:=by decide +kernel
 have s:splitId "BaseException.__getattribute__" = some ("BaseException", "__getattribute__"):=by decide +kernel
 have Y:=F.args_bexc_ga (.ref x) q;have L2:Looks M h (isInstance (.ref x) (.type "BaseException")) true:=I.type.andThen (looks_mroIn (M:=M) X T.be);simp only[checkBuiltinCall,r,s];refine wpAny_bind (L2.at ?_)
 repeat (first|exact R|wp_step)
theorem Iq{M:Model}(X:K.In h)(T:jQ K C):Looks M h (find (.ref x) (.ref C) "__class__") (.bind (.builtin "getset_descriptor.__get__") (.builtin "object.__class__")):=by have q:=looks_findIn (M:=M) X T.cl;have n:Looks M h (getOf (some (.builtin "object.__class__"))) (some (.builtin "getset_descriptor.__get__")):=looks_specialIn X T.gg;have r:Looks M h (dataDescriptor? (some (.builtin "object.__class__")) (some (.builtin "getset_descriptor.__get__"))) (some (.builtin "getset_descriptor.__get__",.builtin "object.__class__")):=(looks_takesIn (M:=M) X T.tk).andThen .now;exact q.andThen (n.andThen (r.andThen (Looks.tag .now)))
theorem Ko{tp:Value}(X:K.In h)(T:jQ K C)(I:ExcAt x C h)(q:R (.ok (.ret (.ref C))) ⟨h,g,d,t,os⟩):
  codeAny (model prog w) A (.call (.builtin "getset_descriptor.__get__") ⟨[.builtin "object.__class__",.ref x,tp],[]⟩) R ⟨h,g,d,t,os⟩:=by
 have s:=I.type (M:=model prog w);have H:=looks_mroIn (M:=model prog w) X T.ob;refine codeAny_call_builtin (KF.slot_gs).plain (KF.entry_gs) ((KF.slot_gs).check _ _ _ _ _ _ _ _ (KF.type_class) (KF.args_gs _ _ _) ?_);unfold Builtin.«getset_descriptor.__get__»;unfold descrGet;rw[dga_obj _ tp x];refine wpAny_bind (wpAny_pure ?_);unfold descrGetter descrCheckInstance;unfold descrNameAndClass isInstance;simp only[KF.owner_class,id]
 repeat (first|lk)
 refine⟨Uh _ (by decide +kernel),codeAny_builtin (KF.entry_class) ?_⟩;unfold Builtin.«object.__class__»;unfold shownTypeOf
 repeat (first|lk)
 exact q
theorem FV{tk:Tok}{Q:Fin->Shared->Prop}(X:K.In h)(T:jQ K C)(I:ExcAt x C h)(R:Q (.done (.ret (.ref C))) ⟨h,g,d,t,os⟩):
  wpAny (model prog w) A (Builtin.«object.__getattribute__» ⟨[.ref x,.str "__class__" tk],[]⟩) Q E ⟨h,g,d,t,os⟩:=by
 have q:=I.type (M:=model prog w);have Y:=Iq (x:=x) (M:=model prog w) X T;unfold Builtin.«object.__getattribute__»;refine wpAny_bind (wpAny_pure ?_);refine wpAny_bind (wpAny_pure ?_);refine wpAny_bind (q.at ?_);refine wpAny_bind (Y.at ?_);unfold Uz;refine wpAny_bind (wpAny_call ?_);refine Ko X T I ?_;exact wpAny_pure R
theorem JN{tk:Tok}(X:K.In h)(T:jQ K C)(I:ExcAt x C h)(e:R (.ok (.ret (.ref C))) ⟨h,g,d,t,os⟩):
  codeAny (model prog w) A (.call (.builtin "BaseException.__getattribute__") ⟨[.ref x,.str "__class__" tk],[]⟩) R ⟨h,g,d,t,os⟩:=
 codeAny_call_builtin Ur.ga.plain F.entry_bexc_ga (FG X T I (FV X T I e))
theorem MW{tk:Tok}{Q:Value->Shared->Prop}(X:K.In h)(T:jQ K C)(I:ExcAt x C h)(R:Q (.ref C) ⟨h,g,d,t,os⟩):
  wpAny (model prog w) A (getAttrBy (.ref x) (.str "__class__" tk) false) Q E ⟨h,g,d,t,os⟩:=by
 have r:=Ur.ga.bind (.ref x);have m:(RF "BaseException.__getattribute__" == RF "object.__getattribute__")=false:=by decide +kernel
 have n:(onTheHeap (Of C)&&RF "BaseException.__getattribute__" == RF "object.__getattribute__")=false:=by rw[m];rfl
 have q:=I.type (M:=model prog w);have Y:=looks_findIn (M:=model prog w) X T.ga;have L2:=looks_findIn (M:=model prog w) X T.gt;unfold getAttrBy;refine wpAny_holding (wpAny_bind (q.at (wpAny_bind (Y.at ?_))));dsimp only;rw[if_neg (by rw[n];exact Og)];unfold getAttrByItsOwn hookBefore
 repeat (any_goals (first|assumption|with_reducible refine wpAny_bind (L2.at ?_)|with_reducible refine wpAny_bind (Y.at ?_)|wp_step))
 refine JN X T I ?_
 repeat (any_goals (first|assumption|wp_step))
theorem Js{Q:Option Value->Shared->Prop}(X:K.In h)(T:jQ K C)(I:ExcAt x C h)(R:Q (some (.ref C)) ⟨h,g,d,t+1,os⟩):
  wpAny (model prog w) A (getAttr? (.ref x) "__class__") Q E ⟨h,g,d,t,os⟩:=by
 unfold getAttr? getAttrBy?
 repeat (any_goals (first|assumption|with_reducible apply MW X T I|wp_step))
end
variable{K:Frag}{C:Addr}
theorem jQ.there(T:jQ K C):∃oc od cd sl,K.lookup C=some ⟨oc,od,.cls cd,sl⟩:=by
 have q:=T.ob;unfold mroIn clsIn at q;split at q
 .rename_i a b c e f;exact⟨a,b,c,e,f⟩
 .cases q
theorem yT{a:Addr}(T:jQ K C):KitX K (.ref a) (.ref C) (ExcAt a C) where
 ty:=λ_ _ _ I=>I.type
 it:=λ_ _ X _=>by obtain⟨_,_,_,_,lk⟩:=T.there;intro v x H s1 r l;unfold isType loadHead;exact wpAny_bind (wpAny_loadPart (r _ _ (X _ _ lk)) (wpAny_pure l))
 ne:=λh tp L b n sl X w=>by obtain⟨_,_,_,_,lk⟩:=T.there;refine Pn.mpr λq=>?_;cases Of.inj (beq_iff_eq.mp q);cases (X _ _ lk).symm.trans w
 ca:=λ{_ _ _ _ _ s} X I k=>by obtain⟨h,g,d,t,os⟩:=s;exact Js X T I k
open PySem PySem.Spec PyProof.Rows
variable{P:Program}{w:World}{H:Hp}{o:HO}
theorem bj.is{h:Heap}{a:Addr}(x:bj P w H h a o):∃ob,h.get? a=some ob:=by
 cases o with
 |lst xs=>obtain⟨_,_,_,_,e⟩:=x;exact⟨_,e⟩
 |tup xs=>obtain⟨_,_,_,ob,e,_⟩:=x;exact⟨_,e⟩
 |dK kvs=>obtain⟨_,_,_,_,ob,_,_,e,_⟩:=x;exact⟨_,e⟩
 |dT kvs=>obtain⟨_,_,_,_,ob,_,_,e,_⟩:=x;exact⟨_,e⟩
 |set S n=>obtain⟨ob,_,_,_,e,_⟩:=x;exact⟨_,e⟩
 |ins C dx fs=>obtain⟨_,_,_,e,_⟩:=x;exact⟨_,e⟩
 |own y=>obtain⟨_,e⟩:=x;exact⟨_,e⟩
 |xd fs=>obtain⟨_,⟨_,_,_,e,_⟩,_⟩:=x;exact⟨_,e⟩
 |rng lo hi=>obtain⟨_,_,_,e⟩:=x;exact⟨_,e⟩
 |frz ob u=>obtain⟨e,_⟩:=x;exact⟨_,e⟩
 |tbl ps=>exact⟨_,x⟩
 |met f y=>exact⟨_,x⟩
 |ext φ=>obtain⟨_,⟨_,e⟩,_⟩:=x;exact⟨_,e⟩
abbrev XS:=Value->St->Hp->Prop
abbrev TX:=Ends->XS->St->Hp->Prop
section
variable{X:Cx}
variable{k:Nat}{f C:Addr}{fd:FuncData}{ps:List Str}{sp:Sp}{dvs:List V}{ds:List Value}{x m:Str}{p pos apos:Pos}{e o:Expr}{es:List Expr}{ta:TE}{t:TA}
noncomputable def Fq(a C:Addr):HO:=.ext (ExcAt a C)
end
def Bd(n:Nat)(x:Int):Prop:=x.natAbs<2^n
variable{m:Nat}{x:Int}
theorem Bd.mono{n:Nat}(h:Bd m x)(k:m<=n):Bd n x:=Nn h (O7 (by decide) k)
theorem Bd.bits{n:Nat}(h:Bd n x):SK x<=n:=by
 unfold SK;split
 .exact Ou _
 .rename_i z;have s:x.natAbs≠0:=λq=>z (by simp[Int.natAbs_eq_zero.mp q]);exact(Vu s).mpr h
variable{y:Int}
theorem Bd.IW{n:Nat}(h:Bd m x)(k:Bd n y)(hs:m+n<=134217728):IntMulOk x y:=IntMulOk.of_le h.bits k.bits hs
theorem Bd.mul{n:Nat}(h:Bd m x)(k:Bd n y):Bd (m+n) (x*y):=by unfold Bd at *;rw[Int.natAbs_mul,Nat.pow_add];exact Nat.mul_lt_mul'' h k
theorem Bd.add{n:Nat}(h:Bd m x)(k:Bd n y):Bd (max m n+1) (x+y):=by have h1:=h.mono (UY m n);have r:=k.mono (UK m n);unfold Bd at *;have:=Int.natAbs_add_le x y;rw[R9];lia
theorem Bd.neg{n:Nat}(h:Bd n x):Bd n (-x):=by unfold Bd at *;rwa[Int.natAbs_neg]
theorem Bd.log{n:Nat}(h:Bd n x)(hn:n<=9000):x.natAbs.log2<9000:=by
 by_cases z:x.natAbs=0
 .rw[z];decide
 .exact Nn ((Vu z).mpr h) hn
section
variable{X:Cx}
def Mh(_ j:Int):Prop:=j≠0/\Bd 9000 j
theorem z7:fG X (binaryOp .Mult) (rI IntMulOk λi j=>.int (i*j)):=kO λ_ _ _ _ _ _ _ hc q=>mul_int q hc
theorem yM:fG X (binaryOp .FloorDiv) (rI Mh λi j=>.int (i.fdiv j)):=kO λ_ _ _ _ _ _ _ hc q=>floordiv_int hc.1 q (.inl (PyProof.noPylong_of_log2 (hc.2.log (Nr _))))
end
inductive D where
 |non|bl(b:Bool)|int(i:Int)|str(x:Str)|tup(ds:List D)|lst(ds:List D)
mutual
noncomputable def D.eq:D->D->Bool
 | .non,.non=>true
 | .bl a,.bl b=>a==b
 | .bl a,.int b=>(if a then 1 else 0)==b
 | .int a,.bl b=>a==(if b then 1 else 0)
 | .int a,.int b=>a==b
 | .str a,.str b=>a==b
 | .tup xs,.tup ys=>D.eqs xs ys
 | .lst xs,.lst ys=>D.eqs xs ys
 |_,_=>false
noncomputable def D.eqs:List D->List D->Bool
 |[],[]=>true
 |x::xs,y::ys=>D.eq x y&&D.eqs xs ys
 |_,_=>false
end
mutual
noncomputable def D.depth:D->Nat
 | .tup xs=>D.c8 xs+1
 | .lst xs=>D.c8 xs+1
 |_=>0
noncomputable def D.c8:List D->Nat
 |[]=>0
 |x::xs=>max (D.depth x) (D.c8 xs)
end
mutual
theorem D.jk:∀d:D,D.eq d d=true
 | .non=>rfl
 | .bl b=>by simp[D.eq]
 | .int i=>by simp[D.eq]
 | .str x=>by simp[D.eq]
 | .tup xs=>by rw[D.eq];exact D.kz xs
 | .lst xs=>by rw[D.eq];exact D.kz xs
theorem D.kz:∀ds:List D,D.eqs ds ds=true
 |[]=>rfl
 |x::xs=>by rw[D.eqs,D.jk x,D.kz xs];rfl
end
mutual
inductive Den(K:Nh)(H:Hp):V->D->Prop
 |non:Den K H .non .non
 |bl(b:Bool):Den K H (.bl b) (.bl b)
 |int(i:Int):Den K H (.int i) (.int i)
 |str(x:Str):Den K H (.str x) (.str x)
 |tup{a:Addr}{xs:List V}{ds:List D}(e:cQ K H a xs)(r:cW K H xs ds):Den K H (.ref a) (.tup ds)
 |lst{a:Addr}{xs:List V}{ds:List D}(e:fo K H a xs)(r:cW K H xs ds):Den K H (.ref a) (.lst ds)
inductive cW(K:Nh)(H:Hp):List V->List D->Prop
 |nil:cW K H [] []
 |cons{x:V}{d:D}{xs:List V}{ds:List D}(h:Den K H x d)(r:cW K H xs ds):cW K H (x::xs) (d::ds)
end
theorem cW.len{K:Nh}{H:Hp}:∀{xs:List V}{ds:List D},cW K H xs ds->xs.length=ds.length
 |_,_,.nil=>rfl
 |_,_,.cons _ r=>by rw[NM,NM,r.len]
theorem cW.at{K:Nh}{H:Hp}:∀{xs:List V}{ds:List D}(j:Nat){x:V}{d:D},cW K H xs ds->xs[j]?=some x->ds[j]?=some d->Den K H x d
 |_,_,0,_,_,.cons h _,e1,e2=>by cases e1;cases e2;exact h
 |_,_,j+1,_,_,.cons _ r,e1,e2=>r.at j e1 e2
theorem D.lJ:∀{ds:List D}(j:Nat){d:D},ds[j]?=some d->D.depth d<=D.c8 ds
 |x::xs,0,_,e=>by cases e;exact UY _ _
 |x::xs,j+1,_,e=>N5 (D.lJ (ds:=xs) j e) (UK _ _)
theorem D.eu:∀(xs ys:List D),D.eqs xs ys=((NA (min xs.length ys.length)).all (λj=>D.eq (xs.getD j .non) (ys.getD j .non))&&xs.length==ys.length)
 |[],[]=>rfl
 |[],_::_=>rfl
 |_::_,[]=>rfl
 |x::xs,y::ys=>by
  rw[D.eqs,D.eu xs ys,NM,NM,Nat.succ_min_succ,List.range_succ_eq_map,Pp,List.all_map];have e:(xs.length+1==ys.length+1)=(xs.length==ys.length):=by rw[Rj];simp
  rw[e,Bool.and_assoc];rfl
variable{xs ys:List V}{u v:Value}{us:List Value}
section
variable{X:Cx}{pins:List (Addr×Obj)}{Y:St}{H:Hp}{s:Shared}
theorem sZ{a:Addr}(I:Inv X pins Y H s)(h1:cQ X.K H a xs)(h2:fo X.K H a ys):False:=by obtain⟨_,_,⟨o,e,c,_⟩,_⟩:=I.tuple h1;obtain⟨_,_,⟨o',n',e',j,_,d'⟩,_⟩:=I.list h2;rw[e] at e';cases e';rw[c] at j;injection j with q;exact absurd q (by decide)
mutual
theorem Den.inj(I:Inv X pins Y H s):∀{v:V}{d e:D},Den X.K H v d->Den X.K H v e->d=e
 |_,_,_,.non,h=>by cases h;rfl
 |_,_,_,.bl b,h=>by cases h;rfl
 |_,_,_,.int i,h=>by cases h;rfl
 |_,_,_,.str x,h=>by cases h;rfl
 |_,_,_,.tup e r,h=>by
  cases h with
  |tup e' L=>cases I.lE e e';rw[cW.inj I r L]
  |lst e' L=>exact(sZ I e e').elim
 |_,_,_,.lst e r,h=>by
  cases h with
  |lst e' L=>cases I.nY e e';rw[cW.inj I r L]
  |tup e' L=>exact(sZ I e' e).elim
theorem cW.inj(I:Inv X pins Y H s):∀{v:List V}{d e:List D},cW X.K H v d->cW X.K H v e->d=e
 |_,_,_,.nil,h=>by cases h;rfl
 |_,_,_,.cons a r,h=>by
  cases h with
  |cons a' x=>rw[Den.inj I a a',cW.inj I r x]
end
theorem kW(I:Inv X pins Y H s){A:Around}{x y:V}{d e:D}(B:A.units<cLine)(hf:xc x=true)(hd:Den X.K H x d)(he:Den X.K H y e)(C:RelV x u)(rv:RelV y v):QI A s u v (D.eq d e):=by
 cases hd with
 |tup=>cases hf
 |lst=>cases hf
 |non =>
  cases he with
  |tup q r=>cases C;cases rv;rw[D.eq.eq_def];obtain⟨_,_,p,_⟩:=I.tuple q;exact .none_tuple p B
  |lst q r=>cases C;cases rv;rw[D.eq.eq_def];obtain⟨_,_,p,_⟩:=I.list q;exact .none_list p.isList B
  |non => exact bQ C rv rfl rfl
  |bl h=>exact bQ C rv rfl rfl
  |int w=>exact bQ C rv rfl rfl
  |str N=>exact bQ C rv rfl rfl
 |bl O=>
  cases he with
  |tup q r=>cases C;cases rv;rw[D.eq.eq_def];obtain⟨_,_,p,_⟩:=I.tuple q;exact .bool_tuple _ p B
  |lst q r=>cases C;cases rv;rw[D.eq.eq_def];obtain⟨_,_,p,_⟩:=I.list q;exact .bool_list _ p.isList B
  |non => exact bQ C rv rfl rfl
  |bl h=>exact bQ C rv rfl rfl
  |int w=>exact bQ C rv rfl rfl
  |str N=>exact bQ C rv rfl rfl
 |int Q=>
  cases he with
  |tup q r=>obtain⟨_,rfl⟩:=C;cases rv;rw[D.eq.eq_def];obtain⟨_,_,p,_⟩:=I.tuple q;exact .int_tuple _ _ p B
  |lst q r=>obtain⟨_,rfl⟩:=C;cases rv;rw[D.eq.eq_def];obtain⟨_,_,p,_⟩:=I.list q;exact .int_list _ _ p.isList B
  |non => exact bQ C rv rfl rfl
  |bl h=>exact bQ C rv rfl rfl
  |int w=>exact bQ C rv rfl rfl
  |str N=>exact bQ C rv rfl rfl
 |str U=>
  cases he with
  |tup q r=>obtain⟨_,rfl⟩:=C;cases rv;rw[D.eq.eq_def];obtain⟨_,_,p,_⟩:=I.tuple q;exact .str_tuple _ _ p B
  |lst q r=>obtain⟨_,rfl⟩:=C;cases rv;rw[D.eq.eq_def];obtain⟨_,_,p,_⟩:=I.list q;exact .str_list _ _ p.isList B
  |non => exact bQ C rv rfl rfl
  |bl h=>exact bQ C rv rfl rfl
  |int w=>exact bQ C rv rfl rfl
  |str N=>exact bQ C rv rfl rfl
theorem Vals.Iu(r:Vals xs us){j:Nat}(v:j<us.toArray.size):∃x,xs[j]?=some x/\RelV x us.toArray[j]:=by
 have hl:=r.length;have I:j<us.length:=by simpa using v
 have hx:j<xs.length:=by lia
 obtain⟨u,e,C⟩:=r.get (Nx hx);rw[Nx I] at e;cases e;exact⟨xs[j],Nx hx,by simpa using C⟩
theorem cW.getD{K:Nh}{H:Hp}{xs:List V}{ds:List D}(r:cW K H xs ds){j:Nat}{x:V}(e:xs[j]?=some x):Den K H x (ds.getD j .non)/\D.depth (ds.getD j .non)<=D.c8 ds:=by
 have v:j<ds.length:=by rw[<-r.len];exact(Np.mp e).1
 have F:ds[j]?=some ds[j]:=Nx v;have O:ds.getD j .non=ds[j]:=by rw[OB,F];rfl
 rw[O];exact⟨r.at j e F,D.lJ j F⟩
theorem hV(I:Inv X pins Y H s){n:Nat}(c:∀{A:Around}{x y:V}{d e:D}{u v:Value},A.units+n<cLine->D.depth d<=n->Den X.K H x d->Den X.K H y e->RelV x u->RelV y v->QI A s u v (D.eq d e))
  {A:Around}(B:A.units+(n+1)<cLine){ds es:List D}{vs:List Value}(hn:D.c8 ds<=n)(r:cW X.K H xs ds)(q:cW X.K H ys es)(C:Vals xs us)(rv:Vals ys vs):
  ∀j (h1:j<us.toArray.size) (h2:j<vs.toArray.size),QI A.in1 s us.toArray[j] vs.toArray[j] (D.eq (ds.getD j .non) (es.getD j .non)):=λj h1 h2=>by
 obtain⟨x,ex,o⟩:=C.Iu h1;obtain⟨y,h,z⟩:=rv.Iu h2;obtain⟨i,m⟩:=r.getD ex;exact c (by show A.units+1+n<cLine;lia) (N5 m hn) i (q.getD h).1 o z
theorem fD(I:Inv X pins Y H s):∀(n:Nat){A:Around}{x y:V}{d e:D}{u v:Value},A.units+n<cLine->D.depth d<=n->Den X.K H x d->Den X.K H y e->RelV x u->RelV y v->QI A s u v (D.eq d e):=by
 intro n;induction n with
 |zero=>
  intro A x y d e u v B hn hd he C rv;cases id hd with
  |tup=>simp[D.depth] at hn
  |lst=>simp[D.depth] at hn
  |_=>exact kW I B rfl hd he C rv
 |succ n j=>
  intro A x y d e u v B hn hd he C rv;have q:A.units<cLine:=by lia
  cases id hd with
  |@tup a xs ds ea r=>
   cases C;obtain⟨us,J,p,_⟩:=I.tuple ea;cases id he with
   |@tup b ys es eb g=>
    cases rv;obtain⟨vs,w,P,_⟩:=I.tuple eb;by_cases N:a=b
    .subst N;rw[hd.inj I he,D.jk];exact .same _
    .refine .of_refs N ?_;rw[D.eq.eq_def];simp only[];rw[D.eu];have Q:us.toArray.size=ds.length:=by rw[Nk,<-J.length,r.len]
     have U:vs.toArray.size=es.length:=by rw[Nk,<-w.length,g.len]
     rw[<-Q,<-U];exact .tuples p P q (hV I j B (by rw[D.depth] at hn;lia) r g J w)
   |@lst b ys es eb g=>cases rv;obtain⟨vs,w,P,_⟩:=I.list eb;rw[D.eq.eq_def];exact .tuple_list p P.isList q
   |non => cases rv;rw[D.eq.eq_def];exact .tuple_none p q
   |bl O=>cases rv;rw[D.eq.eq_def];exact .tuple_bool _ p q
   |int Z=>obtain⟨_,rfl⟩:=rv;rw[D.eq.eq_def];exact .tuple_int _ _ p q
   |str c=>obtain⟨_,rfl⟩:=rv;rw[D.eq.eq_def];exact .tuple_str _ _ p q
  |@lst a xs ds ea r=>
   cases C;obtain⟨us,J,p,_⟩:=I.list ea;cases id he with
   |@lst b ys es eb g=>
    cases rv;obtain⟨vs,w,P,_⟩:=I.list eb;by_cases N:a=b
    .subst N;rw[hd.inj I he,D.jk];exact .same _
    .refine .of_refs N ?_;rw[D.eq.eq_def];simp only[];rw[D.eu];have Q:us.toArray.size=ds.length:=by rw[Nk,<-J.length,r.len]
     have U:vs.toArray.size=es.length:=by rw[Nk,<-w.length,g.len]
     rw[<-Q,<-U];by_cases hl:us.toArray.size=vs.toArray.size
     .have G:(us.toArray.size==vs.toArray.size)=true:=beq_iff_eq.mpr hl;rw[G,Td,<-hl,Tx];exact .lists p.isList P.isList hl q (hV I j B (by rw[D.depth] at hn;lia) r g J w)
     .have G:(us.toArray.size==vs.toArray.size)=false:=beq_eq_false_iff_ne.mpr hl;rw[G,P5];exact .lists_lengths p.isList P.isList (by simpa using hl) q
   |@tup b ys es eb g=>cases rv;obtain⟨vs,w,P,_⟩:=I.tuple eb;rw[D.eq.eq_def];exact .list_tuple p.isList P q
   |non => cases rv;rw[D.eq.eq_def];exact .list_none p.isList q
   |bl O=>cases rv;rw[D.eq.eq_def];exact .list_bool _ p.isList q
   |int Z=>obtain⟨_,rfl⟩:=rv;rw[D.eq.eq_def];exact .list_int _ _ p.isList q
   |str c=>obtain⟨_,rfl⟩:=rv;rw[D.eq.eq_def];exact .list_str _ _ p.isList q
  |_=>exact kW I q rfl hd he C rv
end
section
variable{X:Cx}{pins:List (Addr×Obj)}{Y:St}{H:Hp}{s:Shared}
theorem yy(I:Inv X pins Y H s){n:Nat}{A:Around}{x y:V}{d e:D}(B:A.units+n<cLine)(hn:D.depth d<=n)(hd:Den X.K H x d)(he:Den X.K H y e)(C:RelV x u)(rv:RelV y v):SeqAt.RcAt A s u v (D.eq d e):=by
 have q:A.units<cLine:=by lia
 cases id hd with
 |non =>
  cases C;cases id he with
  |non => cases rv;rw[D.eq.eq_def];exact .none_none
  |bl h=>cases rv;rw[D.eq.eq_def];exact .none_bool _
  |int h=>obtain⟨_,rfl⟩:=rv;rw[D.eq.eq_def];exact .none_int _ _
  |str h=>obtain⟨_,rfl⟩:=rv;rw[D.eq.eq_def];exact .none_str _ _
  |@tup b ys es eb g=>cases rv;rw[D.eq.eq_def];obtain⟨_,_,P,_⟩:=I.tuple eb;exact .none_tuple P q
  |@lst b ys es eb g=>cases rv;rw[D.eq.eq_def];obtain⟨_,_,P,_⟩:=I.list eb;exact .none_list P.isList q
 |bl N=>
  cases C;cases id he with
  |non => cases rv;rw[D.eq.eq_def];exact .bool_none _
  |bl h=>cases rv;rw[D.eq.eq_def];exact .bool_bool _ _
  |int h=>obtain⟨_,rfl⟩:=rv;rw[D.eq.eq_def];exact .bool_int _ _ _
  |str h=>obtain⟨_,rfl⟩:=rv;rw[D.eq.eq_def];exact .bool_str _ _ _
  |@tup b ys es eb g=>cases rv;rw[D.eq.eq_def];obtain⟨_,_,P,_⟩:=I.tuple eb;exact .bool_tuple _ P q
  |@lst b ys es eb g=>cases rv;rw[D.eq.eq_def];obtain⟨_,_,P,_⟩:=I.list eb;exact .bool_list _ P.isList q
 |int N=>
  obtain⟨_,rfl⟩:=C;cases id he with
  |non => cases rv;rw[D.eq.eq_def];exact .int_none _ _
  |bl h=>cases rv;rw[D.eq.eq_def];exact .int_bool _ _ _
  |int h=>obtain⟨_,rfl⟩:=rv;rw[D.eq.eq_def];exact .int_int _ _ _ _
  |str h=>obtain⟨_,rfl⟩:=rv;rw[D.eq.eq_def];exact .int_str _ _ _ _
  |@tup b ys es eb g=>cases rv;rw[D.eq.eq_def];obtain⟨_,_,P,_⟩:=I.tuple eb;exact .int_tuple _ _ P q
  |@lst b ys es eb g=>cases rv;rw[D.eq.eq_def];obtain⟨_,_,P,_⟩:=I.list eb;exact .int_list _ _ P.isList q
 |str N=>
  obtain⟨_,rfl⟩:=C;cases id he with
  |non => cases rv;rw[D.eq.eq_def];exact .str_none _ _
  |bl h=>cases rv;rw[D.eq.eq_def];exact .str_bool _ _ _
  |int h=>obtain⟨_,rfl⟩:=rv;rw[D.eq.eq_def];exact .str_int _ _ _ _
  |str h=>obtain⟨_,rfl⟩:=rv;rw[D.eq.eq_def];exact .str_str _ _ _ _
  |@tup b ys es eb g=>cases rv;rw[D.eq.eq_def];obtain⟨_,_,P,_⟩:=I.tuple eb;exact .str_tuple _ _ P q
  |@lst b ys es eb g=>cases rv;rw[D.eq.eq_def];obtain⟨_,_,P,_⟩:=I.list eb;exact .str_list _ _ P.isList q
 |@tup a xs ds ea r=>
  cases C;obtain⟨us,J,p,_⟩:=I.tuple ea;cases id he with
  |non => cases rv;rw[D.eq.eq_def];exact .tuple_none p q
  |bl h=>cases rv;rw[D.eq.eq_def];exact .tuple_bool _ p q
  |int h=>obtain⟨_,rfl⟩:=rv;rw[D.eq.eq_def];exact .tuple_int _ _ p q
  |str h=>obtain⟨_,rfl⟩:=rv;rw[D.eq.eq_def];exact .tuple_str _ _ p q
  |@tup b ys es eb g=>
   cases rv;obtain⟨vs,w,P,_⟩:=I.tuple eb;rw[D.depth] at hn;obtain⟨n,rfl⟩:∃m,n=m+1:=⟨n-1,by lia⟩
   rw[D.eq.eq_def];simp only[];rw[D.eu];have Q:us.toArray.size=ds.length:=by rw[Nk,<-J.length,r.len]
   have U:vs.toArray.size=es.length:=by rw[Nk,<-w.length,g.len]
   rw[<-Q,<-U];exact .tuples p P q (hV I (fD I n) B (by lia) r g J w)
  |@lst b ys es eb g=>cases rv;rw[D.eq.eq_def];obtain⟨_,_,P,_⟩:=I.list eb;exact .tuple_list p P.isList q
 |@lst a xs ds ea r=>
  cases C;obtain⟨us,J,p,_⟩:=I.list ea;cases id he with
  |non => cases rv;rw[D.eq.eq_def];exact .list_none p.isList q
  |bl h=>cases rv;rw[D.eq.eq_def];exact .list_bool _ p.isList q
  |int h=>obtain⟨_,rfl⟩:=rv;rw[D.eq.eq_def];exact .list_int _ _ p.isList q
  |str h=>obtain⟨_,rfl⟩:=rv;rw[D.eq.eq_def];exact .list_str _ _ p.isList q
  |@tup b ys es eb g=>cases rv;rw[D.eq.eq_def];obtain⟨_,_,P,_⟩:=I.tuple eb;exact .list_tuple p.isList P q
  |@lst b ys es eb g=>
   cases rv;obtain⟨vs,w,P,_⟩:=I.list eb;rw[D.depth] at hn;obtain⟨n,rfl⟩:∃m,n=m+1:=⟨n-1,by lia⟩
   rw[D.eq.eq_def];simp only[];rw[D.eu];have Q:us.toArray.size=ds.length:=by rw[Nk,<-J.length,r.len]
   have U:vs.toArray.size=es.length:=by rw[Nk,<-w.length,g.len]
   rw[<-Q,<-U];by_cases hl:us.toArray.size=vs.toArray.size
   .have G:(us.toArray.size==vs.toArray.size)=true:=beq_iff_eq.mpr hl;rw[G,Td,<-hl,Tx];exact .lists p.isList P.isList hl q (hV I (fD I n) B (by lia) r g J w)
   .have G:(us.toArray.size==vs.toArray.size)=false:=beq_eq_false_iff_ne.mpr hl;rw[G,P5];exact .lists_lengths p.isList P.isList (by simpa using hl) q
theorem qg(I:Inv X pins Y H s){n:Nat}{A:Around}{x y:V}{d e:D}(B:A.units+n<cLine)(hn:D.depth d<=n)(hd:Den X.K H x d)(he:Den X.K H y e)(C:RelV x u)(rv:RelV y v):SeqAt.RcNeAt A s u v (!D.eq d e):=by
 have q:A.units<cLine:=by lia
 cases id hd with
 |non =>
  cases C;cases id he with
  |non => cases rv;rw[D.eq.eq_def];exact .none_none
  |bl h=>cases rv;rw[D.eq.eq_def];exact .none_bool _
  |int h=>obtain⟨_,rfl⟩:=rv;rw[D.eq.eq_def];exact .none_int _ _
  |str h=>obtain⟨_,rfl⟩:=rv;rw[D.eq.eq_def];exact .none_str _ _
  |@tup b ys es eb g=>cases rv;rw[D.eq.eq_def];obtain⟨_,_,P,_⟩:=I.tuple eb;exact .none_tuple P q
  |@lst b ys es eb g=>cases rv;rw[D.eq.eq_def];obtain⟨_,_,P,_⟩:=I.list eb;exact .none_list P.isList q
 |bl N=>
  cases C;cases id he with
  |non => cases rv;rw[D.eq.eq_def];exact .bool_none _
  |bl h=>cases rv;rw[D.eq.eq_def];exact .bool_bool _ _
  |int h=>obtain⟨_,rfl⟩:=rv;rw[D.eq.eq_def];exact .bool_int _ _ _
  |str h=>obtain⟨_,rfl⟩:=rv;rw[D.eq.eq_def];exact .bool_str _ _ _
  |@tup b ys es eb g=>cases rv;rw[D.eq.eq_def];obtain⟨_,_,P,_⟩:=I.tuple eb;exact .bool_tuple _ P q
  |@lst b ys es eb g=>cases rv;rw[D.eq.eq_def];obtain⟨_,_,P,_⟩:=I.list eb;exact .bool_list _ P.isList q
 |int N=>
  obtain⟨_,rfl⟩:=C;cases id he with
  |non => cases rv;rw[D.eq.eq_def];exact .int_none _ _
  |bl h=>cases rv;rw[D.eq.eq_def];exact .int_bool _ _ _
  |int h=>obtain⟨_,rfl⟩:=rv;rw[D.eq.eq_def];exact .int_int _ _ _ _
  |str h=>obtain⟨_,rfl⟩:=rv;rw[D.eq.eq_def];exact .int_str _ _ _ _
  |@tup b ys es eb g=>cases rv;rw[D.eq.eq_def];obtain⟨_,_,P,_⟩:=I.tuple eb;exact .int_tuple _ _ P q
  |@lst b ys es eb g=>cases rv;rw[D.eq.eq_def];obtain⟨_,_,P,_⟩:=I.list eb;exact .int_list _ _ P.isList q
 |str N=>
  obtain⟨_,rfl⟩:=C;cases id he with
  |non => cases rv;rw[D.eq.eq_def];exact .str_none _ _
  |bl h=>cases rv;rw[D.eq.eq_def];exact .str_bool _ _ _
  |int h=>obtain⟨_,rfl⟩:=rv;rw[D.eq.eq_def];exact .str_int _ _ _ _
  |str h=>obtain⟨_,rfl⟩:=rv;rw[D.eq.eq_def];exact .str_str _ _ _ _
  |@tup b ys es eb g=>cases rv;rw[D.eq.eq_def];obtain⟨_,_,P,_⟩:=I.tuple eb;exact .str_tuple _ _ P q
  |@lst b ys es eb g=>cases rv;rw[D.eq.eq_def];obtain⟨_,_,P,_⟩:=I.list eb;exact .str_list _ _ P.isList q
 |@tup a xs ds ea r=>
  cases C;obtain⟨us,J,p,_⟩:=I.tuple ea;cases id he with
  |non => cases rv;rw[D.eq.eq_def];exact .tuple_none p q
  |bl h=>cases rv;rw[D.eq.eq_def];exact .tuple_bool _ p q
  |int h=>obtain⟨_,rfl⟩:=rv;rw[D.eq.eq_def];exact .tuple_int _ _ p q
  |str h=>obtain⟨_,rfl⟩:=rv;rw[D.eq.eq_def];exact .tuple_str _ _ p q
  |@tup b ys es eb g=>
   cases rv;obtain⟨vs,w,P,_⟩:=I.tuple eb;rw[D.depth] at hn;obtain⟨n,rfl⟩:∃m,n=m+1:=⟨n-1,by lia⟩
   rw[D.eq.eq_def];simp only[];rw[D.eu];have Q:us.toArray.size=ds.length:=by rw[Nk,<-J.length,r.len]
   have U:vs.toArray.size=es.length:=by rw[Nk,<-w.length,g.len]
   rw[<-Q,<-U];exact .tuples p P q (hV I (fD I n) B (by lia) r g J w)
  |@lst b ys es eb g=>cases rv;rw[D.eq.eq_def];obtain⟨_,_,P,_⟩:=I.list eb;exact .tuple_list p P.isList q
 |@lst a xs ds ea r=>
  cases C;obtain⟨us,J,p,_⟩:=I.list ea;cases id he with
  |non => cases rv;rw[D.eq.eq_def];exact .list_none p.isList q
  |bl h=>cases rv;rw[D.eq.eq_def];exact .list_bool _ p.isList q
  |int h=>obtain⟨_,rfl⟩:=rv;rw[D.eq.eq_def];exact .list_int _ _ p.isList q
  |str h=>obtain⟨_,rfl⟩:=rv;rw[D.eq.eq_def];exact .list_str _ _ p.isList q
  |@tup b ys es eb g=>cases rv;rw[D.eq.eq_def];obtain⟨_,_,P,_⟩:=I.tuple eb;exact .list_tuple p.isList P q
  |@lst b ys es eb g=>
   cases rv;obtain⟨vs,w,P,_⟩:=I.list eb;rw[D.depth] at hn;obtain⟨n,rfl⟩:∃m,n=m+1:=⟨n-1,by lia⟩
   rw[D.eq.eq_def];simp only[];rw[D.eu];have Q:us.toArray.size=ds.length:=by rw[Nk,<-J.length,r.len]
   have U:vs.toArray.size=es.length:=by rw[Nk,<-w.length,g.len]
   rw[<-Q,<-U];by_cases hl:us.toArray.size=vs.toArray.size
   .have G:(us.toArray.size==vs.toArray.size)=true:=beq_iff_eq.mpr hl;rw[G,Td,<-hl,Tx];exact .lists p.isList P.isList hl q (hV I (fD I n) B (by lia) r g J w)
   .have G:(us.toArray.size==vs.toArray.size)=false:=beq_eq_false_iff_ne.mpr hl;rw[G,P5];exact .lists_lengths p.isList P.isList (by simpa using hl) q
def JV(K:Nh):R2:=λx y H Q=>∃d e,Den K H x d/\Den K H y e/\D.depth d<=40/\Q (.bl (D.eq d e)) H
def HU(K:Nh):R2:=λx y H Q=>∃d e,Den K H x d/\Den K H y e/\D.depth d<=40/\Q (.bl (!D.eq d e)) H
theorem yt(B:X.A.units+64<cLine):fG X (compareOp .Eq) (JV X.K):=by intro pins s Y H x y v u Q I o z h;obtain⟨d,e,hd,he,dp,q⟩:=h;exact yy I (n:=64) B (by lia) hd he o z _ _ _ _ ⟨.bl _,H,I,rfl,q⟩
theorem yK(B:X.A.units+64<cLine):fG X (compareOp .NotEq) (HU X.K):=by intro pins s Y H x y v u Q I o z h;obtain⟨d,e,hd,he,dp,q⟩:=h;exact qg I (n:=64) B (by lia) hd he o z _ _ _ _ ⟨.bl _,H,I,rfl,q⟩
inductive AR(K:Nh)(H:Hp):V->Value->Prop where
 |of{v:V}{t:Value}(h:i7 K H v t):AR K H v t
 |tup{a:Addr}{xs:List V}(e:cQ K H a xs):AR K H (.ref a) (.type "tuple")
 |lst{a:Addr}{xs:List V}(e:fo K H a xs):AR K H (.ref a) (.type "list")
 |exc{a C:Addr}(e:H a=some (Fq a C))(c:jQ K C):AR K H (.ref a) (.ref C)
 |dic{a:Addr}{kvs:List (Key×V)}(e:Rd H a (.dK kvs)):AR K H (.ref a) (.type "dict")
noncomputable def A0:V->Value
 | .ref a=>.ref a
 | .ty n=>.type n
 |_=>.none
noncomputable def tJ:V->Bool
 | .ref _=>true
 | .ty _=>true
 |_=>false
theorem B3{x:V}(h:tJ x=true)(r:RelV x u):u=A0 x:=by cases x<;>first|exact r|cases h
theorem qd{pins:List (Addr×Obj)}{Y:St}{x:V}{t:Value}(I:Inv X pins Y H s)(A:RelV x u)(ty:AR X.K H x t):∃P,PySem.W.KitX X.K u t P/\P s.heap/\u≠.builtin "__main__.__loader__#opaque" := by
 cases ty with
 |tup e=>cases A;obtain⟨_,_,⟨o,h1,h2,_⟩,_⟩:=I.tuple e;exact⟨_,Tz,⟨o,h1,h2⟩,λz=>nomatch z⟩
 |lst e=>cases A;obtain⟨_,_,⟨o,_,h1,h2,_⟩,_⟩:=I.list e;exact⟨_,RO,⟨o,h1,h2⟩,λz=>nomatch z⟩
 |dic e=>cases A;obtain⟨_,_,vs,_,o,es,ep,h1,h2,_⟩:=tW I.hok e;exact⟨_,RP,⟨o,h1,h2.1⟩,λz=>nomatch z⟩
 |exc e c=>
  cases A;obtain⟨p,_⟩:=(show bj X.prog X.w H s.heap _ (Fq _ _) from I.hok _ _ e)
  exact⟨_,yT c,p,λz=>nomatch z⟩
 |of h=>
  cases h with
  |non=>cases A;exact⟨_,PySem.W.kitx_none,trivial,λz=>nomatch z⟩
  |bl y=>cases A;exact⟨_,PySem.W.kitx_bool,trivial,λz=>nomatch z⟩
  |int i=>obtain⟨_,rfl⟩:=A;exact⟨_,PySem.W.kitx_int,trivial,λz=>nomatch z⟩
  |str i=>obtain⟨_,rfl⟩:=A;exact⟨_,PySem.W.kitx_str,trivial,λz=>nomatch z⟩
  |flt i=>obtain⟨_,rfl⟩:=A;exact⟨_,PySem.W.kitx_float,trivial,λz=>nomatch z⟩
  |@lst a xs ea=>
   cases A;obtain⟨_,_,n,_,h1⟩:=(show bj X.prog X.w H s.heap a (.lst xs) from I.hok a _ ea)
   exact⟨_,RO,⟨_,h1,rfl⟩,λz=>nomatch z⟩
  |@frz a ob xs ea=>
   cases A;obtain⟨_,_,_,n,_,h1⟩:=(show bj X.prog X.w H s.heap a (.frz ob (.lst xs)) from I.hok a _ ea)
   exact⟨_,RO,⟨_,h1,rfl⟩,λz=>nomatch z⟩
  |@tup a xs ea=>
   cases A;obtain⟨_,_,_,o,h1,h2,_⟩:=(show bj X.prog X.w H s.heap a (.tup xs) from I.hok a _ ea)
   exact⟨_,Tz,⟨o,h1,h2⟩,λz=>nomatch z⟩
  |@dK a kvs ea=>
   cases A;obtain⟨_,_,vs,_,o,es,ep,h1,h2,_⟩:=(show bj X.prog X.w H s.heap a (.dK kvs) from I.hok a _ ea)
   exact⟨_,RP,⟨o,h1,h2.1⟩,λz=>nomatch z⟩
  |@dT a kvs ea=>
   cases A;obtain⟨_,_,xs,_,o,es,ep,h1,h2,_⟩:=(show bj X.prog X.w H s.heap a (.dT kvs) from I.hok a _ ea)
   exact⟨_,RP,⟨o,h1,h2.1⟩,λz=>nomatch z⟩
  |@ins a C dx fs ea cl ha hn htk hm=>cases A;obtain⟨mA,O,_⟩:=Ab I.hok ea;obtain⟨od,J,_⟩:=O.look;exact⟨_,PySem.W.kitx_own (cl.get _) cl.hd ha hn htk hm,J,λz=>nomatch z⟩
theorem v5:dy X (.builtin "isinstance") (λxs H Q=>∃x c t b,xs=[x,c]/\AR X.K H x t/\tJ c=true/\O6 X.K t (A0 c)=some b/\Q (.bl b) H):=by intro pins s Y H xs us Q I r h;obtain⟨x,c,t,b,rfl,ty,hc,hk,q⟩:=h;obtain⟨u,e,rfl,C,a⟩:=vals2 r;rw[B3 hc a];obtain⟨P,Z,p,nb⟩:=qd I C ty;exact PySem.W.kia_one Z I.Cm p hk nb λtk=>⟨.bl b,H,I.tok tk,rfl,q⟩
end
theorem Ew:bootBuiltins "len" = some (.builtin "len"):=by decide +kernel
theorem kG:bootBuiltins "isinstance" = some (.builtin "isinstance"):=by decide +kernel
theorem G6:bootBuiltins "abs" = some (.builtin "abs"):=by decide +kernel
theorem Ex:bootBuiltins "max" = some (.builtin "max"):=by decide +kernel
theorem xf:bootBuiltins "min" = some (.builtin "min"):=by decide +kernel
theorem k9:bootBuiltins "sorted" = some (.builtin "sorted"):=by decide +kernel
theorem xo:bootBuiltins "int" = some (.type "int"):=by decide +kernel
theorem Aq:bootBuiltins "bool" = some (.type "bool"):=by decide +kernel
theorem DK:bootBuiltins "str" = some (.type "str"):=by decide +kernel
theorem xm:bootBuiltins "tuple" = some (.type "tuple"):=by decide +kernel
theorem rW:bootBuiltins "list" = some (.type "list"):=by decide +kernel
theorem Ca:bootBuiltins "dict" = some (.type "dict"):=by decide +kernel
theorem GJ:bootBuiltins "set" = some (.type "set"):=by decide +kernel
structure nk(K:Nh)(x qual:Str)(st:Stmt)(f:Addr)(fd:FuncData)(dV:Value):Prop where
 ex:∃(oc:Value)(od:Option Addr)(kV doc pm:Value)(an:Option Addr)(cdv ct:Value)(osl:Array (Option Value)),
  fd=RL x qual (cC st) (dr st) (aN st) dV kV doc pm an cdv ct/\K.lookup f=some ⟨oc,od,.func fd,osl⟩/\Ri K cdv qual=true
 kp:O4 K (.ref f)=true
@[irreducible] def QS (X:Cx) (s:Stmt) (t:TS):Prop:=PS X s t
@[irreducible] def QT (X:Cx) (s:Expr) (t:TT):Prop:=PT X s t
@[irreducible] def QA (X:Cx) (s:List Expr) (t:TA):Prop:=PA X s t
set_option autoImplicit true
set_option relaxedAutoImplicit true
variable{elt:Expr}{scope:Scope}{pos:Pos}{env:Env}
section
variable{prog:Program}{w:World}{A:Around}{R:Result->Shared->Prop}{s:Shared}
theorem mE{X iter:Expr}{ifs:List Expr}{it acc:Value}(I:Nat->Shared->Prop)
  (o:∀n s,I n s->wpAny (model prog w) A (pyNext it) (λr Z=>match r with
   |none=>R (.ok .next) Z
   | some v=>wpAny (model prog w) A (letOwnedTupleGo X it v) (λ_ p=>wpAny (model prog w) A (assign X env v) (λ_ U=>
     wpAny (model prog w) A (forIn ifs true λc r=>if r=true then do let ok <- isTrue c env (eval c env);pure (Pz ok) else pure (Pz r)) (λok P=>
      if ok=true then wpAny (model prog w) A (eval elt env) (λx y=>wpAny (model prog w) A (call (.builtin "list.append") [acc,x]) (λ_ D=>∃m,m<n/\I m D) (λ_ _=>False) y) (λ_ _=>False) P
      else ∃m,m<n/\I m P) (λ_ _=>False) U) (λ_ _=>False) p) (λ_ _=>False) Z) (λ_ _=>False) s)
  (n:Nat) (h:I n s):codeAny (model prog w) A (.compLoop (.ListComp elt [⟨X,iter,ifs,0⟩] scope pos) 0 it acc env) R s:=by
 refine codeAny_loop rfl I (λn s i=>?_) n h;show wpAny _ A ((compTurn (.ListComp elt [⟨X,iter,ifs,0⟩] scope pos) 0 it acc env).onRaise (λx=>do noteFrame x env;theTreesLotGoes x)) _ _ s;refine wpAny_noted ?_;rw[compTurn_list];refine wpAny_bind (wpAny_standAt (wpAny_bind (wpAny_mono (o n s i) (λr Z O=>?_) λ_ _ h'=>h'.elim)));cases r with
 |none=>exact wpAny_pure O
 |some v=>
  refine wpAny_bind (wpAny_mono O (λ_ p K=>?_) λ_ _ h'=>h'.elim);refine wpAny_bind (wpAny_mono K (λ_ U Y=>wpAny_bind (wpAny_mono Y (λok P H=>?_) λ_ _ h'=>h'.elim)) λ_ _ h'=>h'.elim);cases ok with
  |false=>exact wpAny_pure ⟨rfl,H⟩
  |true=>exact wpAny_bind (wpAny_bind (wpAny_mono H (λx y b=>wpAny_bind (wpAny_mono b (λ_ D e=>wpAny_pure (wpAny_pure ⟨rfl,e⟩)) λ_ _ h'=>h'.elim)) λ_ _ h'=>h'.elim))
end
theorem jB{env:Env}{f:Str×NameKind->List (Str×Addr)->Sem (ForInStep (List (Str×Addr)))}
  (hf:∀x cs,f x cs=if (x.2==P7)=true then (do let c <- cellOf env x.1;pure (Pz ((x.1,c)::cs))) else pure (Pz cs)):
  ∀(l:List (Str×NameKind))(cs:List (Str×Addr)),(∀x∈l,x.2=.free->∃c,env.cells.lookup x.1=some c)->
   ∃cl,forIn l cs f=(pure cl:Sem _)/\(∀x c,cl.lookup x=some c->cs.lookup x=some c\/env.cells.lookup x=some c) /\
    (∀x,(∃c,cs.lookup x=some c)\/(x,P7)∈l->∃c,cl.lookup x=some c)
 |[],cs,_=>⟨cs,rfl,λ_ _ h=>.inl h,λx h=>h.elim id (λz=>by cases z)⟩
 |(n,k)::l,cs,h=>by
  rw[Sw,hf];by_cases hk:k=.free
  .subst hk;obtain⟨c,hc⟩:=h (n,.free) Nu rfl;obtain⟨cl,e,h1,h2⟩:=jB hf l ((n,c)::cs) λx hx=>h x (Nt _ hx);refine⟨cl,?_,λx j q=>?_,λx q=>h2 x ?_⟩
   .have D:cellOf env n=pure c:=by unfold cellOf;rw[hc]
    simp only[beq_self_eq_true,if_true,D,pure_bind];exact e
   .rcases h1 x j q with z|z
    .rw[OC] at z;by_cases hx:(x==n)=true
     .rw[hx] at z;have:x=n:=eq_of_beq hx;subst this;exact .inr (by rw[hc];exact z)
     .rw[Pn.mpr hx] at z;exact .inl z
    .exact .inr z
   .rcases q with ⟨j,z⟩|z
    .left;rw[OC];cases x==n with
     |true=>exact⟨c,rfl⟩
     |false=>exact⟨j,z⟩
    .rcases ND.mp z with z|z
     .left;cases z;rw[OC,beq_self_eq_true];exact⟨c,rfl⟩
     .exact .inr z
  .obtain⟨cl,e,h1,h2⟩:=jB hf l cs λx hx=>h x (Nt _ hx);refine⟨cl,?_,h1,λx q=>h2 x ?_⟩
   .have D:((n,k).2==P7)=false:=by cases k<;>first|rfl|exact absurd rfl hk
    rw[D];simp only[NY,if_false,pure_bind];exact e
   .rcases q with z|z
    .exact .inl z
    .rcases ND.mp z with z|z
     .cases z;exact absurd rfl hk
     .exact .inr z
theorem qL(h:∀x∈scope.names,x.2=.free->∃c,env.cells.lookup x.1=some c):
  ∃cl,closureFor scope env=pure cl/\(∀x c,cl.lookup x=some c->env.cells.lookup x=some c)/\(∀x,(x,P7)∈scope.names->∃c,cl.lookup x=some c):=by
 obtain⟨cl,e,h1,h2⟩:=jB (env:=env) (λ_ _=>rfl) scope.names [] h;refine⟨cl,?_,λx c q=>(h1 x c q).elim (λz=>by cases z) id,λx q=>h2 x (.inr q)⟩;unfold closureFor;exact(congrArg (λz:Sem (List (Str×Addr))=>z >>= λr=>pure r) e).trans (by rw[pure_bind])
section
variable{env:Env}
noncomputable def oQ(env:Env):Str×NameKind->Str×NameKind:=λ(n,k)=>if (k==.free&&env.scope.kind==.function&&env.kindOf n==some .cell) then (n,.cell) else (n,k)
theorem oI(p:Str×NameKind):(oQ env p).1=p.1:=by obtain⟨n,k⟩:=p;show (if _ then _ else _:Str×NameKind).1=n;split<;>rfl
theorem oR(p:Str×NameKind):(oQ env p).2=p.2\/(p.2=.free/\(oQ env p).2=.cell):=by
 obtain⟨n,k⟩:=p;show (if _ then _ else _:Str×NameKind).2=k\/_;split
 .rename_i h;right;rw[Ni,Ni] at h;refine⟨eq_of_beq h.1.1,?_⟩;show (if _ then _ else _:Str×NameKind).2=_;rw[if_pos (by rw[Ni,Ni];exact h)]
 .left;rfl
theorem dD:∀{names:List (Str×NameKind)}{x:Str}{k:NameKind},names.lookup x=some k->(names.map (oQ env)).lookup x=some k\/(k=.free/\(names.map (oQ env)).lookup x=some .cell)
 |[],_,_,h=>by cases h
 |p::r,x,k,h=>by
  rw[NK];obtain⟨n,s⟩:=p;have D:=oI (env:=env) (n,s);have F:=oR (env:=env) (n,s);generalize oQ env (n,s)=q at D F ⊢;obtain⟨n',I⟩:=q;have D:n'=n:=D;subst D;rw[OC] at h ⊢;cases hx:x==n' with
  |true=>
   rw[hx] at h;cases h;rcases F with F|⟨F,O⟩
   .left;exact congrArg some F
   .right;exact⟨F,congrArg some O⟩
  |false=>rw[hx] at h;exact dD h
theorem bF:∀{names:List (Str×NameKind)}{x:Str}{k:NameKind},(names.map (oQ env)).lookup x=some k->names.lookup x=some k\/(k=.cell/\names.lookup x=some .free)
 |[],_,_,h=>by cases h
 |p::r,x,k,h=>by
  rw[NK] at h;obtain⟨n,s⟩:=p;have D:=oI (env:=env) (n,s);have F:=oR (env:=env) (n,s);generalize oQ env (n,s)=q at D F h;obtain⟨n',I⟩:=q;have D:n'=n:=D;subst D;rw[OC] at h ⊢;cases hx:x==n' with
  |true=>
   rw[hx] at h;cases h;rcases F with F|⟨F,O⟩
   .left;exact congrArg some F.symm
   .right;exact⟨O,congrArg some F⟩
  |false=>rw[hx] at h;exact bF h
theorem fP{sc:Scope}{x:Str}(h:sc.names.lookup x=some .local):(relabel sc env).names.lookup x=some .local:=by
 rcases dD (env:=env) h with z|⟨z,_⟩
 .exact z
 .cases z
theorem yZ{sc:Scope}{x:Str}(h:sc.names.lookup x=some .globalImplicit):(relabel sc env).names.lookup x=some .globalImplicit:=by
 rcases dD (env:=env) h with z|⟨z,_⟩
 .exact z
 .cases z
theorem pf{sc:Scope}{x:Str}(h:sc.names.lookup x=some .free):pH (relabel sc env) x:=by
 rcases dD (env:=env) h with z|⟨_,z⟩
 .exact .inr (.inr z)
 .exact .inr (.inl z)
end
structure eG(N0 N:List Str)(k:Nat)(sc de:Scope):Prop where
 kind:sc.kind=.function
 cell:∀y∈sc.names,y.2≠.cell
 names:∀y∈sc.names,y.2=.local->sc.names.lookup y.1=some .local
 len:N.length=N0.length+k
 nd:N.Nodup
 old:∀p∈(N.take N0.length).zip N0,p.1=p.2\/sc.names.lookup p.1=none
 nl:∀n∈N.take N0.length,sc.names.lookup n≠some .local
 fr:∀y∈sc.names,y.2=.free->de.names.lookup y.1=some .cell\/de.names.lookup y.1=some .free
noncomputable def gr(X:Cx)(N:List Str)(sc:Scope)(cl:List (Str×Addr))(C:Addr)(s:Shared)(H:Hp)(ex:List Addr):Cx where
 prog:=X.prog
 w:=X.w
 K:=X.K
 mg:=X.mg
 base:=X.base
 A:=X.A
 N:=N
 s₀:=s
 H₀:=H
 env:=compEnvC sc cl C X.env
 outer:=X.stack
 stack:=X.stack
 ex:=ex
 fn:=λ_=>false
 calm:=X.calm
 pn:=[]
 xe:=λ_ _=>False
theorem mem_of_lookupK{names:List (Str×NameKind)}{x:Str}{k:NameKind}(h:names.lookup x=some k):(x,k)∈names:=Pw h
section
variable{X:Cx}{pins:List (Addr×Obj)}{Y:St}{H:Hp}{s:Shared}{N:List Str}{k:Nat}{sc:Scope}{cl:List (Str×Addr)}{C:Addr}{fp:List Addr}{h1:Heap}{tk:Nat}
theorem yH(I:Inv X pins Y H s)(S:eG X.N N k sc X.env.scope)(K:∀x c,cl.lookup x=some c->X.env.cells.lookup x=some c)
  (L:∀x,(x,P7)∈sc.names->∃c,cl.lookup x=some c)(J:s.heap.objs.size<=C)(hf:∀b∈fp,j9 X pins H b)(P:∀b∈fp,b<s.heap.objs.size)
  (hk:∀b o,s.heap.get? b=some o->h1.get? b=some o)(hn:∃m,h1.Ns C m):
  Inv (gr X N sc cl C s H fp) (X.pn++pins) (Y++Oc k none) H { s with heap:=h1,toks:=tk }:=by
 have Z:∀b o,s.heap.get? b=some o->b≠C:=λb o e=>NR (Nn (Nz e) J);have kind:∀x,((gr X N sc cl C s H fp).env.kindOf x=some .cell\/(gr X N sc cl C s H fp).env.kindOf x=some .free)->sc.names.lookup x=some .free:=λx hx=>by
  rcases hx with hx|hx
  .rcases bF (env:=X.env) hx with z|⟨_,z⟩
   .exact absurd rfl (S.cell _ (mem_of_lookupK z))
   .exact z
  .rcases bF (env:=X.env) hx with z|⟨z,_⟩
   .exact z
   .cases z
 refine⟨⟨I.ok.mod,S.kind,I.ok.glob,I.ok.blt,J,λx y c h1 h2=>I.ok.inj x y c (K _ _ h1) (K _ _ h2),λx hx=>L x (mem_of_lookupK (kind x hx)),λx c z _=>absurd (show false=true from z) Og,
  I.ok.hd,I.ok.frames,.inl rfl,λb hb=>⟨NR (Nn (P b hb) J),λx c e=>(hf b hb).2.2.2.2.1 x c (K _ _ e)⟩,I.bs,N5 I.ok.bsz I.sz,λb o e hb=>?_,λb hb Q=>?_,I.stack,I.tm⟩,
  rfl,I.bare,Un.kept hk,?_,λx c e=>?_,I.hok.fresh J,λx c e=>I.freeC x c (K _ _ e),λp hp=>?_,I.hok.kept hk,?_⟩
 .rcases(hf b hb).2.2.2.1 with z|z
  .exact I.ok.noex b o e z
  .exact absurd (Nn (Nz e) (N5 I.ok.bsz z)) (OE _)
 .rcases ND.mp (I.ip b Q) with z|z
  .exact(hf b hb).2.1 z
  .exact(hf b hb).2.2.1 z
 .obtain⟨m,hn⟩:=hn;refine⟨m,hn,λi x v D F O=>?_⟩;have hi:i<Y.length:=by
   by_cases hi:i<Y.length
   .exact hi
   .rw[Oa (by lia),Tp] at F;split at F<;>cases F
  rw[Ob hi] at F;have a:i<X.N.length:=by rw[<-I.len];exact hi
  have h:(N.take X.N.length)[i]?=some x:=by rw[QZ a];exact D
  have q:=S.nl x (NV h);have A:sc.names.lookup x=some .free:=by
   rcases O with z|z|z
   .rcases bF (env:=X.env) z with z|⟨z,_⟩
    .exact absurd z q
    .cases z
   .exact kind x (.inl z)
   .exact kind x (.inr z)
  have t:X.N[i]?=some x:=by
   have hz:((N.take X.N.length).zip X.N)[i]?=some (x,X.N[i]):=by rw[List.getElem?_zip_eq_some];exact⟨h,Nx a⟩
   rcases S.old _ (NV hz) with z|z
   .have z:x=X.N[i]:=z;rw[Nx a,<-z]
   .have z:sc.names.lookup x=none:=z;rw[A] at z;cases z
  obtain⟨B,E,U⟩:=I.loc;have f:pH X.env.scope x:=by
   rcases S.fr _ (mem_of_lookupK A) rfl with z | z
   .exact .inr (.inl z)
   .exact .inr (.inr z)
  obtain⟨u,r,l⟩:=U i x v t F f;refine⟨u,r,.inr ⟨?_,?_⟩⟩
  .rcases pf (env:=X.env) A with z|z|z
   .rcases bF (env:=X.env) z with z|⟨z,_⟩
    .rw[A] at z;cases z
    .cases z
   .exact .inl z
   .exact .inr z
  .rcases l with ⟨z,_⟩|⟨_,c,G,g⟩
   .have z:X.env.scope.names.lookup x=some .local:=z;rcases S.fr _ (mem_of_lookupK A) rfl with T|T
    .have T:X.env.scope.names.lookup x=some .cell:=T;rw[z] at T;cases T
    .have T:X.env.scope.names.lookup x=some .free:=T;rw[z] at T;cases T
   .obtain⟨R,w⟩:=L x (mem_of_lookupK A);have:=K _ _ w;rw[G] at this;cases this;obtain⟨o,ho,hd⟩:=g;exact⟨c,w,o,hk _ _ ho,hd⟩
 .obtain⟨v,o,ho,hd⟩:=I.cell x c (K _ _ e);exact⟨v,o,hk _ _ ho,hd⟩
 .have hp:p∈X.pn++pins:=hp;obtain⟨e,n,ne,j,d⟩:=I.pin p hp;refine⟨hk _ _ e,n,Z _ _ e,λhb=>?_,d⟩;rcases ND.mp (I.ip _ hb) with z|z
  .exact ne z
  .exact j z
 .show (Y++Oc k none).length=N.length;rw[Ny,Tv,I.len,S.len]
theorem vR{H':Hp}{Z':St}{s':Shared}{D:Addr}{g:List Value}(I:Inv X pins Y H s)(a:Inv (gr X N sc cl C s H fp) (X.pn++pins) Z' H' s')(h:s.heap.objs.size<=D)(m:H' D=none)
  (pl:s'.heap.PlainList D g.toArray)(rv:Vals ys g)(hl:ys.length<=sizeLine)(hf:∀b∈fp,j9 X pins H b):Inv X pins Y (upd H' D (.lst ys)) s':=by
 obtain⟨n,p⟩:=pl;have u:=a.base;have ne:∀b o,s.heap.get? b=some o->b≠D:=λb o e=>NR (Nn (Nz e) h);have l:∀b o,H' b=some o->b≠D:=λb o e=>aH e m;refine I.IQ a.os ⟨u.keep,u.slot,λb o e n nx=>?_,u.there,λb xs e=>?_,λb o v e=>?_,λb ps e=>?_⟩ (λb o e=>?_) a.bare (ch:=fp) λb hb=>?_
 .rw[aE (ne b o e)];exact u.free b o e n nx
 .have:=u.tups b xs e;rw[aE (l _ _ this)];exact this
 .have:=u.frzs b o v e;rw[aE (l _ _ this)];exact this
 .obtain⟨more,this⟩:=u.tbls b ps e;exact⟨more,by rw[aE (l _ _ this)];exact this⟩
 .by_cases hb:b=D
  .subst hb;rw[bT] at e;cases e;exact⟨hl,g,n,rv,p⟩
  .rw[aE hb] at e;exact(a.hok b o e).q5 (λ_ _ _ q=>q) (λc q=>by rw[aE (l _ _ q)];exact q) λc xs q=>by rw[aE (l _ _ q)];exact q
 .obtain⟨y,x,G,r,t,A⟩:=hf b hb;exact⟨r,x,t,A⟩
end
variable{X:Cx}{pins:List (Addr×Obj)}{s:Shared}
theorem Inv.qA{Y:St}(I:Inv X pins Y H s){a:Addr}(h:s.heap.objs.size<=a):a∉jo X.stack:=λhb=>by
 rcases ND.mp (I.ip a hb) with z|z
 .exact absurd (Nn I.lt (by rw[<-z];exact h)) (OE _)
 .exact I.IE h z
def PF(X:Cx)(ifs:List Expr)(t:TT):Prop:=∀(pins:List (Addr×Obj))(s:Shared)(Y:St)(H:Hp)(Q:Bool->Hp->Prop),Inv X pins Y H s->t Y H Q->
 wpAny (model X.prog X.w) X.A (forIn ifs true λc r=>if r=true then do let ok <- isTrue c X.env (eval c X.env);pure (Pz ok) else pure (Pz r)) (TP X pins Y Q) X.xe s
noncomputable def Ig:TT:=λ_ H Q=>Q true H
theorem DP:PF X [] Ig:=λ_ _ _ H _ I h=>wpAny_tests_nil ⟨H,I,h⟩
theorem Fi{c:Expr}{t:TT}(hc:PT X c t):PF X [c] t:=λpins s Y H Q I h=>wpAny_tests_one (hc pins s Y H Q I h)
def vw(J:It)(g:TG)(X:TT)(u:TE)(Q:VK)(Y:St)(H:Hp):Prop:=∃W:Nat->Nat->St->List V->Hp->Prop,(∃m,W 0 m Y [] H)/\∀i m Y ys H,W i m Y ys H->ys.length<=sizeLine /\
  ((J.stop i H/\∀r,H r=none->Q (.ref r) (upd H r (.lst ys))) \/
   (J.go i H/\∃N:St->List V->Hp->Prop,(∀Z' n H',N Z' n H'->∃P,P<m/\W (i+1) P Z' n H') /\
     ∀x H',J.iX i H x H'->g x Y H' λT S=>X T S λb t=>if b=true then u T t λy c=>N T (ys++[y]) c else N T ys t))
noncomputable def yf(n:Nat)(I:TI)(g:TG)(X:TT)(u:TE):TE:=λY H Q=>I Y H λJ T=>vw J g X u Q (Y++Oc n none) T
section
variable{X:Cx}{pins:List (Addr×Obj)}{Y:St}{H:Hp}{s:Shared}{N:List Str}{k:Nat}{sc:Scope}{cl:List (Str×Addr)}{C:Addr}{fp:List Addr}{J:It}{it:Addr}{tn:Nat->Heap->Prop}
 {tg elt iter:Expr} {ifs:List Expr} {pos:Pos} {g:TG} {tt:TT} {te:TE} {Q:VK} {E:Value->Shared->Prop} {RR:Value->Addr->Result->Shared->Prop}
theorem kl(hc:X.calm=true)(S:eG X.N N k sc X.env.scope)(f:∀x c,cl.lookup x=some c->X.env.cells.lookup x=some c)
  (hcl2:∀x,(x,P7)∈sc.names->∃c,cl.lookup x=some c)(I:Inv X pins Y H s)(T:Turn X.prog X.w X.K tg J fp it tn)(st:tn 0 s.heap)(hf:∀b∈fp,j9 X pins H b)
  (B:vw J g tt te Q (Y++Oc k none) H)
  (hg:∀C,PG (gr X N sc cl C s H fp) tg g)(ht:∀C,PF (gr X N sc cl C s H fp) ifs tt)(he:∀C,PE (gr X N sc cl C s H fp) elt te)
  (hRR:∀D C s' H' ys,Inv X pins Y (upd H' D (.lst ys)) s'->s.heap.objs.size<=C->upd H' D (.lst ys) C=none->(∃m,s'.heap.Ns C m)->Q (.ref D) (upd H' D (.lst ys))->RR (.ref D) C (.ok .next) s'):
  wpAny (model X.prog X.w) X.A (newList []) (λacc P=>wpAny (model X.prog X.w) X.A (newFunctionEnv sc X.env.globals cl [] X.env.qual none .none (some X.env)) (λj s₄=>codeAny (model X.prog X.w) X.A (.compStart (.ListComp elt [⟨tg,iter,ifs,0⟩] sc pos) 0 (.ref it) acc { j with scope:=relabel sc X.env }) (RR acc j.locals) s₄) E P) E s:=by
 refine wpAny_newObj_type (wpAny_newFunctionEnv S.cell (by intro y hy;simp at hy) (λO U Z=>?_) S.kind);dsimp only at U Z ⊢;generalize hH2:s.heap.push { cls:=.type "list",dict:=none,data:=.seq ([]:List Value).toArray }=H2 at U Z ⊢;have hC:H2.objs.size=s.heap.objs.size+1:=by rw[<-hH2,SN]
 have a:s.heap.objs.size≠H2.objs.size:=by rw[hC];exact NR (Qa _)
 have L:s.heap.objs.size<=H2.objs.size:=by rw[hC];exact Q0 _
 have below:∀b,b<s.heap.objs.size->b≠H2.objs.size/\b≠s.heap.objs.size:=λb hb=>⟨by rw[hC];exact NR (O9 hb),NR hb⟩
 have old:∀b o,s.heap.get? b=some o->O.get? b=some o:=λb o e=>Z.extBut b o (below b (Nz e)).1 (Nm _ (hH2▸Nm _ e));have hacc:O.PlainList s.heap.objs.size #[]:=⟨_,Z.extBut _ _ a (Nm _ (hH2▸NH _ rfl))⟩
 have h:∀b∈fp,b<s.heap.objs.size:=λb hb=>let ⟨o,e,_⟩:=T.obj 0 _ st b hb;Nz e
 have st1:tn 0 O:=T.keep _ _ _ st λb hb o e=>old b o e;have I0:=yH (tk:=s.toks+([]:List (Str×Value)).length) I S f hcl2 L hf h old ⟨_,U⟩;generalize H2.objs.size=C at U Z hC a L below I0 ⊢;generalize hD:s.heap.objs.size=D at hC a L below hacc h ⊢;have l:s.heap.objs.size<=D:=by rw[hD];exact Nr _
 have t:∀{H':Hp}{o:Obj},(∀b∈fp,H' b=none)->∀b∈fp,j9 (gr X N sc cl C s H fp) ((X.pn++pins)++[(D,o)]) H' b:=λ{H' o} hn b hb=>by
  obtain⟨f0,f1,f2,f3,f4,f5⟩:=hf b hb;refine⟨hn b hb,(below b (h b hb)).1,λz=>?_,.inl hb,λx c e=>f4 x c (f _ _ e),λp hp=>?_⟩
  .rcases ND.mp (I.ip b z) with z|z
   .exact f1 z
   .exact f2 z
  .have hp:p∈(X.pn++pins)++[(D,o)]:=hp;rcases Nv.mp hp with z|z
   .exact f5 p z
   .have:p=(D,o):=by simpa using z
    rw[this];exact Pa (below b (h b hb)).2
 have loop:∀P:Shared,P={ s with heap:=O,toks:=s.toks+([]:List (Str×Value)).length }->
   codeAny (model X.prog X.w) X.A (.compLoop (.ListComp elt [⟨tg,iter,ifs,0⟩] sc pos) 0 (.ref it) (.ref D) (compEnvC sc cl C X.env)) (RR (.ref D) C) P:=by
  rintro P rfl;obtain⟨W,⟨m0,w0⟩,step⟩:=B;refine mE (λn s'=>∃i Z' H' ys F,Inv (gr X N sc cl C s H fp) (X.pn++pins) Z' H' s'/\tn i s'.heap/\(∀b∈fp,H' b=none)/\H' D=none/\s'.heap.PlainList D (F:List Value).toArray/\Vals ys F/\W i n Z' ys H') ?_ m0
   ⟨0,_,H,[],[],I0,st1,λb hb=>(hf b hb).1,I.hok.fresh l,hacc,.nil,w0⟩
  rintro n s3 ⟨i,V,H3,ys,F,I3,st3,fr3,hD3,⟨nn,pl3⟩,G,w3⟩;obtain⟨hl,cs⟩:=step i n V ys H3 w3;have pinD:∀{Z':St}{H':Hp}{s':Shared}{o:Obj},Inv (gr X N sc cl C s H fp) (X.pn++pins) Z' H' s'->H' D=none->s'.heap.get? D=some o->(∀v,o.data≠.cell v)->Inv (gr X N sc cl C s H fp) ((X.pn++pins)++[(D,o)]) Z' H' s':=λ{Z' H' s' o} I' hn e d=>
   I'.mq λp hp=>(Nv.mp hp).elim (λz=>I'.pin p (Nq _ z)) λz=>by
    have:p=(D,o):=by simpa using z
    subst this;exact⟨e,hn,a,λz=>I.qA l z,d⟩
  have I3p:=pinD I3 hD3 pl3 λv z=>by cases z
  rcases cs with ⟨stop,q⟩|⟨go,NN,hN,nx⟩
  .refine bA (T.done (gr X N sc cl C s H fp) rfl rfl rfl hc i _ s3 V H3 _ I3p (t fr3) st3 stop) λr s4 ⟨hr,I4⟩=>?_;subst hr;have d4:=I4.pin (D,_) (Nq _ (Nq _ (Nw.mpr rfl)));have I5:=vR I I4.cE l d4.2.1 ⟨nn,d4.1⟩ G hl hf;refine hRR D C s4 H3 ys I5 (by rw[hD];exact L) ?_ (let ⟨m,hm,_⟩:=I4.loc;⟨m,hm⟩) (q D d4.2.1);rw[aE (Pa a)];exact I4.free
  .refine bA (T.item (gr X N sc cl C s H fp) rfl rfl rfl hc i _ s3 V H3 _ I3p (t fr3) st3 go) λr s4 ⟨u,hr,h4⟩=>?_;subst hr;refine bA h4 λ_ s5 ⟨x,H5,I5,r5,y5,st5,fr5⟩=>?_;have I5':=I5.pinned (t fr5) (T.obj _ _ st5);refine bA (hg C _ s5 V H5 x u _ I5' r5 (nx x H5 y5)) λ_ s6 ⟨R,H6,I6,q6⟩=>?_;refine bA (ht C _ s6 R H6 _ I6 q6) λb s7 ⟨H7,I7,q7⟩=>?_;have itK:∀{s8:Shared}{H8:Hp},Inv (gr X N sc cl C s H fp) (((X.pn++pins)++[(D,({ cls:=.type "list",data:=.seq F.toArray nn }:Obj))])++jN fp s5.heap) R H8 s8->tn (i+1) s8.heap/\∀b∈fp,H8 b=none:=λ{s8 H8} I8=>by refine⟨T.keep _ _ _ st5 λb hb o e=>(I8.pin (b,o) (Nq _ (Nq _ (d6 hb e)))).1,λb hb=>?_⟩;obtain⟨o,e,d⟩:=T.obj _ _ st5 b hb;exact(I8.pin (b,o) (Nq _ (Nq _ (d6 hb e)))).2.1
   cases b with
   |false=>
    have q7:NN R ys H7:=by simpa using q7
    obtain⟨m',hm,w7⟩:=hN _ _ _ q7;obtain⟨t7,f7⟩:=itK I7;have d7:=I7.pin (D,_) (Nq _ (NF _ (Nq _ (Nw.mpr rfl))));show ∃m,m<n/\_;exact⟨m',hm,i+1,R,H7,ys,F,I7.cE.cE,t7,f7,d7.2.1,⟨nn,d7.1⟩,G,w7⟩
   |true=>
    have q7:te R H7 λy H4=>NN R (ys++[y]) H4:=by simpa using q7
    show wpAny _ _ _ _ _ _;refine bA (he C _ s7 R H7 _ I7 q7) λyv s8 ⟨y,H8,I8,r8,q8⟩=>?_;obtain⟨m',hm,w9⟩:=hN _ _ _ q8;obtain⟨t8,f8⟩:=itK I8;have d8:=I8.pin (D,_) (Nq _ (NF _ (Nq _ (Nw.mpr rfl))));refine wpAny_list_append_plain (hsz:=by rw[Nk,<-G.length];exact hl) ⟨nn,d8.1⟩ λh9 pl9 sb9=>?_;have I9:Inv (gr X N sc cl C s H fp) (X.pn++pins) R H8 { s8 with heap:=h9 }:=I8.cE.cE.turned (t':=s8.toks) (it:=D) (λb o hb e=>(sb9.2 b hb).trans e) d8.2.1 a (.inr l) (λx c e z=>?_) (λp hp z=>?_)
    .refine⟨m',hm,i+1,R,H8,ys++[y],F++[yv],I9,T.keep _ _ _ t8 λb hb o e=>(sb9.2 b (below b (h b hb)).2).trans e,f8,d8.2.1,?_,G.append (.cons r8 .nil),w9⟩;rw[<-List.push_toArray];exact pl9
    .obtain⟨v,q⟩:=I.cell x c (f _ _ e);exact absurd (Nn q.lt (by rw[z];exact l)) (OE _)
    .have hp:p∈X.pn++pins:=hp;exact absurd (Nn (Nz (I.pin p hp).1) (by rw[z];exact l)) (OE _)
 exact codeAny_compStart_list (loop _ rfl) (T.self _ _ _ _ _ st1 (loop _ rfl))
end
variable{h':Heap}{px:Pos}
section
variable{X:Cx}{N:List Str}{k:Nat}{sc:Scope}{tg elt iter:Expr}{ifs:List Expr}{pos:Pos}{g:TG}{tt:TT}{te:TE}{wi:TI}
theorem kf{Y:St}(I:Inv X pins Y H s)(S:eG X.N N k sc X.env.scope):
  ∃cl,closureFor sc X.env=pure cl/\(∀x c,cl.lookup x=some c->X.env.cells.lookup x=some c)/\(∀x,(x,P7)∈sc.names->∃c,cl.lookup x=some c):=
 qL λx hx e=>I.ok.has x.1 (S.fr x hx e)
theorem Inv.letGo{Y:St}{H0:Hp}{i:Shared}(n:Inv X pins Y H0 i){Z':St}(I:Inv X pins Z' H s)(J:i.heap.objs.size<=C)(hn:H C=none)(sb:Qp C s.heap h'):Inv X pins Z' H { s with heap:=h' }:=
 I.turned (t':=s.toks) (it:=C) (λb o hb e=>(sb.2 b hb).trans e) hn (P8 (Nn n.lt J)) (.inr (N5 n.sz J))
  (λx c e z=>by obtain⟨v,q⟩:=n.cell x c e;exact absurd (Nn q.lt (by rw[z];exact J)) (OE _))
  (λp hp z=>absurd (Nn (Nz (n.pin p hp).1) (by rw[z];exact J)) (OE _))
theorem zP(hc:X.calm=true)(S:eG X.N N k sc X.env.scope)(hi:PI X tg iter wi)(hg:∀cl C s H fp,PG (gr X N sc cl C s H fp) tg g)(ht:∀cl C s H fp,PF (gr X N sc cl C s H fp) ifs tt)
  (he:∀cl C s H fp,PE (gr X N sc cl C s H fp) elt te)(hs:∀x,foldedSetIterable iter X.env x=pure x:=by intro _;rfl):PE X (.ListComp elt [⟨tg,iter,ifs,0⟩] sc pos) (yf k wi g tt te):=by
 intro pins s Y H Q I h;obtain⟨cl,hclos,h1,h2⟩:=kf I S;rw[eval_ListComp];refine wpAny_comprehension_free (use:=none) rfl hs hclos S.kind S.names (bA (hi pins s Y H _ I h) λv s1 q1=>bA q1 λitv s2 q2=>?_);obtain⟨it,fp,tn,J,H2,rfl,I2,T,st2,f2,B⟩:=q2;refine kl (RR:=λacc C=>compPost (model X.prog X.w) X.A X.xe none (EP X pins Y Q) acc C) hc S h1 h2 I2 T st2 f2 B (λC=>hg cl C s2 H2 fp) (λC=>ht cl C s2 H2 fp) (λC=>he cl C s2 H2 fp) ?_;intro D C s' H' ys I' hC hn hm q;obtain⟨m,hm⟩:=hm;exact⟨m,hm,λh' sb=>⟨.ref D,_,I2.letGo I' hC hn sb,rfl,q⟩⟩
theorem Bo{i:Nat}{x:Str}{spos:Pos}(hc:X.calm=true)(S:eG X.N N k sc X.env.scope)(hN:X.N.Nodup)(hx:X.N[i]?=some x)(hl:X.env.scope.names.lookup x=some .local)
  (hsw:swapsWith (.ListComp elt [⟨tg,iter,ifs,0⟩] sc pos) (some (.Name x px)) spos.line X.env=pure true)(hi:PI X tg iter wi)(hg:∀cl C s H fp,PG (gr X N sc cl C s H fp) tg g)(ht:∀cl C s H fp,PF (gr X N sc cl C s H fp) ifs tt)
  (he:∀cl C s H fp,PE (gr X N sc cl C s H fp) elt te)(hs:∀x,foldedSetIterable iter X.env x=pure x:=by intro _;rfl):PS X (.Assign [.Name x px] (.ListComp elt [⟨tg,iter,ifs,0⟩] sc pos) spos) (zf (yf k wi g tt te) (xK i)):=by
 intro pins s Y H D0 I h;obtain⟨cl,hclos,h1,h2⟩:=kf I S;rw[exec_Assign_Name_used _ _ _ _ hsw];refine wpAny_bind (wpAny_standAt (wpAny_bind ?_));show wpAny _ X.A (do let _ <- comprehension (.ListComp elt [⟨tg,iter,ifs,0⟩] sc pos) sc X.env _ (newList []) false (eval iter X.env) (some (assign (.Name x px) X.env))) _ _ s;refine wpAny_bind (bA (wpAny_comprehension_free (use:=some (assign (.Name x px) X.env)) (Q:=λ_ s'=>SP X pins D0 .next s') rfl hs hclos S.kind S.names
  (bA (hi pins s Y H _ I h) λv s1 q1=>bA q1 λitv s2 q2=>?_)) λ_ s' hq=>wpAny_pure (wpAny_pure hq))
 obtain⟨it,fp,tn,J,H2,rfl,I2,T,st2,f2,B⟩:=q2;refine kl (RR:=λacc C=>compPost (model X.prog X.w) X.A X.xe (some (assign (.Name x px) X.env)) (λ_ s'=>SP X pins D0 .next s') acc C) hc S h1 h2 I2 T st2 f2 B (λC=>hg cl C s2 H2 fp) (λC=>ht cl C s2 H2 fp) (λC=>he cl C s2 H2 fp) ?_;intro D C s' H' ys I' hC hn hm q;obtain⟨m,hm⟩:=hm;show wpAny _ X.A (assign (.Name x px) X.env (.ref D)) _ _ _;refine wpAny_assign_Name (lW I' hN hx (.inl hl) (v:=.ref D) rfl (λs'' I'' ch=>?_) (.inr hl));obtain⟨a,sb,ha⟩:=ch;refine⟨m,hm.sameBut sb ?_,λh' sb'=>⟨_,_,I2.letGo I'' hC hn sb',q⟩⟩;rintro rfl;rcases ha with z|z
 .exact absurd (Nn I2.lt (by rw[<-z];exact hC)) (OE _)
 .obtain⟨v,q⟩:=I2.cell x _ z;exact absurd (Nn q.lt hC) (OE _)
end
theorem qm{gs:List Comprehension}{sc:Scope}{x:Str}{line:Nat}(h1:env.blockKind=.function)(h2:env.kindOf x=some .local)(h3:(px.line==pos.line)=true)
  (h4:(sc.names.any λp=>p.1==x&&(p.2==.local || p.2==.cell))=false):swapsWith (.ListComp elt gs sc pos) (some (.Name x px)) line env=pure true:=by
 unfold swapsWith;show (pure (env.blockKind==.function&&env.kindOf x==some .local&&px.line==pos.line&&!(sc.names.any λp=>p.1==x&&(p.2==.local || p.2==.cell))):Sem Bool)=pure true;rw[h1,h2,h3,h4];rfl
section
variable{X:Cx}{tg:Expr}
theorem Inv.lY{Y:St}{a:Addr}(I:Inv X pins Y H s)(hf:∀b o,s.heap.get? b=some o->b≠a):H a=none:=by
 cases e:H a with
 |none=>rfl
 |some u=>obtain⟨ob,z⟩:=(I.hok a u e).is;exact absurd rfl (hf a ob z)
theorem Inv.Du{Y:St}{a:Addr}{t':Nat}(I:Inv X pins Y H s)(k:∀b u,s.heap.get? b=some u->h'.get? b=some u)(hf:∀b o,s.heap.get? b=some o->b≠a)
  (new:bj X.prog X.w (upd H a o) h' a o):Inv X pins Y (upd H a o) { s with heap:=h',toks:=t' }:=by
 have hn:=I.lY hf;refine I.un ⟨λb u e _ _ _=>k b u e,λb u e _ _ _=>⟨u.slots,k b u e⟩,λb u e n _=>by rw[aE (hf b u e)];exact n,λb u e _=>⟨u,k b u e⟩,λb xs e=>by rw[aE (aH e hn)];exact e,λb u v e=>by rw[aE (aH e hn)];exact e,
  λb ps e=>⟨#[],by rw[aE (aH e hn),e];simp⟩⟩ λb u e=>?_
 by_cases hb:b=a
 .subst hb;rw[bT] at e;cases e;exact new
 .rw[aE hb] at e;exact(I.hok b u e).q5 (λc v _ q=>k c v q) (λc q=>by rw[aE (aH q hn)];exact q) λc xs q=>by rw[aE (aH q hn)];exact q
theorem pQ{ss:List Str}:∀{us:List Value},Vals (ss.map V.str) us->StrsAre us ss:=by
 induction ss with
 |nil=>intro us r;rw[QF] at r;cases r;exact .nil
 |cons n ns j=>
  intro us r;rw[NK] at r;cases r with
  |cons k g=>obtain⟨t,e⟩:=k;subst e;exact .cons n t (j g)
def K6:V->Option Int->Option Int->Hp->VK->Prop:=λx lo hi H Q=>∃z,x=.str z/\z.length<=sizeLine/\Q (.str (PR z lo hi)) H
theorem oY{o:Option Int}(p:IsPart v o):∃l:Option (Int×Tok),v=partValue l/\l.map (·.1)=o:=by
 cases p with
 |none=>exact⟨none,rfl,rfl⟩
 |int i t=>exact⟨some (i,t),rfl,rfl⟩
theorem Em:d5 X K6:=by intro pins s Y H x v E Z lo hi sl Q I o hs pl K h;obtain⟨z,rfl,hz,q⟩:=h;obtain⟨t,rfl⟩:=o;obtain⟨l,rfl,rfl⟩:=oY pl;obtain⟨u,rfl,rfl⟩:=oY K;refine⟨"str",_,F.slot_str_getitem.lookup,typeIs_str _ _ _,wpAny_getItem_str_slice (l:=l) (u:=u) (st:=none) hs rfl ?_⟩;exact post_val_or_str ⟨N5 (Sa z _ _) hz,λt' k=>⟨.str _,H,I.tok _,⟨t',rfl⟩,q⟩⟩
noncomputable def gA(ss:List Str):Nat:=(ss.map (λz=>z.length)).sum
theorem gb:∀{us:List Value}{ss:List Str},StrsAre us ss->∃l:List (Str×Tok),us=strValues l/\l.map (·.1)=ss
 |_,_,.nil=>⟨[],rfl,rfl⟩
 |_,_,.cons y t r=>by obtain⟨l,D,F⟩:=gb r;exact⟨(y,t)::l,by rw[D];rfl,by rw[NK,F]⟩
end
noncomputable def Lc(x:Str):It:=⟨λi _=>i<x.cps.size,λi H v H'=>H'=H/\∃c,x.cps[i]?=some c/\v=.str ⟨#[c]⟩,λi _=>x.cps.size<=i⟩
variable{tg:Expr}
theorem q9{K:Nh}(it:Addr)(x:Str)(t:Tok):Turn P w K tg (Lc x) [it] it (λi h=>h.IsStrIter it "str_ascii_iterator" x t i) where
 mem:=by simp
 obj:=λi h st b hb=>by
  have e:b=it:=by simpa using hb
  subst e;obtain⟨o,e,c,d⟩:=st;exact⟨o,e,λv z=>by rw[d] at z;cases z⟩
 keep:=λi h h' st k=>by obtain⟨o,e,r⟩:=st;exact⟨o,k it (by simp) o e,r⟩
 item:=by intro X Z f J hc i pins s Y H E I hf st j;subst Z f J;have j:i<x.cps.size:=j;obtain⟨m,n,G,p,y,A⟩:=hf it (by simp);refine wpAny_pyNext_ascii_item st (c:=x.cps[i]) (by simp[j]) λh' N sb=>?_;have V:Inv X pins Y H { s with heap:=h',toks:=s.toks+1 }:=I.turned (t':=s.toks+1) (λb o hb e=>(sb.2 b hb).trans e) m n p y A;obtain⟨o,e,c,d⟩:=id N;exact⟨_,rfl,nG (s:={ s with heap:=h',toks:=s.toks+1 }) e c d (by decide) ⟨.str ⟨#[x.cps[i]]⟩,H,V,⟨_,rfl⟩,⟨rfl,_,by simp[j],rfl⟩,N,λb hb=>(hf b hb).1⟩⟩
 done:=by intro X Z f J hc i pins s Y H E I hf st j;subst Z f J;have j:x.cps.size<=i:=j;obtain⟨m,n,G,p,y,A⟩:=hf it (by simp);exact wpAny_pyNext_ascii_end (I.ok.hd hc) st (by simp;omega) λh' eb=>⟨rfl,I.turned (t':=s.toks) (λb o hb e=>eb b o hb e) m n p y A⟩
 self:=λ_ _ _ _ _ st h=>wpAny_pyIter_striter_ascii st h
theorem vg{K:Nh}(it:Addr)(x:Str)(t:Tok):Turn P w K tg (Lc x) [it] it (λi h=>h.IsStrIter it "str_iterator" x t i) where
 mem:=by simp
 obj:=λi h st b hb=>by
  have e:b=it:=by simpa using hb
  subst e;obtain⟨o,e,c,d⟩:=st;exact⟨o,e,λv z=>by rw[d] at z;cases z⟩
 keep:=λi h h' st k=>by obtain⟨o,e,r⟩:=st;exact⟨o,k it (by simp) o e,r⟩
 item:=by intro X Z f J hc i pins s Y H E I hf st j;subst Z f J;have j:i<x.cps.size:=j;obtain⟨m,n,G,p,y,A⟩:=hf it (by simp);refine wpAny_pyNext_wide_item st (c:=x.cps[i]) (by simp[j]) λh' N sb=>?_;have V:Inv X pins Y H { s with heap:=h',toks:=s.toks+1 }:=I.turned (t':=s.toks+1) (λb o hb e=>(sb.2 b hb).trans e) m n p y A;obtain⟨o,e,c,d⟩:=id N;exact⟨_,rfl,nG (s:={ s with heap:=h',toks:=s.toks+1 }) e c d (by decide) ⟨.str ⟨#[x.cps[i]]⟩,H,V,⟨_,rfl⟩,⟨rfl,_,by simp[j],rfl⟩,N,λb hb=>(hf b hb).1⟩⟩
 done:=by intro X Z f J hc i pins s Y H E I hf st j;subst Z f J;have j:x.cps.size<=i:=j;obtain⟨m,n,G,p,y,A⟩:=hf it (by simp);exact wpAny_pyNext_wide_end (I.ok.hd hc) st (by simp;lia) λh' eb=>⟨rfl,I.turned (t':=s.toks) (λb o hb e=>eb b o hb e) m n p y A⟩
 self:=λ_ _ _ _ _ st h=>wpAny_pyIter_striter_wide st h
section
variable{X:Cx}{tg:Expr}
def IZ(K:Nh)(b:TE):TI:=λY H R=>b Y H λx T=>(∃a,x=.ref a/\(((∃xs,fo K T a xs)/\R (LM K a) T)\/((∃xs,cQ K T a xs)/\R (LZ K a) T)))\/∃t,x=.str t/\R (Lc t) T
theorem BF{l:Expr}{i:TE}(hl:PE X l i):PI X tg l (IZ X.K i):=by
 intro pins s Y H R I h;refine bA (hl pins s Y H _ I h) λv s1 ⟨x,T,V,k,d⟩=>?_;rcases d with ⟨a,e,⟨⟨xs,c⟩,q⟩|⟨⟨xs,c⟩,q⟩⟩|⟨t,e,q⟩
 .subst e;cases k;obtain⟨g,rv,p,hz⟩:=V.list c;refine wpAny_pyIter_list p.isList ?_;refine⟨s1.heap.objs.size,[s1.heap.objs.size],_,_,T,rfl,V.kept (t':=s1.toks) λb o e=>Nm _ e,uv a _,⟨_,NH _ rfl,rfl,rfl⟩,λb hb=>?_,q⟩;have e:b=s1.heap.objs.size:=by simpa using hb
  subst e;exact V.AL (Nr _) (V.hok.fresh (Nr _))
 .subst e;cases k;obtain⟨g,rv,p,hz⟩:=V.tuple c;refine wpAny_pyIter_tuple (show s1.heap.IsTuple a g.toArray from p) ?_;refine⟨s1.heap.objs.size,[s1.heap.objs.size],_,_,T,rfl,V.kept (t':=s1.toks) λb o e=>Nm _ e,qF a _,⟨_,NH _ rfl,rfl,rfl⟩,λb hb=>?_,q⟩;have e:b=s1.heap.objs.size:=by simpa using hb
  subst e;exact V.AL (Nr _) (V.hok.fresh (Nr _))
 .subst e;obtain⟨tk,rfl⟩:=k;have fin:∀b,b∈[s1.heap.objs.size]->j9 X pins T b:=λb hb=>by
   have e:b=s1.heap.objs.size:=by simpa using hb
   subst e;exact V.AL (Nr _) (V.hok.fresh (Nr _))
  cases ha:t.cps.all (·<128)
  .refine wpAny_pyIter_wide ha ?_;exact⟨s1.heap.objs.size,[s1.heap.objs.size],_,_,T,rfl,V.kept (t':=s1.toks) λb o e=>Nm _ e,vg _ t tk,⟨_,NH _ rfl,rfl,rfl⟩,fin,q⟩
  .refine wpAny_pyIter_ascii ha ?_;exact⟨s1.heap.objs.size,[s1.heap.objs.size],_,_,T,rfl,V.kept (t':=s1.toks) λb o e=>Nm _ e,q9 _ t tk,⟨_,NH _ rfl,rfl,rfl⟩,fin,q⟩
end
end L2
namespace W
theorem jO(p:Int){q:Int}(h:q<0):q<p.fmod q/\p.fmod q<=0:=by
 rw[Int.fmod_eq_emod];have h1:=Rq p (show q≠0 by lia);have h2:=Int.emod_lt_of_neg p h;by_cases d:q ∣ p
 .rw[if_pos (Or.inr d),Int.emod_eq_zero_of_dvd d];lia
 .rw[if_neg (by intro z;rcases z with z|z;lia;exact d z)];have h3:p%q≠0:=λz=>d (Int.dvd_of_emod_eq_zero z);lia
theorem xy(p:Int){q:Int}(h:q≠0):(p.fmod q).natAbs<q.natAbs:=by
 rcases Int.lt_or_gt_of_ne h with z|z
 .have:=jO p z;omega
 .have h1:=RW p z;have h2:=Rk p z;omega
theorem vH(p q:Int):Po q (p.fmod q)=Po p q:=by
 have h:p.fmod q=p-p.fdiv q*q:=by rw[Int.fmod_def,Vo]
 rw[h,Int.gcd_sub_mul_right_right,Int.gcd_comm]
noncomputable def cd(x y:Int):Int:=if y<0 then -(Po x y:Int) else (Po x y:Int)
noncomputable abbrev Num:=Int×Int
def MS(t b:Int):Num:=(t.fdiv (cd t b),b.fdiv (cd t b))
open L2
def Ok(q:Num):Prop:=0<q.2/\Po q.1 q.2=1
def Ky(x y:Num):Num:=MS (x.1*y.2+y.1*x.2) (x.2*y.2)
end W
set_option maxHeartbeats 1000000
namespace W
open L2 PySem
abbrev Pr:=Str×Num
def nD(ps:List Pr)(n:Str):Num:=ps.foldl (λacc p=>if p.1=n then Ky acc p.2 else acc) (0,1)
end W
namespace M
open PySem L2
inductive A where
 |non|bl(b:Bool)|int(i:Int)|str(x:Str)|tup(xs:List A)|lst(xs:List A)|dic(kvs:List (Key×A))|exc(c:Str)|obj(c:Str)(fs:List (Str×A))|opq
structure Kx where
 K:Nh
 mg:Str->Option Value
 P:Program
 w:World
mutual
inductive RA(k:Kx)(G:Hp):V->A->Prop
 |non:RA k G .non .non
 |bl(b:Bool):RA k G (.bl b) (.bl b)
 |int(i:Int):RA k G (.int i) (.int i)
 |str(x:Str):RA k G (.str x) (.str x)
 |tup{p:Addr}{vs:List V}{as:List A}(e:cQ k.K G p vs)(r:bh k G vs as):RA k G (.ref p) (.tup as)
 |lst{p:Addr}{vs:List V}{as:List A}(e:fo k.K G p vs)(r:bh k G vs as):RA k G (.ref p) (.lst as)
 |dic{p:Addr}{vs:List (Key×V)}{as:List (Key×A)}(e:Rd G p (.dK vs))(r:nR k G vs as):RA k G (.ref p) (.dic as)
 |exc{p C:Addr}{c:Str}(e:G p=some (Fq p C))(m:k.mg c=some (.ref C)):RA k G (.ref p) (.exc c)
 |obj{p C dx:Addr}{c:Str}{vs:List (Str×V)}{fs:List (Str×A)}(e:G p=some (.ins C dx vs))(m:k.mg c=some (.ref C))(r:qV k G vs fs):RA k G (.ref p) (.obj c fs)
 |opq{p:Addr}:RA k G (.ref p) .opq
inductive bh(k:Kx)(G:Hp):List V->List A->Prop
 |nil:bh k G [] []
 |cons{v:V}{a:A}{vs:List V}{as:List A}(h:RA k G v a)(r:bh k G vs as):bh k G (v::vs) (a::as)
inductive qV(k:Kx)(G:Hp):List (Str×V)->List (Str×A)->Prop
 |nil:qV k G [] []
 |cons{y:Str}{v:V}{a:A}{vs:List (Str×V)}{as:List (Str×A)}(h:RA k G v a)(r:qV k G vs as):qV k G ((y,v)::vs) ((y,a)::as)
inductive iW(k:Kx)(G:Hp):List (List Key×Addr×V)->List (List Key×A)->Prop
 |nil:iW k G [] []
 |cons{y:List Key}{b:Addr}{v:V}{a:A}{vs:List (List Key×Addr×V)}{as:List (List Key×A)}(e:cQ k.K G b (y.map kV))(h:RA k G v a)(r:iW k G vs as):iW k G ((y,b,v)::vs) ((y,a)::as)
inductive nR(k:Kx)(G:Hp):List (Key×V)->List (Key×A)->Prop
 |nil:nR k G [] []
 |cons{y:Key}{v:V}{a:A}{vs:List (Key×V)}{as:List (Key×A)}(h:RA k G v a)(r:nR k G vs as):nR k G ((y,v)::vs) ((y,a)::as)
end
noncomputable def ue:HO->Option (List (Key×V))
 | .dK kvs=>some kvs
 | .frz _ (.dK kvs)=>some kvs
 |_=>none
def Oq(o o':HO):Prop:=o'=o\/∃kvs,ue o=some kvs/\ue o'=some kvs
variable{G:Hp}{kvs:List (Key×V)}
theorem tW{b:Addr}{o:HO}(h:G b=some o)(e:ue o=some kvs):Rd G b (.dK kvs):=by
 unfold ue at e;split at e
 .cases e;exact .inl h
 .cases e;exact .inr ⟨_,h⟩
 .cases e
theorem Jm{b:Addr}(h:Rd G b (.dK kvs)):∃o,G b=some o/\ue o=some kvs:=by
 rcases h with h|⟨o,h⟩
 .exact⟨_,h,rfl⟩
 .exact⟨_,h,rfl⟩
def Sq(G G':Hp):Prop:=∀b o,G b=some o->∃o',G' b=some o'/\Oq o o'
variable{G':Hp}
theorem Sq.of(h:K0 G G'):Sq G G':=λb o e=>⟨o,h b o e,.inl rfl⟩
theorem Sq.refl(G:Hp):Sq G G:=λb o e=>⟨o,e,.inl rfl⟩
theorem Sq.keep(h:Sq G G'){b:Addr}{o:HO}(e:G b=some o)(n:ue o=none):G' b=some o:=by
 obtain⟨o',h1,h2⟩:=h b o e;rcases h2 with rfl|⟨kvs,h3,_⟩
 .exact h1
 .rw[n] at h3;cases h3
theorem Sq.Mw(h:Sq G G'){b:Addr}(r:Rd G b (.dK kvs)):Rd G' b (.dK kvs):=by
 obtain⟨o,e,d⟩:=Jm r;obtain⟨o',h1,h2⟩:=h b o e;rcases h2 with rfl|⟨H,h3,h4⟩
 .exact tW h1 d
 .rw[d] at h3;cases h3;exact tW h1 h4
variable{p:Addr}{vs:List V}
theorem cq{K:Nh}(h:Sq G G')(q:cQ K G p vs):cQ K G' p vs:=q.imp (λr=>by
 rcases r with r|⟨o,r⟩
 .exact .inl (h.keep r rfl)
 .exact .inr ⟨o,h.keep r rfl⟩) id
theorem hZ{K:Nh}(h:Sq G G')(q:fo K G p vs):fo K G' p vs:=q.imp (λr=>by
 rcases r with r|⟨o,r⟩
 .exact .inl (h.keep r rfl)
 .exact .inr ⟨o,h.keep r rfl⟩) id
variable{v:V}
section
variable{k:Kx}{G G':Hp}
mutual
theorem RA.sm(s:Sq G G'):∀{v:V}{a:A},RA k G v a->RA k G' v a
 |_,_,.non=>.non
 |_,_,.bl b=>.bl b
 |_,_,.int i=>.int i
 |_,_,.str x=>.str x
 |_,_,.tup e r=>.tup (cq s e) (bh.sm s r)
 |_,_,.lst e r=>.lst (hZ s e) (bh.sm s r)
 |_,_,.dic e r=>.dic (s.Mw e) (nR.sm s r)
 |_,_,.exc e m=>.exc (s.keep e rfl) m
 |_,_,.obj e m r=>.obj (s.keep e rfl) m (qV.sm s r)
 |_,_,.opq=>.opq
theorem qV.sm(s:Sq G G'):∀{vs:List (Str×V)}{as:List (Str×A)},qV k G vs as->qV k G' vs as
 |_,_,.nil=>.nil
 |_,_,.cons h r=>.cons (RA.sm s h) (qV.sm s r)
theorem bh.sm(s:Sq G G'):∀{vs:List V}{as:List A},bh k G vs as->bh k G' vs as
 |_,_,.nil=>.nil
 |_,_,.cons h r=>.cons (RA.sm s h) (bh.sm s r)
theorem iW.sm(s:Sq G G'):∀{vs:List (List Key×Addr×V)}{as:List (List Key×A)},iW k G vs as->iW k G' vs as
 |_,_,.nil=>.nil
 |_,_,.cons e h r=>.cons (cq s e) (RA.sm s h) (iW.sm s r)
theorem nR.sm(s:Sq G G'):∀{vs:List (Key×V)}{as:List (Key×A)},nR k G vs as->nR k G' vs as
 |_,_,.nil=>.nil
 |_,_,.cons h r=>.cons (RA.sm s h) (nR.sm s r)
end
theorem bh.len:∀{vs:List V}{as:List A},bh k G vs as->vs.length=as.length
 |_,_,.nil=>rfl
 |_,_,.cons _ r=>by rw[NM,NM,r.len]
theorem bh.at:∀{vs:List V}{as:List A}{i:Nat}{v:V},bh k G vs as->vs[i]?=some v->∃a,as[i]?=some a/\RA k G v a
 |_,_,_,_,.nil,e=>by simp at e
 |_,_,0,_,.cons h _,e=>by cases e;exact⟨_,rfl,h⟩
 |_,_,i+1,_,.cons _ r,e=>r.at (i:=i) e
theorem bh.ta:∀{vs:List V}{as:List A}{i:Nat}{a:A},bh k G vs as->as[i]?=some a->∃v,vs[i]?=some v/\RA k G v a
 |_,_,_,_,.nil,e=>by simp at e
 |_,_,0,_,.cons h _,e=>by cases e;exact⟨_,rfl,h⟩
 |_,_,i+1,_,.cons _ r,e=>r.ta (i:=i) e
theorem bh.app:∀{vs us:List V}{as bs:List A},bh k G vs as->bh k G us bs->bh k G (vs++us) (as++bs)
 |_,_,_,_,.nil,s=>s
 |_,_,_,_,.cons h r,s=>.cons h (r.app s)
theorem bh.snoc{as:List A}{a:A}(r:bh k G vs as)(h:RA k G v a):bh k G (vs++[v]) (as++[a]):=r.app (.cons h .nil)
theorem bh.rev:∀{vs:List V}{as:List A},bh k G vs as->bh k G vs.reverse as.reverse
 |_,_,.nil=>.nil
 |_,_,.cons h r=>by rw[QV,QV];exact r.rev.snoc h
theorem bh.take:∀{vs:List V}{as:List A}(n:Nat),bh k G vs as->bh k G (vs.take n) (as.take n)
 |_,_,0,_=>.nil
 |_,_,_+1,.nil=>.nil
 |_,_,n+1,.cons h r=>.cons h (r.take n)
theorem bh.drop:∀{vs:List V}{as:List A}(n:Nat),bh k G vs as->bh k G (vs.drop n) (as.drop n)
 |_,_,0,r=>r
 |_,_,_+1,.nil=>.nil
 |_,_,n+1,.cons _ r=>r.drop n
theorem bh.set{v:V}{a:A}(h:RA k G v a):∀{vs:List V}{as:List A}(i:Nat),bh k G vs as->bh k G (vs.set i v) (as.set i a)
 |_,_,_,.nil=>.nil
 |_,_,0,.cons _ r=>.cons h r
 |_,_,i+1,.cons q r=>.cons q (r.set h i)
theorem bh.strs:∀{vs:List V}{ss:List Str},bh k G vs (ss.map A.str)->vs=ss.map V.str
 |_,[],.nil=>rfl
 |_,_::ss,.cons h r=>by cases h;rw[r.strs (ss:=ss)];rfl
end
noncomputable def cut(H:Hp)(L:List Addr):Hp:=λa=>if a∈L then none else H a
variable{H:Hp}{L:List Addr}
theorem vK{a:Addr}(h:a∈L):cut H L a=none:=if_pos h
theorem mT{a:Addr}(h:a∉L):cut H L a=H a:=if_neg h
theorem vt(H:Hp)(L:List Addr):Sq (cut H L) H:=Sq.of λb o e=>by
 unfold cut at e;split at e
 .cases e
 .exact e
variable{L':List Addr}
theorem zj(h:∀a,a∈L'->a∈L):Sq (cut H L) (cut H L'):=Sq.of λb o e=>by
 by_cases c:b∈L
 .rw[vK c] at e;cases e
 .rw[mT c] at e;rw[mT λz=>c (h b z)];exact e
def Cy:List (List Key×Addr×V)->List (List Key×Addr×Value)->Prop:=Paired λx y=>x.1=y.1/\x.2.1=y.2.1/\RelV x.2.2 y.2.2
noncomputable def dX(P:Program)(w:World)(p:Addr)(xs:List (List Key×Addr×V)):HO:=.ext λh=>xs.length<=sizeLine/\(p==sysModules)=false/\∃ys,Cy xs ys /\
 ∃o es ep,h.get? p=some o/\o.ExactDict/\o.data=.dict es ep/\es.toList=ys.map (entryOfKey (tupleKind (aW P w)))/\(ys.map (·.1)).Nodup
inductive LO where
 |lst(xs:List A)|dic(kvs:List (Key×A))|obj(c:Str)(fs:List (Str×A))|dit(kvs:List (List Key×A))
noncomputable def LO.a:LO->A
 | .lst xs=>.lst xs
 | .dic kvs=>.dic kvs
 | .obj c fs=>.obj c fs
 | .dit _=>.opq
inductive Sl where
 |un|fr(a:A)|lv(o:LO)|pv(o:LO)
inductive LR(k:Kx)(G H:Hp)(p:Addr):LO->Prop
 |lst{vs:List V}{as:List A}(e:H p=some (.lst vs))(r:bh k G vs as):LR k G H p (.lst as)
 |dic{vs:List (Key×V)}{as:List (Key×A)}(e:H p=some (.dK vs))(r:nR k G vs as):LR k G H p (.dic as)
 |obj{C dx:Addr}{c:Str}{vs:List (Str×V)}{fs:List (Str×A)}(e:H p=some (.ins C dx vs))(m:k.mg c=some (.ref C))(r:qV k G vs fs):LR k G H p (.obj c fs)
 |dit{vs:List (List Key×Addr×V)}{as:List (List Key×A)}(e:H p=some (dX k.P k.w p vs))(r:iW k G vs as):LR k G H p (.dit as)
inductive d5(k:Kx)(G H:Hp):Option V->Sl->List Addr->Prop
 |un(x:Option V):d5 k G H x .un []
 |fr{v:V}{a:A}(h:RA k G v a):d5 k G H (some v) (.fr a) []
 |lv{p:Addr}{o:LO}(h:LR k G H p o):d5 k G H (some (.ref p)) (.lv o) [p]
 |pv{p:Addr}{o:LO}(h:LR k G H p o):d5 k G H (some (.ref p)) (.pv o) [p]
inductive av(k:Kx)(G H:Hp):St->List Sl->List Addr->Prop
 |nil:av k G H [] [] []
 |cons{x:Option V}{s:Sl}{Y:St}{Z:List Sl}{L L':List Addr}(h:d5 k G H x s L)(r:av k G H Y Z L'):av k G H (x::Y) (s::Z) (L++L')
variable{o:LO}
section
variable{k:Kx}{G G' H H':Hp}{L:List Addr}
theorem LR.is(h:LR k G H p o):∃u,H p=some u:=by cases h with|lst e _=>exact⟨_,e⟩|dic e _=>exact⟨_,e⟩|obj e _ _=>exact⟨_,e⟩|dit e _=>exact⟨_,e⟩
theorem LR.sm(s:Sq G G'){p:Addr}{o:LO}(e:∀u,H p=some u->H' p=some u)(h:LR k G H p o):LR k G' H' p o:=by
 cases h with
 |lst q r=>exact .lst (e _ q) (r.sm s)
 |dic q r=>exact .dic (e _ q) (r.sm s)
 |obj q m r=>exact .obj (e _ q) m (r.sm s)
 |dit q r=>exact .dit (e _ q) (r.sm s)
theorem d5.is{x:Option V}{t:Sl}(h:d5 k G H x t L):∀p∈L,∃u,H p=some u:=by
 cases h with
 |un=>intro p hp;cases hp
 |fr=>intro p hp;cases hp
 |lv h=>intro p hp;rw[Nw.mp hp];exact h.is
 |pv h=>intro p hp;rw[Nw.mp hp];exact h.is
theorem d5.sm(s:Sq G G'){x:Option V}{t:Sl}(e:∀p∈L,∀u,H p=some u->H' p=some u)(h:d5 k G H x t L):d5 k G' H' x t L:=by
 cases h with
 |un=>exact .un _
 |fr h=>exact .fr (h.sm s)
 |lv h=>exact .lv (h.sm s (e _ (Nw.mpr rfl)))
 |pv h=>exact .pv (h.sm s (e _ (Nw.mpr rfl)))
theorem av.is:∀{Y:St}{Z:List Sl}{L:List Addr},av k G H Y Z L->∀p∈L,∃u,H p=some u
 |_,_,_,.nil,p,hp=>by cases hp
 |_,_,_,.cons h r,p,hp=>(Nv.mp hp).elim (h.is p) (r.is p)
theorem av.sm(s:Sq G G'):∀{Y:St}{Z:List Sl}{L:List Addr},(∀p∈L,∀u,H p=some u->H' p=some u)->av k G H Y Z L->av k G' H' Y Z L
 |_,_,_,_,.nil=>.nil
 |_,_,_,e,.cons h r=>.cons (h.sm s λp hp=>e p (NF _ hp)) (r.sm s λp hp=>e p (Nq _ hp))
theorem av.len:∀{Y:St}{Z:List Sl}{L:List Addr},av k G H Y Z L->Y.length=Z.length
 |_,_,_,.nil=>rfl
 |_,_,_,.cons _ r=>by rw[NM,NM,r.len]
theorem av.at:∀{Y:St}{Z:List Sl}{L:List Addr}{i:Nat}{s:Sl},av k G H Y Z L->Z[i]?=some s->
  ∃x v L2 X,Y[i]?=some x/\d5 k G H x s L2/\L=v++L2++X/\∀{G' H':Hp}{y:Option V}{t:Sl}{L':List Addr},Sq G G'->(∀p∈v++X,∀u,H p=some u->H' p=some u)->d5 k G' H' y t L'->av k G' H' (Y.set i y) (Z.set i t) (v++L'++X)
 |_,_,_,_,_,.nil,e=>by simp at e
 |_,_,_,0,_,.cons (x:=x) (L:=L) (L':=L') h r,e=>by cases e;refine⟨x,[],L,L',rfl,h,by simp,λsm e q=>?_⟩;simp only[List.set_cons_zero,QE];exact .cons q (r.sm sm (by simpa using e))
 |_,_,_,i+1,_,.cons (L:=L) h r,e=>by obtain⟨x,v,L2,X,D,F,O,b⟩:=av.at (i:=i) r e;refine⟨x,L++v,L2,X,D,F,by rw[O];simp,λsm e q=>?_⟩;simp only[List.set_cons_succ];have:=av.cons (h.sm sm λp hp=>e p (by simp[hp])) (b sm (λp hp=>e p (by rcases Nv.mp hp with z|z<;>simp[z])) q);simpa[Nj] using this
theorem av.app:∀{Y B:St}{Z θ:List Sl}{L L':List Addr},av k G H Y Z L->av k G H B θ L'->av k G H (Y++B) (Z++θ) (L++L')
 |_,_,_,_,_,_,.nil,s=>s
 |_,_,_,_,_,_,.cons h r,s=>by have:=av.cons h (r.app s);simpa[Nj] using this
theorem av.split:∀{Y B:St}{Z θ:List Sl}{L:List Addr},Y.length=Z.length->av k G H (Y++B) (Z++θ) L->∃v L2,L=v++L2/\av k G H Y Z v/\av k G H B θ L2
 |[],_,[],_,L,_,h=>⟨[],L,rfl,.nil,h⟩
 |x::Y,B,s::Z,θ,_,e,.cons (L:=L) h r=>by obtain⟨v,L2,D,c,g⟩:=av.split (by simpa using e) r;exact⟨L++v,L2,by rw[D];simp,.cons h c,g⟩
 |_::_,_,[],_,_,e,_=>by simp at e
 |[],_,_::_,_,_,e,_=>by simp at e
theorem av.jo:∀{vs:List V}{as:List A},bh k G vs as->av k G H (vs.map some) (as.map Sl.fr) []
 |_,_,.nil=>.nil
 |_,_,.cons h r=>av.cons (L:=[]) (.fr h) (av.jo r)
theorem av.CV:∀{vs:List V}{as:List A}{L:List Addr},av k G H (vs.map some) (as.map Sl.fr) L->L=[]/\bh k G vs as
 |[],[],_,.nil=>⟨rfl,.nil⟩
 |v::vs,a::as,_,.cons h r=>by
  cases h with
  |fr h=>obtain⟨e,q⟩:=av.CV r;exact⟨by rw[e];rfl,.cons h q⟩
end
structure Cn extends Kx where
 σ0:St
 H0:Hp
 Lp:List Addr
 Hd:List Addr
 Wk:List (Addr×HO)
def Cn.g(c:Cn)(H:Hp)(L:List Addr):Hp:=cut H (L++c.Hd)
structure Fr(c:Cn)(H:Hp):Prop where
 st:∀b o,c.H0 b=some o->∃u,H b=some u/\(b∉c.Lp->(∀w,(b,w)∉c.Wk)->u=o)
 pk:∀p∈c.Wk,H p.1=some p.2/\(∃ob vs,p.2=.frz ob (.dK vs))/\p.1∉c.Hd
variable{c:Cn}
theorem Fr.new{o:HO}(f:Fr c H)(h:H p=none):Fr c (upd H p o):=⟨λb u e=>by
 obtain⟨w,h1,h2⟩:=f.st b u e;exact⟨w,by rw[aE (aH h1 h)];exact h1,h2⟩,λq R=>by
 obtain⟨h1,h2⟩:=f.pk q R;exact⟨by rw[aE (aH h1 h)];exact h1,h2⟩⟩
theorem Fr.fresh(f:Fr c H)(h:H p=none):c.H0 p=none:=by
 cases e:c.H0 p with
 |none=>rfl
 |some o=>obtain⟨u,h1,_⟩:=f.st p o e;rw[h] at h1;cases h1
def dY(σ0 Y:St)(Z:List Sl):Prop:=∀(i:Nat)(o:LO),Z[i]?=some (Sl.pv o)->Y[i]?=σ0[i]?
structure dZ(c:Cn)(Y:St)(H:Hp)(Z:List Sl)(B:St)(θ:List Sl)(L:List Addr):Prop where
 nd:L.Nodup
 rel:av c.toKx (c.g H L) H (B++Y) (θ++Z) L
 own:∀p∈L,p∈c.Lp\/c.H0 p=none
 fr:Fr c H
 kp:dY c.σ0 Y Z
 lt:B.length=θ.length
 hd:∀p∈c.Hd,(∃u,c.H0 p=some u)/\p∉c.Lp
theorem g_same(c:Cn)(H:Hp)(L:List Addr):Sq (c.g H L) H:=vt _ _
theorem cx(h:∀a,a∈L'->a∈L):Sq (c.g H L) (c.g H L'):=zj λa ha=>by
 rcases Nv.mp ha with z|z
 .exact NF _ (h a z)
 .exact Nq _ z
theorem mO{a:Addr}(h:a∈L\/a∈c.Hd):c.g H L a=none:=vK (by simpa using h)
theorem bU{a:Addr}(h:a∉L)(h':a∉c.Hd):c.g H L a=H a:=mT (by simp[h,h'])
variable{Z θ:List Sl}
theorem dZ.G8{Y:St}{B:St}(b:dZ c Y H Z B θ L)(h:p∈L):p∉c.Hd:=λz=>by
 obtain⟨⟨u,e⟩,n⟩:=b.hd p z;rcases b.own p h with y|y
 .exact n y
 .rw[y] at e;cases e
theorem dZ.Kr{Y:St}{B:St}(b:dZ c Y H Z B θ L)(h:H p=none):p∉c.Hd:=λz=>by obtain⟨⟨u,e⟩,n⟩:=b.hd p z;rw[b.fr.fresh h] at e;cases e
def Bd(c:Cn)(Y:St)(H:Hp)(Z:List Sl)(B:St)(θ:List Sl):Prop:=∃L,dZ c Y H Z B θ L
variable{s:Sl}{u:HO}{k:Kx}{i:Nat}
section
variable{c:Cn}{Y:St}{H:Hp}{Z:List Sl}{B:St}{θ:List Sl}
theorem Bd.gA(b:Bd c Y H Z B θ):Y.length=Z.length:=by obtain⟨L,b⟩:=b;have:=b.rel.len;rw[Ny,Ny,b.lt] at this;lia
theorem Bd.push{a:A}(b:Bd c Y H Z B θ)(h:∀G,RA c.toKx G v a):Bd c Y H Z (some v::B) (.fr a::θ):=by obtain⟨L,b⟩:=b;exact⟨L,b.nd,av.cons (L:=[]) (.fr (h _)) b.rel,b.own,b.fr,b.kp,by simp[b.lt],b.hd⟩
theorem Bd.pop{x:Option V}(b:Bd c Y H Z (x::B) (s::θ)):Bd c Y H Z B θ:=by
 obtain⟨L,b⟩:=b;obtain⟨nd,rel,own,fr,kp,lt,l⟩:=b;have rel:av c.toKx (c.g H L) H (x::(B++Y)) (s::(θ++Z)) L:=rel;cases rel with
 |cons h r=>rename_i v L2;exact⟨L2,(N8.mp nd).2.1,r.sm (cx λa ha=>Nq _ ha) (λ_ _ _ e=>e),λp hp=>own p (Nq _ hp),fr,kp,by simpa using lt,l⟩
theorem Bd.Bs:∀{xs:St}{ss:List Sl},xs.length=ss.length->Bd c Y H Z (xs++B) (ss++θ)->Bd c Y H Z B θ
 |[],[],_,b=>b
 |x::xs,s::ss,e,b=>Bd.Bs (xs:=xs) (ss:=ss) (by simpa using e) (Bd.pop b)
 |[],_::_,e,_=>by simp at e
 |_::_,[],e,_=>by simp at e
theorem Bd.jo{as:List A}(b:Bd c Y H Z (vs.map some++B) (as.map Sl.fr++θ))(e:vs.length=as.length):∃L,dZ c Y H Z B θ L/\bh c.toKx (c.g H L) vs as:=by obtain⟨L,b⟩:=b;have r:=b.rel;rw[Nj,Nj] at r;obtain⟨v,L2,D,k,s⟩:=av.split (by simp[e]) r;obtain⟨z,x⟩:=av.CV k;subst z;have D:L=L2:=D;subst D;exact⟨L,⟨b.nd,s,b.own,b.fr,b.kp,by have:=b.lt;simp at this;lia,b.hd⟩,x⟩
theorem dZ.push{a:A}(b:dZ c Y H Z B θ L)(h:RA c.toKx (c.g H L) v a):Bd c Y H Z (some v::B) (.fr a::θ):=
 ⟨L,b.nd,av.cons (L:=[]) (.fr h) b.rel,b.own,b.fr,b.kp,by simp[b.lt],b.hd⟩
theorem dZ.new{L:List Addr}{p:Addr}{o:HO}(b:dZ c Y H Z B θ L)(h:H p=none):dZ c Y (upd H p o) Z B θ L/\Sq (c.g H L) (c.g (upd H p o) L)/\p∉L:=by
 have hp:p∉L:=λz=>by obtain⟨u,e⟩:=b.rel.is p z;rw[h] at e;cases e
 have sm:Sq (c.g H L) (c.g (upd H p o) L):=Sq.of λa u e=>by
  by_cases z:a∈L\/a∈c.Hd
  .rw[mO z] at e;cases e
  .rw[bU (λy=>z (.inl y)) (λy=>z (.inr y))] at e;rw[bU (λy=>z (.inl y)) (λy=>z (.inr y)),aE (aH e h)];exact e
 exact⟨⟨b.nd,b.rel.sm sm (λq R u e=>by rw[aE (aH e h)];exact e),b.own,b.fr.new h,b.kp,b.lt,b.hd⟩,sm,hp⟩
theorem Bd.E5{as:List A}(b:Bd c Y H Z (vs.map some++B) (as.map Sl.fr++θ))(e:vs.length=as.length)(h:H p=none)(a:List V)(bs:List A)(f:∀G,bh c.toKx G vs as->bh c.toKx G a bs):
  Bd c Y (upd H p (.tup a)) Z (some (.ref p)::B) (.fr (.tup bs)::θ):=by
 obtain⟨L,bl,x⟩:=b.jo e;obtain⟨r,sm,hp⟩:=bl.new (o:=.tup a) h;exact r.push (.tup (.inl (.inl (by rw[bU hp (bl.Kr h)];exact bT))) (f _ (x.sm sm)))
theorem dZ.iG(b:dZ c Y H Z B θ L)(h:H p=none)(t:∀G H',Sq (c.g H L) G->H' p=some u->LR c.toKx G H' p o):Bd c Y (upd H p u) Z (some (.ref p)::B) (.lv o::θ):=by
 have hp:p∉L:=λz=>by obtain⟨u,e⟩:=b.rel.is p z;rw[h] at e;cases e
 have sm:Sq (c.g H L) (c.g (upd H p u) (p::L)):=Sq.of λa w e=>by
  by_cases z:a∈L\/a∈c.Hd
  .rw[mO z] at e;cases e
  .rw[bU (λy=>z (.inl y)) (λy=>z (.inr y))] at e;have na:=aH e h;rw[bU (λy=>by rcases ND.mp y with y|y;exact na y;exact z (.inl y)) (λy=>z (.inr y)),aE na];exact e
 refine⟨p::L,Oe.mpr ⟨hp,b.nd⟩,av.cons (L:=[p]) (.lv (t _ _ sm bT)) (b.rel.sm sm (λq R w e=>by rw[aE (aH e h)];exact e)),λq R=>?_,b.fr.new h,b.kp,by simp[b.lt],b.hd⟩;rcases ND.mp R with z|z
 .subst z;exact .inr (b.fr.fresh h)
 .exact b.own q z
theorem Bd.wg{as:List A}(b:Bd c Y H Z (vs.map some++B) (as.map Sl.fr++θ))(e:vs.length=as.length)(h:H p=none)(a:List V)(bs:List A)(f:∀G,bh c.toKx G vs as->bh c.toKx G a bs):
  Bd c Y (upd H p (.lst a)) Z (some (.ref p)::B) (.lv (.lst bs)::θ):=by
 obtain⟨L,bl,x⟩:=b.jo e;exact bl.iG h λG H' sm q=>.lst q (f _ (x.sm sm))
theorem LR.a{k:Kx}{G H:Hp}{p:Addr}{o:LO}(h:LR k G H p o)(sm:Sq G H):RA k H (.ref p) o.a:=by
 cases h with
 |lst e r=>exact .lst (.inl (.inl e)) (r.sm sm)
 |dic e r=>exact .dic (.inl e) (r.sm sm)
 |obj e m r=>exact .obj e m (r.sm sm)
 |dit e r=>exact .opq
theorem LR.a'(h:LR k G H p o)(sm:Sq G G')(e:∀u,H p=some u->G' p=some u):RA k G' (.ref p) o.a:=by
 cases h with
 |lst q r=>exact .lst (.inl (.inl (e _ q))) (r.sm sm)
 |dic q r=>exact .dic (.inl (e _ q)) (r.sm sm)
 |obj q m r=>exact .obj (e _ q) m (r.sm sm)
 |dit e r=>exact .opq
noncomputable def Sl.a:Sl->Option A
 | .fr a=>some a
 | .lv o=>some o.a
 | .pv o=>some o.a
 | .un=>none
theorem d5.read{x:Option V}{a:A}(h:d5 k G H x s L)(sm:Sq G H)(e:s.a=some a):∃v,x=some v/\RA k H v a:=by
 cases h with
 |un=>cases e
 |fr h=>cases e;exact⟨_,rfl,h.sm sm⟩
 |lv h=>cases e;exact⟨_,rfl,h.a sm⟩
 |pv h=>cases e;exact⟨_,rfl,h.a sm⟩
theorem dY.set{σ0 Y:St}{Z:List Sl}{i:Nat}{t:Sl}{y:Option V}(k:dY σ0 Y Z)(h:∀o,Z[i]?≠some (.pv o))(hi:i<Z.length)(e:∀o,t≠.pv o):dY σ0 (Y.set i y) (Z.set i t):=λj o q=>by
 by_cases z:j=i
 .subst z;rw[Ov hi] at q;exact absurd (NJ q) (e o)
 .rw[OT (Pa z)] at q ⊢;exact k j o q
theorem dY.BC{σ0 Y:St}{t:Sl}(k:dY σ0 Y Z)(h:∀o,t=.pv o->∃o',Z[i]?=some (.pv o')):dY σ0 Y (Z.set i t):=λj o q=>by
 by_cases z:j=i
 .subst z;by_cases hi:j<Z.length
  .rw[Ov hi] at q;obtain⟨o',e⟩:=h o (NJ q);exact k j o' e
  .rw[OK (by simp;lia)] at q;cases q
 .rw[OT (Pa z)] at q;exact k j o q
theorem Bd.slot{a:A}(b:Bd c Y H Z B θ)(e:Z[i]?=some s)(ea:s.a=some a):∃v,Y[i]?=some (some v)/\RA c.toKx H v a:=by obtain⟨L,b⟩:=b;obtain⟨u,L2,D,k,g⟩:=av.split b.lt b.rel;obtain⟨x,_,_,_,hx,hs,_⟩:=g.at e;obtain⟨v,rfl,h⟩:=hs.read (g_same _ _ _) ea;exact⟨v,hx,h⟩
theorem Bd.load{a:A}(b:Bd c Y H Z B θ)(e:Z[i]?=some (.fr a)):∃v,Y[i]?=some (some v)/\Bd c Y H Z (some v::B) (.fr a::θ):=by
 obtain⟨L,b⟩:=b;obtain⟨u,L2,D,k,g⟩:=av.split b.lt b.rel;obtain⟨x,_,_,_,hx,hs,_⟩:=g.at e;cases hs with
 |fr h=>exact⟨_,hx,b.push h⟩
theorem Bd.sO(b:Bd c Y H Z B θ)(e:Z[i]?=some (.lv o)):Bd c Y H (Z.set i (.fr o.a)) B θ:=by
 obtain⟨L,b⟩:=b;obtain⟨v,L2,D,k,X⟩:=av.split b.lt b.rel;obtain⟨x,M1,U,s,hx,hs,F,ins⟩:=X.at e;cases hs with
 |lv h=>
  rename_i p;have nd:=b.nd;have R:L=(v++M1)++p::s:=by rw[D,F];simp
  rw[R] at nd;have hp:p∉v++M1++s:=by
   obtain⟨A,l,m⟩:=N8.mp nd;obtain⟨r,N⟩:=Oe.mp l;intro z;rcases Nv.mp z with z|z
   .exact m p z p (by simp) rfl
   .exact r z
  have sub:∀a,a∈v++M1++s->a∈L:=λa ha=>by rw[R];simp only[Nv,ND] at ha ⊢;rcases ha with (z|z)|z<;>simp[z]
  have sm:Sq (c.g H L) (c.g H (v++M1++s)):=cx sub;have K:=ins (y:=some (.ref p)) (t:=.fr o.a) (L':=[]) sm (λ_ _ _ e=>e) (.fr (h.a' sm λu e=>by rw[bU hp (b.G8 (by rw[R];simp))];exact e));have I:Y.set i (some (.ref p))=Y:=by
   apply O8;intro j;by_cases z:j=i
   .subst z;rw[Ov (Np.mp hx).1,hx]
   .rw[OT (Pa z)]
  rw[I] at K;refine⟨v++M1++s,?_,?_,λq w=>b.own q (sub q w),b.fr,b.kp.BC (λo z=>by cases z),b.lt,b.hd⟩
  .exact(N8.mp nd).1 |> λn=>N8.mpr ⟨n,(Oe.mp (N8.mp nd).2.1).2,λa ha Q hb=>(N8.mp nd).2.2 a ha Q (Nt _ hb)⟩
  .have:=(k.sm sm (λ_ _ _ e=>e)).app K;simpa[Nj] using this
theorem dZ.change{t:Sl}{o':LO}(b:dZ c Y H Z B θ L)(e:Z[i]?=some s)(es:s=.lv o/\t=.lv o'\/s=.pv o/\t=.pv o')
  : ∃p,Y[i]?=some (some (.ref p))/\LR c.toKx (c.g H L) H p o/\((∀H',H' p=some u->LR c.toKx (c.g H L) H' p o')->Bd c Y (upd H p u) (Z.set i t) B θ):=by
 obtain⟨v,L2,U,k,d⟩:=av.split b.lt b.rel;obtain⟨x,M1,A,X,hx,hs,F,ins⟩:=d.at e;have n:∀p,x=some (.ref p)->A=[p]->LR c.toKx (c.g H L) H p o->(∀G H',LR c.toKx G H' p o'->d5 c.toKx G H' (some (.ref p)) t [p])->(∀E,t=.pv E->∃o',Z[i]?=some (.pv o'))->
   ∃p,Y[i]?=some (some (.ref p))/\LR c.toKx (c.g H L) H p o/\((∀H',H' p=some u->LR c.toKx (c.g H L) H' p o')->Bd c Y (upd H p u) (Z.set i t) B θ):=by
  intro p ex em D mk pk;subst ex em;refine⟨p,hx,D,λhn=>?_⟩;have nd:=b.nd;have l:L=(v++M1)++p::X:=by rw[U,F];simp
  have I:p∈L:=by rw[l];simp
  have m:∀q,q∈v++M1++X->q≠p:=λq R z=>by
   subst z;rw[l] at nd;obtain⟨C,N,O⟩:=N8.mp nd;obtain⟨J,V⟩:=Oe.mp N;rcases Nv.mp R with z|z
   .exact O q z q (by simp) rfl
   .exact J z
  have r:c.g (upd H p u) L=c.g H L:=by
   funext a
   by_cases z:a∈L\/a∈c.Hd
   .rw[mO z,mO z]
   .rw[bU (λy=>z (.inl y)) (λy=>z (.inr y)),bU (λy=>z (.inl y)) (λy=>z (.inr y)),aE λy=>z (.inl (by rw[y];exact I))]
  have K:∀q,q∈v++M1++X->∀w,H q=some w->upd H p u q=some w:=λq R w e=>by rw[aE (m q R)];exact e
  have Q:=ins (G':=c.g (upd H p u) L) (H':=upd H p u) (y:=some (.ref p)) (t:=t) (L':=[p]) (by rw[r];exact Sq.refl _) (λq R=>K q (by rcases Nv.mp R with z|z<;>simp[z])) (mk _ _ (by rw[r];exact hn _ bT));have P:Y.set i (some (.ref p))=Y:=by
   apply O8;intro j;by_cases z:j=i
   .subst z;rw[Ov (Np.mp hx).1,hx]
   .rw[OT (Pa z)]
  rw[P] at Q;refine⟨L,nd,?_,b.own,⟨λq w e=>?_,λq R=>?_⟩,b.kp.BC pk,b.lt,b.hd⟩
  .have:=(k.sm (G':=c.g (upd H p u) L) (H':=upd H p u) (by rw[r];exact Sq.refl _) (λq R=>K q (by simp[R]))).app Q;have z:v++(M1++[p]++X)=L:=by rw[l];simp
   rw[z] at this;exact this
  .obtain⟨S,h1,h2⟩:=b.fr.st q w e;by_cases z:q=p
   .subst z;refine⟨u,bT,λf=>?_⟩;rcases b.own q I with y|y
    .exact absurd y f
    .rw[y] at e;cases e
   .exact⟨S,by rw[aE z];exact h1,h2⟩
  .obtain⟨h1,⟨ob,vs,h2⟩,h3⟩:=b.fr.pk q R;refine⟨?_,⟨ob,vs,h2⟩,h3⟩;rw[aE λy=>?_]
   .exact h1
   .rw[y,h2] at h1;cases D with
    |lst e _=>rw[e] at h1;cases h1
    |dic e _=>rw[e] at h1;cases h1
    |obj e _ _=>rw[e] at h1;cases h1
    |dit e _=>rw[e] at h1;cases h1
 rcases es with ⟨rfl,rfl⟩|⟨rfl,rfl⟩
 .cases hs with
  |lv h=>exact n _ rfl rfl h (λ_ _ h=>.lv h) (λ_ z=>by cases z)
 .cases hs with
  |pv h=>exact n _ rfl rfl h (λ_ _ h=>.pv h) (λ_ z=>⟨_,e⟩)
theorem Bd.store{t:Sl}(b:Bd c Y H Z (some v::B) (t::θ))(e:Z[i]?=some s)(hs:∀o,s≠.pv o)(ht:∀o,t≠.pv o):Bd c (Y.set i (some v)) H (Z.set i t) B θ:=by
 obtain⟨L,nd,rel,own,fr,kp,lt,l⟩:=b;have rel:av c.toKx (c.g H L) H (some v::(B++Y)) (t::(θ++Z)) L:=rel;cases rel with
 |cons h r=>
  rename_i p L';obtain⟨u,L2,D,k,d⟩:=av.split (by simpa using lt) r;obtain⟨x,M1,U,X,hx,y,F,ins⟩:=d.at e;subst D F;have sub:∀a,a∈u++(M1++p++X)->a∈p++(u++(M1++U++X)):=λa ha=>by simp at ha ⊢;rcases ha with z|z|z|z<;>simp[z]
  have sm:Sq (c.g H (p++(u++(M1++U++X)))) (c.g H (u++(M1++p++X))):=cx sub;have hi:i<Z.length:=(Np.mp e).1;refine⟨u++(M1++p++X),?_,?_,λq R=>own q (sub q R),fr,kp.set (λo z=>?_) hi ht,by simpa using lt,l⟩
  .have n:(p++(u++(M1++U++X))).Perm (U++(u++(M1++p++X))):=by rw[RG];intro a;simp only[R0];lia
   exact(N8.mp ((n.nodup_iff).mp nd)).2.1
  .exact(k.sm sm (λ_ _ _ e=>e)).app (ins sm (λ_ _ _ e=>e) (h.sm sm (λ_ _ _ e=>e)))
  .rw[e] at z;exact hs o (NJ z)
end
inductive Rr where
 |rf(i:Nat)|fr(a:A)|nw(o:LO)
noncomputable abbrev Mi(α:Type):=List Sl->Option (Except Str α×List Sl)
noncomputable def aI{α β:Type}(m:Mi α)(f:α->Mi β):Mi β:=λZ=>match m Z with
 |some (.ok x,U)=>f x U
 |some (.error e,U)=>some (.error e,U)
 |none=>none
noncomputable def jK{α:Type}(x:α):Mi α:=λZ=>some (.ok x,Z)
noncomputable def bx:Rr->V->St->St
 | .rf _,_,B=>B
 | .fr _,v,B=>some v::B
 | .nw _,v,B=>some v::B
noncomputable def bz:Rr->List Sl->List Sl
 | .rf _,θ=>θ
 | .fr a,θ=>.fr a::θ
 | .nw o,θ=>.lv o::θ
def VR(Y:St):Rr->V->Prop
 | .rf i,v=>Y[i]?=some (some v)
 |_,_=>True
noncomputable def res(Z:List Sl):Rr->Option A
 | .rf i=>match Z[i]? with
  |some s=>s.a
  |none=>none
 | .fr a=>some a
 | .nw o=>some o.a
def Lu(K:Kx)(E:XK)(c:Cn)(Y:St)(Z:List Sl)(B:St)(θ:List Sl)(Q:VK):Except Str Rr->Prop
 | .ok r=>∀v H,VR Y r v->Bd c Y H Z (bx r v B) (bz r θ)->Q v H
 | .error x=>∀C H,K.mg x=some (.ref C)->Bd c Y H Z B θ->E (.ref C) none H
inductive kF(K:Kx)(E:XK)(m:Mi Rr)(Y:St)(H:Hp)(Q:VK):Prop
 |mk(c:Cn)(Z:List Sl)(B:St)(θ:List Sl)(o:Except Str Rr)(O:List Sl)(h1:c.toKx=K)(h2:Bd c Y H Z B θ)(h3:m Z=some (o,O))(h4:Lu K E c Y O B θ Q o)
def Hs(K:Kx)(E:XK)(c:Cn)(Y:St)(Z:List Sl)(B:St)(θ:List Sl)(Q:Bool->Hp->Prop):Except Str Bool->Prop
 | .ok b=>∀H,Bd c Y H Z B θ->Q b H
 | .error x=>∀C H,K.mg x=some (.ref C)->Bd c Y H Z B θ->E (.ref C) none H
inductive Af(K:Kx)(E:XK)(m:Mi Bool)(Y:St)(H:Hp)(Q:Bool->Hp->Prop):Prop
 |mk(c:Cn)(Z:List Sl)(B:St)(θ:List Sl)(o:Except Str Bool)(O:List Sl)(h1:c.toKx=K)(h2:Bd c Y H Z B θ)(h3:m Z=some (o,O))(h4:Hs K E c Y O B θ Q o)
def bE:List Rr->List V->St->St
 |r::rs,v::vs,B=>bE rs vs (bx r v B)
 |_,_,B=>B
def bI:List Rr->List Sl->List Sl
 |r::rs,θ=>bI rs (bz r θ)
 |[],θ=>θ
def hW(Y:St):List Rr->List V->Prop
 |[],[]=>True
 |r::rs,v::vs=>VR Y r v/\hW Y rs vs
 |_,_=>False
def Ia(K:Kx)(E:XK)(c:Cn)(Y:St)(Z:List Sl)(B:St)(θ:List Sl)(Q:List V->Hp->Prop):Except Str (List Rr)->Prop
 | .ok rs=>∀vs H,hW Y rs vs->Bd c Y H Z (bE rs vs B) (bI rs θ)->Q vs H
 | .error x=>∀C H,K.mg x=some (.ref C)->Bd c Y H Z B θ->E (.ref C) none H
inductive My(K:Kx)(E:XK)(m:Mi (List Rr))(Y:St)(H:Hp)(Q:List V->Hp->Prop):Prop
 |mk(c:Cn)(Z:List Sl)(B:St)(θ:List Sl)(o:Except Str (List Rr))(O:List Sl)(h1:c.toKx=K)(h2:Bd c Y H Z B θ)(h3:m Z=some (o,O))(h4:Ia K E c Y O B θ Q o)
noncomputable abbrev kx(X:Cx):Kx:=⟨X.K,X.mg,X.prog,X.w⟩
structure JE(X:Cx)(E:XK)(e:Expr)(m:Mi Rr):Prop where
 p:PE X e (kF (kx X) E m)
structure JT(X:Cx)(E:XK)(e:Expr)(m:Mi Bool):Prop where
 p:PT X e (Af (kx X) E m)
structure JW(X:Cx)(E:XK)(e:Expr)(m:Mi Bool):Prop where
 p:PW X e (Af (kx X) E m)
structure JA(X:Cx)(E:XK)(es:List Expr)(m:Mi (List Rr)):Prop where
 p:PA X es (My (kx X) E m)
variable{X:Cx}{e:Expr}
theorem PE.weaken{t t':TE}(h:PE X e t)(f:∀Y H Q,t' Y H Q->t Y H Q):PE X e t':=λpins s Y H Q I q=>h pins s Y H Q I (f Y H Q q)
variable{t':TT}
theorem PT.weaken{t:TT}(h:PT X e t)(f:∀Y H Q,t' Y H Q->t Y H Q):PT X e t':=λpins s Y H Q I q=>h pins s Y H Q I (f Y H Q q)
theorem PW.weaken{t:TT}(h:PW X e t)(f:∀Y H Q,t' Y H Q->t Y H Q):PW X e t':=λU pins s Y H Q I q=>h U pins s Y H Q I (f Y H Q q)
theorem PA.weaken{e:List Expr}{t t':TA}(h:PA X e t)(f:∀Y H Q,t' Y H Q->t Y H Q):PA X e t':=λpos pins s Y H Q I q=>h pos pins s Y H Q I (f Y H Q q)
section
variable{c:Cn}{Y:St}{H:Hp}{Z:List Sl}{B:St}{θ:List Sl}
theorem Bd.drop{r:Rr}(b:Bd c Y H Z (bx r v B) (bz r θ)):Bd c Y H Z B θ:=by
 cases r with
 |rf i=>exact b
 |fr a=>exact Bd.pop b
 |nw o=>exact Bd.pop b
theorem Bd.top{a:A}(b:Bd c Y H Z (some v::B) (s::θ))(e:s.a=some a):RA c.toKx H v a:=by
 obtain⟨L,nd,rel,_⟩:=b;have rel:av c.toKx (c.g H L) H (some v::(B++Y)) (s::(θ++Z)) L:=rel;cases rel with
 |cons h r=>obtain⟨u,z,q⟩:=h.read (g_same _ _ _) e;cases z;exact q
theorem Bd.rd{r:Rr}{a:A}(b:Bd c Y H Z (bx r v B) (bz r θ))(p:VR Y r v)(e:res Z r=some a):RA c.toKx H v a:=by
 cases r with
 |rf i=>
  unfold res at e;cases es:Z[i]? with
  |none=>simp only[es] at e;cases e
  |some s=>simp only[es] at e;obtain⟨u,h1,h2⟩:=Bd.slot b es e;have p:Y[i]?=some (some v):=p;rw[p] at h1;cases h1;exact h2
 |fr a'=>cases e;exact Bd.top b rfl
 |nw o=>cases e;exact Bd.top b rfl
theorem d5.items{x:Option V}(h:d5 k G H x s L)(sm:Sq G H):
  (∀as,s.a=some (.lst as)->∃p vs,x=some (.ref p)/\fo k.K H p vs/\bh k G vs as)/\(∀as,s.a=some (.tup as)->∃p vs,x=some (.ref p)/\cQ k.K G p vs/\bh k G vs as) /\
  (∀as,s.a=some (.dic as)->∃p vs,x=some (.ref p)/\Rd H p (.dK vs)/\nR k G vs as):=by
 have lo:∀p o,LR k G H p o->(∀as,o.a=A.lst as->∃vs,fo k.K H p vs/\bh k G vs as)/\(∀as,o.a≠A.tup as)/\(∀as,o.a=A.dic as->∃vs,Rd H p (.dK vs)/\nR k G vs as):=by
  intro p o h;cases h with
  |lst e r=>exact⟨λas z=>by cases z;exact⟨_,.inl (.inl e),r⟩,λas z=>(by cases z),λas z=>(by cases z)⟩
  |dic e r=>exact⟨λas z=>(by cases z),λas z=>(by cases z),λas z=>by cases z;exact⟨_,.inl e,r⟩⟩
  |obj e m r=>exact⟨λas z=>(by cases z),λas z=>(by cases z),λas z=>(by cases z)⟩
  |dit e r=>exact⟨λas z=>(by cases z),λas z=>(by cases z),λas z=>(by cases z)⟩
 cases h with
 |un=>exact⟨λ_ z=>(by cases z),λ_ z=>(by cases z),λ_ z=>(by cases z)⟩
 |fr h=>
  refine⟨λas z=>?_,λas z=>?_,λas z=>?_⟩
  .cases z;cases h with|lst e r=>exact⟨_,_,rfl,hZ sm e,r⟩
  .cases z;cases h with|tup e r=>exact⟨_,_,rfl,e,r⟩
  .cases z;cases h with|dic e r=>exact⟨_,_,rfl,sm.Mw e,r⟩
 |lv h=>
  rename_i p o;obtain⟨Q,U,Y⟩:=lo p o h;refine⟨λas z=>?_,λas z=>absurd (NJ z) (U as),λas z=>?_⟩
  .obtain⟨vs,h1,h2⟩:=Q as (NJ z);exact⟨p,vs,rfl,h1,h2⟩
  .obtain⟨vs,h1,h2⟩:=Y as (NJ z);exact⟨p,vs,rfl,h1,h2⟩
 |pv h=>
  rename_i p o;obtain⟨Q,U,Y⟩:=lo p o h;refine⟨λas z=>?_,λas z=>absurd (NJ z) (U as),λas z=>?_⟩
  .obtain⟨vs,h1,h2⟩:=Q as (NJ z);exact⟨p,vs,rfl,h1,h2⟩
  .obtain⟨vs,h1,h2⟩:=Y as (NJ z);exact⟨p,vs,rfl,h1,h2⟩
def vk(c:Cn)(H:Hp)(L:List Addr)(v:V)(a:A):Prop:=
  (∀as,a=.lst as->∃p vs,v=.ref p/\fo c.K H p vs/\bh c.toKx (c.g H L) vs as)/\(∀as,a=.tup as->∃p vs,v=.ref p/\cQ c.K (c.g H L) p vs/\bh c.toKx (c.g H L) vs as) /\
  (∀as,a=.dic as->∃p vs,v=.ref p/\Rd H p (.dK vs)/\nR c.toKx (c.g H L) vs as)
theorem vk.mono{a:A}(h:vk c H L v a)(s:∀a,a∈L'->a∈L):vk c H L' v a:=by
 obtain⟨h1,h2,h3⟩:=h;refine⟨λas e=>?_,λas e=>?_,λas e=>?_⟩
 .obtain⟨p,vs,d,i,q⟩:=h1 as e;exact⟨p,vs,d,i,q.sm (cx s)⟩
 .obtain⟨p,vs,d,i,q⟩:=h2 as e;exact⟨p,vs,d,cq (cx s) i,q.sm (cx s)⟩
 .obtain⟨p,vs,d,i,q⟩:=h3 as e;exact⟨p,vs,d,i,q.sm (cx s)⟩
theorem vk.of{L2:List Addr}{x:Option V}{a:A}(ex:x=some v)(h:d5 c.toKx (c.g H L) H x s L2)(ea:s.a=some a):vk c H L v a:=by
 subst ex;obtain⟨Q,U,Y⟩:=h.items (g_same _ _ _);refine⟨λas z=>?_,λas z=>?_,λas z=>?_⟩<;>subst z
 .obtain⟨p,vs,q,h1,h2⟩:=Q as ea;exact⟨p,vs,NJ q,h1,h2⟩
 .obtain⟨p,vs,q,h1,h2⟩:=U as ea;exact⟨p,vs,NJ q,h1,h2⟩
 .obtain⟨p,vs,q,h1,h2⟩:=Y as ea;exact⟨p,vs,NJ q,h1,h2⟩
theorem dZ.open{r:Rr}{a:A}{q:List Addr}(b:dZ c Y H Z (bx r v B) (bz r θ) q)(u:VR Y r v)(e:res Z r=some a):∃L,(∀a,a∈L->a∈q)/\dZ c Y H Z B θ L/\vk c H L v a:=by
 have w:∀s,dZ c Y H Z (some v::B) (s::θ) q->s.a=some a->∃L,(∀a,a∈L->a∈q)/\dZ c Y H Z B θ L/\vk c H L v a:=by
  intro s b ea;obtain⟨nd,rel,own,fr,kp,lt,l⟩:=b;have rel:av c.toKx (c.g H q) H (some v::(B++Y)) (s::(θ++Z)) q:=rel;cases rel with
  |cons h r=>rename_i y L2;have sm:Sq (c.g H (y++L2)) (c.g H L2):=cx λa ha=>Nq _ ha;exact⟨L2,λa ha=>Nq _ ha,⟨(N8.mp nd).2.1,r.sm sm (λ_ _ _ e=>e),λp hp=>own p (Nq _ hp),fr,kp,by simpa using lt,l⟩,vk.of rfl (h.sm sm (λ_ _ _ e=>e)) ea⟩
 cases r with
 |rf i=>
  unfold res at e;cases es:Z[i]? with
  |none=>simp only[es] at e;cases e
  |some s=>simp only[es] at e;obtain⟨y,L2,D,k,d⟩:=av.split b.lt b.rel;obtain⟨x,_,_,_,hx,hs,_⟩:=d.at es;have u:Y[i]?=some (some v):=u;rw[u] at hx;exact⟨q,λ_ h=>h,b,vk.of (NJ hx).symm hs e⟩
 |fr a'=>exact w _ b e
 |nw o=>exact w _ b e
theorem Bd.open{r:Rr}{v:V}{a:A}(b:Bd c Y H Z (bx r v B) (bz r θ))(u:VR Y r v)(e:res Z r=some a):∃L,dZ c Y H Z B θ L/\vk c H L v a:=by obtain⟨L,b⟩:=b;obtain⟨L',_,h⟩:=b.open u e;exact⟨L',h⟩
theorem Bd.zo{r x:Rr}{s:V}{a a':A}(b:Bd c Y H Z (bx x s (bx r v B)) (bz x (bz r θ)))(u:VR Y r v)(i:VR Y x s)(e:res Z r=some a)(e':res Z x=some a'):∃L,dZ c Y H Z B θ L/\vk c H L v a/\vk c H L s a':=by obtain⟨L,b⟩:=b;obtain⟨y,s1,h,w⟩:=b.open i e';obtain⟨L2,s2,z,I⟩:=h.open u e;exact⟨L2,z,I,w.mono s2⟩
end
variable{x:Str}{pos:Pos}{α β:Type}{O:List Sl}{Q:VK}{r:R2}{mb m:Mi Rr}{b:Expr}{op:CmpOp}{es:List Expr}
section
variable{X:Cx}{E:XK}
noncomputable def af(i:Nat):Mi Rr:=λZ=>match Z[i]? with
 |some (.fr a)=>some (.ok (.fr a),Z)
 |some (.lv _)=>some (.ok (.rf i),Z)
 |some (.pv _)=>some (.ok (.rf i),Z)
 |_=>none
noncomputable def aZ(i:Nat):Mi Rr:=λZ=>match Z[i]? with
 |some (.fr a)=>some (.ok (.fr a),Z)
 |some (.lv o)=>some (.ok (.fr o.a),Z.set i (.fr o.a))
 |_=>none
noncomputable def mC(a:A):Mi Rr:=λZ=>some (.ok (.fr a),Z)
theorem Ec(u:X.N[i]?=some x)(p:pH X.env.scope x)(hd:gq x)(C:uR x):JE X E (.Name x pos) (af i):=
 ⟨PE.weaken (dF u p hd C) λY H Q h=>by
  obtain⟨c,Z,B,θ,o,O,e,b,em,q⟩:=h;unfold af at em;cases es:Z[i]? with
  |none=>simp only[es] at em;cases em
  |some s=>
   cases s with
   |un=>simp only[es] at em;cases em
   |fr a=>simp only[es] at em;cases em;obtain⟨v,h1,h2⟩:=b.load es;exact⟨v,h1,q v H trivial h2⟩
   |lv o=>simp only[es] at em;cases em;obtain⟨v,h1,h2⟩:=b.slot es rfl;exact⟨v,h1,q v H h1 b⟩
   | pv o=>simp only[es] at em;cases em;obtain⟨v,h1,h2⟩:=b.slot es rfl;exact⟨v,h1,q v H h1 b⟩⟩
theorem Bc(u:X.N[i]?=some x)(p:pH X.env.scope x)(hd:gq x)(C:uR x):JE X E (.Name x pos) (aZ i):=
 ⟨PE.weaken (dF u p hd C) λY H Q h=>by
  obtain⟨c,Z,B,θ,o,O,e,b,em,q⟩:=h;unfold aZ at em;cases es:Z[i]? with
  |none=>simp only[es] at em;cases em
  |some s=>
   cases s with
   |un=>simp only[es] at em;cases em
   |fr a=>simp only[es] at em;cases em;obtain⟨v,h1,h2⟩:=b.load es;exact⟨v,h1,q v H trivial h2⟩
   |lv o=>simp only[es] at em;cases em;have r:=b.sO es;have hi:i<Z.length:=(Np.mp es).1;obtain⟨v,h1,h2⟩:=r.load (i:=i) (a:=o.a) (Ov hi);exact⟨v,h1,q v H trivial h2⟩
   | pv o=>simp only[es] at em;cases em⟩
theorem wm{a:A}(h:PE X e (tC v))(r:∀G,RA (kx X) G v a):JE X E e (mC a):=⟨PE.weaken h λY H Q h=>by obtain⟨c,Z,B,θ,o,O,L,b,em,q⟩:=h;cases em;exact q v H trivial (b.push (by rw[L];exact r))⟩
theorem FQ{i j pos}:JE X E (.Constant (.int i) j pos) (mC (.int i)):=wm Fo λ_=>.int _
theorem Hv{b j pos}:JE X E (.Constant (.bool b) j pos) (mC (.bl b)):=wm HD λ_=>.bl _
theorem Dz{j pos}:JE X E (.Constant .none j pos) (mC .non):=wm GR λ_=>.non
theorem DH{x j pos}:JE X E (.Constant (.str x) j pos) (mC (.str x)):=wm Er λ_=>.str _
theorem BX{u:Value}{a:A}(j:Gl X x)(hm:X.mg x=some u)(r:RelV v u)(H:∀G,RA (kx X) G v a)(hd:gq x):JE X E (.Name x pos) (mC a):=wm (AZ j hm r hd) H
def ay(f:A->A->Option Rr)(D mb:Mi Rr):Mi Rr:=aI D λx=>aI mb λy=>λZ=>match res Z x,res Z y with
 |some a,some b=>match f a b with
  |some r=>some (.ok r,Z)
  |none=>none
 |_,_=>none
def gm(K:Kx)(r:R2)(f:A->A->Option Rr):Prop:=∀(c:Cn)(Y:St)(H:Hp)(Z:List Sl)(B:St)(θ:List Sl)(x y:Rr)(v w:V)(a b:A)(q:Rr)(Q:VK),c.toKx=K->VR Y x v->VR Y y w->
 Bd c Y H Z (bx y w (bx x v B)) (bz y (bz x θ))->res Z x=some a->res Z y=some b->f a b=some q->(∀u H',VR Y q u->Bd c Y H' Z (bx q u B) (bz q θ)->Q u H')->r v w H Q
theorem bind_some{m:Mi α}{f:α->Mi β}{o:Except Str β}(h:aI m f Z=some (o,O)):(∃x U,m Z=some (.ok x,U)/\f x U=some (o,O))\/∃e,m Z=some (.error e,O)/\o=.error e:=by
 unfold aI at h;cases e:m Z with
 |none=>simp only[e] at h;cases h
 |some p=>
  obtain⟨r,U⟩:=p;cases r with
  |ok x=>simp only[e] at h;exact .inl ⟨x,U,rfl,h⟩
  |error x=>simp only[e] at h;cases h;exact .inr ⟨x,rfl,rfl⟩
theorem aT{Y:St}{B:St}{D:Mi Rr}{f:Rr->Mi β}{o:Except Str β}(L:c.toKx=kx X)(b:Bd c Y H Z B θ)(em:aI D f Z=some (o,O))
  (h1:∀x v U T,VR Y x v->Bd c Y T U (bx x v B) (bz x θ)->f x U=some (o,O)->Q v T)
  (h2:∀e,o=.error e->∀C H,X.mg e=some (.ref C)->Bd c Y H O B θ->E (.ref C) none H):kF (kx X) E D Y H Q:=by
 rcases bind_some em with ⟨x,U,G,F⟩|⟨e,G,F⟩
 .exact⟨c,Z,B,θ,_,U,L,b,G,λv T u h=>h1 x v U T u h F⟩
 .exact⟨c,Z,B,θ,_,O,L,b,G,λC T hm h=>h2 e F C T hm h⟩
theorem fz{Y:St}{B:St}{x:Rr}{o:Except Str β}(h:∀e,o=.error e->∀C H,X.mg e=some (.ref C)->Bd c Y H O B θ->E (.ref C) none H):
  ∀e,o=.error e->∀C H,X.mg e=some (.ref C)->Bd c Y H O (bx x v B) (bz x θ)->E (.ref C) none H:=λe s C H hm b=>h e s C H hm b.drop
theorem aX{Y:St}{B:St}{o:Except Str Rr}(q:Lu (kx X) E c Y O B θ Q o):∀e,o=.error e->∀C H,X.mg e=some (.ref C)->Bd c Y H O B θ->E (.ref C) none H:=λe s=>by subst s;exact q
theorem g8{Y:St}{B:St}{o:Except Str Bool}{Q:Bool->Hp->Prop}(q:Hs (kx X) E c Y O B θ Q o):∀e,o=.error e->∀C H,X.mg e=some (.ref C)->Bd c Y H O B θ->E (.ref C) none H:=λe s=>by subst s;exact q
theorem wN{Y:St}{B:St}{o:Except Str (List Rr)}{Q:List V->Hp->Prop}(q:Ia (kx X) E c Y O B θ Q o):∀e,o=.error e->∀C H,X.mg e=some (.ref C)->Bd c Y H O B θ->E (.ref C) none H:=λe s=>by subst s;exact q
theorem tP{f:A->A->Option Rr}{x y:Rr}{o:Except Str Rr}(h:(match res Z x,res Z y with|some a,some b=>(match f a b with|some r=>some ((.ok r:Except Str Rr),Z)|none=>none)|_,_=>none)=some (o,O)):
  ∃a b r,res Z x=some a/\res Z y=some b/\f a b=some r/\o=.ok r/\O=Z:=by
 cases D:res Z x with
 |none=>simp only[D] at h;cases h
 |some a=>
  cases F:res Z y with
  |none=>simp only[D,F] at h;cases h
  |some b=>
   simp only[D,F] at h;cases H:f a b with
   |none=>simp only[H] at h;cases h
   |some r=>simp only[H] at h;cases h;exact⟨a,b,r,rfl,rfl,H,rfl,rfl⟩
theorem gN{f:A->A->Option Rr}{D:Mi Rr}(hf:gm (kx X) r f)(Y:St)(H:Hp)(Q:VK)(h:kF (kx X) E (ay f D mb) Y H Q):IP r (kF (kx X) E D) (kF (kx X) E mb) Y H Q:=by obtain⟨c,Z,B,θ,o,O,e,b,em,q⟩:=h;refine aT e b em (λx v U T u i K=>?_) (aX q);refine aT e i K (λy w Z0 S m z L=>?_) (fz (aX q));obtain⟨a,d,r,G,F,n,rfl,rfl⟩:=tP L;exact hf c Y S _ B θ x y v w a d r Q e u m z G F n q
theorem kU{op:Operator}{f:A->A->Option Rr}{a:Expr}{D:Mi Rr}(ho:fG X (binaryOp op) r)(hf:gm (kx X) r f)(ha:JE X E a D)(hb:JE X E b mb):JE X E (.BinOp a op b pos) (ay f D mb):=
 ⟨PE.weaken (HH ho ha.p hb.p) (gN hf)⟩
theorem gB{f:A->A->Option Rr}{a:Expr}{D:Mi Rr}(ho:fG X (compareOp op) r)(hf:gm (kx X) r f)(ha:JE X E a D)(hb:JE X E b mb)(hm:behindInMarks op b=false):JE X E (.Compare a [op] [b] pos) (ay f D mb):=
 ⟨PE.weaken (Bu ho ha.p hb.p hm) (gN hf)⟩
noncomputable def MX:Rr->Option Bool
 | .fr (.bl b)=>some b
 |_=>none
def au(m:Mi Rr):Mi Bool:=aI m λr Z=>match MX r with
 |some b=>some (.ok b,Z)
 |none=>none
theorem hY(Y:St)(H:Hp)(Q:Bool->Hp->Prop)(h:Af (kx X) E (au m) Y H Q):kF (kx X) E m Y H λx H'=>∃k,x=.bl k/\Q k H':=by
 obtain⟨c,Z,B,θ,o,O,L,b,em,q⟩:=h;refine aT L b em (λx v U T u e K=>?_) (g8 q);cases x with
 |rf i=>cases K
 |nw o=>cases K
 |fr a=>
  cases a with
  |bl k=>cases K;have r:=Bd.top e (a:=.bl k) rfl;cases r;exact⟨k,rfl,q T e.pop⟩
  |_=>cases K
theorem gx{f:A->A->Option Rr}{a:Expr}{D:Mi Rr}(ho:fG X (compareOp op) r)(hf:gm (kx X) r f)(ha:JE X E a D)(hb:JE X E b mb)(hm:behindInMarks op b=false):JT X E (.Compare a [op] [b] pos) (au (ay f D mb)):=
 ⟨PT.weaken (BU ho ha.p hb.p hm) λY H Q h=>gN hf Y H _ (hY Y H Q h)⟩
theorem DJ(h:JE X E e m)(he:∀whole,isTrue e X.env whole=(do let v <- whole;standAt e.pos;holding [v] (truthy v)):=by intro _;rfl):JT X E e (au m):=
 ⟨PT.weaken (Fx h.p he) λY H Q h=>hY Y H Q h⟩
def oU(m n:Mi Bool):Mi Bool:=aI m λb=>if b then n else jK false
def zE(m n:Mi Bool):Mi Bool:=aI m λb=>if b then jK true else n
def mV(m:Mi Bool):Mi Bool:=aI m λb=>jK (!b)
theorem i8{Y:St}{B:St}{m:Mi Bool}{f:Bool->Mi β}{o:Except Str β}{Q:Bool->Hp->Prop}(L:c.toKx=kx X)(b:Bd c Y H Z B θ)(em:aI m f Z=some (o,O))
  (h1:∀k U T,Bd c Y T U B θ->f k U=some (o,O)->Q k T)
  (h2:∀e,o=.error e->∀C H,X.mg e=some (.ref C)->Bd c Y H O B θ->E (.ref C) none H):Af (kx X) E m Y H Q:=by
 rcases bind_some em with ⟨x,U,D,F⟩|⟨e,D,F⟩
 .exact⟨c,Z,B,θ,_,U,L,b,D,λT h=>h1 x U T h F⟩
 .exact⟨c,Z,B,θ,_,O,L,b,D,λC T hm h=>h2 e F C T hm h⟩
theorem D5{a:Expr}{m:Mi Bool}(h:JT X E a m):JT X E (.UnaryOp .Not a pos) (mV m):=⟨PT.weaken (FA h.p) λY H Q h=>by obtain⟨c,Z,B,θ,o,O,L,b,em,q⟩:=h;refine i8 L b em (λk U T e K=>?_) (g8 q);cases K;exact q T e⟩
theorem Bl{a:Expr}{m:Mi Bool}(h:JT X E a m):JW X E (.BoolOp .And [a] pos) m:=⟨BJ h.p⟩
theorem Ea{a:Expr}{m:Mi Bool}(h:JT X E a m):JW X E (.BoolOp .Or [a] pos) m:=⟨FU h.p⟩
theorem ET{a:Expr}{rest:List Expr}{m n:Mi Bool}(h:JT X E a m)(h':JW X E (.BoolOp .And (b::rest) pos) n):JW X E (.BoolOp .And (a::b::rest) pos) (oU m n):=⟨PW.weaken (EJ h.p h'.p) λY H Q h=>by
 obtain⟨c,Z,B,θ,o,O,L,b,em,q⟩:=h;refine i8 L b em (λk U T e K=>?_) (g8 q);cases k with
 |true=>rw[if_pos rfl];exact⟨c,U,B,θ,o,O,L,e,K,q⟩
 | false=>rw[if_neg (by decide)];cases K;exact q T e⟩
theorem HR{a:Expr}{rest:List Expr}{m n:Mi Bool}(h:JT X E a m)(h':JW X E (.BoolOp .Or (b::rest) pos) n):JW X E (.BoolOp .Or (a::b::rest) pos) (zE m n):=⟨PW.weaken (Jv h.p h'.p) λY H Q h=>by
 obtain⟨c,Z,B,θ,o,O,L,b,em,q⟩:=h;refine i8 L b em (λk U T e K=>?_) (g8 q);cases k with
 |true=>rw[if_pos rfl];cases K;exact q T e
 | false=>rw[if_neg (by decide)];exact⟨c,U,B,θ,o,O,L,e,K,q⟩⟩
theorem Jl{m:Mi Bool}(h:JW X E e m):JT X E e m:=⟨h.p.pt⟩
def nX(m n:Mi Rr):Mi Rr:=aI (au m) λb=>if b then n else mC (.bl false)
def tG(m:Mi Rr):Mi Rr:=aI (au m) λb=>mC (.bl (!b))
theorem tF{Y:St}{B:St}{f:Bool->Mi β}{o:Except Str β}{Q:Bool->Hp->Prop}(L:c.toKx=kx X)(b:Bd c Y H Z B θ)(em:aI (au m) f Z=some (o,O))
  (h1:∀k U T,Bd c Y T U B θ->f k U=some (o,O)->Q k T)
  (h2:∀e,o=.error e->∀C H,X.mg e=some (.ref C)->Bd c Y H O B θ->E (.ref C) none H):kF (kx X) E m Y H λx H'=>∃k,x=.bl k/\Q k H':=
 hY Y H Q (i8 L b em h1 h2)
theorem EZ{op}{a:Expr}(h:JE X E a m):JE X E (.BoolOp op [a] pos) m:=⟨Eg h.p⟩
theorem E3{a:Expr}{rest:List Expr}{n:Mi Rr}(h:JE X E a m)(h':JE X E (.BoolOp .And (b::rest) pos) n):JE X E (.BoolOp .And (a::b::rest) pos) (nX m n):=⟨PE.weaken (GO h.p h'.p) λY H Q h=>by
 obtain⟨c,Z,B,θ,o,O,L,b,em,q⟩:=h;refine tF (Q:=λk T=>if k=true then kF (kx X) E n Y T Q else Q (.bl false) T) L b em (λk U T e K=>?_) (aX q);cases k with
 |true=>rw[if_pos rfl];exact⟨c,U,B,θ,o,O,L,e,K,q⟩
 | false=>rw[if_neg (by decide)];cases K;exact q (.bl false) T trivial (e.push λ_=>.bl _)⟩
theorem Es{a:Expr}(h:JE X E a m):JE X E (.UnaryOp .Not a pos) (tG m):=⟨PE.weaken (Gw h.p) λY H Q h=>by obtain⟨c,Z,B,θ,o,O,L,b,em,q⟩:=h;refine tF (Q:=λk T=>Q (.bl (!k)) T) L b em (λk U T e K=>?_) (aX q);cases K;exact q (.bl (!k)) T trivial (e.push λ_=>.bl _)⟩
def cM:Mi (List Rr):=jK []
def gT(m:Mi Rr)(n:Mi (List Rr)):Mi (List Rr):=aI m λr=>aI n λrs=>jK (r::rs)
theorem pJ:JA X E [] cM:=⟨PA.weaken bZ λY H Q h=>by obtain⟨c,Z,B,θ,o,O,L,b,em,q⟩:=h;cases em;exact q [] H trivial b⟩
theorem mP{n:Mi (List Rr)}(h:JE X E e m)(h':JA X E es n)(hs:starEach (e::es) X.env=(false,eval e X.env)::starEach es X.env:=by rfl):JA X E (e::es) (gT m n):=⟨PA.weaken (bb h.p h'.p hs) λY H Q h=>by
 obtain⟨c,Z,B,θ,o,O,ek,b,em,q⟩:=h;refine aT ek b em (λx v U H1 hv b1 em1=>?_) (wN q);rcases bind_some em1 with ⟨rs,Z0,e1,e2⟩|⟨e,e1,e2⟩
 .cases e2;exact⟨c,U,_,_,_,O,ek,b1,e1,λvs H2 hvs b2=>q (v::vs) H2 ⟨hv,hvs⟩ b2⟩
 .subst e2;exact⟨c,U,_,_,_,O,ek,b1,e1,λC H2 hm b2=>q C H2 hm b2.drop⟩⟩
end
variable{ss:List Sl}{rs:List Rr}
section
variable{c:Cn}{Y:St}{H:Hp}{Z:List Sl}{B:St}{θ:List Sl}
theorem vU{l:List α}{x:α}(h:l[i]?=some x):l.set i x=l:=by
 apply O8;intro j;by_cases z:j=i
 .subst z;rw[Ov (Np.mp h).1,h]
 .rw[OT (Pa z)]
theorem Im(h:∀a,a∈L↔a∈L'):c.g H L=c.g H L':=by
 funext a
 by_cases z:a∈L\/a∈c.Hd
 .rw[mO z,mO (by rwa[<-h a])]
 .rw[bU (λy=>z (.inl y)) (λy=>z (.inr y)),bU (λy=>z (.inl ((h a).mpr y))) (λy=>z (.inr y))]
theorem dZ.perm(b:dZ c Y H Z B θ L){J:St}{T:List Sl}(pm:L'.Perm L)(lt:J.length=T.length)(r:av c.toKx (c.g H L) H (J++Y) (T++O) L')(kp:dY c.σ0 Y O):dZ c Y H O J T L':=
 ⟨(pm.nodup_iff).mpr b.nd,by rw[Im (L':=L) λa=>pm.mem_iff];exact r,λp hp=>b.own p (pm.mem_iff.mp hp),b.fr,kp,lt,b.hd⟩
theorem Bd.JQ{xs:St}(e:xs.length=ss.length)(b:Bd c Y H Z (xs++some v::B) (ss++.lv o::θ)):Bd c Y H Z (xs++some v::B) (ss++.fr o.a::θ):=by
 obtain⟨L,b⟩:=b;have r:av c.toKx (c.g H L) H (xs++(some v::(B++Y))) (ss++(.lv o::(θ++Z))) L:=by have:=b.rel;simpa[Nj] using this
 obtain⟨y,L2,D,k,d⟩:=av.split e r;cases d with
 |cons h Q=>
  rename_i i x;cases h with
  |lv h=>
   rename_i p;have nd:=b.nd;rw[D] at nd;have hp:p∉y++x:=by
    obtain⟨A,I,m⟩:=N8.mp nd;obtain⟨J,N⟩:=Oe.mp I;intro z;rcases Nv.mp z with z|z
    .exact m p z p (by simp) rfl
    .exact J z
   have sub:∀a,a∈y++x->a∈L:=λa ha=>by rw[D];simp at ha ⊢;rcases ha with z|z<;>simp[z]
   have sm:Sq (c.g H L) (c.g H (y++x)):=cx sub;have P:p∈L:=by rw[D];simp
   refine⟨y++x,?_,?_,λq R=>b.own q (sub q R),b.fr,b.kp,by have:=b.lt;simp at this ⊢;omega,b.hd⟩
   .obtain⟨A,I,m⟩:=N8.mp nd;exact N8.mpr ⟨A,(Oe.mp I).2,λa ha X hb=>m a ha X (Nt _ hb)⟩
   .have:=(k.sm sm (λ_ _ _ e=>e)).app (av.cons (L:=[]) (.fr (h.a' sm λu e=>by rw[bU hp (b.G8 P)];exact e)) (Q.sm sm (λ_ _ _ e=>e)));simpa[Nj] using this
theorem Bd.Ao{xs:St}{a:A}(e:xs.length=ss.length)(b:Bd c Y H Z (xs++B) (ss++θ))(u:Y[i]?=some (some v))(hs:Z[i]?=some (.fr a)):Bd c Y H Z (xs++some v::B) (ss++.fr a::θ):=by
 obtain⟨L,b⟩:=b;obtain⟨M1,U,_,_,d⟩:=av.split b.lt b.rel;obtain⟨x,_,_,_,hx,q,_⟩:=d.at hs;rw[u] at hx;cases hx;cases q with
 |fr h=>
  have r:av c.toKx (c.g H L) H (xs++(B++Y)) (ss++(θ++Z)) L:=by have:=b.rel;simpa[Nj] using this
  obtain⟨y,L2,D,k,d⟩:=av.split e r;refine⟨L,b.nd,?_,b.own,b.fr,b.kp,by have:=b.lt;simp at this ⊢;lia,b.hd⟩;have:=k.app (av.cons (L:=[]) (.fr h) d);rw[D] at this ⊢;simpa[Nj] using this
theorem zp(v L2 M1 X:List Addr)(p:Addr):(v++p::(L2++(M1++X))).Perm (v++(L2++(M1++p::X))):=by rw[RG];intro a;simp only[R0,UL];lia
theorem Bd.xp{xs:St}(e:xs.length=ss.length)(b:Bd c Y H Z (xs++B) (ss++θ))(u:Y[i]?=some (some v))(hs:Z[i]?=some s)(hk:s=.lv o\/s=.pv o):
  Bd c Y H (Z.set i .un) (xs++some v::B) (ss++.lv o::θ):=by
 obtain⟨L,b⟩:=b;have r:av c.toKx (c.g H L) H (xs++(B++Y)) (ss++(θ++Z)) L:=by have:=b.rel;simpa[Nj] using this
 obtain⟨a,L2,D,k,d⟩:=av.split e r;obtain⟨n,P,F,Q,r4⟩:=av.split (by have:=b.lt;simp at this;lia) d;obtain⟨x,M1,U,X,hx,q,O,ins⟩:=r4.at hs;rw[u] at hx;cases hx;have fin:∀p,v=.ref p->U=[p]->LR c.toKx (c.g H L) H p o->Bd c Y H (Z.set i .un) (xs++some v::B) (ss++.lv o::θ):=by
  intro p E em h;subst E em;have w:=ins (y:=some (.ref p)) (t:=.un) (L':=[]) (Sq.refl _) (λ_ _ _ e=>e) (.un _);rw[vU u] at w;have I:=k.app (av.cons (d5.lv h) (Q.app w));have pm:(a++([p]++(n++(M1++[]++X)))).Perm L:=by rw[D,F,O];simpa using zp a n M1 X p
  exact⟨_,b.perm pm (by have:=b.lt;simp at this ⊢;lia) (by simpa[Nj] using I) (b.kp.BC (λo z=>by cases z))⟩
 rcases hk with rfl|rfl
 .cases q with|lv h=>exact fin _ rfl rfl h
 .cases q with|pv h=>exact fin _ rfl rfl h
theorem Bd.putBack{t:Sl}(b:Bd c Y H Z (some v::B) (.lv o::θ))(u:Y[i]?=some (some v))(hs:Z[i]?=some .un)(hk:t=.lv o\/(t=.pv o/\Y[i]?=c.σ0[i]?)):Bd c Y H (Z.set i t) B θ:=by
 obtain⟨L,b⟩:=b;have r:av c.toKx (c.g H L) H (some v::(B++Y)) (.lv o::(θ++Z)) L:=b.rel;cases r with
 |cons h r=>
  rename_i m L';obtain⟨y,L2,D,k,d⟩:=av.split (by have:=b.lt;simpa using this) r;obtain⟨x,M1,U,X,hx,l,O,ins⟩:=d.at hs;cases l with
  |un=>
   cases h with
   |lv h=>
    rename_i p;have fin:d5 c.toKx (c.g H ([p]++L')) H (some (.ref p)) t [p]->dY c.σ0 Y (Z.set i t)->Bd c Y H (Z.set i t) B θ:=λh kp=>by
     have w:=ins (Sq.refl _) (λ_ _ _ e=>e) h;rw[vU u] at w;have pm:(y++(M1++[p]++X)).Perm ([p]++L'):=by rw[D,O];rw[RG];intro a;simp only[R0,UL,List.count_nil];lia
     exact⟨_,b.perm pm (by have:=b.lt;simpa using this) (k.app w) kp⟩
    rcases hk with rfl|⟨rfl,hk⟩
    .exact fin (.lv h) (b.kp.BC (λ_ z=>by cases z))
    .refine fin (.pv h) λj o' q=>?_;by_cases z:j=i
     .subst z;exact hk
     .rw[OT (Pa z)] at q;exact b.kp j o' q
theorem bM:∀(rs:List Rr)(vs:List V)(B:St),bE rs vs B=bE rs vs []++B
 |[],_,B=>rfl
 |r::rs,[],B=>rfl
 |r::rs,v::vs,B=>by
  show bE rs vs (bx r v B)=bE rs vs (bx r v [])++B;rw[bM rs vs (bx r v B),bM rs vs (bx r v []),Nj]
  congr 1
  cases r<;>rfl
theorem bK:∀(rs:List Rr)(θ:List Sl),bI rs θ=bI rs []++θ
 |[],θ=>rfl
 |r::rs,θ=>by
  show bI rs (bz r θ)=bI rs (bz r [])++θ;rw[bK rs (bz r θ),bK rs (bz r []),Nj]
  congr 1
  cases r<;>rfl
theorem hW.len:∀{rs:List Rr}{vs:List V},hW Y rs vs->rs.length=vs.length
 |[],[],_=>rfl
 |_::rs,_::vs,h=>by rw[NM,NM,hW.len h.2]
 |[],_::_,h=>h.elim
 |_::_,[],h=>h.elim
theorem jh:∀(rs:List Rr)(vs:List V),rs.length=vs.length->(bE rs vs []).length=(bI rs []).length
 |[],[],_=>rfl
 |r::rs,v::vs,h=>by
  show (bE rs vs (bx r v [])).length=(bI rs (bz r [])).length;rw[bM,bK,Ny,Ny,jh rs vs (by simpa using h)]
  congr 1
  cases r<;>rfl
 |[],_::_,h=>by simp at h
 |_::_,[],h=>by simp at h
noncomputable def bg:Rr->List Sl->Option (A×List Sl)
 | .fr a,Z=>some (a,Z)
 | .nw o,Z=>some (o.a,Z)
 | .rf i,Z=>match Z[i]? with
  |some (.lv o)=>some (o.a,Z.set i (.fr o.a))
  |some (.fr a)=>some (a,Z)
  |_=>none
def dU:List Rr->List Sl->Option (List A×List Sl)
 |[],Z=>some ([],Z)
 |r::rs,Z=>match bg r Z with
  |some (a,U)=>match dU rs U with
   |some (as,Z0)=>some (a::as,Z0)
   |none=>none
  |none=>none
theorem Bd.bg{r:Rr}{v:V}{a:A}{O:List Sl}{xs:St}{ss:List Sl}(e:xs.length=ss.length)(b:Bd c Y H Z (xs++bx r v B) (ss++bz r θ))(u:VR Y r v)(h:bg r Z=some (a,O)):Bd c Y H O (xs++some v::B) (ss++.fr a::θ):=by
 cases r with
 |fr a'=>cases h;exact b
 |nw o=>cases h;exact Bd.JQ e b
 |rf i=>
  unfold M.bg at h;cases es:Z[i]? with
  |none=>simp only[es] at h;cases h
  |some s=>
   cases s with
   |un=>simp only[es] at h;cases h
   |pv o=>simp only[es] at h;cases h
   |fr a'=>simp only[es] at h;cases h;exact Bd.Ao e b u es
   |lv o=>simp only[es] at h;cases h;have z:=Bd.sO b es;exact Bd.Ao e z u (Ov (Np.mp es).1)
theorem uf{r:Rr}{as:List A}(h:dU (r::rs) Z=some (as,O)):∃a Y U,bg r Z=some (a,U)/\dU rs U=some (Y,O)/\as=a::Y:=by
 unfold dU at h;cases D:bg r Z with
 |none=>simp only[D] at h;cases h
 |some p=>
  obtain⟨a,U⟩:=p;simp only[D] at h;cases F:dU rs U with
  |none=>simp only[F] at h;cases h
  |some q=>obtain⟨Y,Z0⟩:=q;simp only[F] at h;cases h;exact⟨a,Y,U,rfl,F,rfl⟩
theorem Bd.dU:∀{rs:List Rr}{vs:List V}{as:List A}{Z O:List Sl}{B:St}{θ:List Sl},hW Y rs vs->Bd c Y H Z (bE rs vs B) (bI rs θ)->dU rs Z=some (as,O)->Bd c Y H O (vs.reverse.map some++B) (as.reverse.map Sl.fr++θ)/\vs.length=as.length
 |[],[],_,_,_,_,_,_,b,h=>by cases h; exact ⟨b,rfl⟩
 |r :: rs,v :: vs,_,Z,O,B,θ,hv,b,h=>by obtain ⟨a,as,U,D,F,rfl⟩:=uf h;have b:Bd c Y H Z (bE rs vs (bx r v B)) (bI rs (bz r θ)):=b;rw [bM,bK] at b;have e:=Bd.bg (jh rs vs (hW.len hv.2)) b hv.1 D;rw[<-bM rs vs (some v::B),<-bK rs (.fr a::θ)] at e;obtain⟨z,n⟩:=Bd.dU hv.2 e F;exact⟨by simpa using z,by simp[n]⟩
 |[],_::_,_,_,_,_,_,h,_,_=>h.elim
 |_::_,[],_,_,_,_,_,h,_,_=>h.elim
end
section
variable{X:Cx}{E:XK}
theorem sU{Y:St}{B:St}{m:Mi (List Rr)}{f:List Rr->Mi β}{o:Except Str β}{Q:List V->Hp->Prop}(L:c.toKx=kx X)(b:Bd c Y H Z B θ)(em:aI m f Z=some (o,O))
  (h1:∀rs vs U T,hW Y rs vs->Bd c Y T U (bE rs vs B) (bI rs θ)->f rs U=some (o,O)->Q vs T)
  (h2:∀e,o=.error e->∀C H,X.mg e=some (.ref C)->Bd c Y H O B θ->E (.ref C) none H):My (kx X) E m Y H Q:=by
 rcases bind_some em with ⟨x,U,D,F⟩|⟨e,D,F⟩
 .exact⟨c,Z,B,θ,_,U,L,b,D,λvs T u h=>h1 x vs U T u h F⟩
 .exact⟨c,Z,B,θ,_,O,L,b,D,λC T hm h=>h2 e F C T hm h⟩
def bR(m:Mi (List Rr)):Mi Rr:=aI m λrs Z=>match dU rs Z with
 |some (as,O)=>if as.length<=1000 then some (.ok (.fr (.tup as)),O) else none
 |none=>none
def cX(m:Mi (List Rr)):Mi Rr:=aI m λrs Z=>match dU rs Z with
 |some (as,O)=>if as.length<=1000 then some (.ok (.nw (.lst as)),O) else none
 |none=>none
theorem qR{as:List A}:∀G,bh k G vs.reverse as.reverse->bh k G vs as:=λG h=>by have:=h.rev;simpa using this
theorem oy:1000<=sizeLine:=by rw[sizeLine_eq];decide
theorem El{m:Mi (List Rr)}{x1 pos}(h:JA X E es m):JE X E (.Tuple es x1 pos) (bR m):=⟨PE.weaken (Gx h.p) λY H Q h=>by
 obtain⟨c,Z,B,θ,o,O,L,b,em,q⟩:=h;refine sU L b em (λrs vs U T u e K=>?_) (aX q);cases D:dU rs U with
 |none=>simp only[D] at K;cases K
 |some p=>
  obtain⟨as,Z0⟩:=p;simp only[D] at K;obtain⟨z,F⟩:=Bd.dU u e D;split at K
  .rename_i hl;cases K;exact⟨by have:=oy;lia,λp hp=>q (.ref p) _ trivial (Bd.E5 z (by simp[F]) hp vs as qR)⟩
  .cases K⟩
theorem E9{m:Mi (List Rr)}{pos}(h:JA X E es m):JE X E (.List es pos) (cX m):=⟨PE.weaken (G5 h.p) λY H Q h=>by
 obtain⟨c,Z,B,θ,o,O,L,b,em,q⟩:=h;refine sU L b em (λrs vs U T u e K=>?_) (aX q);cases D:dU rs U with
 |none=>simp only[D] at K;cases K
 |some p=>
  obtain⟨as,Z0⟩:=p;simp only[D] at K;obtain⟨z,F⟩:=Bd.dU u e D;split at K
  .rename_i hl;cases K;exact⟨by have:=oy;lia,λp hp=>q (.ref p) _ trivial (Bd.wg z (by simp[F]) hp vs as qR)⟩
  .cases K⟩
end
inductive Fl where
 |nx|rt(s:Sl)|bk|ct|ex(c:Str)
noncomputable abbrev Ms:=List Sl->Option (Fl×List Sl)
noncomputable def aq:Nat->List Sl->List Sl
 |0,_=>[]
 |n+1,[]=>.un::aq n []
 |n+1,.pv o::Z=>.pv o::aq n Z
 |n+1,_::Z=>.un::aq n Z
def nu(K:Kx)(n:Nat)(m:Ms):Sp:=λvs H Q E=>vs.length=n/\∃(c:Cn)(Z:List Sl)(f:Fl)(O:List Sl),c.toKx=K/\c.σ0=vs.map some/\c.H0=H/\dZ c (vs.map some) H Z [] [] c.Lp/\m Z=some (f,O) /\
  (match f with
   | .rt s=>∀v H',(∀o,s≠.pv o)->Bd c (vs.map some) H' (aq vs.length O) [some v] [s]->Q v H'
   | .ex x=>∀C H',K.mg x=some (.ref C)->Bd c (vs.map some) H' (aq vs.length O) [] []->E (.ref C) none H'
   | _=>False)
section
variable{k:Kx}{G H:Hp}
theorem av.back:∀{σ0 Y:St}{Z:List Sl}{L:List Addr},av k G H Y Z L->(∀(i:Nat)(o:LO),Z[i]?=some (.pv o)->i<σ0.length->Y[i]?=σ0[i]?)->∃L',L'.Sublist L/\av k G H σ0 (aq σ0.length Z) L'
 |[],_,_,_,_,_=>⟨[],List.nil_sublist _,.nil⟩
 |x::σ0,_,_,_,.nil,h=>by obtain⟨L',s,r⟩:=av.back (σ0:=σ0) (Y:=[]) (Z:=[]) .nil (λi o e=>by simp at e);exact⟨L',s,av.cons (L:=[]) (.un x) r⟩
 |x::σ0,_,_,_,.cons (x:=y) (s:=s) (Z:=U) (L:=L1) (L':=L2) hs r,h=>by
  obtain⟨L',sl,Q⟩:=av.back (σ0:=σ0) r (λi o e hi=>by have:=h (i+1) o e (by simpa using hi);simpa using this);have fin:aq (x::σ0).length (s::U)=.un::aq σ0.length U->∃L',L'.Sublist (L1++L2)/\av k G H (x::σ0) (aq (x::σ0).length (s::U)) L':=λe=>by rw[e];exact⟨L',sl.trans (QR _ _),av.cons (L:=[]) (.un x) Q⟩
  cases s with
  |un=>exact fin rfl
  |fr a=>exact fin rfl
  |lv o=>exact fin rfl
  |pv o=>
   have e:=h 0 o rfl (by simp);have e:y=x:=by simpa using e
   subst e;exact⟨L1++L',Qs (QB _) sl,av.cons hs Q⟩
end
variable{as:List Sl}
section
variable{c:Cn}{Y:St}{H:Hp}{Z:List Sl}{B:St}{θ:List Sl}
theorem Bd.back(b:Bd c Y H Z B θ):Bd c c.σ0 H (aq c.σ0.length Z) B θ:=by
 obtain⟨L,b⟩:=b;obtain⟨v,L2,D,k,d⟩:=av.split b.lt b.rel;obtain⟨L',sl,r⟩:=d.back (σ0:=c.σ0) (λi o e _=>b.kp i o e);have h:(v++L').Sublist L:=by rw[D];exact Qs (QB _) sl
 have sm:Sq (c.g H L) (c.g H (v++L')):=cx λa ha=>h.subset ha;exact⟨v++L',b.nd.sublist h,(k.app r).sm sm (λ_ _ _ e=>e),λp hp=>b.own p (h.subset hp),b.fr,λi o _=>rfl,b.lt,b.hd⟩
noncomputable def take1:Rr->List Sl->Option (Sl×List Sl)
 | .fr a,Z=>some (.fr a,Z)
 | .nw o,Z=>some (.fr o.a,Z)
 | .rf i,Z=>match Z[i]? with
  |some (.lv o)=>some (.lv o,Z.set i .un)
  |some (.pv o)=>some (.lv o,Z.set i .un)
  |some (.fr a)=>some (.fr a,Z)
  |_=>none
def cN:List Rr->List Sl->Option (List Sl×List Sl)
 |[],Z=>some ([],Z)
 |r::rs,Z=>match take1 r Z with
  |some (a,U)=>match cN rs U with
   |some (as,Z0)=>some (a::as,Z0)
   |none=>none
  |none=>none
noncomputable def qT:Sl->Sl
 | .lv o=>.pv o
 |s=>s
theorem rq{r:Rr}(h:cN (r::rs) Z=some (as,O)):∃a Y U,take1 r Z=some (a,U)/\cN rs U=some (Y,O)/\as=a::Y:=by
 unfold cN at h;cases D:take1 r Z with
 |none=>simp only[D] at h;cases h
 |some p=>
  obtain⟨a,U⟩:=p;simp only[D] at h;cases F:cN rs U with
  |none=>simp only[F] at h;cases h
  |some q=>obtain⟨Y,Z0⟩:=q;simp only[F] at h;cases h;exact⟨a,Y,U,rfl,F,rfl⟩
theorem Bd.take1{r:Rr}{v:V}{a:Sl}{O:List Sl}{xs:St}{ss:List Sl}(e:xs.length=ss.length)(b:Bd c Y H Z (xs++bx r v B) (ss++bz r θ))(u:VR Y r v)(h:take1 r Z=some (a,O)):Bd c Y H O (xs++some v::B) (ss++a::θ):=by
 cases r with
 |fr a'=>cases h;exact b
 |nw o=>cases h;exact Bd.JQ e b
 |rf i=>
  unfold M.take1 at h;cases es:Z[i]? with
  |none=>simp only[es] at h;cases h
  |some s=>
   cases s with
   |un=>simp only[es] at h;cases h
   |fr a'=>simp only[es] at h;cases h;exact Bd.Ao e b u es
   |lv o=>simp only[es] at h;cases h;exact Bd.xp e b u es (.inl rfl)
   |pv o=>simp only[es] at h;cases h;exact Bd.xp e b u es (.inr rfl)
theorem Bd.cN:∀{rs:List Rr}{vs:List V}{as:List Sl}{Z O:List Sl}{B:St}{θ:List Sl},hW Y rs vs->Bd c Y H Z (bE rs vs B) (bI rs θ)->cN rs Z=some (as,O)->Bd c Y H O (vs.reverse.map some++B) (as.reverse++θ)/\vs.length=as.length
 |[],[],_,_,_,_,_,_,b,h=>by cases h;exact⟨b,rfl⟩
 |r::rs,v::vs,_,Z,O,B,θ,hv,b,h=>by obtain⟨a,as,U,D,F,rfl⟩:=rq h;have b:Bd c Y H Z (bE rs vs (bx r v B)) (bI rs (bz r θ)):=b;rw[bM,bK] at b;have e:=Bd.take1 (jh rs vs (hW.len hv.2)) b hv.1 D;rw[<-bM rs vs (some v::B),<-bK rs (a::θ)] at e;obtain⟨z,n⟩:=Bd.cN hv.2 e F;exact⟨by simpa using z,by simp[n]⟩
 |[],_::_,_,_,_,_,_,h,_,_=>h.elim
 |_::_,[],_,_,_,_,_,h,_,_=>h.elim
noncomputable def ou(Z1:List Sl):Rr->Sl->List Sl->Option (List Sl)
 | .rf i,s,Z=>match Z1[i]?,s,Z[i]? with
  |some (.lv _),.pv o,some .un=>some (Z.set i (.lv o))
  |some (.pv _),.pv o,some .un=>some (Z.set i (.pv o))
  |some (.fr _),_,_=>some Z
  |_,_,_=>none
 |_,_,Z=>some Z
def putL(Z1:List Sl):List Rr->List Sl->List Sl->Option (List Sl)
 |r::rs,s::ss,Z=>match putL Z1 rs ss Z with
  |some U=>ou Z1 r s U
  |none=>none
 |[],[],Z=>some Z
 |_,_,_=>none
end
section
variable{k:Kx}{G H:Hp}
theorem av.DE:∀{Y:St}{Z:List Sl}{L:List Addr},av k G H Y Z L->∃L',L'.Perm L/\av k G H Y.reverse Z.reverse L'
 |_,_,_,.nil=>⟨[],.refl _,.nil⟩
 |_,_,_,.cons (L:=L1) (L':=L2) h r=>by obtain⟨L',pm,x⟩:=av.DE r;refine⟨L'++(L1++[]),?_,by rw[QV,QV];exact x.app (av.cons h .nil)⟩;rw[Oo];exact(pm.append_right L1).trans Oz
theorem av.CY:∀{Y:St}{Z:List Sl}{L:List Addr},av k G H Y Z L->∀p∈L,∀ob vs,H p=some (.frz ob (.dK vs))->False
 |_,_,_,.nil,p,hp,_,_,_=>by cases hp
 |_,_,_,.cons h r,p,hp,ob,vs,e=>by
  rcases Nv.mp hp with z|z
  .have b:∀o,LR k G H p o->False:=λo h=>by cases h with|lst q _=>rw[q] at e;cases e|dic q _=>rw[q] at e;cases e|dit q _=>rw[q] at e;cases e|obj q _ _=>rw[q] at e;cases e
   cases h with
   |un=>cases z
   |fr=>cases z
   |lv h=>rw[Nw.mp z] at b;exact b _ h
   |pv h=>rw[Nw.mp z] at b;exact b _ h
  .exact r.CY p z ob vs e
theorem av.qT:∀{Y:St}{Z:List Sl}{L:List Addr},av k G H Y Z L->av k G H Y (Z.map qT) L
 |_,_,_,.nil=>.nil
 |_,_,_,.cons h r=>by
  refine av.cons ?_ (av.qT r);cases h with
  |un=>exact .un _
  |fr h=>exact .fr h
  |lv h=>exact .pv h
  |pv h=>exact .pv h
noncomputable def zC:Sl->Sl
 | .pv o=>.lv o
 |s=>s
theorem av.zC:∀{Y:St}{Z:List Sl}{L:List Addr},av k G H Y Z L->av k G H Y (Z.map zC) L
 |_,_,_,.nil=>.nil
 |_,_,_,.cons h r=>by
  refine av.cons ?_ (av.zC r);cases h with
  |un=>exact .un _
  |fr h=>exact .fr h
  |lv h=>exact .lv h
  |pv h=>exact .lv h
end
section
variable{c:Cn}{Y:St}{H:Hp}{Z:List Sl}{B:St}{θ:List Sl}
theorem Bd.enter(e:vs.length=as.length)(b:Bd c Y H Z (vs.reverse.map some++B) (as.reverse++θ)):
  ∃j:Cn,j.toKx=c.toKx/\j.σ0=vs.map some/\j.H0=H/\dZ j (vs.map some) H (as.map qT) [] [] j.Lp /\
   ∀(H':Hp)(O:List Sl)(J:St)(T:List Sl),(∀s∈T,∀o,s≠.pv o)->O.length=vs.length->Bd j (vs.map some) H' O J T->Bd c Y H' Z (vs.reverse.map some++(J++B)) ((O.map zC).reverse++(T++θ)):=by
 obtain⟨L,b⟩:=b;have r:av c.toKx (c.g H L) H (vs.reverse.map some++(B++Y)) (as.reverse++(θ++Z)) L:=by have:=b.rel;simpa[Nj] using this
 obtain⟨La,x,D,F,d⟩:=av.split (by simp[e]) r;obtain⟨Lp,pm,K⟩:=F.DE;have K:av c.toKx (c.g H L) H (vs.map some) as Lp:=by simpa[<-UA] using K
 have P:∀a,a∈Lp++(x++c.Hd)↔a∈L++c.Hd:=λa=>by
  rw[D,Nv,Nv,Nv,Nv,pm.mem_iff];constructor
  .rintro(h|h|h)
   .exact .inl (.inl h)
   .exact .inl (.inr h)
   .exact .inr h
  .rintro((h|h)|h)
   .exact .inl h
   .exact .inr (.inl h)
   .exact .inr (.inr h)
 have nd:=b.nd;rw[D] at nd;obtain⟨n1,n2,S⟩:=N8.mp nd
 let j:Cn:={ toKx:=c.toKx,σ0:=vs.map some,H0:=H,Lp:=Lp,Hd:=x++c.Hd,Wk:=[] }
 have V:∀l v L2,(∀a,a∈v++(x++c.Hd)↔a∈L2++c.Hd)->j.g l v=c.g l L2:=λl v L2 hm=>by
  funext a
  show (if a∈v++(x++c.Hd) then none else l a)=(if a∈L2++c.Hd then none else l a)
  by_cases z:a∈v++(x++c.Hd)
  .rw[if_pos z,if_pos ((hm a).mp z)]
  .rw[if_neg z,if_neg λy=>z ((hm a).mpr y)]
 refine⟨j,rfl,rfl,rfl,⟨(pm.nodup_iff).mpr n1,?_,λp hp=>.inl hp,⟨λq o h=>⟨o,h,λ_ _=>rfl⟩,λq R=>by cases R⟩,λi o _=>rfl,rfl,λp hp=>?_⟩,?_⟩
 .show av c.toKx (j.g H Lp) H (vs.map some) (as.map qT) Lp;rw[V H Lp L P];exact K.qT
 .rcases Nv.mp hp with z|z
  .exact⟨d.is p z,λy=>S p (pm.mem_iff.mp y) p z rfl⟩
  .refine⟨?_,λy=>b.G8 (by rw[D];exact NF _ (pm.mem_iff.mp y)) z⟩;obtain⟨⟨u,h1⟩,h2⟩:=b.hd p z;obtain⟨t,h3,_⟩:=b.fr.st p u h1;exact⟨t,h3⟩
 .intro H' O J T hθ hl Q;obtain⟨L',Q⟩:=Q;obtain⟨Lt,Ls,e2,q1,q2⟩:=av.split Q.lt Q.rel;obtain⟨E,n,q3⟩:=q2.zC.DE;have lt':B.length=θ.length:=by have:=b.lt;simp[e] at this;lia
  obtain⟨Lτ,Lσ,e3,s1,s2⟩:=av.split lt' d;have A:∀p∈L',p∈Lp\/H p=none:=Q.own;have X:∀p,p∈x->∀u,H p=some u->H' p=some u:=λp hp u h=>by obtain⟨t,h1,h2⟩:=Q.fr.st p u h;have:p∉Lp:=λy=>S p (pm.mem_iff.mp y) p hp rfl;rw[h1,h2 this (λw f=>by cases f)]
  have m:∀p,p∈L'->p∉x:=λp hp y=>by
   rcases A p hp with z|z
   .exact S p (pm.mem_iff.mp z) p y rfl
   .obtain⟨u,h⟩:=d.is p y;rw[z] at h;cases h
  have I:Sq (c.g H L) (j.g H' L'):=λa u h=>by
   by_cases z:a∈L\/a∈c.Hd
   .rw[mO z] at h;cases h
   .rw[bU (λy=>z (.inl y)) (λy=>z (.inr y))] at h;have na:a∉Lp:=λy=>z (.inl (by rw[D];exact NF _ (pm.mem_iff.mp y)));have nr:a∉x:=λy=>z (.inl (by rw[D];exact Nq _ y));obtain⟨t,h1,h2⟩:=Q.fr.st a u h;refine⟨t,?_,.inl (h2 na (λw f=>by cases f))⟩;rw[bU (c:=j) (λy=>?_) (λy=>?_)]
    .exact h1
    .rcases A a y with w|w
     .exact na w
     .rw[w] at h;cases h
    .rcases Nv.mp y with w|w
     .exact nr w
     .exact z (.inr w)
  have G:j.g H' L'=c.g H' (L'++x):=V H' L' (L'++x) λa=>by simp[Nv,or_assoc]
  have s3:av c.toKx (j.g H' L') H' (B++Y) (θ++Z) x:=d.sm I X;have nD:av c.toKx (j.g H' L') H' (vs.reverse.map some++(J++B)++Y) ((O.map zC).reverse++(T++θ)++Z) (E++(Lt++x)):=by have:=q3.app (q1.app s3);simpa[Nj,<-UA] using this
  have N:(E++(Lt++x)).Perm (L'++x):=by rw[e2];have:=n.append_right (Lt++x);refine this.trans ?_;rw[<-Nj];exact Oz.append_right x
  refine⟨E++(Lt++x),(N.nodup_iff).mpr (N8.mpr ⟨Q.nd,n2,λa ha b2 hb z=>m a ha (by rw[z];exact hb)⟩),?_,λp hp=>?_,⟨λq u h=>?_,λq R=>?_⟩,b.kp,?_,b.hd⟩
  .rw[Im (c:=c) (H:=H') (L':=L'++x) λa=>N.mem_iff,<-G];exact nD
  .rcases Nv.mp (N.mem_iff.mp hp) with z|z
   .rcases A p z with y|y
    .exact b.own p (by rw[D];exact NF _ (pm.mem_iff.mp y))
    .exact .inr (b.fr.fresh y)
   .exact b.own p (by rw[D];exact Nq _ z)
  .obtain⟨u1,h1,h2⟩:=b.fr.st q u h;obtain⟨C,h3,h4⟩:=Q.fr.st q u1 h1;refine⟨C,h3,λU nw=>?_⟩;rw[h4 (λy=>?_) (λw f=>by cases f),h2 U nw];rcases b.own q (by rw[D];exact NF _ (pm.mem_iff.mp y)) with w|w
   .exact U w
   .rw[w] at h;cases h
  .obtain⟨h1,⟨ob,k,h2⟩,h3⟩:=b.fr.pk q R;refine⟨?_,⟨ob,k,h2⟩,h3⟩;obtain⟨C,h4,h5⟩:=Q.fr.st q.1 q.2 h1;rw[h4,h5 (λy=>?_) (λw f=>by cases f)];exact K.CY q.1 y ob k (by rw[h1,h2])
  .have:=Q.lt;simp[hl];lia
end
section
variable{c:Cn}{Y:St}{H:Hp}{Z:List Sl}{B:St}{θ:List Sl}
theorem Bd.ou{Z1 O:List Sl}{r:Rr}{s:Sl}{v:V}(kp:dY c.σ0 Y Z1)(u:VR Y r v)(b:Bd c Y H Z (some v::B) (zC s::θ))(h:ou Z1 r s Z=some O):Bd c Y H O B θ:=by
 cases r with
 |fr a=>cases h;exact b.pop
 |nw o=>cases h;exact b.pop
 |rf i=>
  unfold M.ou at h;cases E:Z1[i]? with
  |none=>simp only[E] at h;cases h
  |some q=>
   simp only[E] at h;cases q with
   |un=>simp at h
   |fr a=>simp at h;subst h;exact b.pop
   |lv p=>
    cases s with
    |pv o=>
     cases D:Z[i]? with
     |none=>simp[D] at h
     |some s1=>
      cases s1 with
      |un=>simp[D] at h;subst h;exact Bd.putBack b u D (.inl rfl)
      |_=>simp[D] at h
    |_=>simp at h
   |pv p=>
    cases s with
    |pv o=>
     cases D:Z[i]? with
     |none=>simp[D] at h
     |some s1=>
      cases s1 with
      |un=>simp[D] at h;subst h;exact Bd.putBack b u D (.inr ⟨rfl,kp i p E⟩)
      |_=>simp[D] at h
    |_=>simp at h
theorem Bd.putL{Z1:List Sl}(kp:dY c.σ0 Y Z1):∀{rs:List Rr}{vs:List V}{ss:List Sl}{Z O:List Sl}{B:St}{θ:List Sl},hW Y rs vs->Bd c Y H Z (vs.reverse.map some++B) ((ss.map zC).reverse++θ)->M.putL Z1 rs ss Z=some O->Bd c Y H O B θ
 |[],[],[],_,_,_,_,_,b,h=>by cases h;exact b
 |r::rs,v::vs,s::ss,Z,O,B,θ,hv,b,h=>by
  unfold M.putL at h;cases e:M.putL Z1 rs ss Z with
  |none=>simp only[e] at h;cases h
  |some U=>
   simp only[e] at h;have i:Bd c Y H Z (vs.reverse.map some++(some v::B)) ((ss.map zC).reverse++(zC s::θ)):=by simpa[Nj] using b
   exact Bd.ou kp hv.1 (Bd.putL kp hv.2 i e) h
 |[],_::_,_,_,_,_,_,h,_,_=>h.elim
 |_::_,[],_,_,_,_,_,h,_,_=>h.elim
 |[],[],_::_,_,_,_,_,_,_,h=>by cases h
 |_::_,_::_,[],_,_,_,_,_,_,h=>by cases h
theorem bN:∀(n:Nat)(Z:List Sl),(aq n Z).length=n
 |0,_=>rfl
 |n+1,[]=>by show (Sl.un::aq n []).length=_;rw[NM,bN n []]
 |n+1,s::Z=>by cases s<;>(show (_::aq n Z).length=_;rw[NM,bN n Z])
theorem hW.app:∀{rs H:List Rr}{vs us:List V},hW Y rs vs->hW Y H us->hW Y (rs++H) (vs++us)
 |[],_,[],_,_,h=>h
 |_::rs,_,_::vs,_,h1,h2=>⟨h1.1,hW.app h1.2 h2⟩
 |[],_,_::_,_,h,_=>h.elim
 |_::_,_,[],_,h,_=>h.elim
theorem hW.jo:∀{das:List A}{dvs:List V},das.length=dvs.length->hW Y (das.map Rr.fr) dvs
 |[],[],_=>trivial
 |_::das,_::dvs,h=>⟨trivial,hW.jo (by simpa using h)⟩
 |[],_::_,h=>by simp at h
 |_::_,[],h=>by simp at h
theorem jF:∀{rs:List Rr}{vs:List V}(H:List Rr)(us:List V)(B:St),rs.length=vs.length->bE (rs++H) (vs++us) B=bE H us (bE rs vs B)
 |[],[],_,_,_,_=>rfl
 |r::rs,v::vs,H,us,B,h=>jF (rs:=rs) (vs:=vs) H us (bx r v B) (by simpa using h)
 |[],_::_,_,_,_,h=>by simp at h
 |_::_,[],_,_,_,h=>by simp at h
theorem iy:∀(rs H:List Rr)(θ:List Sl),bI (rs++H) θ=bI H (bI rs θ)
 |[],_,_=>rfl
 |r::rs,H,θ=>iy rs H (bz r θ)
theorem Bd.qe:∀{das:List A}{dvs:List V}{B:St}{θ:List Sl},(∀G,bh c.toKx G dvs das)->Bd c Y H Z B θ->Bd c Y H Z (bE (das.map Rr.fr) dvs B) (bI (das.map Rr.fr) θ)
 |[],[],_,_,_,b=>b
 |a::das,v::dvs,_,_,h,b=>Bd.qe (das:=das) (dvs:=dvs) (λG=>by cases h G;assumption) (Bd.push b λG=>by cases h G;assumption)
 |[],_::_,_,_,h,_=>by cases h (λ_=>none)
 |_::_,[],_,_,h,_=>by cases h (λ_=>none)
end
noncomputable def fW:Sl->Option Rr
 | .fr a=>some (.fr a)
 | .lv o=>some (.nw o)
 |_=>none
def lV(f:Ms)(das:List A)(D:Mi (List Rr)):Mi Rr:=aI D λrs Z=>match cN (rs++das.map Rr.fr) Z with
 |some (as,U)=>match f (as.map qT) with
  |some (.rt s,T)=>match fW s,putL Z (rs++das.map Rr.fr) (aq as.length T) U with
   |some r,some O=>some (.ok r,O)
   |_,_=>none
  |some (.ex x,T)=>match putL Z (rs++das.map Rr.fr) (aq as.length T) U with
   |some O=>some (.error x,O)
   |none=>none
  |_=>none
 |none=>none
variable{dvs:List V}{mt:Mi Bool}
section
variable{X:Cx}{E:XK}
theorem uC{m:Ms}{n:Nat}{das:List A}(hd:∀G,bh (kx X) G dvs das){Y:St}{B:St}{o:Except Str Rr}(e:c.toKx=kx X)(hn:(vs++dvs).length=n)
  (u:hW Y rs vs)(b:Bd c Y H Z (bE rs vs B) (bI rs θ)) (em:(match cN (rs++das.map Rr.fr) Z with
 |some (as,U)=>match m (as.map qT) with
  |some (.rt s,T)=>match fW s,putL Z (rs++das.map Rr.fr) (aq as.length T) U with
   |some r,some O=>some (.ok r,O)
   |_,_=>none
  |some (.ex x,T)=>match putL Z (rs++das.map Rr.fr) (aq as.length T) U with
   |some O=>some (.error x,O)
   |none=>none
  |_=>none
 | none=>none)=some (o,O)) (d:∀r,o=.ok r->∀v H',VR Y r v->Bd c Y H' O (bx r v B) (bz r θ)->Q v H') (S:∀x,o=.error x->∀C H',X.mg x=some (.ref C)->Bd c Y H' O B θ->E (.ref C) none H'):nu (kx X) n m (vs++dvs) H Q E:=by
 refine⟨hn,?_⟩;cases D:cN (rs++das.map Rr.fr) Z with
 |none=>simp only[D] at em;cases em
 |some p=>
  obtain⟨as,U⟩:=p;simp only[D] at em;have ld:das.length=dvs.length:=(hd λ_=>none).len.symm;have i:hW Y (rs++das.map Rr.fr) (vs++dvs):=u.app (hW.jo ld);have h:Bd c Y H Z (bE (rs++das.map Rr.fr) (vs++dvs) B) (bI (rs++das.map Rr.fr) θ):=by rw[jF _ _ _ u.len,iy];exact Bd.qe (by rw[e];exact hd) b
  obtain⟨g,J⟩:=Bd.cN i h D;obtain⟨j,V,K,k,R,l⟩:=Bd.enter J g;have kp:dY c.σ0 Y Z:=by obtain⟨L,b⟩:=b;exact b.kp
  cases N:m (as.map qT) with
  |none=>simp only[N] at em;cases em
  |some p=>
   obtain⟨f,T⟩:=p;simp only[N] at em;refine⟨j,_,f,T,V.trans e,K,k,R,N,?_⟩;cases f with
   |nx=>cases em
   |bk=>cases em
   |ct=>cases em
   |rt s=>
    simp only at em;cases w:fW s with
    |none=>simp only[w] at em;cases em
    |some r=>
     cases q:putL Z (rs++das.map Rr.fr) (aq as.length T) U with
     |none=>simp only[w,q] at em;cases em
     |some Z0=>
      simp only[w,q] at em;cases em;intro v H' hs P;have I:=l H' _ _ _ (λs' y o z=>by rw[Nw.mp y] at z;exact hs o z) (bN _ _) P;rw[J] at I;have t:=Bd.putL kp i I q;cases s with
      |fr a=>cases w;exact d _ rfl v H' trivial t
      |lv o=>cases w;exact d _ rfl v H' trivial t
      |_=>cases w
   |ex x=>
    simp only at em;cases q:putL Z (rs++das.map Rr.fr) (aq as.length T) U with
    |none=>simp only[q] at em;cases em
    |some Z0=>simp only[q] at em;cases em;intro C H' hm P;have I:=l H' _ _ _ (λs' y=>by cases y) (bN _ _) P;rw[J] at I;exact S x rfl C H' hm (Bd.putL kp i I q)
theorem Bq{CX:oj}{k n:Nat}{f:Addr}{fd:FuncData}{ps:List Str}{m:Ms}{das:List A}{ds:List Value}{p:Pos}{D:Mi (List Rr)}(F:dM X.prog X.w X.K X.mg X.base CX k f fd ps (nu (kx X) n m))(hr:cY k X.A)(hg:Gl X x)
  (hm:X.mg x=some (.ref f))(hk:O4 X.K (.ref f)=true)(hb:Binds X.K fd ps ds)(hd:Vals dvs ds)(hda:∀G,bh (kx X) G dvs das)(hx:Passes CX X E)(ha:JA X E (e::es) D)(hn:∀Z rs O,D Z=some (.ok rs,O)->rs.length+das.length=n)(hdb:gq x)
  (he:starEach (e::es) X.env=(false,eval e X.env)::starEach es X.env:=by rfl)(hpl:(backTo pos (starEach es X.env)).any (·.1)=false:=by rfl):JE X E (.Call (.Name x p) (e::es) [] pos) (lV m das D):=
 ⟨PE.weaken (sH F hr hg hm hk hb hd hx ha.p hdb he hpl) λY H Q h=>by
  obtain⟨c,Z,B,θ,o,O,ek,b,em,q⟩:=h;rcases bind_some em with ⟨rs,U,e1,e2⟩|⟨e,e1,e2⟩
  .refine⟨c,Z,B,θ,_,U,ek,b,e1,λvs H1 hv b1=>?_⟩;refine uC hda ek ?_ hv b1 e2 (λr hr v H' hv b=>by subst hr;exact q v H' hv b) (λx hx=>by subst hx;exact q);rw[Ny,<-hv.len,<-hn Z rs U e1,(hda λ_=>none).len]
  .subst e2;exact⟨c,Z,B,θ,_,O,ek,b,e1,λC H1 hm b1=>q C H1 hm b1⟩⟩
theorem qj:∀Z rs O,cM Z=some (.ok rs,O)->rs.length=0:=λZ rs O h=>by cases h;rfl
theorem mG{D:Mi (List Rr)}{n:Nat}(h:∀Z rs O,D Z=some (.ok rs,O)->rs.length=n):∀Z rs O,gT m D Z=some (.ok rs,O)->rs.length=n+1:=λZ rs O e=>by
 rcases bind_some e with ⟨r,U,G,F⟩|⟨_,_,F⟩
 .rcases bind_some F with ⟨c,Z0,H,b⟩|⟨_,_,b⟩
  .cases b;rw[NM,h _ _ _ H]
  .cases b
 .cases F
theorem wF{D:Mi (List Rr)}{n d N:Nat}(h:∀Z rs O,D Z=some (.ok rs,O)->rs.length=n)(e:n+d=N):∀Z rs O,D Z=some (.ok rs,O)->rs.length+d=N:=λZ rs O q=>by rw[h Z rs O q];exact e
def FY(K:Kx)(E:XK)(c:Cn)(Z:List Sl)(B:St)(θ:List A)(D:Ends):Fl->Prop
 | .nx=>∀Y H,Bd c Y H Z B (θ.map Sl.fr)->D.nx Y H
 | .rt s=>∀v Y H,(∀o,s≠.pv o)->Bd c Y H Z (some v::B) (s::θ.map Sl.fr)->D.rt v H
 | .bk=>∀Y H,Bd c Y H Z B (θ.map Sl.fr)->D.bk Y H
 | .ct=>∀Y H,Bd c Y H Z B (θ.map Sl.fr)->D.ct Y H
 | .ex x=>∀C Y H,K.mg x=some (.ref C)->Bd c Y H Z B (θ.map Sl.fr)->E (.ref C) none H
inductive LJ(K:Kx)(E:XK)(m:Ms)(D:Ends)(Y:St)(H:Hp):Prop
 |mk(c:Cn)(Z:List Sl)(B:St)(θ:List A)(f:Fl)(O:List Sl)(h1:c.toKx=K)(h2:Bd c Y H Z B (θ.map Sl.fr))(h3:m Z=some (f,O))(h4:FY K E c O B θ D f)
structure JS(X:Cx)(E:XK)(s:Stmt)(m:Ms):Prop where
 p:PS X s (LJ (kx X) E m)
structure vc(X:Cx)(E:XK)(s:List Stmt)(m:Ms):Prop where
 p:pF X s (LJ (kx X) E m)
theorem PS.weaken{e:Stmt}{t t':TS}(h:PS X e t)(f:∀D Y H,t' D Y H->t D Y H):PS X e t':=λpins s Y H D I q=>h pins s Y H D I (f D Y H q)
theorem pF.weaken{e:List Stmt}{t t':TS}(h:pF X e t)(f:∀D Y H,t' D Y H->t D Y H):pF X e t':=λpins s Y H D I q=>h pins s Y H D I (f D Y H q)
noncomputable def aU:Ms:=λZ=>some (.nx,Z)
noncomputable def az(m n:Ms):Ms:=λZ=>match m Z with
 |some (.nx,U)=>n U
 |r=>r
theorem AA:vc X E [] aU:=⟨pF.weaken zS λD Y H h=>by obtain⟨c,Z,B,θ,f,O,L,b,em,q⟩:=h;cases em;exact q Y H b⟩
theorem Ap{s:Stmt}{m:Ms}(h:JS X E s m):vc X E [s] m:=⟨BR h.p⟩
theorem y9{s:Stmt}{r:List Stmt}{m n:Ms}(h:JS X E s m)(h':vc X E r n):vc X E (s::r) (az m n):=⟨pF.weaken (xY h.p h'.p) λD Y H h=>by
 obtain⟨c,Z,B,θ,f,O,L,b,em,q⟩:=h;unfold az at em;cases e:m Z with
 |none=>simp only[e] at em;cases em
 |some p=>
  obtain⟨a,U⟩:=p;simp only[e] at em;refine⟨c,Z,B,θ,a,U,L,b,e,?_⟩;cases a with
  |nx=>exact λZ' H' Q=>⟨c,U,B,θ,f,O,L,Q,em,q⟩
  |rt s=>cases em;exact q
  |bk=>cases em;exact q
  |ct=>cases em;exact q
  | ex x=>cases em;exact q⟩
theorem zJ{pos}:JS X E (.Pass pos) aU:=⟨PS.weaken B2 λD Y H h=>by obtain⟨c,Z,B,θ,f,O,L,b,em,q⟩:=h;cases em;exact q Y H b⟩
noncomputable def vV:Ms:=λZ=>some (.bk,Z)
noncomputable def Cz:Ms:=λZ=>some (.ct,Z)
theorem wa{pos}:JS X E (.Break pos) vV:=⟨PS.weaken vM λD Y H h=>by obtain⟨c,Z,B,θ,f,O,L,b,em,q⟩:=h;cases em;exact q Y H b⟩
theorem Bp{pos}:JS X E (.Continue pos) Cz:=⟨PS.weaken oJ λD Y H h=>by obtain⟨c,Z,B,θ,f,O,L,b,em,q⟩:=h;cases em;exact q Y H b⟩
noncomputable def cc{α:Type}(m:Mi α)(f:α->Ms):Ms:=λZ=>match m Z with
 |some (.ok x,U)=>f x U
 |some (.error e,U)=>some (.ex e,U)
 |none=>none
theorem cv{m:Mi α}{f:α->Ms}{o:Fl}(h:cc m f Z=some (o,O)):(∃x U,m Z=some (.ok x,U)/\f x U=some (o,O))\/∃e,m Z=some (.error e,O)/\o=.ex e:=by
 unfold cc at h;cases e:m Z with
 |none=>simp only[e] at h;cases h
 |some p=>
  obtain⟨r,U⟩:=p;cases r with
  |ok x=>simp only[e] at h;exact .inl ⟨x,U,rfl,h⟩
  |error x=>simp only[e] at h;cases h;exact .inr ⟨x,rfl,rfl⟩
theorem d9{Y:St}{B:St}{θ:List A}{f:Rr->Ms}{o:Fl}{D:Ends}(L:c.toKx=kx X)(b:Bd c Y H Z B (θ.map Sl.fr))(em:cc m f Z=some (o,O))(q:FY (kx X) E c O B θ D o)
  (h1:∀x v U T,VR Y x v->Bd c Y T U (bx x v B) (bz x (θ.map Sl.fr))->f x U=some (o,O)->Q v T):kF (kx X) E m Y H Q:=by
 rcases cv em with ⟨x,U,G,F⟩|⟨e,G,F⟩
 .exact⟨c,Z,B,_,_,U,L,b,G,λv T u h=>h1 x v U T u h F⟩
 .subst F;exact⟨c,Z,B,_,_,O,L,b,G,λC T hm h=>q C Y T hm h⟩
theorem zK{Y:St}{B:St}{θ:List A}{m:Mi Bool}{f:Bool->Ms}{o:Fl}{Q:Bool->Hp->Prop}{D:Ends}(L:c.toKx=kx X)(b:Bd c Y H Z B (θ.map Sl.fr))(em:cc m f Z=some (o,O))(q:FY (kx X) E c O B θ D o)
  (h1:∀k U T,Bd c Y T U B (θ.map Sl.fr)->f k U=some (o,O)->Q k T):Af (kx X) E m Y H Q:=by
 rcases cv em with ⟨x,U,G,F⟩|⟨e,G,F⟩
 .exact⟨c,Z,B,_,_,U,L,b,G,λT h=>h1 x U T h F⟩
 .subst F;exact⟨c,Z,B,_,_,O,L,b,G,λC T hm h=>q C Y T hm h⟩
def aY(m:Mi Rr):Ms:=cc m λ_ Z=>some (.nx,Z)
theorem Ax(h:JE X E e m)(hs:swapsWith e none pos.line X.env=pure false:=by rfl):JS X E (.Expr e pos) (aY m):=⟨PS.weaken (A7 h.p hs) λD Y H h=>by obtain⟨c,Z,B,θ,f,O,ek,b,em,q⟩:=h;refine d9 ek b em q λx v U H1 hv b1 em1=>?_;cases em1;exact q Y H1 b1.drop⟩
def cS(t:Mi Bool)(m n:Ms):Ms:=cc t λb=>if b then m else n
theorem IK{t:Expr}{a b:List Stmt}{m n:Ms}(ht:JT X E t mt)(ha:vc X E a m)(hb:vc X E b n):JS X E (.If t a b pos) (cS mt m n):=⟨PS.weaken (JH ht.p ha.p hb.p) λD Y H h=>by
 obtain⟨c,Z,B,θ,f,O,L,b,em,q⟩:=h;refine zK L b em q λk U T e K=>?_;cases k with
 |true=>rw[if_pos rfl];exact⟨c,U,B,θ,f,O,L,e,K,q⟩
 | false=>rw[if_neg (by decide)];exact⟨c,U,B,θ,f,O,L,e,K,q⟩⟩
noncomputable def GA:Rr->List Sl->Option (Sl×List Sl)
 | .fr a,Z=>some (.fr a,Z)
 | .nw o,Z=>some (.lv o,Z)
 | .rf i,Z=>match Z[i]? with
  |some (.lv o)=>some (.lv o,Z.set i .un)
  |_=>none
def ck(m:Mi Rr):Ms:=cc m λr Z=>match GA r Z with
 |some (s,O)=>some (.rt s,O)
 |none=>none
theorem Ft(h:JE X E e m):JS X E (.Return (some e) pos) (ck m):=⟨PS.weaken (F6 h.p) λD Y H h=>by
 obtain⟨c,Z,B,θ,f,O,L,b,em,q⟩:=h;refine d9 L b em q λx v U T u r K=>?_;cases x with
 |fr a=>cases K;exact q v Y T (λo z=>by cases z) r
 |nw o=>cases K;exact q v Y T (λo z=>by cases z) r
 |rf i=>
  unfold GA at K;cases es:U[i]? with
  |none=>simp only[es] at K;cases K
  |some s=>
   cases s with
   |lv o=>simp only[es] at K;cases K;exact q v Y T (λo z=>by cases z) (Bd.xp (xs:=[]) (ss:=[]) rfl r u es (.inl rfl))
   | _=>simp only[es] at K;cases K⟩
noncomputable def CZ:Ms:=λZ=>some (.rt (.fr .non),Z)
theorem A9:JS X E (.Return none pos) CZ:=⟨PS.weaken A2 λD Y H h=>by obtain⟨c,Z,B,θ,f,O,L,b,em,q⟩:=h;cases em;exact q .non Y H (λo z=>by cases z) (b.push λ_=>.non)⟩
def vm:Rr->List Sl->Option (Sl×List Sl)
 | .fr a,Z=>some (.fr a,Z)
 | .nw o,Z=>some (.lv o,Z)
 | .rf i,Z=>match bg (.rf i) Z with
  |some (a,O)=>some (.fr a,O)
  |none=>none
noncomputable def put(i:Nat)(s:Sl)(Z:List Sl):Option (List Sl):=match Z[i]? with
 |some (.pv _)=>none
 |some _=>some (Z.set i s)
 |none=>none
theorem Bd.put{c:Cn}{Y:St}{H:Hp}{Z O:List Sl}{B:St}{θ:List Sl}{i:Nat}{v:V}{t:Sl}(b:Bd c Y H Z (some v::B) (t::θ))(ht:∀o,t≠.pv o)(h:put i t Z=some O):Bd c (Y.set i (some v)) H O B θ:=by
 unfold M.put at h;cases es:Z[i]? with
 |none=>simp only[es] at h;cases h
 |some s=>
  cases s with
  |pv o=>simp only[es] at h;cases h
  |un=>simp only[es] at h;cases h;exact b.store es (λo z=>by cases z) ht
  |fr a=>simp only[es] at h;cases h;exact b.store es (λo z=>by cases z) ht
  |lv o=>simp only[es] at h;cases h;exact b.store es (λo z=>by cases z) ht
theorem Bd.vm{c:Cn}{Y:St}{H:Hp}{Z O:List Sl}{B:St}{θ:List Sl}{r:Rr}{v:V}{t:Sl}(u:VR Y r v)(b:Bd c Y H Z (bx r v B) (bz r θ))(h:vm r Z=some (t,O)):Bd c Y H O (some v::B) (t::θ)/\∀o,t≠.pv o:=by
 cases r with
 |fr a=>cases h;exact⟨b,λo z=>by cases z⟩
 |nw o=>cases h;exact⟨b,λo z=>by cases z⟩
 |rf i=>
  unfold M.vm at h;cases e:M.bg (.rf i) Z with
  |none=>simp only[e] at h;cases h
  |some p=>obtain⟨a,U⟩:=p;simp only[e] at h;cases h;exact⟨Bd.bg (r:=.rf i) (xs:=[]) (ss:=[]) rfl b u e,λo z=>by cases z⟩
def aF(i:Nat)(m:Mi Rr):Ms:=cc m λr Z=>match vm r Z with
 |some (t,U)=>match put i t U with
  |some Z0=>some (.nx,Z0)
  |none=>none
 |none=>none
theorem qf{pos':Pos}(hN:X.N.Nodup)(hi:X.N[i]?=some x)(hx:Loc X.env.scope x)(he:JE X E e m)(hs:swapsWith e (some (.Name x pos')) pos.line X.env=pure false:=by rfl)
  (hf:X.fn x=true\/X.env.scope.names.lookup x=some .local:=by first|exact .inl rfl|exact .inr rfl|assumption):JS X E (.Assign [.Name x pos'] e pos) (aF i m):=⟨PS.weaken (En hN hi hx he.p hs hf) λD Y H h=>by
 obtain⟨c,Z,B,θ,f,O,ek,b,em,q⟩:=h;refine d9 ek b em q λr v U H1 hv b1 em1=>?_;cases e1:vm r U with
 |none=>simp only[e1] at em1;cases em1
 |some p=>
  obtain⟨t,Z0⟩:=p;simp only[e1] at em1;obtain⟨b2,ht⟩:=Bd.vm hv b1 e1;cases e2:put i t Z0 with
  |none=>simp only[e2] at em1;cases em1
  | some F=>simp only[e2] at em1;cases em1;exact q _ H1 (Bd.put b2 ht e2)⟩
noncomputable def bS(loc:Nat)(m:Ms):Ms:=λZ=>match m (Z++Oc loc .un) with
 |some (.nx,O)=>some (.rt (.fr .non),O)
 |some (.rt s,O)=>some (.rt s,O)
 |some (.ex x,O)=>some (.ex x,O)
 |_=>none
theorem jI{k:Kx}{G H:Hp}:∀n,av k G H (Oc n none) (Oc n Sl.un) []
 |0=>.nil
 |n+1=>av.cons (L:=[]) (.un _) (jI n)
theorem dZ.start{c:Cn}{vs:List V}{H:Hp}{Z:List Sl}(N:List Str)(b:dZ c (vs.map some) H Z [] [] c.Lp)(e:c.σ0=vs.map some):Bd c (start N vs) H (Z++Oc (N.length-vs.length) .un) [] []:=by
 have hl:vs.length=Z.length:=by have:=b.rel.len;simpa using this
 refine⟨c.Lp,b.nd,?_,b.own,b.fr,λi o h=>?_,rfl,b.hd⟩
 .have:=b.rel.app (jI (k:=c.toKx) (G:=c.g H c.Lp) (H:=H) (N.length-vs.length));simpa[L2.start] using this
 .have hi:i<Z.length:=by
   by_cases z:i<Z.length
   .exact z
   .rw[Oa (by lia)] at h;have:=NV h;have:=Te this;cases this
  unfold L2.start;rw[Ob (by simp;lia),e]
end
variable{r':R2}{K:Kx}
section
variable{X:Cx}{E:XK}
theorem fG.or'{f:Value->Value->Sem Value}(h:fG X f r)(h':fG X f r'):fG X f (λx y H Q=>r x y H Q\/r' x y H Q):=by
 intro pins s Y H x y v u Q I o z q;rcases q with q|q
 .exact h pins s Y H x y v u Q I o z q
 .exact h' pins s Y H x y v u Q I o z q
noncomputable def zD(f g:A->A->Option Rr):A->A->Option Rr:=λa b=>match f a b with
 |some r=>some r
 |none=>g a b
theorem gm.or{f g:A->A->Option Rr}(h:gm K r f)(h':gm K r' g):gm K (λx y H Q=>r x y H Q\/r' x y H Q) (zD f g):=by
 intro c Y H Z B θ x y v w a b q Q L u m p D F O k;unfold zD at O;cases e:f a b with
 |some z=>simp only[e] at O;cases O;exact .inl (h c Y H Z B θ x y v w a b _ Q L u m p D F e k)
 |none=>simp only[e] at O;exact .inr (h' c Y H Z B θ x y v w a b _ Q L u m p D F O k)
theorem gm.scalar{f:A->A->Option Rr}(h:∀H v w a b q,RA K H v a->RA K H w b->f a b=some q->∃u d,q=.fr d/\(∀G,RA K G u d)/\∀Q:VK,Q u H->r v w H Q):gm K r f:=by intro c Y H Z B θ x y v w a b q Q L s m p D F O k;have g:=Bd.rd p m F;have E:=Bd.rd p.drop s D;rw[L] at E g;obtain⟨u,d,rfl,i,R⟩:=h H v w a b q E g O;exact R Q (k u H trivial (Bd.push p.drop.drop (by rw[L];exact i)))
noncomputable def fits(n:Nat)(i:Int):Bool:=decide (i.natAbs<2^n)
theorem mZ{n:Nat}{i:Int}(h:fits n i=true):L2.Bd n i:=show i.natAbs<2^n from of_decide_eq_true h
theorem eD{n m:Nat}{i:Int}(h:L2.Bd m i)(k:m<=n):fits n i=true:=decide_eq_true (show i.natAbs<2^n from h.mono k)
noncomputable def kO(f:Int->Int->Option Rr):A->A->Option Rr
 | .int i,.int j=>f i j
 |_,_=>none
theorem bG{f:Int->Int->Option Rr}{a b:A}{q:Rr}(h:kO f a b=some q):∃i j,a=.int i/\b=.int j/\f i j=some q:=by
 unfold kO at h;split at h
 .exact⟨_,_,rfl,rfl,h⟩
 .cases h
noncomputable def Kz(f:Str->Str->Option Rr):A->A->Option Rr
 | .str i,.str j=>f i j
 |_,_=>none
theorem wV{f:Str->Str->Option Rr}{a b:A}{q:Rr}(h:Kz f a b=some q):∃i j,a=.str i/\b=.str j/\f i j=some q:=by
 unfold Kz at h;split at h
 .exact⟨_,_,rfl,rfl,h⟩
 .cases h
def sY:A->A->Option Rr:=kO λi j=>some (.fr (.int (i+j)))
def kD:A->A->Option Rr:=kO λi j=>some (.fr (.int (i-j)))
def sI:A->A->Option Rr:=kO λi j=>if fits 20000 i&&fits 20000 j then some (.fr (.int (i*j))) else none
def kE:A->A->Option Rr:=kO λi j=>if j != 0&&fits 9000 j then some (.fr (.int (i.fdiv j))) else none
def fC:A->A->Option Rr:=kO λi j=>if j != 0 then some (.fr (.int (i.fmod j))) else none
def ix:A->A->Option Rr:=kO λi j=>if 0<=j/\j<=1000000/\i.natAbs<2^64 then some (.fr (.int (i^j.toNat))) else none
def wx:A->A->Option Rr:=kO λi j=>some (.fr (.bl (decide (i<j))))
def Gk:A->A->Option Rr:=kO λi j=>some (.fr (.bl (decide (j<i))))
def Hk:A->A->Option Rr:=kO λi j=>some (.fr (.bl (decide (j<=i))))
theorem AQ:gm K (vi λi j=>.int (i+j)) sY:=.scalar λH v w a b q c g h=>by
 replace h:=bG h
 obtain⟨i,j,rfl,rfl,h⟩:=h
 cases c;cases g;cases h
 exact⟨_,_,rfl,λ_=>.int _,λQ k=>⟨_,_,rfl,rfl,k⟩⟩
theorem G7:gm K (vi λi j=>.int (i-j)) kD:=.scalar λH v w a b q c g h=>by
 replace h:=bG h
 obtain⟨i,j,rfl,rfl,h⟩:=h
 cases c;cases g;cases h
 exact⟨_,_,rfl,λ_=>.int _,λQ k=>⟨_,_,rfl,rfl,k⟩⟩
theorem Ar:gm K (rI IntMulOk λi j=>.int (i*j)) sI:=.scalar λH v w a b q c g h=>by
 replace h:=bG h
 obtain⟨i,j,rfl,rfl,h⟩:=h
 cases c;cases g
 split at h
 .rename_i hc
  rw[Ni] at hc
  cases h
  exact⟨_,_,rfl,λ_=>.int _,λQ k=>⟨_,_,rfl,rfl,(mZ hc.1).IW (mZ hc.2) (by decide),k⟩⟩
 .cases h
theorem Gy:gm K (rI Mh λi j=>.int (i.fdiv j)) kE:=.scalar λH v w a b q c g h=>by
 replace h:=bG h
 obtain⟨i,j,rfl,rfl,h⟩:=h
 cases c;cases g
 split at h
 .rename_i hc
  rw[Ni] at hc
  cases h
  exact⟨_,_,rfl,λ_=>.int _,λQ k=>⟨_,_,rfl,rfl,⟨by simpa using hc.1,mZ hc.2⟩,k⟩⟩
 .cases h
theorem EH:gm K (rI (λ_ j=>j≠0) λi j=>.int (i.fmod j)) fC:=.scalar λH v w a b q c g h=>by
 replace h:=bG h
 obtain⟨i,j,rfl,rfl,h⟩:=h
 cases c;cases g
 split at h
 .rename_i hc
  cases h
  exact⟨_,_,rfl,λ_=>.int _,λQ k=>⟨_,_,rfl,rfl,by simpa using hc,k⟩⟩
 .cases h
theorem FX:gm K (rI HZ λi j=>.int (i^j.toNat)) ix:=.scalar λH v w a b q c g h=>by
 replace h:=bG h
 obtain⟨i,j,rfl,rfl,h⟩:=h
 cases c;cases g
 split at h
 .rename_i hc
  cases h
  exact⟨_,_,rfl,λ_=>.int _,λQ k=>⟨_,_,rfl,rfl,hc,k⟩⟩
 .cases h
theorem CM:gm K (vi λi j=>.bl (decide (i<j))) wx:=.scalar λH v w a b q c g h=>by
 replace h:=bG h
 obtain⟨i,j,rfl,rfl,h⟩:=h
 cases c;cases g;cases h
 exact⟨_,_,rfl,λ_=>.bl _,λQ k=>⟨_,_,rfl,rfl,k⟩⟩
theorem Dc:gm K (vi λi j=>.bl (decide (j<i))) Gk:=.scalar λH v w a b q c g h=>by
 replace h:=bG h
 obtain⟨i,j,rfl,rfl,h⟩:=h
 cases c;cases g;cases h
 exact⟨_,_,rfl,λ_=>.bl _,λQ k=>⟨_,_,rfl,rfl,k⟩⟩
theorem CN:gm K (vi λi j=>.bl (decide (j<=i))) Hk:=.scalar λH v w a b q c g h=>by
 replace h:=bG h
 obtain⟨i,j,rfl,rfl,h⟩:=h
 cases c;cases g;cases h
 exact⟨_,_,rfl,λ_=>.bl _,λQ k=>⟨_,_,rfl,rfl,k⟩⟩
mutual
noncomputable def toD:A->Option D
 | .non=>some .non
 | .bl b=>some (.bl b)
 | .int i=>some (.int i)
 | .str x=>some (.str x)
 | .tup xs=>match cL xs with
  |some ds=>some (.tup ds)
  |none=>none
 | .lst xs=>match cL xs with
  |some ds=>some (.lst ds)
  |none=>none
 | .dic _=>none
 | .exc _=>none
 | .obj _ _=>none
 | .opq=>none
noncomputable def cL:List A->Option (List D)
 |[]=>some []
 |a::as=>match toD a,cL as with
  |some d,some ds=>some (d::ds)
  |_,_=>none
end
mutual
theorem il{K:Kx}{H:Hp}:∀{v:V}{a:A}{d:D},RA K H v a->toD a=some d->Den K.K H v d
 |_,_,_,.non,h=>by rw[toD] at h;cases h;exact .non
 |_,_,_,.bl b,h=>by rw[toD] at h;cases h;exact .bl _
 |_,_,_,.int i,h=>by rw[toD] at h;cases h;exact .int _
 |_,_,_,.str x,h=>by rw[toD] at h;cases h;exact .str _
 |_,_,_,.tup (as:=as) e r,h=>by
  rw[toD] at h;cases q:cL as with
  |none=>simp only[q] at h;cases h
  |some ds=>simp only[q] at h;cases h;exact .tup e (jf r q)
 |_,_,_,.lst (as:=as) e r,h=>by
  rw[toD] at h;cases q:cL as with
  |none=>simp only[q] at h;cases h
  |some ds=>simp only[q] at h;cases h;exact .lst e (jf r q)
 |_,_,_,.dic e r,h=>by rw[toD] at h;cases h
 |_,_,_,.exc e m,h=>by rw[toD] at h;cases h
 |_,_,_,.obj e m r,h=>by rw[toD] at h;cases h
 |_,_,_,.opq,h=>by rw[toD] at h;cases h
theorem jf{K:Kx}{H:Hp}:∀{vs:List V}{as:List A}{ds:List D},bh K H vs as->cL as=some ds->cW K.K H vs ds
 |_,_,_,.nil,h=>by rw[cL] at h;cases h;exact .nil
 |_,_,_,.cons (a:=a) (as:=as) q r,h=>by
  rw[cL] at h;cases G:toD a with
  |none=>simp only[G] at h;cases h
  |some d=>
   cases F:cL as with
   |none=>simp only[G,F] at h;cases h
   |some ds=>simp only[G,F] at h;cases h;exact .cons (il q G) (jf r F)
end
def lR(a b:A):Option Bool:=match toD a,toD b with
 |some d,some e=>if D.depth d<=40 then some (D.eq d e) else none
 |_,_=>none
def dg(a b:A):Option Rr:=match lR a b with
 |some k=>some (.fr (.bl k))
 |none=>none
def iJ(a b:A):Option Rr:=match lR a b with
 |some k=>some (.fr (.bl (!k)))
 |none=>none
theorem nI{a b:A}{k:Bool}(h:lR a b=some k):∃d e,toD a=some d/\toD b=some e/\D.depth d<=40/\k=D.eq d e:=by
 unfold lR at h;cases G:toD a with
 |none=>simp only[G] at h;cases h
 |some d=>
  cases F:toD b with
  |none=>simp only[G,F] at h;cases h
  |some e=>
   simp only[G,F] at h;split at h
   .rename_i hd;cases h;exact⟨d,e,rfl,rfl,hd,rfl⟩
   .cases h
theorem os_eq:gm K (JV K.K) dg:=.scalar λH v w a b q c g h=>by
 unfold dg at h;cases e:lR a b with
 |none=>simp only[e] at h;cases h
 |some k=>simp only[e] at h;cases h;obtain⟨d,d',h1,h2,h3,rfl⟩:=nI e;exact⟨_,_,rfl,λ_=>.bl _,λQ k=>⟨d,d',il c h1,il g h2,h3,k⟩⟩
theorem Df:gm K (HU K.K) iJ:=.scalar λH v w a b q c g h=>by
 unfold iJ at h;cases e:lR a b with
 |none=>simp only[e] at h;cases h
 |some k=>simp only[e] at h;cases h;obtain⟨d,d',h1,h2,h3,rfl⟩:=nI e;exact⟨_,_,rfl,λ_=>.bl _,λQ k=>⟨d,d',il c h1,il g h2,h3,k⟩⟩
def rE:A->A->Option Rr:=Kz λx y=>if x.length+y.length<=100000 then some (.fr (.str (x++y))) else none
theorem iB:100000<=sizeLine:=by rw[sizeLine_eq];decide
theorem Ac:gm K (λx y H Q=>∃i j,x=.str i/\y=.str j/\i.length+j.length<=sizeLine/\Q (.str (i++j)) H) rE:=.scalar λH v w a b q c g h=>by
 replace h:=wV h
 obtain⟨i,j,rfl,rfl,h⟩:=h
 cases c;cases g
 split at h
 .rename_i hc
  cases h
  exact⟨_,_,rfl,λ_=>.str _,λQ k=>⟨_,_,rfl,rfl,N5 hc iB,k⟩⟩
 .cases h
noncomputable def CA:R2:=λx y H Q=>∃z n,x=.str z/\y=.int n/\MulOk z n/\Q (.str (Txt.mul z n)) H
theorem BY:fG X (binaryOp .Mult) CA:=by intro pins s Y H x y v u Q I o P h;obtain⟨z,n,rfl,rfl,hok,q⟩:=h;obtain⟨t,rfl⟩:=o;obtain⟨t',rfl⟩:=P;exact SB.mul hok λZ k=>⟨.str _,H,I.tok _,⟨Z,rfl⟩,q⟩
noncomputable def yb:A->A->Option Rr
 | .str z,.int n=>if 1<=n/\n<=1000/\z.length<=1000 then some (.fr (.str (Txt.mul z n))) else none
 |_,_=>none
theorem zN:gm K CA yb:=.scalar λH v w a b q c g h=>by
 cases a<;>first|(cases h;done)|(cases b<;>first|(cases h;done)|skip)
 cases c;cases g;rename_i z n;unfold yb at h;simp only at h;split at h
 .rename_i hc;cases h;refine⟨_,_,rfl,λ_=>.str _,λQ k=>⟨_,_,rfl,rfl,⟨?_,λ_ _ Y=>?_,λ_ _=>?_⟩,k⟩⟩
  .rw[Bool.or_eq_false_iff];exact⟨decide_eq_false (by lia),decide_eq_false (by lia)⟩
  .have h1:n*(z.length:Int)<=1000*1000:=Int.mul_le_mul hc.2.1 (by lia) (by lia) (by decide);have h2:(z.length:Int)<=(2^63-1) / n:=by rw[Int.le_ediv_iff_mul_le (by lia)];rw[Vo];lia
   lia
  .unfold Rc;refine decide_eq_false ?_;have h1:z.length*n.toNat<=1000*1000:=Nat.mul_le_mul hc.2.2 (by lia);have:=sizeLine_eq;lia
 .cases h
noncomputable def tQ:A->A->Option Rr
 | .tup xs,.tup ys=>if xs.length+ys.length<=100000 then some (.fr (.tup (xs++ys))) else none
 |_,_=>none
def Co(K:Nh):R2:=λx y H Q=>∃a b xs ys,x=.ref a/\y=.ref b/\cQ K H a xs/\cQ K H b ys/\xs.length+ys.length<=sizeLine/\(xs=[]->Q (.ref b) H)/\(xs≠[]->ys=[]->Q (.ref a) H) /\
 (xs≠[]->ys≠[]->∀p,H p=none->Q (.ref p) (upd H p (.tup (xs++ys))))
theorem Bf:fG X (binaryOp .Add) (Co X.K):=by
 intro pins s Y H x y v u Q I o z h;obtain⟨a,b,xs,ys,rfl,rfl,ha,hb,hz,d,i,n⟩:=h;by_cases hx:xs=[]
 .subst hx;cases o;cases z;obtain⟨g,k,U,_⟩:=I.tuple ha;obtain⟨A,p,P,_⟩:=I.tuple hb;cases k;obtain⟨⟨t,w,E,J⟩,D,Z,C,r⟩:=id U;obtain⟨⟨O,m,S,N⟩,F,q,l,B⟩:=id P;simp only at Z r q B;subst Z r q B;exact concat_meets ⟨_,D,rfl⟩ ⟨_,F,rfl⟩ noFill_tuple_add seq_tuple_add Q3 QU (QP _ _) (Vv a b _ _ C l w m J N rfl) ⟨D,F,.ref b,H,I,rfl,d rfl⟩
 .exact AV pins s Y H (.ref a) (.ref b) v u Q I o z ⟨a,b,xs,ys,rfl,rfl,ha,hb,hx,hz,i hx,n hx⟩
theorem Ae:gm K (Co K.K) tQ:=by
 intro c Y H Z B θ x y v w a b q Q e u f A D F O k;cases a<;>first|(cases O;done)|(cases b<;>first|(cases O;done)|skip)
 rename_i xs ys;unfold tQ at O;simp only at O;split at O
 .rename_i hc;cases O;obtain⟨L,bl,I,J⟩:=Bd.zo A u f D F;obtain⟨U,r,rfl,s1,E⟩:=I.2.1 xs rfl;obtain⟨P,s,rfl,s2,g⟩:=J.2.1 ys rfl;have N:=E.len;have n:=g.len;subst e;refine⟨U,P,r,s,rfl,rfl,cq (g_same _ _ _) s1,cq (g_same _ _ _) s2,by have:=iB;lia,λz=>?_,λ_ z=>?_,λ_ _ p hp=>?_⟩
  .subst z;have:xs=[]:=PJ (by rw[<-N];rfl);subst this;exact k _ H trivial (bl.push (.tup s2 g))
  .subst z;have:ys=[]:=PJ (by rw[<-n];rfl);subst this;rw[Oo] at k;exact k _ H trivial (bl.push (.tup s1 E))
  .obtain⟨h,sm,np⟩:=bl.new (o:=.tup (r++s)) hp;exact k _ _ trivial (h.push (.tup (.inl (.inl (by rw[bU np (bl.Kr hp)];exact bT))) ((E.app g).sm sm)))
 .cases O
end
variable{id:String}
section
variable{X:Cx}{E:XK}
def zI:A->A->Option Rr
 | .lst xs,.int i=>match fk xs i with
  |some a=>some (.fr a)
  |none=>none
 | .tup xs,.int i=>match fk xs i with
  |some a=>some (.fr a)
  |none=>none
 | .str z,.int i=>if z.length<=100000 then match fk z.cps.toList i with
  |some c=>some (.fr (.str ⟨#[c]⟩))
  |none=>none else none
 |_,_=>none
theorem bh.fk{k:Kx}{G:Hp}{vs:List V}{as:List A}{i:Int}{a:A}(r:bh k G vs as)(h:fk as i=some a):∃v,fk vs i=some v/\RA k G v a:=by
 unfold L2.fk at h ⊢;rw[r.len];cases e:kR as.length i with
 |none=>rw[e] at h;cases h
 |some j=>rw[e] at h;obtain⟨v,h1,h2⟩:=r.ta h;exact⟨v,h1,h2⟩
theorem Jh:gm K (LQ K.K) zI:=by
 intro c Y H Z B θ x y v w a b q Q X s f A D F O k;subst X;have g:=Bd.rd A f F;obtain⟨L,bl,I,J⟩:=Bd.zo A s f D F;have E:=Bd.rd A.drop s D;cases a<;>first|(cases O;done)|(cases b<;>first|(cases O;done)|skip)
 .rename_i z i;cases E;cases g;unfold zI at O;simp only at O;split at O
  .rename_i hz;cases e:fk z.cps.toList i with
   |none=>simp only[e] at O;cases O
   |some ch=>simp only[e] at O;cases O;exact .inr (.inr ⟨z,i,ch,rfl,rfl,N5 hz iB,e,k _ H trivial (Bd.push ⟨L,bl⟩ λ_=>.str _)⟩)
  .cases O
 .rename_i xs i;cases g;unfold zI at O;simp only at O;cases e:fk xs i with
  |none=>simp only[e] at O;cases O
  |some d=>simp only[e] at O;cases O;obtain⟨p,vs,rfl,s1,r⟩:=I.2.1 xs rfl;obtain⟨u,h1,h2⟩:=r.fk e;exact .inr (.inl ⟨p,vs,i,u,rfl,rfl,cq (g_same _ _ _) s1,h1,k u H trivial (bl.push h2)⟩)
 .rename_i xs i;cases g;unfold zI at O;simp only at O;cases e:fk xs i with
  |none=>simp only[e] at O;cases O
  |some d=>simp only[e] at O;cases O;obtain⟨p,vs,rfl,s1,r⟩:=I.1 xs rfl;obtain⟨u,h1,h2⟩:=r.fk e;exact .inl ⟨p,vs,i,u,rfl,rfl,s1,h1,k u H trivial (bl.push h2)⟩
theorem GN{a:Expr}{D:Mi Rr}(ha:JE X E a D)(hb:JE X E b mb)(hs:my b):JE X E (.Subscript a b pos) (ay zI D mb):=
 ⟨PE.weaken (Iy Fm ha.p hb.p hs) (gN Jh)⟩
noncomputable def FN:A->Option Key
 | .int i=>some (.inl i)
 | .str x=>some (.inr x)
 |_=>none
theorem Ey{w:V}{b:A}{y:Key}(r:RA K H w b)(h:FN b=some y):w=kV y:=by cases r<;>first|(cases h;rfl)|(cases h;done)
noncomputable def Cq:A->Bool
 | .non=>true
 | .bl _=>true
 | .int _=>true
 | .str _=>true
 |_=>false
noncomputable def A3:A->V
 | .non=>.non
 | .bl b=>.bl b
 | .int i=>.int i
 | .str x=>.str x
 |_=>.non
def Ma(neg:Bool)(x:A)(xs:List A):Option Rr:=if Cq x&&xs.all Cq then some (.fr (.bl (if neg then !Mn (A3 x) (xs.map A3) else Mn (A3 x) (xs.map A3)))) else none
def MJ(neg:Bool):A->A->Option Rr
 |x,.lst xs=>Ma neg x xs
 |x,.tup xs=>Ma neg x xs
 |_,_=>none
def oZ(f:A->Option Rr)(m:Mi Rr):Mi Rr:=aI m λx Z=>match res Z x with
 |some a=>match f a with
  |some r=>some (.ok r,Z)
  |none=>none
 |none=>none
def tD(K:Kx)(r:V->Hp->VK->Prop)(f:A->Option Rr):Prop:=∀(c:Cn)(Y:St)(H:Hp)(Z:List Sl)(B:St)(θ:List Sl)(x:Rr)(v:V)(a:A)(q:Rr)(Q:VK),c.toKx=K->VR Y x v->
 Bd c Y H Z (bx x v B) (bz x θ)->res Z x=some a->f a=some q->(∀u H',VR Y q u->Bd c Y H' Z (bx q u B) (bz q θ)->Q u H')->r v H Q
theorem mU{f:A->Option Rr}{x:Rr}{o:Except Str Rr}(h:(match res Z x with|some a=>(match f a with|some r=>some ((.ok r:Except Str Rr),Z)|none=>none)|none=>none)=some (o,O)):∃a r,res Z x=some a/\f a=some r/\o=.ok r/\O=Z:=by
 cases D:res Z x with
 |none=>simp only[D] at h;cases h
 |some a=>
  simp only[D] at h;cases n:f a with
  |none=>simp only[n] at h;cases h
  |some r=>simp only[n] at h;cases h;exact⟨a,r,rfl,n,rfl,rfl⟩
theorem jr{r:V->Hp->VK->Prop}{f:A->Option Rr}(hf:tD (kx X) r f)(Y:St)(H:Hp)(Q:VK)(h:kF (kx X) E (oZ f m) Y H Q):kF (kx X) E m Y H λv H'=>r v H' Q:=by obtain⟨c,Z,B,θ,o,O,L,b,em,q⟩:=h;refine aT L b em (λx v U T u e K=>?_) (aX q);obtain⟨a,r,D,n,rfl,rfl⟩:=mU K;exact hf c Y T _ B θ x v a r Q L u e D n q
theorem tD.scalar{r:V->Hp->VK->Prop}{f:A->Option Rr}(h:∀H v a q,RA K H v a->f a=some q->∃u d,q=.fr d/\(∀G,RA K G u d)/\∀Q:VK,Q u H->r v H Q):tD K r f:=by intro c Y H Z B θ x v a q Q L s p D O k;have E:=Bd.rd p s D;rw[L] at E;obtain⟨u,d,rfl,i,R⟩:=h H v a q E O;exact R Q (k u H trivial (Bd.push p.drop (by rw[L];exact i)))
noncomputable def hE:A->Option Rr
 | .int i=>some (.fr (.int (-i)))
 |_=>none
theorem GF{a:Expr}(h:JE X E a m):JE X E (.UnaryOp .USub a pos) (oZ hE m):=⟨PE.weaken (HY Gu h.p) (jr (.scalar λH v a q c h=>by
 cases a<;>first|(cases h;done)|skip
 cases c;cases h;exact⟨_,_,rfl,λ_=>.int _,λQ k=>⟨_,rfl,k⟩⟩))⟩
def cU(f:A->Option Rr)(m:Mi Rr):Mi Rr:=oZ f m
def Cr(f:A->A->Option Rr)(m n:Mi Rr):Mi Rr:=ay f m n
theorem vE{r:List V->Hp->VK->Prop}{f:A->Option Rr}{p:Pos}(hc:dy X (.builtin id) r)(hf:tD (kx X) (λv=>r [v]) f)(hg:Gl X x)(hm:X.mg x=none)(hv:bootBuiltins x=some (.builtin id))(ha:JE X E e m)(hn:x ≠ "__name__")
  (hdb:gq x)(hs:starEach [e] X.env=(false,eval e X.env)::starEach [] X.env:=by rfl)(hp:(backTo pos (starEach [] X.env)).any (·.1)=false:=by rfl):JE X E (.Call (.Name x p) [e] [] pos) (cU f m):=
 ⟨PE.weaken (hG hc hg hm hv (bb ha.p bZ hs) hn hdb hs hp) λY H Q h=>jr hf Y H Q h⟩
theorem CB{T:String}{r:List V->Hp->VK->Prop}{f:A->Option Rr}{p:Pos}(hc:dy X (.type T) r)(hf:tD (kx X) (λv=>r [v]) f)(hg:Gl X x)(hm:X.mg x=none)(hv:bootBuiltins x=some (.type T))(ha:JE X E e m)(hn:x ≠ "__name__")
  (hdb:gq x)(hs:starEach [e] X.env=(false,eval e X.env)::starEach [] X.env:=by rfl)(hp:(backTo pos (starEach [] X.env)).any (·.1)=false:=by rfl):JE X E (.Call (.Name x p) [e] [] pos) (cU f m):=
 ⟨PE.weaken (uz hc hg hm hv (bb ha.p bZ hs) hn hdb hs hp) λY H Q h=>jr hf Y H Q h⟩
theorem Dj{r:List V->Hp->VK->Prop}{f:A->A->Option Rr}{p:Pos}{e1 e2:Expr}{n:Mi Rr}(hc:dy X (.builtin id) r)(hf:gm (kx X) (λv w=>r [v,w]) f)(hg:Gl X x)(hm:X.mg x=none)(hv:bootBuiltins x=some (.builtin id))(h1:JE X E e1 m)(h2:JE X E e2 n)(hn:x ≠ "__name__")
  (hdb:gq x)(hs:starEach [e1,e2] X.env=(false,eval e1 X.env)::starEach [e2] X.env:=by rfl)(hs2:starEach [e2] X.env=(false,eval e2 X.env)::starEach [] X.env:=by rfl)(hp:(backTo pos (starEach [e2] X.env)).any (·.1)=false:=by rfl):JE X E (.Call (.Name x p) [e1,e2] [] pos) (Cr f m n):=
 ⟨PE.weaken (hG hc hg hm hv (bb h1.p (bb h2.p bZ hs2) hs) hn hdb hs hp) λY H Q h=>gN (r:=λv w=>r [v,w]) hf Y H Q h⟩
noncomputable def bY:A->Option Rr
 | .str z=>if z.length<=100000 then some (.fr (.int z.length)) else none
 | .lst xs=>some (.fr (.int xs.length))
 | .tup xs=>some (.fr (.int xs.length))
 |_=>none
theorem Fv:tD K (λv H Q=>∃x n,[v]=[x]/\Ji K.K x H n/\Q (.int n) H) bY:=.scalar λH v a q c h=>by
 cases a<;>first|(cases h;done)|skip
 .cases c;unfold bY at h;simp only at h;split at h
  .rename_i hz;cases h;exact⟨_,_,rfl,λ_=>.int _,λQ k=>⟨_,_,rfl,⟨N5 hz iB,rfl⟩,k⟩⟩
  .cases h
 .cases c with
  |tup e r=>cases h;exact⟨_,_,rfl,λ_=>.int _,λQ k=>⟨_,_,rfl,.inr ⟨_,e,rfl⟩,by rw[r.len];exact k⟩⟩
 .cases c with
  |lst e r=>cases h;exact⟨_,_,rfl,λ_=>.int _,λQ k=>⟨_,_,rfl,.inl ⟨_,e,rfl⟩,by rw[r.len];exact k⟩⟩
noncomputable def wZ:A->Option Rr
 | .int i=>some (.fr (.int (if i<0 then -i else i)))
 |_=>none
theorem Gm:tD K (λv H Q=>∃i,[v]=[V.int i]/\Q (.int (if i<0 then -i else i)) H) wZ:=.scalar λH v a q c h=>by
 cases a<;>first|(cases h;done)|skip
 cases c;cases h;exact⟨_,_,rfl,λ_=>.int _,λQ k=>⟨_,rfl,k⟩⟩
def B6:A->A->Option Rr:=kO λi j=>some (.fr (.int (if j > i then j else i)))
def AU:A->A->Option Rr:=kO λi j=>some (.fr (.int (if j<i then j else i)))
theorem EX:gm K (λv w H Q=>∃i j,[v,w]=[V.int i,V.int j]/\Q (.int (if j > i then j else i)) H) B6:=.scalar λH v w a b q c g h=>by
 replace h:=bG h
 obtain⟨i,j,rfl,rfl,h⟩:=h
 cases c;cases g;cases h
 exact⟨_,_,rfl,λ_=>.int _,λQ k=>⟨_,_,rfl,k⟩⟩
theorem DV:gm K (λv w H Q=>∃i j,[v,w]=[V.int i,V.int j]/\Q (.int (if j<i then j else i)) H) AU:=.scalar λH v w a b q c g h=>by
 replace h:=bG h
 obtain⟨i,j,rfl,rfl,h⟩:=h
 cases c;cases g;cases h
 exact⟨_,_,rfl,λ_=>.int _,λQ k=>⟨_,_,rfl,k⟩⟩
noncomputable def Az:A->Option Rr
 | .int i=>some (.fr (.int i))
 | .bl k=>some (.fr (.int (if k then 1 else 0)))
 |_=>none
theorem D6:tD K (λv H Q=>(∃i,[v]=[V.int i]/\Q (.int i) H)\/∃k,[v]=[V.bl k]/\Q (.int (if k then 1 else 0)) H) Az:=.scalar λH v a q c h=>by
 cases a<;>first|(cases h;done)|skip
 .cases c;cases h;exact⟨_,_,rfl,λ_=>.int _,λQ k=>.inr ⟨_,rfl,k⟩⟩
 .cases c;cases h;exact⟨_,_,rfl,λ_=>.int _,λQ k=>.inl ⟨_,rfl,k⟩⟩
noncomputable def Jp:A->Option (List A)
 | .lst xs=>some xs
 | .tup xs=>some xs
 |_=>none
def rP(a:A):Option Rr:=match Jp a with
 |some xs=>some (.nw (.lst xs))
 |none=>none
theorem Ah:tD K (λv H Q=>∃p ys,[v]=[V.ref p]/\(fo K.K H p ys\/cQ K.K H p ys)/\∀l,H l=none->Q (.ref l) (upd H l (.lst ys))) rP:=by
 intro c Y H Z B θ x v a q Q e u A D O k;subst e;obtain⟨L,bl,w⟩:=Bd.open A u D;cases a<;>first|(cases O;done)|skip
 .rename_i xs;cases O;obtain⟨p,vs,rfl,s1,r⟩:=w.2.1 xs rfl;exact⟨p,vs,rfl,.inr (cq (g_same _ _ _) s1),λl hl=>k _ _ trivial (bl.iG hl λG H' sm q=>.lst q (r.sm sm))⟩
 .rename_i xs;cases O;obtain⟨p,vs,rfl,s1,r⟩:=w.1 xs rfl;exact⟨p,vs,rfl,.inl s1,λl hl=>k _ _ trivial (bl.iG hl λG H' sm q=>.lst q (r.sm sm))⟩
end
section
variable{c:Cn}{Y:St}{H:Hp}{Z:List Sl}{B:St}{θ:List Sl}
theorem Bd.yq{x:Option V}{xs:St}(e:xs.length=ss.length)(b:Bd c Y H Z (x::(xs++B)) (s::(ss++θ))):Bd c Y H Z (x::B) (s::θ):=by
 obtain⟨L,b⟩:=b;have r:av c.toKx (c.g H L) H (x::(xs++(B++Y))) (s::(ss++(θ++Z))) L:=by have:=b.rel;simpa[Nj] using this
 cases r with
 |cons h r=>rename_i q L';obtain⟨v,L2,D,k,d⟩:=av.split e r;subst D;have sl:(q++L2).Sublist (q++(v++L2)):=Qs (QB _) (QR _ _);have sm:Sq (c.g H (q++(v++L2))) (c.g H (q++L2)):=cx λa ha=>sl.subset ha;exact⟨q++L2,b.nd.sublist sl,av.cons (h.sm sm (λ_ _ _ e=>e)) (d.sm sm (λ_ _ _ e=>e)),λp hp=>b.own p (sl.subset hp),b.fr,b.kp,by have:=b.lt;simp at this ⊢;lia,b.hd⟩
theorem Bd.Kl{ys:St}(b:Bd c (Y++ys) H Z B θ):Bd c Y H (Z.take Y.length) B θ:=by
 have hl:=b.gA;rw[Ny] at hl;obtain⟨L,b⟩:=b;have r:av c.toKx (c.g H L) H ((B++Y)++ys) ((θ++Z.take Y.length)++Z.drop Y.length) L:=by have:=b.rel;rw[Nj,Nj,OA];exact this
 obtain⟨v,L2,D,k,d⟩:=av.split (by simp[b.lt];lia) r;subst D;have sm:Sq (c.g H (v++L2)) (c.g H v):=cx λa ha=>NF _ ha;refine⟨v,(N8.mp b.nd).1,k.sm sm (λ_ _ _ e=>e),λp hp=>b.own p (NF _ hp),b.fr,λi o h=>?_,b.lt,b.hd⟩;have hi:i<(Z.take Y.length).length:=(Np.mp h).1;rw[P6] at hi;have h':Z[i]?=some (.pv o):=by rw[List.getElem?_take] at h;split at h;exact h;cases h
 have:=b.kp i o h';rwa[Ob (by lia)] at this
theorem Bd.yC{n:Nat}(b:Bd c Y H Z B θ):Bd c (Y++Oc n none) H (Z++Oc n .un) B θ:=by
 have hl:=b.gA;obtain⟨L,b⟩:=b;refine⟨L,b.nd,?_,b.own,b.fr,λi o h=>?_,b.lt,b.hd⟩
 .have:=b.rel.app (jI (k:=c.toKx) (G:=c.g H L) (H:=H) n);simpa[Nj] using this
 .by_cases z:i<Z.length
  .rw[Ob z] at h;rw[Ob (by lia)];exact b.kp i o h
  .rw[Oa (by lia)] at h;have:=Te (NV h);cases this
end
noncomputable abbrev Mg:=A->List Sl->Option (List Sl)
noncomputable abbrev zH:=List A->List Sl->Option (List Sl)
inductive J7(K:Kx)(lo:Nat)(G:Mg)(v:V)(Y:St)(H:Hp)(Q:St->Hp->Prop):Prop
 |mk(c:Cn)(Z:List Sl)(B:St)(θ:List Sl)(a:A)(O:List Sl)(h1:c.toKx=K)(h2:Bd c Y H Z (some v::B) (.fr a::θ))(h3:G a Z=some O)(h4:∀Z' H',Z'.take lo=Y.take lo->Z'.length=Y.length->Bd c Z' H' O B θ->Q Z' H')
inductive LF(K:Kx)(lo:Nat)(G:zH)(vs:List V)(Y:St)(H:Hp)(Q:St->Hp->Prop):Prop
 |mk(c:Cn)(Z:List Sl)(B:St)(θ:List Sl)(as:List A)(O:List Sl)(h1:c.toKx=K)(h2:vs.length=as.length)(h3:Bd c Y H Z (vs.map some++B) (as.map Sl.fr++θ))(h4:G as Z=some O)(h5:∀Z' H',Z'.take lo=Y.take lo->Z'.length=Y.length->Bd c Z' H' O B θ->Q Z' H')
structure JG(X:Cx)(lo:Nat)(tg:Expr)(G:Mg):Prop where
 p:PG X tg (J7 (kx X) lo G)
structure Hx(X:Cx)(lo:Nat)(tg:List Expr)(G:zH):Prop where
 p:Fp X tg (LF (kx X) lo G)
def aJ(i:Nat):Mg:=λa Z=>put i (.fr a) Z
noncomputable def oW:zH:=λas Z=>match as with
 |[]=>some Z
 |_=>none
noncomputable def ed(g:Mg)(gs:zH):zH:=λas Z=>match as with
 |a::as=>match g a Z with
  |some U=>gs as U
  |none=>none
 |[]=>none
noncomputable def kY(n:Nat)(gs:zH):Mg:=λa Z=>match a with
 | .tup as=>if as.length=n then gs as Z else none
 |_=>none
variable{gs:zH}{tg iter:Expr}{body:List Stmt}
section
variable{X:Cx}{E:XK}{lo:Nat}
theorem Bh(hN:X.N.Nodup)(hi:X.N[i]?=some x)(hx:Loc X.env.scope x)(hl:lo<=i)(hf:X.fn x=true\/X.env.scope.names.lookup x=some .local:=by first|exact .inl rfl|exact .inr rfl|assumption):JG X lo (.Name x pos) (aJ i):=⟨λpins s Y H v u Q I r h=>by refine Ak hN hi hx hf pins s Y H v u Q I r ?_;obtain⟨c,Z,B,θ,a,O,ek,b,em,q⟩:=h;exact q _ H (by rw[T7 hl]) (by simp) (Bd.put b (λo z=>by cases z) em)⟩
theorem AD:Hx X lo [] oW:=⟨λpins s Y H v u Q I r h=>by
 refine AS pins s Y H v u Q I r ?_;obtain⟨c,Z,B,θ,as,O,L,hl,b,em,q⟩:=h;cases as with
 |nil=>cases em;cases v with|nil=>exact⟨rfl,q Y H rfl rfl b⟩|cons _ _=>simp at hl
 | cons _ _=>cases em⟩
theorem zB{g:Mg}(h1:JG X lo e g)(h2:Hx X lo es gs)(hp:∀{t:TG}{u:CL},PG X e t->Fp X es u->Fp X (e::es) (CI t u)):Hx X lo (e::es) (ed g gs):=⟨λpins s Y H v u Q I r h=>by
 refine hp h1.p h2.p pins s Y H v u Q I r ?_;obtain⟨c,Z,B,θ,as,O,L,hl,b,em,q⟩:=h;cases as with
 |nil=>cases em
 |cons a as=>
  cases v with
  |nil=>simp at hl
  |cons v vs=>
   unfold ed at em;simp only at em;cases D:g a Z with
   |none=>simp only[D] at em;cases em
   | some U=>simp only[D] at em;refine⟨v,vs,rfl,c,Z,_,_,a,U,L,b,D,λZ' H' E N i=>⟨c,U,B,θ,as,O,L,by simpa using hl,i,em,λT S x n z=>q T S (x.trans E) (n.trans N) z⟩⟩⟩
theorem Fe{k n:Nat}(hc:X.calm=true)(h:Hx X lo es gs)(hn:(assignEach es X.env).length=n:=by rfl)(hst:(assignEach es X.env).findIdx? (·.1)=none:=by rfl):JG X lo (.Tuple es k pos) (kY n gs):=⟨λpins s Y H v u Q I r h'=>by
 refine FW hc h.p hn hst pins s Y H v u Q I r ?_;obtain⟨c,Z,B,θ,a,O,ek,b,em,q⟩:=h';cases a<;>first|(cases em;done)|skip
 rename_i as;unfold kY at em;simp only at em;split at em
 .rename_i hl;obtain⟨L,bl,i1⟩:=Bd.open (r:=.fr (.tup as)) b trivial rfl;obtain⟨p,vs,rfl,s1,rr⟩:=i1.2.1 as rfl;have:c.K=X.K:=by have:=congrArg Kx.K ek;exact this
  refine⟨p,vs,rfl,by rw[<-this];exact cq (g_same _ _ _) s1,by rw[rr.len];exact hl,c,Z,B,θ,as,O,ek,rr.len,?_,em,q⟩;obtain⟨nd,rel,own,fr,kp,lt,hdd⟩:=bl;exact⟨L,nd,by have:=(av.jo (H:=H) rr).app rel;simpa[Nj] using this,own,fr,kp,by simp[lt,rr.len],hdd⟩
 .cases em⟩
def Jd(K:Kx)(J:It)(S:St)(P:List A)(as:List A):Prop:=∀(c:Cn)(Y:St)(H:Hp)(Z:List Sl)(D:St)(z:List Sl)(B:St)(θ:List Sl)(i:Nat),c.toKx=K->D.length=z.length->Bd c Y H Z (D++(S++B)) (z++(P.map Sl.fr++θ))->
 (as.length<=i->J.stop i H)/\∀a,as[i]?=some a->J.go i H/\∀x H',J.iX i H x H'->Bd c Y H' Z (some x::(D++(S++B))) (.fr a::(z++(P.map Sl.fr++θ)))
def JL(K:Kx)(E:XK)(c:Cn)(Y:St)(Z:List Sl)(B:St)(θ:List Sl)(R:It->Hp->Prop):Except Str (List A)->Prop
 | .ok as=>∀J H S P,S.length=P.length->Jd K J S P as->Bd c Y H Z (S++B) (P.map Sl.fr++θ)->R J H
 | .error x=>∀C H,K.mg x=some (.ref C)->Bd c Y H Z B θ->E (.ref C) none H
inductive LK(K:Kx)(E:XK)(m:Mi (List A))(Y:St)(H:Hp)(R:It->Hp->Prop):Prop
 |mk(c:Cn)(Z:List Sl)(B:St)(θ:List Sl)(o:Except Str (List A))(O:List Sl)(h1:c.toKx=K)(h2:Bd c Y H Z B θ)(h3:m Z=some (o,O))(h4:JL K E c Y O B θ R o)
structure JI(X:Cx)(E:XK)(tg iter:Expr)(m:Mi (List A)):Prop where
 p:PI X tg iter (LK (kx X) E m)
theorem gM{Y:St}{B:St}{o:Except Str (List A)}{R:It->Hp->Prop}(q:JL (kx X) E c Y O B θ R o):∀e,o=.error e->∀C H,X.mg e=some (.ref C)->Bd c Y H O B θ->E (.ref C) none H:=λe s=>by subst s;exact q
noncomputable def AY(s:Str):List A:=s.cps.toList.map λc=>.str ⟨#[c]⟩
def GZ:A->Option (List A)
 | .str s=>some (AY s)
 |a=>Jp a
def cj(m:Mi Rr):Mi (List A):=aI m λr Z=>match bg r Z with
 |some (a,O)=>match GZ a with
  |some as=>some (.ok as,O)
  |none=>none
 |none=>none
theorem Bd.mid{Y:St}{B:St}{xs:St}{a:A}(e:xs.length=ss.length)(b:Bd c Y H Z (xs++(some v::B)) (ss++(.fr a::θ))):∃L,dZ c Y H Z (xs++(some v::B)) (ss++(.fr a::θ)) L/\RA c.toKx (c.g H L) v a:=by
 obtain⟨L,b⟩:=b;have r:av c.toKx (c.g H L) H (xs++(some v::(B++Y))) (ss++(.fr a::(θ++Z))) L:=by have:=b.rel;simpa[Nj] using this
 obtain⟨y,L2,D,k,d⟩:=av.split e r;cases d with
 |cons h Q=>cases h with|fr h=>exact⟨L,b,h⟩
theorem qc{l:Expr}(hl:JE X E l m):JI X E tg l (cj m):=⟨λpins s Y H R I h=>by
 refine BF hl.p pins s Y H R I ?_;obtain⟨c,Z,B,θ,o,O,e,b,em,q⟩:=h;refine aT e b em (λx v U f k g r=>?_) (gM q);cases G:bg x U with
 |none=>simp only[G] at r;cases r
 |some p=>
  obtain⟨a,Z0⟩:=p;simp only[G] at r;have N:=Bd.bg (xs:=[]) (ss:=[]) rfl g k G;cases F:GZ a with
  |none=>simp only[F] at r;cases r
  |some as=>
   simp only[F] at r;cases r;have C:c.K=X.K:=congrArg Kx.K e;cases a<;>first|(cases F;done)|skip
   .rename_i t;cases F;have rt:=Bd.top N (a:=.str t) rfl;cases rt;refine .inr ⟨t,rfl,q _ f [some (.str t)] [.str t] rfl (λj Z' H' O D z J T i w P Q=>?_) N⟩;obtain⟨L,bl,h⟩:=Bd.mid P Q;have hl:(AY t).length=t.cps.size:=by simp[AY]
    refine⟨λhi=>by rw[hl] at hi;exact hi,λa ha=>?_⟩;have hi:i<t.cps.size:=by rw[<-hl];exact(Np.mp ha).1
    refine⟨hi,λx d y=>?_⟩;obtain⟨rfl,c,hc,rfl⟩:=y;have:a=.str ⟨#[c]⟩:=by unfold AY at ha;rw[NS,NZ,hc] at ha;exact(NJ ha).symm
    subst this;exact bl.push (.str _)
   .cases F;have rt:=Bd.top N (a:=.tup as) rfl;cases rt with
    |tup V r0=>
     rename_i p vs;refine .inl ⟨p,rfl,.inr ⟨⟨vs,by rw[<-C];exact V⟩,q _ f [some (.ref p)] [.tup as] rfl (λj Z' H' O D z J T i w P Q=>?_) N⟩⟩;have A:j.K=X.K:=congrArg Kx.K w;obtain⟨L,bl,h⟩:=Bd.mid P Q;cases h with
     |tup n S=>
      rename_i us;have sq:cQ X.K H' p us:=by rw[<-A];exact cq (g_same _ _ _) n
      refine⟨λhi=>⟨us,sq,by rw[S.len];exact hi⟩,λa ha=>?_⟩;obtain⟨u,h1,h2⟩:=S.ta ha;refine⟨⟨us,u,sq,h1⟩,λx d y=>?_⟩;obtain⟨rfl,y⟩:=y;have:=y us sq;rw[h1] at this;cases this;exact bl.push h2
   .cases F;have rt:=Bd.top N (a:=.lst as) rfl;cases rt with
    |lst V r0=>
     rename_i p vs;refine .inl ⟨p,rfl,.inl ⟨⟨vs,by rw[<-C];exact V⟩,q _ f [some (.ref p)] [.lst as] rfl (λj Z' H' O D z J T i w P Q=>?_) N⟩⟩;have A:j.K=X.K:=congrArg Kx.K w;obtain⟨L,bl,h⟩:=Bd.mid P Q;cases h with
     |lst n S=>
      rename_i us;have sq:fo X.K H' p us:=by rw[<-A];exact hZ (g_same _ _ _) n
      refine⟨λhi=>⟨us,sq,by rw[S.len];exact hi⟩,λa ha=>?_⟩;obtain⟨u,h1,h2⟩:=S.ta ha;refine⟨⟨us,u,sq,h1⟩,λx d y=>?_⟩;obtain⟨rfl,y⟩:=y;have:=y us sq;rw[h1] at this;cases this;exact bl.push h2⟩
noncomputable def cg(lo:Int)(n:Nat):List A:=(NA n).map λi=>.int (lo+(i:Nat))
theorem vL{lo:Int}{n:Nat}:Jd K (Il lo n) [] [] (cg lo n):=λc Y H Z D z B θ i L P b=>by
 have hl:(cg lo n).length=n:=by simp[cg]
 refine⟨λh=>by rw[hl] at h;exact h,λa ha=>?_⟩;have hi:i<n:=by rw[<-hl];exact(Np.mp ha).1
 refine⟨hi,λx H' y=>?_⟩;obtain⟨rfl,rfl⟩:=y;have:a=.int (lo+i):=by unfold cg at ha;rw[NS,Pb hi] at ha;exact(NJ ha).symm
 subst this;exact b.push λ_=>.int _
def cb(m:Mi Rr):Mi (List A):=aI m λr Z=>match res Z r with
 |some (.int j)=>if -(2^60)<=j/\j<2^60 then some (.ok (cg 0 j.toNat),Z) else none
 |_=>none
theorem AB{a:Expr}{p:Pos}(hg:Gl X "range")(hm:X.mg "range" = none)(ha:JE X E a m)(hs:starEach [a] X.env=[(false,eval a X.env)]:=by rfl)(hs':starEach [a] X.env=(false,eval a X.env)::starEach [] X.env:=by rfl):JI X E tg (.Call (.Name "range" p) [a] [] pos) (cb m):=⟨λpins s Y H R I h=>by
 refine u5 hg hm (bb ha.p bZ hs') hs pins s Y H R I ?_;obtain⟨c,Z,B,θ,o,O,ek,b,em,q⟩:=h;refine aT ek b em (λx v U H1 hv b1 em1=>?_) (gM q);cases e1:res U x with
 |none=>simp only[e1] at em1;cases em1
 |some a=>
  have r1:=Bd.rd b1 hv e1;simp only[e1] at em1;cases a<;>first|(cases em1;done)|skip
  rename_i j;simp only at em1;split at em1
  .rename_i hj;cases em1;cases r1;exact⟨j,rfl,by lia,by lia,q _ H1 [] [] rfl vL b1.drop⟩
  .cases em1⟩
theorem ym{u w:Option A}{F:Int->Int->Option α}{r:α} (h:(match u,w with
 |some (.int i),some (.int j)=>F i j
 | _,_=>none)=some r):∃i j,u=some (.int i)/\w=some (.int j)/\F i j=some r:=by
 split at h
 .rename_i i j;exact⟨i,j,rfl,rfl,h⟩
 .cases h
def f9(m n:Mi Rr):Mi (List A):=aI m λr=>aI n λt=>λZ=>match res Z r,res Z t with
 |some (.int i),some (.int j)=>if -(2^60)<=i/\i<2^60 /\ -(2^60)<=j/\j<2^60 then some (.ok (cg i (j-i).toNat),Z) else none
 |_,_=>none
theorem Bx{a:Expr}{n:Mi Rr}{p:Pos}(hg:Gl X "range")(hm:X.mg "range" = none)(ha:JE X E a m)(hb:JE X E b n)(hs:starEach [a,b] X.env=[(false,eval a X.env),(false,eval b X.env)]:=by rfl)(hs2:starEach [b] X.env=[(false,eval b X.env)]:=by rfl)
  (hs3:starEach [a,b] X.env=(false,eval a X.env)::starEach [b] X.env:=by rfl)(hs4:starEach [b] X.env=(false,eval b X.env)::starEach [] X.env:=by rfl):JI X E tg (.Call (.Name "range" p) [a,b] [] pos) (f9 m n):=⟨λpins s Y H R I h=>by
 refine vd hg hm (bb ha.p (bb hb.p bZ hs4) hs3) hs hs2 pins s Y H R I ?_;obtain⟨c,Z,B,θ,o,O,ek,b,em,q⟩:=h;refine aT ek b em (λx v U H1 hv b1 em1=>?_) (gM q);refine aT ek b1 em1 (λy w Z0 H2 hw b2 em2=>?_) (fz (gM q));obtain⟨i,j,e1,e2,em2⟩:=ym em2;obtain⟨rfl,rfl⟩:v=.int i/\w=.int j:=by have r2:=Bd.rd b2 hw e2;have r1:=Bd.rd b2.drop hv e1;cases r1;cases r2;exact⟨rfl,rfl⟩
 split at em2
 .rename_i hj;cases em2;exact⟨i,j,rfl,⟨by lia,by lia,by lia,by lia⟩,q _ H2 [] [] rfl vL b2.drop.drop⟩
 .cases em2⟩
noncomputable def forL(G:Mg)(b:Ms):List A->Ms
 |[],Z=>some (.nx,Z)
 |a::as,Z=>match G a Z with
  |none=>none
  |some U=>match b U with
   |some (.nx,Z0)=>forL G b as Z0
   |some (.ct,Z0)=>forL G b as Z0
   |some (.bk,Z0)=>some (.nx,Z0)
   |r=>r
def da(m:Mi (List A))(G:Mg)(b:Ms):Ms:=cc m λas Z=>forL G b as Z
theorem F0{m:Mi (List A)}{G:Mg}{mb:Ms}(hp:PassesOwn (model X.prog X.w) X.A X.env X.xe)(hc:X.calm=true)(hi:JI X E tg iter m)(hg:JG X 0 tg G)(hb:vc X E body mb)
  (hs:∀x,foldedSetIterable iter X.env x=pure x:=by intro _;rfl):JS X E (.For tg iter body [] pos) (da m G mb):=⟨PS.weaken (Dy hp hc hi.p hg.p hb.p hs) λD Y H h=>by
 obtain⟨c,Z,B,θ,f,O,ek,b,em,q⟩:=h;rcases cv em with ⟨as,U,e1,e2⟩|⟨e,e1,e2⟩
 .refine⟨c,Z,B,_,_,U,ek,b,e1,λJ H1 S P li it b1=>?_⟩;refine⟨λi m Z' H'=>m=as.length-i/\i<=as.length/\∃R,Bd c Z' H' R (S++B) (P.map Sl.fr++θ.map Sl.fr)/\forL G mb (as.drop i) R=some (f,O),⟨_,rfl,Ou _,U,b1,by simpa using e2⟩,?_⟩;rintro i m Z' H' ⟨rfl,hi,R,bi,ei⟩;obtain⟨i1,i2⟩:=it c Z' H' R [] [] B (θ.map Sl.fr) i ek rfl bi;by_cases hlt:i<as.length
  .have hd:as.drop i=as[i]::as.drop (i+1):=Pl hlt;rw[hd] at ei;obtain⟨go,yl⟩:=i2 as[i] (by simp[hlt]);refine .inr ⟨go,λT H2=>∃Z0,Bd c T H2 Z0 (S++B) (P.map Sl.fr++θ.map Sl.fr)/\forL G mb (as.drop (i+1)) Z0=some (f,O),λT H2 ⟨Z0,q1,q2⟩=>⟨as.length-(i+1),by lia,rfl,hlt,Z0,q1,q2⟩,λx H2 y=>?_⟩;have b2:=yl x H2 y;unfold forL at ei;cases eg:G as[i] R with
   |none=>simp only[eg] at ei;cases ei
   |some Z0=>
    simp only[eg] at ei;refine⟨c,R,_,_,as[i],Z0,ek,b2,eg,λV H3 _ _ b3=>?_⟩;cases eb:mb Z0 with
    |none=>simp only[eb] at ei;cases ei
    |some p=>
     obtain⟨f1,F⟩:=p;simp only[eb] at ei;refine⟨c,Z0,S++B,P++θ,f1,F,ek,by rw[NT];exact b3,eb,?_⟩;cases f1 with
     |nx=>intro Q H4 b4;rw[NT] at b4;exact⟨F,b4,ei⟩
     |ct=>intro Q H4 b4;rw[NT] at b4;exact⟨F,b4,ei⟩
     |bk=>cases ei;intro Q H4 b4;rw[NT] at b4;exact q Q H4 (Bd.Bs (by simp[li]) b4)
     |rt s=>cases ei;intro v Q H4 hs b4;rw[NT] at b4;exact q v Q H4 hs (Bd.yq (by simp[li]) b4)
     |ex x=>cases ei;intro C Q H4 hm b4;rw[NT] at b4;exact q C Q H4 hm (Bd.Bs (by simp[li]) b4)
  .have e:i=as.length:=by lia
   subst e;rw[Q4] at ei;cases ei;exact .inl ⟨i1 (Nr _),q Z' H' (Bd.Bs (by simp[li]) bi)⟩
 .subst e2;exact⟨c,Z,B,_,_,O,ek,b,e1,λC H1 hm b1=>q C Y H1 hm b1⟩⟩
noncomputable def dN(t:Mi Bool)(b:Ms):Nat->Ms
 |0,_=>none
 |n+1,Z=>match t Z with
  |some (.ok true,U)=>match b U with
   |some (.nx,Z0)=>dN t b n Z0
   |some (.ct,Z0)=>dN t b n Z0
   |some (.bk,Z0)=>some (.nx,Z0)
   |r=>r
  |some (.ok false,U)=>some (.nx,U)
  |some (.error e,U)=>some (.ex e,U)
  |none=>none
def iw(n:Nat)(t:Mi Bool)(b:Ms):Ms:=dN t b n
theorem xh{n:Nat}{t:Expr}{mb:Ms}(hp:PassesOwn (model X.prog X.w) X.A X.env X.xe)(ht:JT X E t mt)(hb:vc X E body mb):JS X E (.While t body [] pos) (iw n mt mb):=⟨PS.weaken (xW hp ht.p hb.p) λD Y H h=>by
 obtain⟨c,Z,B,θ,f,O,L,b,em,q⟩:=h;refine⟨λm Z' H'=>∃R,Bd c Z' H' R B (θ.map Sl.fr)/\dN mt mb m R=some (f,O),⟨n,Z,b,em⟩,?_⟩;rintro m Z' H' ⟨R,J,a⟩;cases m with
 |zero=>cases a
 |succ m=>
  unfold dN at a;cases I:mt R with
  |none=>simp only[I] at a;cases a
  |some p=>
   obtain⟨o,U⟩:=p;refine⟨c,R,B,_,o,U,L,J,I,?_⟩;cases o with
   |error e=>simp only[I] at a;cases a;exact λC j hm i=>q C Z' j hm i
   |ok k=>
    intro j i;cases k with
    |false=>simp only[I] at a;cases a;rw[if_neg (by decide)];exact q Z' j i
    |true=>
     simp only[I] at a;rw[if_pos rfl];refine⟨λT S=>∃Z0,Bd c T S Z0 B (θ.map Sl.fr)/\dN mt mb m Z0=some (f,O),λT S w=>⟨m,Qa _,w⟩,?_⟩;cases eb:mb U with
     |none=>simp only[eb] at a;cases a
     |some p=>
      obtain⟨r,F⟩:=p;simp only[eb] at a;refine⟨c,U,B,θ,r,F,L,i,eb,?_⟩;cases r with
      |nx=>exact λQ y l=>⟨F,l,a⟩
      |ct=>exact λQ y l=>⟨F,l,a⟩
      |bk=>cases a;exact λQ y l=>q Q y l
      |rt s=>cases a;exact λv Q y hs l=>q v Q y hs l
      | ex x=>cases a;exact λC Q y hm l=>q C Q y hm l⟩
end
theorem fJ(r:Rr)(v:V)(t:St)(u:List Sl):bx r v t=bx r v []++t/\bz r u=bz r []++u/\(bx r v []).length=(bz r []).length:=by cases r<;>exact⟨rfl,rfl,rfl⟩
theorem v9:100000<sizeLine:=by rw[sizeLine_eq];decide
def bX(G:Mg)(t:Mi Bool)(e:Mi Rr):List A->List A->List Sl->Option (List A×List Sl)
 |[],acc,Z=>some (acc,Z)
 |a::as,acc,Z=>match G a Z with
  |none=>none
  |some U=>match t U with
   |some (.ok true,Z0)=>match e Z0 with
    |some (.ok r,F)=>match bg r F with
     |some (d,N)=>bX G t e as (acc++[d]) N
     |none=>none
    |_=>none
   |some (.ok false,Z0)=>bX G t e as acc Z0
   |_=>none
inductive H9(G:Mg)(t:Mi Bool)(e:Mi Rr)(a:A)(as acc:List A)(Z:List Sl)(r:List A×List Sl):Prop
 |skip{U Z0:List Sl}(g:G a Z=some U)(k:t U=some (.ok false,Z0))(q:bX G t e as acc Z0=some r)
 |take{d:A}{u:Rr}{U Z0 F N:List Sl}(g:G a Z=some U)(k:t U=some (.ok true,Z0))(m:e Z0=some (.ok u,F))(f:bg u F=some (d,N))(q:bX G t e as (acc++[d]) N=some r)
theorem uK{G:Mg}{t:Mi Bool}{e:Mi Rr}{a:A}{as acc:List A}{r:List A×List Sl}(h:bX G t e (a::as) acc Z=some r):H9 G t e a as acc Z r:=by
 unfold bX at h;split at h
 .cases h
 .rename_i U b;split at h
  .rename_i Z0 I;split at h
   .rename_i u F s;split at h
    .rename_i d N Y;exact .take b I s Y h
    .cases h
   .cases h
  .rename_i Z0 I;exact .skip b I h
  .cases h
def aO:Mi Bool:=jK true
def aP(n:Nat)(b:Mi (List A))(G:Mg)(t:Mi Bool)(e:Mi Rr):Mi Rr:=aI b λas Z=>if as.length<=100000 then match bX G t e as [] (Z++Oc n .un) with
 |some (ys,O)=>some (.ok (.nw (.lst ys)),O.take Z.length)
 |none=>none else none
structure JF(X:Cx)(E:XK)(ifs:List Expr)(m:Mi Bool):Prop where
 p:PF X ifs (Af (kx X) E m)
variable{me:Mi Rr}{lo:Nat}{N:List Str}{elt:Expr}{ifs:List Expr}{px:Pos}
section
variable{X:Cx}{E:XK}
theorem Ej:JF X E [] aO:=⟨λpins s Y H Q I h=>by refine DP pins s Y H Q I ?_;obtain⟨c,Z,B,θ,o,O,L,b,em,q⟩:=h;cases em;exact q H b⟩
theorem DW{t:Expr}{m:Mi Bool}(h:JT X E t m):JF X E [t] m:=⟨Fi h.p⟩
noncomputable abbrev rX:XK:=λ_ _ _=>False
theorem uo{n:Nat}{G:Mg}{Y B S:St}{o:Hp}{U Z0:List Sl}{P as ys:List A}{J:It}(K:Y.length=lo)(L:c.toKx=kx X)(li:S.length=P.length)
  (it:∀Y H Z D z i,D.length=z.length->Bd c Y H Z (D++(S++B)) (z++(P.map Sl.fr++θ))->(as.length<=i->J.stop i H)/\∀a,as[i]?=some a->J.go i H/\∀x H',J.iX i H x H'->Bd c Y H' Z (some x::(D++(S++B))) (.fr a::(z++(P.map Sl.fr++θ))))
  (g:Bd c Y o U (S++B) (P.map Sl.fr++θ))(u:as.length<=100000)(ec:bX G mt me as [] (U++Oc n .un)=some (ys,Z0))(q:Lu (kx X) E c Y (Z0.take U.length) B θ Q (.ok (.nw (.lst ys)))):
  vw J (J7 (kx X) lo G) (Af (kx X) rX mt) (kF (kx X) rX me) Q (Y++Oc n none) o:=by
 have r:Y.length=U.length:=g.gA;refine⟨λi m Z' vs H'=>m=as.length-i/\i<=as.length/\Z'.take lo=Y/\∃R acc,vs.length=acc.length/\acc.length<=i/\Bd c Z' H' R (vs.reverse.map some++(S++B)) (acc.reverse.map Sl.fr++(P.map Sl.fr++θ))/\bX G mt me (as.drop i) acc R=some (ys,Z0),
  ⟨_,rfl,Ou _,by rw[<-K,List.take_left],_,[],rfl,Ou _,g.yC,by simpa using ec⟩,?_⟩
 rintro i m Z' vs H' ⟨rfl,hi,htk,R,acc,lv,la,bi,l⟩;refine⟨by have:=iB;lia,?_⟩;obtain⟨i1,i2⟩:=it Z' H' R (vs.reverse.map some) (acc.reverse.map Sl.fr) i (by simp[lv]) bi;by_cases w:i<as.length
 .have hd:as.drop i=as[i]::as.drop (i+1):=Pl w;rw[hd] at l;obtain⟨go,yl⟩:=i2 as[i] (by simp[w]);refine .inr ⟨go,λT s d=>T.take lo=Y/\∃F b,s.length=b.length/\b.length<=i+1/\Bd c T d F (s.reverse.map some++(S++B)) (b.reverse.map Sl.fr++(P.map Sl.fr++θ))/\bX G mt me (as.drop (i+1)) b F=some (ys,Z0),
   λT s d ⟨q0,F,b,q1,q2,q3,q4⟩=>⟨as.length-(i+1),by lia,rfl,w,q0,F,b,q1,q2,q3,q4⟩,λx d y=>?_⟩
  have b2:=yl x d y;have fin:∀{F N:List Sl}{k:Bool},G as[i] R=some F->mt F=some (.ok k,N)->(∀V t,V.take lo=Y->Bd c V t N (vs.reverse.map some++(S++B)) (acc.reverse.map Sl.fr++(P.map Sl.fr++θ))->if k=true then kF (kx X) rX me V t λv j=>V.take lo=Y/\∃F b,(vs++[v]).length=b.length/\b.length<=i+1/\Bd c V j F ((vs++[v]).reverse.map some++(S++B)) (b.reverse.map Sl.fr++(P.map Sl.fr++θ))/\bX G mt me (as.drop (i+1)) b F=some (ys,Z0) else V.take lo=Y/\∃F b,vs.length=b.length/\b.length<=i+1/\Bd c V t F (vs.reverse.map some++(S++B)) (b.reverse.map Sl.fr++(P.map Sl.fr++θ))/\bX G mt me (as.drop (i+1)) b F=some (ys,Z0))->J7 (kx X) lo G x Z' d λV H3=>Af (kx X) rX mt V H3 λk t=>if k=true then kF (kx X) rX me V t λv j=>V.take lo=Y/\∃F b,(vs++[v]).length=b.length/\b.length<=i+1/\Bd c V j F ((vs++[v]).reverse.map some++(S++B)) (b.reverse.map Sl.fr++(P.map Sl.fr++θ))/\bX G mt me (as.drop (i+1)) b F=some (ys,Z0) else V.take lo=Y/\∃F b,vs.length=b.length/\b.length<=i+1/\Bd c V t F (vs.reverse.map some++(S++B)) (b.reverse.map Sl.fr++(P.map Sl.fr++θ))/\bX G mt me (as.drop (i+1)) b F=some (ys,Z0):=
   λI h f=>⟨c,R,_,_,as[i],_,L,b2,I,λV H3 C l3 b3=>⟨c,_,_,_,.ok _,_,L,b3,h,λt O=>f V t (C.trans htk) O⟩⟩
  cases uK l with
  |skip I h l=>exact fin I h λV t C O=>⟨C,_,acc,lv,by lia,O,l⟩
  |take I h ee ef l=>exact fin I h λV t C O=>⟨c,_,_,_,_,_,L,O,ee,λv j hv b5=>⟨C,_,_,by simp[lv],by simp;lia,by simpa using Bd.bg (xs:=[]) (ss:=[]) rfl b5 hv ef,l⟩⟩
 .have e:i=as.length:=by lia
  subst e;rw[Q4] at l;cases l;refine .inl ⟨i1 (Nr _),λp hp=>?_⟩;have b7:=Bd.wg bi (by simp[lv]) hp vs ys qR;have b8:=Bd.yq (by simp[li]) b7;have es:Z'=Y++Z'.drop lo:=by rw[<-htk];exact(OA _ _).symm
  rw[es] at b8;have b9:=b8.Kl;rw[r] at b9;exact q _ _ trivial b9
theorem kN{n:Nat}{x:Mi (List A)}{G:Mg}(Y:St)(H:Hp)(Q:VK)(y:Y.length=lo)(h:kF (kx X) E (aP n x G mt me) Y H Q):
  yf n (LK (kx X) E x) (J7 (kx X) lo G) (Af (kx X) rX mt) (kF (kx X) rX me) Y H Q:=by
 obtain⟨c,Z,B,θ,o,O,L,b,em,q⟩:=h;rcases bind_some em with ⟨as,U,a,F⟩|⟨e,a,F⟩
 .refine⟨c,Z,B,θ,_,U,L,b,a,λJ T S P m it g=>?_⟩;split at F
  .rename_i u;cases r:bX G mt me as [] (U++Oc n .un) with
   |none=>simp only[r] at F;cases F
   |some p=>obtain⟨ys,Z0⟩:=p;simp only[r] at F;cases F;exact uo y L m (λY H Z D z i l b=>it c Y H Z D z B θ i L l b) g u r q
  .cases F
 .subst F;exact⟨c,Z,B,θ,_,O,L,b,a,λC T hm g=>q C T hm g⟩
theorem BZ{k:Nat}{sc:Scope}{mi:Mi (List A)}{G:Mg}(hc:X.calm=true)(S:eG X.N N k sc X.env.scope)(hlo:X.N.length=lo)(hi:JI X E tg iter mi)
  (hg:∀cl C s H fp,JG (gr X N sc cl C s H fp) lo tg G)(ht:∀cl C s H fp,JF (gr X N sc cl C s H fp) rX ifs mt)(he:∀cl C s H fp,JE (gr X N sc cl C s H fp) rX elt me)(hs:∀x,foldedSetIterable iter X.env x=pure x:=by intro _;rfl):
  JE X E (.ListComp elt [⟨tg,iter,ifs,0⟩] sc pos) (aP k mi G mt me):=
 ⟨λpins s Y H Q I h=>zP hc S hi.p (λcl C s H fp=>(hg cl C s H fp).p) (λcl C s H fp=>(ht cl C s H fp).p) (λcl C s H fp=>(he cl C s H fp).p) hs pins s Y H Q I (kN Y H Q (I.len.trans hlo) h)⟩
theorem AO{spos:Pos}{k:Nat}{sc:Scope}{mi:Mi (List A)}{G:Mg}(hc:X.calm=true)(S:eG X.N N k sc X.env.scope)(hlo:X.N.length=lo)(hN:X.N.Nodup)(hx:X.N[i]?=some x)
  (hl:X.env.scope.names.lookup x=some .local)(hsw:swapsWith (.ListComp elt [⟨tg,iter,ifs,0⟩] sc pos) (some (.Name x px)) spos.line X.env=pure true)(hi:JI X E tg iter mi)
  (hg:∀cl C s H fp,JG (gr X N sc cl C s H fp) lo tg G)(ht:∀cl C s H fp,JF (gr X N sc cl C s H fp) rX ifs mt)(he:∀cl C s H fp,JE (gr X N sc cl C s H fp) rX elt me)(hs:∀x,foldedSetIterable iter X.env x=pure x:=by intro _;rfl):
  JS X E (.Assign [.Name x px] (.ListComp elt [⟨tg,iter,ifs,0⟩] sc pos) spos) (aF i (aP k mi G mt me)):=
 ⟨λpins s Y H D I h=>Bo hc S hN hx hl hsw hi.p (λcl C s H fp=>(hg cl C s H fp).p) (λcl C s H fp=>(ht cl C s H fp).p) (λcl C s H fp=>(he cl C s H fp).p) hs pins s Y H D I (by
  obtain⟨c,Z,B,θ,f,O,ek,b,em,q⟩:=h;refine kN (E:=E) Y H _ (I.len.trans hlo) (d9 ek b em q λr v U H1 hv b1 em1=>?_);cases e1:vm r U with
  |none=>simp only[e1] at em1;cases em1
  |some p=>
   obtain⟨t,Z0⟩:=p;simp only[e1] at em1;obtain⟨b2,ht⟩:=Bd.vm hv b1 e1;cases e2:put i t Z0 with
   |none=>simp only[e2] at em1;cases em1
   | some F=>simp only[e2] at em1;cases em1;exact q _ H1 (Bd.put b2 ht e2))⟩
noncomputable def aM(Z:List Sl)(i:Nat):Option LO:=match Z[i]? with
 |some (.lv o)=>some o
 |some (.pv o)=>some o
 |_=>none
noncomputable def setAt(Z:List Sl)(i:Nat)(o:LO):List Sl:=match Z[i]? with
 |some (.pv _)=>Z.set i (.pv o)
 |_=>Z.set i (.lv o)
theorem dZ.live{Y:St}{B:St}(b:dZ c Y H Z B θ L)(h:aM Z i=some o)(o':LO)(u:HO):
  ∃p,Y[i]?=some (some (.ref p))/\LR c.toKx (c.g H L) H p o/\((∀H',H' p=some u->LR c.toKx (c.g H L) H' p o')->Bd c Y (upd H p u) (setAt Z i o') B θ):=by
 unfold aM at h;unfold setAt;cases es:Z[i]? with
 |none=>simp only[es] at h;cases h
 |some s=>
  cases s with
  |un=>simp only[es] at h;cases h
  |fr a=>simp only[es] at h;cases h
  |lv x=>simp only[es] at h;cases h;exact b.change es (.inl ⟨rfl,rfl⟩)
  |pv x=>simp only[es] at h;cases h;exact b.change es (.inr ⟨rfl,rfl⟩)
theorem Bd.A4{Y:St}{B:St}{a:A}(b:Bd c Y H Z (some v::B) (.fr a::θ)):∃L,dZ c Y H Z B θ L/\RA c.toKx (c.g H L) v a:=by obtain⟨L,bl,r⟩:=Bd.jo (vs:=[v]) (as:=[a]) b rfl;cases r with|cons h _=>exact⟨L,bl,h⟩
def bw(i:Nat)(m:Mi Rr):Mi Rr:=aI m λr Z=>match bg r Z with
 |some (a,U)=>match aM U i with
  |some (.lst xs)=>if xs.length<=16000000 then some (.ok (.fr .non),setAt U i (.lst (xs++[a]))) else none
  |_=>none
 |none=>none
theorem cV{Y:St}{B:St}{xs:List A}(b:Bd c Y H Z B θ)(h:aM Z i=some (.lst xs)):∃p vs,Y[i]?=some (some (.ref p))/\H p=some (.lst vs):=by obtain⟨L,b⟩:=b;obtain⟨p,h1,h2,_⟩:=b.live h (.lst xs) (.lst []);cases h2 with|lst e r=>exact⟨p,_,h1,e⟩
def Ce(Z:List Sl)(i:Nat):Bool:=match aM Z i with
 |some (.lst _)=>true
 |_=>false
def cD(i:Nat)(m:Mi Rr):Mi Rr:=λZ=>if Ce Z i then m Z else none
theorem g9(h:Ce Z i=true):∃xs,aM Z i=some (.lst xs):=by
 unfold Ce at h;cases e:aM Z i with
 |none=>rw[e] at h;cases h
 |some o=>cases o with
  |lst xs=>exact⟨xs,rfl⟩
  |dic _=>rw[e] at h;cases h
  |dit _=>rw[e] at h;cases h
  |obj _ _=>rw[e] at h;cases h
theorem uN{apos cpos:Pos}(hN:X.N[i]?=some x)(hv:pH X.env.scope x)(hd:gq x)(hcd:uR x)(he:JE X E e m)
  (hbase:attributeBase (.Name x px) "append" X.env (eval (.Name x px) X.env)=eval (.Name x px) X.env:=by rfl)
  (hfew:((backTo cpos (starEach [e] X.env)).all (λx=>!x.1)&&(backToKw cpos (keywordEach [] X.env)).all (λx=>x.1.isSome)&&decide (([e]:List Expr).length+([]:List Keyword).length+(if ([]:List Keyword).isEmpty then 0 else 1)<30))=true:=by rfl)
  (hline:(apos.endLine==cpos.line)=true:=by rfl)(hs:starEach [e] X.env=(false,eval e X.env)::starEach [] X.env:=by rfl)(hplain:(backTo cpos (starEach [] X.env)).any (·.1)=false:=by rfl):
  JE X E (.Call (.Attribute (.Name x px) "append" apos) [e] [] cpos) (cD i (bw i m)):=
 ⟨PE.weaken (n8 Pu PySem.F.slot_list_append PySem.F.type_list_append uV (dF hN hv hd hcd) (bb he.p bZ hs) hbase hfew hline hs hplain) λY H Q h=>by
  obtain⟨c,Z,B,θ,o,O,ek,b,em,q⟩:=h;unfold cD at em;split at em
  .rename_i hl;obtain⟨xs0,hl⟩:=g9 hl;obtain⟨p,vs,hp,hH⟩:=cV b hl;refine⟨_,hp,.inl ⟨rfl,vs,.inl (.inl hH)⟩,?_⟩;refine aT ek b em (λr v U H1 hv b1 em1=>?_) (aX q);cases e1:bg r U with
   |none=>simp only[e1] at em1;cases em1
   |some pr=>
    obtain⟨a,Z0⟩:=pr;simp only[e1] at em1;have b2:=Bd.bg (xs:=[]) (ss:=[]) rfl b1 hv e1;cases e2:aM Z0 i with
    |none=>simp only[e2] at em1;cases em1
    |some lo=>
     cases lo with
     |dic _=>simp only[e2] at em1;cases em1
     |dit _=>simp only[e2] at em1;cases em1
     |obj _ _=>simp only[e2] at em1;cases em1
     |lst xs=>
      simp only[e2] at em1;split at em1
      .rename_i hx;cases em1;obtain⟨L,bl,ra⟩:=Bd.A4 b2;obtain⟨p',h1,h2,h3⟩:=bl.live e2 (.lst (xs++[a])) (.lst ((match H1 p with|some (.lst ws)=>ws|_=>[])++[v]));rw[hp] at h1;cases h1;cases h2 with
       |lst e rr=>rename_i ws;simp only[e] at h3;refine⟨p,ws,v,rfl,rfl,e,by have:=rr.len;have:=sizeLine_eq;lia,q _ _ trivial (Bd.push (h3 λH' hh=>.lst hh (rr.snoc ra)) λ_=>.non)⟩
      .cases em1
  .cases em⟩
def jZ(i:Nat)(mk m:Mi Rr):Ms:=cc m λr Z1=>if Ce Z1 i then cc mk (λY=>λZ=>match bg r Z with
 |some (a,U)=>match res U Y,aM U i with
  |some (.int k),some (.lst xs)=>match kR xs.length k with
   |some j=>some (.nx,setAt U i (.lst (xs.set j a)))
   |none=>none
  |_,_=>none
 | none=>none) Z1 else none
theorem wR{n:Pos}{l:Expr}{mk:Mi Rr}(hN:X.N[i]?=some x)(u:pH X.env.scope x)(hd:gq x)(I:uR x)(hk:JE X E l mk)(he:JE X E e m)
  (hp:∀{to R o:TE},PE X (.Name x px) to->PE X l R->PE X e o->PS X (.Assign [.Subscript (.Name x px) l n] e pos) (zf o (Ij to R Cw))):JS X E (.Assign [.Subscript (.Name x px) l n] e pos) (jZ i mk m):=
 ⟨PS.weaken (hp (dF hN u hd I) hk.p he.p) λD Y H h=>by
  obtain⟨c,Z,B,θ,f,O,l,b,em,q⟩:=h;refine d9 l b em q λr v U H1 u g K=>?_;split at K
  .rename_i hl;obtain⟨xs0,hl⟩:=g9 hl;obtain⟨p,vs,hp,hH⟩:=cV g hl;refine⟨_,hp,?_⟩;rcases cv K with ⟨J,Z0,G,t⟩|⟨ee,G,t⟩
   .refine⟨c,U,_,_,_,Z0,l,g,G,λw S hw z=>?_⟩;cases P:bg r Z0 with
    |none=>simp only[P] at t;cases t
    |some pr=>
     obtain⟨a,F⟩:=pr;simp only[P] at t;have d:Bd c Y S F (bx J w (some v::B)) (bz J (.fr a::θ.map Sl.fr)):=by obtain⟨g1,g2,g3⟩:=fJ J w (bx r v B) (bz r (θ.map Sl.fr));obtain⟨g4,g5,_⟩:=fJ J w (some v::B) (.fr a::θ.map Sl.fr);rw[g4,g5];rw[g1,g2] at z;exact Bd.bg g3 z u P
     cases y:res F J with
     |none=>simp only[y] at t;cases t
     |some ak=>
      cases ak<;>first|(simp only[y] at t;cases t;done)|skip
      rename_i k;have Q:=Bd.rd d hw y;cases Q;cases A:aM F i with
      |none=>simp only[y,A] at t;cases t
      |some lo=>
       cases lo with
       |dic _=>simp only[y,A] at t;cases t
       |dit _=>simp only[y,A] at t;cases t
       |obj _ _=>simp only[y,A] at t;cases t
       |lst xs=>
        simp only[y,A] at t;cases V:kR xs.length k with
        |none=>simp only[V] at t;cases t
        |some j=>
         simp only[V] at t;cases t;obtain⟨L,bl,ra⟩:=Bd.A4 d.drop;obtain⟨p',h1,h2,h3⟩:=bl.live A (.lst (xs.set j a)) (.lst ((match S p with|some (.lst s)=>s|_=>[]).set j v));rw[hp] at h1;cases h1;cases h2 with
         |lst e T=>rename_i s;simp only[e] at h3;exact⟨p,s,k,j,rfl,rfl,e,by rw[T.len];exact V,q Y _ (h3 λH' hh=>.lst hh (T.set ra j))⟩
   .subst t;exact⟨c,U,_,_,_,O,l,g,G,λC S hm z=>q C Y S hm z.drop⟩
  .cases K⟩
end
noncomputable def MV(a b:Str):Bool:=!PySem.Spec.ltCps b.cps.toList a.cps.toList
def Iw(l:List Str):List Str:=l.mergeSort MV
noncomputable def iL:List A->Option (List Str)
 |[]=>some []
 | .str x::r=>match iL r with
  |some ss=>some (x::ss)
  |none=>none
 |_=>none
theorem lh:∀{as:List A}{ss:List Str},iL as=some ss->as=ss.map A.str
 |[],_,h=>by cases h;rfl
 | .str x::r,_,h=>by
  unfold iL at h;cases e:iL r with
  |none=>simp only[e] at h;cases h
  |some ss=>simp only[e] at h;cases h;rw[lh e];rfl
 | .non::_,_,h=>by cases h
 | .bl _::_,_,h=>by cases h
 | .int _::_,_,h=>by cases h
 | .tup _::_,_,h=>by cases h
 | .lst _::_,_,h=>by cases h
 | .dic _::_,_,h=>by cases h
 | .exc _::_,_,h=>by cases h
theorem yX(ss:List Str):iL (ss.map A.str)=some ss:=by
 induction ss with
 |nil=>rfl
 |cons s ss j=>rw[NK,iL,j]
noncomputable def strKeys:List (Key×A)->Option (List Str)
 |[]=>some []
 |(.inr x,_)::r=>match strKeys r with
  |some ss=>some (x::ss)
  |none=>none
 |_=>none
section
variable{X:Cx}{E:XK}
open PySem.Spec PyProof.Rows PySem.W in
def Jz:A->Option Rr
 | .dic kvs=>match strKeys kvs with
  |some ss=>if ss.length<64 then some (.nw (.lst ((Iw ss).map A.str))) else none
  |none=>none
 |_=>none
noncomputable def MU(f g:A->Option Rr):A->Option Rr:=λa=>match f a with
 |some r=>some r
 |none=>g a
open PySem.Spec PyProof.Rows PySem.W in
def Fb:A->Option Rr
 | .dic kvs=>match strKeys kvs with
  |some ss=>some (.nw (.lst (ss.map A.str)))
  |none=>none
 |_=>none
end
end M
namespace L2
open PySem PySem.Spec PyProof.Rows
theorem fV{prog:Program}{w:World}{A:Around}{E:Value->Shared->Prop}{s:Shared}{t sl:Addr}{items:Array Value}{Z Y:Value}{lo hi:Option Int}{Q:Value->Shared->Prop}(ht:IsTup s.heap t items)(hs:s.heap.IsSliceOf sl Z Y .none)(pl:IsPart Z lo)(K:IsPart Y hi)
  (f:HT.bV items.size 0 lo=0/\HT.bV items.size items.size hi=items.size)(h:Q (.ref t) s):wpAny (model prog w) A (getItem (.ref t) (.ref sl)) Q E s:=by
 obtain⟨os,H,N,J⟩:=id hs;have U:s.TypeIs (.ref sl) "slice" := ⟨os,H,N⟩
 unfold getItem
 try with_reducible refine wpAny_holding ?_
 first|refine wpAny_bind (wpAny_pure ?_)|skip
 refine wpAny_bind (wpAny_sequenceKey ht.typeIs (by decide) ?_);refine wpAny_bind (wpAny_callSpecial?_slot (name:=QH "__getitem__") ht.typeIs OJ
  (wpAny_call_entry OJ ht.typeIs entry_tuple_getitem ?_ (args_tuple_getitem _ _)))
 show wpAny _ _ (RN (.ref t) >>= _) _ _ s;refine wpAny_bind (tupleItemsOf_ ht ?_);refine wpAny_bind (wpAny_typeOf U ?_);rw[if_pos (by decide)];refine wpAny_bind (HT.dW hs pl K ?_);show wpAny _ _ (if (((HT.bV items.size 0 lo:Nat):Int)==0&&(1:Int)==1&&(HT.bV items.size items.size hi-HT.bV items.size 0 lo)==items.size)=true then _ else _) _ _ s;rw[if_pos (by rw[f.1,f.2];simp)];refine wpAny_bind ?_;unfold Vp;refine wpAny_bind (wpAny_typeOf ht.typeIs (wpAny_pure ?_));rw[if_pos (by decide)];refine wpAny_bind (wpAny_rule ?_);exact wpAny_pure ⟨_,rfl,wpAny_pure h⟩
def KS(K:Nh):V->Option Int->Option Int->Hp->VK->Prop:=λx lo hi H Q=>∃a xs,x=.ref a/\cQ K H a xs/\(HT.bV xs.length 0 lo=0/\HT.bV xs.length xs.length hi=xs.length)/\Q (.ref a) H
theorem zQ{X:Cx}:d5 X (KS X.K):=by
 intro pins s Y H x v A Z lo hi sl Q I o hs pl l h;obtain⟨a,xs,rfl,hx,f,q⟩:=h;cases o;obtain⟨b,r,ht,hz⟩:=I.tuple hx;have E:b.toArray.size=xs.length:=by rw[Nk];exact r.length.symm
 refine⟨"tuple",_,OJ.lookup,ht.typeIs,?_⟩;exact fV ht hs pl l (by rw[E];exact f) ⟨.ref a,H,I,rfl,q⟩
end L2
namespace M
open PySem L2
variable{c:Cn}{H:Hp}{Z θ:List Sl}
theorem dZ.JD{Y:St}{B:St}{L:List Addr}{v w:V}{a b:A}(bl:dZ c Y H Z B θ L)(h1:RA c.toKx (c.g H L) v a)(h2:RA c.toKx (c.g H L) w b):Bd c Y H Z (some v::some w::B) (.fr a::.fr b::θ):=
 ⟨L,bl.nd,av.cons (L:=[]) (.fr h1) (av.cons (L:=[]) (.fr h2) bl.rel),bl.own,bl.fr,bl.kp,by simp[bl.lt],bl.hd⟩
variable{mo m:Mi Rr}{K:Kx}{e:Expr}{apos cpos p2 pos:Pos}{O:List Sl}{Q:Option Int->Hp->Prop}{i j:Nat}
section
variable{X:Cx}{E:XK}
def qw(K:Nh):V->List V->Hp->VK->Prop:=λx vs H Q=>∃(B:Str)(l:Addr)(ss:List Str),x=.str B/\vs=[.ref l]/\fo K H l (ss.map V.str)/\gA ss+ss.length*B.length<=100000/\Q (.str (OR B ss)) H
theorem jT(B:Str):∀(ss:List Str)(n:Nat),ss.foldl (λ(a:Nat)(z:Str)=>a+z.length+B.length) n=n+gA ss+ss.length*B.length
 |[],n=>by simp[gA]
 |z::ss,n=>by rw[Rl,jT B ss];have e:gA (z::ss)=z.length+gA ss:=rfl;rw[e,NM,Nat.add_mul,Nat.one_mul];lia
open PySem.Spec PyProof.Rows PySem.W in
theorem wk:Hb X "str.join" (qw X.K):=by
 intro pins s Y H x vs v us Q I o rv h;obtain⟨B,l,ss,rfl,rfl,R,hl,q⟩:=h;obtain⟨t,rfl⟩:=o;obtain⟨u,rfl,C⟩:=rv.one;cases C;obtain⟨g,r,p,hz⟩:=I.list R;obtain⟨ps,rfl,i⟩:=L2.gb (L2.pQ r);have m:=v9;have Z:Rc ((ps.map (·.1)).toArray.foldl (·+·.length+B.length) 0)=false:=by
  have e:(ps.map (·.1)).toArray.foldl (λ(a:Nat)(z:Str)=>a+z.length+B.length) 0=gA ss+ss.length*B.length:=by rw[List.foldl_toArray,jT,i,Qb]
  unfold Rc;rw[e];exact decide_eq_false (by lia)
 refine call_meets F.slot_str_join (typeIs_str _ _ _) F.entry_str_join (F.args_str_join_2 _ _) (meets_str_join_list B t l ps Z) ⟨p.isList,?_⟩;have j:(OR B ss).length<=gA ss+ss.length*B.length:=by rw[size_glued];have:(ss.length-1)*B.length<=ss.length*B.length:=RE _ (VX _ _);have e:gA ss=(ss.map (·.length)).sum:=rfl;lia
 have n:∀(z:Str)(t':Tok)(k:Nat),z=OR B ss->EP X pins Y Q (.str z t') { s with toks:=k }:=λz t' k e=>⟨.str z,H,I.tok _,⟨t',rfl⟩,by rw[e];exact q⟩
 have fin:(Made.str (OR B (ps.map (·.1)))).post (λv s'=>EP X pins Y Q v s') s:=⟨by rw[i];lia,n _ _ _ (by rw[i])⟩
 cases ps with
 |nil=>exact fin
 |cons a ps=>
  cases ps with
  |nil=>subst i;exact n a.1 a.2 s.toks rfl
  |cons b ps=>exact fin
def Ng(f:Str->Option Rr)(mo:Mi Rr):Mi Rr:=aI mo λx Z=>match x with
 | .fr (.str z)=>match f z with
  |some r=>some (.ok r,Z)
  |none=>none
 |_=>none
def ye(f:Str->A->Option Rr)(mo m:Mi Rr):Mi Rr:=aI mo λx Z1=>match x with
 | .fr (.str z)=>aI m (λy Z=>match res Z y with
  |some a=>match f z a with
   |some r=>some (.ok r,Z)
   |none=>none
  | none=>none) Z1
 |_=>none
theorem rZ{r:V->List V->Hp->VK->Prop}{f:Str->A->Option Rr}(hf:∀z,tD (kx X) (λw=>r (.str z) [w]) (f z))(Y:St)(H:Hp)(Q:VK)(h:kF (kx X) E (ye f mo m) Y H Q):
  kF (kx X) E mo Y H λx T=>Kd X.K "str" x T/\kF (kx X) E m Y T λy S=>r x [y] S Q:=by
 obtain⟨c,Z,B,θ,o,O,L,b,em,q⟩:=h;refine aT L b em (λx v U T u e p=>?_) (aX q);cases x with
 |rf i=>cases p
 |nw o=>cases p
 |fr a=>
  cases a<;>first|(cases p;done)|skip
  rename_i z;have k:=Bd.top e (a:=.str z) rfl;cases k;refine⟨rfl,?_⟩;refine aT L e.pop p (λy w Z0 S N l t=>?_) (aX q);obtain⟨a,r,D,n,rfl,rfl⟩:=mU t;exact hf z c Y S _ B θ y w a r Q L N l D n q
def gh(B:Str):A->Option Rr
 | .lst xs=>match iL xs with
  |some ss=>if gA ss+ss.length*B.length<=100000 then some (.fr (.str (OR B ss))) else none
  |none=>none
 |_=>none
theorem z9(B:Str):tD K (λw=>qw K.K (.str B) [w]) (gh B):=.scalar λH v a q c h=>by
 cases a<;>first|(cases h;done)|skip
 rename_i xs;unfold gh at h;simp only at h;cases es:iL xs with
 |none=>simp only[es] at h;cases h
 |some ss=>
  simp only[es] at h;split at h
  .rename_i hl;cases h;cases c with
   |lst e r=>rw[lh es] at r;rw[r.strs] at e;exact⟨_,_,rfl,λ_=>.str _,λQ k=>⟨B,_,ss,rfl,rfl,e,hl,k⟩⟩
  .cases h
theorem BW{o:Expr}(ho:JE X E o mo)(he:JE X E e m)(hp:∀{to u:TE},PE X o to->PE X e u->PE X (.Call (.Attribute o "join" apos) [e] [] cpos) (KZ X.K "str" (qw X.K) to (vA u Fd))):
  JE X E (.Call (.Attribute o "join" apos) [e] [] cpos) (ye gh mo m):=⟨PE.weaken (hp ho.p he.p) λY H Q h=>rZ z9 Y H Q h⟩
def bL:Mi (Option Int):=jK none
def bH(m:Mi Rr):Mi (Option Int):=aI m λr Z=>match res Z r with
 |some (.int i)=>some (.ok (some i),Z)
 |_=>none
def HM(K:Kx)(E:XK)(c:Cn)(Y:St)(Z:List Sl)(B:St)(θ:List Sl)(Q:Option Int->Hp->Prop):Except Str (Option Int)->Prop
 | .ok i=>∀H,Bd c Y H Z B θ->Q i H
 | .error x=>∀C H,K.mg x=some (.ref C)->Bd c Y H Z B θ->E (.ref C) none H
inductive LV(K:Kx)(E:XK)(m:Mi (Option Int))(Y:St)(H:Hp)(Q:Option Int->Hp->Prop):Prop
 |mk(c:Cn)(Z:List Sl)(B:St)(θ:List Sl)(o:Except Str (Option Int))(O:List Sl)(h1:c.toKx=K)(h2:Bd c Y H Z B θ)(h3:m Z=some (o,O))(h4:HM K E c Y O B θ Q o)
structure JP(X:Cx)(E:XK)(e:Option Expr)(m:Mi (Option Int)):Prop where
 p:PO X e (LV (kx X) E m)
theorem PO.weaken{e:Option Expr}{t t':TO}(h:PO X e t)(f:∀Y H Q,t' Y H Q->t Y H Q):PO X e t':=λpins s Y H Q I q=>h pins s Y H Q I (f Y H Q q)
theorem xj{Y:St}{B:St}{o:Except Str (Option Int)}(q:HM (kx X) E c Y O B θ Q o):∀e,o=.error e->∀C H,X.mg e=some (.ref C)->Bd c Y H O B θ->E (.ref C) none H:=λe s=>by subst s;exact q
theorem An:JP X E none bL:=⟨PO.weaken BE λY H Q h=>by obtain⟨c,Z,B,θ,o,O,L,b,em,q⟩:=h;cases em;exact q H b⟩
theorem Cb(h:JE X E e m):JP X E (some e) (bH m):=⟨PO.weaken (Aj h.p) λY H Q h=>by
 obtain⟨c,Z,B,θ,o,O,L,b,em,q⟩:=h;refine aT L b em (λx v U T u i K=>?_) (xj q);cases D:res U x with
 |none=>simp only[D] at K;cases K
 |some a=>
  have k:=Bd.rd i u D;cases a<;>first|(simp only[D] at K;cases K;done)|skip
  simp only[D] at K;cases K;cases k;exact⟨_,rfl,q T i.drop⟩⟩
def iV(xs:List A)(lo hi:Option Int):List A:=(xs.drop (HT.bV xs.length 0 lo)).take (HT.bV xs.length xs.length hi-HT.bV xs.length 0 lo)
theorem zc{k:Kx}{G:Hp}{vs:List V}{as:List A}(r:bh k G vs as)(lo hi:Option Int):bh k G (mY vs lo hi) (iV as lo hi):=by unfold mY iV;rw[r.len];exact(r.drop _).take _
def Ka(a:A)(lo hi:Option Int):Option Rr:=match a with
 | .lst xs=>some (.nw (.lst (iV xs lo hi)))
 | .tup xs=>some (.fr (.tup (iV xs lo hi)))
 | .str z=>if z.length<=100000 then some (.fr (.str (PR z lo hi))) else none
 |_=>none
def nC(m:Mi Rr)(H Y:Mi (Option Int)):Mi Rr:=aI m λx=>aI H λlo=>aI Y λhi=>λZ=>match res Z x with
 |some a=>match Ka a lo hi with
  |some r=>some (.ok r,Z)
  |none=>none
 |none=>none
theorem sy{Y:St}{B:St}{β:Type}{m:Mi (Option Int)}{f:Option Int->Mi β}{o:Except Str β}(L:c.toKx=kx X)(b:Bd c Y H Z B θ)(em:aI m f Z=some (o,O))
  (h1:∀k U T,Bd c Y T U B θ->f k U=some (o,O)->Q k T)
  (h2:∀e,o=.error e->∀C H,X.mg e=some (.ref C)->Bd c Y H O B θ->E (.ref C) none H):LV (kx X) E m Y H Q:=by
 rcases bind_some em with ⟨x,U,D,F⟩|⟨e,D,F⟩
 .exact⟨c,Z,B,θ,_,U,L,b,D,λT h=>h1 x U T h F⟩
 .exact⟨c,Z,B,θ,_,O,L,b,D,λC T hm h=>h2 e F C T hm h⟩
theorem Ho{lo hi:Option Expr}{I J:Mi (Option Int)}(h:JE X E e m)(hl:JP X E lo I)(V:JP X E hi J):JE X E (.Subscript e (.Slice lo hi none p2) pos) (nC m I J):=
 ⟨PE.weaken (y0 (L2.d5.or zV (L2.d5.or (L2.d5.or E4 zQ) Em)) h.p hl.p V.p) λY H Q h=>by
  obtain⟨c,Z,B,θ,o,O,w,b,em,q⟩:=h;refine aT w b em (λx v U R s i t=>?_) (aX q);refine sy w i t (λl Z0 g N y=>?_) (fz (aX q));refine sy w N y (λu F f d A=>?_) (fz (aX q));obtain⟨a,r,D,n,rfl,rfl⟩:=mU A;have C:c.K=X.K:=congrArg Kx.K w;obtain⟨L,bl,P⟩:=Bd.open d s D;have k:=Bd.rd d s D;cases a<;>first|(cases n;done)|skip
  .rename_i z;unfold Ka at n;simp only at n;split at n
   .rename_i hz;cases n;cases k;exact .inr (.inr ⟨z,rfl,N5 hz iB,q _ f trivial (Bd.push ⟨L,bl⟩ λ_=>.str _)⟩)
   .cases n
  .rename_i xs;cases n;obtain⟨p,vs,rfl,s1,T⟩:=P.2.1 xs rfl;by_cases hn:HT.bV xs.length 0 l=0/\HT.bV xs.length xs.length u=xs.length
   .refine .inr (.inl (.inr ⟨p,vs,rfl,by rw[<-C];exact cq (g_same _ _ _) s1,by rw[T.len];exact hn,?_⟩));have S:iV xs l u=xs:=by unfold iV;rw[hn.1,hn.2,UZ,TB,Q5]
    rw[S] at q;exact q _ _ trivial (bl.push (.tup s1 T))
   .refine .inr (.inl (.inl ⟨p,vs,rfl,by rw[<-C];exact cq (g_same _ _ _) s1,by rw[T.len];exact hn,λj hp=>?_⟩));obtain⟨N,sm,np⟩:=bl.new (o:=.tup (mY vs l u)) hp;exact q _ _ trivial (N.push (.tup (.inl (.inl (by rw[bU np (bl.Kr hp)];exact bT))) ((zc T l u).sm sm)))
  .rename_i xs;cases n;obtain⟨p,vs,rfl,s1,T⟩:=P.1 xs rfl;exact .inl ⟨p,vs,rfl,by rw[<-C];exact s1,λj hp=>q _ _ trivial (bl.iG hp λG H' sm q=>.lst q ((zc T l u).sm sm))⟩⟩
noncomputable def Nb(f g:Mg):Mg:=λa Z=>match f a Z with
 |some r=>some r
 |none=>g a Z
def mw(m:Mi Rr)(G:Mg):Ms:=cc m λr Z=>match bg r Z with
 |some (a,U)=>match G a U with
  |some Z0=>some (.nx,Z0)
  |none=>none
 |none=>none
theorem G4{tg:Expr}{G:Mg}(he:JE X E e m)(hg:JG X 0 tg G)(hs:swapsWithSole [tg] e pos.line X.env=pure false:=by rfl)(hw:swappedStores [tg] e X.env=pure none:=by rfl)
  (hp:∀{te:TE}{g:TG},PE X e te->PG X tg g->PS X (.Assign [tg] e pos) (zf te g)):JS X E (.Assign [tg] e pos) (mw m G):=⟨PS.weaken (hp he.p hg.p) λD Y H h=>by
 obtain⟨c,Z,B,θ,f,O,ek,b,em,q⟩:=h;refine d9 ek b em q λr v U H1 hv b1 em1=>?_;cases e1:bg r U with
 |none=>simp only[e1] at em1;cases em1
 |some p=>
  obtain⟨a,Z0⟩:=p;simp only[e1] at em1;have b2:=Bd.bg (xs:=[]) (ss:=[]) rfl b1 hv e1;cases e2:G a Z0 with
  |none=>simp only[e2] at em1;cases em1
  | some F=>simp only[e2] at em1;cases em1;exact⟨c,Z0,B,_,a,O,ek,b2,e2,λZ' H' _ _ b3=>q Z' H' b3⟩⟩
def As(i j:Nat)(rs:List Rr)(Z:List Sl):Option (Fl×List Sl):=match dU rs Z with
 |some ([a,b],U)=>match put i (.fr a) U with
  |some Z0=>match put j (.fr b) Z0 with
   |some F=>some (.nx,F)
   |none=>none
  |none=>none
 |_=>none
theorem uY{rs:List Rr}{f:Fl}(h:As i j rs Z=some (f,O)):∃a d Z0 F,dU rs Z=some ([a,d],Z0)/\put i (.fr a) Z0=some F/\put j (.fr d) F=some O/\f=.nx:=by
 unfold As at h;cases Y:dU rs Z with
 |none=>rw[Y] at h;cases h
 |some p=>
  rw[Y] at h;obtain⟨as,Z0⟩:=p
  match as,h with
  |[a,d],h=>
   dsimp only at h;cases n:put i (.fr a) Z0 with
   |none=>rw[n] at h;cases h
   |some F=>
    rw[n] at h;dsimp only at h;cases b:put j (.fr d) F with
    |none=>rw[b] at h;cases h
    |some N=>rw[b] at h;cases h;exact⟨a,d,Z0,F,rfl,n,b,rfl⟩
theorem A5{α:Type}{l:List α}(h:l.length=2):∃a b,l=[a,b]:=match l,h with
 |[a,b],_=>⟨a,b,rfl⟩
def xA(i j:Nat)(m:Mi (List Rr)):Ms:=cc m (As i j)
theorem Dx{s:Stmt}{es:List Expr}{m:Mi (List Rr)}(ha:JA X E es m)(r:i≠j)(hp:∀{ta:TA},PA X es ta->PS X s (JB i j ta)):JS X E s (xA i j m):=⟨PS.weaken (hp ha.p) λD Y H h=>by
 obtain⟨c,Z,B,θ,f,O,l,b,em,q⟩:=h;rcases cv em with ⟨rs,U,G,t⟩|⟨e,G,t⟩
 .refine⟨c,Z,B,_,_,U,l,b,G,λvs T u g=>?_⟩;obtain⟨a,d,Z0,F,P,n,N,rfl⟩:=uY t;obtain⟨y,Q⟩:=Bd.dU u g P;obtain⟨v,w,rfl⟩:=A5 Q;refine⟨v,w,rfl,q _ T ?_⟩;have A:Bd c Y T Z0 (some w::some v::B) (.fr d::.fr a::θ.map Sl.fr):=by simpa using y
  obtain⟨L,bl,x⟩:=Bd.jo (vs:=[w,v]) (as:=[d,a]) A rfl;cases x with|cons h1 x=>cases x with|cons h2 _=>
  exact Bd.put (Bd.put (dZ.JD bl h2 h1) (λo z=>by cases z) n) (λo z=>by cases z) N
 .subst t;exact⟨c,Z,B,_,_,O,l,b,G,λC T hm g=>q C Y T hm g⟩⟩
end
section
variable{X:Cx}{E:XK}{a b:Expr}{D mb:Mi Rr}{pos:Pos}
abbrev dq:=zD sI yb
theorem DG(ha:JE X E a D)(hb:JE X E b mb):JE X E (.BinOp a .Sub b pos) (ay kD D mb):=kU Ga G7 ha hb
theorem Eo(ha:JE X E a D)(hb:JE X E b mb):JE X E (.BinOp a .Mult b pos) (ay dq D mb):=kU (fG.or' z7 BY) (Ar.or zN) ha hb
theorem GU(ha:JE X E a D)(hb:JE X E b mb):JE X E (.BinOp a .FloorDiv b pos) (ay kE D mb):=kU yM Gy ha hb
theorem GL(ha:JE X E a D)(hb:JE X E b mb):JE X E (.BinOp a .Mod b pos) (ay fC D mb):=kU z4 EH ha hb
theorem Fg(ha:JE X E a D)(hb:JE X E b mb):JE X E (.BinOp a .Pow b pos) (ay ix D mb):=kU EN FX ha hb
theorem HX(B:X.A.units+64<cLine)(ha:JE X E a D)(hb:JE X E b mb):JE X E (.Compare a [.Eq] [b] pos) (ay dg D mb):=gB (yt B) os_eq ha hb (dP _)
theorem Je(B:X.A.units+64<cLine)(ha:JE X E a D)(hb:JE X E b mb):JE X E (.Compare a [.NotEq] [b] pos) (ay iJ D mb):=gB (yK B) Df ha hb (dP _)
theorem Ir(ha:JE X E a D)(hb:JE X E b mb):JE X E (.Compare a [.Lt] [b] pos) (ay wx D mb):=gB Ck CM ha hb (dP _)
theorem Hu(ha:JE X E a D)(hb:JE X E b mb):JE X E (.Compare a [.Gt] [b] pos) (ay Gk D mb):=gB Dk Dc ha hb (dP _)
theorem JY(ha:JE X E a D)(hb:JE X E b mb):JE X E (.Compare a [.GtE] [b] pos) (ay Hk D mb):=gB Ci CN ha hb (dP _)
theorem IH(B:X.A.units+64<cLine)(ha:JE X E a D)(hb:JE X E b mb):JT X E (.Compare a [.Eq] [b] pos) (au (ay dg D mb)):=gx (yt B) os_eq ha hb (dP _)
theorem Hy(B:X.A.units+64<cLine)(ha:JE X E a D)(hb:JE X E b mb):JT X E (.Compare a [.NotEq] [b] pos) (au (ay iJ D mb)):=gx (yK B) Df ha hb (dP _)
theorem IS(ha:JE X E a D)(hb:JE X E b mb):JT X E (.Compare a [.Lt] [b] pos) (au (ay wx D mb)):=gx Ck CM ha hb (dP _)
theorem Hw(ha:JE X E a D)(hb:JE X E b mb):JT X E (.Compare a [.Gt] [b] pos) (au (ay Gk D mb)):=gx Dk Dc ha hb (dP _)
theorem HQ(ha:JE X E a D)(hb:JE X E b mb):JT X E (.Compare a [.GtE] [b] pos) (au (ay Hk D mb)):=gx Ci CN ha hb (dP _)
end
noncomputable def Cv:Nat:=2^10000
noncomputable def yR(K:Nh):Sp:=λvs H Q _=>∃(p:Addr)(ns:List Int),vs=[.ref p]/\fo K H p (ns.map V.int)/\ns.length<=63/\∀H',Q (.bl true) H'
theorem sD{k:Kx}{G:Hp}:∀(ns:List Int),bh k G (ns.map V.int) (ns.map A.int)
 |[]=>.nil
 |n::ns=>.cons (.int n) (sD ns)
theorem GH{P:Program}{w:World}{K:Nh}{mg:Str->Option Value}{base:Heap}{CX:oj}{k:Nat}{f:Addr}{fd:FuncData}{ps:List Str}{m:Ms}(F:dM P w K mg base CX k f fd ps (nu ⟨K,mg,P,w⟩ 1 m))
  (h:∀ns:List Int,ns.length<=63->∃Z,m [.fr (.lst (ns.map A.int))]=some (.rt (.fr (.bl true)),Z)):dM P w K mg base CX k f fd ps (yR K):=
 F.imp λvs H Q E q=>by
  obtain⟨p,ns,rfl,hs,hl,q⟩:=q;obtain⟨Z,e⟩:=h ns hl
  let c:Cn:={ K:=K,mg:=mg,P:=P,w:=w,σ0:=[some (.ref p)],H0:=H,Lp:=[],Hd:=[],Wk:=[] }
  refine⟨rfl,c,_,_,Z,rfl,rfl,rfl,⟨.nil,av.cons (L:=[]) (.fr (.lst (hZ (Sq.of λb o e=>?_) hs) (sD ns))) .nil,λp hp=>(by cases hp),⟨λb o e=>⟨o,e,λ_ _=>rfl⟩,λq R=>(by cases R)⟩,λi o _=>rfl,rfl,λq R=>(by cases R)⟩,e,λv H' _ b=>?_⟩
  .rw[bU (c:=c) (λz=>by cases z) (λz=>by cases z)];exact e
  .have r:=Bd.top b (a:=.bl true) rfl;cases r;exact q H'
def lL(m:Mi Rr):Mi Rr:=aI m λr Z=>match bg r Z with
 |some (a,O)=>some (.ok (.fr a),O)
 |none=>none
variable{X:Cx}
theorem Dn{E:XK}(he:JE X E e m):JE X E e (lL m):=⟨PE.weaken he.p λY H Q h=>by
 obtain⟨c,Z,B,θ,o,O,L,b,em,q⟩:=h;refine aT L b em (λx v U T u i K=>?_) (aX q);cases D:bg x U with
 |none=>simp only[D] at K;cases K
 | some p=>obtain⟨a,Z0⟩:=p;simp only[D] at K;cases K;exact q v T trivial (Bd.bg (xs:=[]) (ss:=[]) rfl i u D)⟩
variable{x:Str}
section
variable{X:Cx}{E:XK}
inductive Ty where|bool|int|str|tuple|list|dict
 deriving DecidableEq
noncomputable def Ty.n:Ty->String
 | .bool=> "bool" | .int=> "int" | .str=> "str" | .tuple=> "tuple" | .list=> "list" | .dict=> "dict"
noncomputable def Lo(T:Ty):A->Option Bool
 | .non=>some false
 | .bl _=>some (T=.bool || T=.int)
 | .int _=>some (T=.int)
 | .str _=>some (T=.str)
 | .tup _=>some (T=.tuple)
 | .lst _=>some (T=.list)
 | .dic _=>some (T=.dict)
 |_=>none
def jW(T:Ty)(a:A):Option Rr:=match Lo T a with
 |some k=>some (.fr (.bl k))
 |none=>none
theorem FR(K:Nh)(T:Ty):O6 K (.type "NoneType") (.type T.n)=some false:=by cases T<;>kernel_rfl
theorem AH(K:Nh)(T:Ty):O6 K (.type "bool") (.type T.n)=some (T=.bool || T=.int:Bool):=by cases T<;>kernel_rfl
theorem DC(K:Nh)(T:Ty):O6 K (.type "int") (.type T.n)=some (T=.int:Bool):=by cases T<;>kernel_rfl
theorem EE(K:Nh)(T:Ty):O6 K (.type "str") (.type T.n)=some (T=.str:Bool):=by cases T<;>kernel_rfl
theorem Ge(K:Nh)(T:Ty):O6 K (.type "tuple") (.type T.n)=some (T=.tuple:Bool):=by cases T<;>kernel_rfl
theorem E8(K:Nh)(T:Ty):O6 K (.type "list") (.type T.n)=some (T=.list:Bool):=by cases T<;>kernel_rfl
theorem FJ(K:Nh)(T:Ty):O6 K (.type "dict") (.type T.n)=some (T=.dict:Bool):=by cases T<;>kernel_rfl
theorem D3(T:Ty):tD K (λv H Q=>∃x c t b,[v,V.ty T.n]=[x,c]/\AR K.K H x t/\tJ c=true/\O6 K.K t (A0 c)=some b/\Q (.bl b) H) (jW T):=.scalar λH v a q E h=>by
 cases a<;>first|(cases h;done)|skip
 .cases E;cases h;exact⟨_,_,rfl,λ_=>.bl _,λQ k=>⟨_,_,_,_,rfl,.of .non,rfl,FR _ T,k⟩⟩
 .cases E;cases h;exact⟨_,_,rfl,λ_=>.bl _,λQ k=>⟨_,_,_,_,rfl,.of (.bl _),rfl,AH _ T,k⟩⟩
 .cases E;cases h;exact⟨_,_,rfl,λ_=>.bl _,λQ k=>⟨_,_,_,_,rfl,.of (.int _),rfl,DC _ T,k⟩⟩
 .cases E;cases h;exact⟨_,_,rfl,λ_=>.bl _,λQ k=>⟨_,_,_,_,rfl,.of (.str _),rfl,EE _ T,k⟩⟩
 .cases E with
  |tup e r=>cases h;exact⟨_,_,rfl,λ_=>.bl _,λQ k=>⟨_,_,_,_,rfl,.tup e,rfl,Ge _ T,k⟩⟩
 .cases E with
  |lst e r=>cases h;exact⟨_,_,rfl,λ_=>.bl _,λQ k=>⟨_,_,_,_,rfl,.lst e,rfl,E8 _ T,k⟩⟩
 .cases E with
  |dic e r=>cases h;exact⟨_,_,rfl,λ_=>.bl _,λQ k=>⟨_,_,_,_,rfl,.dic e,rfl,FJ _ T,k⟩⟩
theorem D9{y:Str}{p:Pos}(T:Ty)(hg:Gl X x)(hm:X.mg x=none)(hv:bootBuiltins x=some (.builtin "isinstance"))(hg2:Gl X y)(hm2:X.mg y=none)(hv2:bootBuiltins y=some (.type T.n))(ha:JE X E e m)(hn:x ≠ "__name__")
  (hdb:gq x)(hn2:y ≠ "__name__")(hdb2:gq y)(hs:starEach [e,.Name y p2] X.env=(false,eval e X.env)::starEach [.Name y p2] X.env:=by rfl)(hs2:starEach [.Name y p2] X.env=(false,eval (.Name y p2) X.env)::starEach [] X.env:=by rfl)(hp:(backTo pos (starEach [.Name y p2] X.env)).any (·.1)=false:=by rfl):JE X E (.Call (.Name x p) [e,.Name y p2] [] pos) (cU (jW T) m):=
 ⟨PE.weaken (hG v5 hg hm hv (bb ha.p (bb (Bt hg2 hm2 hv2 (v:=.ty T.n) rfl hn2 hdb2) bZ hs2) hs) hn hdb hs hp) λY H Q h=>jr (r:=λv H Q=>∃x c t b,[v,V.ty T.n]=[x,c]/\AR (kx X).K H x t/\tJ c=true/\O6 (kx X).K t (A0 c)=some b/\Q (.bl b) H) (D3 T) Y H Q h⟩
end
section
variable{X:Cx}{E:XK}
def yB(K:Nh):R2:=λx y H Q=>∃a b xs ys,x=.ref a/\y=.ref b/\fo K H a xs/\fo K H b ys/\xs.length+ys.length<=sizeLine/\∀p,H p=none->Q (.ref p) (upd H p (.lst (xs++ys)))
theorem zk:fG X (binaryOp .Add) (yB X.K):=by
 intro pins s Y H x y v u Q I o z h;obtain⟨a,b,xs,ys,rfl,rfl,ha,hb,hz,q⟩:=h;cases o;cases z;obtain⟨g,k,U,_⟩:=I.list ha;obtain⟨A,d,p2,_⟩:=I.list hb;obtain⟨⟨J,i,E,N⟩,C,D,Z,p,r⟩:=id U;obtain⟨⟨O,V,S,n⟩,l,t,m,w,B⟩:=id p2;simp only at Z r m B p w;subst Z r m B p w;have f:=k.length;have P:=d.length;refine concat_meets ⟨_,D,rfl⟩ ⟨_,t,rfl⟩ noFill_list_add seq_list_add PySem.F.slot_list_add PySem.F.entry_list_add (PySem.F.args_list_add_2 _ _) (Vw a b _ _ C l _ _ N n (by rw[Nk,Nk];lia)) ⟨D,t,?_⟩;have ea:g.toArray++A.toArray=(g++A).toArray:=by simp
 rw[ea];exact⟨.ref _,_,I.Kt (t':=s.toks) (k.append d) (by rw[Ny];lia),rfl,q _ I.fresh⟩
noncomputable def rS:A->A->Option Rr
 | .lst xs,.lst ys=>if xs.length+ys.length<=100000 then some (.nw (.lst (xs++ys))) else none
 |_,_=>none
theorem Ag:gm K (yB K.K) rS:=by
 intro c Y H Z B θ x y v w a b q Q e u f A D F O k;cases a<;>first|(cases O;done)|(cases b<;>first|(cases O;done)|skip)
 rename_i xs ys;unfold rS at O;simp only at O;split at O
 .rename_i hc;cases O;obtain⟨L,bl,I,J⟩:=Bd.zo A u f D F;obtain⟨U,r,rfl,s1,E⟩:=I.1 xs rfl;obtain⟨p2,s,rfl,s2,g⟩:=J.1 ys rfl;have N:=E.len;have n:=g.len;subst e;exact⟨U,p2,r,s,rfl,rfl,s1,s2,by have:=iB;lia,λp hp=>k _ _ trivial (bl.iG hp λG H' sm q=>.lst q ((E.app g).sm sm))⟩
 .cases O
abbrev aB:=zD sY (zD rE (zD tQ rS))
theorem AW{a b:Expr}{D mb:Mi Rr}(ha:JE X E a D)(hb:JE X E b mb):JE X E (.BinOp a .Add b pos) (ay aB D mb):=kU (fG.or' F2 (fG.or' qO (fG.or' Bf zk))) (AQ.or (Ac.or (Ae.or Ag))) ha hb
end
variable{px:Pos}
section
variable{X:Cx}{E:XK}
def gD(i:Nat):Mi Rr:=λZ=>match aM Z i with
 |some (.lst _)=>some (.ok (.fr .non),setAt Z i (.lst []))
 |_=>none
theorem yY(hN:X.N[i]?=some x)(hv:pH X.env.scope x)(hd:gq x)(hcd:uR x)
  (hbase:attributeBase (.Name x px) "clear" X.env (eval (.Name x px) X.env)=eval (.Name x px) X.env:=by rfl)(hline:(apos.endLine==cpos.line)=true:=by rfl):
  JE X E (.Call (.Attribute (.Name x px) "clear" apos) [] [] cpos) (gD i):=
 ⟨PE.weaken (xC Pu PySem.F.slot_list_clear PySem.F.type_list_clear zh (dF hN hv hd hcd) hbase hline) λY H Q h=>by
  obtain⟨c,Z,B,θ,o,O,ek,b,em,q⟩:=h;unfold gD at em;cases e2:aM Z i with
  |none=>simp only[e2] at em;cases em
  |some lo=>
   cases lo with
   |dic _=>simp only[e2] at em;cases em
   |dit _=>simp only[e2] at em;cases em
   |obj _ _=>simp only[e2] at em;cases em
   | lst xs=>simp only[e2] at em;cases em;obtain⟨p,vs,hp,hH⟩:=cV b e2;obtain⟨L,bl⟩:=b;obtain⟨p',h1,h2,h3⟩:=bl.live e2 (.lst []) (.lst []);rw[hp] at h1;cases h1;refine⟨_,hp,.inl ⟨rfl,vs,.inl (.inl hH)⟩,?_⟩;exact⟨p,vs,rfl,rfl,hH,q _ _ trivial (Bd.push (h3 λH' hh=>.lst hh .nil) λ_=>.non)⟩⟩
theorem bh.dropLast{K:Kx}{G:Hp}:∀{vs:List V}{as:List A},bh K G vs as->bh K G vs.dropLast as.dropLast
 |_,_,.nil=>.nil
 |_,_,.cons h .nil=>.nil
 |_,_,.cons h (.cons h2 r)=>.cons h (bh.dropLast (.cons h2 r))
def qH(i:Nat):Mi Rr:=λZ=>match aM Z i with
 |some (.lst xs)=>match xs[xs.length-1]? with
  |some a=>some (.ok (.fr a),setAt Z i (.lst xs.dropLast))
  |none=>none
 |_=>none
theorem Ez(hN:X.N[i]?=some x)(hv:pH X.env.scope x)(hd:gq x)(hcd:uR x)
  (hbase:attributeBase (.Name x px) "pop" X.env (eval (.Name x px) X.env)=eval (.Name x px) X.env:=by rfl)(hline:(apos.endLine==cpos.line)=true:=by rfl):
  JE X E (.Call (.Attribute (.Name x px) "pop" apos) [] [] cpos) (qH i):=
 ⟨PE.weaken (xC Pu Tf Tg Gr (dF hN hv hd hcd) hbase hline) λY H Q h=>by
  obtain⟨c,Z,B,θ,o,O,ek,b,em,q⟩:=h;unfold qH at em;cases e2:aM Z i with
  |none=>simp only[e2] at em;cases em
  |some lo=>
   cases lo with
   |dic _=>simp only[e2] at em;cases em
   |dit _=>simp only[e2] at em;cases em
   |obj _ _=>simp only[e2] at em;cases em
   |lst xs=>
    simp only[e2] at em;cases e3:xs[xs.length-1]? with
    |none=>simp only[e3] at em;cases em
    |some a=>
     simp only[e3] at em;cases em;obtain⟨p,vs,hp,hH⟩:=cV b e2;obtain⟨L,bl⟩:=b;obtain⟨p',h1,h2,h3⟩:=bl.live e2 (.lst xs) (.lst []);rw[hp] at h1;cases h1;cases h2 with
     |lst e rr=>
      rename_i ws;rw[hH] at e;cases e;obtain⟨v,g1,g2⟩:=rr.ta e3;obtain⟨L1,bl1⟩:=bl.push g2;obtain⟨p2,k1,k2,k3⟩:=bl1.live e2 (.lst xs.dropLast) (.lst vs.dropLast);rw[hp] at k1;cases k1;cases k2 with
      | lst e' rr'=>rw[hH] at e';cases e';refine⟨_,hp,.inl ⟨rfl,vs,.inl (.inl hH)⟩,?_⟩;exact⟨p,vs,v,rfl,rfl,hH,by rw[rr.len];exact g1,q _ _ trivial (k3 λH' hh=>.lst hh rr'.dropLast)⟩⟩
end
end M
set_option maxHeartbeats 4000000
set_option maxHeartbeats 1000000
namespace M
open PySem L2
mutual
noncomputable def lf:A->Bool
 | .tup xs=>Jt xs
 | .lst _=>false
 | .dic _=>false
 | .obj _ fs=>JK fs
 |_=>true
noncomputable def Jt:List A->Bool
 |[]=>true
 |a::r=>lf a&&Jt r
noncomputable def JK:List (Str×A)->Bool
 |[]=>true
 |(_,a)::r=>lf a&&JK r
end
noncomputable def Kg:List (Key×A)->Bool
 |[]=>true
 |(_,a)::r=>lf a&&Kg r
noncomputable def Lw:LO->Bool
 | .lst xs=>Jt xs
 | .dic kvs=>Kg kvs
 | .obj _ fs=>JK fs
 | .dit _=>false
noncomputable def Hf:Sl->Bool
 | .fr a=>lf a
 | .lv o=>Lw o
 | .pv o=>Lw o
 | .un=>true
def Lq(G G':Hp):Prop:=∀a u,G a=some u->(∀s,u≠.lst s)->G' a=some u
variable{vs:List V}
section
variable{k:Kx}{G G' H:Hp}(s:Lq G G')
theorem Gj{p:Addr}(s:Lq G G')(q:cQ k.K G p vs):cQ k.K G' p vs:=q.imp (λr=>by
 rcases r with r|⟨o,r⟩
 .exact .inl (s _ _ r λa z=>by cases z)
 .exact .inr ⟨o,s _ _ r λa z=>by cases z⟩) id
mutual
theorem RA.lf(s:Lq G G'):∀{v:V}{a:A},RA k G v a->M.lf a=true->RA k G' v a
 |_,_,.non,_=>.non
 |_,_,.bl b,_=>.bl b
 |_,_,.int i,_=>.int i
 |_,_,.str x,_=>.str x
 |_,_,.tup e r,h=>.tup (Gj s e) (bh.lf s r (by rw[M.lf] at h;exact h))
 |_,_,.lst e r,h=>by rw[M.lf] at h;cases h
 |_,_,.dic e r,h=>by rw[M.lf] at h;cases h
 |_,_,.exc e m,h=>.exc (s _ _ e λH z=>by cases z) m
 |_,_,.obj e m r,h=>.obj (s _ _ e λH z=>by cases z) m (qV.lf s r (by rw[M.lf] at h;exact h))
 |_,_,.opq,_=>.opq
theorem qV.lf(s:Lq G G'):∀{vs:List (Str×V)}{as:List (Str×A)},qV k G vs as->JK as=true->qV k G' vs as
 |_,_,.nil,_=>.nil
 |_,_,.cons h r,e=>by rw[JK,Ni] at e;exact .cons (RA.lf s h e.1) (qV.lf s r e.2)
theorem bh.lf(s:Lq G G'):∀{vs:List V}{as:List A},bh k G vs as->Jt as=true->bh k G' vs as
 |_,_,.nil,_=>.nil
 |_,_,.cons h r,e=>by rw[Jt,Ni] at e;exact .cons (RA.lf s h e.1) (bh.lf s r e.2)
end
theorem nR.lf(s:Lq G G'):∀{vs:List (Key×V)}{as:List (Key×A)},nR k G vs as->Kg as=true->nR k G' vs as
 |_,_,.nil,_=>.nil
 |_,_,.cons h r,e=>by rw[Kg,Ni] at e;exact .cons (RA.lf s h e.1) (nR.lf s r e.2)
theorem LR.lf{p:Addr}{o:LO}(s:Lq G G')(h:LR k G H p o)(e:Lw o=true):LR k G' H p o:=by
 cases h with
 |lst x r=>exact .lst x (r.lf s e)
 |dic x r=>exact .dic x (r.lf s e)
 |obj x m r=>exact .obj x m (r.lf s e)
 |dit x r=>cases e
theorem d5.lf{x:Option V}{t:Sl}{L:List Addr}(s:Lq G G')(h:d5 k G H x t L)(e:Hf t=true):d5 k G' H x t L:=by
 cases h with
 |un=>exact .un _
 |fr h=>exact .fr (h.lf s e)
 |lv h=>exact .lv (h.lf s e)
 |pv h=>exact .pv (h.lf s e)
theorem av.pick:∀{Y:St}{Z:List Sl}{L:List Addr}{j:Nat}{t:Sl},av k G H Y Z L->Z[j]?=some t->∃x v b L2,Y[j]?=some x/\L=v++(b++L2)/\d5 k G H x t b /\
  ∀{G':Hp}{t':Sl}{L':List Addr},(∀{x:Option V}{t:Sl}{L:List Addr},t∈Z->d5 k G H x t L->d5 k G' H x t L)->d5 k G' H x t' L'->av k G' H Y (Z.set j t') (v++(L'++L2))
 |_,_,_,j,t,.nil,e=>by simp at e
 |x::Y,u::Z,_,0,t,.cons (L:=La) (L':=Lb) h r,e=>by
  cases e;refine⟨x,[],La,Lb,rfl,rfl,h,λ{G2 S q} f h'=>?_⟩;rw[QE];have:∀{Y:St}{O:List Sl}{L:List Addr},(∀t∈O,t∈u::Z)->av k G H Y O L->av k G2 H Y O L:=by
   intro Y O L hm r;induction r with
   |nil=>exact .nil
   |cons h r c=>exact .cons (f (hm _ Nu) h) (c λt ht=>hm t (Nt _ ht))
  exact .cons h' (this (λt ht=>Nt _ ht) r)
 |x::Y,u::Z,_,j+1,t,.cons (L:=La) (L':=Lb) h r,e=>by obtain⟨y,v,b,L2,h1,h2,h3,h4⟩:=av.pick r (j:=j) (by simpa using e);refine⟨y,La++v,b,L2,by simpa using h1,by rw[h2,Nj],h3,λf h'=>?_⟩;have:=h4 (λm=>f (Nt _ m)) h';rw[Nj];exact .cons (f Nu h) this
end
noncomputable def xO:Option Sl->Bool
 |some .un=>true
 |_=>false
theorem rY{o:Option Sl}(h:xO o=true):o=some .un:=by
 cases o with
 |none=>cases h
 |some s=>cases s<;>first|rfl|cases h
def iO(j:Nat)(m:Ms):Ms:=λZ=>match Z[j]? with
 |some (.pv (.lst xs))=>match m (Z.set j (.fr (.lst xs))) with
  |some (.rt s,T)=>if xO (aq Z.length T)[j]?&&(s::aq Z.length T).all Hf then some (.rt s,(aq Z.length T).set j (.pv (.lst xs))) else none
  |some (.ex x,T)=>if xO (aq Z.length T)[j]?&&(aq Z.length T).all Hf then some (.ex x,(aq Z.length T).set j (.pv (.lst xs))) else none
  |_=>none
 |_=>m Z
theorem fw:∀{n j:Nat}{Z:List Sl}{o:LO},aq n ((aq n Z).set j (.pv o))=(aq n Z).set j (.pv o)
 |0,_,_,_=>rfl
 |n+1,0,Z,o=>by
  have:∀Z:List Sl,aq n (aq n Z)=aq n Z:=λZ=>backL_idem n Z;cases Z with
  |nil=>show aq (n+1) (.pv o::aq n [])=.pv o::aq n [];rw[aq,this]
  |cons s Z=>cases s<;>(show aq (n+1) (.pv o::aq n Z)=.pv o::aq n Z;rw[aq,this])
 |n+1,j+1,Z,o=>by
  cases Z with
  |nil=>show aq (n+1) (.un::(aq n []).set j (.pv o))=.un::(aq n []).set j (.pv o);rw[aq,fw];intro o z;cases z
  |cons s Z=>cases s<;>first
   |(show aq (n+1) (.un::(aq n Z).set j (.pv o))=.un::(aq n Z).set j (.pv o);rw[aq,fw];intro o z;cases z)
   |(show aq (n+1) (.pv _::(aq n Z).set j (.pv o))=.pv _::(aq n Z).set j (.pv o);rw[aq,fw])
where backL_idem:∀(n:Nat)(Z:List Sl),aq n (aq n Z)=aq n Z
 |0,_=>rfl
 |n+1,[]=>by show aq (n+1) (.un::aq n [])=.un::aq n [];rw[aq,backL_idem];intro o z;cases z
 |n+1,s::Z=>by cases s<;>first
   |(show aq (n+1) (.un::aq n Z)=.un::aq n Z;rw[aq,backL_idem];intro o z;cases z)
   |(show aq (n+1) (.pv _::aq n Z)=.pv _::aq n Z;rw[aq,backL_idem])
theorem nu.lend{K:Kx}{n j:Nat}{m:Ms}{H:Hp}{Q:VK}{E:XK}(h:nu K n (iO j m) vs H Q E):nu K n m vs H Q E:=by
 obtain⟨hn,c,Z,f,O,ek,es,I,b,em,q⟩:=h;unfold iO at em;split at em
 .rename_i xs ej;have rel:av c.toKx (c.g H c.Lp) H (vs.map some) Z c.Lp:=b.rel;obtain⟨x,t,Lj,L2,x1,r,x3,x4⟩:=rel.pick ej;cases x3 with
  |pv lr=>
   rename_i p;cases lr with
   |lst ep rr=>
    rename_i k;have nd:=b.nd;rw[r] at nd;have J:(t++L2).Nodup:=nd.sublist (Qs (QB _) (QR _ _));have np:p∉t++L2:=λy=>by have pm:(t++([p]++L2)).Perm (p::(t++L2)):=Q6;exact(Oe.mp ((pm.nodup_iff).mp nd)).1 y
    have sub:∀a,a∈t++L2->a∈c.Lp:=λa ha=>by
     rw[r];rcases Nv.mp ha with z|z
     .exact NF _ z
     .exact Nq _ (Nq _ z)
    have pin:p∈c.Lp:=by rw[r];exact Nq _ (NF _ Nu)
    have hin:∀a,a∈c.Lp->a=p\/a∈t++L2:=λa ha=>by
     rw[r] at ha;rcases Nv.mp ha with z|z
     .exact .inr (NF _ z)
     .rcases Nv.mp z with z|z
      .exact .inl (Nw.mp z)
      .exact .inr (Nq _ z)
    have G8:p∉c.Hd:=b.G8 pin
    let c2:Cn:={ c with Lp:=t++L2 }
    have Y:Z.length=vs.length:=by have:=rel.len;simpa using this.symm
    have b2:dZ c2 (vs.map some) H (Z.set j (.fr (.lst xs))) [] [] c2.Lp:=by refine⟨J,?_,λa ha=>.inl ha,⟨λa o e=>⟨o,by rw[<-I];exact e,λ_ _=>rfl⟩,λw N=>b.fr.pk w N⟩,λi o _=>by rw[es],rfl,λa ha=>⟨(b.hd a ha).1,λy=>(b.hd a ha).2 (sub a y)⟩⟩;have sm:Sq (c.g H c.Lp) (c.g H (t++L2)):=cx sub;have:av c.toKx (c.g H (t++L2)) H (vs.map some) (Z.set j (.fr (.lst xs))) (t++([]++L2)):=x4 (λ_ h=>h.sm sm (λ_ _ _ e=>e)) (.fr (.lst (.inl (.inl (by rw[bU np G8];exact ep))) (rr.sm sm)));exact this
    have V:∀(H':Hp)(β:List Sl)(B:St)(θ:List Sl),B.length=θ.length->β[j]?=some .un->(θ++β).all Hf=true->Bd c2 (vs.map some) H' β B θ->Bd c (vs.map some) H' (β.set j (.pv (.lst xs))) B θ:=by
     intro H' β B θ lt P A X;obtain⟨L',X⟩:=X;have G:H p=some (.lst k):=ep;have S:∀w,(p,w)∉c.Wk:=λw N=>by obtain⟨h1,⟨ob,us,h2⟩,_⟩:=b.fr.pk _ N;simp only at h1 h2;rw[G,h2] at h1;cases h1
     have l:H' p=some (.lst k):=by obtain⟨u,h1,h2⟩:=X.fr.st p (.lst k) (by show c.H0 p=_;rw[I];exact G);rw[h1,h2 np S]
     have R:p∉L':=λy=>by
      rcases X.own p y with z|z
      .exact np z
      .have z:c.H0 p=none:=z;rw[I,G] at z;cases z
     have jj:(θ++β)[θ.length+j]?=some .un:=by rw[Oa (Pg _ _),PB];exact P
     obtain⟨y,M1,Mj,U,y1,y2,y3,y4⟩:=av.pick X.rel jj;cases y3 with
     |un=>
      have yx:y=some (.ref p):=by rw[<-lt,Oa (Pg _ _),PB,x1] at y1;exact(NJ y1).symm
      subst yx;have d:L'=M1++U:=y2;have F:∀a,a∈M1++([p]++U)↔a=p\/a∈L':=λa=>by
       rw[d];simp only[Nv,Nw];constructor
       .rintro(h|h|h)
        .exact .inr (.inl h)
        .exact .inl h
        .exact .inr (.inr h)
       .rintro(h|h|h)
        .exact .inr (.inl h)
        .exact .inl h
        .exact .inr (.inr h)
      have lq:Lq (c.g H' L') (c.g H' (M1++([p]++U))):=λa u e nl=>by
       by_cases z:a∈L'\/a∈c.Hd
       .rw[mO z] at e;cases e
       .rw[bU (λy=>z (.inl y)) (λy=>z (.inr y))] at e;rw[bU (λy=>?_) (λy=>z (.inr y))]
        .exact e
        .rcases(F a).mp y with w|w
         .subst w;rw[l] at e;exact nl k (NJ e).symm
         .exact z (.inl w)
      have sq:Sq (c.g H c.Lp) (c.g H' (M1++([p]++U))):=λa u e=>by
       by_cases z:a∈c.Lp\/a∈c.Hd
       .rw[mO z] at e;cases e
       .rw[bU (λy=>z (.inl y)) (λy=>z (.inr y))] at e;obtain⟨u',h1,h2⟩:=X.fr.st a u (by show c.H0 a=_;rw[I];exact e);have hu:u'=u:=by
         by_cases N:∃w,(a,w)∈c.Wk
         .obtain⟨w,N⟩:=N;have L:=(b.fr.pk _ N).1;have D:=(X.fr.pk _ N).1;simp only at L D;rw[e] at L;rw[h1] at D;rw[NJ D,NJ L]
         .exact h2 (λy=>z (.inl (sub a y))) λw y=>N ⟨w,y⟩
        subst hu;refine⟨u',?_,.inl rfl⟩;rw[bU (λy=>?_) (λy=>z (.inr y))]
        .exact h1
        .rcases(F a).mp y with w|w
         .subst w;exact z (.inl pin)
         .rcases X.own a w with v|v
          .exact z (.inl (sub a v))
          .have v:c.H0 a=none:=v;rw[I,e] at v;cases v
      have nD:av c.toKx (c.g H' (M1++([p]++U))) H' (B++vs.map some) ((θ++β).set (θ.length+j) (.pv (.lst xs))) (M1++([p]++U)):=
       y4 (λm h=>h.lf lq (Oh.mp A _ m)) (.pv (.lst l (rr.sm sq)))
      rw[TC _ _ (Pg _ _),PB] at nD;refine⟨M1++([p]++U),?_,nD,λa ha=>?_,⟨λa o e=>?_,λw N=>X.fr.pk w N⟩,λi o _=>by rw[es],lt,b.hd⟩
      .have pm:(M1++([p]++U)).Perm (p::(M1++U)):=Q6;refine(pm.nodup_iff).mpr (Oe.mpr ⟨by rw[<-d];exact R,by rw[<-d];exact X.nd⟩)
      .rcases(F a).mp ha with w|w
       .subst w;exact .inl pin
       .rcases X.own a w with v|v
        .exact .inl (sub a v)
        .exact .inr v
      .obtain⟨u,h1,h2⟩:=X.fr.st a o e;exact⟨u,h1,λna nw=>h2 (λy=>na (sub a y)) nw⟩
    cases e4:m (Z.set j (.fr (.lst xs))) with
    |none=>simp only[e4] at em;cases em
    |some pr=>
     obtain⟨g,T⟩:=pr;simp only[e4] at em;refine⟨hn,c2,_,g,T,ek,es,I,b2,e4,?_⟩;cases g with
     |nx=>cases em
     |bk=>cases em
     |ct=>cases em
     |rt s=>
      simp only at em;split at em
      .rename_i hc;cases em;intro v H' hs X;rw[Ni] at hc;rw[Y] at hc q;simp only[fw] at q;exact q v H' hs (V H' _ _ _ rfl (rY hc.1) hc.2 X)
      .cases em
     |ex x=>
      simp only at em;split at em
      .rename_i hc;cases em;intro C H' hm X;rw[Ni] at hc;rw[Y] at hc q;simp only[fw] at q;exact q C H' hm (V H' _ _ _ rfl (rY hc.1) hc.2 X)
      .cases em
 .exact⟨hn,c,Z,f,O,ek,es,I,b,em,q⟩
theorem mx(l:Addr)(xs:Array Value)(n:Nat)(b:Addr)(ys:Array Value)(I:Nat)(m:Option Addr)(H:Array (Option Value))(a:¬ (!xs.isEmpty&&PZ (xs.size+ys.size))=true)(h1:xs.size<=sizeLine)(h2:xs.size+ys.size<=sizeLine+1):
  Meets (Builtin.«list.extend» ⟨[.ref l,.ref b],[]⟩) (λ_ R s=>s.heap.get? l=some { cls:=.type "list",data:=.seq xs n }/\s.heap.get? b=some { cls:=.type "list",dict:=m,data:=.seq ys I,slots:=H }/\R (.ok (.ret P1)) { s with heap:=s.heap.update l (PM λx=>x++ys),toks:=s.toks }):=
 .of_wp λprog w A R s h=>by
  obtain⟨hp,g,d,tk,os⟩:=s;obtain⟨hl,hb,h⟩:=h;have r:=AutoSeq1.idx_int;have G:=AutoSeq1.sub_tuple_tuple;have p:=AutoSeq1.sub_list_list;have t:=AutoSeq1.sub_tuple_list;have Y:=AutoSeq1.sub_list_tuple;have Z:(xs++ys).size<=sizeLine+1:=by rw[Array.size_append];exact h2
  wp_walk using (wpAny_updateSeq hl rfl (hz:=h1) (_hz':=Z)),Sx hl,Sx hb
  exact⟨_,rfl,h⟩
variable{i:Nat}{x:Str}{px apos cpos:Pos}{e:Expr}{m:Mi Rr}
section
variable{X:Cx}{E:XK}
def v7(K:Nh):V->List V->Hp->VK->Prop:=λx vs H Q=>∃l b xs Z,x=.ref l/\vs=[.ref b]/\H l=some (.lst xs)/\fo K H b Z/\xs.length+Z.length<=sizeLine/\Q .non (upd H l (.lst (xs++Z)))
theorem pX:Jx X "list.extend" (v7 X.K):=by
 intro pins s Y H x vs v us Q I o rv h;obtain⟨l,b,xs,p,rfl,rfl,G,a,hz,q⟩:=h;cases o;obtain⟨u,rfl,C⟩:=rv.one;cases C;obtain⟨z,g,n,r,hl,e⟩:=I.wG G;obtain⟨A,d,P,_⟩:=I.list a;obtain⟨⟨O,V,S,U⟩,N,t,m,w,B⟩:=id P;simp only at m B w;subst m B w;have y:=d.length;have hsz:g.toArray.size+A.toArray.size<=sizeLine:=by rw[Nk,Nk];lia
 have Z:¬ (!g.toArray.isEmpty&&PZ (g.toArray.size+A.toArray.size))=true:=by rw[vJ hsz,P5];exact Og
 refine call_meets SD ⟨_,e,rfl⟩ PySem.F.entry_list_extend (PySem.F.args_list_extend_2 _ _)
  (mx l g.toArray n b A.toArray N _ _ Z (by rw[Nk];lia) (by lia)) ⟨e,t,?_⟩
 refine⟨.non,_,I.wA (its':=g++A) G e (by simp) (r.append d) ?_,rfl,q⟩;rw[Ny];lia
def fO(i:Nat)(m:Mi Rr):Mi Rr:=aI m λr Z=>match bg r Z with
 |some (.lst zs,U)=>match aM U i with
  |some (.lst xs)=>if xs.length+zs.length<=100000 then some (.ok (.fr .non),setAt U i (.lst (xs++zs))) else none
  |_=>none
 |_=>none
theorem u7(hN:X.N[i]?=some x)(hv:pH X.env.scope x)(hd:gq x)(hcd:uR x)(he:JE X E e m)
  (hbase:attributeBase (.Name x px) "extend" X.env (eval (.Name x px) X.env)=eval (.Name x px) X.env:=by rfl)
  (hfew:((backTo cpos (starEach [e] X.env)).all (λx=>!x.1)&&(backToKw cpos (keywordEach [] X.env)).all (λx=>x.1.isSome)&&decide (([e]:List Expr).length+([]:List Keyword).length+(if ([]:List Keyword).isEmpty then 0 else 1)<30))=true:=by rfl)
  (hline:(apos.endLine==cpos.line)=true:=by rfl)(hs:starEach [e] X.env=(false,eval e X.env)::starEach [] X.env:=by rfl)(hplain:(backTo cpos (starEach [] X.env)).any (·.1)=false:=by rfl):
  JE X E (.Call (.Attribute (.Name x px) "extend" apos) [e] [] cpos) (cD i (fO i m)):=
 ⟨PE.weaken (n8 Pu SD PySem.F.type_list_extend pX (dF hN hv hd hcd) (bb he.p bZ hs) hbase hfew hline hs hplain) λY H Q h=>by
  obtain⟨c,Z,B,θ,o,O,ek,b,em,q⟩:=h;unfold cD at em;split at em
  .rename_i hl;obtain⟨xs0,hl⟩:=g9 hl;obtain⟨p,vs,hp,hH⟩:=cV b hl;refine⟨_,hp,.inl ⟨rfl,vs,.inl (.inl hH)⟩,?_⟩;refine aT ek b em (λr v U H1 hv b1 em1=>?_) (aX q);cases e1:bg r U with
   |none=>simp only[e1] at em1;cases em1
   |some pr=>
    obtain⟨a,Z0⟩:=pr;simp only[e1] at em1;have b2:=Bd.bg (xs:=[]) (ss:=[]) rfl b1 hv e1;cases a<;>first|(simp only at em1;cases em1;done)|skip
    rename_i zs;simp only at em1;cases e2:aM Z0 i with
    |none=>simp only[e2] at em1;cases em1
    |some lo=>
     cases lo with
     |dic _=>simp only[e2] at em1;cases em1
     |dit _=>simp only[e2] at em1;cases em1
     |obj _ _=>simp only[e2] at em1;cases em1
     |lst xs=>
      simp only[e2] at em1;split at em1
      .rename_i hx;cases em1;obtain⟨L,bl,ra⟩:=Bd.A4 b2;cases ra with
       |lst se sr=>
       rename_i pb us;obtain⟨p',h1,h2,h3⟩:=bl.live e2 (.lst (xs++zs)) (.lst ((match H1 p with|some (.lst ws)=>ws|_=>[])++us));rw[hp] at h1;cases h1;cases h2 with
       |lst e rr=>rename_i ws;simp only[e] at h3;have eK:c.K=X.K:=congrArg Kx.K ek;have n1:=rr.len;have n2:=sr.len;refine⟨p,pb,ws,us,rfl,rfl,e,by rw[<-eK];exact hZ (g_same _ _ _) se,by have:=v9;lia,q _ _ trivial (Bd.push (h3 λH' hh=>.lst hh (rr.app sr)) λ_=>.non)⟩
      .cases em1
  .cases em⟩
def fA(i:Nat)(m:Mi Rr):Mi Rr:=cD i (aI m λr Z=>match res Z r,aM Z i with
 | some (.int k),some (.lst xs)=>if -(2^60)<=k/\k<2^60 then (match seqIndex? k xs.length with
  |some j=>match xs[j]? with
   |some a=>some (.ok (.fr a),setAt Z i (.lst (xs.eraseIdx j)))
   |none=>none
  | none=>none) else none
 | _,_=>none)
theorem bh.erase{K:Kx}{G:Hp}:∀{vs:List V}{as:List A}(j:Nat),bh K G vs as->bh K G (vs.eraseIdx j) (as.eraseIdx j)
 |_,_,_,.nil=>.nil
 |_,_,0,.cons h r=>r
 |_,_,j+1,.cons h r=>.cons h (r.erase j)
theorem vN(hN:X.N[i]?=some x)(hv:pH X.env.scope x)(hd:gq x)(hcd:uR x)(he:JE X E e m)
  (hbase:attributeBase (.Name x px) "pop" X.env (eval (.Name x px) X.env)=eval (.Name x px) X.env:=by rfl)
  (hfew:((backTo cpos (starEach [e] X.env)).all (λx=>!x.1)&&(backToKw cpos (keywordEach [] X.env)).all (λx=>x.1.isSome)&&decide (([e]:List Expr).length+([]:List Keyword).length+(if ([]:List Keyword).isEmpty then 0 else 1)<30))=true:=by rfl)
  (hline:(apos.endLine==cpos.line)=true:=by rfl)(hs:starEach [e] X.env=(false,eval e X.env)::starEach [] X.env:=by rfl)(hplain:(backTo cpos (starEach [] X.env)).any (·.1)=false:=by rfl):
  JE X E (.Call (.Attribute (.Name x px) "pop" apos) [e] [] cpos) (fA i m):=
 ⟨PE.weaken (n8 Pu Tf Tg yh (dF hN hv hd hcd) (bb he.p bZ hs) hbase hfew hline hs hplain) λY H Q h=>by
  obtain⟨c,Z,B,θ,o,O,ek,b,em,q⟩:=h;unfold fA cD at em;split at em
  .rename_i hl;obtain⟨xs0,hl⟩:=g9 hl;obtain⟨p,vs,hp,hH⟩:=cV b hl;refine⟨_,hp,.inl ⟨rfl,vs,.inl (.inl hH)⟩,?_⟩;refine aT ek b em (λr v U H1 hv b1 em1=>?_) (aX q);cases e1:res U r with
   |none=>simp only[e1] at em1;cases em1
   |some a=>
    cases a<;>first|(simp only[e1] at em1;cases em1;done)|skip
    rename_i k;simp only[e1] at em1;have rv:=Bd.rd b1 hv e1;cases rv;cases e2:aM U i with
    |none=>simp only[e2] at em1;cases em1
    |some lo=>
     cases lo with
     |dic _=>simp only[e2] at em1;cases em1
     |dit _=>simp only[e2] at em1;cases em1
     |obj _ _=>simp only[e2] at em1;cases em1
     |lst xs=>
      simp only[e2] at em1;split at em1
      .rename_i hk;cases e3:seqIndex? k xs.length with
       |none=>simp only[e3] at em1;cases em1
       |some j=>
        simp only[e3] at em1;cases e4:xs[j]? with
        |none=>simp only[e4] at em1;cases em1
        |some a=>
         simp only[e4] at em1;cases em1;have b2:=Bd.drop b1;obtain⟨p0,ws,hp0,hH1⟩:=cV b2 e2;rw[hp] at hp0;cases hp0;obtain⟨L,bl⟩:=b2;obtain⟨p',h1,h2,h3⟩:=bl.live e2 (.lst xs) (.lst []);rw[hp] at h1;cases h1;cases h2 with
         |lst e rr=>
          rw[hH1] at e;cases e;obtain⟨u,g1,g2⟩:=rr.ta e4;obtain⟨L1,bl1⟩:=bl.push g2;obtain⟨p2,k1,k2,k3⟩:=bl1.live e2 (.lst (xs.eraseIdx j)) (.lst (ws.eraseIdx j));rw[hp] at k1;cases k1;cases k2 with
          |lst e' rr'=>rw[hH1] at e';cases e';exact⟨p,ws,k,j,u,rfl,rfl,hH1,by lia,by lia,by rw[rr.len];exact e3,g1,q _ _ trivial (k3 λH' hh=>.lst hh (rr'.erase j))⟩
      .cases em1
  .cases em⟩
end
end M
set_option maxHeartbeats 4000000
set_option maxHeartbeats 1000000
set_option maxHeartbeats 4000000
set_option maxHeartbeats 1000000
set_option maxHeartbeats 4000000
set_option maxHeartbeats 1000000
set_option maxHeartbeats 4000000
namespace L2
open PySem PySem.Spec PyProof.Rows PySem.W
section
variable{prog:Program}{w:World}{A:Around}{E:Value->Shared->Prop}{s:Shared}
noncomputable abbrev oq(led:Bool):Obj:={ cls:=.type "set",dict:=none,data:=.set #[] 0 (.fresh 0 0 led) }
end
end L2
set_option maxHeartbeats 1000000
namespace M
open PySem L2
section
variable{X:Cx}{E:XK}
open PySem.Spec PyProof.Rows PySem.W in
end
open PySem.W (KasT kas_asc kas_desc kas_rev kas_tail3 kas_descPart kas_count kas_place kas_bin kas_sort)
open PyProof.Rows (mirror_perm bubble_perm bubble)
section
open PySem.Spec PyProof.Rows PySem.W PySem.Calls
variable{prog:Program}{w:World}{A:Around}{E:Value->Shared->Prop}{s:Shared}
theorem pe:∀{vs:List Value},vs.length<2->(vs.toArray.zip vs.toArray).map (·.2)=OH ((NA vs.length).map λi=>vs.getD i .none)
 |[],_=>by simp
 |[_],_=>by simp[NA,NA.loop]
 |_::_::_,h=>absurd h (by simp)
end
section
variable{X:Cx}{E:XK}
theorem Vals.pick{vs:List V}{us:List Value}(r:Vals vs us):∀(p:List Nat),Vals (p.map λi=>vs.getD i .non) (p.map λi=>us.getD i .none)
 |[]=>.nil
 | i::p=>.cons (by
   have go:∀{vs:List V}{us:List Value}(i:Nat),Vals vs us->RelV (vs.getD i .non) (us.getD i .none):=by
    intro vs us i r;induction r generalizing i with
    |nil=>exact rfl
    |cons h _ j=>cases i with
     |zero=>exact h
     |succ i=>exact j i
   exact go i r) (Vals.pick r p)
open PySem.Spec PyProof.Rows PySem.W in
theorem bh.pick{k:Kx}{G:Hp}{vs:List V}{as:List A}(r:bh k G vs as):∀(p:List Nat),bh k G (p.map λi=>vs.getD i .non) (p.map λi=>as.getD i .non)
 |[]=>.nil
 | i::p=>.cons (by
   have go:∀{vs:List V}{as:List A}(i:Nat),bh k G vs as->RA k G (vs.getD i .non) (as.getD i .non):=by
    intro vs as i r;cases e:vs[i]? with
    |none=>
     have F:as[i]?=none:=by rw[List.getElem?_eq_none_iff] at e ⊢;rw[<-r.len];exact e
     rw[Sh,e,Sh,F];exact .non
    |some v=>obtain⟨a,h1,h2⟩:=r.at e;rw[Sh,e,Sh,h1];exact h2
   exact go i r) (bh.pick r p)
end
variable{i j z lo hi m nrem base x y v k' k na nb:Nat}{p:Array Nat}{left:Bool}
section
open PySem PyProof.Rows PySem.W
structure Cc(f:Nat->Nat->Bool)(n:Nat) where
 prog:Program
 w:World
 A:Around
 E:Value->Shared->Prop
 κ:SortKind
 it:Array Keyed
 s:Shared
 hc:∀i j (C:Bool->Shared->Prop),i<n->j<n->C (f i j) s->kas_cmp prog w A κ it i j C s
structure aQ where
 p:Array Nat
 pend:Array (Nat×Nat×Nat)
 mg:Nat
variable{f:Nat->Nat->Bool}{n:Nat}{α β γ δ:Type}{Y Z':aQ}
noncomputable def Cc.ar(c:Cc f n)(q:Array Nat):Array Keyed:=q.map (kas_item c.it)
def Cc.st(c:Cc f n)(Y:aQ):SortSt:=Qg c.κ (c.ar Y.p) Y.pend Y.mg none
def ai(m:Cc f n->StateT SortSt Sem α)(e:β->Cc f n->α)(Y:aQ)(P:β->aQ->Prop):Prop:=
 ∃b Z',P b Z'/\∀c,kasC (model c.prog c.w) c.A c.E (m c) (λa st s=>a=e b c/\st=c.st Z'/\s=c.s) (c.st Y) c.s
section
variable{m m2:Cc f n->StateT SortSt Sem α}{e:β->Cc f n->α}{e':δ->Cc f n->γ}{P P2:β->aQ->Prop}{P':δ->aQ->Prop}
theorem ai.pure(b:β)(h:P b Y)(hm:∀c,m c=Si (e b c)):ai m e Y P:=⟨b,Y,h,λc=>by rw[hm];exact kasC_pure ⟨rfl,rfl,rfl⟩⟩
theorem ai.mono(h:ai m e Y P)(hp:∀b Z',P b Z'->P2 b Z'):ai m e Y P2:=let ⟨b,Z',h1,h2⟩:=h;⟨b,Z',hp _ _ h1,h2⟩
theorem ai.bind{k:α->Cc f n->StateT SortSt Sem γ}(h:ai m e Y P)(h2:∀b Z',P b Z'->ai (λc=>k (e b c) c) e' Z' P'):ai (λc=>m c >>= λa=>k a c) e' Y P':=by obtain⟨b,Z',hp,hm⟩:=h;obtain⟨Q,T,l,hk⟩:=h2 b Z' hp;refine⟨Q,T,l,λc=>kasC_bind (wpAny_mono (hm c) ?_ λ_ _ x=>x)⟩;rintro⟨a,st⟩ s ⟨ha,H,hs⟩;subst ha H hs;exact hk c
theorem ai.get{k:SortSt->Cc f n->StateT SortSt Sem γ}(h:ai (λc=>k (c.st Y) c) e' Y P'):ai (λc=>get >>= λa=>k a c) e' Y P':=by obtain⟨b,Z',hp,hm⟩:=h;exact⟨b,Z',hp,λc=>kasC_bind (kasC_get (hm c))⟩
theorem ai.mod{k:PUnit->Cc f n->StateT SortSt Sem γ}{g:Cc f n->SortSt->SortSt}(j:∀c,g c (c.st Y)=c.st Z')(h:ai (λc=>k ⟨⟩ c) e' Z' P'):ai (λc=>modify (g c) >>= λa=>k a c) e' Y P':=by obtain⟨b,T,hp,hm⟩:=h;exact⟨b,T,hp,λc=>kasC_bind (kasC_modify (by rw[j];exact hm c))⟩
theorem ai.rule{t:String}{k:Unit->Cc f n->StateT SortSt Sem γ}(h:ai (λc=>k () c) e' Y P'):ai (λc=>(liftM (rule t):StateT SortSt Sem Unit) >>= λa=>k a c) e' Y P':=by obtain⟨b,T,hp,hm⟩:=h;exact⟨b,T,hp,λc=>kasC_bind (kasC_lift (wpAny_rule (hm c)))⟩
theorem Cc.at(c:Cc f n){q:Array Nat}(hi:i<q.size):(c.ar q)[i]?=some (kas_item c.it (q.getD i 0)):=by
 have e:q.getD i 0=q[i]:=by simp[Ox,hi]
 rw[e];simp[Cc.ar,hi]
theorem ai.elem{q:Array Nat}{k:Keyed->Cc f n->StateT SortSt Sem γ}(hi:i<q.size)(h:ai (λc=>k (kas_item c.it (q.getD i 0)) c) e' Y P'):ai (λc=>elem' (c.ar q) i >>= λa=>k a c) e' Y P':=by obtain⟨b,T,hp,hm⟩:=h;refine⟨b,T,hp,λc=>kasC_bind ?_⟩;rw[elem'_eq,c.at hi];exact kasC_pure (hm c)
theorem ai.lt{k:Option Bool->Cc f n->StateT SortSt Sem γ}(hi:i<n)(v:j<n)(h:ai (λc=>k (some (f i j)) c) e' Y P'):ai (λc=>lt' (kas_item c.it i) (kas_item c.it j) >>= λa=>k a c) e' Y P':=by obtain⟨b,T,hp,hm⟩:=h;refine⟨b,T,hp,λc=>kasC_bind ?_⟩;rw[lt'_eq];refine kasC_bind (kasC_get ?_);refine kasC_bind (kasC_lift (wpAny_attempt (wpAny_mono (c.hc i j (λb s=>b=f i j/\s=c.s) hi v ⟨rfl,rfl⟩) ?_ λ_ _ x=>x.elim)));rintro _ _ ⟨rfl,rfl⟩;exact kasC_pure (hm c)
theorem ai.ltAt{k:Option Bool->Cc f n->StateT SortSt Sem γ}(hi:i<Y.p.size)(v:j<Y.p.size)(q:Y.p.getD i 0<n)(H:Y.p.getD j 0<n)(h:ai (λc=>k (some (f (Y.p.getD i 0) (Y.p.getD j 0))) c) e' Y P'):ai (λc=>ltAt' i j >>= λa=>k a c) e' Y P':=by obtain⟨b,T,hp,hm⟩:=h;refine⟨b,T,hp,λc=>kasC_bind ?_⟩;rw[ltAt'_eq];refine kasC_bind (kasC_get ?_);show kasC _ _ _ (do let x <- elem' (c.ar Y.p) i;let y <- elem' (c.ar Y.p) j;lt' x y) _ _ _;rw[elem'_eq,elem'_eq,c.at hi,c.at v];refine kasC_bind (kasC_pure (kasC_bind (kasC_pure ?_)));rw[lt'_eq];refine kasC_bind (kasC_get ?_);refine kasC_bind (kasC_lift (wpAny_attempt (wpAny_mono (c.hc _ _ (λb s=>b=f (Y.p.getD i 0) (Y.p.getD j 0)/\s=c.s) q H ⟨rfl,rfl⟩) ?_ λ_ _ x=>x.elim)));rintro _ _ ⟨rfl,rfl⟩;exact kasC_pure (hm c)
noncomputable def pI(e:β->Cc f n->α):ForInStep β->Cc f n->ForInStep α
 | .yield b,c=>.yield (e b c)
 | .done b,c=>.done (e b c)
def Lp(I D:β->aQ->Prop):ForInStep β->aQ->Prop
 | .yield b,Y=>I b Y
 | .done b,Y=>D b Y
theorem ai.qq{body:Cc f n->Nat->α->StateT SortSt Sem (ForInStep α)}{init:Cc f n->α}(e:β->Cc f n->α)(I:Nat->β->aQ->Prop){D:β->aQ->Prop}{a:Nat}(O:β)(hi:∀c,init c=e O c)(w:I 0 O Y)(fin:∀b Y,I (z-a) b Y->D b Y)
  (step:∀i b Y,i<z-a->I i b Y->ai (λc=>body c (a+i) (e b c)) (pI e) Y (Lp (I (i+1)) D)):ai (λc=>forIn [a:z] (init c) (body c)) e Y D:=by
 have V:∀k i b Y,i+k=z-a->I i b Y->ai (λc=>forIn (TU (a+i) k) (e b c) (body c)) e Y D:=by
  intro k;induction k with
  |zero=>intro i b Y hk X;exact⟨b,Y,fin b Y (by rw[<-hk];exact X),λc=>kasC_nil ⟨rfl,rfl,rfl⟩⟩
  |succ k j=>
   intro i b Y hk X;obtain⟨r,Z,t,hm⟩:=step i b Y (by lia) X;cases r with
   |done Q=>refine⟨Q,Z,t,λc=>?_⟩;rw[Sj];refine kasC_cons (wpAny_mono (hm c) ?_ λ_ _ x=>x);rintro⟨a',st⟩ s ⟨ha,H,hs⟩;subst ha H hs;exact⟨rfl,rfl,rfl⟩
   |yield Q=>obtain⟨h,T,h2,q⟩:=j (i+1) Q Z (by lia) t;refine⟨h,T,h2,λc=>?_⟩;rw[Sj];refine kasC_cons (wpAny_mono (hm c) ?_ λ_ _ x=>x);rintro⟨a',st⟩ s ⟨ha,H,hs⟩;subst ha H hs;exact q c
 obtain⟨b,Z',v,hm⟩:=V (z-a) 0 O Y (by lia) w;exact⟨b,Z',v,λc=>kasC_range (by rw[hi];exact hm c)⟩
theorem ai.ite{q:Prop}[Decidable q](h1:q->ai m e Y P)(h2:¬q->ai m2 e Y P):ai (λc=>if q then m c else m2 c) e Y P:=by
 by_cases h:q
 .rw[funext λc=>if_pos h];exact h1 h
 .rw[funext λc=>if_neg h];exact h2 h
theorem ai.iX{I D:β->aQ->Prop}{m:Cc f n->StateT SortSt Sem (ForInStep α)}(b:β)(h:I b Y)(hm:∀c,m c=Si (Pz (e b c))):ai m (pI e) Y (Lp I D):=ai.pure (.yield b) h hm
theorem ai.dn{I D:β->aQ->Prop}{m:Cc f n->StateT SortSt Sem (ForInStep α)}(b:β)(h:D b Y)(hm:∀c,m c=Si (ForInStep.done (e b c))):ai m (pI e) Y (Lp I D):=ai.pure (.done b) h hm
end
noncomputable abbrev SM:=StateT SortSt Sem
variable{r:Nat->Nat}
structure Od(f:Nat->Nat->Bool)(n:Nat)(r:Nat->Nat):Prop where
 lt:∀i j,i<n->j<n->f i j=decide (r i<r j)
 inj:∀i j,i<n->j<n->r i=r j->i=j
noncomputable def Ra(r:Nat->Nat)(p:Array Nat)(i:Nat):Nat:=r (p.getD i 0)
def Sg(r:Nat->Nat)(p:Array Nat)(lo hi:Nat):Prop:=∀i j,lo<=i->i<j->j<hi->Ra r p i<Ra r p j
def Kq(p q:Array Nat)(lo hi:Nat):Prop:=∀i,i<lo\/hi<=i->q.getD i 0=p.getD i 0
def Pt(n:Nat)(p:Array Nat):Prop:=p.Perm (OH (NA n))
theorem Pt.size{p:Array Nat}(h:Pt n p):p.size=n:=by have:=Array.Perm.size_eq h;simpa using this
theorem Pt.lt(h:Pt n p)(hi:i<n):p.getD i 0<n:=by
 have hs:=h.size;have e:p.getD i 0=p[i]'(by lia):=by simp[Ox,hs,hi]
 rw[e];have:p[i]'(by lia)∈(OH (NA n)).toList:=(P4.mp h).mem_iff.mp (by simp);simpa using this
theorem Pt.nd(h:Pt n p):p.toList.Nodup:=(P4.mp h).nodup_iff.mpr (by simpa using Q7)
theorem Od.ne(o:Od f n r)(h:Pt n p)(hi:i<n)(v:j<n)(b:i≠j):Ra r p i≠Ra r p j:=λe=>by
 have D:=o.inj _ _ (h.lt hi) (h.lt v) e;have hs:=h.size;have x:p.getD i 0=p.toList[i]'(by simp;lia):=by simp[Ox,hs,hi]
 have Y:p.getD j 0=p.toList[j]'(by simp;lia):=by simp[Ox,hs,v]
 rw[x,Y] at D;exact b ((Sf h.nd).mp D)
theorem Kq.refl(p:Array Nat)(lo hi:Nat):Kq p p lo hi:=λ_ _=>rfl
theorem Kq.wide{q:Array Nat}{b a:Nat}(h:Kq p q lo hi)(h1:b<=lo)(h2:hi<=a):Kq p q b a:=λi hi=>h i (by lia)
theorem Sg.keep{q:Array Nat}{a b:Nat}(h:Sg r p a b)(k:Kq p q lo hi)(hk:b<=lo\/hi<=a):Sg r q a b:=λi j h1 h2 h3=>by unfold Ra;rw[k i (by lia),k j (by lia)];exact h i j h1 h2 h3
theorem Sg.one(p:Array Nat)(lo:Nat):Sg r p lo (lo+1):=λi j _ _ _=>by lia
theorem Sg.snoc(h:Sg r p lo hi)(hl:lo<hi)(he:Ra r p (hi-1)<Ra r p hi):Sg r p lo (hi+1):=λi j h1 h2 h3=>by
 by_cases e:j=hi
 .subst e;by_cases F:i=j-1
  .rw[F];exact he
  .exact QJ (h i (j-1) h1 (by lia) (by lia)) he
 .exact h i j h1 h2 (by lia)
theorem ai.lb(o:Od f n r){k:Option Bool->Cc f n->StateT SortSt Sem γ}{e':δ->Cc f n->γ}{P':δ->aQ->Prop}(hp:Pt n Y.p)(hi:i<n)(v:j<n)(b:i≠j)(h1:Ra r Y.p i<Ra r Y.p j->ai (λc=>k (some true) c) e' Y P')(h2:Ra r Y.p j<Ra r Y.p i->ai (λc=>k (some false) c) e' Y P'):ai (λc=>ltAt' i j >>= λa=>k a c) e' Y P':=by
 refine ai.ltAt (by rw[hp.size];exact hi) (by rw[hp.size];exact v) (hp.lt hi) (hp.lt v) ?_;rw[o.lt _ _ (hp.lt hi) (hp.lt v)];by_cases h:Ra r Y.p i<Ra r Y.p j
 .rw[decide_eq_true (p:=r (Y.p.getD i 0)<r (Y.p.getD j 0)) h];exact h1 h
 .rw[decide_eq_false (p:=r (Y.p.getD i 0)<r (Y.p.getD j 0)) h];exact h2 (by have:=o.ne hp hi v b;lia)
theorem ai.rv{k:Unit->Cc f n->StateT SortSt Sem γ}{e':δ->Cc f n->γ}{P':δ->aQ->Prop}(h:ai (λc=>k () c) e' ⟨kas_rev Y.p i j,Y.pend,Y.mg⟩ P'):ai (λc=>reverseSlice' i j >>= λa=>k a c) e' Y P':=by simp only[reverseSlice'_eq];refine ai.mod (λc=>?_) h;show Qg c.κ (mirror ((Y.p).map (kas_item c.it)) i j ((j-i) / 2)) Y.pend Y.mg none=Qg c.κ ((mirror Y.p i j ((j-i) / 2)).map (kas_item c.it)) Y.pend Y.mg none;have D:mirror (Y.p.map (kas_item c.it)) i j ((j-i) / 2)=(mirror Y.p i j ((j-i) / 2)).map (kas_item c.it):=kas_swaps_map (kas_item c.it) (λk=>i+k) (λk=>j-1-k) _ Y.p;rw[D]
theorem Pt.rev(h:Pt n p)(i j:Nat):Pt n (kas_rev p i j):=(mirror_perm _ _ _ _).trans h
theorem qI(v:j<=p.size)(k:Nat):(kas_rev p i j).getD k 0=if i<=k/\k<j then p.getD (i+j-1-k) 0 else p.getD k 0:=by rw[NQ,NQ,NQ];unfold kas_rev;rw[getElem?_mirror_all v];split<;>rfl
def Kp(Y Z':aQ):Prop:=Z'.pend=Y.pend
def Ly(n lo nrem:Nat)(r:Nat->Nat)(Y:aQ)(x:Option Nat)(Z':aQ):Prop:=∃m,x=some m/\1<=m/\m<=nrem/\Pt n Z'.p/\Kp Y Z'/\Sg r Z'.p lo (lo+m)/\Kq Y.p Z'.p lo (lo+nrem)
theorem tK(o:Od f n r)(hp:Pt n Y.p)(hl:lo+nrem<=n)(h1:1<=m)(hm:m<=nrem)(hs:Sg r Y.p lo (lo+m)){body:Nat->Option (Option Nat)×Nat->SM (ForInStep (Option (Option Nat)×Nat))} (hb:body=λ_ s=>ltAt' (lo+s.2) (lo+s.2-1) >>= λx=>match x with
  |some X=>if X=true then pure (.done (none,s.2)) else pure (.yield (none,s.2+1))
  | _=>pure (.done (some none,s.2))):
  ai (λ_:Cc f n=>forIn [m:nrem] (none,m) body) (λb _=>b) Y (λb Z'=>Z'=Y/\b.1=none/\1<=b.2/\b.2<=nrem/\Sg r Y.p lo (lo+b.2)/\(m<=b.2/\(b.2<nrem->Ra r Y.p (lo+b.2)<Ra r Y.p (lo+b.2-1)))):=by
 subst hb;refine ai.qq (λb _=>b) (λi b Z'=>Z'=Y/\b=(none,m+i)/\Sg r Y.p lo (lo+(m+i))) (none,m) (λ_=>rfl) ⟨rfl,rfl,hs⟩ ?_ ?_
 .rintro b Z' ⟨rfl,rfl,s⟩;exact⟨rfl,rfl,by show 1<=m+_;lia,by show m+_<=nrem;lia,s,by show m<=m+_;lia,λh=>by have h:m+(nrem-m)<nrem:=h;lia⟩
 .rintro i b Z' hi ⟨rfl,rfl,s⟩;dsimp only;refine ai.lb o hp (by lia) (by lia) (by lia) (λh=>?_) λh=>?_
  .exact ai.dn (none,m+i) ⟨rfl,rfl,by show 1<=m+i;lia,by show m+i<=nrem;lia,s,by show m<=m+i;lia,λ_=>h⟩ λ_=>rfl
  .refine ai.iX (none,m+i+1) ⟨rfl,rfl,?_⟩ λ_=>rfl;have:=s.snoc (by lia) h;rwa[show lo+(m+i)+1=lo+(m+(i+1)) by lia] at this
theorem uS(o:Od f n r)(hp:Pt n Y.p)(hl:lo+nrem<=n)(h1:1<=nrem):ai (λ_:Cc f n=>countRun' lo nrem) (λb _=>b) Y (Ly n lo nrem r Y):=by
 rw[countRun'_eq];dsimp only;refine ai.bind (tK o hp hl (Nr 1) h1 (Sg.one _ _) rfl) ?_
 .rintro⟨x,m⟩ Z' ⟨rfl,w,Z,H,s,-,hd⟩;cases w;dsimp only at Z H s hd ⊢;refine ai.ite (λh=>?_) (λh=>?_)
  .exact ai.pure (some m) ⟨m,rfl,Z,H,hp,rfl,s,Kq.refl _ _ _⟩ λ_=>rfl
  have hm:m<nrem:=by have:m≠nrem:=λz=>h (by rw[z];exact beq_self_eq_true _);lia
  have hd:=hd hm;refine ai.ite (λh2=>?_) λh2=>?_
  .refine ai.lb o hp (by lia) (by lia) (by lia) (λ_=>?_) λz=>?_
   .exact ai.pure (some m) ⟨m,rfl,Z,H,hp,rfl,s,Kq.refl _ _ _⟩ λ_=>rfl
   .have:=s lo (lo+m-1) (Nr _) (by lia) (by lia);lia
  have G:m=1:=by lia
  subst G;refine ai.rule ?_;have E:∀i j,lo<=i->i<j->j<lo+2->Ra r Z'.p j<Ra r Z'.p i:=λi j a b c=>by
   have l:i=lo:=by lia
   have I:j=lo+1:=by lia
   subst l I;exact hd
  refine ai.bind (ai.qq (λb _=>b) (λi b T=>T=Z'/\b=(none,2+i,0)/\∀a b,lo<=a->a<b->b<lo+(2+i)->Ra r Z'.p b<Ra r Z'.p a) (D:=λb T=>T=Z'/\b.1=none/\b.2.2=0/\1<=b.2.1/\b.2.1<=nrem/\∀x y,lo<=x->x<y->y<lo+b.2.1->Ra r Z'.p y<Ra r Z'.p x) (none,2,0) (λ_=>rfl) ⟨rfl,rfl,E⟩ ?_ ?_) ?_
  .rintro b T ⟨rfl,rfl,d⟩;exact⟨rfl,rfl,rfl,by show 1<=2+_;lia,by show 2+_<=nrem;lia,d⟩
  .rintro i b T hi ⟨rfl,rfl,d⟩;dsimp only;refine ai.lb o hp (by lia) (by lia) (by lia) (λh=>?_) λh=>?_
   .dsimp only;refine ai.ite (λ_=>ai.ite (λz=>absurd z (by decide)) λ_=>?_) λz=>absurd rfl z;refine ai.iX (none,2+i+1,0) ⟨rfl,rfl,λx y a b c=>?_⟩ λ_=>rfl;by_cases e:y=lo+(2+i)
    .subst e;by_cases F:x=lo+(2+i)-1
     .rw[F];exact h
     .exact QJ h (d x (lo+(2+i)-1) a (by lia) (by lia))
    .exact d x y a b (by lia)
   .refine ai.lb o hp (by lia) (by lia) (by lia) (λh2=>?_) λh2=>by lia
    exact ai.dn (none,2+i,0) ⟨rfl,rfl,rfl,by show 1<=2+i;lia,by show 2+i<=nrem;lia,d⟩ λ_=>rfl
  .rintro⟨x,N,q⟩ T ⟨rfl,w,R,X,Q,d⟩;cases w;cases R;dsimp only at X Q d ⊢;refine ai.ite (λz=>absurd z (by decide)) λ_=>ai.rv ?_;have hs:=hp.size;have v:Pt n (kas_rev T.p lo (lo+N)):=hp.rev _ _;have J:Kq T.p (kas_rev T.p lo (lo+N)) lo (lo+nrem):=λi hi=>by rw[qI (by lia),if_neg (by lia)]
   have sr:Sg r (kas_rev T.p lo (lo+N)) lo (lo+N):=λi j a b c=>by unfold Ra;rw[qI (by lia),qI (by lia),if_pos (by lia),if_pos (by lia)];exact d _ _ (by lia) (by lia) (by lia)
   refine ai.bind (tK o (Y:=⟨kas_rev T.p lo (lo+N),T.pend,T.mg⟩) v hl X Q sr rfl) ?_;rintro⟨x,B⟩ V ⟨rfl,w,g,C,O,-,-⟩;cases w;exact ai.pure (some B) ⟨B,rfl,g,C,v,rfl,O,J⟩ λ_=>rfl
theorem Pt.M7(h:Pt n p)(i j:Nat):Pt n (bubble p i j):=(bubble_perm _ _ _).trans h
theorem pU{d:Nat}(hs:i<p.size)(hd:d<=i)(k:Nat):(bubble p i d).getD k 0=if k=i-d then p.getD i 0 else if i-d<k/\k<=i then p.getD (k-1) 0 else p.getD k 0:=by
 simp only[NQ];rw[getElem?_bubble hs d hd];split
 .rfl
 .split<;>rfl
theorem ai.mv{k:Unit->Cc f n->StateT SortSt Sem γ}{e':δ->Cc f n->γ}{P':δ->aQ->Prop}(h:ai (λc=>k () c) e' ⟨bubble Y.p i (i-j),Y.pend,Y.mg⟩ P'):ai (λc=>moveDown' i j >>= λa=>k a c) e' Y P':=by simp only[moveDown'_eq];refine ai.mod (λc=>?_) h;show Qg c.κ (bubble ((Y.p).map (kas_item c.it)) i (i-j)) Y.pend Y.mg none=Qg c.κ ((bubble Y.p i (i-j)).map (kas_item c.it)) Y.pend Y.mg none;have D:bubble (Y.p.map (kas_item c.it)) i (i-j)=(bubble Y.p i (i-j)).map (kas_item c.it):=kas_swaps_map (kas_item c.it) (λk=>i-k) (λk=>i-k-1) _ Y.p;rw[D]
theorem zM(o:Od f n r){ok:Nat}(hp:Pt n Y.p)(hl:lo+z<=n)(hok:ok<=z)(X:1<=ok)(hs:Sg r Y.p lo (lo+ok)):ai (λ_:Cc f n=>binarySort' lo z ok) (λb _=>b) Y (λx Z'=>x=true/\Pt n Z'.p/\Kp Y Z'/\Sg r Z'.p lo (lo+z)/\Kq Y.p Z'.p lo (lo+z)):=by
 rw[binarySort'_eq,show max ok 1=ok by lia];dsimp only;refine ai.bind (ai.qq (λb _=>b) (λi b Z'=>b=(none,())/\Pt n Z'.p/\Kp Y Z'/\Sg r Z'.p lo (lo+(ok+i))/\Kq Y.p Z'.p lo (lo+z)) (D:=λb Z'=>b=(none,())/\Pt n Z'.p/\Kp Y Z'/\Sg r Z'.p lo (lo+z)/\Kq Y.p Z'.p lo (lo+z)) (none,()) (λ_=>rfl) ⟨rfl,hp,rfl,hs,Kq.refl _ _ _⟩ ?_ ?_) ?_
 .rintro b Z' ⟨w,U,V,s1,q⟩;rw[show ok+(z-ok)=z by lia] at s1;exact⟨w,U,V,s1,q⟩
 .rintro i b Z hi ⟨rfl,U,V,s1,q⟩;have hz:=U.size;refine ai.bind (ai.qq (λb _=>b) (λj b Z'=>Z'=Z/\b.1=none/\b.2.1<=b.2.2/\b.2.2<=ok+i/\b.2.2-b.2.1+j<=ok+i/\(∀a,a<b.2.1->Ra r Z.p (lo+a)<Ra r Z.p (lo+(ok+i)))/\∀a,b.2.2<=a->a<ok+i->Ra r Z.p (lo+(ok+i))<Ra r Z.p (lo+a)) (D:=λb Z'=>Z'=Z/\b.1=none/\b.2.1<=ok+i/\(∀a,a<b.2.1->Ra r Z.p (lo+a)<Ra r Z.p (lo+(ok+i)))/\∀a,b.2.1<=a->a<ok+i->Ra r Z.p (lo+(ok+i))<Ra r Z.p (lo+a)) (none,0,ok+i) (λ_=>rfl) ⟨rfl,rfl,Ou _,Nr _,by show ok+i-0+0<=ok+i;lia,λa h=>absurd h (OZ a),λa h1 h2=>absurd h2 (Us.mpr h1)⟩ ?_ ?_) ?_
  .rintro⟨x,l,y⟩ Z' ⟨w,h1,h2,h3,h4,h5,m⟩;dsimp only at *;have:y=l:=by lia
   subst this;exact⟨w,h1,h3,h5,m⟩
  .rintro j ⟨x,l,y⟩ T v ⟨rfl,w,h1,h2,h3,h4,h5⟩;cases w;dsimp only at h1 h2 h3 h4 h5 ⊢;refine ai.ite (λz=>?_) (λz=>?_)
   .have:y=l:=by lia
    subst this;exact ai.dn (none,y,y) ⟨rfl,rfl,h2,h4,h5⟩ λ_=>rfl
   refine ai.lb o U (by lia) (by lia) (by lia) (λh=>?_) λh=>?_
   .refine ai.iX (none,l,(l+y) / 2) ⟨rfl,rfl,by show l<=(l+y) / 2;lia,by show (l+y) / 2<=_;lia,by show (l+y) / 2-l+(j+1)<=_;lia,h4,λa b c=>?_⟩ λ_=>rfl;have b:(l+y) / 2<=a:=b;by_cases e:a=(l+y) / 2
    .rw[e];exact h
    .exact QJ h (s1 _ _ (by lia) (by lia) (by lia))
   .refine ai.iX (none,(l+y) / 2+1,y) ⟨rfl,rfl,by show (l+y) / 2+1<=y;lia,h2,by show y-((l+y) / 2+1)+(j+1)<=_;lia,λa b=>?_,h5⟩ λ_=>rfl;have b:a<(l+y) / 2+1:=b;by_cases e:a=(l+y) / 2
    .rw[e];exact h
    .exact QJ (s1 _ _ (by lia) (by lia) (by lia)) h
  .rintro⟨x,l,y⟩ T ⟨rfl,w,h1,h2,h3⟩;cases w;dsimp only at h1 h2 h3 ⊢;have E:lo+(ok+i)-(lo+(ok+i)-(lo+l))=lo+l:=by lia
   refine ai.mv ?_;refine ai.iX (none,()) ⟨rfl,U.M7 _ _,V,λa b c d e=>?_,λa ha=>?_⟩ λ_=>rfl
   .have e:b<lo+(ok+(i+1)):=e;unfold Ra;dsimp only;rw[pU (by lia) (by lia),pU (by lia) (by lia),E];by_cases J:a=lo+l
    .rw[if_pos J,if_neg (by lia),if_pos (by lia)];have:=h3 (b-1-lo) (by lia) (by lia);rwa[show lo+(b-1-lo)=b-1 by lia] at this
    .rw[if_neg J];by_cases O:b=lo+l
     .rw[if_neg (by lia),if_pos O];have:=h2 (a-lo) (by lia);rwa[show lo+(a-lo)=a by lia] at this
     .rw[if_neg O];by_cases c3:lo+l<a/\a<=lo+(ok+i)
      .rw[if_pos c3,if_pos (by lia)];exact s1 _ _ (by lia) (by lia) (by lia)
      .rw[if_neg c3];by_cases H:lo+l<b/\b<=lo+(ok+i)
       .rw[if_pos H];exact s1 _ _ (by lia) (by lia) (by lia)
       .rw[if_neg H];exact s1 _ _ (by lia) (by lia) (by lia)
   .dsimp only;rw[pU (by lia) (by lia),E,if_neg (by lia),if_neg (by lia)];exact q a ha
 .rintro b Z' ⟨rfl,U,V,s1,q⟩;exact ai.pure true ⟨rfl,U,V,s1,q⟩ λ_=>rfl
noncomputable def cz:Bool->Keyed->Array Keyed->Nat->Nat->Nat->StateT SortSt Sem (Option Nat):=sortPriv% PySem.Builtin.gallop
noncomputable abbrev GS:=Option (Option Nat)×Nat×Nat
noncomputable def kI(left:Bool)(V:Keyed)(Y:Array Keyed)(base i:Nat):SM (Option Bool):=do
 let x <- elem' Y (base+i)
 if left=true then lt' x V else do
  let r <- lt' V x
  pure (r.map (!·))
noncomputable def vp(B:Nat->SM (Option Bool))(z lo hi:Nat):SM (Option Nat):=do
 let s <- forIn [:z] ((none,lo,hi):GS) λ_ s=>if s.2.1≥s.2.2 then pure (.done (none,s.2.1,s.2.2)) else do
  let x <- B (s.2.1+(s.2.2-s.2.1) / 2)
  match x with
  |some more=>if more=true then pure (.yield (none,s.2.1+(s.2.2-s.2.1) / 2+1,s.2.2)) else pure (.yield (none,s.2.1,s.2.1+(s.2.2-s.2.1) / 2))
  |_=>pure (.done (some none,s.2.1,s.2.2))
 match s.1 with
 |some r=>pure r
 |none=>pure (some s.2.2)
noncomputable def xG(B:Nat->SM (Option Bool))(Y:Bool->Bool)(b:Nat->Nat)(a z:Nat)(k:Nat->Nat->SM (Option Nat)):SM (Option Nat):=do
 let s <- forIn [:z] ((none,0,1):GS) λ_ s=>if s.2.2≥a then pure (.done (none,s.2.1,s.2.2)) else do
  let x <- B (b s.2.2)
  match x with
  |some more=>if Y more=true then pure (.done (none,s.2.1,s.2.2)) else pure (.yield (none,s.2.2,2*s.2.2+1))
  |_=>pure (.done (some none,s.2.1,s.2.2))
 match s.1 with
 |some r=>pure r
 |none=>k s.2.1 s.2.2
theorem rz(left:Bool)(V:Keyed)(Y:Array Keyed)(base z Z:Nat):cz left V Y base z Z=(kI left V Y base Z >>= λx=>
  match x with
  | some right=>if right=true then xG (kI left V Y base) (!·) (Z+·) (z-Z) z λl o=>vp (kI left V Y base) z (Z+l+1) (Z+min o (z-Z))
   else xG (kI left V Y base) (·) (Z - ·) (Z+1) z λl o=>vp (kI left V Y base) z (Z+1-min o (Z+1)) (Z-l)
  | _=>pure none):=by
 unfold xG vp;show cz left V Y base z Z=_;unfold cz;refine congrArg (bind (kI left V Y base Z)) (funext λx=>?_);cases x with
 |none=>rfl
 |some r=>
  cases r with
  |true=>
   dsimp only;rw[if_pos rfl,if_pos rfl]
   congr 1
   funext ⟨r,l,o⟩
   cases r with
   |some r=>rfl
   |none=>
    dsimp only
    congr 1
    funext ⟨r,l,o⟩
    cases r<;>rfl
  |false=>
   dsimp only;rw[if_neg (by decide),if_neg (by decide)]
   congr 1
   funext ⟨r,l,o⟩
   cases r with
   |some r=>rfl
   |none=>
    dsimp only
    congr 1
    funext ⟨r,l,o⟩
    cases r<;>rfl
def Qn(n:Nat)(q:Array Nat):Prop:=∀i,i<q.size->q.getD i 0<n
theorem ai.Nc{P:Option Bool->aQ->Prop}(hi:i<n)(v:j<n)(h:P (some (f i j)) Y):ai (λc:Cc f n=>lt' (kas_item c.it i) (kas_item c.it j)) (λb _=>b) Y P:=by have:=ai.lt (k:=λa _=>Si a) hi v (e':=λb _=>b) (P':=P) (Y:=Y) (f:=f) (ai.pure _ h λ_=>rfl);simpa using this
def Bv(r:Nat->Nat)(left:Bool)(kx:Nat)(q:Array Nat)(base i:Nat):Bool:=if left=true then decide (Ra r q (base+i)<r kx) else !decide (r kx<Ra r q (base+i))
theorem j0(o:Od f n r){kx:Nat}{q:Array Nat}(hk:kx<n)(R:Qn n q)(hi:base+i<q.size):ai (λc:Cc f n=>kI left (kas_item c.it kx) (c.ar q) base i) (λb _=>b) Y (λx Z'=>Z'=Y/\x=some (Bv r left kx q base i)):=by
 unfold kI Bv Ra;refine ai.elem hi (ai.ite (λh=>?_) λh=>ai.lt hk (R _ hi) ?_)
 .rw[if_pos h];exact ai.Nc (R _ hi) hk ⟨rfl,by rw[o.lt _ _ (R _ hi) hk]⟩
 .rw[if_neg h,o.lt _ _ hk (R _ hi)];exact ai.pure _ ⟨rfl,rfl⟩ λ_=>rfl
def Bm(r:Nat->Nat)(left:Bool)(kx:Nat)(q:Array Nat)(base z k:Nat):Prop:=(∀i,i<k->Bv r left kx q base i=true)/\∀i,k<=i->i<z->Bv r left kx q base i=false
theorem jg{kx:Nat}{q:Array Nat}(hs:Sg r q base (base+z))(b:i<=j)(v:j<z)(h:Bv r left kx q base j=true):Bv r left kx q base i=true:=by
 by_cases e:i=j
 .rw[e];exact h
 have:=hs (base+i) (base+j) (by lia) (by lia) (by lia);unfold Bv at h ⊢;cases left with
 |true=>rw[if_pos rfl] at h ⊢;have h:=of_decide_eq_true h;exact decide_eq_true (by lia)
 |false=>rw[if_neg (by decide)] at h ⊢;rw[NX] at h ⊢;have h:=of_decide_eq_false h;exact decide_eq_false (by lia)
theorem kj{kx:Nat}{q:Array Nat}(hs:Sg r q base (base+z))(b:i<=j)(v:j<z)(h:Bv r left kx q base i=false):Bv r left kx q base j=false:=by
 cases e:Bv r left kx q base j with
 |false=>rfl
 |true=>rw[jg hs b v e] at h;cases h
theorem fN(o:Od f n r){kx p:Nat}{q:Array Nat}(hk:kx<n)(R:Qn n q)(hz:base+z<=q.size)(V:p<z)(hs:Sg r q base (base+z)):ai (λc:Cc f n=>cz left (kas_item c.it kx) (c.ar q) base z p) (λb _=>b) Y (λx Z'=>Z'=Y/\∃k,x=some k/\k<=z/\Bm r left kx q base z k):=by
 have A:∀lo hi,lo<=hi->hi<=z->(∀i,i<lo->Bv r left kx q base i=true)->(∀i,hi<=i->i<z->Bv r left kx q base i=false)->ai (λc:Cc f n=>vp (kI left (kas_item c.it kx) (c.ar q) base) z lo hi) (λb _=>b) Y (λx Z'=>Z'=Y/\∃k,x=some k/\k<=z/\Bm r left kx q base z k):=by
  intro lo hi X B E S;unfold vp;refine ai.bind (ai.qq (λb _=>b) (λi b Z'=>Z'=Y/\b.1=none/\b.2.1<=b.2.2/\b.2.2<=z/\b.2.2-b.2.1+i<=z/\(∀i,i<b.2.1->Bv r left kx q base i=true)/\(∀i,b.2.2<=i->i<z->Bv r left kx q base i=false)) (D:=λb Z'=>Z'=Y/\b.1=none/\b.2.2<=z/\Bm r left kx q base z b.2.2) (none,lo,hi) (λ_=>rfl) ⟨rfl,rfl,X,B,by show hi-lo+0<=z;lia,E,S⟩ ?_ ?_) ?_
  .rintro⟨x,l,h⟩ Z' ⟨w,h1,h2,h3,h4,h5,Q⟩;dsimp only at *;have:l=h:=by lia
   subst this;exact⟨w,h1,h3,h5,Q⟩
  .rintro i ⟨x,l,h⟩ Z' hi ⟨rfl,w,h1,hx,h3,h5,Q⟩;cases w;dsimp only at h1 hx h3 h5 Q ⊢;refine ai.ite (λz=>?_) λX=>ai.bind (j0 o hk R (by lia)) ?_
   .have:l=h:=by lia
    subst this;exact ai.dn (none,l,l) ⟨rfl,rfl,hx,h5,Q⟩ λ_=>rfl
   rintro _ Z' ⟨rfl,rfl⟩;dsimp only;refine ai.ite (λe=>?_) λe=>?_
   .exact ai.iX (none,l+(h-l) / 2+1,h) ⟨rfl,rfl,by show l+(h-l) / 2+1<=h;lia,hx,by show h-(l+(h-l) / 2+1)+(i+1)<=z;lia,λa ha=>jg hs (by have ha:a<l+(h-l) / 2+1:=ha;lia:a<=l+(h-l) / 2) (by lia) e,Q⟩ λ_=>rfl
   .exact ai.iX (none,l,l+(h-l) / 2) ⟨rfl,rfl,by show l<=l+(h-l) / 2;lia,by show l+(h-l) / 2<=z;lia,by show l+(h-l) / 2-l+(i+1)<=z;lia,h5,λa ha hz=>kj hs ha hz (by simpa using e)⟩ λ_=>rfl
  .rintro⟨x,l,h⟩ Z' ⟨rfl,w,hx,hb⟩;cases w;exact ai.pure (some h) ⟨rfl,h,rfl,hx,hb⟩ λ_=>rfl
 have C:∀(v:Bool)(I:Bool->Bool)(H:Nat->Nat)(Z:Nat)(k:Nat->Nat->Cc f n->SM (Option Nat)),(∀m,I m=true↔m=!v)->Z<=z->1<=Z->(∀o,o<Z->H o<z)->Bv r left kx q base (H 0)=v->(∀l o,l<o->l<Z->Bv r left kx q base (H l)=v->(o<Z->Bv r left kx q base (H o)=!v)->ai (k l o) (λb _=>b) Y (λx Z'=>Z'=Y/\∃k,x=some k/\k<=z/\Bm r left kx q base z k))->ai (λc:Cc f n=>xG (kI left (kas_item c.it kx) (c.ar q) base) I H Z z λl o=>k l o c) (λb _=>b) Y (λx Z'=>Z'=Y/\∃k,x=some k/\k<=z/\Bm r left kx q base z k):=by
  intro v I H Z k s J P ha w t;unfold xG;refine ai.bind (ai.qq (λb _=>b) (λi b Z'=>Z'=Y/\b.1=none/\b.2.1<b.2.2/\b.2.1<Z/\i+1<=b.2.2/\Bv r left kx q base (H b.2.1)=v) (D:=λb Z'=>Z'=Y/\b.1=none/\b.2.1<b.2.2/\b.2.1<Z/\Bv r left kx q base (H b.2.1)=v/\(b.2.2<Z->Bv r left kx q base (H b.2.2)=!v)) (none,0,1) (λ_=>rfl) ⟨rfl,rfl,Nat.zero_lt_one,P,Nr 1,w⟩ ?_ ?_) ?_
  .rintro⟨x,l,h⟩ Z' ⟨w,h1,h2,h3,h4,h5⟩;dsimp only at *;exact⟨w,h1,h2,h3,h5,λz=>by lia⟩
  .rintro i ⟨x,l,o'⟩ Z' hi ⟨rfl,w,h2,h3,h4,h5⟩;cases w;dsimp only at h2 h3 h4 h5 ⊢;refine ai.ite (λz=>?_) λX=>ai.bind (j0 o hk R (by have:=ha o' (by lia);lia)) ?_
   .exact ai.dn (none,l,o') ⟨rfl,rfl,h2,h3,h5,λy=>absurd y (Us.mpr z)⟩ λ_=>rfl
   rintro _ Z' ⟨rfl,rfl⟩;dsimp only;refine ai.ite (λe=>?_) λe=>?_
   .exact ai.dn (none,l,o') ⟨rfl,rfl,h2,h3,h5,λ_=>(s _).mp e⟩ λ_=>rfl
   .refine ai.iX (none,o',2*o'+1) ⟨rfl,rfl,by show o'<2*o'+1;lia,Ss X,by show i+1+1<=2*o'+1;lia,?_⟩ λ_=>rfl;have F:¬ Bv r left kx q base (H o')=!v:=λz=>e ((s _).mpr z);show Bv r left kx q base (H o')=v;cases u:Bv r left kx q base (H o')<;>cases v<;>simp_all
  .rintro⟨x,l,h⟩ Z' ⟨rfl,w,h2,h3,h5,Q⟩;cases w;exact t l h h2 h3 h5 Q
 simp only[rz];refine ai.bind (j0 o hk R (by lia)) ?_;rintro _ Z' ⟨rfl,rfl⟩;dsimp only;refine ai.ite (λe=>?_) λe=>?_
 .refine C true _ _ _ (λl o c=>_) (λm=>by cases m<;>simp) (by lia) (by lia) (λo ho=>by lia) e λl o a b c d=>A _ _ (by lia) (by lia) (λi hi=>jg hs (by lia:i<=p+l) (by lia) c) λi hi hz=>?_;by_cases h:o<z-p
  .exact kj hs (by lia:p+o<=i) hz (d h)
  .lia
 .refine C false _ _ _ (λl o c=>_) (λm=>by cases m<;>simp) (by lia) (by lia) (λo ho=>by lia) (by simpa using e) λl o a b c d=>A _ _ (by lia) (by lia) (λi hi=>?_) λi hi hz=>kj hs (by lia:p-l<=i) hz c;by_cases h:o<p+1
  .exact jg hs (by lia:i<=p-o) (by lia) (d h)
  .lia
noncomputable def gP:Array Keyed->Array Keyed->SM (Array Keyed):=sortPriv% PySem.Builtin.mergeLo
noncomputable def jx:Nat->SM Unit:=sortPriv% PySem.Builtin.setMinGallop
noncomputable abbrev ML:=Option (Array Keyed)×Array Keyed×Nat×Nat×Nat
noncomputable abbrev MI:=Option (Array Keyed)×Array Keyed×Nat×Nat×Nat×Nat
noncomputable abbrev MG:=Option (Array Keyed)×Array Keyed×Nat×Nat×Nat×Nat×Nat
noncomputable def og{α:Type}(a b out:Array α)(ia ib:Nat):Array α:=out++a.extract ia a.size++b.extract ib b.size
noncomputable def vj{α:Type}(a b out:Array α)(ia ib:Nat):Array α:=out++b.extract ib b.size++a.extract ia a.size
section
variable(a b:Array Keyed)
def LG(mg:Nat)(out:Array Keyed)(ia ib q z:Nat):SM (ForInStep MI):=do
 let y <- elem' b ib
 let x <- elem' a ia
 let r <- lt' y x
 match r with
 | some w=>(if w=true then (do
   let y <- elem' b ib
   if (ib+1==b.size)=true then pure (.done (some (og a b (out.push y) ia (ib+1)),out.push y,ia,ib+1,0,z+1)) else
    if z+1≥mg then pure (.done (none,out.push y,ia,ib+1,0,z+1)) else pure (.yield (none,out.push y,ia,ib+1,0,z+1)))
  else (do
   let x <- elem' a ia
   if (ia+1+1==a.size)=true then pure (.done (some (vj a b (out.push x) (ia+1) ib),out.push x,ia+1,ib,q+1,0)) else
    if q+1≥mg then pure (.done (none,out.push x,ia+1,ib,q+1,0)) else pure (.yield (none,out.push x,ia+1,ib,q+1,0))):SM (ForInStep MI))
 |_=>pure (.done (some (og a b out ia ib),out,ia,ib,q,z))
def Kf(mg q z:Nat)(out:Array Keyed)(ia ib:Nat):SM (ForInStep MG):=do
 let x <- elem' a ia
 if (ia+1+1==a.size)=true then pure (.done (some (vj a b (out.push x) (ia+1) ib),out.push x,ia+1,ib,mg,q,z)) else
  if (decide (q<7)&&decide (z<7))=true then pure (.done (none,out.push x,ia+1,ib,mg,q,z)) else pure (.yield (none,out.push x,ia+1,ib,mg,q,z))
def J2(mg q z:Nat)(out:Array Keyed)(ia ib:Nat):SM (ForInStep MG):=do
 let y <- elem' b ib
 if (ib+1==b.size)=true then pure (.done (some (og a b (out.push y) ia (ib+1)),out.push y,ia,ib+1,mg,q,z)) else do
  let x <- elem' a ia
  let r <- cz true x b (ib+1) (b.size-(ib+1)) 0
  match r with
  | some k=>(if k > 0 then
    if (ib+1+k==b.size)=true then pure (.done (some (og a b (out.push y++b.extract (ib+1) (ib+1+k)) ia (ib+1+k)),out.push y++b.extract (ib+1) (ib+1+k),ia,ib+1+k,mg,q,k))
    else Kf a b mg q k (out.push y++b.extract (ib+1) (ib+1+k)) ia (ib+1+k)
   else Kf a b mg q k (out.push y) ia (ib+1):SM (ForInStep MG))
  |_=>pure (.done (some (og a b (out.push y) ia (ib+1)),out.push y,ia,ib+1,mg,q,z))
def J4(q z:Nat)(out:Array Keyed)(ia ib mg:Nat):SM (ForInStep MG):=do
 jx mg
 let y <- elem' b ib
 let r <- cz false y a ia (a.size-ia) 0
 match r with
 | some k=>(if k > 0 then
   if (ia+k+1==a.size)=true then pure (.done (some (vj a b (out++a.extract ia (ia+k)) (ia+k) ib),out++a.extract ia (ia+k),ia+k,ib,mg,k,z))
   else if (ia+k==a.size)=true then pure (.done (some (og a b (out++a.extract ia (ia+k)) (ia+k) ib),out++a.extract ia (ia+k),ia+k,ib,mg,k,z))
   else J2 a b mg k z (out++a.extract ia (ia+k)) (ia+k) ib
  else J2 a b mg k z out ia ib:SM (ForInStep MG))
 |_=>pure (.done (some (og a b out ia ib),out,ia,ib,mg,q,z))
def Ki(nD:Nat)(out:Array Keyed)(ia ib mg:Nat):SM (ForInStep ML):=do
 let s <- forIn [:nD] ((none,out,ia,ib,0,0):MI) λ_ s=>LG a b mg s.2.1 s.2.2.1 s.2.2.2.1 s.2.2.2.2.1 s.2.2.2.2.2
 match s.1 with
 |some r=>pure (.done (some r,s.2.1,s.2.2.1,s.2.2.2.1,mg))
 | none=>do
  liftM (rule "list.sort.gallop")
  let s <- forIn [:nD] ((none,s.2.1,s.2.2.1,s.2.2.2.1,mg+1,s.2.2.2.2.1,s.2.2.2.2.2):MG) λ_ s=>if s.2.2.2.2.1 > 1 then J4 a b s.2.2.2.2.2.1 s.2.2.2.2.2.2 s.2.1 s.2.2.1 s.2.2.2.1 (s.2.2.2.2.1-1) else J4 a b s.2.2.2.2.2.1 s.2.2.2.2.2.2 s.2.1 s.2.2.1 s.2.2.2.1 s.2.2.2.2.1
  match s.1 with
  |some r=>pure (.done (some r,s.2.1,s.2.2.1,s.2.2.2.1,s.2.2.2.2.1))
  | none=>do
   jx (s.2.2.2.2.1+1)
   pure (.yield (none,s.2.1,s.2.2.1,s.2.2.2.1,s.2.2.2.2.1+1))
theorem pB:gP a b=(do
  liftM (rule "list.sort.merge-lo")
  let y <- elem' b 0
  if (1==b.size)=true then pure (og a b #[y] 0 1) else if (0+1==a.size)=true then pure (vj a b #[y] 0 1) else do
   let st <- get
   let s <- forIn [:a.size+b.size] ((none,#[y],0,1,gallopOf st):ML) λ_ s=>Ki a b (a.size+b.size) s.2.1 s.2.2.1 s.2.2.2.1 s.2.2.2.2
   match s.1 with
   |some r=>pure r
   | none=>liftM (unsupported "internal:list.sort.merge-bound" : Sem (Array Keyed))):=by
 unfold gP;refine congrArg _ (funext λ_=>congrArg (bind (elem' b 0)) (funext λy=>?_));dsimp only
 congr 1
 congr 1
 congr 1
 funext st
 congr 1
 .congr 1
  funext _ ⟨r,out,ia,ib,mg⟩
  unfold Ki;dsimp only
  congr 1
  funext ⟨r,out,ia,ib,ac,bc⟩
  cases r with
  |some r=>rfl
  |none=>
   dsimp only
   congr 1
   funext _
   congr 1
   funext ⟨r,out,ia,ib,mg,ac,bc⟩
   cases r<;>rfl
 .funext ⟨r,out,ia,ib,mg⟩
  cases r<;>rfl
end
def Sd(r:Nat->Nat)(l:List Nat):Prop:=l.Pairwise λx y=>r x<r y
section
variable{a b out:Array Nat}{ia ib k:Nat}
structure PI(r:Nat->Nat)(a b out:Array Nat)(ia ib:Nat):Prop where
 pm:(out.toList++(a.toList.drop ia++b.toList.drop ib)).Perm (a.toList++b.toList)
 oa:Sd r (out.toList++a.toList.drop ia)
 ob:Sd r (out.toList++b.toList.drop ib)
structure MH(r:Nat->Nat)(a b:Array Nat):Prop where
 sa:Sd r a.toList
 sb:Sd r b.toList
 dj:∀x∈a.toList,∀y∈b.toList,r x≠r y
 la:∀y∈b.toList,r y<r (a.getD (a.size-1) 0)
 fb:∀x∈a.toList,r (b.getD 0 0)<r x
theorem tU(a:Array Nat)(h:i<a.size):a.toList.drop i=a.getD i 0::a.toList.drop (i+1):=by
 rw[Pl (by simpa using h)]
 congr 1
 simp[Ox,h]
theorem yc(a:Array Nat):a.toList.drop i=(a.extract i (i+k)).toList++a.toList.drop (i+k):=by rw[Pm,ON,PB,<-SO,OA]
theorem p4(a:Array Nat)(h:i<a.size):a.getD i 0∈a.toList:=by rw[show a.getD i 0=a.toList[i]'(by simpa using h) by simp[Ox,h]];exact OM _
theorem jX{a:Array Nat}(h:x∈a.toList.drop i):∃j,i<=j/\j<a.size/\x=a.getD j 0:=by
 obtain⟨j,v,e⟩:=Pc h;have I:i+j<a.size:=by simp at v;lia
 exact⟨i+j,by lia,I,by rw[<-e];simp[Ox,I]⟩
theorem tM{a:Array Nat}(h:x∈(a.extract i (i+k)).toList):∃j,j<k/\i+j<a.size/\x=a.getD (i+j) 0:=by
 obtain⟨j,v,e⟩:=Pc h;have I:j<min k (a.size-i):=by simpa using v
 have h2:i+j<a.size:=by lia
 exact⟨j,by lia,h2,by rw[<-e];simp[Ox,h2]⟩
theorem Sd.at{a:Array Nat}(h:Sd r a.toList)(b:i<j)(v:j<a.size):Ra r a i<Ra r a j:=by have h:=O0.mp h i j (by simp;lia) (by simpa using v) b;unfold Ra;rw[show a.getD i 0=a.toList[i]'(by simp;lia) by simp[Ox,(by lia:i<a.size)],show a.getD j 0=a.toList[j]'(by simpa using v) by simp[Ox,v]];exact h
theorem Sd.le{a:Array Nat}(h:Sd r a.toList)(b:i<=j)(v:j<a.size):Ra r a i<=Ra r a j:=by
 by_cases e:i=j
 .rw[e];exact Nr _
 .exact QG (h.at (by lia) v)
theorem Sd.sg{a:Array Nat}(h:Sd r a.toList)(v:j<=a.size):Sg r a i j:=λx y _ b c=>h.at b (by lia)
theorem PI.pa(h:PI r a b out ia ib)(hi:ia<a.size)(hl:∀y∈b.toList.drop ib,r (a.getD ia 0)<r y):PI r a b (out.push (a.getD ia 0)) (ia+1) ib:=by
 obtain⟨h1,h2,h3⟩:=h;rw[tU a hi] at h1 h2;refine⟨by simpa using h1,by simpa using h2,?_⟩;unfold Sd at h2 h3 ⊢;rw[OO,Nj];rw[N9] at h2 h3 ⊢;refine⟨h2.1,Ql.mpr ⟨hl,h3.2.1⟩,λx hx y hy=>?_⟩;rcases ND.mp hy with rfl|hy
 .exact h2.2.2 x hx _ (Nu ..)
 .exact h3.2.2 x hx y hy
theorem PI.pb(h:PI r a b out ia ib)(hi:ib<b.size)(hl:∀x∈a.toList.drop ia,r (b.getD ib 0)<r x):PI r a b (out.push (b.getD ib 0)) ia (ib+1):=by
 obtain⟨h1,h2,h3⟩:=h;rw[tU b hi] at h1 h3;refine⟨?_,?_,by simpa using h3⟩
 .refine PD ?_ h1;simp only[OO,Nj,UB,QE];exact Ol _ (Q6.symm)
 unfold Sd at h2 h3 ⊢;rw[OO,Nj];rw[N9] at h2 h3 ⊢;refine⟨h2.1,Ql.mpr ⟨hl,h2.2.1⟩,λx hx y hy=>?_⟩;rcases ND.mp hy with rfl|hy
 .exact h3.2.2 x hx _ (Nu ..)
 .exact h2.2.2 x hx y hy
theorem PI.ea(h:PI r a b out ia ib)(hl:∀x∈(a.extract ia (ia+k)).toList,∀y∈b.toList.drop ib,r x<r y):PI r a b (out++a.extract ia (ia+k)) (ia+k) ib:=by
 obtain⟨h1,h2,h3⟩:=h;rw[yc a (i:=ia) (k:=k)] at h1 h2;refine⟨by rw[NW];simpa only[Nj] using h1,by rw[NW];simpa only[Nj] using h2,?_⟩;unfold Sd at h2 h3 ⊢;rw[NW,Nj];rw[N9] at h2 h3 ⊢;refine⟨h2.1,N9.mpr ⟨(N9.mp h2.2.1).1,h3.2.1,hl⟩,λx hx y hy=>?_⟩;rcases Nv.mp hy with hy|hy
 .exact h2.2.2 x hx _ (NF _ hy)
 .exact h3.2.2 x hx y hy
theorem PI.eb(h:PI r a b out ia ib)(hl:∀x∈(b.extract ib (ib+k)).toList,∀y∈a.toList.drop ia,r x<r y):PI r a b (out++b.extract ib (ib+k)) ia (ib+k):=by
 obtain⟨h1,h2,h3⟩:=h;rw[yc b (i:=ib) (k:=k)] at h1 h3;refine⟨?_,?_,by rw[NW];simpa only[Nj] using h3⟩
 .refine PD ?_ h1;rw[NW];simp only[Nj];refine Ol _ ?_;rw[<-Nj,<-Nj];exact List.Perm.append_right _ Oz
 unfold Sd at h2 h3 ⊢;rw[NW,Nj];rw[N9] at h2 h3 ⊢;refine⟨h2.1,N9.mpr ⟨(N9.mp h3.2.1).1,h2.2.1,hl⟩,λx hx y hy=>?_⟩;rcases Nv.mp hy with hy|hy
 .exact h3.2.2 x hx _ (NF _ hy)
 .exact h2.2.2 x hx y hy
theorem jb(a:Array Nat)(i:Nat):(a.extract i a.size).toList=a.toList.drop i:=by rw[Pm,ON,PL (by simp)]
def qC(r:Nat->Nat)(a b m:Array Nat):Prop:=m.toList.Perm (a.toList++b.toList)/\Sd r m.toList
theorem PI.d(h:PI r a b out ia ib)(he:ia=a.size\/ib=b.size):qC r a b (og a b out ia ib):=by
 obtain⟨h1,h2,h3⟩:=h;unfold qC og;rw[NW,NW,jb,jb,Nj];refine⟨h1,?_⟩;rcases he with rfl|rfl
 .rw[Tt (by simp:a.toList.length<=a.size),QE];exact h3
 .rw[Tt (by simp:b.toList.length<=b.size),Oo];exact h2
theorem PI.l(h:PI r a b out ia ib)(m:MH r a b)(he:ia+1=a.size):qC r a b (vj a b out ia ib):=by
 obtain⟨h1,h2,h3⟩:=h;unfold qC vj;rw[NW,NW,jb,jb];refine⟨by rw[Nj];exact(Ol _ Oz).trans h1,?_⟩;have hl:∀y∈b.toList.drop ib,∀x∈a.toList.drop ia,r y<r x:=λy hy x hx=>by have:=m.la y (List.mem_of_mem_drop hy);obtain⟨j,Y,Z,rfl⟩:=jX hx;rwa[show a.size-1=j by lia] at this
 unfold Sd at h2 h3 ⊢;rw[N9] at h2 ⊢;refine⟨h3,h2.2.1,λx hx y hy=>?_⟩;rcases Nv.mp hx with hx|hx
 .exact h2.2.2 x hx y hy
 .exact hl x hx y hy
end
theorem bD(c:Cc f n)(q:Array Nat):(c.ar q).size=q.size:=Rz
theorem dz(c:Cc f n)(q:Array Nat)(i:Nat):(c.ar q).push (kas_item c.it i)=c.ar (q.push i):=(Array.map_push).symm
theorem cK(c:Cc f n)(q r:Array Nat):c.ar q++c.ar r=c.ar (q++r):=(Array.map_append).symm
theorem cw(c:Cc f n)(q:Array Nat)(i j:Nat):(c.ar q).extract i j=c.ar (q.extract i j):=by unfold Cc.ar;simp
theorem uM(c:Cc f n)(a b q:Array Nat)(i j:Nat):og (c.ar a) (c.ar b) (c.ar q) i j=c.ar (og a b q i j):=by unfold og;rw[bD,bD,cw,cw,cK,cK]
theorem zW(c:Cc f n)(a b q:Array Nat)(i j:Nat):vj (c.ar a) (c.ar b) (c.ar q) i j=c.ar (vj a b q i j):=by unfold vj;rw[bD,bD,cw,cw,cK,cK]
def eO{B:Type}(b:Option (Array Nat)×Array Nat×B)(c:Cc f n):Option (Array Keyed)×Array Keyed×B:=(b.1.map c.ar,c.ar b.2.1,b.2.2)
def Ks(Y Z':aQ):Prop:=Z'.p=Y.p/\Z'.pend=Y.pend
def Sn(r:Nat->Nat)(a b:Array Nat)(k:Nat)(o:Option (Array Nat))(out:Array Nat)(ia ib:Nat):Prop:=o=none/\PI r a b out ia ib/\ia+1<a.size/\ib<b.size/\k<=ia+ib
def Sr(r:Nat->Nat)(a b:Array Nat)(k:Nat)(o:Option (Array Nat))(out:Array Nat)(ia ib:Nat):Prop:=Sn r a b k o out ia ib\/∃m,o=some m/\qC r a b m
noncomputable abbrev NG:=Option (Array Nat)×Array Nat×Nat×Nat×Nat×Nat×Nat
def GI(r:Nat->Nat)(a b:Array Nat)(k:Nat)(Y:aQ)(x:NG)(Z':aQ):Prop:=Sn r a b k x.1 x.2.1 x.2.2.1 x.2.2.2.1/\Ks Y Z'
def GD(r:Nat->Nat)(a b:Array Nat)(k:Nat)(Y:aQ)(x:NG)(Z':aQ):Prop:=Sr r a b k x.1 x.2.1 x.2.2.1 x.2.2.2.1/\Ks Y Z'
section
variable{a b out:Array Nat}{ia ib k mg ac bc:Nat}{σ0:aQ}
theorem iA(h:¬(x==y)=true):x≠y:=by simpa using h
theorem bq(h:(x==y)=true):x=y:=by simpa using h
theorem MH.ab(m:MH r a b){ib:Nat}(hb:ib<b.size)(h:v<Ra r b ib):∀y∈b.toList.drop ib,v<r y:=λy hy=>by obtain⟨j,Y,Z,rfl⟩:=jX hy;exact Nn h (m.sb.le Y Z)
theorem MH.aa(m:MH r a b){ia:Nat}(h:v<Ra r a ia):∀y∈a.toList.drop ia,v<r y:=λy hy=>by obtain⟨j,Y,Z,rfl⟩:=jX hy;exact Nn h (m.sa.le Y Z)
theorem MH.ne(m:MH r a b)(hi:i<a.size)(v:j<b.size):Ra r a i≠Ra r b j:=m.dj _ (p4 a hi) _ (p4 b v)
theorem tL(m:MH r a b)(ks:Ks σ0 Y)(h:PI r a b out ia ib)(ha:ia+1<a.size)(hb:ib<b.size)(hk:k<=ia+ib)(hl:Ra r a ia<Ra r b ib):ai (λc:Cc f n=>Kf (c.ar a) (c.ar b) mg ac bc (c.ar out) ia ib) (pI eO) Y (Lp (GI r a b k σ0) (GD r a b k σ0)):=by
 unfold Kf;simp only[bD];refine ai.elem (by lia) ?_;simp only[dz,uM,zW];have p:=h.pa (by lia) (m.ab hb hl);refine ai.ite (λhe=>?_) λhe=>?_
 .exact ai.dn (some (vj a b (out.push (a.getD ia 0)) (ia+1) ib),out.push (a.getD ia 0),ia+1,ib,mg,ac,bc) ⟨.inr ⟨_,rfl,p.l m (bq he)⟩,ks⟩ λ_=>rfl
 have he:ia+1+1≠a.size:=iA he;have s:Sn r a b k none (out.push (a.getD ia 0)) (ia+1) ib:=⟨rfl,p,by lia,hb,by lia⟩
 refine ai.ite (λ_=>?_) λ_=>?_
 .exact ai.dn (none,out.push (a.getD ia 0),ia+1,ib,mg,ac,bc) ⟨.inl s,ks⟩ λ_=>rfl
 .exact ai.iX (none,out.push (a.getD ia 0),ia+1,ib,mg,ac,bc) ⟨s,ks⟩ λ_=>rfl
theorem Eh{kx:Nat}{q:Array Nat}(h:Bv r true kx q base i=true):Ra r q (base+i)<r kx:=by unfold Bv at h;rw[if_pos rfl] at h;exact of_decide_eq_true h
theorem wC{kx:Nat}{q:Array Nat}(h:Bv r true kx q base i=false):r kx<=Ra r q (base+i):=by unfold Bv at h;rw[if_pos rfl] at h;exact P9 (of_decide_eq_false h)
theorem EF{kx:Nat}{q:Array Nat}(h:Bv r false kx q base i=true):Ra r q (base+i)<=r kx:=by unfold Bv at h;rw[if_neg (by decide),NX] at h;exact P9 (of_decide_eq_false h)
theorem xD{kx:Nat}{q:Array Nat}(h:Bv r false kx q base i=false):r kx<Ra r q (base+i):=by unfold Bv at h;rw[if_neg (by decide),Bool.not_eq_false'] at h;exact of_decide_eq_true h
theorem tI(o:Od f n r)(m:MH r a b)(X:Qn n a)(Z:Qn n b)(ks:Ks σ0 Y)(h:PI r a b out ia ib)(ha:ia+1<a.size)(hb:ib<b.size)(hk:k<=ia+ib)(hl:Ra r b ib<Ra r a ia):ai (λc:Cc f n=>J2 (c.ar a) (c.ar b) mg ac bc (c.ar out) ia ib) (pI eO) Y (Lp (GI r a b k σ0) (GD r a b k σ0)):=by
 unfold J2;simp only[bD];refine ai.elem hb ?_;simp only[dz,uM,cw,cK];have p:=h.pb hb (m.aa hl);refine ai.ite (λhe=>?_) λhe=>ai.elem (by lia) (ai.bind (fN o (X _ (by lia)) Z (by lia) (by have:=iA he;lia) (m.sb.sg (by lia))) ?_)
 .exact ai.dn (some (og a b (out.push (b.getD ib 0)) ia (ib+1)),out.push (b.getD ib 0),ia,ib+1,mg,ac,bc) ⟨.inr ⟨_,rfl,p.d (.inr (bq he))⟩,ks⟩ λ_=>rfl
 have he:ib+1≠b.size:=iA he;rintro _ Z' ⟨rfl,x,rfl,hx,g,N⟩;dsimp only;have q:PI r a b (out.push (b.getD ib 0)++b.extract (ib+1) (ib+1+x)) ia (ib+1+x):=p.eb λz hz y hy=>by obtain⟨j,Q,l,rfl⟩:=tM hz;exact m.aa (v:=r (b.getD (ib+1+j) 0)) (Eh (g j Q):Ra r b (ib+1+j)<r (a.getD ia 0)) y hy
 have hn:ib+1+x<b.size->Ra r a ia<Ra r b (ib+1+x):=λh=>by have s:r (a.getD ia 0)<=_:=wC (N x (Nr _) (by lia));have T:=m.ne (i:=ia) (j:=ib+1+x) (by lia) h;unfold Ra at *;lia
 refine ai.ite (λ_=>ai.ite (λe=>?_) λH=>tL m ks q ha (by have:=iA H;lia) (by lia) (hn (by have:=iA H;lia))) λw=>tL m ks p ha (by lia) (by lia) ?_
 .exact ai.dn (some (og a b (out.push (b.getD ib 0)++b.extract (ib+1) (ib+1+x)) ia (ib+1+x)),out.push (b.getD ib 0)++b.extract (ib+1) (ib+1+x),ia,ib+1+x,mg,ac,x) ⟨.inr ⟨_,rfl,q.d (.inr (bq e))⟩,ks⟩ λ_=>rfl
 .have w:x=0:=by lia
  subst w;exact hn (by lia)
theorem ai.su{g:Nat}{k:Unit->Cc f n->StateT SortSt Sem γ}{e':δ->Cc f n->γ}{P':δ->aQ->Prop}(h:ai (λc=>k () c) e' ⟨Y.p,Y.pend,g⟩ P'):ai (λc=>jx g >>= λa=>k a c) e' Y P':=
 ai.mod (g:=λ_ s=>Qg (kindOf s) (arrOf s) (pendingOf s) g (failedOf s)) (Z':=⟨Y.p,Y.pend,g⟩) (λ_=>rfl) h
theorem sA(o:Od f n r)(m:MH r a b)(X:Qn n a)(Z:Qn n b)(ks:Ks σ0 Y)(h:PI r a b out ia ib)(ha:ia+1<a.size)(hb:ib<b.size)(hk:k<=ia+ib):ai (λc:Cc f n=>J4 (c.ar a) (c.ar b) ac bc (c.ar out) ia ib mg) (pI eO) Y (Lp (GI r a b k σ0) (GD r a b k σ0)):=by
 unfold J4;simp only[bD,uM,zW,cw,cK];refine ai.su (ai.elem hb (ai.bind (fN o (Z _ hb) X (by lia) (by lia) (m.sa.sg (by lia))) ?_));rintro _ Z' ⟨rfl,x,rfl,hx,g,N⟩;dsimp only;have q:PI r a b (out++a.extract ia (ia+x)) (ia+x) ib:=h.ea λz hz y hy=>by obtain⟨j,Q,B,rfl⟩:=tM hz;refine m.ab (v:=r (a.getD (ia+j) 0)) hb ?_ y hy;have s:Ra r a (ia+j)<=r (b.getD ib 0):=EF (g j Q);have T:=m.ne (i:=ia+j) (j:=ib) B hb;unfold Ra at *;lia
 have hn:ia+x<a.size->Ra r b ib<Ra r a (ia+x):=λh=>xD (N x (Nr _) (by lia));refine ai.ite (λ_=>ai.ite (λe=>?_) λp=>ai.ite (λe=>?_) λH=>?_) λw=>tI o m X Z ks h ha hb hk ?_
 .exact ai.dn (some (vj a b (out++a.extract ia (ia+x)) (ia+x) ib),out++a.extract ia (ia+x),ia+x,ib,mg,x,bc) ⟨.inr ⟨_,rfl,q.l m (bq e)⟩,ks⟩ λ_=>rfl
 .exact ai.dn (some (og a b (out++a.extract ia (ia+x)) (ia+x) ib),out++a.extract ia (ia+x),ia+x,ib,mg,x,bc) ⟨.inr ⟨_,rfl,q.d (.inl (bq e))⟩,ks⟩ λ_=>rfl
 .have p:ia+x+1≠a.size:=iA p;have H:ia+x≠a.size:=iA H;exact tI o m X Z ks q (by lia) hb (by lia) (hn (by lia))
 .have w:x=0:=by lia
  subst w;exact hn (by lia)
end
noncomputable abbrev NI:=Option (Array Nat)×Array Nat×Nat×Nat×Nat×Nat
noncomputable abbrev NO:=Option (Array Nat)×Array Nat×Nat×Nat×Nat
section
variable{a b out:Array Nat}{ia ib k mg ac bc nD:Nat}{σ0:aQ}
def II(r:Nat->Nat)(a b:Array Nat)(k:Nat)(Y:aQ)(x:NI)(Z':aQ):Prop:=Sn r a b k x.1 x.2.1 x.2.2.1 x.2.2.2.1/\Z'=Y
def ID(r:Nat->Nat)(a b:Array Nat)(k:Nat)(Y:aQ)(x:NI)(Z':aQ):Prop:=Sr r a b k x.1 x.2.1 x.2.2.1 x.2.2.2.1/\Z'=Y
theorem AM(o:Od f n r)(m:MH r a b)(X:Qn n a)(Z:Qn n b)(h:PI r a b out ia ib)(ha:ia+1<a.size)(hb:ib<b.size)(hk:k<=ia+ib):ai (λc:Cc f n=>LG (c.ar a) (c.ar b) mg (c.ar out) ia ib ac bc) (pI eO) Y (Lp (II r a b (k+1) Y) (ID r a b (k+1) Y)):=by
 unfold LG;simp only[bD,uM];refine ai.elem hb (ai.elem (by lia) (ai.lt (Z _ hb) (X _ (by lia)) ?_));dsimp only;rw[o.lt _ _ (Z _ hb) (X _ (by lia))];refine ai.ite (λe=>ai.elem hb ?_) λe=>ai.elem (by lia) ?_
 .simp only[dz,uM];have p:=h.pb hb (m.aa (of_decide_eq_true e));refine ai.ite (λhe=>?_) λhe=>?_
  .exact ai.dn (some (og a b (out.push (b.getD ib 0)) ia (ib+1)),out.push (b.getD ib 0),ia,ib+1,0,bc+1) ⟨.inr ⟨_,rfl,p.d (.inr (bq he))⟩,rfl⟩ λ_=>rfl
  have s:Sn r a b (k+1) none (out.push (b.getD ib 0)) ia (ib+1):=⟨rfl,p,ha,by have:=iA he;lia,by lia⟩
  refine ai.ite (λ_=>?_) λ_=>?_
  .exact ai.dn (none,out.push (b.getD ib 0),ia,ib+1,0,bc+1) ⟨.inl s,rfl⟩ λ_=>rfl
  .exact ai.iX (none,out.push (b.getD ib 0),ia,ib+1,0,bc+1) ⟨s,rfl⟩ λ_=>rfl
 .simp only[dz,zW];have F:Ra r a ia<Ra r b ib:=by have x:¬ r (b.getD ib 0)<r (a.getD ia 0):=λz=>e (decide_eq_true z);have T:=m.ne (i:=ia) (j:=ib) (by lia) hb;unfold Ra at *;lia
  have p:=h.pa (by lia) (m.ab hb F);refine ai.ite (λhe=>?_) λhe=>?_
  .exact ai.dn (some (vj a b (out.push (a.getD ia 0)) (ia+1) ib),out.push (a.getD ia 0),ia+1,ib,ac+1,0) ⟨.inr ⟨_,rfl,p.l m (bq he)⟩,rfl⟩ λ_=>rfl
  have s:Sn r a b (k+1) none (out.push (a.getD ia 0)) (ia+1) ib:=⟨rfl,p,by have:=iA he;lia,hb,by lia⟩
  refine ai.ite (λ_=>?_) λ_=>?_
  .exact ai.dn (none,out.push (a.getD ia 0),ia+1,ib,ac+1,0) ⟨.inl s,rfl⟩ λ_=>rfl
  .exact ai.iX (none,out.push (a.getD ia 0),ia+1,ib,ac+1,0) ⟨s,rfl⟩ λ_=>rfl
theorem Sn.mono{o:Option (Array Nat)}(h:Sn r a b k o out ia ib)(hk:k'<=k):Sn r a b k' o out ia ib:=⟨h.1,h.2.1,h.2.2.1,h.2.2.2.1,N5 hk h.2.2.2.2⟩
def OI(r:Nat->Nat)(a b:Array Nat)(k:Nat)(Y:aQ)(x:NO)(Z':aQ):Prop:=Sn r a b k x.1 x.2.1 x.2.2.1 x.2.2.2.1/\Ks Y Z'
def OD(r:Nat->Nat)(a b:Array Nat)(Y:aQ)(x:NO)(Z':aQ):Prop:=(∃m,x.1=some m/\qC r a b m)/\Ks Y Z'
theorem B8(o:Od f n r)(m:MH r a b)(X:Qn n a)(Z:Qn n b)(ht:1<=nD)(ks:Ks σ0 Y)(h:PI r a b out ia ib)(ha:ia+1<a.size)(hb:ib<b.size)(hk:k<=ia+ib):ai (λc:Cc f n=>Ki (c.ar a) (c.ar b) nD (c.ar out) ia ib mg) (pI eO) Y (Lp (OI r a b (k+1) σ0) (OD r a b σ0)):=by
 unfold Ki;refine ai.bind (ai.qq eO (λi x Z'=>II r a b (k+i) Y x Z') (D:=ID r a b (k+1) Y) (none,out,ia,ib,0,0) (λ_=>rfl) ⟨⟨rfl,h,ha,hb,hk⟩,rfl⟩ ?_ ?_) ?_
 .rintro x Z' ⟨s,rfl⟩;exact⟨.inl (s.mono (by lia)),rfl⟩
 .rintro i ⟨w,out,ia,ib,ac,bc⟩ Z' hi ⟨⟨y,p,h1,h2,h3⟩,rfl⟩;refine ai.mono (AM o m X Z p h1 h2 h3) ?_;rintro(x|x) Z' h
  .exact⟨h.1.imp (λs=>s.mono (by lia)) id,h.2⟩
  .exact h
 .rintro⟨w,out,ia,ib,ac,bc⟩ Z' ⟨s,rfl⟩;rcases s with ⟨y,p,h1,h2,h3⟩|⟨q,y,t⟩
  .dsimp only at y;subst y;refine ai.rule ?_;refine ai.bind (ai.qq eO (λi x Z'=>GI r a b (k+1) σ0 x Z') (D:=GD r a b (k+1) σ0) (none,out,ia,ib,mg+1,ac,bc) (λ_=>rfl) ⟨⟨rfl,p,h1,h2,h3⟩,ks⟩ (λ_ _ h=>⟨.inl h.1,h.2⟩) ?_) ?_
   .rintro i ⟨w,out,ia,ib,mg,ac,bc⟩ Z' hi ⟨⟨y,p,h1,h2,h3⟩,ks⟩;dsimp only [eO];refine ai.ite (q:=mg > 1) (λ_=>?_) λ_=>?_
    .exact sA o m X Z ks p h1 h2 h3
    .exact sA o m X Z ks p h1 h2 h3
   .rintro⟨w,out,ia,ib,mg,ac,bc⟩ Z' ⟨s,ks⟩;rcases s with ⟨y,p,h1,h2,h3⟩|⟨q,y,t⟩
    .dsimp only at y;subst y;dsimp only [eO,Qt];refine ai.su ?_;exact ai.iX (none,out,ia,ib,mg+1) ⟨⟨rfl,p,h1,h2,h3⟩,ks⟩ λ_=>rfl
    .dsimp only at y;subst y;exact ai.dn (some q,out,ia,ib,mg) ⟨⟨q,rfl,t⟩,ks⟩ λ_=>rfl
  .dsimp only at y;subst y;exact ai.dn (some q,out,ia,ib,mg) ⟨⟨q,rfl,t⟩,ks⟩ λ_=>rfl
theorem BA(o:Od f n r)(m:MH r a b)(X:Qn n a)(Z:Qn n b)(ha:1<=a.size)(hb:1<=b.size):ai (λc:Cc f n=>gP (c.ar a) (c.ar b)) (λq c=>c.ar q) Y (λq Z'=>qC r a b q/\Ks Y Z'):=by
 simp only[pB,bD];refine ai.rule (ai.elem (by lia) ?_);have h:PI r a b #[] 0 0:=⟨by simp,by simpa using m.sa,by simpa using m.sb⟩
 have p:PI r a b #[b.getD 0 0] 0 1:=h.pb (by lia) (by simpa using m.fb);have E:∀c:Cc f n,#[kas_item c.it (b.getD 0 0)]=c.ar #[b.getD 0 0]:=λc=>by unfold Cc.ar;simp
 simp only[E,uM,zW];refine ai.ite (λe=>?_) λG=>ai.ite (λe=>?_) λF=>ai.get ?_
 .exact ai.pure _ ⟨p.d (.inr (bq e)),rfl,rfl⟩ λ_=>rfl
 .exact ai.pure _ ⟨p.l m (bq e),rfl,rfl⟩ λ_=>rfl
 have G:=iA G;have F:=iA F;refine ai.bind (ai.qq eO (λi x Z'=>OI r a b (1+i) Y x Z') (D:=OD r a b Y) (none,#[b.getD 0 0],0,1,Y.mg) (λ_=>rfl) ⟨⟨rfl,p,(by lia:0+1<a.size),(by lia:1<b.size),(by lia:1+0<=0+1)⟩,rfl,rfl⟩ ?_ ?_) ?_
 .rintro x Z' ⟨⟨s,p,h1,h2,h3⟩,ks⟩;lia
 .rintro i ⟨w,out,ia,ib,mg⟩ Z' hi ⟨⟨s,p,h1,h2,h3⟩,ks⟩;exact B8 o m X Z (by lia) ks p h1 h2 h3
 .rintro⟨w,out,ia,ib,mg⟩ Z' ⟨⟨q,s,t⟩,ks⟩;dsimp only at s;subst s;exact ai.pure q ⟨t,ks⟩ λ_=>rfl
end
noncomputable def gG:Array Keyed->Array Keyed->SM (Array Keyed):=sortPriv% PySem.Builtin.mergeHi
noncomputable abbrev HL:=Option (Array Keyed)×Nat×Nat×Array Keyed×Nat
noncomputable abbrev HI:=Option (Array Keyed)×Nat×Nat×Array Keyed×Nat×Nat
noncomputable abbrev HG:=Option (Array Keyed)×Nat×Nat×Array Keyed×Nat×Nat×Nat
noncomputable def oO{α:Type}(a b out:Array α)(na nb:Nat):Array α:=a.extract 0 na++b.extract 0 nb++out.reverse
noncomputable def vo{α:Type}(a b out:Array α)(na nb:Nat):Array α:=b.extract 0 nb++a.extract 0 na++out.reverse
section
variable(a b:Array Keyed)
def KY(mg na nb:Nat)(out:Array Keyed)(q z:Nat):SM (ForInStep HI):=do
 let y <- elem' b (nb-1)
 let x <- elem' a (na-1)
 let r <- lt' y x
 match r with
 | some w=>(if w=true then (do
   let x <- elem' a (na-1)
   if (na-1==0)=true then pure (.done (some (oO a b (out.push x) (na-1) nb),na-1,nb,out.push x,q+1,0)) else
    if q+1≥mg then pure (.done (none,na-1,nb,out.push x,q+1,0)) else pure (.yield (none,na-1,nb,out.push x,q+1,0)))
  else (do
   let y <- elem' b (nb-1)
   if (nb-1==1)=true then pure (.done (some (vo a b (out.push y) na (nb-1)),na,nb-1,out.push y,0,z+1)) else
    if z+1≥mg then pure (.done (none,na,nb-1,out.push y,0,z+1)) else pure (.yield (none,na,nb-1,out.push y,0,z+1))):SM (ForInStep HI))
 |_=>pure (.done (some (oO a b out na nb),na,nb,out,q,z))
def J3(mg q z na nb:Nat)(out:Array Keyed):SM (ForInStep HG):=do
 let x <- elem' a (na-1)
 if (na-1==0)=true then pure (.done (some (oO a b (out.push x) (na-1) nb),na-1,nb,out.push x,mg,q,z)) else
  if (decide (q<7)&&decide (z<7))=true then pure (.done (none,na-1,nb,out.push x,mg,q,z)) else pure (.yield (none,na-1,nb,out.push x,mg,q,z))
def Kb(mg q z na nb:Nat)(out:Array Keyed):SM (ForInStep HG):=do
 let y <- elem' b (nb-1)
 if (nb-1==1)=true then pure (.done (some (vo a b (out.push y) na (nb-1)),na,nb-1,out.push y,mg,q,z)) else do
  let x <- elem' a (na-1)
  let r <- cz true x b 0 (nb-1) (nb-1-1)
  match r with
  | some k=>(if nb-1-k > 0 then
    if (k==1)=true then pure (.done (some (vo a b (out.push y++(b.extract k (nb-1)).reverse) na k),na,k,out.push y++(b.extract k (nb-1)).reverse,mg,q,nb-1-k))
    else if (k==0)=true then pure (.done (some (oO a b (out.push y++(b.extract k (nb-1)).reverse) na k),na,k,out.push y++(b.extract k (nb-1)).reverse,mg,q,nb-1-k))
    else J3 a b mg q (nb-1-k) na k (out.push y++(b.extract k (nb-1)).reverse)
   else J3 a b mg q (nb-1-k) na (nb-1) (out.push y):SM (ForInStep HG))
  |_=>pure (.done (some (oO a b (out.push y) na (nb-1)),na,nb-1,out.push y,mg,q,z))
def Kj(q z na nb:Nat)(out:Array Keyed)(mg:Nat):SM (ForInStep HG):=do
 jx mg
 let y <- elem' b (nb-1)
 let r <- cz false y a 0 na (na-1)
 match r with
 | some k=>(if na-k > 0 then
   if (k==0)=true then pure (.done (some (oO a b (out++(a.extract k na).reverse) k nb),k,nb,out++(a.extract k na).reverse,mg,na-k,z))
   else Kb a b mg (na-k) z k nb (out++(a.extract k na).reverse)
  else Kb a b mg (na-k) z na nb out:SM (ForInStep HG))
 |_=>pure (.done (some (oO a b out na nb),na,nb,out,mg,q,z))
def Kh(nD na nb:Nat)(out:Array Keyed)(mg:Nat):SM (ForInStep HL):=do
 let s <- forIn [:nD] ((none,na,nb,out,0,0):HI) λ_ s=>KY a b mg s.2.1 s.2.2.1 s.2.2.2.1 s.2.2.2.2.1 s.2.2.2.2.2
 match s.1 with
 |some r=>pure (.done (some r,s.2.1,s.2.2.1,s.2.2.2.1,mg))
 | none=>do
  liftM (rule "list.sort.gallop")
  let s <- forIn [:nD] ((none,s.2.1,s.2.2.1,s.2.2.2.1,mg+1,s.2.2.2.2.1,s.2.2.2.2.2):HG) λ_ s=>if s.2.2.2.2.1 > 1 then Kj a b s.2.2.2.2.2.1 s.2.2.2.2.2.2 s.2.1 s.2.2.1 s.2.2.2.1 (s.2.2.2.2.1-1) else Kj a b s.2.2.2.2.2.1 s.2.2.2.2.2.2 s.2.1 s.2.2.1 s.2.2.2.1 s.2.2.2.2.1
  match s.1 with
  |some r=>pure (.done (some r,s.2.1,s.2.2.1,s.2.2.2.1,s.2.2.2.2.1))
  | none=>do
   jx (s.2.2.2.2.1+1)
   pure (.yield (none,s.2.1,s.2.2.1,s.2.2.2.1,s.2.2.2.2.1+1))
theorem pj:gG a b=(do
  liftM (rule "list.sort.merge-hi")
  let x <- elem' a (a.size-1)
  if (a.size-1==0)=true then pure (oO a b #[x] (a.size-1) b.size) else if (b.size==1)=true then pure (vo a b #[x] (a.size-1) b.size) else do
   let st <- get
   let s <- forIn [:a.size+b.size] ((none,a.size-1,b.size,#[x],gallopOf st):HL) λ_ s=>Kh a b (a.size+b.size) s.2.1 s.2.2.1 s.2.2.2.1 s.2.2.2.2
   match s.1 with
   |some r=>pure r
   | none=>liftM (unsupported "internal:list.sort.merge-bound" : Sem (Array Keyed))):=by
 unfold gG;refine congrArg _ (funext λ_=>congrArg (bind (elem' a (a.size-1))) (funext λy=>?_));dsimp only
 congr 1
 congr 1
 congr 1
 funext st
 congr 1
 .congr 1
  funext _ ⟨r,na,nb,out,mg⟩
  unfold Kh;dsimp only
  congr 1
  funext ⟨r,na,nb,out,ac,bc⟩
  cases r with
  |some r=>rfl
  |none=>
   dsimp only
   congr 1
   funext _
   congr 1
   funext ⟨r,na,nb,out,mg,ac,bc⟩
   cases r<;>rfl
 .funext ⟨r,na,nb,out,mg⟩
  cases r<;>rfl
end
section
variable{a b out:Array Nat}{na nb k mg ac bc nD:Nat}{σ0:aQ}
structure PH(r:Nat->Nat)(a b out:Array Nat)(na nb:Nat):Prop where
 pm:(a.toList.take na++(b.toList.take nb++out.toList)).Perm (a.toList++b.toList)
 oa:Sd r (a.toList.take na++out.toList.reverse)
 ob:Sd r (b.toList.take nb++out.toList.reverse)
theorem sR(a:Array Nat)(h:i-1<a.size)(w:1<=i):a.toList.take i=a.toList.take (i-1)++[a.getD (i-1) 0]:=by
 obtain⟨j,rfl⟩:∃j,i=j+1:=⟨i-1,by lia⟩
 rw[Nat.add_sub_cancel] at h ⊢;rw[R1 (by simpa using h)]
 congr 2
 simp[Ox,h]
theorem nW(a:Array Nat)(h:i<=j):a.toList.take j=a.toList.take i++(a.extract i j).toList:=by
 rw[Pm,ON];obtain⟨d,rfl⟩:∃d,j=i+d:=⟨j-i,by lia⟩
 rw[PB,U8]
theorem kg{a:Array Nat}(h:x∈a.toList.take i):∃j,j<i/\j<a.size/\x=a.getD j 0:=by
 obtain⟨j,v,e⟩:=Pc h;have I:j<min i a.size:=by simpa using v
 have I:j<i/\j<a.size:=by lia
 exact⟨j,I.1,I.2,by rw[<-e];simp[Ox,I.2]⟩
theorem cG{a:Array Nat}(h:x∈(a.extract i k).toList):∃j,i<=j/\j<k/\j<a.size/\x=a.getD j 0:=by
 obtain⟨j,v,e⟩:=Pc h;have I:j<min (k-i) (a.size-i):=by simpa using v
 have h2:i+j<a.size:=by lia
 exact⟨i+j,by lia,by lia,h2,by rw[<-e];simp[Ox,h2]⟩
theorem Sd.ins{l m:List Nat}(h:Sd r (l++m))(h1:∀y∈l,r y<r x)(h2:∀y∈m,r x<r y):Sd r (l++x::m):=by
 unfold Sd at *;rw[N9] at h ⊢;refine⟨h.1,Ql.mpr ⟨h2,h.2.1⟩,λa ha b hb=>?_⟩;rcases ND.mp hb with rfl|hb
 .exact h1 a ha
 .exact h.2.2 a ha b hb
theorem Sd.Gf{l m x:List Nat}(h:Sd r (l++m))(hx:Sd r (x++m))(h1:∀y∈l,∀z∈x,r y<r z):Sd r (l++(x++m)):=by
 unfold Sd at *;have p:=N9.mp hx;rw[N9] at h ⊢;refine⟨h.1,hx,λa ha b hb=>?_⟩;rcases Nv.mp hb with hb|hb
 .exact h1 a ha b hb
 .exact h.2.2 a ha b hb
theorem PH.pb(h:PH r a b out na nb)(hi:nb-1<b.size)(w:1<=nb)(hl:∀y∈a.toList.take na,r y<r (b.getD (nb-1) 0)):PH r a b (out.push (b.getD (nb-1) 0)) na (nb-1):=by
 obtain⟨h1,h2,h3⟩:=h;rw[sR b hi w] at h1 h3;refine⟨?_,?_,?_⟩
 .refine PD (Ol _ ?_) h1;rw[OO,Nj];exact Ol _ Oz
 .rw[OO,OX];refine h2.ins hl λy hy=>?_;unfold Sd at h3;rw[Nj,N9] at h3;exact(Ql.mp h3.2.1).1 y hy
 .rw[OO,OX];simpa using h3
theorem PH.pa(h:PH r a b out na nb)(hi:na-1<a.size)(w:1<=na)(hl:∀y∈b.toList.take nb,r y<r (a.getD (na-1) 0)):PH r a b (out.push (a.getD (na-1) 0)) (na-1) nb:=by
 obtain⟨h1,h2,h3⟩:=h;rw[sR a hi w] at h1 h2;refine⟨?_,?_,?_⟩
 .refine PD ?_ h1;rw[OO,Nj];refine Ol _ ?_;rw[<-Nj];exact Oz
 .rw[OO,OX];simpa using h2
 .rw[OO,OX];refine h3.ins hl λy hy=>?_;unfold Sd at h2;rw[Nj,N9] at h2;exact(Ql.mp h2.2.1).1 y hy
theorem PH.eb(h:PH r a b out na nb)(hi:k<=nb)(hl:∀y∈a.toList.take na,∀x∈(b.extract k nb).toList,r y<r x):PH r a b (out++(b.extract k nb).reverse) na k:=by
 obtain⟨h1,h2,h3⟩:=h;rw[nW b hi] at h1 h3;refine⟨?_,?_,?_⟩
 .refine PD (Ol _ ?_) h1;rw[NW,OS,Nj];exact Ol _ (Oz.trans ((QW _).append_right _))
 .rw[NW,OS,OX,Qz];refine h2.Gf ?_ hl;unfold Sd at h3 ⊢;rw[Nj,N9] at h3;exact h3.2.1
 .rw[NW,OS,OX,Qz,<-Nj];exact h3
theorem PH.ea(h:PH r a b out na nb)(hi:k<=na)(hl:∀y∈b.toList.take nb,∀x∈(a.extract k na).toList,r y<r x):PH r a b (out++(a.extract k na).reverse) k nb:=by
 obtain⟨h1,h2,h3⟩:=h;rw[nW a hi] at h1 h2;refine⟨?_,?_,?_⟩
 .refine PD ?_ h1;rw[NW,OS,Nj];refine Ol _ ?_;rw[<-Nj];exact Oz.trans ((QW _).append_right _)
 .rw[NW,OS,OX,Qz,<-Nj];exact h2
 .rw[NW,OS,OX,Qz];refine h3.Gf ?_ hl;unfold Sd at h2 ⊢;rw[Nj,N9] at h2;exact h2.2.1
theorem tX(a:Array Nat)(i:Nat):(a.extract 0 i).toList=a.toList.take i:=by rw[Pm,ON];rfl
theorem PH.d(h:PH r a b out na nb)(he:na=0\/nb=0):qC r a b (oO a b out na nb):=by
 obtain⟨h1,h2,h3⟩:=h;unfold qC oO;rw[NW,NW,tX,tX,Nj,OS];refine⟨(Ol _ (Ol _ (QW _))).trans h1,?_⟩;rcases he with rfl|rfl
 .exact h3
 .exact h2
theorem PH.l(h:PH r a b out na nb)(m:MH r a b)(he:nb=1):qC r a b (vo a b out na nb):=by
 obtain⟨h1,h2,h3⟩:=h;unfold qC vo;rw[NW,NW,tX,tX,OS];refine⟨?_,?_⟩
 .refine PD ?_ h1;rw[<-Nj];exact Oz.append (QW _)
 .rw[Nj];refine h3.Gf h2 λy hy x hx=>?_;obtain⟨j,Y,Z,rfl⟩:=kg hy;rw[show j=0 by lia];exact m.fb x (TV hx)
end
theorem ny(c:Cc f n)(q:Array Nat):(c.ar q).reverse=c.ar q.reverse:=by unfold Cc.ar;simp
theorem lO(c:Cc f n)(a b q:Array Nat)(i j:Nat):oO (c.ar a) (c.ar b) (c.ar q) i j=c.ar (oO a b q i j):=by unfold oO;rw[cw,cw,ny,cK,cK]
theorem oN(c:Cc f n)(a b q:Array Nat)(i j:Nat):vo (c.ar a) (c.ar b) (c.ar q) i j=c.ar (vo a b q i j):=by unfold vo;rw[cw,cw,ny,cK,cK]
def eH{B:Type}(b:Option (Array Nat)×Nat×Nat×Array Nat×B)(c:Cc f n):Option (Array Keyed)×Nat×Nat×Array Keyed×B:=(b.1.map c.ar,b.2.1,b.2.2.1,c.ar b.2.2.2.1,b.2.2.2.2)
def Hn(r:Nat->Nat)(a b:Array Nat)(k:Nat)(o:Option (Array Nat))(na nb:Nat)(out:Array Nat):Prop:=o=none/\PH r a b out na nb/\1<=na/\na<=a.size/\2<=nb/\nb<=b.size/\na+nb+k<=a.size+b.size
def Hr(r:Nat->Nat)(a b:Array Nat)(k:Nat)(o:Option (Array Nat))(na nb:Nat)(out:Array Nat):Prop:=Hn r a b k o na nb out\/∃m,o=some m/\qC r a b m
noncomputable abbrev L5:=Option (Array Nat)×Nat×Nat×Array Nat×Nat×Nat×Nat
def KI(r:Nat->Nat)(a b:Array Nat)(k:Nat)(Y:aQ)(x:L5)(Z':aQ):Prop:=Hn r a b k x.1 x.2.1 x.2.2.1 x.2.2.2.1/\Ks Y Z'
def KD(r:Nat->Nat)(a b:Array Nat)(k:Nat)(Y:aQ)(x:L5)(Z':aQ):Prop:=Hr r a b k x.1 x.2.1 x.2.2.1 x.2.2.2.1/\Ks Y Z'
section
variable{a b out:Array Nat}{na nb k mg ac bc nD:Nat}{σ0:aQ}
theorem MH.tb(m:MH r a b)(hn:nb<=b.size)(h:Ra r b (nb-1)<v):∀y∈b.toList.take nb,r y<v:=λy hy=>by obtain⟨j,Y,Z,rfl⟩:=kg hy;exact O5 (m.sb.le (by lia) (by lia)) h
theorem MH.ta(m:MH r a b)(hn:na<=a.size)(h:Ra r a (na-1)<v):∀y∈a.toList.take na,r y<v:=λy hy=>by obtain⟨j,Y,Z,rfl⟩:=kg hy;exact O5 (m.sa.le (by lia) (by lia)) h
theorem t4(m:MH r a b)(ks:Ks σ0 Y)(h:Hn r a b k none na nb out)(hl:Ra r b (nb-1)<Ra r a (na-1)):ai (λc:Cc f n=>J3 (c.ar a) (c.ar b) mg ac bc na nb (c.ar out)) (pI eH) Y (Lp (KI r a b k σ0) (KD r a b k σ0)):=by
 obtain⟨-,h,h1,h2,h3,h4,h5⟩:=h;unfold J3;refine ai.elem (by lia) ?_;simp only[dz,lO,oN];have p:=h.pa (by lia) h1 (m.tb h4 hl);refine ai.ite (λhe=>?_) λhe=>?_
 .exact ai.dn (some (oO a b (out.push (a.getD (na-1) 0)) (na-1) nb),na-1,nb,out.push (a.getD (na-1) 0),mg,ac,bc) ⟨.inr ⟨_,rfl,p.d (.inl (bq he))⟩,ks⟩ λ_=>rfl
 have he:=iA he;have s:Hn r a b k none (na-1) nb (out.push (a.getD (na-1) 0)):=⟨rfl,p,by lia,by lia,h3,h4,by lia⟩
 refine ai.ite (λ_=>?_) λ_=>?_
 .exact ai.dn (none,na-1,nb,out.push (a.getD (na-1) 0),mg,ac,bc) ⟨.inl s,ks⟩ λ_=>rfl
 .exact ai.iX (none,na-1,nb,out.push (a.getD (na-1) 0),mg,ac,bc) ⟨s,ks⟩ λ_=>rfl
theorem tx(o:Od f n r)(m:MH r a b)(X:Qn n a)(P:Qn n b)(ks:Ks σ0 Y)(h:Hn r a b k none na nb out)(hl:Ra r a (na-1)<Ra r b (nb-1)):ai (λc:Cc f n=>Kb (c.ar a) (c.ar b) mg ac bc na nb (c.ar out)) (pI eH) Y (Lp (KI r a b k σ0) (KD r a b k σ0)):=by
 obtain⟨-,h,h1,h2,h3,h4,h5⟩:=h;unfold Kb;refine ai.elem (by lia) ?_;simp only[dz,lO,oN,cw,ny,cK];have p:=h.pb (by lia) (by lia) (m.ta h2 hl);refine ai.ite (λhe=>?_) λhe=>ai.elem (by lia) (ai.bind (fN o (X _ (by lia)) P (by lia) (by have:=iA he;lia) (m.sb.sg (by lia))) ?_)
 .exact ai.dn (some (vo a b (out.push (b.getD (nb-1) 0)) na (nb-1)),na,nb-1,out.push (b.getD (nb-1) 0),mg,ac,bc) ⟨.inr ⟨_,rfl,p.l m (bq he)⟩,ks⟩ λ_=>rfl
 have he:=iA he;rintro _ Z' ⟨rfl,x,rfl,hx,g,N⟩;dsimp only;have H:∀j,x<=j->j<nb-1->Ra r a (na-1)<Ra r b j:=λj Q Z=>by have s:r (a.getD (na-1) 0)<=_:=wC (N j Q Z);have T:=m.ne (i:=na-1) (j:=j) (by lia) (by lia);rw[Qb] at s;unfold Ra at *;lia
 have w:∀j,j<x->Ra r b j<Ra r a (na-1):=λj Q=>by have s:Ra r b (0+j)<r (a.getD (na-1) 0):=Eh (g j Q);rwa[Qb] at s
 have q:=p.eb (k:=x) hx λy hy z hz=>by obtain⟨j,Q,Z,U,rfl⟩:=cG hz;exact m.ta h2 (H j Q Z) y hy
 refine ai.ite (λ_=>ai.ite (λe=>?_) λF=>ai.ite (λe=>?_) λO=>t4 m ks ⟨rfl,q,h1,h2,by have:=iA F;have:=iA O;lia,by lia,by lia⟩ (w _ (by have:=iA O;lia))) λA=>t4 m ks ⟨rfl,p,h1,h2,by lia,by lia,by lia⟩ (w _ (by lia))
 .exact ai.dn (some (vo a b (out.push (b.getD (nb-1) 0)++(b.extract x (nb-1)).reverse) na x),na,x,out.push (b.getD (nb-1) 0)++(b.extract x (nb-1)).reverse,mg,ac,nb-1-x) ⟨.inr ⟨_,rfl,q.l m (bq e)⟩,ks⟩ λ_=>rfl
 .exact ai.dn (some (oO a b (out.push (b.getD (nb-1) 0)++(b.extract x (nb-1)).reverse) na x),na,x,out.push (b.getD (nb-1) 0)++(b.extract x (nb-1)).reverse,mg,ac,nb-1-x) ⟨.inr ⟨_,rfl,q.d (.inr (bq e))⟩,ks⟩ λ_=>rfl
theorem sW(o:Od f n r)(m:MH r a b)(X:Qn n a)(Z:Qn n b)(ks:Ks σ0 Y)(h:Hn r a b k none na nb out):ai (λc:Cc f n=>Kj (c.ar a) (c.ar b) ac bc na nb (c.ar out) mg) (pI eH) Y (Lp (KI r a b k σ0) (KD r a b k σ0)):=by
 have h':=h;obtain⟨-,h,h1,h2,h3,h4,h5⟩:=h;unfold Kj;simp only[lO,oN,cw,ny,cK];refine ai.su (ai.elem (by lia) (ai.bind (fN o (Z _ (by lia)) X (by lia) (by lia) (m.sa.sg (by lia))) ?_));rintro _ Z' ⟨rfl,x,rfl,hx,g,N⟩;dsimp only;have H:∀j,x<=j->j<na->Ra r b (nb-1)<Ra r a j:=λj Q l=>by have s:r (b.getD (nb-1) 0)<_:=xD (N j Q l);rwa[Qb] at s
 have w:∀j,j<x->Ra r a j<Ra r b (nb-1):=λj Q=>by have s:Ra r a (0+j)<=r (b.getD (nb-1) 0):=EF (g j Q);have T:=m.ne (i:=j) (j:=nb-1) (by lia) (by lia);rw[Qb] at s;unfold Ra at *;lia
 have q:=h.ea (k:=x) hx λy hy z hz=>by obtain⟨j,Q,l,U,rfl⟩:=cG hz;exact m.tb h4 (H j Q l) y hy
 refine ai.ite (λ_=>ai.ite (λe=>?_) λF=>?_) λA=>tx o m X Z ks h' (w _ (by lia))
 .exact ai.dn (some (oO a b (out++(a.extract x na).reverse) x nb),x,nb,out++(a.extract x na).reverse,mg,na-x,bc) ⟨.inr ⟨_,rfl,q.d (.inl (bq e))⟩,ks⟩ λ_=>rfl
 .exact tx o m X Z ks ⟨rfl,q,by have:=iA F;lia,by lia,h3,h4,by lia⟩ (w _ (by have:=iA F;lia))
noncomputable abbrev LU:=Option (Array Nat)×Nat×Nat×Array Nat×Nat×Nat
noncomputable abbrev Mr:=Option (Array Nat)×Nat×Nat×Array Nat×Nat
def L8(r:Nat->Nat)(a b:Array Nat)(k:Nat)(Y:aQ)(x:LU)(Z':aQ):Prop:=Hn r a b k x.1 x.2.1 x.2.2.1 x.2.2.2.1/\Z'=Y
def LY(r:Nat->Nat)(a b:Array Nat)(k:Nat)(Y:aQ)(x:LU)(Z':aQ):Prop:=Hr r a b k x.1 x.2.1 x.2.2.1 x.2.2.2.1/\Z'=Y
theorem Ad(o:Od f n r)(m:MH r a b)(X:Qn n a)(Z:Qn n b)(h:Hn r a b k none na nb out):ai (λc:Cc f n=>KY (c.ar a) (c.ar b) mg na nb (c.ar out) ac bc) (pI eH) Y (Lp (L8 r a b (k+1) Y) (LY r a b (k+1) Y)):=by
 obtain⟨-,h,h1,h2,h3,h4,h5⟩:=h;unfold KY;simp only[lO];refine ai.elem (by lia) (ai.elem (by lia) (ai.lt (Z _ (by lia)) (X _ (by lia)) ?_));dsimp only;rw[o.lt _ _ (Z _ (by lia)) (X _ (by lia))];refine ai.ite (λe=>ai.elem (by lia) ?_) λe=>ai.elem (by lia) ?_
 .simp only[dz,lO];have p:=h.pa (by lia) h1 (m.tb h4 (of_decide_eq_true e));refine ai.ite (λhe=>?_) λhe=>?_
  .exact ai.dn (some (oO a b (out.push (a.getD (na-1) 0)) (na-1) nb),na-1,nb,out.push (a.getD (na-1) 0),ac+1,0) ⟨.inr ⟨_,rfl,p.d (.inl (bq he))⟩,rfl⟩ λ_=>rfl
  have s:Hn r a b (k+1) none (na-1) nb (out.push (a.getD (na-1) 0)):=⟨rfl,p,by have:=iA he;lia,by lia,h3,h4,by lia⟩
  refine ai.ite (λ_=>?_) λ_=>?_
  .exact ai.dn (none,na-1,nb,out.push (a.getD (na-1) 0),ac+1,0) ⟨.inl s,rfl⟩ λ_=>rfl
  .exact ai.iX (none,na-1,nb,out.push (a.getD (na-1) 0),ac+1,0) ⟨s,rfl⟩ λ_=>rfl
 .simp only[dz,oN];have F:Ra r a (na-1)<Ra r b (nb-1):=by have x:¬ r (b.getD (nb-1) 0)<r (a.getD (na-1) 0):=λz=>e (decide_eq_true z);have T:=m.ne (i:=na-1) (j:=nb-1) (by lia) (by lia);unfold Ra at *;lia
  have p:=h.pb (by lia) (by lia) (m.ta h2 F);refine ai.ite (λhe=>?_) λhe=>?_
  .exact ai.dn (some (vo a b (out.push (b.getD (nb-1) 0)) na (nb-1)),na,nb-1,out.push (b.getD (nb-1) 0),0,bc+1) ⟨.inr ⟨_,rfl,p.l m (bq he)⟩,rfl⟩ λ_=>rfl
  have s:Hn r a b (k+1) none na (nb-1) (out.push (b.getD (nb-1) 0)):=⟨rfl,p,h1,h2,by have:=iA he;lia,by lia,by lia⟩
  refine ai.ite (λ_=>?_) λ_=>?_
  .exact ai.dn (none,na,nb-1,out.push (b.getD (nb-1) 0),0,bc+1) ⟨.inl s,rfl⟩ λ_=>rfl
  .exact ai.iX (none,na,nb-1,out.push (b.getD (nb-1) 0),0,bc+1) ⟨s,rfl⟩ λ_=>rfl
theorem Hn.mono{o:Option (Array Nat)}(h:Hn r a b k o na nb out)(hk:k'<=k):Hn r a b k' o na nb out:=⟨h.1,h.2.1,h.2.2.1,h.2.2.2.1,h.2.2.2.2.1,h.2.2.2.2.2.1,by have:=h.2.2.2.2.2.2;lia⟩
def Mv(r:Nat->Nat)(a b:Array Nat)(k:Nat)(Y:aQ)(x:Mr)(Z':aQ):Prop:=Hn r a b k x.1 x.2.1 x.2.2.1 x.2.2.2.1/\Ks Y Z'
def LX(r:Nat->Nat)(a b:Array Nat)(Y:aQ)(x:Mr)(Z':aQ):Prop:=(∃m,x.1=some m/\qC r a b m)/\Ks Y Z'
theorem B7(o:Od f n r)(m:MH r a b)(X:Qn n a)(Z:Qn n b)(ht:1<=nD)(ks:Ks σ0 Y)(h:Hn r a b k none na nb out):ai (λc:Cc f n=>Kh (c.ar a) (c.ar b) nD na nb (c.ar out) mg) (pI eH) Y (Lp (Mv r a b (k+1) σ0) (LX r a b σ0)):=by
 unfold Kh;refine ai.bind (ai.qq eH (λi x Z'=>L8 r a b (k+i) Y x Z') (D:=LY r a b (k+1) Y) (none,na,nb,out,0,0) (λ_=>rfl) ⟨h,rfl⟩ ?_ ?_) ?_
 .rintro x Z' ⟨s,rfl⟩;exact⟨.inl (s.mono (by lia)),rfl⟩
 .rintro i ⟨w,na,nb,out,ac,bc⟩ Z' hi ⟨s,rfl⟩;cases (show w=none from s.1);refine ai.mono (Ad o m X Z s) ?_;rintro(x|x) Z' h
  .exact⟨h.1.imp (λs=>s.mono (by lia)) id,h.2⟩
  .exact h
 .rintro⟨w,na,nb,out,ac,bc⟩ Z' ⟨s,rfl⟩;rcases s with s|⟨q,A,t⟩
  .cases (show w=none from s.1);refine ai.rule ?_;refine ai.bind (ai.qq eH (λi x Z'=>KI r a b (k+1) σ0 x Z') (D:=KD r a b (k+1) σ0) (none,na,nb,out,mg+1,ac,bc) (λ_=>rfl) ⟨s,ks⟩ (λ_ _ h=>⟨.inl h.1,h.2⟩) ?_) ?_
   .rintro i ⟨w,na,nb,out,mg,ac,bc⟩ Z' hi ⟨s,ks⟩;cases (show w=none from s.1);dsimp only [eH];refine ai.ite (q:=mg > 1) (λ_=>?_) λ_=>?_
    .exact sW o m X Z ks s
    .exact sW o m X Z ks s
   .rintro⟨w,na,nb,out,mg,ac,bc⟩ Z' ⟨s,ks⟩;rcases s with s|⟨q,A,t⟩
    .cases (show w=none from s.1);dsimp only [eH,Qt];refine ai.su ?_;exact ai.iX (none,na,nb,out,mg+1) ⟨s,ks⟩ λ_=>rfl
    .dsimp only at A;subst A;exact ai.dn (some q,na,nb,out,mg) ⟨⟨q,rfl,t⟩,ks⟩ λ_=>rfl
  .dsimp only at A;subst A;exact ai.dn (some q,na,nb,out,mg) ⟨⟨q,rfl,t⟩,ks⟩ λ_=>rfl
theorem By(o:Od f n r)(m:MH r a b)(X:Qn n a)(Z:Qn n b)(ha:1<=a.size)(hb:1<=b.size):ai (λc:Cc f n=>gG (c.ar a) (c.ar b)) (λq c=>c.ar q) Y (λq Z'=>qC r a b q/\Ks Y Z'):=by
 simp only[pj,bD];refine ai.rule (ai.elem (by lia) ?_);have h:PH r a b #[] a.size b.size:=by have G:a.toList.take a.size=a.toList:=PL (by simp);have F:b.toList.take b.size=b.toList:=PL (by simp);exact⟨by simp[G,F],by simpa[G] using m.sa,by simpa[F] using m.sb⟩
 have p:PH r a b #[a.getD (a.size-1) 0] (a.size-1) b.size:=h.pa (by lia) ha λy hy=>m.la y (TV hy);have E:∀c:Cc f n,#[kas_item c.it (a.getD (a.size-1) 0)]=c.ar #[a.getD (a.size-1) 0]:=λc=>by unfold Cc.ar;simp
 simp only[E,lO,oN];refine ai.ite (λe=>?_) λG=>ai.ite (λe=>?_) λF=>ai.get ?_
 .exact ai.pure _ ⟨p.d (.inl (bq e)),rfl,rfl⟩ λ_=>rfl
 .exact ai.pure _ ⟨p.l m (bq e),rfl,rfl⟩ λ_=>rfl
 have G:=iA G;have F:=iA F;refine ai.bind (ai.qq eH (λi x Z'=>Mv r a b (1+i) Y x Z') (D:=LX r a b Y) (none,a.size-1,b.size,#[a.getD (a.size-1) 0],Y.mg) (λ_=>rfl) ⟨⟨rfl,p,(by lia:1<=a.size-1),(by lia:a.size-1<=a.size),(by lia:2<=b.size),Nr _,(by lia:a.size-1+b.size+(1+0)<=a.size+b.size)⟩,rfl,rfl⟩ ?_ ?_) ?_
 .rintro x Z' ⟨⟨A,p,h1,h2,h3,h4,h5⟩,ks⟩;lia
 .rintro i ⟨w,na,nb,out,mg⟩ Z' hi ⟨s,ks⟩;cases (show w=none from s.1);exact B7 o m X Z (by lia) ks s
 .rintro⟨w,na,nb,out,mg⟩ Z' ⟨⟨q,A,t⟩,ks⟩;dsimp only at A;subst A;exact ai.pure q ⟨t,ks⟩ λ_=>rfl
end
noncomputable def dQ(p:Array α)(i:Nat)(q:Array α):Array α:=q.toList.zipIdx.foldl (λa x=>a.setIfInBounds (i+x.2) x.1) p
theorem oG(i:Nat):mergeAt' i=(do
  let s <- get
  match ((pendingOf s)[i]?,(pendingOf s)[i+1]?) with
  | (some (sa,na,pw),some (sb,nb,_))=>do
   set (setPending s (((pendingOf s).setIfInBounds i (sa,na+nb,pw)).eraseIdxIfInBounds (i+1)))
   let y <- elem' (arrOf s) sb
   let r <- cz false y (arrOf s) sa na 0
   match r with
   | some k=>(if (na-k==0)=true then pure true else (do
     let x <- elem' (arrOf s) (sa+k+(na-k)-1)
     let r <- cz true x (arrOf s) sb nb (nb-1)
     match r with
     | some nb=>(if (nb==0)=true then pure true else (do
       let m <- (if na-k<=nb then gP ((arrOf s).extract (sa+k) sb) ((arrOf s).extract sb (sb+nb)) else gG ((arrOf s).extract (sa+k) sb) ((arrOf s).extract sb (sb+nb)):SM (Array Keyed))
       modify λs=>setArr s (dQ (arrOf s) (sa+k) m)
       let s <- get
       pure (failedOf s).isNone):SM Bool)
     | _=>pure false):SM Bool)
   |_=>pure false
  | _=>liftM (unsupported "internal:list.sort.pending" : Sem Bool)):=by
 unfold mergeAt';refine congrArg (bind get) (funext λs=>?_);cases h1:(pendingOf s)[i]? with
 |none=>rfl
 |some x=>
  obtain⟨sa,na,pw⟩:=x;cases h2:(pendingOf s)[i+1]? with
  |none=>rfl
  |some x=>
   obtain⟨sb,nb,_⟩:=x;dsimp only
   congr 1
   funext _
   congr 1
   funext y
   congr 1
   funext r
   cases r with
   |none=>rfl
   |some k=>
    dsimp only
    congr 1
    congr 1
    funext x
    congr 1
    funext r
    cases r with
    |none=>rfl
    |some nb=>
     dsimp only
     congr 1
     by_cases h:na-k<=nb
     .rw[if_pos h,if_pos h];rfl
     .rw[if_neg h,if_neg h];rfl
theorem oD(i:Nat):∀(l:List α)(p:Array α)(j:Nat),i+j+l.length<=p.size->((l.zipIdx j).foldl (λa x=>a.setIfInBounds (i+x.2) x.1) p).toList=p.toList.take (i+j)++l++p.toList.drop (i+j+l.length)
 |[],p,j,_=>by simp
 |x::l,p,j,h=>by
  rw[NM] at h ⊢;rw[List.zipIdx_cons,Rl,oD i l _ (j+1) (by rw[QX];lia)];dsimp only;rw[SE];have v:i+j<p.toList.length:=by rw[NP];lia
  have D:(p.toList.set (i+j) x).take (i+(j+1))=p.toList.take (i+j)++[x]:=by rw[show i+(j+1)=i+j+1 by lia,R1 (by simpa using v),T7 (Nr _)];simp
  have F:(p.toList.set (i+j) x).drop (i+(j+1)+l.length)=p.toList.drop (i+j+(l.length+1)):=by
   rw[List.drop_set_of_lt (by lia)]
   congr 1
   lia
  rw[D,F];simp
theorem fI{p q:Array α}(h:i+q.size<=p.size):(dQ p i q).toList=p.toList.take i++q.toList++p.toList.drop (i+q.size):=by have:=oD i q.toList p 0 (by simpa using h);simpa[dQ] using this
theorem D2(c:Cc f n){q:Array Nat}(h:i+q.size<=p.size):dQ (c.ar p) i (c.ar q)=c.ar (dQ p i q):=by apply Qu.mp;rw[fI (by rw[bD,bD];exact h),bD];unfold Cc.ar;rw[Sb,Sb,Sb,fI h];simp
theorem ai.set{g:Cc f n->SortSt}{k:PUnit->Cc f n->StateT SortSt Sem γ}{e':δ->Cc f n->γ}{P':δ->aQ->Prop}(j:∀c,g c=c.st Z')(h:ai (λc=>k ⟨⟩ c) e' Z' P'):ai (λc=>MonadStateOf.set (g c) >>= λa=>k a c) e' Y P':=by obtain⟨b,T,hp,hm⟩:=h;refine⟨b,T,hp,λc=>kasC_bind ?_⟩;unfold kasC;rw[show (MonadStateOf.set (g c):StateT SortSt Sem PUnit).run (c.st Y)=Si (⟨⟩,g c) from rfl];refine wpAny_pure ?_;rw[j];exact hm c
theorem Pt.q(h:Pt n p):Qn n p:=λi hi=>h.lt (by rw[<-h.size];exact hi)
theorem Qn.ext(h:Qn n p)(i j:Nat):Qn n (p.extract i j):=λk hk=>by
 have w:k<min j p.size-i:=by simpa using hk
 have e:(p.extract i j).getD k 0=p.getD (i+k) 0:=by
  have h3:i+k<p.size:=by omega
  simp[Ox,w,h3]
 rw[e];exact h _ (by omega)
theorem Pt.put{m:Array Nat}(h:Pt n p)(hm:m.toList.Perm ((p.extract i k).toList++(p.extract k j).toList))(h1:i<=k)(h2:k<=j)(h3:j<=n):i+m.size<=p.size/\Pt n (dQ p i m):=by
 have hs:=h.size;have D:(p.extract i k).toList++(p.extract k j).toList=(p.toList.drop i).take (j-i):=by
  rw[Pm,Pm,ON,ON];have:p.toList.drop k=(p.toList.drop i).drop (k-i):=by rw[SO];congr 1;lia
  rw[this,show j-i=(k-i)+(j-k) by lia,U8]
 rw[D] at hm;have hl:m.size=j-i:=by have:=hm.length_eq;simp at this;lia
 refine⟨by lia,(P4.mpr ?_).trans h⟩;rw[fI (by lia)];have F:p.toList=p.toList.take i++(p.toList.drop i).take (j-i)++p.toList.drop (i+m.size):=by rw[Nj,hl,<-SO,OA,OA]
 exact((hm.append_left _).append_right _).trans (by rw[<-F])
theorem Dq(h:Sg r p i j)(v:j<=p.size):Sd r (p.extract i j).toList:=by
 unfold Sd;refine O0.mpr λa b ha hb N=>?_;have x:a<min j p.size-i:=by simp at ha;lia
 have m:b<min j p.size-i:=by simp at hb;lia
 have:=h (i+a) (i+b) (by lia) (by lia) (by lia);unfold Ra at this;have D:p.getD (i+a) 0=(p.extract i j).toList[a]:=by simp[Ox,(by lia:i+a<p.size)]
 have F:p.getD (i+b) 0=(p.extract i j).toList[b]:=by simp[Ox,(by lia:i+b<p.size)]
 rwa[D,F] at this
theorem pZ(p:Array Nat)(i:Nat):p.getD i 0=p.toList.getD i 0:=by simp[NQ,OB]
theorem ik{m:Array Nat}(h:i+m.size<=p.size):(dQ p i m).getD k 0=if i<=k/\k<i+m.size then m.getD (k-i) 0 else p.getD k 0:=by
 rw[pZ,pZ,pZ,fI h];simp only[OB]
 congr 1
 have hl:(p.toList.take i).length=i:=by simp;lia
 rw[Nj];by_cases h1:k<i
 .rw[if_neg (by lia),Ob (by lia),QZ h1]
 .rw[Oa (by lia),hl];by_cases h2:k<i+m.size
  .rw[if_pos (by lia),Ob (by simp;lia)]
  .rw[if_neg (by lia),Oa (by simp;lia),List.getElem?_drop,NP,show i+m.size+(k-i-m.size)=k by lia]
theorem oX(hk:i+k<j)(v:j<=p.size):(p.extract i j).getD k 0=p.getD (i+k) 0:=by
 have h3:i+k<p.size:=by lia
 have h4:k<min j p.size-i:=by lia
 simp[Ox,h4,h3]
theorem Ba(o:Od f n r){sa pw t:Nat}(hp:Pt n Y.p)(e1:Y.pend[i]?=some (sa,na,pw))(e2:Y.pend[i+1]?=some (sa+na,nb,t))(h1:1<=na)(h2:1<=nb)(h3:sa+na+nb<=n)(s1:Sg r Y.p sa (sa+na))(s2:Sg r Y.p (sa+na) (sa+na+nb)):
  ai (λ_:Cc f n=>mergeAt' i) (λb _=>b) Y (λx Z'=>x=true/\Pt n Z'.p/\Z'.pend=(Y.pend.setIfInBounds i (sa,na+nb,pw)).eraseIdxIfInBounds (i+1)/\Sg r Z'.p sa (sa+na+nb)/\Kq Y.p Z'.p sa (sa+na+nb)):=by
 have hs:=hp.size;simp only[oG];refine ai.get ?_;have ep:∀c:Cc f n,pendingOf (c.st Y)=Y.pend:=λ_=>rfl;have ea:∀c:Cc f n,arrOf (c.st Y)=c.ar Y.p:=λ_=>rfl;simp only[ep,ea,e1,e2,cw];refine ai.set (Z':=⟨Y.p,(Y.pend.setIfInBounds i (sa,na+nb,pw)).eraseIdxIfInBounds (i+1),Y.mg⟩) (λ_=>rfl) (ai.elem (by lia) (ai.bind (fN o (hp.q _ (by lia)) hp.q (by lia) (by lia) s1) ?_));rintro _ Z' ⟨rfl,k,rfl,hk,g1,g2⟩;dsimp only;have l:∀j,sa<=j->j<sa+k->Ra r Y.p j<Ra r Y.p (sa+na):=λj Q Z=>by have K:Ra r Y.p (sa+(j-sa))<=r (Y.p.getD (sa+na) 0):=EF (g1 (j-sa) (by lia));rw[show sa+(j-sa)=j by lia] at K;have z2:=o.ne hp (i:=j) (j:=sa+na) (by lia) (by lia) (by lia);unfold Ra at *;lia
 have A:∀j,sa+k<=j->j<sa+na->Ra r Y.p (sa+na)<Ra r Y.p j:=λj Q Z=>by have K:r (Y.p.getD (sa+na) 0)<Ra r Y.p (sa+(j-sa)):=xD (g2 (j-sa) (by lia) (by lia));rwa[show sa+(j-sa)=j by lia] at K
 have B:∀j,sa+na<=j->j<sa+na+nb->Ra r Y.p (sa+na)<=Ra r Y.p j:=λj Q Z=>by
  by_cases e:j=sa+na
  .rw[e];exact Nr _
  .exact QG (s2 _ _ (Nr _) (by lia) Z)
 refine ai.ite (λe=>?_) λC=>ai.elem (by have:=iA C;lia) (ai.bind (fN o (hp.q _ (by have:=iA C;lia)) hp.q (by lia) (by lia) s2) ?_)
 .have e:=bq e;refine ai.pure true ⟨rfl,hp,rfl,λa b c d z=>?_,Kq.refl _ _ _⟩ λ_=>rfl;by_cases hb:b<sa+na
  .exact s1 a b c d hb
  .by_cases ha:a<sa+na
   .exact Nn (l a c (by lia)) (B b (by lia) z)
   .exact s2 a b (by lia) d z
 have C:=iA C;rintro _ Z' ⟨rfl,H,rfl,hk2,u,L⟩;dsimp only;rw[show sa+k+(na-k)-1=sa+na-1 by lia] at u L;have blt:∀j,sa+na<=j->j<sa+na+H->Ra r Y.p j<Ra r Y.p (sa+na-1):=λj Q Z=>by have K:Ra r Y.p (sa+na+(j-(sa+na)))<r (Y.p.getD (sa+na-1) 0):=Eh (u (j-(sa+na)) (by lia));rwa[show sa+na+(j-(sa+na))=j by lia] at K
 have U:∀j,sa+na+H<=j->j<sa+na+nb->Ra r Y.p (sa+na-1)<Ra r Y.p j:=λj Q Z=>by have K:r (Y.p.getD (sa+na-1) 0)<=Ra r Y.p (sa+na+(j-(sa+na))):=wC (L (j-(sa+na)) (by lia) (by lia));rw[show sa+na+(j-(sa+na))=j by lia] at K;have z2:=o.ne hp (i:=sa+na-1) (j:=j) (by lia) (by lia) (by lia);unfold Ra at *;lia
 have J:∀j,sa<=j->j<sa+na->Ra r Y.p j<=Ra r Y.p (sa+na-1):=λj Q Z=>by
  by_cases e:j=sa+na-1
  .rw[e];exact Nr _
  .exact QG (s1 _ _ Q (by lia) (by lia))
 refine ai.ite (λe=>?_) λS=>?_
 .have e:=bq e;refine ai.pure true ⟨rfl,hp,rfl,λa b c d z=>?_,Kq.refl _ _ _⟩ λ_=>rfl;by_cases hb:b<sa+na
  .exact s1 a b c d hb
  .by_cases ha:a<sa+na
   .exact O5 (J a c ha) (U b (by lia) z)
   .exact s2 a b (by lia) d z
 have S:=iA S;have za:(Y.p.extract (sa+k) (sa+na)).size=na-k:=by rw[T8];lia
 have zb:(Y.p.extract (sa+na) (sa+na+H)).size=H:=by rw[T8];lia
 have F:MH r (Y.p.extract (sa+k) (sa+na)) (Y.p.extract (sa+na) (sa+na+H)):=by
  refine⟨Dq (λa b c d z=>s1 a b (by lia) d z) (by lia),Dq (λa b c d z=>s2 a b c d (by lia)) (by lia),λx hx y hy=>?_,λy hy=>?_,λx hx=>?_⟩
  .obtain⟨a,X,O,G,rfl⟩:=cG hx;obtain⟨b,R,D,b3,rfl⟩:=cG hy;exact o.ne hp (by lia) (by lia) (by lia)
  .obtain⟨b,R,D,b3,rfl⟩:=cG hy;rw[za,oX (by lia) (by lia),show sa+k+(na-k-1)=sa+na-1 by lia];exact blt b R D
  .obtain⟨a,X,O,G,rfl⟩:=cG hx;rw[oX (by lia) (by lia),Nat.add_zero];exact A a X O
 refine ai.bind (e:=λq c=>c.ar q) (P:=λq Z'=>qC r (Y.p.extract (sa+k) (sa+na)) (Y.p.extract (sa+na) (sa+na+H)) q/\Ks ⟨Y.p,(Y.pend.setIfInBounds i (sa,na+nb,pw)).eraseIdxIfInBounds (i+1),Y.mg⟩ Z') (ai.ite (q:=na-k<=H) (λ_=>?_) λ_=>?_) ?_
 .exact BA o F (hp.q.ext _ _) (hp.q.ext _ _) (by lia) (by lia)
 .exact By o F (hp.q.ext _ _) (hp.q.ext _ _) (by lia) (by lia)
 rintro m ⟨p',w,v⟩ ⟨hm,kp,T⟩;dsimp only at kp T;subst kp T;obtain⟨I,q2⟩:=hp.put hm.1 (by lia) (by lia) (by lia);have zm:m.size=na-k+H:=by have:=hm.1.length_eq;rw[Ny] at this;simp only[NP] at this;lia
 refine ai.mod (g:=λc s=>setArr s (dQ (arrOf s) (sa+k) (c.ar m))) (Z':=⟨dQ Y.p (sa+k) m,(Y.pend.setIfInBounds i (sa,na+nb,pw)).eraseIdxIfInBounds (i+1),v⟩) (λc=>?_) (ai.get ?_)
 .show Qg c.κ (dQ (c.ar Y.p) (sa+k) (c.ar m)) _ _ _=_;rw[D2 c I];rfl
 have mm:∀j,j<m.size->(∃a,sa+k<=a/\a<sa+na/\m.getD j 0=Y.p.getD a 0)\/∃a,sa+na<=a/\a<sa+na+H/\m.getD j 0=Y.p.getD a 0:=λj hj=>by
  rcases Nv.mp (hm.1.mem_iff.mp (p4 m hj)) with h|h
  .obtain⟨a,X,O,G,e⟩:=cG h;exact .inl ⟨a,X,O,e⟩
  .obtain⟨a,X,O,G,e⟩:=cG h;exact .inr ⟨a,X,O,e⟩
 refine ai.pure true ⟨rfl,q2,rfl,λa b c d z=>?_,λa ha=>?_⟩ λ_=>rfl
 .dsimp only;unfold Ra;rw[ik I,ik I];by_cases c1:sa+k<=a/\a<sa+k+m.size
  .rw[if_pos c1];by_cases E:sa+k<=b/\b<sa+k+m.size
   .rw[if_pos E];exact hm.2.at (by lia) (by lia)
   .rw[if_neg E];have hb:sa+na+H<=b:=by lia
    rcases mm (a-(sa+k)) (by lia) with ⟨x,N,V,e⟩|⟨x,N,V,e⟩
    .rw[e];exact O5 (J x (by lia) V) (U b hb z)
    .rw[e];exact s2 x b N (by lia) z
  .rw[if_neg c1];by_cases E:sa+k<=b/\b<sa+k+m.size
   .rw[if_pos E];rcases mm (b-(sa+k)) (by lia) with ⟨x,N,V,e⟩|⟨x,N,V,e⟩
    .rw[e];exact s1 a x c (by lia) V
    .rw[e];exact Nn (l a c (by lia)) (B x N (by lia))
   .rw[if_neg E];by_cases X:a<sa+k
    .by_cases R:b<sa+k
     .exact s1 a b c d (by lia)
     .exact Nn (l a c X) (B b (by lia) z)
    .exact s2 a b (by lia) d z
 .dsimp only;rw[ik I,if_neg (by lia)]
noncomputable abbrev US:=Option Unit×Unit
noncomputable abbrev UN:=Option Unit×Nat
noncomputable def J9(lo m:Nat):SM (ForInStep UN):=do
 modify λs=>setPending s ((pendingOf s).push (lo,m,0))
 pure (.yield (none,lo+m))
def Hh(size lo m:Nat):SM (ForInStep UN):=do
 let s <- get
 match (pendingOf s).back? with
 | some (s1,n1,_)=>do
  let r <- forIn [:size] ((none,()):US) λ_ _=>do
   let s <- get
   match (if (pendingOf s).size > 1 then (pendingOf s)[(pendingOf s).size-2]? else none) with
   | some (_,_,old)=>(if old<=power' size (2*s1+n1) (2*s1+n1+n1+m) size then pure (.done (none,())) else (do
     let b <- mergeAt' ((pendingOf s).size-2)
     if (!b)=true then pure (.done (some (),())) else pure (.yield (none,()))):SM (ForInStep US))
   |_=>pure (.done (none,()))
  match r.1 with
  |some r=>pure (.done (some r,lo))
  | none=>do
   modify λs=>setPending s ((pendingOf s).modify ((pendingOf s).size-1) λ(st,len,_)=>(st,len,power' size (2*s1+n1) (2*s1+n1+n1+m) size))
   J9 lo m
 |_=>J9 lo m
def Ke(size lo:Nat):SM (ForInStep UN):=
 if lo≥size then pure (.done (none,lo)) else do
  let x <- countRun' lo (size-lo)
  match x with
  | some m=>(if m<minRun' size size 0 then (do
    liftM (rule "list.sort.binary-insertion")
    let b <- binarySort' lo (min (size-lo) (minRun' size size 0)) m
    if (!b)=true then pure (.done (some (),lo)) else Hh size lo (min (size-lo) (minRun' size size 0)))
   else Hh size lo m:SM (ForInStep UN))
  |_=>pure (.done (some (),lo))
noncomputable def K2(p:Array (Nat×Nat×Nat)):Nat:=if Vi (λx=>decide (x<p[p.size-2+1]?.elim 0 λx=>x.2.1)) (if p.size-2 > 0 then Qt (λx=>x.2.1) p[p.size-2-1]? else none)=true then p.size-2-1 else p.size-2
theorem mW:sortRuns'=(do
  let s <- get
  let r <- forIn [:(arrOf s).size] ((none,0):UN) λ_ x=>Ke (arrOf s).size x.2
  match r.1 with
  |some r=>pure r
  | none=>do
   let r <- forIn [:(arrOf s).size] ((none,()):US) λ_ _=>do
    let s <- get
    (if (pendingOf s).size<=1 then pure (.done (none,())) else (do
     let b <- mergeAt' (K2 (pendingOf s))
     if (!b)=true then pure (.done (some (),())) else pure (.yield (none,()))):SM (ForInStep US))
   match r.1 with
   |some r=>pure r
   | none=>pure ()):=by
 unfold sortRuns';refine congrArg (bind get) (funext λs=>?_);dsimp only
 congr 1
 .congr 1
  funext _ ⟨r,lo⟩
  unfold Ke;dsimp only
  congr 1
  congr 1
  funext x
  cases x with
  |none=>rfl
  |some m=>
   dsimp only
   congr 1
   .congr 1
    funext _
    congr 1
    funext b
    congr 1
    unfold Hh
    congr 1
    funext st
    cases (pendingOf st).back? with
    |none=>rfl
    |some y=>
     dsimp only
     congr 1
     funext ⟨r,_⟩
     cases r<;>rfl
   .unfold Hh
    congr 1
    funext st
    cases (pendingOf st).back? with
    |none=>rfl
    |some y=>
     dsimp only
     congr 1
     funext ⟨r,_⟩
     cases r<;>rfl
 .funext ⟨r,lo⟩
  cases r with
  |some r=>rfl
  |none=>
   dsimp only
   congr 1
   funext ⟨r,_⟩
   cases r<;>rfl
noncomputable abbrev Pd:=Array (Nat×Nat×Nat)
def Rn(pend:Pd)(hi:Nat):Prop:=∀j x,pend[j]?=some x->1<=x.2.1/\x.1+x.2.1<=hi/\x.1+x.2.1=(pend[j+1]?.map (·.1)).getD hi
theorem Rn.push{pend:Pd}{lo m:Nat}(h:Rn pend lo)(hm:1<=m):Rn (pend.push (lo,m,0)) (lo+m):=by
 intro j x hx;rw[Qc] at hx ⊢;by_cases e:j=pend.size
 .rw[if_pos e] at hx;cases hx;rw[if_neg (by lia),OG (by lia)];exact⟨hm,Nr _,rfl⟩
 .rw[if_neg e] at hx;obtain⟨h1,h2,h3⟩:=h j x hx;refine⟨h1,by lia,?_⟩;by_cases F:j+1=pend.size
  .rw[if_pos F];rw[OG (by lia)] at h3;exact h3
  .rw[if_neg F];have v:j+1<pend.size:=by have:=(Oj.mp hx).1;lia
   rw[NC v] at h3 ⊢;exact h3
variable{pend:Pd}
theorem Rn.same{w:Pd}(h:Rn pend hi)(e:∀j:Nat,w[j]?.map (λx:Nat×Nat×Nat=>(x.1,x.2.1))=pend[j]?.map λx:Nat×Nat×Nat=>(x.1,x.2.1)):Rn w hi:=by
 intro j x hx;have D:=e j;rw[hx] at D;cases A:pend[j]? with
 |none=>rw[A] at D;cases D
 |some y=>rw[A] at D;have D:(x.1,x.2.1)=(y.1,y.2.1):=NJ D;obtain⟨h1,h2,h3⟩:=h j y A;have X:x.1=y.1:=(Qh D).1;have Y:x.2.1=y.2.1:=(Qh D).2;rw[X,Y];refine⟨h1,h2,?_⟩;rw[h3];have F:=congrArg (Qt U0) (e (j+1));rw[Ru,Ru] at F;exact congrArg (λo=>U9 o hi) F.symm
noncomputable def F5(pend:Pd)(i:Nat)(x:Nat×Nat×Nat):Pd:=(pend.setIfInBounds i x).eraseIdxIfInBounds (i+1)
theorem qr(pend:Pd)(i:Nat)(x:Nat×Nat×Nat)(hi:i<pend.size)(j:Nat):(F5 pend i x)[j]?=if j<i then pend[j]? else if j=i then some x else pend[j+1]?:=by
 unfold F5;rw[<-NZ,R3,List.getElem?_eraseIdx,SE,Ut,Ut];by_cases h1:j<i
 .rw[if_pos (by lia),if_pos h1,if_neg (by lia),NZ]
 .rw[if_neg h1];by_cases h2:j=i
  .rw[if_pos (by lia),if_pos h2,if_pos h2.symm,if_pos (by simpa using hi)]
  .rw[if_neg (by lia),if_neg h2,if_neg (by lia),NZ]
theorem Rn.merge{x y:Nat×Nat×Nat}(h:Rn pend hi)(D:pend[i]?=some x)(F:pend[i+1]?=some y){pw:Nat}:Rn (F5 pend i (x.1,x.2.1+y.2.1,pw)) hi:=by
 have hs:=(Oj.mp D).1;have hx:=h i x D;have hy:=h (i+1) y F;rw[F] at hx;have a:x.1+x.2.1=y.1:=hx.2.2;intro j z hz;rw[qr _ _ _ hs] at hz ⊢;by_cases h1:j<i
 .rw[if_pos h1] at hz;obtain⟨X,Y,G⟩:=h j z hz;refine⟨X,Y,?_⟩;by_cases h2:j+1<i
  .rw[if_pos h2];exact G
  .have h3:j+1=i:=by lia
   rw[if_neg h2,if_pos h3];rw[h3,D] at G;exact G
 .rw[if_neg h1] at hz;rw[if_neg (by lia),if_neg (by lia)];by_cases h2:j=i
  .rw[if_pos h2] at hz;cases hz;subst h2;refine⟨by show 1<=x.2.1+y.2.1;lia,by show x.1+(x.2.1+y.2.1)<=hi;lia,?_⟩;show x.1+(x.2.1+y.2.1)=_;rw[<-hy.2.2];lia
  .rw[if_neg h2] at hz;exact h (j+1) z hz
theorem Rn.le{pend:Pd}{hi:Nat}(h:Rn pend hi){j:Nat}{x:Nat×Nat×Nat}(ex:pend[j]?=some x):∀d y,pend[j+1+d]?=some y->x.1+x.2.1<=y.1
 |0,y,ey=>by have:=(h j x ex).2.2;rw[show j+1+0=j+1 from rfl] at ey;rw[ey] at this;exact R8 this
 |d+1,y,ey=>by
  have hs:=(Oj.mp ey).1;obtain⟨z,a⟩:∃z,pend[j+1+d]?=some z:=⟨_,NC (by lia)⟩
  have h1:=h.le ex d z a;have h2:=(h _ z a).2.2;rw[show j+1+(d+1)=j+1+d+1 from rfl] at ey;rw[ey] at h2;have h2:z.1+z.2.1=y.1:=h2;lia
structure Rt(r:Nat->Nat)(p:Array Nat)(pend:Pd)(hi:Nat):Prop where
 rn:Rn pend hi
 st:(pend[0]?.map (·.1)).getD hi=0
 so:∀(j:Nat)(x:Nat×Nat×Nat),pend[j]?=some x->Sg r p x.1 (x.1+x.2.1)
theorem Rt.push{p:Array Nat}{pend:Pd}{lo m:Nat}(h:Rt r p pend lo)(hm:1<=m)(hs:Sg r p lo (lo+m)):Rt r p (pend.push (lo,m,0)) (lo+m):=by
 refine⟨h.rn.push hm,?_,λj x hx=>?_⟩
 .have:=h.st;rw[Qc];by_cases e:0=pend.size
  .rw[if_pos e];rw[OG (by lia)] at this;exact this
  .rw[if_neg e];rw[NC (by lia)] at this ⊢;exact this
 .rw[Qc] at hx;by_cases e:j=pend.size
  .rw[if_pos e] at hx;cases hx;exact hs
  .rw[if_neg e] at hx;exact h.so j x hx
theorem Rt.keep{p q:Array Nat}{pend:Pd}{lo hi:Nat}(h:Rt r p pend lo)(k:Kq p q lo hi):Rt r q pend lo:=
 ⟨h.rn,h.st,λj x hx=>(h.so j x hx).keep k (.inl (h.rn j x hx).2.1)⟩
theorem Rt.same{p:Array Nat}{pend w:Pd}{hi:Nat}(h:Rt r p pend hi)(e:∀j:Nat,w[j]?.map (λx:Nat×Nat×Nat=>(x.1,x.2.1))=pend[j]?.map λx:Nat×Nat×Nat=>(x.1,x.2.1)):Rt r p w hi:=by
 refine⟨h.rn.same e,?_,λj x hx=>?_⟩
 .have F:=congrArg (Qt U0) (e 0);rw[Ru,Ru] at F;exact(congrArg (λo=>U9 o hi) F).trans h.st
 .have D:=e j;rw[hx] at D;cases A:pend[j]? with
  |none=>rw[A] at D;cases D
  |some y=>rw[A] at D;have D:(x.1,x.2.1)=(y.1,y.2.1):=NJ D;rw[(Qh D).1,(Qh D).2];exact h.so j y A
theorem Rt.merge{p q:Array Nat}{pend:Pd}{hi i:Nat}{x y:Nat×Nat×Nat}(h:Rt r p pend hi)(D:pend[i]?=some x)(F:pend[i+1]?=some y){pw:Nat}(hs:Sg r q x.1 (x.1+x.2.1+y.2.1))(k:Kq p q x.1 (x.1+x.2.1+y.2.1)):Rt r q (F5 pend i (x.1,x.2.1+y.2.1,pw)) hi:=by
 have hz:=(Oj.mp D).1;have hx:=(h.rn i x D).2.2;rw[F] at hx;have hx:x.1+x.2.1=y.1:=hx;refine⟨h.rn.merge D F,?_,λj z a=>?_⟩
 .have:=h.st;rw[qr _ _ _ hz];by_cases c:0<i
  .rw[if_pos c];exact this
  .have c:i=0:=by lia
   subst c;rw[if_neg (by lia),if_pos rfl];rw[D] at this;exact this
 .rw[qr _ _ _ hz] at a;by_cases c:j<i
  .rw[if_pos c] at a;refine(h.so j z a).keep k (.inl ?_);exact h.rn.le a (i-j-1) x (by rw[show j+1+(i-j-1)=i by lia];exact D)
  .rw[if_neg c] at a;by_cases O:j=i
   .rw[if_pos O] at a;cases a;show Sg r q x.1 (x.1+(x.2.1+y.2.1));rw[<-Nat.add_assoc];exact hs
   .rw[if_neg O] at a;refine(h.so _ z a).keep k (.inr ?_);rw[hx];exact h.rn.le F (j-i-1) z (by rw[show i+1+1+(j-i-1)=j+1 by lia];exact a)
theorem Rt.from{p:Array Nat}{pend:Pd}{hi:Nat}(h:Rt r p pend hi):∀(j:Nat)(x:Nat×Nat×Nat),pend[j]?=some x->j<=x.1
 |0,x,_=>Ou _
 |j+1,x,ex=>by
  have hs:=(Oj.mp ex).1;obtain⟨z,a⟩:∃z,pend[j]?=some z:=⟨_,NC (by lia)⟩
  have h1:=h.from j z a;have h2:=h.rn j z a;rw[ex] at h2;have h3:z.1+z.2.1=x.1:=h2.2.2;lia
theorem Rt.size{p:Array Nat}{pend:Pd}{hi:Nat}(h:Rt r p pend hi):pend.size<=hi:=by
 by_cases c:pend.size=0
 .omega
 .obtain⟨z,a⟩:∃z,pend[pend.size-1]?=some z:=⟨_,NC (by omega)⟩
  have h1:=h.from _ z a;have h2:=h.rn _ z a;omega
theorem Rt.all(h:Rt r p pend hi)(h1:pend.size<=1):Sg r p 0 hi:=by
 have h2:=h.st;cases e:pend[0]? with
 |none=>rw[e] at h2;have h2:hi=0:=h2;subst h2;intro i j a b c;lia
 |some x=>rw[e] at h2;have h2:x.1=0:=h2;have h3:=(h.rn 0 x e).2.2;rw[OG (by lia)] at h3;have h3:x.1+x.2.1=hi:=h3;have h4:=h.so 0 x e;rwa[h3,h2] at h4
theorem yk{x:Nat×Nat×Nat}(h:i+1<pend.size):(F5 pend i x).size=pend.size-1:=by unfold F5;rw[<-NP,R3,List.length_eraseIdx,NP,QX,if_pos h]
theorem vX(o:Od f n r){P:Bool->aQ->Prop}(hp:Pt n Y.p)(t:Rt r Y.p Y.pend hi)(V:hi<=n)(q:i+1<Y.pend.size)(h:∀Z',Pt n Z'.p->Rt r Z'.p Z'.pend hi->Kq Y.p Z'.p 0 hi->Z'.pend.size=Y.pend.size-1->P true Z'):ai (λ_:Cc f n=>mergeAt' i) (λb _=>b) Y P:=by
 obtain⟨x,D⟩:∃x,Y.pend[i]?=some x:=⟨_,NC (by lia)⟩
 obtain⟨y,F⟩:∃x,Y.pend[i+1]?=some x:=⟨_,NC q⟩
 obtain⟨sa,na,pw⟩:=x;obtain⟨sb,nb,e⟩:=y;have hx:=t.rn _ _ D;have hy:=t.rn _ _ F;rw[F] at hx;have a:sa+na=sb:=hx.2.2;subst a;have m:sa+na+nb<=hi:=hy.2.1;refine ai.mono (Ba o hp D F hx.1 hy.1 (by lia) (t.so _ _ D) (t.so _ _ F)) ?_;rintro b Z' ⟨rfl,j,S,s',k'⟩;have S:Z'.pend=F5 Y.pend i (sa,na+nb,pw):=S;refine h Z' j ?_ (k'.wide (Ou _) m) ?_
 .rw[S];exact t.merge D F s' k'
 .rw[S,yk q]
theorem sL{I:UN->aQ->Prop}{D:UN->aQ->Prop}(h:I (none,lo+m) ⟨Y.p,Y.pend.push (lo,m,0),Y.mg⟩):ai (λ_:Cc f n=>J9 lo m) (pI λb _=>b) Y (Lp I D):=by unfold J9;refine ai.mod (Z':=⟨Y.p,Y.pend.push (lo,m,0),Y.mg⟩) (λ_=>rfl) ?_;exact ai.iX (none,lo+m) h λ_=>rfl
def RI(r:Nat->Nat)(n i:Nat)(x:UN)(Y:aQ):Prop:=x.1=none/\Pt n Y.p/\Rt r Y.p Y.pend x.2/\x.2<=n/\min i n<=x.2
theorem rL(o:Od f n r){D:UN->aQ->Prop}(hp:Pt n Y.p)(t:Rt r Y.p Y.pend lo)(hm:1<=m)(hl:lo+m<=n)(hs:Sg r Y.p lo (lo+m))(hi:i<=lo):ai (λ_:Cc f n=>Hh n lo m) (pI λb _=>b) Y (Lp (RI r n (i+1)) D):=by
 unfold Hh;refine ai.get ?_;have ep:∀c:Cc f n,pendingOf (c.st Y)=Y.pend:=λ_=>rfl;simp only[ep];cases hb:Y.pend.back? with
 |none=>exact sL ⟨rfl,hp,t.push hm hs,hl,by show min (i+1) n<=lo+m;lia⟩
 |some y=>
  obtain⟨s1,C,w⟩:=y;dsimp only;refine ai.bind (ai.qq (λb _=>b) (λ_ x Z'=>x.1=none/\Pt n Z'.p/\Rt r Z'.p Z'.pend lo/\Sg r Z'.p lo (lo+m)) (D:=λx Z'=>x.1=none/\Pt n Z'.p/\Rt r Z'.p Z'.pend lo/\Sg r Z'.p lo (lo+m)) (none,()) (λ_=>rfl) ⟨rfl,hp,t,hs⟩ (λ_ _ h=>h) ?_) ?_
  .rintro i x Z hi ⟨A,U,k,s⟩;refine ai.get ?_;have ep:∀c:Cc f n,pendingOf (c.st Z)=Z.pend:=λ_=>rfl;simp only[ep];by_cases hs:Z.pend.size > 1
   .simp only[if_pos hs];obtain⟨z,hz⟩:∃z,Z.pend[Z.pend.size-2]?=some z:=⟨_,NC (by lia)⟩
    obtain⟨B,J,old⟩:=z;simp only[hz];refine ai.ite (λ_=>?_) λ_=>ai.bind (vX o (P:=λb Z'=>b=true/\Pt n Z'.p/\Rt r Z'.p Z'.pend lo/\Sg r Z'.p lo (lo+m)) U k (by lia) (by lia) λZ' a b c d=>⟨rfl,a,b,s.keep c (.inr (Nr _))⟩) ?_
    .exact ai.dn (none,()) ⟨rfl,U,k,s⟩ λ_=>rfl
    .rintro b T ⟨rfl,H,g,e⟩;exact ai.iX (none,()) ⟨rfl,H,g,e⟩ λ_=>rfl
   .simp only[if_neg hs];exact ai.dn (none,()) ⟨rfl,U,k,s⟩ λ_=>rfl
  .rintro⟨q,u⟩ Z ⟨A,U,k,s⟩;cases (show q=none from A);dsimp only;have g:Rt r Z.p (Z.pend.modify (Z.pend.size-1) λx=>(x.1,x.2.1,power' n (2*s1+C) (2*s1+C+C+m) n)) lo:=k.same λj=>by
    rw[Array.getElem?_modify];split
    .cases Z.pend[j]?<;>rfl
    .rfl
   refine ai.mod (Z':=⟨Z.p,Z.pend.modify (Z.pend.size-1) λx=>(x.1,x.2.1,power' n (2*s1+C) (2*s1+C+C+m) n),Z.mg⟩) (λ_=>rfl) ?_;exact sL ⟨rfl,U,g.push hm s,hl,by show min (i+1) n<=lo+m;lia⟩
theorem AJ(o:Od f n r)(hp:Pt n Y.p)(t:Rt r Y.p Y.pend lo)(hl:lo<=n)(hi:min i n<=lo):ai (λ_:Cc f n=>Ke n lo) (pI λb _=>b) Y (Lp (RI r n (i+1)) (RI r n n)):=by
 unfold Ke;refine ai.ite (λz=>?_) λh=>ai.bind (uS o hp (by lia) (by lia)) ?_
 .exact ai.dn (none,lo) ⟨rfl,hp,t,hl,by show min n n<=lo;lia⟩ λ_=>rfl
 rintro _ Z ⟨m,rfl,J,N,U,V,s1,d⟩;have k:Rt r Z.p Z.pend lo:=by rw[show Z.pend=Y.pend from V];exact t.keep d
 dsimp only;refine ai.ite (λh2=>ai.rule (ai.bind (zM o U (by lia) (by lia) J s1) ?_)) λh2=>rL o U k J (by lia) s1 (by lia);rintro b T ⟨rfl,P,y,s2,S⟩;have g:Rt r T.p T.pend lo:=by rw[show T.pend=Z.pend from y];exact k.keep S
 exact rL o P g (by lia) (by lia) s2 (by lia)
theorem EW{p:Pd}(h:1<p.size):K2 p+1<p.size:=by
 unfold K2;by_cases e:Vi (λx=>decide (x<p[p.size-2+1]?.elim 0 λx=>x.2.1)) (if p.size-2 > 0 then Qt (λx=>x.2.1) p[p.size-2-1]? else none)=true
 .rw[if_pos e];omega
 .rw[if_neg e];omega
theorem yF(o:Od f n r):ai (λ_:Cc f n=>sortRuns') (λb _=>b) ⟨OH (NA n),#[],7⟩ (λ_ Z'=>Pt n Z'.p/\Sg r Z'.p 0 n):=by
 have hp:Pt n (OH (NA n)):=Array.Perm.refl _;rw[mW];refine ai.get ?_;have ea:∀c:Cc f n,(arrOf (c.st ⟨OH (NA n),#[],7⟩)).size=n:=λc=>by show (c.ar (OH (NA n))).size=n;rw[bD,hp.size]
 simp only[ea];refine ai.bind (ai.qq (λb _=>b) (λi=>RI r n i) (D:=RI r n n) (none,0) (λ_=>rfl) ⟨rfl,hp,⟨λj x h=>by simp at h,rfl,λj x h=>by simp at h⟩,Ou _,by show min 0 n<=0;lia⟩ (λ_ _ h=>h) ?_) ?_
 .rintro i ⟨q,lo⟩ Z hi ⟨w,U,k,Q,I⟩;exact AJ o U k Q I
 .rintro⟨q,lo⟩ Z ⟨w,U,k,Q,I⟩;cases (show q=none from w);have N:lo=n:=by have I:min n n<=lo:=I;have Q:lo<=n:=Q;lia
  subst N;dsimp only at k ⊢;refine ai.bind (ai.qq (λb _=>b) (λi x Z'=>x.1=none/\Pt lo Z'.p/\Rt r Z'.p Z'.pend lo/\Z'.pend.size+i<=max lo (1+i)) (D:=λx Z'=>x.1=none/\Pt lo Z'.p/\Rt r Z'.p Z'.pend lo/\Z'.pend.size<=1) (none,()) (λ_=>rfl) ⟨rfl,U,k,by have:=k.size;lia⟩ (λ_ _ h=>⟨h.1,h.2.1,h.2.2.1,by have:=h.2.2.2;lia⟩) ?_) ?_
  .rintro i x T hi ⟨w,H,g,m⟩;refine ai.get ?_;have ep:∀c:Cc f lo,pendingOf (c.st T)=T.pend:=λ_=>rfl;simp only[ep];refine ai.ite (λz=>?_) λh=>ai.bind (vX o (P:=λb Z'=>b=true/\Pt lo Z'.p/\Rt r Z'.p Z'.pend lo/\Z'.pend.size=T.pend.size-1) H g (Nr _) (EW (by lia)) λZ' a b c d=>⟨rfl,a,b,d⟩) ?_
   .exact ai.dn (none,()) ⟨rfl,H,g,z⟩ λ_=>rfl
   .rintro b V ⟨rfl,y,K,e⟩;exact ai.iX (none,()) ⟨rfl,y,K,by lia⟩ λ_=>rfl
  .rintro⟨q,u⟩ T ⟨w,H,g,m⟩;cases (show q=none from w);exact ai.pure () ⟨H,g.all m⟩ λ_=>rfl
end
structure MT{α:Type}(lt:α->α->Bool):Prop where
 irr:∀a,lt a a=false
 tr:∀a b c,lt a b=true->lt b c=true->lt a c=true
 tri:∀a b,lt a b=false->lt b a=false->a=b
noncomputable def Lk:Key->Key->Bool
 | .inl a,.inl b=>decide (a<b)
 | .inr a,.inr b=>decide (a.cps.toList<b.cps.toList)
 | .inl _,.inr _=>true
 | .inr _,.inl _=>false
def fe:List Key->List Key->Bool
 |[],[]=>false
 |[],_::_=>true
 |_::_,[]=>false
 |a::r,b::q=>if a=b then fe r q else Lk a b
theorem mM:MT Lk:=by
 refine⟨λa=>?_,λa b c h1 h2=>?_,λa b h1 h2=>?_⟩
 .cases a with
  |inl a=>exact decide_eq_false (Int.lt_irrefl _)
  |inr a=>exact decide_eq_false (List.lt_irrefl _)
 .cases a with
  |inl a=>cases b with
   |inl b=>cases c with
    |inl c=>exact decide_eq_true (Int.lt_trans (of_decide_eq_true h1) (of_decide_eq_true h2))
    |inr c=>rfl
   |inr b=>cases c with
    |inl c=>cases h2
    |inr c=>rfl
  |inr a=>cases b with
   |inl b=>cases h1
   |inr b=>cases c with
    |inl c=>cases h2
    |inr c=>exact decide_eq_true (List.lt_trans (of_decide_eq_true h1) (of_decide_eq_true h2))
 .cases a with
  |inl a=>cases b with
   |inl b=>have h1:=of_decide_eq_false h1;have h2:=of_decide_eq_false h2;exact congrArg Ot (by lia)
   |inr b=>cases h1
  |inr a=>cases b with
   |inl b=>cases h2
   |inr b=>have h1:=of_decide_eq_false h1;have h2:=of_decide_eq_false h2;have:a.cps.toList=b.cps.toList:=List.le_antisymm h2 h1;cases a;cases b;exact congrArg Qr (congrArg Str.mk (Qu.mp this))
theorem cf(a:Key)(r q:List Key):fe (a::r) (a::q)=fe r q:=by rw[fe,if_pos rfl]
theorem bp{a b:Key}(r q:List Key)(h:a≠b):fe (a::r) (b::q)=Lk a b:=by rw[fe,if_neg h]
theorem dC:∀a,fe a a=false
 |[]=>rfl
 |a::r=>by rw[cf];exact dC r
theorem jq:∀a b,fe a b=false->fe b a=false->a=b
 |[],[],_,_=>rfl
 |[],_::_,h,_=>nomatch h
 |_::_,[],_,h=>nomatch h
 |a::r,b::q,h1,h2=>by
  by_cases e:a=b
  .subst e;rw[cf] at h1 h2;rw[jq r q h1 h2]
  .rw[bp _ _ e] at h1;rw[bp _ _ (Pa e)] at h2;exact absurd (mM.tri a b h1 h2) e
theorem ig:∀a b c,fe a b=true->fe b c=true->fe a c=true
 |[],[],_,h,_=>nomatch h
 |[],_::_,[],_,h=>nomatch h
 |[],_::_,_::_,_,_=>rfl
 |_::_,[],_,h,_=>nomatch h
 |_::_,_::_,[],_,h=>nomatch h
 |a::r,b::q,c::p,h1,h2=>by
  by_cases D:a=b
  .subst D;rw[cf] at h1;by_cases F:a=c
   .subst F;rw[cf] at h2 ⊢;exact ig r q p h1 h2
   .rw[bp _ _ F] at h2 ⊢;exact h2
  .rw[bp _ _ D] at h1;by_cases F:b=c
   .subst F;rw[bp _ _ D];exact h1
   .rw[bp _ _ F] at h2;have h3:=mM.tr a b c h1 h2;by_cases O:a=c
    .subst O;rw[mM.irr] at h3;cases h3
    .rw[bp _ _ O];exact h3
def aV(ks:List (List Key)):List Nat:=(NA ks.length).mergeSort λi j=>!fe (ks.getD j []) (ks.getD i [])
theorem a8(ks:List (List Key)):(aV ks).Perm (NA ks.length):=List.mergeSort_perm _ _
theorem nN(ks:List (List Key)):(aV ks).Nodup:=(a8 ks).nodup_iff.mpr Q7
theorem oh(ks:List (List Key)):(aV ks).Pairwise λi j=>fe (ks.getD j []) (ks.getD i [])=false:=by
 have:=List.pairwise_mergeSort (le:=λi j=>!fe (ks.getD j []) (ks.getD i [])) (λa b c h1 h2=>?_) (λa b=>?_) (NA ks.length)
 .exact this.imp λh=>by simpa using h
 .simp only[NX] at h1 h2 ⊢;cases h:fe (ks.getD c []) (ks.getD a []) with
  |false=>rfl
  |true=>
   cases h3:fe (ks.getD a []) (ks.getD b []) with
   |true=>rw[ig _ _ _ h h3] at h2;cases h2
   |false=>rw[jq _ _ h1 h3] at h2;rw[h] at h2;cases h2
 .cases h:fe (ks.getD b []) (ks.getD a []) with
  |false=>simp
  |true=>
   cases h3:fe (ks.getD a []) (ks.getD b []) with
   |false=>simp
   |true=>have:=ig _ _ _ h h3;rw[dC] at this;cases this
variable{ks:List (List Key)}
theorem wu(nd:ks.Nodup):Od (λi j=>fe (ks.getD i []) (ks.getD j [])) ks.length λi=>(aV ks).idxOf i:=by
 have mem:∀i,i<ks.length->i∈aV ks:=λi hi=>(a8 ks).mem_iff.mpr (NU.mpr hi);have lt:∀i j,i<ks.length->j<ks.length->(aV ks).idxOf i<(aV ks).idxOf j->fe (ks.getD i []) (ks.getD j [])=true:=λi j hi v h=>by
  have h1:=O0.mp (oh ks) _ _ (PX (mem i hi)) (PX (mem j v)) h;rw[QL,QL] at h1;cases h2:fe (ks.getD i []) (ks.getD j []) with
  |true=>rfl
  |false=>
   have e:=jq _ _ h2 h1;have D:ks[i]=ks[j]:=by simpa[hi,v] using e
   have:=(Sf nd).mp D;subst this;lia
 have inj:∀i j,i<ks.length->j<ks.length->(aV ks).idxOf i=(aV ks).idxOf j->i=j:=λi j hi v h=>by
  have h1:=QL (PX (mem i hi));have h2:=QL (PX (mem j v));rw[<-h1,<-h2]
  congr 1
 refine⟨λi j hi v=>?_,inj⟩;by_cases h:(aV ks).idxOf i<(aV ks).idxOf j
 .rw[decide_eq_true h];exact lt i j hi v h
 .rw[decide_eq_false h];by_cases e:(aV ks).idxOf i=(aV ks).idxOf j
  .rw[inj i j hi v e];exact dC _
  .cases h2:fe (ks.getD i []) (ks.getD j []) with
   |false=>rfl
   |true=>have h3:=lt j i v hi (by lia);have:=ig _ _ _ h2 h3;rw[dC] at this;cases this
variable{vs:List Value}{P:Vx->Shared->Prop}
section
open PySem.Spec PyProof.Rows PySem.W PySem.Calls
variable{prog:Program}{w:World}{A:Around}{E:Value->Shared->Prop}{s:Shared}
theorem uk(nd:ks.Nodup)(c:Cc (λi j=>fe (ks.getD i []) (ks.getD j [])) ks.length):
  kasC (model c.prog c.w) c.A c.E sortRuns' (λ_ st s=>arrOf st=c.ar (aV ks).toArray/\failedOf st=none/\s=c.s) (c.st ⟨OH (NA ks.length),#[],7⟩) c.s:=by
 obtain⟨b,Z',⟨hp,hs⟩,hm⟩:=yF (wu nd);have e:Z'.p=(aV ks).toArray:=by
  have hz:=hp.size;apply Qu.mp;refine QK (le:=λi j=>(aV ks).idxOf i<(aV ks).idxOf j) (λa b _ _ h1 h2=>by lia) ?_ ?_ ((P4.mp hp).trans (a8 ks).symm)
  .refine O0.mpr λi j hi v r=>?_;have I:j<Z'.p.size:=by simpa using v
   have:=hs i j (Ou _) r (by lia);unfold Ra at this;have f:i<Z'.p.size:=by lia
   rw[show Z'.p.getD i 0=Z'.p.toList[i] by simp[Ox,f],show Z'.p.getD j 0=Z'.p.toList[j] by simp[Ox,I]] at this;exact this
  .show (aV ks).Pairwise _;refine O0.mpr λi j hi v r=>?_;rw[(nN ks).idxOf_getElem,(nN ks).idxOf_getElem];exact r
 refine wpAny_mono (hm c) ?_ λ_ _ x=>x;rintro⟨a,st⟩ s ⟨-,H,hs⟩;refine⟨?_,?_,hs⟩
 .rw[H,<-e];rfl
 .rw[H];rfl
theorem qQ{l m:List Nat}(h:m.length<2)(p:l.Perm m):l=m:=by
 match m,h with
 |[],_=>exact p.eq_nil
 |[x],_=>exact List.perm_singleton.mp p
theorem kQ{xs:List Value}{k:List Key}(h:ItemsAre (aW prog w) k xs):xs.length=k.length:=h.length.symm
def wo(k:List Key):Prop:=∀e∈k,∃i,e=Ot i
def nO(k:List Key):Prop:=∀e∈k,∃x,e=Qr x
def Io(ks:List (List Key)):Prop:=(∀k∈ks,k≠[]/\wo k)\/∀k∈ks,k≠[]/\nO k
inductive dG(prog:Program)(w:World)(h:Heap):List Value->List (List Key)->Prop
 |nil:dG prog w h [] []
 |cons{b:Addr}{o:Obj}{n:Nat}{xs:List Value}{k:List Key}{vs:List Value}{ks:List (List Key)}(ho:h.get? b=some o)(hc:o.cls=.type "tuple")(hd:o.data=.seq xs.toArray n)(hi:ItemsAre (aW prog w) k xs)(r:dG prog w h vs ks):dG prog w h (.ref b::vs) (k::ks)
theorem dG.len{h:Heap}:∀{vs:List Value}{ks:List (List Key)},dG prog w h vs ks->ks.length=vs.length
 |_,_,.nil=>rfl
 |_,_,.cons _ _ _ _ r=>congrArg (·+1) r.len
theorem dG.keep{h h':Heap}(k:∀b o,h.get? b=some o->o.cls=.type "tuple" -> h'.get? b=some o):∀{vs:List Value}{ks:List (List Key)},dG prog w h vs ks->dG prog w h' vs ks
 |_,_,.nil=>.nil
 |_,_,.cons ho hc hd hi r=>.cons (k _ _ ho hc) hc hd hi (r.keep k)
theorem dG.at{h:Heap}:∀{vs:List Value}{ks:List (List Key)}(i:Nat),dG prog w h vs ks->i<ks.length->∃b o n xs,vs.getD i .none=.ref b/\h.get? b=some o/\o.data=.seq (OH xs) n/\ItemsAre (aW prog w) (ks.getD i []) xs
 |_,_,_,.nil,h=>absurd h (OZ _)
 |_,_,0,.cons ho hc hd hi r,_=>⟨_,_,_,_,rfl,ho,hd,hi⟩
 |_,_,i+1,.cons ho hc hd hi r,h=>r.at i (Nat.lt_of_succ_lt_succ h)
theorem dG.Mx{h:Heap}:∀{vs:List Value}{ks:List (List Key)},dG prog w h vs ks->(∀k∈ks,k≠[])->∃fs,KatTups h vs fs/\fs.length=vs.length/\∀v∈fs,∃k∈ks,∃e∈k,gc e v=true
 |_,_,.nil,_=>⟨[],.nil,rfl,λ_ h=>nomatch h⟩
 |_,_,.cons (k:=k) ho hc hd hi r,hn=>by
  obtain⟨fs,h1,h2,h3⟩:=r.Mx λk hk=>hn k (Nt _ hk);cases hi with
  |nil=>exact absurd rfl (hn _ Nu)
  |@cons e v x b u hi=>
   refine⟨v::fs,.cons ho hc hd rfl h1,congrArg (·+1) h2,λs i=>?_⟩;rcases ND.mp i with rfl|i
   .exact⟨_,Nu,e,Nu,u⟩
   .obtain⟨k,V,y⟩:=h3 s i;exact⟨k,Nt _ V,y⟩
theorem sX{m:Int}{v:Value}(h:(aW prog w).is (Ot m) v=true):∃t,v=.int m t:=by
 rcases aL (show gc (Ot m) v=true from h) with ⟨_,t,D,F⟩|⟨_,_,D,_⟩
 .cases D;exact⟨t,F⟩
 .cases D
theorem rJ{m:Str}{v:Value}(h:(aW prog w).is (Qr m) v=true):∃t,v=.str m t:=by
 rcases aL (show gc (Qr m) v=true from h) with ⟨_,_,D,_⟩|⟨_,t,D,F⟩
 .cases D
 .cases D;exact⟨t,F⟩
theorem sv{C:Bool->Shared->Prop}:∀{xs ys:List Value}{a b:List Key}(i:Nat),ItemsAre (aW prog w) a xs->ItemsAre (aW prog w) b ys->(wo a/\wo b\/nO a/\nO b)->∀{fin:Bool},fin=decide (a.length<b.length)->C (fe a b) s->KatLex prog w A true fin C (xs.zip ys) i s
 |_,_,_,_,_,.nil,.nil,_,_,e,h=>by subst e;exact h
 |_,_,_,_,_,.nil,.cons _ _,_,_,e,h=>by subst e;exact h
 |_,_,_,_,_,.cons _ _,.nil,_,_,e,h=>by subst e;exact h
 |_,_,_,_,i,.cons (k:=x) (ks:=a) hx p,.cons (k:=y) (ks:=b) hy q,ha,_,e,h=>by
  have r:wo a/\wo b\/nO a/\nO b:=by
   rcases ha with ⟨h1,h2⟩|⟨h1,h2⟩
   .exact .inl ⟨λe he=>h1 e (Nt _ he),λe he=>h2 e (Nt _ he)⟩
   .exact .inr ⟨λe he=>h1 e (Nt _ he),λe he=>h2 e (Nt _ he)⟩
  refine kat_cons ((aW prog w).eqBool hx hy ?_);by_cases f:x=y
  .rw[decide_eq_true f];refine kat_yes (sv (i+1) p q r (by rw[e,NM,NM];simp) ?_);subst f;rw[cf] at h;exact h
  .rw[decide_eq_false f];rw[bp _ _ f] at h;refine kat_no ?_;rcases ha with ⟨h1,h2⟩|⟨h1,h2⟩
   .obtain⟨m,rfl⟩:=h1 x Nu;obtain⟨n,rfl⟩:=h2 y Nu;obtain⟨t,rfl⟩:=sX hx;obtain⟨u,rfl⟩:=sX hy;cases hb:(true&&i==0) with
    |true=>exact oneLt_int h
    |false=>exact kat_one _ _ (lt_int h)
   .obtain⟨m,rfl⟩:=h1 x Nu;obtain⟨n,rfl⟩:=h2 y Nu;obtain⟨t,rfl⟩:=rJ hx;obtain⟨u,rfl⟩:=rJ hy;cases hb:(true&&i==0) with
    |true=>exact oneLt_str h
    |false=>exact kat_one _ _ (lt_str h)
theorem wK(T:dG prog w s.heap vs ks)(hm:Io ks)(i j:Nat)(C:Bool->Shared->Prop)(hi:i<ks.length)(v:j<ks.length)(h:C (fe (ks.getD i []) (ks.getD j [])) s):kas_cmp prog w A (tuples' true) (vs.toArray.zip vs.toArray) i j C s:=by
 have e:kas_cmp prog w A (tuples' true) (vs.toArray.zip vs.toArray) i j C s=kas_ask prog w A (tuples' true) vs i j C s:=by rw[kas_ask_eq];rfl
 rw[e];unfold kas_ask;obtain⟨b,o,k,xs,D,h1,h2,h3⟩:=T.at i hi;obtain⟨Q,o',k',ys,p,a,f,x⟩:=T.at j v;rw[D,p];have mem:∀i,i<ks.length->ks.getD i []∈ks:=λi hi=>by rw[show ks.getD i []=ks[i] by simp[hi]];exact OM hi
 refine kat_lt h1 h2 a f (sv 0 h3 x ?_ ?_ h)
 .rcases hm with hm|hm
  .exact .inl ⟨(hm _ (mem i hi)).2,(hm _ (mem j v)).2⟩
  .exact .inr ⟨(hm _ (mem i hi)).2,(hm _ (mem j v)).2⟩
 .rw[Nk,Nk,kQ h3,kQ x]
theorem Jq(c:Cc f n)(p:List Nat)(e:c.it=vs.toArray.zip vs.toArray):(c.ar p.toArray).map (·.2)=OH (p.map λi=>vs.getD i .none):=by
 unfold Cc.ar;rw[Array.map_map];simp only[List.map_toArray]
 congr 1
 apply Qe;intro i _;show (kas_item c.it i).2=_;rw[e,kat_item rfl]
theorem lP{a:Addr}{n:Nat}(ho:s.heap.get? a=some (seqObj "list" vs.toArray n))(T:dG prog w s.heap vs ks)(hm:Io ks)(nd:ks.Nodup)(hz:vs.length<=sizeLine)
  (h:P (.done (.ret .none)) { s with heap:=sortedHeap s.heap a vs (OH ((aV ks).map λi=>vs.getD i .none)) }):wpAny (model prog w) A (Builtin.«list.sort» ⟨[.ref a],[]⟩) P E s:=by
 rw[list_sort_plain];have hl:=T.len;have m:((aV ks).map λi=>vs.getD i .none).length=vs.length:=by rw[Nl,(a8 ks).length_eq,Oi,hl]
 have ha:a<s.heap.objs.size:=Nz ho;refine wpAny_bind (listItems_at ho rfl ?_);refine wpAny_bind (listUpdate_at ho rfl ?_ (by rw[Nk];exact hz) (Ou _));obtain⟨D,X⟩:∃D,(s.heap.update a (PM λ_=>#[])).get? a=some (seqObj "list" #[] D):=⟨_,get?_update_seq ho (λ_=>#[])⟩
 refine wpAny_bind (seqEpoch_at X rfl ?_);refine wpAny_bind (wpAny_newTuple ?_ (by show vs.length<=_;exact hz));refine wpAny_bind (wpAny_newList ?_ (Ou _));refine wpAny_holding ?_;generalize I:((s.heap.update a (PM λ_=>#[])).push (seqObj "tuple" vs.toArray 0)).push (seqObj "list" #[] 0)=h6;have x:h6.get? a=some (seqObj "list" #[] D):=by rw[<-I,Uu _ _ _ (by rw[size_push',UC];exact NR (O9 ha)),Uu _ _ _ (by rw[UC];exact NR ha)];exact X
 have l:dG prog w h6 vs ks:=T.keep λb o e c=>by
  rw[<-I];refine Nm _ (Nm _ ?_);rw[Heap.get?_update_ne _ _ _ _ λz=>?_]
  .exact e
  .subst z;rw[ho] at e;cases e;exact absurd (show Qi "list" = Qi "tuple" from c) (by decide)
 show wpAny (model prog w) A _ P E { s with heap:=h6 };have h:P (.done (.ret .none)) { s with heap:=h6.update a (PM λ_=>OH ((aV ks).map λi=>vs.getD i .none)) }:=by rw[<-I];exact h
 dsimp only;by_cases h2:vs.toArray.size<2
 .rw[if_pos h2,if_pos h2];refine wpAny_bind (wpAny_pure ?_);rw[StateT.run_pure];refine wpAny_bind (wpAny_pure ?_);dsimp only;refine wpAny_bind (seqEpoch_at x rfl ?_);refine wpAny_bind (listUpdate_at x rfl ?_ (hsz2:=by rw[Rz];show (pairsOf vs).size<=_;rw[pairsOf_size];lia));simp only[bne_self_eq_false,NY,if_false];have e:(arrOf (Qg general' (vs.toArray.zip vs.toArray) #[] 7 none)).map (·.2)=OH ((aV ks).map λi=>vs.getD i .none):=by rw[Nk] at h2;have B:aV ks=NA ks.length:=qQ (by rw[Oi];lia) (a8 ks);rw[B,hl];exact pe h2
  rw[<-e] at h;exact wpAny_pure h
 .rw[if_neg h2,if_neg h2];rw[Nk] at h2;have y:∀k∈ks,k≠[]:=λk hk=>by
   rcases hm with hm|hm
   .exact(hm k hk).1
   .exact(hm k hk).1
  obtain⟨fs,V,K,q⟩:=l.Mx y;have kind:∀Q:SortKind->Shared->Prop,Q (tuples' true) { s with heap:=h6 }->wpAny (model prog w) A (keyKind' vs.toArray) Q E { s with heap:=h6 }:=λQ m=>by
   rcases hm with hm|hm
   .refine kat_kind (T:=.type "int") V (by lia) (λv u=>?_) rfl m;obtain⟨k,f,e,Y,G⟩:=q v u;obtain⟨i,rfl⟩:=(hm k f).2 e Y;rcases aL G with ⟨_,_,_,rfl⟩|⟨_,_,z,_⟩
    .exact .now
    .cases z
   .refine kat_kind (T:=.type "str") V (by lia) (λv u=>?_) rfl m;obtain⟨k,f,e,Y,G⟩:=q v u;obtain⟨i,rfl⟩:=(hm k f).2 e Y;rcases aL G with ⟨_,_,z,_⟩|⟨_,_,_,rfl⟩
    .cases z
    .exact .now
  refine wpAny_bind (kind _ ?_);have R:=uk (ks:=ks) nd ⟨prog,w,A,E,tuples' true,vs.toArray.zip vs.toArray,{ s with heap:=h6 },λi j C hi H hc=>wK l hm i j C hi H hc⟩;have r:∀c:Cc (λi j=>fe (ks.getD i []) (ks.getD j [])) ks.length,c.κ=tuples' true->c.it=vs.toArray.zip vs.toArray->c.st ⟨OH (NA ks.length),#[],7⟩=Qg (tuples' true) (vs.toArray.zip vs.toArray) #[] 7 none:=by intro c hk hi;unfold Cc.st Cc.ar;rw[hk,hi];have:=kas_range (vs.toArray.zip vs.toArray);rw[show (vs.toArray.zip vs.toArray).size=ks.length by rw[hl];simp] at this;rw[this]
  rw[r _ rfl rfl] at R;refine wpAny_bind (wpAny_mono R ?_ λ_ _ e=>e);rintro⟨⟨⟩,N⟩ s' ⟨hp,hf,rfl⟩;dsimp only;have p:(arrOf N).map (·.2)=OH ((aV ks).map λi=>vs.getD i .none):=by rw[hp];exact Jq _ _ rfl
  refine wpAny_bind (seqEpoch_at x rfl ?_);refine wpAny_bind (listUpdate_at x rfl ?_ (hsz2:=by rw[p,Nk,m];lia));rw[hf];simp only[bne_self_eq_false,NY,if_false];rw[p];exact wpAny_pure h
end
variable{h h':Heap}
section
open PySem.Spec PyProof.Rows PySem.W PySem.Calls
variable{prog:Program}{w:World}{A:Around}{E:Value->Shared->Prop}{s:Shared}{d it:Addr}{es:Array DictEntry}{ep i:Nat}
def iZ(h:Heap)(d:Addr)(es:Array DictEntry)(ep:Nat):Prop:=∃o,h.get? d=some o/\o.ExactDict/\o.data=.dict es ep
theorem iZ.ty(x:iZ s.heap d es ep):s.TypeIs (.ref d) "dict" := let ⟨o,ho,hc,_⟩:=x;⟨o,ho,hc.1⟩
theorem iZ.lt(x:iZ h d es ep):d<h.objs.size:=let ⟨_,ho,_⟩:=x;Nz ho
theorem iZ.to(x:iZ h d es ep)(e:∀o,h.get? d=some o->h'.get? d=some o):iZ h' d es ep:=let ⟨o,ho,r⟩:=x;⟨o,e _ ho,r⟩
theorem yp{Q:Value->Shared->Prop}(hd:(d==sysModules)=false)(hm:iZ s.heap d es ep)
  (I:Q (.ref s.heap.objs.size) { s with heap:=s.heap.push { cls:=.type "dict_keyiterator",data:=.fields #[.ref d,.int 0 0,.int es.size 0,.int ep 0] } }):wpAny (model prog w) A (pyIter (.ref d)) Q E s:=by
 have hT:=hm.ty;obtain⟨o,ho,hc,h⟩:=hm;refine wpAny_pyIter_slot hT Va (wpAny_call_entry Va hT F.entry_dict_iter ?_ (F.args_dict_iter_1 _));unfold Builtin.«dict.__iter__»;refine wpAny_bind ?_;unfold Vy;refine wpAny_bind (wpAny_notOrdered_dict hT ?_);show wpAny _ _ (pure (Of d)) _ _ s;refine wpAny_pure ?_;show wpAny _ _ (Su d >>= _) _ _ s;unfold Su;rw[if_neg (by rw[hd];exact Og)];refine wpAny_bind (wpAny_pure (wpAny_bind (wpAny_dictEntries ho h (wpAny_bind (wpAny_dictEpoch ho h ?_)))));refine wpAny_bind (wpAny_newObj_type (wpAny_pure ⟨_,rfl, "dict_keyiterator",_,⟨_,NH _ rfl,rfl⟩,Pe.lookup,?_⟩));simpa[rawInt] using I
theorem zq{Q:Option Value->Shared->Prop}(x:s.heap.IsKeyIter it d i es.size ep)(hm:iZ s.heap d es ep)(a:i<es.size)
  (I:∀h',h'.IsKeyIter it d (i+1) es.size ep->Qp it s.heap h'->Q (some es[i].key) { s with heap:=h' }):wpAny (model prog w) A (pyNext (.ref it)) Q E s:=by
 obtain⟨o,ho,hc,hd⟩:=id x;obtain⟨od,h,C,l⟩:=hm;unfold pyNext;refine wpAny_bind (wpAny_attempt (wpAny_callSpecial?_slot (name:=QH "__next__") x.typeIs Pe
  (wpAny_call_entry Pe x.typeIs SQ ?_ (SF _))))
 refine wpAny_bind (wpAny_pure (wpAny_bind (wpAny_bind ?_)));refine wpAny_bind (wpAny_typeNameOfWhole_keyiter x.typeIs (wpAny_pure (wpAny_bind (wpAny_fieldsOf ho hd ?_))));have p:Rf "dict_keyiterator" = false:=by decide
 simp only[p,NY,if_false];show wpAny _ _ (if (Of d==P1)=true then _ else _) _ _ s;rw[if_neg (show ¬ ((Of d==P1)=true) from Og)];refine wpAny_bind (wpAny_pure (wpAny_bind (wpAny_dictEntries h l ?_)));rw[if_neg (by simp)];refine wpAny_bind (wpAny_pure (wpAny_bind (wpAny_dictEpoch h l ?_)));rw[if_neg (by simp)];refine wpAny_pure ?_;simp only[show ¬ ((i:Int)<0) from by lia,if_false,OF,NC a];refine wpAny_bind ?_;refine wpAny_bind (wpAny_typeNameOfWhole_keyiter x.typeIs (wpAny_pure (wpAny_bind (wpAny_isOneOf_keyiter x.typeIs ?_))));show wpAny _ _ (setField (.ref it) 1 (rawInt ((i:Int)+1)) >>= _) _ _ s;refine wpAny_bind (wpAny_setField ho hd (by simp) ?_);have b:(s.heap.update it (OW (·.setIfInBounds 1 (rawInt ((i:Int)+1))))).IsKeyIter it d (i+1) es.size ep:=
  ⟨_,Ph _ ho (TY (QQ hd _)),(UD ..).trans hc,by rw[QQ hd];simp[rawInt]⟩
 refine wpAny_bind (wpAny_holding (wpAny_bind (wpAny_isOneOf_keyiter (s:={ s with heap:=s.heap.update it (OW (·.setIfInBounds 1 (rawInt ((i:Int)+1)))) }) b.typeIs ?_)));show wpAny _ _ (pure es[i].key) _ _ _;exact wpAny_pure (wpAny_pure ⟨_,rfl,wpAny_pure (I _ b (PU ..))⟩)
theorem Bj{Q:Option Value->Shared->Prop}(V:A.handled=none)(x:s.heap.IsKeyIter it d es.size es.size ep)(hm:iZ s.heap d es ep)(I:∀h',Heap.ExtBut it s.heap h'->Q none { s with heap:=h' }):wpAny (model prog w) A (pyNext (.ref it)) Q E s:=by
 obtain⟨o,ho,hc,hd⟩:=id x;obtain⟨od,h,C,l⟩:=hm;unfold pyNext;refine wpAny_bind (wpAny_attempt (wpAny_callSpecial?_slot (name:=QH "__next__") x.typeIs Pe
  (wpAny_call_entry Pe x.typeIs SQ ?_ (SF _))))
 refine wpAny_bind (wpAny_pure (wpAny_bind (wpAny_bind ?_)));refine wpAny_bind (wpAny_typeNameOfWhole_keyiter x.typeIs (wpAny_pure (wpAny_bind (wpAny_fieldsOf ho hd ?_))));have p:Rf "dict_keyiterator" = false:=by decide
 simp only[p,NY,if_false];show wpAny _ _ (if (Of d==P1)=true then _ else _) _ _ s;rw[if_neg (show ¬ ((Of d==P1)=true) from Og)];refine wpAny_bind (wpAny_pure (wpAny_bind (wpAny_dictEntries h l ?_)));rw[if_neg (by simp)];refine wpAny_bind (wpAny_pure (wpAny_bind (wpAny_dictEpoch h l ?_)));rw[if_neg (by simp)];refine wpAny_pure ?_;simp only[show ¬ ((es.size:Int)<0) from by lia,if_false,OF,OG (Nr es.size)];refine wpAny_bind ?_;refine wpAny_bind (wpAny_typeNameOfWhole_keyiter x.typeIs (wpAny_pure ?_));show wpAny _ _ (setField (.ref it) 0 .none >>= _) _ _ s;refine wpAny_bind (wpAny_setField ho hd (by simp) ?_);show wpAny _ _ (newExc (.type "StopIteration") [] >>= _) _ _ _;refine wpAny_bind ?_;simp only[newExc,newTuple];refine wpAny_bind (wpAny_newObj_type ?_ (by size_fits));refine wpAny_bind (m:=firstArgMember _ _) (wpAny_of_eq (a:=P1) (by first|rfl|(simp only[firstArgMember];rfl)) ?_);refine wpAny_newObj_type ?_ (by size_fits);simp only[raiseNew];refine wpAny_bind (wpAny_handled ?_);rw[show A.in1.handled=none from V];refine wpAny_bind (wpAny_pure (wpAny_throw ?_));refine wpAny_bind (wpAny_isInstance (T:= "StopIteration") (b:=true) ⟨_,NH _ rfl,rfl⟩ isSubtype_stop ?_);exact wpAny_pure (I _ (((PU ..).extBut.push _).push _))
theorem A6(lo:(d==sysModules)=false):KdlSrc prog w "dict" d d es.size (λi v=>∃e,es[i]?=some e/\v=e.key) (λh=>iZ h d es ep) where
 type:=λ_ hm=>hm.ty
 there:=λ_ hm=>⟨hm.lt,hm.lt⟩
 keep:=λ_ _ hm hk=>hm.to λo e=>hk d (.inl rfl) o e
 notList:=by decide
 notTuple:=by decide
 hint:=λ_ _ _ _ hm R=>kdl_hint_dict hm.ty R
 iter:=λA s V hm=>⟨_,λi h=>h.IsKeyIter s.heap.objs.size d i es.size ep/\iZ h d es ep,(λ_ _ R=>yp lo hm R),{
  sub:=λb hb=>by simp at hb;simp[hb]
  frame:=λ_ _ _ st hk=>⟨st.1.at λo e=>hk _ (by simp) o e,st.2.to λo e=>hk d (by simp) o e⟩
  item:=λi s' Q E hi st I=>zq st.1 st.2 hi λh' x y=>I _ h' s'.toks ⟨es[i],by simp[hi],rfl⟩ ⟨x,st.2.to λo e=>y.extBut d o (NR hm.lt) e⟩ λb o hb e=>y.extBut b o (λh=>hb (by simp[h])) e
  done:=λs' Q E st I=>Bj V st.1 st.2 λh' m=>I h' s'.toks λb o hb e=>m b o (λh=>hb (by simp[h])) e
  self:=λ_ _ _ _ st I=>wpAny_pyIter_keyiter st.1 I },⟨⟨_,NH _ rfl,rfl,rfl⟩,hm.to λo e=>Nm _ e⟩⟩
end
variable{w:World}{ys:List (List Key×Addr×Value)}{u:Value}{β:Type}{pos:Pos}
section
variable{X:Cx}{E:XK}{pins:List (Addr×Obj)}{Y:St}{H:Hp}{s:Shared}{a b:Addr}
theorem CP{P:Program}{a:Addr}{xs:List (List Key×Addr×V)}(z:xs.length<=sizeLine)(lo:(a==sysModules)=false)(r:Cy xs ys)
  (d:∃o es ep,h.get? a=some o/\o.ExactDict/\o.data=.dict es ep/\es.toList=ys.map (entryOfKey (tupleKind (aW P w)))/\(ys.map (·.1)).Nodup):bj P w H h a (dX P w a xs):=by
 obtain⟨o,es,ep,h1,h2⟩:=d;refine⟨⟨z,lo,ys,r,o,es,ep,h1,h2⟩,⟨o,h1⟩,?_⟩;rintro i b ⟨z,lo,ys,r,o,es,ep,h1,h2⟩ k;exact⟨z,lo,ys,r,o,es,ep,k o h1,h2⟩
theorem rb{ks:List Key}(I:Inv X pins Y H s)(e:cQ X.K H b (ks.map kV)):(tupleKind (aW X.prog X.w)).is s.heap ks b:=by obtain⟨g,r,⟨o,h1,h2,n,h3⟩,_⟩:=I.tuple e;exact⟨o,g.toArray,n,h1,h2,h3,by simpa using hU r⟩
theorem Cy.keys{xs:List (List Key×Addr×V)}(r:Cy xs ys):ys.map (λy=>(y.1,y.2.1))=xs.map λx=>(x.1,x.2.1):=by
 induction r with
 |nil=>rfl
 |cons h _ j=>rw[NK,NK,j,h.1,h.2.1]
theorem Ii{xs:List (List Key×Addr×V)}(I:Inv X pins Y H s)(e:H a=some (dX X.prog X.w a xs))(hk:∀x∈xs,cQ X.K H x.2.1 (x.1.map kV)):xs.length<=sizeLine/\(a==sysModules)=false /\
  ∃ys,Cy xs ys/\s.heap.DictOfH (tupleKind (aW X.prog X.w)) a ys:=by
 obtain⟨⟨z,lo,ys,r,o,es,ep,h1,h2,h3,h4,h5⟩,_⟩:=(show bj X.prog X.w H s.heap a (dX X.prog X.w a xs) from I.hok a _ e)
 refine⟨z,lo,ys,r,o,es,ep,h1,h2,h3,h4,λy hy=>?_,h5⟩;have m:(y.1,y.2.1)∈xs.map λx=>(x.1,x.2.1):=by rw[<-r.keys];exact NB.mpr ⟨y,hy,rfl⟩
 obtain⟨x,hx,e⟩:=NB.mp m;have:=rb I (hk x hx);rw[(Qh e).1,(Qh e).2] at this;exact this
noncomputable def mB{β:Type}(xs:List (List Key×Addr×β))(k:List Key)(b:Addr)(v:β):List (List Key×Addr×β):=if (xs.any λx=>decide (x.1=k))=true then xs.map λx=>if x.1=k then (x.1,x.2.1,v) else x else xs++[(k,b,v)]
theorem Cy.put{xs:List (List Key×Addr×V)}(r:Cy xs ys)(k:List Key){v:V}(rv:RelV v u):Cy (mB xs k b v) (storedH ys k b u):=by
 have e:(xs.any λx=>decide (x.1=k))=(atKey ys k).isSome:=by
  induction r with
  |nil=>rfl
  |@cons p q ps H h t j=>
   rw[RQ,j];by_cases z:p.1=k
   .have i:q.1=k:=h.1.symm.trans z;simp[atKey,UM,z,i]
   .have i:¬ q.1=k:=λy=>z (h.1.trans y);simp[atKey,UM,z,i]
 unfold mB storedH;rw[e];by_cases q:(atKey ys k).isSome=true
 .rw[if_pos q,if_pos q];clear e q;induction r with
  |nil=>exact .nil
  |@cons p q ps H h t j=>
   rw[NK,NK];refine .cons ?_ j;unfold putAt;by_cases z:p.1=k
   .rw[if_pos z,if_pos (h.1.symm.trans z)];exact⟨h.1,h.2.1,rv⟩
   .rw[if_neg z,if_neg (λy=>z (h.1.trans y))];exact h
 .rw[if_neg q,if_neg q];exact Paired.snoc r ⟨rfl,rfl,rv⟩
theorem zy(xs:List (List Key×Addr×β))(k:List Key)(b:Addr)(v:β):(mB xs k b v).length<=xs.length+1:=by
 unfold mB;split
 .rw[Nl];lia
 .simp
def CS(X:Cx)(H:Hp)(a:Addr)(y v:V)(H':Hp):Prop:=∃xs k b,H a=some (dX X.prog X.w a xs)/\(∀x∈xs,cQ X.K H x.2.1 (x.1.map kV))/\y=.ref b/\cQ X.K H b (k.map kV)/\xs.length<sizeLine/\H'=upd H a (dX X.prog X.w a (mB xs k b v))
theorem EC{A:Around}{E:Value->Shared->Prop}{y v:V}{r:Value}{H':Hp}{Q:Unit->Shared->Prop}(B:A.units+1<cLine)(I:Inv X pins Y H s)(g:CS X H a y v H')(P:RelV y u)(rv:RelV v r)(h:∀s',Inv X pins Y H' s'->Q () s'):
  wpAny (model X.prog X.w) A (setItem (.ref a) u r) Q E s:=by
 obtain⟨xs,k,b,e,hk,rfl,eb,hl,rfl⟩:=g;cases (show u=Of b from P);obtain⟨z,hd,ys,rel,L⟩:=Ii I e hk;have hz:ys.length<=sizeLine:=by rw[<-SI rel];exact z
 have i:(mB xs k b v).length<=sizeLine:=by have:=zy xs k b v;lia
 refine wpAny_setItem_heap (hsz:=hz) (tupleKind_room_in1 B) (rb I eb) L λh' x hs=>h _ ?_;obtain⟨q,es,ep,R,h2,h3,h4,_,h5⟩:=x;exact AG I (by rw[e];exact True.intro) hs ⟨q,R⟩ (CP i hd (rel.put k rv) ⟨q,es,ep,R,h2,h3,h4,h5⟩)
theorem EY:PE X (.Dict [] [] pos) (λ_ H Q=>∀p,H p=none->Q (.ref p) (upd H p (dX X.prog X.w p []))):=λpins s Y H Q I h=>
 wpAny_Dict_empty ⟨.ref s.heap.objs.size,_,I.laid (a:=s.heap.objs.size) (o:=dX X.prog X.w s.heap.objs.size []) (t':=s.toks) (λ_ _ q=>Nm _ q) (Nr _)
  (CP (ys:=[]) (Ou _) (beq_eq_false_iff_ne.mpr (Pa (NR I.big))) .nil ⟨_,#[],0,NH _ rfl,⟨rfl,rfl,rfl⟩,rfl,rfl,SR⟩),rfl,h _ (I.hok.fresh (Nr _))⟩
noncomputable def DA(X:Cx)(b ty h:TE):TS:=λD Y H=>h Y H λv T=>b Y T λx S=>ty Y S λy t=>∃a c,x=.ref a/\CS X t a y v c/\D.nx Y c
theorem yi{o i value:Expr}{b:Pos}{f ty m:TE}(B:X.A.units+1<cLine)(ho:PE X o f)(hi:PE X i ty)(p:PE X value m)(hs:swapsWith value (some (.Subscript o i b)) pos.line X.env=pure false):
  PS X (.Assign [.Subscript o i b] value pos) (DA X f ty m):=by
 intro pins s Y H D I h;refine wpAny_Assign_Subscript (bA (p pins s Y H _ I h) λr s1 ⟨v,T,V,rv,d⟩=>bA (ho pins s1 Y T _ V d) λu s2 ⟨x,S,e,C,n⟩=>bA (hi pins s2 Y S _ e n) λJ O ⟨y,t,z,P,a,c,ex,g,q⟩=>?_) hs;subst ex;obtain rfl:u=Of a:=C;exact EC B z g P rv λK E=>⟨Y,c,E,q⟩
def xV(X:Cx):List V->Hp->VK->Prop:=λus H Q=>∃(a:Addr)(xs:List (List Key×Addr×V)),us=[.ref a]/\H a=some (dX X.prog X.w a xs)/\(∀x∈xs,cQ X.K H x.2.1 (x.1.map kV))/\Io (xs.map (·.1)) /\
 ∀r,H r=none->Q (.ref r) (upd H r (.lst ((aV (xs.map (·.1))).map λi=>((xs.map λx=>x.2.1).map V.ref).getD i .non)))
theorem mj(I:Inv X pins Y H s):∀{bs:List Addr}{ks:List (List Key)},bs.length=ks.length->(∀(i:Nat)(b:Addr)(k:List Key),bs[i]?=some b->ks[i]?=some k->cQ X.K H b (k.map kV))->dG X.prog X.w s.heap (bs.map Of) ks
 |[],[],_,_=>.nil
 |[],_::_,h,_=>nomatch h
 |_::_,[],h,_=>nomatch h
 |b::bs,k::ks,h,e=>by obtain⟨g,r,⟨o,h1,h2,n,h3⟩,_⟩:=I.tuple (e 0 b k rfl rfl);exact .cons h1 h2 h3 (hU r) (mj I (UE h) λi b k hb hk=>e (i+1) b k hb hk)
theorem lU:∀{k:List Int}{us:List Value},Vals (k.map V.int) us->Vz us k
 |[],_,.nil=>.nil
 |i::k,_,.cons h r=>by obtain⟨t,e⟩:=h;subst e;exact .cons i t (lU r)
theorem lF:∀bs:List Addr,Vals (bs.map V.ref) (bs.map Of)
 |[]=>.nil
 |_::bs=>.cons rfl (lF bs)
open PySem.Spec PyProof.Rows PySem.W in
theorem nj(hc:X.calm=true):dy X (.builtin "sorted") (xV X):=by
 intro pins s Y H vs us Q I rv h;obtain⟨a,xs,rfl,hd,tk,hm,q⟩:=h;obtain⟨u,rfl,C⟩:=rv.one;cases C;obtain⟨⟨hz,lo,ys,P,o,es,ep,h1,h2,h3,h4,h5⟩,_⟩:=(show bj X.prog X.w H s.heap a (dX X.prog X.w a xs) from I.hok a _ hd)
 have T:dG X.prog X.w s.heap ((xs.map λx=>x.2.1).map Of) (xs.map (·.1)):=mj I (by simp) λi b k hb hk=>by
  rw[NS] at hb hk;cases z:xs[i]? with
  |none=>rw[z] at hb;cases hb
  |some x=>rw[z] at hb hk;cases hb;cases hk;exact tk x (NV z)
 have hsz:es.size=ys.length:=size_of_entries h4;have E:ys.length=xs.length:=(SI P).symm;have nd:(xs.map (·.1)).Nodup:=by have:=congrArg (SS U0) P.keys;rw[Om,Om] at this;have e:ys.map (·.1)=xs.map (·.1):=this;rw[<-e];exact h5
 refine SU kind_sorted plain_sorted entry_sorted (args_sorted1 _) ?_;unfold Builtin.«sorted»;refine wpAny_bind (m:=checkCount "sorted" 1 1 _) (wpAny_pure ?_);refine wpAny_bind (kdu_collect (A:=X.A.in1) (A6 (es:=es) (ep:=ep) lo) (I.ok.hd hc) ⟨o,h1,h2,h3⟩ (by rw[hsz,E];exact hz) λh' J acc hk r=>?_);have ea:acc.toList=(xs.map λx=>x.2.1).map Of:=by
  have B:(xs.map λx=>x.2.1)=ys.map λy=>y.2.1:=by have:=congrArg (SS Prod.snd) P.keys;rw[Om,Om] at this;exact this.symm
  rw[B];apply O8;intro j;rw[NS,NS,NZ];cases l:acc[j]? with
  |none=>
   have:acc.size<=j:=by simpa using l
   rw[OK (by rw[<-hsz,<-r.1];exact this)];rfl
  |some v=>
   obtain⟨e,he,rfl⟩:=r.2 j v l;rw[entry_at h4] at he;cases ex:ys[j]? with
   |none=>rw[ex] at he;cases he
   |some x=>rw[ex] at he;cases he;rfl
 have p:acc.toList.length=xs.length:=by rw[ea,Nl,Nl]
 refine wpAny_bind (wpAny_newList ?_ (by rw[p];exact hz));have f:(h'.push (seqObj "list" acc.toList.toArray 0)).get? h'.objs.size=some (seqObj "list" acc.toList.toArray 0):=NH _ rfl;have K:dG X.prog X.w (h'.push (seqObj "list" acc.toList.toArray 0)) acc.toList (xs.map (·.1)):=by rw[ea];exact T.keep λb o e _=>Nm _ (hk b o e)
 refine wpAny_bind (wpAny_holding (wpAny_call_entry slot_list_sort ⟨_,f,rfl⟩ entry_list_sort (lP f K hm nd (by rw[p];exact hz) ⟨_,rfl,?_⟩) (args_list_sort _)));obtain⟨e,he⟩:=sortedHeap_at (vs:=acc.toList) (n:=0) (out:=OH ((aV (xs.map (·.1))).map λi=>acc.toList.getD i .none)) f;have hf:∀b o,s.heap.get? b=some o->b≠h'.objs.size:=λb o z=>NR (Nz (hk b o z));refine wpAny_pure ⟨_,rfl,.ref _,_,I.Du (t':=J) (a:=h'.objs.size) (o:=.lst ((aV (xs.map (·.1))).map λi=>((xs.map λx=>x.2.1).map V.ref).getD i .non)) (λb o z=>?_) hf ⟨?_,(aV (xs.map (·.1))).map λi=>acc.toList.getD i .none,e,?_,he⟩,rfl,q _ (I.lY hf)⟩
 .rw[sortedHeap_old (hf b o z) (by rw[size_push'];exact O9 (Nz (hk b o z)))];exact Nm _ (hk b o z)
 .rw[Nl,(a8 (xs.map (·.1))).length_eq,Oi,Nl];exact hz
 .rw[ea];exact Vals.pick (lF _) _
end
def ql:List A->Option (List Key)
 |[]=>some []
 |a::r=>match FN a,ql r with
  |some y,some ys=>some (y::ys)
  |_,_=>none
def zr:A->Option (List Key)
 | .tup xs=>ql xs
 |_=>none
theorem qY{K:Kx}{G:Hp}:∀{vs:List V}{as:List A}{ys:List Key},bh K G vs as->ql as=some ys->vs=ys.map kV
 |_,_,_,.nil,h=>by cases h;rfl
 |_,_,_,.cons (a:=a) (as:=as) q r,h=>by
  unfold ql at h;cases D:FN a with
  |none=>simp only[D] at h;cases h
  |some y=>cases F:ql as with
   |none=>simp only[D,F] at h;cases h
   |some ys=>simp only[D,F] at h;cases h;rw[Ey q D,qY r F];rfl
noncomputable def qS(kvs:List (List Key×A))(y:List Key)(a:A):List (List Key×A):=if (kvs.any λx=>decide (x.1=y))=true then kvs.map λx=>if x.1=y then (x.1,a) else x else kvs++[(y,a)]
section
variable{k:Kx}{G:Hp}
theorem iW.len:∀{vs:List (List Key×Addr×V)}{as:List (List Key×A)},iW k G vs as->vs.length=as.length
 |_,_,.nil=>rfl
 |_,_,.cons _ _ r=>congrArg (·+1) r.len
theorem iW.any(y:List Key):∀{vs:List (List Key×Addr×V)}{as:List (List Key×A)},iW k G vs as->(vs.any λx=>decide (x.1=y))=as.any λx=>decide (x.1=y)
 |_,_,.nil=>rfl
 |_,_,.cons _ _ r=>by rw[RQ,RQ,r.any y]
theorem iW.Gq{y:List Key}{v:V}{a:A}(h:RA k G v a):∀{vs:List (List Key×Addr×V)}{as:List (List Key×A)},iW k G vs as->iW k G (vs.map λx=>if x.1=y then (x.1,x.2.1,v) else x) (as.map λx=>if x.1=y then (x.1,a) else x)
 |_,_,.nil=>.nil
 |_,_,.cons (y:=z) e q r=>by
  rw[NK,NK];by_cases w:z=y
  .rw[if_pos w,if_pos w];exact .cons e h (r.Gq h)
  .rw[if_neg w,if_neg w];exact .cons e q (r.Gq h)
theorem iW.snoc{y:List Key}{b:Addr}{v:V}{a:A}(e:cQ k.K G b (y.map kV))(h:RA k G v a):∀{vs:List (List Key×Addr×V)}{as:List (List Key×A)},iW k G vs as->iW k G (vs++[(y,b,v)]) (as++[(y,a)])
 |_,_,.nil=>.cons e h .nil
 |_,_,.cons e' q r=>.cons e' q (r.snoc e h)
theorem iW.put{y:List Key}{b:Addr}{v:V}{a:A}(e:cQ k.K G b (y.map kV))(h:RA k G v a){vs:List (List Key×Addr×V)}{as:List (List Key×A)}(r:iW k G vs as):iW k G (mB vs y b v) (qS as y a):=by
 unfold mB qS;rw[r.any y];by_cases q:(as.any λx=>decide (x.1=y))=true
 .rw[if_pos q,if_pos q];exact r.Gq h
 .rw[if_neg q,if_neg q];exact r.snoc e h
theorem iW.sq:∀{vs:List (List Key×Addr×V)}{as:List (List Key×A)},iW k G vs as->∀x∈vs,cQ k.K G x.2.1 (x.1.map kV)
 |_,_,.nil,_,h=>nomatch h
 |_,_,.cons e _ r,x,h=>by
  rcases ND.mp h with rfl|h
  .exact e
  .exact r.sq x h
end
variable{c:Cn}{H:Hp}{Z θ:List Sl}
theorem dZ.top{Y:St}{B:St}{L:List Addr}{v:V}{a:A}(b:dZ c Y H Z (some v::B) (.fr a::θ) L):dZ c Y H Z B θ L/\RA c.toKx (c.g H L) v a:=by
 obtain⟨nd,rel,own,fr,kp,lt,hd⟩:=b;have rel:av c.toKx (c.g H L) H (some v::(B++Y)) (.fr a::(θ++Z)) L:=rel;cases rel with
 |cons h r=>cases h with
  |fr q=>exact⟨⟨nd,r,own,fr,kp,by simpa using lt,hd⟩,q⟩
def B9(Z:List Sl)(i:Nat):Bool:=match aM Z i with
 |some (.dit _)=>true
 |_=>false
theorem uh(h:B9 Z i=true):∃xs,aM Z i=some (.dit xs):=by
 unfold B9 at h;cases e:aM Z i with
 |none=>rw[e] at h;cases h
 |some o=>cases o with
  |dit xs=>exact⟨xs,rfl⟩
  |lst _=>rw[e] at h;cases h
  |dic _=>rw[e] at h;cases h
  |obj _ _=>rw[e] at h;cases h
variable{px p1:Pos}{e:Expr}
section
variable{X:Cx}{E:XK}
noncomputable def mH:Mi Rr:=λZ=>some (.ok (.nw (.dit [])),Z)
theorem yE{pos}:JE X E (.Dict [] [] pos) mH:=⟨PE.weaken EY λY H Q h=>by obtain⟨c,Z,B,θ,o,O,e,b,em,q⟩:=h;cases em;intro p hp;obtain⟨L,bl⟩:=b;refine q _ _ trivial (bl.iG hp λG H' sm V=>?_);rw[e];exact .dit V .nil⟩
def oV(i:Nat)(mk m:Mi Rr):Ms:=cc m λr Z1=>if B9 Z1 i then cc mk (λY=>λZ=>match bg r Z with
 |some (a,U)=>match res U Y,aM U i with
  |some ka,some (.dit kvs)=>match zr ka with
   |some y=>if kvs.length<=16000000 then some (.nx,setAt U i (.dit (qS kvs y a))) else none
   |none=>none
  |_,_=>none
 | none=>none) Z1 else none
theorem BH{x:Str}{ek:Expr}{mk m:Mi Rr}(hu:X.A.units+1<cLine)(hN:X.N[i]?=some x)(hv:pH X.env.scope x)(hd:gq x)(hcd:uR x)(hk:JE X E ek mk)(he:JE X E e m)
  (hs:swapsWith e (some (.Subscript (.Name x px) ek p1)) pos.line X.env=pure false:=by rfl):JS X E (.Assign [.Subscript (.Name x px) ek p1] e pos) (oV i mk m):=
 ⟨PS.weaken (yi hu (dF hN hv hd hcd) hk.p he.p hs) λD Y H h=>by
  obtain⟨c,Z,B,θ,f,O,ek,b,em,q⟩:=h;refine d9 ek b em q λr v U H1 hv b1 em1=>?_;split at em1
  .rename_i hl;obtain⟨xs0,hl⟩:=uh hl;obtain⟨p,hp⟩:∃p,Y[i]?=some (some (.ref p)):=by obtain⟨L,bl⟩:=b1;obtain⟨p,h1,_⟩:=bl.live hl (.dit xs0) (.lst []);exact⟨p,h1⟩
   refine⟨_,hp,?_⟩;rcases cv em1 with ⟨rk,Z0,e1,e2⟩|⟨ee,e1,e2⟩
   .refine⟨c,U,_,_,_,Z0,ek,b1,e1,λw H2 hw b2=>?_⟩;cases ef:bg r Z0 with
    |none=>simp only[ef] at e2;cases e2
    |some pr=>
     obtain⟨a,F⟩:=pr;simp only[ef] at e2;have b3:Bd c Y H2 F (bx rk w (some v::B)) (bz rk (.fr a::θ.map Sl.fr)):=by obtain⟨g1,g2,g3⟩:=fJ rk w (bx r v B) (bz r (θ.map Sl.fr));obtain⟨g4,g5,_⟩:=fJ rk w (some v::B) (.fr a::θ.map Sl.fr);rw[g4,g5];rw[g1,g2] at b2;exact Bd.bg g3 b2 hv ef
     cases er:res F rk with
     |none=>simp only[er] at e2;cases e2
     |some ka=>
      obtain⟨L,bl0,it⟩:=Bd.open b3 hw er;obtain⟨bl,ra⟩:=bl0.top;cases el:aM F i with
      |none=>simp only[er,el] at e2;cases e2
      |some lo=>
       cases lo with
       |lst _=>simp only[er,el] at e2;cases e2
       |dic _=>simp only[er,el] at e2;cases e2
       |obj _ _=>simp only[er,el] at e2;cases e2
       |dit kvs=>
        simp only[er,el] at e2;cases ej:zr ka with
        |none=>simp only[ej] at e2;cases e2
        |some y=>
         simp only[ej] at e2;split at e2
         .rename_i h100;cases e2;cases ka with
          |tup as=>
           obtain⟨b,vs,rfl,sq,rs⟩:=it.2.1 as rfl;have ev:=qY rs ej;subst ev;obtain⟨p',h1,h2,_⟩:=bl.live el (.dit kvs) (.lst []);rw[hp] at h1;cases h1;cases h2 with
           |dit e rr=>rename_i ws;obtain⟨p',h1,h2,h3⟩:=bl.live el (.dit (qS kvs y a)) (dX c.P c.w p (mB ws y b v));rw[hp] at h1;cases h1;have eP:c.P=X.prog:=congrArg Kx.P ek;have ew:c.w=X.w:=congrArg Kx.w ek;have eK:c.K=X.K:=congrArg Kx.K ek;have rr':=(rr.sm (g_same c H2 L)).sq;have sq':=cq (g_same c H2 L) sq;rw[eK] at rr' sq';rw[eP,ew] at e h3;refine⟨p,_,rfl,⟨ws,y,b,e,rr',rfl,sq',by have:=rr.len;rw[sizeLine_eq];lia,rfl⟩,q Y _ (h3 λH' hh=>?_)⟩;rw[<-eP,<-ew] at hh;exact .dit hh (rr.put sq ra)
          |_=>cases ej
         .cases e2
   .subst e2;exact⟨c,U,_,_,_,O,ek,b1,e1,λC H2 hm b2=>q C Y H2 hm b2.drop⟩
  .cases em1⟩
end
noncomputable def zg:Key->Bool
 | .inl _=>true
 | .inr _=>false
def uP(ks:List (List Key)):Bool:=(ks.all λk=>!k.isEmpty&&k.all zg) || ks.all λk=>!k.isEmpty&&k.all λe=>!zg e
theorem AE(h:uP ks=true):Io ks:=by
 unfold uP at h;rw[OY,Oh,Oh] at h;rcases h with h|h
 .refine .inl λk hk=>?_;have:=h k hk;rw[Ni,Oh] at this;refine⟨λz=>(by rw[z] at this;exact absurd this.1 (by decide)),λe he=>?_⟩;have:=this.2 e he;cases e with
  |inl i=>exact⟨i,rfl⟩
  |inr x=>cases this
 .refine .inr λk hk=>?_;have:=h k hk;rw[Ni,Oh] at this;refine⟨λz=>(by rw[z] at this;exact absurd this.1 (by decide)),λe he=>?_⟩;have:=this.2 e he;cases e with
  |inl i=>cases this
  |inr x=>exact⟨x,rfl⟩
noncomputable def kA:Key->A
 | .inl i=>.int i
 | .inr x=>.str x
def rh(k:List Key):A:=.tup (k.map kA)
def iP(ks:List (List Key)):List A:=(aV ks).map λj=>(ks.map rh).getD j .non
def iq(i:Nat):Mi Rr:=λZ=>match aM Z i with
 |some (.dit kvs)=>if uP (kvs.map (·.1))=true then some (.ok (.nw (.lst (iP (kvs.map (·.1))))),Z) else none
 |_=>none
section
variable{k:Kx}{G:Hp}
theorem HP:∀e:Key,RA k G (kV e) (kA e)
 | .inl i=>.int i
 | .inr x=>.str x
theorem pL:∀es:List Key,bh k G (es.map kV) (es.map kA)
 |[]=>.nil
 |e::es=>.cons (HP e) (pL es)
theorem iW.keys:∀{vs:List (List Key×Addr×V)}{as:List (List Key×A)},iW k G vs as->vs.map (·.1)=as.map (·.1)/\bh k G ((vs.map λx=>x.2.1).map V.ref) ((as.map (·.1)).map rh)
 |_,_,.nil=>⟨rfl,.nil⟩
 |_,_,.cons e q r=>by obtain⟨h1,h2⟩:=r.keys;exact⟨by rw[NK,NK,h1],.cons (.tup e (pL _)) h2⟩
end
section
variable{X:Cx}{E:XK}
theorem vC{y x:Str}{p:Pos}(hc:X.calm=true)(hN:X.N[i]?=some y)(hv:pH X.env.scope y)(hd:gq y)(hcd:uR y)(hg:Gl X x)(hm:X.mg x=none)(hb:bootBuiltins x=some (.builtin "sorted"))(hn:x ≠ "__name__")
  (hdb:gq x)(hs:starEach [.Name y px] X.env=(false,eval (.Name y px) X.env)::starEach [] X.env:=by rfl)(hp:(backTo pos (starEach [] X.env)).any (·.1)=false:=by rfl):JE X E (.Call (.Name x p) [.Name y px] [] pos) (iq i):=
 ⟨PE.weaken (hG (nj hc) hg hm hb (bb (dF hN hv hd hcd) bZ hs) hn hdb hs hp) λY H Q h=>by
  obtain⟨c,Z,B,θ,o,O,ek,b,em,q⟩:=h;unfold iq at em;cases el:aM Z i with
  |none=>simp only[el] at em;cases em
  |some lo=>
   cases lo with
   |lst _=>simp only[el] at em;cases em
   |dic _=>simp only[el] at em;cases em
   |obj _ _=>simp only[el] at em;cases em
   |dit kvs=>
    simp only[el] at em;split at em
    .rename_i hne;cases em;obtain⟨L,bl⟩:=b;obtain⟨p,h1,h2,_⟩:=bl.live el (.dit kvs) (.lst []);cases h2 with
     |dit e rr=>rename_i ws;obtain⟨t1,t2⟩:=rr.keys;have eP:c.P=X.prog:=congrArg Kx.P ek;have ew:c.w=X.w:=congrArg Kx.w ek;have eK:c.K=X.K:=congrArg Kx.K ek;have t3:=(rr.sm (g_same c H L)).sq;rw[eK] at t3;rw[eP,ew] at e;refine⟨_,h1,p,ws,rfl,e,t3,by rw[t1];exact AE hne,λr hr=>q _ _ trivial (bl.iG hr λG H' sm hh=>.lst hh ?_)⟩;rw[t1];exact(t2.sm sm).pick _
    .cases em⟩
end
noncomputable def fY:List A->Option (List Int)
 |[]=>some []
 | .int i::r=>match fY r with
  |some is=>some (i::is)
  |none=>none
 |_::_=>none
theorem mr{K:Kx}{G:Hp}:∀{as:List A}{vs:List V}{is:List Int},bh K G vs as->fY as=some is->vs=is.map V.int
 |[],_,_,.nil,h=>by cases h;rfl
 |a::as,_,_,.cons q r,h=>by
  cases a<;>first|(cases h;done)|skip
  unfold fY at h;cases e:fY as with
  |none=>simp only[e] at h;cases h
  |some i=>simp only[e] at h;cases h;cases q;rw[mr r e];rfl
noncomputable def jE(ns:List Int):Int:=ns.getD (argBest (λi j=>decide (ns.getD i 0<ns.getD j 0)) (ns.length-1)) 0
noncomputable def sJ:List Int->Int->Option Nat
 |[],_=>none
 |a::r,i=>if a=i then some 0 else (sJ r i).map (·+1)
theorem j8:∀{ns:List Int}{us:List Value},Vals (ns.map V.int) us->∃xs:List (Int×Tok),us.toArray=intItems xs.toArray/\xs.map (·.1)=ns
 |[],_,.nil=>⟨[],by simp[intItems],rfl⟩
 |n::ns,_,.cons h r=>by obtain⟨t,rfl⟩:=h;obtain⟨xs,h1,h2⟩:=j8 r;refine⟨(n,t)::xs,?_,by rw[NK,h2]⟩;have h1:_=_:=congrArg To h1;apply Qu.mp;simp[intItems] at h1 ⊢;exact h1
variable{K:Kx}{apos cpos:Pos}{mo:Mi Rr}
section
variable{X:Cx}{E:XK}
def CC(K:Nh):List V->Hp->VK->Prop:=λus H Q=>∃(a:Addr)(ns:List Int),us=[.ref a]/\cQ K H a (ns.map V.int)/\ns≠[]/\Q (.int (jE ns)) H
theorem uq(hc:X.calm=true):dy X (.builtin "min") (CC X.K):=by
 intro pins s Y H vs us Q I rv h;obtain⟨a,ns,rfl,R,m,q⟩:=h;obtain⟨u,rfl,C⟩:=rv.one;cases C;obtain⟨b,r,p,hz⟩:=I.tuple R;obtain⟨xs,D,F⟩:=j8 r;rw[D] at p;have hT:s.heap.IsTuple a (intItems xs.toArray):=p;have w:a<s.heap.objs.size:=p.lt;have hsz:xs.length=ns.length:=by rw[<-F,Nl]
 have x:0<ns.length:=RJ.mpr m;refine call_min_walk (wpAny_pyIter_tuple hT ?_);refine⟨_,[_,a],[_],_,_,_,_,rfl,Walks.tuple (A:=X.A.in1) (I.ok.hd hc) _ a (NR w) (intItems xs.toArray),
  ⟨⟨_,NH _ rfl,rfl,rfl⟩,hT.push _⟩,λc hc=>?_,by simp[intItems,hsz,x],CmpOf.ints_lt (numAt xs.toArray) (λ_ _=>intItems_at),λv h' tk Z hk=>?_⟩
 .show c<(s.heap.push _).objs.size;rw[SN];rcases ND.mp hc with rfl|hc
  .exact Qa _
  .rcases ND.mp hc with rfl|hc
   .exact O9 w
   .cases hc
 .have y:∀c o,s.heap.get? c=some o->h'.get? c=some o:=λc o e=>by
   refine hk c o (λhm=>?_) (Nm _ e);rcases ND.mp hm with D|hm
   .have:=Nz e;rw[D] at this;exact OE _ this
   .cases hm
  have en:numAt xs.toArray=λi=>ns.getD i 0:=funext λi=>by rw[<-F];unfold numAt;rw[TF,Sh,NS]
  have k:∃t,v=.int (jE ns) t:=by obtain⟨t,ht⟩:=intItems_at Z;refine⟨t,?_⟩;rw[ht,en];unfold jE;simp[intItems,hsz]
  obtain⟨t,rfl⟩:=k;exact⟨.int (jE ns),H,I.kept y,⟨t,rfl⟩,q⟩
def jD:A->Option Rr
 | .tup as=>match fY as with
  |some ns=>if ns=[] then none else some (.fr (.int (jE ns)))
  |none=>none
 |_=>none
theorem A8:tD K (λv=>CC K.K [v]) jD:=.scalar λH v a q c h=>by
 cases a<;>first|(cases h;done)|skip
 rename_i as;cases c with
 |tup e r=>
  unfold jD at h;simp only at h;cases D:fY as with
  |none=>simp only[D] at h;cases h
  |some ns=>
   simp only[D] at h;split at h
   .cases h
   .rename_i hn;cases h;have E:=mr r D;subst E;exact⟨_,_,rfl,λ_=>.int _,λQ k=>⟨_,ns,rfl,e,hn,k⟩⟩
def xn(K:Nh):V->List V->Hp->VK->Prop:=λx us H Q=>∃(a:Addr)(ns:List Int)(i:Int)(j:Nat),x=.ref a/\us=[.int i]/\cQ K H a (ns.map V.int)/\sJ ns i=some j/\Q (.int j) H
open PySem.Builtin PyProof.Rows PySem.W in
theorem GB:Hb X "tuple.index" (xn X.K):=by
 intro pins s Y H x vs v us Q I C rv h;obtain⟨a,ns,i,j,rfl,rfl,R,c,q⟩:=h;cases C;obtain⟨u,rfl,J⟩:=rv.one;obtain⟨t,rfl⟩:=J;obtain⟨g,r,p,hz⟩:=I.tuple R;have hi:=lU r;obtain⟨o,ho,hc,n,hd⟩:=id p;refine wpAny_call_entry SG ⟨o,ho,hc⟩ PySem.F.entry_tuple_index ?_ (PySem.F.args_tuple_index_2 _ _);unfold Builtin.«tuple.index»;refine wpAny_bind (wpAny_of_eq (show selfAndSome "tuple.index" "index" 1 3 { pos:=[Of a,R5 i t] }=pure (Of a,[R5 i t]) from rfl) ?_);dsimp only;refine wpAny_bind (tupleItemsOf_ p ?_);refine wpAny_bind (wpAny_pure (wpAny_bind (wpAny_pure (wpAny_bind ?_))));rw[U1];have hsz:([0:Min.min g.toArray.size g.toArray.size]:Tu).size=g.length:=by simp[U2]
 show wpAny _ _ (forIn (TU 0 ([0:Min.min g.toArray.size g.toArray.size]:Tu).size 1) _ _) _ _ _;rw[hsz];have f:∀{g:List Value}{ns:List Int},IntsAre g ns->∀m j',sJ (ns.drop m) i=some j'->∃y t',g[m]?=some (.int y t')/\(ns.drop m)=y::ns.drop (m+1):=by
  intro g ns h;induction h with
  |nil=>intro m j' e;simp[sJ] at e
  |cons y t' h O=>
   intro m j' e;cases m with
   |zero=>exact⟨y,t',rfl,rfl⟩
   |succ m=>exact O m j' e
 refine wpAny_forIn_list _ (λrest b s'=>b=(none,())/\s'=s/\∃m j',rest=TU m (g.length-m)/\sJ (ns.drop m) i=some j'/\m+j'=j) _ ?_ ?_ _ _ ⟨rfl,rfl,0,j,rfl,c,by lia⟩
 .rintro x rest b s' ⟨rfl,rfl,m,j',D,z,S⟩;obtain⟨y,t',N,w⟩:=f hi m j' z;have hm:m<g.length:=by have:=(Np.mp N).1;exact this
  rw[show g.length-m=(g.length-(m+1))+1 by lia,Sj] at D;obtain⟨rfl,rfl⟩:=Ui D;rw[TF,N];dsimp only;refine wpAny_bind (wpAny_eqBool_int ?_);rw[w,sJ] at z;by_cases P:y=i
  .rw[if_pos P] at z;cases z;have:(y==i)=true:=by rw[P];exact beq_self_eq_true _
   rw[this,if_pos rfl];unfold retInt;refine wpAny_bind (wpAny_bind (wpAny_mkInt (wpAny_pure (wpAny_pure ?_))));refine wpAny_pure ⟨_,rfl,.int j,H,I.tok _,?_,q⟩;obtain rfl:j=x:=by lia
   exact⟨_,rfl⟩
  .rw[if_neg P] at z;have:(y==i)=false:=beq_eq_false_iff_ne.mpr P;rw[this,if_neg (by simp)];refine wpAny_pure ?_;obtain⟨Z,h1,h2⟩:=Option.map_eq_some_iff.mp z;exact⟨rfl,rfl,x+1,Z,rfl,h1,by lia⟩
 .rintro b s' ⟨rfl,rfl,m,j',D,z,S⟩;obtain⟨y,t',N,w⟩:=f hi m j' z;have hm:m<g.length:=(Np.mp N).1;have:=congrArg TR D;simp at this;lia
theorem DY{o:Expr}{to:TE}{t:TA}{name:Str}{id:String}{r:V->List V->Hp->VK->Prop}(pa:PlainAttrs "tuple")(slot:Slot "tuple" name id)(f:typeOf (.builtin id)=pure (.type "method_descriptor"))(hm:Hb X id r)(ho:PE X o to)(ha:PA X [e] t)
  (y:attributeBase o name X.env (eval o X.env)=eval o X.env)(m:((backTo cpos (starEach [e] X.env)).all (λx=>!x.1)&&(backToKw cpos (keywordEach [] X.env)).all (λx=>x.1.isSome)&&decide (([e]:List Expr).length+([]:List Keyword).length+(if ([]:List Keyword).isEmpty then 0 else 1)<30))=true)
  (b:(apos.endLine==cpos.line)=true)(hs:starEach [e] X.env=(false,eval e X.env)::starEach [] X.env)(i:(backTo cpos (starEach [] X.env)).any (·.1)=false):
  PE X (.Call (.Attribute o name apos) [e] [] cpos) (λY H Q=>to Y H λx T=>(∃p vs,x=.ref p/\cQ X.K T p vs)/\t Y T λxs S=>r x xs S Q):=by
 intro pins s Y H Q I h;refine wpAny_Call_method_late y m b rfl (bA (ho pins s Y H _ I h) λv s1 ⟨x,T,L,k,ty,d⟩=>?_);obtain⟨p,vs,rfl,sq⟩:=ty;cases (show v=Of p from k);obtain⟨g,_,⟨ob,q,z,n,u,j⟩,_⟩:=L.FT sq;refine⟨"tuple",id,pa,slot,f,⟨ob,q,z⟩,λa e=>by cases e;exact⟨ob,q,j⟩,?_⟩;have J:=ha cpos pins s1 Y T _ L d;rw[hs] at J ⊢;refine Rb (by show (false || (backTo cpos (starEach [] X.env)).any (·.1))=false;rw[i]<;>rfl) (Tw ?_);exact bA J λus s2 ⟨vs,S,O,P,U⟩=>hm pins s2 Y S _ vs _ us Q O k P U
def G9(a b:A):Option Rr:=match a,b with
 | .tup as,.int i=>match fY as with
  |some ns=>match sJ ns i with
   |some j=>some (.fr (.int (j:Int)))
   |none=>none
  |none=>none
 |_,_=>none
theorem E2:gm K (λv w=>xn K.K v [w]) G9:=.scalar λH v w a d q c g h=>by
 cases a<;>first|(cases h;done)|skip
 cases d<;>first|(cases h;done)|skip
 rename_i as i;cases g;cases c with
 |tup e r=>
  unfold G9 at h;simp only at h;cases D:fY as with
  |none=>simp only[D] at h;cases h
  |some ns=>
   simp only[D] at h;cases F:sJ ns i with
   |none=>simp only[F] at h;cases h
   |some j=>simp only[F] at h;cases h;have E:=mr r D;subst E;exact⟨_,_,rfl,λ_=>.int _,λQ k=>⟨_,ns,i,j,rfl,rfl,e,F,k⟩⟩
noncomputable def JJ:A->Bool
 | .tup _=>true
 |_=>false
def zi(mo m:Mi Rr):Mi Rr:=aI mo λx Z1=>match res Z1 x with
 | some h=>if JJ h=true then aI m (λy Z=>match res Z x,res Z y with
  |some a,some b=>match G9 a b with
   |some q=>some (.ok q,Z)
   |none=>none
  | _,_=>none) Z1 else none
 |none=>none
theorem FE{o:Expr}{m:Mi Rr}(ho:JE X E o mo)(he:JE X E e m)
  (hbase:attributeBase o "index" X.env (eval o X.env)=eval o X.env:=by rfl)(hfew:((backTo cpos (starEach [e] X.env)).all (λx=>!x.1)&&(backToKw cpos (keywordEach [] X.env)).all (λx=>x.1.isSome)&&decide (([e]:List Expr).length+([]:List Keyword).length+(if ([]:List Keyword).isEmpty then 0 else 1)<30))=true:=by rfl)
  (hline:(apos.endLine==cpos.line)=true:=by rfl)(hs:starEach [e] X.env=(false,eval e X.env)::starEach [] X.env:=by rfl)(hplain:(backTo cpos (starEach [] X.env)).any (·.1)=false:=by rfl):JE X E (.Call (.Attribute o "index" apos) [e] [] cpos) (zi mo m):=
 ⟨PE.weaken (DY PySem.F.plainAttrs_tuple SG PySem.F.type_tuple_index GB ho.p (bb he.p bZ hs) hbase hfew hline hs hplain) λY H Q h=>by
  obtain⟨c,Z,B,θ,oo,O,ek,b,em,q⟩:=h;refine aT ek b em (λx v U H1 hv b1 em1=>?_) (aX q);cases e0:res U x with
  |none=>simp only[e0] at em1;cases em1
  |some a0=>
   simp only[e0] at em1;split at em1
   .rename_i ht;cases a0<;>first|(cases ht;done)|skip
    have r0:=Bd.rd b1 hv e0;rw[ek] at r0;cases r0 with
    |tup sq0 _=>refine⟨⟨_,_,rfl,sq0⟩,?_⟩;refine aT ek b1 em1 (λy w Z0 H2 hw b2 em2=>?_) (fz (aX q));obtain⟨a,d,r,e1,e2,e3,rfl,rfl⟩:=tP em2;exact E2 c Y H2 _ B θ x y _ w a d r Q ek hv hw b2 e1 e2 e3 q
   .cases em1⟩
end
variable{us:List Value}
section
variable{X:Cx}{E:XK}{pins:List (Addr×Obj)}{Y:St}{H:Hp}{s:Shared}
def ED(K:Nh)(neg:Bool):R2:=λx y H Q=>∃p xs d ds,y=.ref p/\fo K H p xs/\Den K H x d/\cW K H xs ds/\(∀e∈ds,D.depth e<=40)/\Q (.bl (if neg then !(ds.any λe=>D.eq e d) else ds.any λe=>D.eq e d)) H
open Classical in
def eW(us:List Value)(ds:List D)(d:D)(w:Value):Bool:=(us.zip ds).any λp=>decide (p.1=w)&&D.eq p.2 d
theorem vO(I:Inv X pins Y H s){A:Around}{x:V}{d:D}{v:Value}(B:A.units+40<cLine)(hx:Den X.K H x d)(o:RelV x v):∀{xs:List V}{us:List Value}{ds:List D},cW X.K H xs ds->Vals xs us->(∀e∈ds,D.depth e<=40)->
  ∀p∈us.zip ds,QI A s p.1 v (D.eq p.2 d)
 |_,_,_,.nil,.nil,_,u,hm=>nomatch hm
 |_,_,_,.cons h t,.cons r q,hd,u,hm=>by
  rcases ND.mp hm with rfl|hm
  .exact fD I 40 B (hd _ Nu) h hx r o
  .exact vO I B hx o t q (λe he=>hd e (Nt _ he)) u hm
theorem CT(I:Inv X pins Y H s){A:Around}{x:V}{d:D}{v:Value}(B:A.units+40<cLine)(hx:Den X.K H x d)(o:RelV x v){xs:List V}{ds:List D}(h:cW X.K H xs ds)(r:Vals xs us)(hd:∀e∈ds,D.depth e<=40):
  ∀u∈us,QI A s u v (eW us ds d u):=by
 intro u hm;have z:=vO I B hx o h r hd;cases eb:eW us ds d u with
 |true=>obtain⟨p,hp,R⟩:=O3.mp eb;rw[Ni,decide_eq_true_iff] at R;have:=z p hp;rw[R.1,R.2] at this;exact this
 |false=>
  obtain⟨i,hi,rfl⟩:=Pc hm;have hl:us.length=ds.length:=by rw[<-r.length,h.len]
  have hp:(us[i],ds[i]'(by lia))∈us.zip ds:=by rw[<-UG (h:=by simp;lia)];exact OM _
  have:=z _ hp;have hf:=RY.mp eb _ hp;simp only[decide_true,Vb,Bool.not_eq_true] at hf;rw[hf] at this;exact this
theorem xJ{ds:List D}{d:D}(hl:us.length=ds.length):us.any (eW us ds d)=ds.any λe=>D.eq e d:=by
 rw[Rj,O3,O3];constructor
 .rintro⟨u,_,h⟩;obtain⟨p,hp,R⟩:=O3.mp h;rw[Ni] at R;exact⟨p.2,(Rh hp).2,R.2⟩
 .rintro⟨e,he,h⟩;obtain⟨i,hi,rfl⟩:=Pc he;have hp:(us[i]'(by lia),ds[i])∈us.zip ds:=by rw[<-UG (h:=by simp;lia)];exact OM _
  exact⟨us[i]'(by lia),OM _,O3.mpr ⟨_,hp,by simp[h]⟩⟩
theorem EM(B:X.A.units+64<cLine):fG X (compareOp .In) (ED X.K false):=by intro pins s Y H x y v u Q I o z h;obtain⟨p,xs,d,ds,rfl,R,dx,L,hd,q⟩:=h;cases z;obtain⟨g,r,pl,hz⟩:=I.list R;refine SeqAt.in_listAt (eW g ds d) pl.isList (λw f=>CT I (by have:X.A.in1.units=X.A.units+1:=rfl;lia) dx o L r hd w (by simpa using f)) ⟨.bl _,H,I,rfl,?_⟩;rw[show g.toArray.any (eW g ds d)=g.any (eW g ds d) by simp,xJ (by rw[<-r.length,L.len])];exact q
theorem uE(B:X.A.units+64<cLine):fG X (compareOp .NotIn) (ED X.K true):=by intro pins s Y H x y v u Q I o z h;obtain⟨p,xs,d,ds,rfl,R,dx,L,hd,q⟩:=h;cases z;obtain⟨g,r,pl,hz⟩:=I.list R;refine SeqAt.notIn_listAt (eW g ds d) pl.isList (λw f=>CT I (by have:X.A.in1.units=X.A.units+1:=rfl;lia) dx o L r hd w (by simpa using f)) ⟨.bl _,H,I,rfl,?_⟩;rw[show g.toArray.any (eW g ds d)=g.any (eW g ds d) by simp,xJ (by rw[<-r.length,L.len])];exact q
def dS(neg:Bool):A->A->Option Rr
 |x,.lst xs=>match toD x,cL xs with
  |some d,some ds=>if (ds.all λe=>decide (D.depth e<=40))=true then some (.fr (.bl (if neg then !(ds.any λe=>D.eq e d) else ds.any λe=>D.eq e d))) else none
  |_,_=>none
 |_,_=>none
theorem m9{neg:Bool}:gm K (ED K.K neg) (dS neg):=.scalar λH v w a b q c g h=>by
 cases b<;>first|(cases h;done)|skip
 rename_i xs;cases g with
 |lst e r=>
  unfold dS at h;simp only at h;cases D:toD a with
  |none=>simp only[D] at h;cases h
  |some d=>cases F:cL xs with
   |none=>simp only[D,F] at h;cases h
   |some ds=>
    simp only[D,F] at h;split at h
    .rename_i hd;cases h;exact⟨_,_,rfl,λ_=>.bl _,λQ k=>⟨_,_,d,ds,rfl,e,il c D,jf r F,λe he=>of_decide_eq_true (Oh.mp hd e he),k⟩⟩
    .cases h
variable{a b:Expr}{D mb:Mi Rr}{pos:Pos}
end
variable{r:Rr}{rs:List Rr}{O:List Sl}
section
variable{c:Cn}{Y:St}{H:Hp}{Z:List Sl}{B:St}{θ:List Sl}
noncomputable def gz:Rr->List Sl->Option (Sl×List Sl)
 | .fr a,Z=>some (.fr a,Z)
 | .nw o,Z=>some (.lv o,Z)
 | .rf i,Z=>match Z[i]? with
  |some (.lv o)=>some (.lv o,Z.set i .un)
  |some (.pv o)=>some (.lv o,Z.set i .un)
  |some (.fr a)=>some (.fr a,Z)
  |_=>none
def cJ:List Rr->List Sl->Option (List Sl×List Sl)
 |[],Z=>some ([],Z)
 |r::rs,Z=>match gz r Z with
  |some (a,U)=>match cJ rs U with
   |some (as,Z0)=>some (a::as,Z0)
   |none=>none
  |none=>none
theorem ox{as:List Sl}(h:cJ (r::rs) Z=some (as,O)):∃a Y U,gz r Z=some (a,U)/\cJ rs U=some (Y,O)/\as=a::Y:=by
 unfold cJ at h;cases D:gz r Z with
 |none=>simp only[D] at h;cases h
 |some p=>
  obtain⟨a,U⟩:=p;simp only[D] at h;cases F:cJ rs U with
  |none=>simp only[F] at h;cases h
  |some q=>obtain⟨Y,Z0⟩:=q;simp only[F] at h;cases h;exact⟨a,Y,U,rfl,F,rfl⟩
theorem Bd.gz{r:Rr}{v:V}{a:Sl}{O:List Sl}{xs:St}{ss:List Sl}(e:xs.length=ss.length)(b:Bd c Y H Z (xs++bx r v B) (ss++bz r θ))(u:VR Y r v)(h:gz r Z=some (a,O)):Bd c Y H O (xs++some v::B) (ss++a::θ):=by
 cases r with
 |fr a'=>cases h;exact b
 |nw o=>cases h;exact b
 |rf i=>
  unfold M.gz at h;cases es:Z[i]? with
  |none=>simp only[es] at h;cases h
  |some s=>
   cases s with
   |un=>simp only[es] at h;cases h
   |fr a'=>simp only[es] at h;cases h;exact Bd.Ao e b u es
   |lv o=>simp only[es] at h;cases h;exact Bd.xp e b u es (.inl rfl)
   |pv o=>simp only[es] at h;cases h;exact Bd.xp e b u es (.inr rfl)
theorem Bd.cJ:∀{rs:List Rr}{vs:List V}{as:List Sl}{Z O:List Sl}{B:St}{θ:List Sl},hW Y rs vs->Bd c Y H Z (bE rs vs B) (bI rs θ)->cJ rs Z=some (as,O)->Bd c Y H O (vs.reverse.map some++B) (as.reverse++θ)/\vs.length=as.length
 |[],[],_,_,_,_,_,_,b,h=>by cases h;exact⟨b,rfl⟩
 |r::rs,v::vs,_,Z,O,B,θ,hv,b,h=>by obtain⟨a,as,U,D,F,rfl⟩:=ox h;have b:Bd c Y H Z (bE rs vs (bx r v B)) (bI rs (bz r θ)):=b;rw[bM,bK] at b;have e:=Bd.gz (jh rs vs (hW.len hv.2)) b hv.1 D;rw[<-bM rs vs (some v::B),<-bK rs (a::θ)] at e;obtain⟨z,n⟩:=Bd.cJ hv.2 e F;exact⟨by simpa using z,by simp[n]⟩
 |[],_::_,_,_,_,_,_,h,_,_=>h.elim
 |_::_,[],_,_,_,_,_,h,_,_=>h.elim
end
def mF(f:Ms)(das:List A)(D:Mi (List Rr)):Mi Rr:=aI D λrs Z=>match cJ (rs++das.map Rr.fr) Z with
 |some (as,U)=>match f (as.map qT) with
  |some (.rt s,T)=>match fW s,putL Z (rs++das.map Rr.fr) (aq as.length T) U with
   |some r,some O=>some (.ok r,O)
   |_,_=>none
  |some (.ex x,T)=>match putL Z (rs++das.map Rr.fr) (aq as.length T) U with
   |some O=>some (.error x,O)
   |none=>none
  |_=>none
 |none=>none
variable{dvs:List V}
section
variable{X:Cx}{E:XK}
theorem pS{m:Ms}{n:Nat}{das:List A}(hd:∀G,bh (kx X) G dvs das){Y:St}{Q:VK}{B:St}{o:Except Str Rr}{vs:List V}(e:c.toKx=kx X)(hn:(vs++dvs).length=n)
  (u:hW Y rs vs)(b:Bd c Y H Z (bE rs vs B) (bI rs θ)) (em:(match cJ (rs++das.map Rr.fr) Z with
 |some (as,U)=>match m (as.map qT) with
  |some (.rt s,T)=>match fW s,putL Z (rs++das.map Rr.fr) (aq as.length T) U with
   |some r,some O=>some (.ok r,O)
   |_,_=>none
  |some (.ex x,T)=>match putL Z (rs++das.map Rr.fr) (aq as.length T) U with
   |some O=>some (.error x,O)
   |none=>none
  |_=>none
 | none=>none)=some (o,O)) (d:∀r,o=.ok r->∀v H',VR Y r v->Bd c Y H' O (bx r v B) (bz r θ)->Q v H') (S:∀x,o=.error x->∀C H',X.mg x=some (.ref C)->Bd c Y H' O B θ->E (.ref C) none H'):nu (kx X) n m (vs++dvs) H Q E:=by
 refine⟨hn,?_⟩;cases D:cJ (rs++das.map Rr.fr) Z with
 |none=>simp only[D] at em;cases em
 |some p=>
  obtain⟨as,U⟩:=p;simp only[D] at em;have ld:das.length=dvs.length:=(hd λ_=>none).len.symm;have i:hW Y (rs++das.map Rr.fr) (vs++dvs):=u.app (hW.jo ld);have h:Bd c Y H Z (bE (rs++das.map Rr.fr) (vs++dvs) B) (bI (rs++das.map Rr.fr) θ):=by rw[jF _ _ _ u.len,iy];exact Bd.qe (by rw[e];exact hd) b
  obtain⟨g,J⟩:=Bd.cJ i h D;obtain⟨j,K,k,R,F,l⟩:=Bd.enter J g;have kp:dY c.σ0 Y Z:=by obtain⟨L,b⟩:=b;exact b.kp
  cases N:m (as.map qT) with
  |none=>simp only[N] at em;cases em
  |some p=>
   obtain⟨f,T⟩:=p;simp only[N] at em;refine⟨j,_,f,T,K.trans e,k,R,F,N,?_⟩;cases f with
   |nx=>cases em
   |bk=>cases em
   |ct=>cases em
   |rt s=>
    simp only at em;cases w:fW s with
    |none=>simp only[w] at em;cases em
    |some r=>
     cases q:putL Z (rs++das.map Rr.fr) (aq as.length T) U with
     |none=>simp only[w,q] at em;cases em
     |some Z0=>
      simp only[w,q] at em;cases em;intro v H' hs P;have I:=l H' _ _ _ (λs' y o z=>by rw[Nw.mp y] at z;exact hs o z) (bN _ _) P;rw[J] at I;have t:=Bd.putL kp i I q;cases s with
      |fr a=>cases w;exact d _ rfl v H' trivial t
      |lv o=>cases w;exact d _ rfl v H' trivial t
      |_=>cases w
   |ex x=>
    simp only at em;cases q:putL Z (rs++das.map Rr.fr) (aq as.length T) U with
    |none=>simp only[q] at em;cases em
    |some Z0=>simp only[q] at em;cases em;intro C H' hm P;have I:=l H' _ _ _ (λs' y=>by cases y) (bN _ _) P;rw[J] at I;exact S x rfl C H' hm (Bd.putL kp i I q)
theorem yW{CX:oj}{n:Nat}{f:Addr}{fd:FuncData}{ps:List Str}{m:Ms}{das:List A}{ds:List Value}{x:Str}{p:Pos}{es:List Expr}{D:Mi (List Rr)}(F:dM X.prog X.w X.K X.mg X.base CX k f fd ps (nu (kx X) n m))(hr:cY k X.A)(hg:Gl X x)
  (hm:X.mg x=some (.ref f))(hk:O4 X.K (.ref f)=true)(hb:Binds X.K fd ps ds)(hd:Vals dvs ds)(hda:∀G,bh (kx X) G dvs das)(hx:Passes CX X E)(ha:JA X E (e::es) D)(hn:∀Z rs O,D Z=some (.ok rs,O)->rs.length+das.length=n)(hdb:gq x)
  (he:starEach (e::es) X.env=(false,eval e X.env)::starEach es X.env:=by rfl)(hpl:(backTo pos (starEach es X.env)).any (·.1)=false:=by rfl):JE X E (.Call (.Name x p) (e::es) [] pos) (mF m das D):=
 ⟨PE.weaken (sH F hr hg hm hk hb hd hx ha.p hdb he hpl) λY H Q h=>by
  obtain⟨c,Z,B,θ,o,O,ek,b,em,q⟩:=h;rcases bind_some em with ⟨rs,U,e1,e2⟩|⟨e,e1,e2⟩
  .refine⟨c,Z,B,θ,_,U,ek,b,e1,λvs H1 hv b1=>?_⟩;refine pS hda ek ?_ hv b1 e2 (λr hr v H' hv b=>by subst hr;exact q v H' hv b) (λx hx=>by subst hx;exact q);rw[Ny,<-hv.len,<-hn Z rs U e1,(hda λ_=>none).len]
  .subst e2;exact⟨c,Z,B,θ,_,O,ek,b,e1,λC H1 hm b1=>q C H1 hm b1⟩⟩
end
variable{hs:Nat->Int}{α:Type}{led:Bool}
section
open PySem PyProof.Rows PySem.W
open SetTable in
noncomputable def aw(m:Nat)(p:Probe):Probe:=if p.more > 0 then { p with j:=p.j+1,more:=p.more-1 } else { p with j:=(leap m p.i p.perturb).1,more:=runEnd m (leap m p.i p.perturb).1-(leap m p.i p.perturb).1,i:=(leap m p.i p.perturb).1,perturb:=(leap m p.i p.perturb).2 }
open SetTable in
open SetTable in
def sp(m:Nat)(h:Int):Nat->Probe
 |0=>{ j:=bits h%(m+1),more:=runEnd m (bits h%(m+1))-bits h%(m+1),i:=bits h%(m+1),perturb:=bits h,dummy:=none }
 |n+1=>aw m (sp m h n)
theorem wB(m:Nat)(p:SetTable.Probe):(aw m p).dummy=p.dummy:=by unfold aw;split<;>rfl
theorem pd(m:Nat)(h:Int):∀n,(sp m h n).dummy=none
 |0=>rfl
 |n+1=>(wB m _).trans (pd m h n)
open SetTable in
theorem Gn(m i:Nat):runEnd m i-i<=9:=by unfold runEnd;split<;>lia
def nl(m:Nat)(h:Int)(N:Nat):Nat:=N+(sp m h N).more+1
structure gj(m:Nat)(h:Int)(N:Nat):Prop where
 i:(sp m h N).i=(sp m h N).j
 mo:(sp m h N).more=OV m (sp m h N).j-(sp m h N).j
 lt:(sp m h N).j<m+1
theorem gj.run{m:Nat}{h:Int}{N:Nat}(q:gj m h N):∀k,k<=(sp m h N).more->sp m h (N+k)={ sp m h N with j:=(sp m h N).j+k,more:=(sp m h N).more-k }
 |0,_=>rfl
 |k+1,hk=>by
  show aw m (sp m h (N+k))=_;rw[q.run k (by lia)];unfold aw;rw[if_pos (by show (sp m h N).more-k > 0;lia)]
  congr 1
theorem gj.next{h:Int}{N:Nat}(q:gj m h N):gj m h (nl m h N)/\nl m h N<=N+10/\(sp m h (nl m h N)).perturb=(sp m h N).perturb / 32/\(sp m h (nl m h N)).j=((sp m h N).j*5+1+(sp m h N).perturb / 32)%(m+1):=by
 have e:sp m h (nl m h N)={ sp m h N with j:=(OP m (sp m h N).i (sp m h N).perturb).1,more:=OV m (OP m (sp m h N).i (sp m h N).perturb).1-(OP m (sp m h N).i (sp m h N).perturb).1,i:=(OP m (sp m h N).i (sp m h N).perturb).1,perturb:=(OP m (sp m h N).i (sp m h N).perturb).2 }:=by show aw m (sp m h (N+(sp m h N).more))=_;rw[q.run _ (Nr _)];unfold aw;rw[if_neg (by show ¬ (sp m h N).more-(sp m h N).more > 0;omega)]
 have F:(sp m h (nl m h N)).j=((sp m h N).j*5+1+(sp m h N).perturb / 32)%(m+1):=by rw[e,q.i];rfl
 refine⟨⟨by rw[e],by rw[e],by rw[F];exact Rm _ (by omega)⟩,?_,by rw[e];rfl,F⟩;have:=Gn m (sp m h N).j;have:=q.mo;unfold nl;omega
theorem gj.many{m:Nat}{h:Int}{N:Nat}(q:gj m h N):∀k,gj m h (Nat.repeat (nl m h) k N)/\Nat.repeat (nl m h) k N<=N+10*k/\(sp m h (Nat.repeat (nl m h) k N)).perturb=(sp m h N).perturb / 32^k/\((sp m h N).perturb=0->(sp m h (Nat.repeat (nl m h) k N)).j=Nat.repeat (λi=>(5*i+1)%(m+1)) k (sp m h N).j)
 |0=>⟨q,Nr _,by simp[Nat.repeat],λ_=>rfl⟩
 |k+1=>by
  obtain⟨X,Y,G,a⟩:=q.many k;obtain⟨e,r,d,l⟩:=X.next;refine⟨e,by show nl m h (Nat.repeat (nl m h) k N)<=_;lia,?_,λz=>?_⟩
  .show (sp m h (nl m h (Nat.repeat (nl m h) k N))).perturb=_;rw[d,G,Nat.div_div_eq_div_mul,R9]
  .show (sp m h (nl m h (Nat.repeat (nl m h) k N))).j=_;rw[l,G,z,a z];show _=(5*Nat.repeat _ k _+1)%(m+1)
   congr 1
   simp;lia
theorem Kw(m:Nat)(h:Int):gj m h 0:=⟨rfl,rfl,Rm _ (by lia)⟩
def Hl(m:Nat):Prop:=m=7\/m=31
theorem LC:∀i,i<8->∀j,j<8->∃k,k<8/\Nat.repeat (λi=>(5*i+1)%(7+1)) k i=j:=by decide +kernel
theorem HJ:∀i,i<32->∀j,j<32->∃k,k<32/\Nat.repeat (λi=>(5*i+1)%(31+1)) k i=j:=by decide +kernel
theorem AI(h:Int):OU h<2^64:=by unfold OU;have h1:=RX h (show (0:Int)<2^64 by decide);have h2:=Rq h (show (2^64:Int)≠0 by decide);lia
theorem pE(hm:Hl m)(h:Int)(v:j<=m):∃k,k<=m+13/\(sp m h (Nat.repeat (nl m h) k 0)).j=j:=by
 obtain⟨X,Y,G,a⟩:=(Kw m h).many 13;have z:(sp m h (Nat.repeat (nl m h) 13 0)).perturb=0:=by rw[G];exact Nat.div_eq_of_lt (Nn (AI h) (by decide))
 obtain⟨k,V,y⟩:∃k,k<m+1/\Nat.repeat (λi=>(5*i+1)%(m+1)) k (sp m h (Nat.repeat (nl m h) 13 0)).j=j:=by
  have:=X.lt;rcases hm with rfl|rfl
  .exact LC _ this _ (by lia)
  .exact HJ _ this _ (by lia)
 obtain⟨g,N,d,l⟩:=X.many k;refine⟨k+13,by lia,?_⟩;have e:∀k,Nat.repeat (nl m h) (k+13) 0=Nat.repeat (nl m h) k (Nat.repeat (nl m h) 13 0):=by
  intro k;induction k with
  |zero=>rfl
  |succ k c=>show nl m h (Nat.repeat (nl m h) (k+13) 0)=_;rw[c];rfl
 rw[e k];exact(l z).trans y
theorem DT(hm:Hl m)(h:Int)(v:j<=m):∃n,n<10*OQ m/\(sp m h n).j=j:=by obtain⟨k,V,y⟩:=pE hm h v;refine⟨_,?_,y⟩;have:=((Kw m h).many k).2.1;unfold OQ;lia
def Eu(xs:Array Nat):Prop:=∀a b,a<b->b<xs.size->xs.getD a 0<xs.getD b 0
theorem at_getD{xs:Array Nat}{a:Nat}(h:xs[a]?=some j):a<xs.size/\xs.getD a 0=j:=by obtain⟨h1,h2⟩:=Oj.mp h;exact⟨h1,by simp[Ox,h1,h2]⟩
theorem getD_at{xs:Array Nat}{a:Nat}(h:a<xs.size):xs[a]?=some (xs.getD a 0):=by rw[NC h];simp[Ox,h]
theorem jS{xs:Array Nat}{j:Nat}(t:Eu xs):∀fuel lo hi,lo<=hi->hi<=xs.size->hi-lo<=fuel->(∀k,k<lo->xs.getD k 0<j)->(∀k,hi<=k->k<xs.size->j<=xs.getD k 0)->
  Qx xs j fuel lo hi<=xs.size/\(∀k,k<Qx xs j fuel lo hi->xs.getD k 0<j)/\∀k,Qx xs j fuel lo hi<=k->k<xs.size->j<=xs.getD k 0
 |0,lo,hi,h1,h2,h3,h4,h5=>by
  have:hi=lo:=by lia
  subst this;exact⟨h2,h4,h5⟩
 |fuel+1,lo,hi,h1,h2,h3,h4,h5=>by
  unfold Qx;by_cases c:lo<hi
  .rw[if_pos c];dsimp only;have e:xs.getD ((lo+hi) / 2) j=xs.getD ((lo+hi) / 2) 0:=by simp[Ox,show (lo+hi) / 2<xs.size by lia]
   rw[e];by_cases d:xs.getD ((lo+hi) / 2) 0<j
   .rw[if_pos d];refine jS t fuel _ hi (by lia) h2 (by lia) (λk hk=>?_) h5;by_cases z:k=(lo+hi) / 2
    .rw[z];exact d
    .exact QJ (t k _ (by lia) (by lia)) d
   .rw[if_neg d];refine jS t fuel lo _ (by lia) (by lia) (by lia) h4 λk hk w=>?_;by_cases z:k=(lo+hi) / 2
    .rw[z];lia
    .have:=t _ k (by lia:(lo+hi) / 2<k) w;lia
  .rw[if_neg c];have:hi=lo:=by lia
   subst this;exact⟨h2,h4,h5⟩
theorem gU{xs:Array Nat}(t:Eu xs):Oy xs j<=xs.size/\(∀k,k<Oy xs j->xs.getD k 0<j)/\∀k,Oy xs j<=k->k<xs.size->j<=xs.getD k 0:=
 jS t xs.size 0 xs.size (Ou _) (Nr _) (by lia) (λk h=>absurd h (OZ k)) λk h1 h2=>by lia
theorem below_at{xs:Array Nat}{a:Nat}(t:Eu xs)(h:xs[a]?=some j):Oy xs j=a:=by
 obtain⟨h1,h2,h3⟩:=gU (j:=j) t;obtain⟨h4,h5⟩:=at_getD h;have X:Oy xs j<=a:=P9 λz=>by have:=h2 a z;lia
 by_cases e:Oy xs j=a
 .exact e
 .have:=h3 (Oy xs j) (Nr _) (by lia);have:=t (Oy xs j) a (by lia) h4;lia
def Lv(t:SetTable)(j:Nat):Prop:=∃a:Nat,t.place[a]?=some j
theorem lQ{t:SetTable}{a:Nat}(D:Eu t.place)(h:t.place[a]?=some j):t.slot j=.live a:=by unfold Uv;dsimp only;rw[below_at D h,h];simp
theorem qE{t:SetTable}(hd:t.dummies=#[])(h:¬ Lv t j):t.slot j=.empty:=by
 unfold Uv;dsimp only;rw[if_neg (by intro z;exact h ⟨_,eq_of_beq z⟩),if_neg]
 unfold SV;rw[hd];simp
structure ku(t:SetTable)(hs:Nat->Int):Prop where
 ms:Hl t.mask
 dm:t.dummies=#[]
 ri:Eu t.place
 le:∀(a j:Nat),t.place[a]?=some j->j<=t.mask
 rc:∀(a j:Nat),t.place[a]?=some j->∃n,(sp t.mask (hs a) n).j=j/\∀n',n'<n->Lv t (sp t.mask (hs a) n').j
theorem nM{P:Nat->Prop}:∀n,P n->∃e,e<=n/\P e/\∀k,k<e->¬ P k:=by
 intro n;induction n using Nat.strongRecOn with
 |_ n j=>
  intro h;by_cases c:∃k,k<n/\P k
  .obtain⟨k,h1,h2⟩:=c;obtain⟨e,a,b,c⟩:=j k h1 h2;exact⟨e,by lia,b,c⟩
  .exact⟨n,Nr _,h,λk hk hp=>c ⟨k,hk,hp⟩⟩
theorem hole{t:SetTable}(D:Eu t.place)(hf:t.place.size<=t.mask):∃j,j<=t.mask/\¬ Lv t j:=by
 apply OL;intro z;have all:∀j,j<=t.mask->∃a:Nat,t.place[a]?=some j/\j<=a:=by
  intro j;induction j with
  |zero=>intro h;obtain⟨a,ha⟩:Lv t 0:=OL λy=>z ⟨0,h,y⟩;exact⟨a,ha,Ou _⟩
  |succ j O=>
   intro h;obtain⟨a,ha,la⟩:=O (by lia);obtain⟨b,hb⟩:Lv t (j+1):=OL λy=>z ⟨_,h,y⟩;refine⟨b,hb,?_⟩;obtain⟨X,Y⟩:=at_getD ha;obtain⟨e,N⟩:=at_getD hb;by_cases c:a<b
   .lia
   .by_cases d:a=b
    .subst d;lia
    .have:=D b a (by lia) X;lia
 obtain⟨a,ha,la⟩:=all t.mask (Nr _);have:=(at_getD ha).1;lia
theorem ku.end{t:SetTable}(T:ku t hs)(hf:t.place.size<=t.mask)(h:Int):∃e,e<10*OQ t.mask/\¬ Lv t (sp t.mask h e).j/\∀n,n<e->Lv t (sp t.mask h n).j:=by obtain⟨j,h1,h2⟩:=hole T.ri hf;obtain⟨n,C,l⟩:=DT T.ms h h1;obtain⟨e,D,F,O⟩:=nM (P:=λn=>¬ Lv t (sp t.mask h n).j) n (by rw[l];exact h2);exact⟨e,by lia,F,λn hn=>OL λz=>O n hn z⟩
section
variable{t:SetTable}{h:Int}{e:Nat}{hs:Nat->Int}
theorem sf(hd:t.dummies=#[])(D:Eu t.place)(he:¬ Lv t (sp t.mask h e).j)(hl:∀n,n<e->Lv t (sp t.mask h n).j):∀fuel n,n<=e->e-n<fuel->
  (Qy t hs h fuel (sp t.mask h n)=some (.empty (sp t.mask h e).j none)/\∀n',n<=n'->n'<e->∀a:Nat,t.place[a]?=some (sp t.mask h n').j->hs a≠h) \/
  ∃n' a,n<=n'/\n'<e/\t.place[a]?=some (sp t.mask h n').j/\hs a=h/\Qy t hs h fuel (sp t.mask h n)=some (.candidate (sp t.mask h n').j a (sp t.mask h (n'+1)))/\∀l,n<=l->l<n'->∀a:Nat,t.place[a]?=some (sp t.mask h l).j->hs a≠h
 |0,n,h1,h2=>by lia
 |fuel+1,n,h1,h2=>by
  unfold Qy;by_cases c:n=e
  .subst c;rw[qE hd he];exact .inl ⟨by rw[pd],λn' a b=>by lia⟩
  .obtain⟨a,ha⟩:=hl n (by lia);rw[lQ D ha];dsimp only;by_cases d:hs a=h
   .rw[if_pos (by rw[d];exact beq_self_eq_true _)];exact .inr ⟨n,a,Nr _,by lia,ha,d,rfl,λl x y=>by lia⟩
   .rw[if_neg (by intro z;exact d (eq_of_beq z))];have Y:∀a':Nat,t.place[a']?=some (sp t.mask h n).j->hs a'≠h:=λa' r=>by have:a'=a:=(below_at D r).symm.trans (below_at D ha);rw[this];exact d
    show (Qy t hs h fuel (sp t.mask h (n+1))=_/\_)\/_;rcases sf hd D he hl fuel (n+1) (by lia) (by lia) with ⟨i,p⟩|⟨n',a',i,p,u,L,m,H⟩
    .refine .inl ⟨i,λn' x y=>?_⟩;by_cases z:n'=n
     .rw[z];exact Y
     .exact p n' (by lia) y
    .refine .inr ⟨n',a',by lia,p,u,L,m,λl x y=>?_⟩;by_cases z:l=n
     .rw[z];exact Y
     .exact H l (by lia) y
end
theorem lG{xs:Array α}{p:Nat}{x:α}(hp:p<=xs.size)(k:Nat):(N7 xs p x)[k]?=if k<p then xs[k]? else if k=p then some x else xs[k-1]?:=by
 unfold N7;rw[Array.getElem?_append];have hz:((xs.extract 0 p).push x).size=p+1:=by simp;lia
 rw[hz];by_cases h1:k<p
 .rw[if_pos (by lia),if_pos h1,Qc,if_neg (by simp;lia)];simp[Tq];lia
 .rw[if_neg h1];by_cases h2:k=p
  .rw[if_pos (by lia),if_pos h2,Qc,if_pos (by simp;lia)]
  .rw[if_neg (by lia),if_neg h2,Tq];by_cases h3:k-1<xs.size
   .rw[if_pos (by lia)]
    congr 1
    lia
   .rw[if_neg (by lia),OG (by lia)]
theorem km{xs:Array α}{p:Nat}{x:α}(hp:p<=xs.size):(N7 xs p x).size=xs.size+1:=by unfold N7;simp;lia
theorem rR(m:Nat)(h:Int):∀n,(sp m h n).j+(sp m h n).more<=m
 |0=>by show OU h%(m+1)+(OV m (OU h%(m+1))-OU h%(m+1))<=m;have:OU h%(m+1)<m+1:=Rm _ (by lia);unfold OV;split<;>lia
 |n+1=>by
  have c:=rR m h n;show (aw m (sp m h n)).j+(aw m (sp m h n)).more<=m;unfold aw;split
  .show (sp m h n).j+1+((sp m h n).more-1)<=m;lia
  .have:(OP m (sp m h n).i (sp m h n).perturb).1<m+1:=Rm _ (by lia);show (OP m (sp m h n).i (sp m h n).perturb).1+(OV m (OP m (sp m h n).i (sp m h n).perturb).1-(OP m (sp m h n).i (sp m h n).perturb).1)<=m;unfold OV;split<;>lia
noncomputable def HC(hs:Nat->Int)(p:Nat)(h:Int)(k:Nat):Int:=if k<p then hs k else if k=p then h else hs (k-1)
theorem Gs{t t':SetTable}{h:Int}{e p:Nat}(T:ku t hs)(he:¬ Lv t (sp t.mask h e).j)(hl:∀n,n<e->Lv t (sp t.mask h n).j)(D:t.put (sp t.mask h e).j=(t',p)):ku t' (HC hs p h)/\t'.mask=t.mask/\t'.place.size=t.place.size+1/\t'.led=t.led/\t'.moves=t.moves/\p<=t.place.size/\t'.plain=t.plain:=by
 obtain⟨i,r,d⟩:=gU (j:=(sp t.mask h e).j) T.ri;have V:SV t.dummies (sp t.mask h e).j=false:=by unfold SV;rw[T.dm];simp
 unfold SetTable.put at D;dsimp only at D;rw[V] at D;obtain⟨rfl,rfl⟩:=Qh D;have m:∀k,k<t.place.size->t.place.getD k 0≠(sp t.mask h e).j:=λk hk z=>he ⟨k,by rw[getD_at hk,z]⟩;generalize hp:Oy t.place (sp t.mask h e).j=p at *;have H:∀k:Nat,(N7 t.place p (sp t.mask h e).j)[k]?=if k<p then t.place[k]? else if k=p then some (sp t.mask h e).j else t.place[k-1]?:=λk=>lG i k
 have lv:∀j,Lv t j->∃a:Nat,(N7 t.place p (sp t.mask h e).j)[a]?=some j:=by
  rintro j ⟨a,ha⟩;by_cases c:a<p
  .exact⟨a,by rw[H,if_pos c];exact ha⟩
  .exact⟨a+1,by rw[H,if_neg (by lia),if_neg (by lia)];exact ha⟩
 have Q:=km (x:=(sp t.mask h e).j) i;refine⟨⟨T.ms,T.dm,?_,?_,?_⟩,rfl,Q,rfl,rfl,i,rfl⟩
 .intro a b N hb;have hb:b<(N7 t.place p (sp t.mask h e).j).size:=hb;rw[Q] at hb;have g:∀k,(N7 t.place p (sp t.mask h e).j).getD k 0=if k<p then t.place.getD k 0 else if k=p then (sp t.mask h e).j else t.place.getD (k-1) 0:=λk=>by
   simp only[NQ];rw[H];split
   .rfl
   .split<;>rfl
  show (N7 t.place p (sp t.mask h e).j).getD a 0<(N7 t.place p (sp t.mask h e).j).getD b 0;rw[g,g];by_cases J:b<p
  .rw[if_pos (by lia),if_pos J];exact T.ri a b N (by lia)
  .rw[if_neg J];by_cases O:b=p
   .rw[if_pos O,if_pos (by lia)];exact r a (by lia)
   .rw[if_neg O];by_cases c3:a<p
    .rw[if_pos c3];exact Nn (r a c3) (d (b-1) (by lia) (by lia))
    .rw[if_neg c3];by_cases q:a=p
     .rw[if_pos q];have:=d (b-1) (by lia) (by lia);have:=m (b-1) (by lia);lia
     .rw[if_neg q];exact T.ri _ _ (by lia) (by lia)
 .intro a j ha;have ha:(N7 t.place p (sp t.mask h e).j)[a]?=some j:=ha;rw[H] at ha;show j<=t.mask;split at ha
  .exact T.le a j ha
  .split at ha
   .cases ha;have:=rR t.mask h e;lia
   .exact T.le _ j ha
 .intro a j ha;have ha:(N7 t.place p (sp t.mask h e).j)[a]?=some j:=ha;rw[H] at ha;show ∃n,(sp t.mask (HC hs p h a) n).j=j/\_;unfold HC;split at ha
  .next c=>rw[if_pos c];obtain⟨n,C,l⟩:=T.rc a j ha;exact⟨n,C,λn' hn=>lv _ (l n' hn)⟩
  .next c=>
   rw[if_neg c];split at ha
   .next O=>rw[if_pos O];cases ha;exact⟨e,rfl,λn' hn=>lv _ (hl n' hn)⟩
   .next O=>rw[if_neg O];obtain⟨n,C,l⟩:=T.rc _ j ha;exact⟨n,C,λn' hn=>lv _ (l n' hn)⟩
noncomputable abbrev Ow:=Array (Option Nat)
def zO(ow:Ow)(j:Nat):Prop:=∃i,ow[j]?=some (some i)
theorem ph(f:Nat->Nat):∀k N,Nat.repeat f (k+1) N=Nat.repeat f k (f N)
 |0,N=>rfl
 |k+1,N=>by show f (Nat.repeat f (k+1) N)=f (Nat.repeat f k (f N));rw[ph f k N]
theorem rA{m:Nat}{h:Int}{ow:Ow}{e:Nat}(sz:ow.size=m+1)(he:¬ zO ow (sp m h e).j)(hl:∀n,n<e->zO ow (sp m h n).j):∀F N,gj m h N->N<=e->(∃k,k<F/\e<=Nat.repeat (nl m h) k N)->O2 m ow F (sp m h N).j (sp m h N).perturb=some (sp m h e).j
 |0,N,_,_,⟨k,hk,_⟩=>absurd hk (OZ k)
 |F+1,N,q,hN,⟨k,hk,x⟩=>by
  unfold O2;have hm:=q.mo;have a:(sp m h N).j<=OV m (sp m h N).j:=by unfold OV;split<;>lia
  have own:∀k,k<=(sp m h N).more->N+k<e->(!(ow.getD ((sp m h N).j+k) (some 0)).isNone)=true:=λk h1 h2=>by obtain⟨i,hi⟩:=hl (N+k) h2;rw[q.run k h1] at hi;have hi:ow[(sp m h N).j+k]?=some (some i):=hi;rw[NQ,hi];rfl
  by_cases c:e<=N+(sp m h N).more
  .have D:(sp m h e).j=(sp m h N).j+(e-N):=by have:=q.run (e-N) (by lia);rw[show N+(e-N)=e by lia] at this;rw[this]
   have hf:(NA (OV m (sp m h N).j+1-(sp m h N).j)).find? (λk=>(ow.getD ((sp m h N).j+k) (some 0)).isNone)=some (e-N):=by
    rw[List.find?_range_eq_some];refine⟨?_,NU.mpr (by lia),λj v=>own j (by lia) (by lia)⟩;rw[<-D];have hb:(sp m h e).j<ow.size:=by have:=rR m h e;lia
    rw[NQ,NC hb];cases z:ow[(sp m h e).j] with
    |none=>rfl
    |some i=>exact absurd ⟨i,by rw[NC hb,z]⟩ he
   rw[hf];dsimp only;rw[D]
  .have hf:(NA (OV m (sp m h N).j+1-(sp m h N).j)).find? (λk=>(ow.getD ((sp m h N).j+k) (some 0)).isNone)=none:=by rw[List.find?_range_eq_none];exact λj v=>own j (by lia) (by lia)
   rw[hf];dsimp only;obtain⟨d,S,u,b⟩:=q.next;have t:(OP m (sp m h N).j (sp m h N).perturb).1=(sp m h (nl m h N)).j:=by rw[b];rfl
   have O:(OP m (sp m h N).j (sp m h N).perturb).2=(sp m h (nl m h N)).perturb:=by rw[u];rfl
   show O2 m ow F (OP m (sp m h N).j (sp m h N).perturb).1 (OP m (sp m h N).j (sp m h N).perturb).2=_;rw[t,O];cases k with
   |zero=>have x:e<=N:=x;lia
   |succ k=>rw[ph] at x;exact rA sz he hl F _ d (by unfold nl;lia) ⟨k,by lia,x⟩
structure oM(m:Nat)(hs:Nat->Int)(ow:Ow)(k:Nat):Prop where
 sz:ow.size=m+1
 lt:∀(j i:Nat),ow[j]?=some (some i)->i<k
 inj:∀(j j' i:Nat),ow[j]?=some (some i)->ow[j']?=some (some i)->j=j'
 rc:∀i,i<k->∃n,ow[(sp m (hs i) n).j]?=some (some i)/\∀n',n'<n->zO ow (sp m (hs i) n').j
variable{ow:Ow}
theorem oM.hole(L:oM m hs ow k)(hk:k<=m):∃j,j<=m/\¬ zO ow j:=by
 apply OL;intro z;have all:∀j,j<=m->ow[j]?=some (some ((ow.getD j none).getD 0)):=λj v=>by obtain⟨i,hi⟩:zO ow j:=OL λy=>z ⟨j,v,y⟩;rw[hi,NQ,hi];rfl
 have nd:((NA (m+1)).map λj=>(ow.getD j none).getD 0).Nodup:=by unfold Uj;rw[PY];refine QC (λ{a b} ha hb N=>?_) Q7;intro e;have h1:=all a (by have:=NU.mp ha;lia);have h2:=all b (by have:=NU.mp hb;lia);rw[<-e] at h2;exact N (L.inj a b _ h1 h2)
 have:=nd.length_le_of_subset (l₂:=NA k) (λx hx=>by obtain⟨j,v,rfl⟩:=NB.mp hx;exact NU.mpr (L.lt j _ (all j (by have:=NU.mp v;lia))))
 simp at this;lia
theorem oM.step(hm:Hl m)(L:oM m hs ow k)(hk:k<=m):∃j,O2 m ow (OQ m) (OU (hs k)%(m+1)) (OU (hs k))=some j/\oM m hs (ow.setIfInBounds j (some k)) (k+1):=by
 obtain⟨j,Y,Z⟩:=L.hole hk;obtain⟨q,d,S⟩:=pE hm (hs k) Y;obtain⟨e,D,F,O⟩:=nM (P:=λn=>¬ zO ow (sp m (hs k) n).j) _ (by rw[S];exact Z);have O:∀n,n<e->zO ow (sp m (hs k) n).j:=λn hn=>OL λz=>O n hn z;have hf:=rA L.sz F O (OQ m) 0 (Kw m (hs k)) (Ou _) ⟨q,by unfold OQ;lia,D⟩;have hb:(sp m (hs k) e).j<ow.size:=by have:=rR m (hs k) e;have:=L.sz;lia
 have H:∀j:Nat,(ow.setIfInBounds (sp m (hs k) e).j (some k))[j]?=if (sp m (hs k) e).j=j then some (some k) else ow[j]?:=λj=>by rw[Array.getElem?_setIfInBounds,if_pos hb]
 have own:∀j,zO ow j->zO (ow.setIfInBounds (sp m (hs k) e).j (some k)) j:=by
  rintro j ⟨i,hi⟩;refine⟨i,?_⟩;rw[H,if_neg]
  .exact hi
  .intro z;exact F ⟨i,by rw[z];exact hi⟩
 refine⟨_,hf,⟨by rw[QX];exact L.sz,λj i v=>?_,λj j' i v I=>?_,λi hi=>?_⟩⟩
 .rw[H] at v;split at v
  .cases v;lia
  .have:=L.lt j i v;lia
 .rw[H] at v I;split at v
  .next c=>
   cases v;split at I
   .next c'=>rw[<-c,<-c']
   .exact absurd (L.lt _ _ I) (OE _)
  .split at I
   .cases I;exact absurd (L.lt _ _ v) (OE _)
   .exact L.inj j j' i v I
 .by_cases c:i=k
  .subst c;exact⟨e,by rw[H,if_pos rfl],λn' hn=>own _ (O n' hn)⟩
  .obtain⟨n,C,l⟩:=L.rc i (by lia);refine⟨n,?_,λn' hn=>own _ (l n' hn)⟩;rw[H,if_neg]
   .exact C
   .intro z;exact F ⟨i,by rw[z];exact C⟩
theorem oF{m:Nat}(hm:Hl m){hs:Nat->Int}:∀(l:List Int)(k:Nat)(ow:Ow),oM m hs ow k->(∀i,i<l.length->hs (k+i)=l.getD i 0)->k+l.length<=m+1->∃x,oM m hs x (k+l.length) /\
  l.foldl (init:=some (ow,k)) (λacc h=>do
   let (owner,k) <- acc
   let j <- O2 m owner (OQ m) (OU h%(m+1)) (OU h)
   pure (owner.setIfInBounds j (some k),k+1))=some (x,k+l.length)
 |[],k,ow,L,_,_=>⟨ow,L,rfl⟩
 |h::l,k,ow,L,e,hk=>by
  rw[NM] at hk e;obtain⟨j,Y,Z⟩:=L.step hm (by lia);have E:hs k=h:=e 0 (by lia);rw[E] at Y;obtain⟨x,X,Q⟩:=oF hm l (k+1) _ Z (λi hi=>by have:=e (i+1) (by lia);rw[show k+1+i=k+(i+1) by lia,this];rfl) (by lia);rw[show k+1+l.length=k+(h::l).length by rw[NM];lia] at X Q;refine⟨x,X,?_⟩;rw[Rl];refine Eq.trans ?_ Q
  congr 1
  show (do let j <- O2 m ow (OQ m) (OU h%(m+1)) (OU h);pure (ow.setIfInBounds j (some k),k+1))=_;rw[Y];rfl
theorem Ay{finger moves:Nat}{plain:Bool}(hm:Hl m)(p:Array Int)(hk:p.size<=m):∃t' order,Uw m finger moves led plain p=some (t',order)/\t'.mask=m/\t'.led=led/\t'.plain=plain/\order.toList.Perm (NA p.size)/\t'.place.size=order.size/\ku t' (λa=>p.getD (order.getD a 0) 0):=by
 have E:oM m (λi=>p.getD i 0) (Array.replicate (m+1) none) 0:=by
  refine⟨by simp,λj i h=>?_,λj j' i h=>?_,λi h=>absurd h (OZ _)⟩
  .rw[S4] at h;split at h
   .cases h
   .cases h
  .rw[S4] at h;split at h
   .cases h
   .cases h
 obtain⟨ow,L,hf⟩:=oF hm p.toList 0 _ E (λi hi=>by rw[Qb];simp[NQ,OB]) (by simp;lia);rw[Qb,NP] at L hf;have hc:TH m p=some ow:=by unfold TH;rw[<-Array.foldl_toList,hf];rfl
 generalize U:(NA (m+1)).filterMap (λj=>Qt (λx=>(j,x)) (ow.getD j none))=live;have r:∀j i,(j,i)∈live↔ow[j]?=some (some i):=by
  intro j i;rw[<-U,RU];constructor
  .rintro⟨j',I,e⟩;rw[NQ] at e;cases z:ow[j']? with
   |none=>rw[z] at e;cases e
   |some q=>
    rw[z] at e;cases q with
    |none=>cases e
    |some q=>cases e;exact z
  .intro e;have hb:=(Oj.mp e).1;refine⟨j,NU.mpr (by rw[<-L.sz];exact hb),?_⟩;rw[NQ,e];rfl
 have f:live.Pairwise λx y=>x.1<y.1:=by
  rw[<-U];refine Vq _ (λa a' K b hb X s=>?_) (Rg (n:=m+1));cases z:ow.getD a none with
  |none=>rw[z] at hb;cases hb
  |some q=>
   cases o:ow.getD a' none with
   |none=>rw[o] at s;cases s
   |some S=>rw[z] at hb;rw[o] at s;cases hb;cases s;exact K
 refine⟨{ mask:=m,place:=(live.map (·.1)).toArray,dummies:=#[],finger:=finger,led:=led,moves:=moves,plain:=plain },(live.map (·.2)).toArray,?_,rfl,rfl,rfl,?_,by simp,?_⟩
 .unfold Uw;rw[hc,<-U];rfl
 .show (live.map (·.2)).Perm (NA p.size);rw[QM _ Q7]
  .intro i;rw[NU,NB];constructor
   .rintro⟨⟨j,A⟩,h1,rfl⟩;exact L.lt j _ ((r j A).mp h1)
   .intro hi;obtain⟨n,C,_⟩:=L.rc i hi;exact⟨(_,i),(r _ _).mpr C,rfl⟩
  .unfold Uj;rw[PY];refine QC (λ{a b} ha hb N e=>?_) f;have h1:=(r a.1 a.2).mp ha;have h2:=(r b.1 b.2).mp hb;rw[<-e] at h2;have:=L.inj _ _ _ h1 h2;lia
 .have pl:∀a:Nat,((live.map (·.1)).toArray)[a]?=live[a]?.map (·.1):=λa=>by simp
  refine⟨hm,rfl,λa b N hb=>?_,λa j ha=>?_,λa j ha=>?_⟩
  .have s:b<live.length:=by simpa using hb
   have h1:=(O0.mp f) a b (by lia) s N;simp only[NQ];rw[pl,pl,Nx s,Nx (by lia)];exact h1
  .have ha:((live.map (·.1)).toArray)[a]?=some j:=ha;rw[pl] at ha;cases z:live[a]? with
   |none=>rw[z] at ha;cases ha
   |some q=>rw[z] at ha;cases ha;have:=(r q.1 q.2).mp (NV z);have:=(Oj.mp this).1;have:=L.sz;show q.1<=m;lia
  .have ha:((live.map (·.1)).toArray)[a]?=some j:=ha;rw[pl] at ha;cases z:live[a]? with
   |none=>rw[z] at ha;cases ha
   |some q=>
    rw[z] at ha;cases ha;have R:=(r q.1 q.2).mp (NV z);have D:((live.map (·.2)).toArray).getD a 0=q.2:=by
     rw[NQ];have:((live.map (·.2)).toArray)[a]?=live[a]?.map (·.2):=by simp
     rw[this,z];rfl
    dsimp only;rw[D];obtain⟨n,C,l⟩:=L.rc q.2 (L.lt _ _ R);refine⟨n,L.inj _ _ _ C R,λn' hn=>?_⟩;obtain⟨A,P⟩:=l n' hn;obtain⟨a',Q⟩:=RD ((r _ _).mpr P);exact⟨a',by show ((live.map (·.1)).toArray)[a']?=_;rw[pl,Q];rfl⟩
theorem gy{es:Array α}{order:Array Nat}(hp:order.toList.Perm (NA es.size)):(order.filterMap (es[·]?)).toList.Perm es.toList/\(order.filterMap (es[·]?)).size=es.size/\∀a:Nat,(order.filterMap (es[·]?))[a]?=order[a]?.bind (es[·]?):=by
 have w:∀i∈order.toList,i<es.size:=λi hi=>NU.mp (hp.mem_iff.mp hi);have gen:∀l:List Nat,(∀i∈l,i<es.size)->(l.filterMap (es[·]?)).length=l.length/\∀a:Nat,(l.filterMap (es[·]?))[a]?=l[a]?.bind (es[·]?):=by
  intro l;induction l with
  |nil=>intro _;exact⟨rfl,λa=>by simp⟩
  |cons i l j=>
   intro h;obtain⟨h1,h2⟩:=j λi hi=>h i (Nt _ hi);have hi:=h i Nu;rw[Qd,NC hi];refine⟨by simp[h1],λa=>?_⟩;cases a with
   |zero=>simp[hi]
   |succ a=>simpa using h2 a
 obtain⟨q,b⟩:=gen order.toList w;have e:(order.filterMap (es[·]?)).toList=order.toList.filterMap (es[·]?):=by simp
 have E:order.toList.length=es.size:=by rw[hp.length_eq,Oi]
 refine⟨?_,by rw[<-NP,e,q,E],λa=>by rw[<-NZ,e,b,NZ]⟩;rw[e];refine(hp.filterMap _).trans ?_;have:(NA es.size).filterMap (es[·]?)=es.toList:=by
  apply O8;intro a;rw[(gen (NA es.size) λi hi=>NU.mp hi).2 a];by_cases c:a<es.size
  .rw[Pb c];simp
  .rw[OK (by simpa using c),OK (by simpa using c)];rfl
 rw[this]
end
variable{xs:List (List Key×Addr)}{Q:Bool->Shared->Prop}
section
open PySem PyProof.Rows PySem.W
open L2
variable{prog:Program}{w:World}{A:Around}{E:Value->Shared->Prop}{s:Shared}
abbrev TK(prog:Program)(w:World):HeapKind prog w (List Key):=tupleKind (aW prog w)
def Hg(k:List Key):Prop:=∃x r,k=Qr x::r
noncomputable def uu(es:Array (Int×Value))(i:Nat):Int:=(es[i]?.map (·.1)).getD 0
structure bB(prog:Program)(w:World)(h:Heap)(a:Addr)(xs:List (List Key×Addr))(o:Obj)(es:Array (Int×Value))(ep:Nat)(t:SetTable):Prop where
 ho:h.get? a=some o
 hx:o.ExactSet
 hd:o.data=.set es ep t
 he:es.toList=xs.map λx=>((TK prog w).hash x.1,.ref x.2)
 nd:(xs.map (·.1)).Nodup
 is:∀x∈xs,(TK prog w).is h x.1 x.2/\Hg x.1
 tb:ku t (uu es)
 sz:t.place.size=es.size
 fl:t.place.size*5<t.mask*3
 ld:t.led=!w.params.followText "set-order"
 pl:es.size=0\/t.plain=false
noncomputable def iY(xs:List (List Key×Addr))(k:List Key):Bool:=xs.any λx=>decide (x.1=k)
theorem cF{k:List Key}:iY xs k=true↔∃x∈xs,x.1=k:=by unfold iY;rw[O3];exact⟨λ⟨x,h1,h2⟩=>⟨x,h1,of_decide_eq_true h2⟩,λ⟨x,h1,h2⟩=>⟨x,h1,decide_eq_true h2⟩⟩
section
variable{h:Heap}{a b:Addr}{xs:List (List Key×Addr)}{o:Obj}{es:Array (Int×Value)}{ep:Nat}{t:SetTable}{k:List Key}
theorem bB.fits(S:bB prog w h a xs o es ep t):t.fits es.size=true:=by unfold Ux SetTable.fill;have:=S.fl;rw[S.sz,S.tb.dm];simp;have:=S.sz;lia
theorem bB.xR(S:bB prog w h a xs o es ep t)(i:Nat):es[i]?=xs[i]?.map λx=>((TK prog w).hash x.1,Of x.2):=by rw[<-NZ,S.he,NS]
theorem bB.len(S:bB prog w h a xs o es ep t):es.size=xs.length:=by rw[<-NP,S.he,Nl]
theorem jL{n:Nat}(hk:(TK prog w).is s.heap k b)(h:Q false s):wpAny (model prog w) A (ofAClassStatement (n+1) (.ref b)) Q E s:=by
 obtain⟨o,items,m,ho,hc,hd,hi⟩:=hk;have hT:s.TypeIs (.ref b) "tuple" := ⟨o,ho,hc⟩
 unfold ofAClassStatement;refine wpAny_bind (wpAny_typeOf hT ?_);dsimp only;rw[if_pos (by decide)];refine wpAny_bind (wpAny_pure ?_);simp only[Th,NY,if_false];refine wpAny_bind (wpAny_seqItems ho hd ?_);dsimp only;refine wpAny_bind ?_;show wpAny _ _ (forIn items _ _) _ _ s;rw[<-T9];refine wpAny_forIn_list _ (λrest r s'=>r.1=none/\s'=s/\∀v∈rest,carriedByValue v=true) _ ?_ ?_ _ _ ⟨rfl,rfl,hi.byValue⟩
 .rintro v rest r s' ⟨t,rfl,H⟩;have p:=H v Nu;have e:ofAClassStatement n v=pure false:=by
   cases v with
   |ref a=>simp[carriedByValue] at p
   |_=>unfold ofAClassStatement;rfl
  rw[e];refine wpAny_bind (wpAny_pure ?_);simp only[NY,if_false];exact wpAny_pure ⟨rfl,rfl,λu x=>H u (Nt _ x)⟩
 .rintro⟨c,g⟩ s' ⟨t,rfl,_⟩;simp only at t;subst t;exact wpAny_pure h
theorem qh(hk:(TK prog w).is s.heap k b){l:List Value}(hl:∀y∈l,∃k' c,y=.ref c/\(TK prog w).is s.heap k' c)(h:Q false s):wpAny (model prog w) A (searchCouldBeSeen (.ref b) l) Q E s:=by
 unfold searchCouldBeSeen;refine wpAny_bind ?_;refine wpAny_forIn_list _ (λrest r s'=>r.1=none/\s'=s/\∀y∈rest,∃k' c,y=.ref c/\(TK prog w).is s.heap k' c) _ ?_ ?_ _ _ ⟨rfl,rfl,hl⟩
 .rintro y rest ⟨r,u⟩ s' ⟨t,rfl,H⟩;obtain⟨k',c,rfl,n⟩:=H y Nu;have a:∀y∈rest,∃k' c,y=.ref c/\(TK prog w).is s'.heap k' c:=λy hy=>H y (Nt _ hy);dsimp only;refine wpAny_ite_split (λ_=>wpAny_pure ⟨rfl,rfl,a⟩) λ_=>?_;refine wpAny_bind ((TK prog w).quiet hk ?_);simp only[Th,NY,if_false];refine wpAny_bind ((TK prog w).quiet n ?_);simp only[Th,NY,if_false];refine wpAny_bind (jL hk ?_);simp only[NY,if_false];refine wpAny_bind (jL n ?_);simp only[NY,if_false];exact wpAny_pure ⟨rfl,rfl,a⟩
 .rintro⟨F,g⟩ s' ⟨t,rfl,_⟩;simp only at t;subst t;exact wpAny_pure h
theorem GX{c:Bool}{m:Sem Bool}{u:Sem Unit}{K:Sem α}{Q:α->Shared->Prop}(hm:∀Q:Bool->Shared->Prop,Q false s->wpAny (model prog w) A m Q E s)(J:wpAny (model prog w) A K Q E s):wpAny (model prog w) A (if c=true then (m >>= λr=>if r=true then u >>= λ_=>K else K) else K) Q E s:=
 wpAny_ite_split (λ_=>wpAny_bind (hm _ (by rw[if_neg (by decide)];exact J))) λ_=>J
theorem bB.search(S:bB prog w s.heap a xs o es ep t)(d:A.units<cLine)(hk:(TK prog w).is s.heap k b){e:Nat}(he:¬ Lv t (sp t.mask ((TK prog w).hash k) e).j)(hl:∀n,n<e->Lv t (sp t.mask ((TK prog w).hash k) n).j)(P:e<10*OQ t.mask){Q:SetFound->Shared->Prop}
  (h:Q (if iY xs k=true then .there none else .free (sp t.mask ((TK prog w).hash k) e).j false) s):∀fuel n m,n<=e->e-n<fuel->m.getD (t.probeStart ((TK prog w).hash k))=sp t.mask ((TK prog w).hash k) n->
   (∀(i:Nat)(x:List Key×Addr),xs[i]?=some x->x.1=k->∀n',n'<n->t.place[i]?≠some (sp t.mask ((TK prog w).hash k) n').j)->
   wpAny (model prog w) A (setSearchFrom a (.ref b) ((TK prog w).hash k) true fuel m) Q E s
 |0,n,m,h1,h2,_,_=>by lia
 |fuel+1,n,m,h1,h2,h3,h4=>by
  unfold setSearchFrom;refine wpAny_bind (wpAny_setState_of S.ho S.hd S.fits ?_);dsimp only;have R:t.gaveWay=false:=by unfold SetTable.gaveWay;rcases S.tb.ms with e|e<;>rw[e]<;>rfl
  rw[R];simp only[NY,if_false];rw[h3];have G:=sf (hs:=uu es) S.tb.dm S.tb.ri he hl (10*OQ t.mask) n h1 (by lia);rcases G with ⟨O,Z⟩|⟨n',i,O,Z,u,g4,L,g⟩
  .have B:t.probe (uu es) ((TK prog w).hash k) (sp t.mask ((TK prog w).hash k) n)=some (.empty (sp t.mask ((TK prog w).hash k) e).j none):=O;have T:¬ iY xs k=true:=by
    intro z;obtain⟨x,hx,D⟩:=cF.mp z;obtain⟨i,hi⟩:=RD hx;have U:i<t.place.size:=by rw[S.sz,S.len];exact(Np.mp hi).1
    obtain⟨j,v⟩:∃j,t.place[i]?=some j:=⟨_,NC U⟩
    obtain⟨K,X,N⟩:=S.tb.rc i j v;have I:uu es i=(TK prog w).hash k:=by unfold uu;rw[S.xR,hi,<-D];rfl
    rw[I] at X N;have c1:K<e:=Ss λz=>by
     by_cases c:e=K
     .exact he ⟨i,by rw[v,<-X,c]⟩
     .exact he (N e (by lia))
    have c2:n<=K:=P9 λz=>h4 i x hi D K z (by rw[v,X]);exact Z K c2 c1 i (by rw[v,X]) I
   rw[if_neg T] at h;have V:∀f,f=uu es->t.probe f ((TK prog w).hash k) (sp t.mask ((TK prog w).hash k) n)=some (.empty (sp t.mask ((TK prog w).hash k) e).j none):=λf hf=>by rw[hf];exact B
   rw[V _ ?hf]
   case hf=>rfl
   exact wpAny_pure h
  .have V:∀f,f=uu es->t.probe f ((TK prog w).hash k) (sp t.mask ((TK prog w).hash k) n)=some (.candidate (sp t.mask ((TK prog w).hash k) n').j i (sp t.mask ((TK prog w).hash k) (n'+1))):=λf hf=>by rw[hf];exact L
   rw[V _ ?hf]
   case hf=>rfl
   dsimp only;have U:i<xs.length:=by rw[<-S.len,<-S.sz];exact(Oj.mp u).1
   obtain⟨x,hx⟩:∃x,xs[i]?=some x:=⟨_,Nx U⟩
   have hex:es[i]?=some ((TK prog w).hash x.1,Of x.2):=by rw[S.xR,hx];rfl
   have H:=(S.is x (NV hx)).1;refine GX (λQ hq=>qh hk (λy hy=>?_) hq) ?_
   .obtain⟨p,hp,rfl⟩:=NB.mp hy;have hp:p∈es.toList:=by have:=Ry.mp hp;exact Ry.mpr (Array.mem_filter.mp this).1
    rw[S.he] at hp;obtain⟨Y,C,rfl⟩:=NB.mp hp;exact⟨Y.1,Y.2,rfl,(S.is Y C).1⟩
   rw[hex];dsimp only;refine wpAny_bind (wpAny_holding ((TK prog w).eqBool d H hk ?_));refine wpAny_bind (wpAny_setState_of S.ho S.hd S.fits ?_);dsimp only;by_cases c:x.1=k
   .rw[decide_eq_true c];simp only[Ti,if_true];rw[if_pos (cF.mpr ⟨x,NV hx,c⟩)] at h;exact wpAny_pure h
   .rw[decide_eq_false c];simp only[P5,NY,if_false];have sm:t.sameMemory t.moves t.mask=some true:=by unfold SetTable.sameMemory;rw[if_pos (beq_self_eq_true _)]
    rw[sm];dsimp only;rw[if_pos rfl,lQ S.tb.ri u];dsimp only;rw[hex];dsimp only;refine wpAny_bind (wpAny_isSame_ref_self (wpAny_bind (wpAny_pure ?_)));simp only[if_true];refine bB.search S d hk he hl P h fuel (n'+1) _ (by lia) (by lia) rfl λJ x2 r F l hn2 z=>?_;by_cases q:l<n
    .exact h4 J x2 r F l q z
    .have I:uu es J=(TK prog w).hash k:=by unfold uu;rw[S.xR,r,<-F];rfl
     by_cases q2:l<n'
     .exact g l (by lia) q2 J z I
     .have:l=n':=by lia
      subst this;have:J=i:=(below_at S.tb.ri z).symm.trans (below_at S.tb.ri u);subst this;rw[hx] at r;cases r;exact c F
end
end
section
open PySem PyProof.Rows PySem.W
open L2
variable{prog:Program}{w:World}{A:Around}{E:Value->Shared->Prop}{s:Shared}
section
variable{h h':Heap}{a b:Addr}{xs:List (List Key×Addr)}{o:Obj}{es:Array (Int×Value)}{ep:Nat}{t t':SetTable}{k:List Key}
theorem ku.congr{y:Nat->Int}(T:ku t hs)(e:∀(a j:Nat),t.place[a]?=some j->hs a=y a):ku t y:=
 ⟨T.ms,T.dm,T.ri,T.le,λa j ha=>by rw[<-e a j ha];exact T.rc a j ha⟩
theorem jR(x:(TK prog w).is h k b)(ho:h.get? a=some o)(hd:o.data=.set es ep t)(hs:Qp a h h'):(TK prog w).is h' k b:=by
 obtain⟨o',items,n,p,hc,i,hi⟩:=x;have m:b≠a:=by rintro rfl;obtain rfl:o'=o:=NJ (p.symm.trans ho);rw[hd] at i;exact nomatch i
 exact⟨o',items,n,(hs.2 b m).trans p,hc,i,hi⟩
theorem kJ(hk:(TK prog w).is s.heap k b)(hx:Hg k)(h:Q false s):wpAny (model prog w) A (hashByValue 8 (.ref b)) Q E s:=by
 obtain⟨o,items,m,ho,hc,hd,hi⟩:=hk;have hT:s.TypeIs (.ref b) "tuple" := ⟨o,ho,hc⟩
 obtain⟨x,r,rfl⟩:=hx;unfold hashByValue;refine wpAny_bind (wpAny_specialOf hT F.slot_tuple_hash.lookup ?_);dsimp only;refine wpAny_bind (wpAny_seqItems ho hd ?_);rw[Option.getD_some];refine wpAny_bind ?_;show wpAny _ _ (forIn items _ _) _ _ s;rw[<-T9];generalize items.toList=l at hi;cases hi with
 |@cons k v ks vs h1 h2=>
  rcases aL (show gc (Qr x) v=true from h1) with ⟨i,t,e,_⟩|⟨y,t,_,rfl⟩
  .cases e
  .rw[Sw];refine wpAny_bind ?_;have e:hashByValue 7 (.str y t)=pure false:=by unfold hashByValue;rfl
   rw[e];refine wpAny_bind (wpAny_pure ?_);simp only[U3,if_true];exact wpAny_pure (wpAny_pure (wpAny_pure h))
theorem sh{es':Array (Int×Value)}(ho:h.get? a=some o)(hx:o.ExactSet)(hd:o.data=.set es ep t):(h.update a (Ro es' t')).get? a=some { o with data:=.set es' (ep+1) t' }:=by have:=Ph (Ro es' t') ho (by rw[putSet_of es' t' hd];rfl);rw[putSet_of es' t' hd] at this;exact this
theorem yA{xs:Array α}{p:Nat}{x:α}:(N7 xs p x).toList=xs.toList.take p++x::xs.toList.drop p:=by unfold N7;simp[ON];rw[PL (by simp)]
theorem bB.new(hl:led=!w.params.followText "set-order")(ho:h.get? a=some o)(hx:o.ExactSet)(hd:o.data=.set #[] 0 (.fresh 0 0 led)):bB prog w h a [] o #[] 0 (.fresh 0 0 led):=
 ⟨ho,hx,hd,rfl,SR,(λ_ h=>nomatch h),⟨.inl rfl,rfl,λa b h1 h2=>by simp[Sk] at h2,λa j h=>by simp[Sk] at h,λa j h=>by simp[Sk] at h⟩,rfl,by show 0*5<7*3;decide,hl,.inl rfl⟩
theorem bB.add(S:bB prog w s.heap a xs o es ep t)(hu:A.units<cLine)(hk:(TK prog w).is s.heap k b)(hx:Hg k)(hb:xs.length+1<=18)
  (h:∀h' G o' es' ep' t',Qp a s.heap h'->bB prog w h' a G o' es' ep' t'->(iY xs k=true/\G=xs\/iY xs k=false/\G.Perm ((k,b)::xs))->Q (!iY xs k) { s with heap:=h' }):
  wpAny (model prog w) A (setAddHashed a (.ref b) ((TK prog w).hash k)) Q E s:=by
 unfold setAddHashed setAddHashedIn;refine wpAny_holding (wpAny_bind (wpAny_setState_of S.ho S.hd S.fits ?_));have bs:byScan (.ref b) es=false:=rfl;dsimp only;rw[bs];simp only[NY,if_false];obtain⟨e,e1,e2,e3⟩:=S.tb.end (by have:=S.fl;lia) ((TK prog w).hash k);have hN:10*OQ t.mask<=1000:=by unfold OQ;rcases S.tb.ms with z|z<;>rw[z]<;>decide
 refine wpAny_bind (S.search hu hk e2 e3 e1 ?_ 100000 0 none (Ou _) (by lia) rfl (λ_ _ _ _ n' z=>absurd z (OZ n')));cases R:iY xs k with
 |true=>rw[if_pos rfl];rw[R] at h;have:=h s.heap xs o es ep t (VA _ _) S (.inl ⟨rfl,rfl⟩);exact wpAny_pure this
 |false=>
  rw[if_neg (by decide)];dsimp only;refine wpAny_bind (wpAny_setState_of S.ho S.hd S.fits ?_);dsimp only;generalize ep0:t.put (sp t.mask ((TK prog w).hash k) e).j=tp;obtain⟨n,p⟩:=tp;obtain⟨Y,T,z1,l1,mv1,p1,pl1⟩:=Gs S.tb e2 e3 ep0;dsimp only;have hp:p<=es.size:=by rw[<-S.sz];exact p1
  have P:∀F:SetTable,F={ n with plain:=false }->wpAny (model prog w) A (storeSet a (N7 es p ((TK prog w).hash k,.ref b)) F >>= λ_=>if (!false&&F.tooFull)=true then setRelay a (Uk (es.size+1)) >>= λ_=>pure true else pure true) Q E s:=by
   rintro F rfl;have Z:=km (x:=((TK prog w).hash k,Of b)) hp;refine wpAny_bind (wpAny_storeSet_of S.ho S.hd ?_ (by rw[Z,S.len,sizeLine_eq];lia));have V:=sh (t':={ n with plain:=false }) (es':=N7 es p ((TK prog w).hash k,.ref b)) S.ho S.hx S.hd;have sb:=PU s.heap a (Ro (N7 es p ((TK prog w).hash k,.ref b)) { n with plain:=false });generalize s.heap.update a (Ro (N7 es p ((TK prog w).hash k,.ref b)) { n with plain:=false })=h1 at V sb ⊢;generalize O:N7 es p ((TK prog w).hash k,.ref b)=es1 at V Z;have B:es1.toList=(xs.take p++(k,b)::xs.drop p).map λx=>((TK prog w).hash x.1,Of x.2):=by rw[<-O,yA,S.he];simp
   have y:(xs.take p++(k,b)::xs.drop p).Perm ((k,b)::xs):=by refine Q6.trans (List.Perm.cons _ ?_);rw[OA]
   have hT1:ku { n with plain:=false } (uu es1):=by
    have:ku { n with plain:=false } (HC (uu es) p ((TK prog w).hash k)):=⟨Y.ms,Y.dm,Y.ri,Y.le,Y.rc⟩
    refine this.congr λi j _=>?_;unfold HC uu;rw[<-O,lG hp];split
    .rfl
    .split<;>rfl
   have d:((xs.take p++(k,b)::xs.drop p).map (·.1)).Nodup:=by refine(y.map _).nodup_iff.mpr ?_;rw[NK,Oe];refine⟨λz=>?_,S.nd⟩;obtain⟨x,x1,x2⟩:=NB.mp z;have:=cF.mpr ⟨x,x1,x2⟩;rw[R] at this;cases this
   have H:∀x∈xs.take p++(k,b)::xs.drop p,(TK prog w).is h1 x.1 x.2/\Hg x.1:=λx C=>by
    rcases ND.mp (y.mem_iff.mp C) with rfl|C
    .exact⟨jR hk S.ho S.hd sb,hx⟩
    .exact⟨jR (S.is x C).1 S.ho S.hd sb,(S.is x C).2⟩
   have f:n.place.size=es1.size:=by rw[z1,Z,S.sz]
   have r:({ n with plain:=false }:SetTable).fill=es1.size:=by show n.place.size+n.dummies.size=_;rw[Y.dm,f];rfl
   have l:=S.fl;have hms:=S.tb.ms;by_cases c:({ n with plain:=false }:SetTable).tooFull=true
   .rw[c];simp only[U3,Ti,if_true];have D:es1.size*5≥t.mask*3:=by have:=of_decide_eq_true c;rw[r] at this;rw[<-T];exact this
    have hlx:=S.len;have hsz:=S.sz;have m7:t.mask=7:=by
     rcases hms with z|z
     .exact z
     .rw[z] at D l;lia
    have I:es.size=4:=by rw[m7] at D l;lia
    rw[I];refine wpAny_bind ?_;unfold setRelay;have X:({ n with plain:=false }:SetTable).fits es1.size=true:=by unfold Ux;rw[r];show (n.place.size==es1.size&&decide (es1.size<=n.mask))=true;rw[f,T,m7,Z,I];simp
    refine wpAny_bind (wpAny_setState_of V rfl X ?_);dsimp only;rw[if_neg (by rw[sizeLine_eq];decide)];obtain⟨q,order,r1,r2,r3,r4,N,r6,r7⟩:=Ay (m:=31) (finger:=n.finger) (moves:=({ n with plain:=false }:SetTable).movedTo 31) (led:=n.led) (plain:=false) (.inr rfl) (es1.map (·.1)) (by rw[Rz,Z,I];decide);rw[show ({ n with plain:=false }:SetTable).relaid (es1.map (·.1)) (Uk (4+1))=some (q,order) from r1];rw[Rz] at N;obtain⟨o1,o2,o3⟩:=gy (es:=es1) N;have re:∀(c:Bool)(u:Sem PUnit),c=false->(if c=true then (u >>= λ_=>pure (order.filterMap (es1[·]?),q)) else pure (order.filterMap (es1[·]?),q):Sem (Array (Int×Value)×SetTable))=pure (order.filterMap (es1[·]?),q):=λc u hc=>by rw[hc];rfl
    refine wpAny_bind (wpAny_of_eq (a:=(order.filterMap (es1[·]?),q)) (re ((order.filterMap (es1[·]?)).size != es1.size) _ (by rw[o2];simp)) ?_);dsimp only;refine wpAny_storeSet_of V rfl ?_ (by rw[o2,Z,I,sizeLine_eq];decide);have J:=sh (t':=q) (es':=order.filterMap (es1[·]?)) V S.hx rfl;have U:=PU h1 a (Ro (order.filterMap (es1[·]?)) q);dsimp only at J U ⊢;generalize h1.update a (Ro (order.filterMap (es1[·]?)) q)=h2 at J U ⊢;have v:(xs.take p++(k,b)::xs.drop p).length=es1.size:=by rw[<-NP,B,Nl]
    obtain⟨q1,q2,q3⟩:=gy (es:=(xs.take p++(k,b)::xs.drop p).toArray) (order:=order) (by rw[Nk,v];exact N);have hat:∀i:Nat,es1[i]?=(xs.take p++(k,b)::xs.drop p)[i]?.map λx=>((TK prog w).hash x.1,Of x.2):=λi=>by rw[<-NZ,B,NS]
    have L:(order.filterMap (es1[·]?)).toList=((order.filterMap ((xs.take p++(k,b)::xs.drop p).toArray[·]?)).toList).map λx=>((TK prog w).hash x.1,Of x.2):=by
     rw[Ts,Ts,List.map_filterMap]
     congr 1
     funext i
     rw[hat];simp
    have K:(order.filterMap ((xs.take p++(k,b)::xs.drop p).toArray[·]?)).toList.Perm (xs.take p++(k,b)::xs.drop p):=by simpa using q1
    have:=h h2 _ _ _ _ q (sb.trans U) ⟨J,S.hx,rfl,L,(K.map _).nodup_iff.mpr d,λx C=>⟨jR (H x (K.mem_iff.mp C)).1 V rfl U,(H x (K.mem_iff.mp C)).2⟩,r7.congr λi j hi=>?_,by rw[r6,o2,<-NP,N.length_eq,Oi],by rw[r6,r2,<-NP,N.length_eq,Oi,Z,I];decide,by rw[r3,l1];exact S.ld,.inr r4⟩ (.inr ⟨R,K.trans y⟩)
    .rw[R] at this;exact wpAny_pure this
    .have g:i<order.size:=by rw[<-r6];exact(Oj.mp hi).1
     unfold uu;rw[o3,NC g];have e1:order.getD i 0=order[i]:=by simp[Ox,g]
     rw[e1,NQ,Array.getElem?_map];rfl
   .rw[Pn.mpr c];simp only[P5,NY,if_false];have D:es1.size*5<t.mask*3:=by have:=of_decide_eq_false (Pn.mpr c);rw[r] at this;rw[<-T];exact Ss this
    have:=h h1 _ _ _ _ _ sb ⟨V,S.hx,rfl,B,d,H,hT1,f,by show n.place.size*5<n.mask*3;rw[f,T];exact D,by show n.led=_;rw[l1];exact S.ld,.inr rfl⟩ (.inr ⟨R,y⟩);rw[R] at this;exact wpAny_pure this
  by_cases cp:n.plain=true
  .rw[cp];simp only[if_true];refine wpAny_bind (kJ hk hx ?_);simp only[NY,if_false];exact P _ rfl
  .rw[Pn.mpr cp];simp only[NY,if_false];refine wpAny_bind (wpAny_pure ?_);simp only[if_true];refine P _ ?_;cases n;simp only at cp;rw[Pn.mpr cp]
end
end
variable{S:Addr}{o:Obj}{es:Array (Int×Value)}{ep:Nat}
section
open PySem PyProof.Rows PySem.W
open L2 PySem.Spec
def GP(prog:Program)(w:World)(h:Heap)(S:Addr)(bs:Nat->Addr)(val:Nat->List Key)(i:Nat):Prop:=∃xs o es ep t,bB prog w h S xs o es ep t/\(∀k,iY xs k=true↔∃j,j<i/\val j=k)/\∀x∈xs,∃j,j<i/\bs j=x.2
theorem bB.keep{prog:Program}{t:SetTable}(T:bB prog w h S xs o es ep t)(k:∀b o,b=S\/(∃x∈xs,x.2=b)->h.get? b=some o->h'.get? b=some o):bB prog w h' S xs o es ep t:=
 ⟨k S o (.inl rfl) T.ho,T.hx,T.hd,T.he,T.nd,λx hx=>⟨by obtain⟨o',items,n,p,hc,i,hi⟩:=(T.is x hx).1;exact⟨o',items,n,k _ _ (.inr ⟨x,hx,rfl⟩) p,hc,i,hi⟩,(T.is x hx).2⟩,T.tb,T.sz,T.fl,T.ld,T.pl⟩
section
variable{prog:Program}{w:World}{A:Around}{R:Result->Shared->Prop}{I:Addr}{fp wr:List Addr}{G:Array GenState->Array GenState->Prop}{n:Nat}{P:Nat->Value->Prop}{St:Nat->Shared->Prop}
def TupAt(prog:Program)(w:World)(h:Heap)(bs:Nat->Addr)(val:Nat->List Key)(n:Nat):Prop:=∀i,i<n->(TK prog w).is h (val i) (bs i)
theorem gR{k:List Key}{b:Addr}(x:(TK prog w).is h k b)(e:∀o,h.get? b=some o->h'.get? b=some o):(TK prog w).is h' k b:=by obtain⟨o',items,n,p,r⟩:=x;exact⟨o',items,n,e _ p,r⟩
theorem uI(W:WalksS prog w A.in1 I fp wr G n P St)(S:Addr)(f:S∉fp)(g:A.in1.units<cLine)(bs:Nat->Addr)(val:Nat->List Key)(p:∀i v,P i v->v=.ref (bs i))(y:∀i,i<n->bs i∉S::wr)(d:∀i,i<n->Hg (val i))(D:List (List Key))(hD:D.length<=17)(l:∀i,i<n->val i∈D):
  ∀(m i:Nat)(s:Shared),i+m=n->St i s->TupAt prog w s.heap bs val n->(∃xs o es ep t,bB prog w s.heap S xs o es ep t/\(∀k,iY xs k=true↔∃j,j<i/\val j=k)/\∀x∈xs,∃j,j<n/\bs j=x.2)->
   (∀s',Moved (S::wr) G s s'->GP prog w s'.heap S bs val n->R (.ok (.ret .none)) s')->codeAny (model prog w) A (.builtin "set.update.loop" ⟨[.ref S,.ref I],[]⟩) R s:=by
 have V:S∉wr:=λh=>f (W.sub _ h);have more:∀b∈wr,b∈S::wr:=λb h=>.tail _ h;have r:∀{s s':Shared}{xs o es ep t},bB prog w s.heap S xs o es ep t->(∀x∈xs,∃j,j<n/\bs j=x.2)->Moved wr G s s'->bB prog w s'.heap S xs o es ep t:=λT hx hm=>T.keep λb o hb e=>hm.heap b o (by
  rcases hb with rfl|⟨x,h1,rfl⟩
  .exact V
  .obtain⟨j,Y,Z⟩:=hx x h1;rw[<-Z];exact λz=>y j Y (more _ z)) e
 intro m;induction m with
 |zero=>
  intro i s hi H hT ⟨xs,o,es,ep,t,T,hk,hx⟩ fin;obtain rfl:i=n:=by lia
  refine codeAny_builtin Q2 ?_;rw[P0 PQ _];show wpAny _ A.in1 (pyNext (.ref I) >>= _) _ _ s;exact wpAny_bind (W.done s _ _ H λs' hm=>wpAny_pure (fin s' (hm.mono more) ⟨xs,o,es,ep,t,r T hx hm,hk,hx⟩))
 |succ m F=>
  intro i s hi H hT ⟨xs,o,es,ep,t,T,hk,hx⟩ fin;have U:i<n:=by lia
  refine codeAny_builtin Q2 ?_;rw[P0 PQ _];show wpAny _ A.in1 (pyNext (.ref I) >>= _) _ _ s;refine wpAny_bind (W.item i s _ _ U H λv s' hP q hm=>?_);obtain rfl:=p i v hP;have T':=r T hx hm;have Q:TupAt prog w s'.heap bs val n:=λj E=>gR (hT j E) λo e=>hm.heap _ o (λz=>y j E (more _ z)) e;show wpAny _ A.in1 (holding [.ref (bs i)] (setAdd S (.ref (bs i))) >>= _) _ _ s';refine wpAny_bind (wpAny_holding ?_);unfold setAdd;refine wpAny_holding (wpAny_bind ((TK prog w).pyHash g (Q i U) ?_));have K:xs.length+1<=18:=by
   have:=T.nd.length_le_of_subset (l₂:=D) λk X=>by obtain⟨x,h1,h2⟩:=NB.mp X;obtain⟨j,Y,Z⟩:=(hk k).mp (cF.mpr ⟨x,h1,h2⟩);rw[<-Z];exact l j (by lia)
   rw[Nl] at this;lia
  refine bB.add (s:={ s' with toks:=s'.toks+(TK prog w).draws (val i) }) T' g (Q i U) (d i U) K λh' B o' es' N t' sb T2 J=>?_;have fr:∀b o,b≠S->s'.heap.get? b=some o->h'.get? b=some o:=λb o hb e=>(sb.2 b hb).trans e;refine wpAny_pure ⟨plainId_quiet PQ _,F (i+1) _ (by lia) (W.frame _ s' _ _ q (Pg _ _) λb hb o e=>fr b o (λz=>f (z▸hb)) e) (λj E=>gR (Q j E) λo e=>fr _ o (λz=>y j E (z▸Nu)) e) ⟨B,o',es',N,t',T2,λk=>?_,λx C=>?_⟩ λs2 u L=>?_⟩
  .rcases J with ⟨h1,rfl⟩|⟨h1,h2⟩
   .rw[hk k];constructor
    .rintro⟨j,Y,Z⟩;exact⟨j,by lia,Z⟩
    .rintro⟨j,Y,Z⟩;by_cases c:j=i
     .subst c;obtain⟨j',a1,O⟩:=(hk (val j)).mp h1;exact⟨j',a1,O.trans Z⟩
     .exact⟨j,by lia,Z⟩
   .have e:iY B k=true↔val i=k\/iY xs k=true:=by
     rw[cF,cF];constructor
     .rintro⟨x,a1,O⟩;rcases ND.mp (h2.mem_iff.mp a1) with rfl|a1
      .exact .inl O
      .exact .inr ⟨x,a1,O⟩
     .rintro(a|⟨x,a1,O⟩)
      .exact⟨(val i,bs i),h2.mem_iff.mpr Nu,a⟩
      .exact⟨x,h2.mem_iff.mpr (Nt _ a1),O⟩
    rw[e,hk k];constructor
    .rintro(a|⟨j,Y,Z⟩)
     .exact⟨i,by lia,a⟩
     .exact⟨j,by lia,Z⟩
    .rintro⟨j,Y,Z⟩;by_cases c:j=i
     .subst c;exact .inl Z
     .exact .inr ⟨j,by lia,Z⟩
  .rcases J with ⟨h1,rfl⟩|⟨h1,h2⟩
   .exact hx x C
   .rcases ND.mp (h2.mem_iff.mp C) with rfl|a1
    .exact⟨i,U,rfl⟩
    .exact hx x a1
  .refine fin s2 (Moved.trans W.gtrans ((hm.mono more).then_heap (Pg _ _) λb o hb e=>?_) u) L;exact fr b o (λz=>hb (z▸Nu)) e
end
section
variable{prog:Program}{w:World}{A:Around}{E:Value->Shared->Prop}{s:Shared}
theorem Bk(a:Value){Q₁:Value->Shared->Prop}
  (h:Q₁ (.ref s.heap.objs.size) { s with heap:=s.heap.push (oq (!w.params.followText "set-order")) }):
  codeAny (model prog w) A (.call (.builtin "set.__new__") ⟨[.type "set",a],[]⟩) (wants Q₁ E) s:=by
 refine codeAny_of_tree ?_;show wpAny _ A.in1 (checkBuiltinCall "set.__new__" ⟨[.type "set",a],[]⟩ >>= λ_=>again (.builtin "set.__new__" ⟨[.type "set",a],[]⟩)) _ _ s;refine wpAny_bind (wpAny_of_eq (PySem.F.newCall_set_1 a) (wpAny_pure ⟨plainId_quiet Tj _,codeAny_builtin PySem.F.entry_set_new ?_⟩));rw[P0 Tj _];unfold Builtin.«set.__new__» UO;have x:=sub_set_self;obtain⟨hp,g,d,tk,os⟩:=s;dsimp only
 wp_walk
 refine wpAny_askSetting (wpAny_pure ?_);dsimp only;simp only[newObj];refine wpAny_bind (wpAny_alloc (wpAny_pure ?_));exact wpAny_pure h
theorem kK{l:Addr}{items:Array Value}{val:Nat->List Key}{bs:Nat->Addr}{Q:Value->Shared->Prop}(V:A.handled=none)(N:A.units+64<cLine)(hl:s.heap.IsList l items)(hi:∀(i:Nat)(v:Value),items[i]?=some v->v=Of (bs i))(hT:TupAt prog w s.heap bs val items.size)(d:∀i,i<items.size->Hg (val i))(D:List (List Key))(u:D.length<=17)(P:∀i,i<items.size->val i∈D)
  (h:∀(h':Heap)(tk:Nat),GP prog w h' s.heap.objs.size bs val items.size->(∀b o,b<s.heap.objs.size->s.heap.get? b=some o->h'.get? b=some o)->Q (.ref s.heap.objs.size) { s with heap:=h',toks:=tk }):
  wpAny (model prog w) A (call (.type "set") [.ref l]) Q E s:=by
 obtain⟨c,tl,Y⟩:=O1.mro;have G:=O1.made;have C:=O1.sub;refine wpAny_call (codeAny_of_tree ?_);show wpAny _ _ (callAny (.type "set") _) _ _ _;refine wpAny_pure ⟨Uh _ (by decide +kernel),codeAny_builtin PySem.F.entry_type_call ?_⟩;rw[Around.under_plain (weight_type_call_type "set" [.ref l] []) rfl];have h1:=O1.notType;have h2:=O1.canCreate;have L:=PySem.F.typeCall_set_1 (.ref l)
 repeat (any_goals (first|assumption|wp_step))
 refine codeAny_mono (Bk (.ref l) (E:=E) (Q₁:=λobj Z=>obj=.ref s.heap.objs.size/\Z={ s with heap:=s.heap.push (oq (!w.params.followText "set-order")) }) ⟨rfl,rfl⟩) λr Z t=>?_;cases r with
 |error e=>exact t
 |ok fl=>
  cases fl with
  |ret obj=>
   obtain⟨rfl,rfl⟩:=t;generalize p:(!w.params.followText "set-order")=led;have g:(s.heap.push (oq led)).get? s.heap.objs.size=some (oq led):=NH _ rfl;have K:UP { s with heap:=s.heap.push (oq led) } (.ref s.heap.objs.size) "set" := ⟨_,g,rfl⟩
   have T:=O1.init.lookup;have hbi:=O1.init.bind (.ref s.heap.objs.size)
   repeat (any_goals (first|assumption|wp_step))
   refine codeAny_mono (codeAny_call_builtin (R:=wants (λr U=>r=.none/\∃h' tk,U={ s with heap:=h',toks:=tk } /\
     GP prog w h' s.heap.objs.size bs val items.size /\
     (∀b o,b<s.heap.objs.size->s.heap.get? b=some o->h'.get? b=some o)) E) O1.init.plain PySem.F.entry_set_init (check_set_init_1 K ?_)) λq U a=>?_
   .have lt:l<s.heap.objs.size:=by obtain⟨o,ho,_⟩:=hl;exact Nz ho
    have n:(s.heap.push (oq led)).IsList l items:=hl.push _;have hTl:UP { s with heap:=s.heap.push (oq led) } (.ref l) "list" := by obtain⟨o,ho,hc,_⟩:=n;exact⟨o,ho,hc⟩
    have O:=PySem.F.sub_list_set;have I:=PySem.F.sub_list_frozenset;have hne:(Qi "list" == Qi "dict")=false:=by decide
    unfold Builtin.«set.__init__» noKeywords UQ;generalize S:pyIter=PI
    wp_walk
    subst S;refine wpAny_pyIter_list n ?_;refine wpAny_bind (wpAny_runValue ?_);have B:A.in1.in1.in1.handled=none:=by simp[V]
    have sz:(s.heap.push (oq led)).objs.size=s.heap.objs.size+1:=SN ..;have lb:∀i,i<items.size->bs i<s.heap.objs.size:=λi f=>by obtain⟨o,_,_,ho,_⟩:=hT i f;exact Nz ho
    refine uI ((Walks.list B _ l (by rw[sz];exact NR (O9 lt)) items).toS) s.heap.objs.size (by rw[sz];simp only[ND,Q8,or_false,not_or];exact⟨NR (Qa _),P8 lt⟩) (O5 (show A.in1.in1.in1.units<=A.units+64 by show A.units+1+1+1<=_;lia) N) bs val hi (λi f=>by rw[sz];simp only[ND,Q8,or_false,not_or];exact⟨NR (lb i f),NR (O9 (lb i f))⟩) d D u P items.size 0 _ (by lia) ⟨⟨_,NH _ rfl,rfl,rfl⟩,n.push _⟩ (λi f=>gR (hT i f) λo e=>Nm _ (Nm _ e)) ⟨[],_,_,_,_,bB.new p.symm (Nm _ g) ⟨rfl,rfl,rfl⟩ rfl,λk=>⟨λz=>(Og z).elim,λ⟨j,hj,_⟩=>absurd hj (OZ j)⟩,λx hx=>nomatch hx⟩ λs' hm m=>?_;obtain⟨h',g',d',J,H⟩:=s';obtain rfl:g'=s.gens:=hm.gens;obtain rfl:d'=s.drawn:=hm.drawn;obtain rfl:H=s.os:=hm.os;refine wpAny_pure (wpAny_pure ⟨rfl,h',J,rfl,m,λb o hb e=>?_⟩);exact hm.heap b o (by rw[sz];simp only[ND,Q8,or_false,not_or];exact⟨NR hb,NR (O9 hb)⟩) (Nm _ (Nm _ e))
   .cases q with
    |error e=>exact a
    |ok y=>
     cases y with
     |ret r=>
      obtain⟨rfl,h',tk,rfl,m,X⟩:=a
      repeat (any_goals (first|assumption|wp_step))
      exact h _ _ m X
     |_=>exact a.elim
  |_=>exact t.elim
end
end
section
open PySem PyProof.Rows PySem.W
open L2 PySem.Spec
theorem fM:Slot "set_iterator" "__next__" "set_iterator.__next__" := .of (owner:= "set_iterator") (n:= "__next__") (by rw[typeLookup_type,builtinLookup_eq_fast];kernel_rfl) (by decide +kernel) (by decide +kernel) (by decide +kernel) (by first|exact .inl (by decide +kernel)|exact .inr (by decide +kernel)) (by rw[isSubtype_type];kernel_rfl)
theorem oS:entryFor table "set_iterator.__next__" = some Builtin.«set_iterator.__next__»:=entryFor_of_tree (by kernel_rfl)
theorem tE(a:Value):argsOk "set_iterator.__next__" ⟨[a],[]⟩:=by unfold argsOk;rw[signature?_of (id:= "set_iterator.__next__") (n:= "__txen__".toList) (o:= "rotareti_tes".toList) (by kernel_rfl) (by kernel_rfl:Ua.lookup (UR "rotareti_tes".toList.reverse)=some Sv)];kernel_rfl
theorem tN:Slot "set_iterator" "__iter__" "set_iterator.__iter__" := .of (owner:= "set_iterator") (n:= "__iter__") (by rw[typeLookup_type,builtinLookup_eq_fast];kernel_rfl) (by decide +kernel) (by decide +kernel) (by decide +kernel) (by first|exact .inl (by decide +kernel)|exact .inr (by decide +kernel)) (by rw[isSubtype_type];kernel_rfl)
theorem jU:entryFor table "set.__iter__" = some Builtin.«frozenset.__iter__»:=entryFor_alias (id':= "frozenset.__iter__") (by kernel_rfl) rfl (by decide +kernel) (by kernel_rfl)
end
section
open PySem PyProof.Rows PySem.W
open L2 PySem.Spec
variable{prog:Program}{w:World}{A:Around}{E:Value->Shared->Prop}{s:Shared}
theorem gC{α:Type}:∀{l:List α}{i:Nat}(h:i<l.length),(l[i]::l.eraseIdx i).Perm l
 |x::l,0,_=>QD _
 |x::l,i+1,h=>by have:=gC (l:=l) (i:=i) (by simpa using h);exact(Ub _ _ _).trans (this.cons x)
theorem wp_choose{a:Source}{n:Nat}{Q:Nat->Shared->Prop}(hn:n≠0)(h:∀i d,i<n->Q i { s with drawn:=d }):wpAny (model prog w) A (choose a n) Q E s:=
 λ_ _ _=>⟨hn,h _ _ (Rm _ (Nat.pos_of_ne_zero hn))⟩
theorem sj:∀(n:Nat)(xs:List Nat){s:Shared}{Q:List Nat->Shared->Prop},xs.length=n->(∀d ys,ys.Perm xs->Q ys { s with drawn:=d })->wpAny (model prog w) A (drawOrder n xs) Q E s
 |0,xs,s,Q,hl,h=>by have:xs=[]:=PJ hl;subst this;exact wpAny_pure (h s.drawn [] (QD _))
 |n+1,[],s,Q,hl,h=>nomatch hl
 |n+1,x::r,s,Q,hl,h=>by unfold drawOrder;refine wpAny_bind (wp_choose (by simp) λi d hi=>?_);rw[Nx hi];dsimp only;refine wpAny_bind (sj n ((x::r).eraseIdx i) (by rw[QN hi,hl];rfl) λm ys hp=>?_);exact wpAny_pure (h m _ ((hp.cons _).trans (gC hi)))
theorem kX{α:Type}(next:Nat->Nat):∀(fuel k:Nat)(left:List α)(out:Array α),left.length=fuel->(pickOrder.go next fuel k left out).toList.Perm (out.toList++left)
 |0,k,left,out,h=>by have:left=[]:=PJ h;subst this;unfold pickOrder.go;simp
 |fuel+1,k,left,out,h=>by
  unfold pickOrder.go;have hi:next k%left.length<left.length:=Rm _ (by lia)
  rw[Nx hi];dsimp only;refine(kX next fuel (k+1) _ _ (by rw[QN hi,h];rfl)).trans ?_;rw[OO,Nj];exact Ol _ (gC hi)
theorem jA(next:Nat->Nat)(xs:Array α):(pickOrder next xs).toList.Perm xs.toList:=by
 have:=kX next xs.size 0 xs.toList #[] (by simp)
 simpa[pickOrder] using this
def MM(h:Heap)(I S:Addr)(fst:Value)(i n ep:Nat):Prop:=∃o,h.get? I=some o/\o.cls=.type "set_iterator" /\ o.data=.fields #[fst,.int i 0,.ref S,.int n 0,.int ep 0]
inductive xH(w:World)(h:Heap)(S:Addr)(es:Array (Int×Value))(ep:Nat)(t:SetTable)(ys:List (Int×Value)):Nat->Value->Prop
 |drawn{i:Nat}{T:Addr}{o:Obj}{c:Nat}{od:List Nat}(ht:h.get? T=some o)(hd:o.data=.seq (od.map λ(j:Nat)=>rawInt j).toArray c)(hp:od.Perm (NA es.size))(hy:∀a:Nat,ys[a]?=od[a]?.bind (es[·]?))(hT:T≠S):xH w h S es ep t ys i (.ref T)
 |text{i:Nat}(hb:w.params.followText "set-order" = true)(hy:ys=(pickOrder (w.params.setOrder S ep) es).toList):xH w h S es ep t ys i (.int 0 0)
 |slot{i:Nat}(hb:w.params.followText "set-order" = false)(hn:es.size<=1)(hy:ys=es.toList)(x:Int)(hx:x=if i=0 then 0 else ((t.place.getD 0 0+1:Nat):Int)):xH w h S es ep t ys i (.int x 0)
def tj(prog:Program)(w:World)(I S:Addr)(xs:List (List Key×Addr))(ys:List (Int×Value))(fp:List Addr)(i:Nat)(h:Heap):Prop:=
 ∃o es ep t fst,bB prog w h S xs o es ep t/\ys.Perm es.toList/\MM h I S fst i es.size ep/\xH w h S es ep t ys i fst/\S∈fp/\I∈fp/\I≠S/\(∀x∈xs,x.2∈fp/\x.2≠I)/\∀T,fst=.ref T->T∈fp/\T≠I
theorem tj.frame{I:Addr}{ys:List (Int×Value)}{fp:List Addr}(x:tj prog w I S xs ys fp i h)(k:∀b∈fp,∀o,h.get? b=some o->h'.get? b=some o):tj prog w I S xs ys fp i h':=by
 obtain⟨o,es,ep,t,fst,T,hp,⟨a,P,J,s⟩,M,n,G,r,y,A⟩:=x;refine⟨o,es,ep,t,fst,T.keep (λb o hb e=>k b ?_ o e),hp,⟨a,k _ G _ P,J,s⟩,?_,n,G,r,y,A⟩
 .rcases hb with rfl|⟨x,N,rfl⟩
  .exact n
  .exact(y x N).1
 .cases M with
  |drawn ht hd hp hy hT=>exact .drawn (k _ (A _ rfl).1 _ ht) hd hp hy hT
  |text hb hy=>exact .text hb hy
  |slot hb hn hy x hx=>exact .slot hb hn hy x hx
theorem cy(h:Q (w.params.followText "set-order") s):wpAny (model prog w) A setsByText Q E s:=by unfold setsByText;exact wpAny_bind (wpAny_askSetting (wpAny_pure h))
theorem oB{a:Addr}{t:SetTable}{Q:Nat->Shared->Prop}(S:bB prog w s.heap a xs o es ep t)(h:Q ep s):wpAny (model prog w) A (setEpoch a) Q E s:=by unfold setEpoch;exact wpAny_bind (wpAny_setState_of S.ho S.hd S.fits (wpAny_pure h))
theorem dH{a:Addr}{t:SetTable}{Q:Array (Int×Value)->Shared->Prop}(S:bB prog w s.heap a xs o es ep t)(h:Q es s):wpAny (model prog w) A (setEntries a) Q E s:=by unfold setEntries;exact wpAny_bind (wpAny_setState_of S.ho S.hd S.fits (wpAny_pure h))
section
variable{a:Addr}{xs:List (List Key×Addr)}{o:Obj}{es:Array (Int×Value)}{ep:Nat}{t:SetTable}
theorem bB.ty(S:bB prog w s.heap a xs o es ep t):s.TypeIs (.ref a) "set" := ⟨o,S.ho,S.hx.1⟩
theorem bB.small(S:bB prog w h a xs o es ep t):es.size<=18:=by have h1:=S.fl;have h2:=S.sz;rcases S.tb.ms with z|z<;>rw[z] at h1<;>lia
theorem vT{Q:Value->Shared->Prop}(S:bB prog w s.heap a xs o es ep t)
  (h:∀h1 q I ys,ys.Perm es.toList->(∀b o,s.heap.get? b=some o->h1.get? b=some o)->s.heap.objs.size<=I->(∃fp,(∀b∈fp,b=I\/b=a\/(∃x∈xs,x.2=b)\/s.heap.objs.size<=b)/\tj prog w I a xs ys fp 0 h1)->Q (.ref I) { s with heap:=h1,drawn:=q }):wpAny (model prog w) A (pyIter (.ref a)) Q E s:=by
 have hT:=S.ty;have ha:a<s.heap.objs.size:=Nz S.ho;have f:∀x∈xs,x.2<s.heap.objs.size:=λx hx=>by obtain⟨o',_,_,p,_⟩:=(S.is x hx).1;exact Nz p
 refine wpAny_pyIter_slot hT Tn (wpAny_call_entry Tn hT jU ?_ (PySem.F.args_set_iter_1 _));unfold Builtin.«frozenset.__iter__»;refine wpAny_bind (m:=UT "__iter__" _) (wpAny_of_eq (a:=a) rfl ?_);unfold UU;refine wpAny_bind (wpAny_bind (dH S (wpAny_pure ?_)));unfold setDrawn;refine wpAny_bind (wpAny_bind (wpAny_setState_of S.ho S.hd S.fits ?_));dsimp only;refine wpAny_bind (cy (wpAny_pure ?_));have fin:∀(fst:Value)(n:Heap)(U:_)(ys:List (Int×Value)),bB prog w n a xs o es ep t->(∀b o,s.heap.get? b=some o->n.get? b=some o)->s.heap.objs.size<=n.objs.size->ys.Perm es.toList->(∀h1,(∀b o,n.get? b=some o->h1.get? b=some o)->xH w h1 a es ep t ys 0 fst)->(∀T,fst=.ref T->s.heap.objs.size<=T/\T<n.objs.size)->
   wpAny (model prog w) A.in1 (setEpoch a >>= λe=>newFields "set_iterator" [fst,rawInt 0,.ref a,rawInt es.size,rawInt e] >>= λv=>ret v) (λr s'=>∃v,r=.done (.ret v)/\∃K L,s'.TypeIs v K/\typeLookup (.type K) "__next__" = pure (some L)/\Q v s') E { s with heap:=n,drawn:=U }:=by
  intro fst n U ys k y hz hp P i;refine wpAny_bind (oB (s:={ s with heap:=n,drawn:=U }) k ?_);refine wpAny_bind (wpAny_newObj_type (wpAny_pure ⟨_,rfl, "set_iterator",_,⟨_,NH _ rfl,rfl⟩,fM.lookup,?_⟩));have V:∀(ob:Obj) b o,n.get? b=some o->(n.push ob).get? b=some o:=λob b o e=>Nm _ e;refine h _ U n.objs.size ys hp (λb o e=>V _ b o (y b o e)) hz ⟨n.objs.size::a::((match fst with | .ref T=>[T]|_=>[])++xs.map (·.2)),λb hb=>?_,o,es,ep,t,fst,k.keep (λb o _ e=>V _ b o e),hp,⟨_,NH _ rfl,rfl,by simp[rawInt]⟩,P _ (V _),by simp,by simp,P8 (Nn ha hz),λx hx=>⟨?_,NR (Nn (f x hx) hz)⟩,λT e=>?_⟩
  .rcases ND.mp hb with rfl|hb
   .exact .inl rfl
   rcases ND.mp hb with rfl|hb
   .exact .inr (.inl rfl)
   rcases Nv.mp hb with hb|hb
   .refine .inr (.inr (.inr ?_));cases fst with
    |ref T=>rw[Nw.mp hb];exact(i T rfl).1
    |_=>exact nomatch hb
   .obtain⟨x,N,c⟩:=NB.mp hb;exact .inr (.inr (.inl ⟨x,N,c⟩))
  .exact Nt _ (Nt _ (Nq _ (NB.mpr ⟨x,hx,rfl⟩)))
  .subst e;exact⟨by simp,NR (i T rfl).2⟩
 refine wpAny_ite_split (λhc=>?_) λhc=>?_
 .have hc:(!w.params.followText "set-order" && (!t.plain&&decide (es.size > 1)))=true:=hc;refine wpAny_bind (sj es.size (NA es.size) (by simp) λd ys hp=>?_);refine wpAny_bind (wpAny_newTuple ?_ (by rw[Nl,hp.length_eq,Oi,sizeLine_eq];exact N5 S.small (by decide)));have G:∀j∈ys,j<es.size:=λj H=>NU.mp (hp.mem_iff.mp H);obtain⟨l,B,u⟩:=gy (es:=es) (order:=ys.toArray) (by simpa using hp);refine fin (.ref s.heap.objs.size) _ d (ys.toArray.filterMap (es[·]?)).toList (S.keep λb o _ e=>Nm _ e) (λb o e=>Nm _ e) (by rw[size_push'];exact Q0 _) l (λh1 V=>.drawn (od:=ys) (V _ _ (NH _ rfl)) rfl hp (λa=>?_) (P8 ha)) λT e=>?_
  .have:=u a;rw[<-NZ] at this;simpa using this
  .cases e;exact⟨Nr _,by rw[size_push'];exact Qa _⟩
 .have hc:¬ (!w.params.followText "set-order" && (!t.plain&&decide (es.size > 1)))=true:=hc;refine wpAny_bind (wpAny_pure ?_);have X:({ s with heap:=s.heap,drawn:=s.drawn }:Shared)=s:=rfl;by_cases hb:w.params.followText "set-order" = true
  .exact fin (rawInt 0) s.heap s.drawn _ S (λ_ _ e=>e) (Nr _) (jA (w.params.setOrder a ep) es) (λh1 _=>.text hb rfl) λT e=>nomatch e
  .have hb:=Pn.mpr hb;have hn:es.size<=1:=by
    rw[hb] at hc;rcases S.pl with z|z
    .lia
    .rw[z] at hc;simp at hc;lia
   exact fin (rawInt 0) s.heap s.drawn _ S (λ_ _ e=>e) (Nr _) (QD _) (λh1 _=>.slot hb hn rfl 0 rfl) λT e=>nomatch e
end
end
section
open PySem PyProof.Rows PySem.W
open L2 PySem.Spec
variable{prog:Program}{w:World}{A:Around}{E:Value->Shared->Prop}{s:Shared}
section
variable{I S:Addr}{xs:List (List Key×Addr)}{ys:List (Int×Value)}{fp:List Addr}{i:Nat}
theorem iz{vs:Array Value}{x:Value}(ho:h.get? I=some o)(hd:o.data=.fields vs):(h.update I (OW (·.setIfInBounds j x))).get? I=some (OW (·.setIfInBounds j x) o)/\(OW (·.setIfInBounds j x) o).cls=o.cls/\(OW (·.setIfInBounds j x) o).data=.fields (vs.setIfInBounds j x):=
 ⟨Ph _ ho (TY (QQ hd _)),UD ..,QQ hd _⟩
theorem bO{x:Value}{b:Addr}(hb:b≠I):(h.update I (OW (·.setIfInBounds j x))).get? b=h.get? b:=(PU ..).2 b hb
theorem mK{Q:Option Value->Shared->Prop}(V:A.handled=none)(h:∀h',(∀b o,s.heap.get? b=some o->h'.get? b=some o)->Q none { s with heap:=h' }):
  wpAny (model prog w) A.in1 (newExc (.type "StopIteration") [] >>= λv=>raiseNew v) P (λe s'=>wpAny (model prog w) A (isInstance e (.type "StopIteration") >>= λb=>if b=true then pure none else throw e) Q E s') s:=by
 refine wpAny_bind ?_;simp only[newExc,newTuple];refine wpAny_bind (wpAny_newObj_type ?_ (by size_fits));refine wpAny_bind (m:=firstArgMember _ _) (wpAny_of_eq (a:=P1) (by first|rfl|(simp only[firstArgMember];rfl)) ?_);refine wpAny_newObj_type ?_ (by size_fits);simp only[raiseNew];refine wpAny_bind (wpAny_handled ?_);rw[show A.in1.handled=none from V];refine wpAny_bind (wpAny_pure (wpAny_throw ?_));refine wpAny_bind (wpAny_isInstance (T:= "StopIteration") (b:=true) ⟨_,NH _ rfl,rfl⟩ isSubtype_stop ?_);rw[if_pos rfl];exact wpAny_pure (h _ λb o e=>Nm _ (Nm _ e))
theorem tj.item{Q:Option Value->Shared->Prop}(x:tj prog w I S xs ys fp i s.heap)(hi:i<ys.length)
  (Y:∀v h',(∃e,ys[i]?=some e/\v=e.2)->tj prog w I S xs ys fp (i+1) h'->(∀b o,b≠I->s.heap.get? b=some o->h'.get? b=some o)->Q (some v) { s with heap:=h' }):wpAny (model prog w) A (pyNext (.ref I)) Q E s:=by
 obtain⟨o,es,ep,t,fst,T,hp,⟨D,P,J,z⟩,M,O,d,B,H,L⟩:=x;have hT:s.TypeIs (.ref I) "set_iterator" := ⟨D,P,J⟩
 have g:ys.length=es.size:=by rw[hp.length_eq,NP]
 unfold pyNext;refine wpAny_bind (wpAny_attempt (wpAny_callSpecial?_slot (name:=QH "__next__") hT fM (wpAny_call_entry fM hT oS ?_ (tE _))));unfold Builtin.«set_iterator.__next__»;refine wpAny_bind (m:=slotArgs "__next__" 0 _) (wpAny_of_eq (a:=(Of I,[])) rfl ?_);refine wpAny_bind (wpAny_fieldsOf P z ?_);dsimp only;refine wpAny_bind (dH T ?_);rw[if_neg (by simp)];have h:∀{h':Heap},(∀b o,b≠I->s.heap.get? b=some o->h'.get? b=some o)->bB prog w h' S xs o es ep t:=λk=>T.keep λb o hb e=>k b o (by
  rcases hb with rfl|⟨x,x1,rfl⟩
  .exact Pa B
  .exact(H x x1).2) e
 cases M with
 |@drawn F o1 c od ht hd n hy l=>
  dsimp only;refine wpAny_bind (wpAny_seqItems ht hd ?_);dsimp only;have r:i<od.length:=by rw[n.length_eq,Oi];lia
  have p:(od.map λ(j:Nat)=>rawInt j).toArray[(i:Int).toNat]?=some (rawInt od[i]):=by simp[r]
  rw[p];have K:od[i]<es.size:=NU.mp (n.mem_iff.mp (OM r));show wpAny _ _ (setNextDrawn S (od[i]:Int).toNat (ep:Int).toNat >>= _) _ _ s;unfold setNextDrawn;refine wpAny_bind (wpAny_bind (wpAny_setState_of T.ho T.hd T.fits ?_));dsimp only;rw[if_neg (by simp)];rw[OF,NC K];dsimp only;refine wpAny_pure ?_;refine wpAny_bind (wpAny_setField P z (by simp) ?_);have y:∀b o,b≠I->s.heap.get? b=some o->(s.heap.update I (OW (·.setIfInBounds 1 (rawInt ((i:Int)+1))))).get? b=some o:=λb o hb e=>(bO hb).trans e;obtain⟨U,C,f⟩:=iz (j:=1) (x:=rawInt ((i:Int)+1)) P z;refine wpAny_pure ⟨_,rfl,wpAny_pure (Y _ _ ⟨es[od[i]],?_,rfl⟩ ⟨o,es,ep,t,.ref F,h y,hp,⟨_,U,C.trans J,by rw[f];simp[rawInt]⟩,.drawn (y _ _ (L F rfl).2 ht) hd n hy l,O,d,B,H,L⟩ y)⟩;rw[hy,Nx r];simp[K]
 |text hb hy=>
  dsimp only;have G:i<(pickOrder (w.params.setOrder S ep) es).size:=by rw[<-NP,<-hy];exact hi
  have R:ys[i]?=some (pickOrder (w.params.setOrder S ep) es)[i]:=by rw[hy,NZ,NC G]
  unfold setNext;refine wpAny_bind (wpAny_bind (wpAny_setState_of T.ho T.hd T.fits ?_));dsimp only;refine wpAny_bind (cy ?_);rw[hb];simp only[if_true];rw[if_neg (by simp)];unfold setWalk;refine wpAny_bind (wpAny_bind (wpAny_setState_of T.ho T.hd T.fits ?_));dsimp only;refine wpAny_bind (cy ?_);rw[hb];simp only[if_true];refine wpAny_bind (wpAny_askSetting (wpAny_pure ?_));rw[show (pickOrder (((⟨(model prog w).prog,(model prog w).w.params⟩:Setting)).params.setOrder S ep) es)[(i:Int).toNat]?=some (pickOrder (w.params.setOrder S ep) es)[i] from by show (pickOrder (w.params.setOrder S ep) es)[(i:Int).toNat]?=_;rw[OF,NC G]]
  refine wpAny_pure ?_;rw[Option.map_some];dsimp only;obtain⟨U,C,f⟩:=iz (j:=0) (x:=rawInt ((0:Int).toNat:Int)) P z;refine wpAny_bind (wpAny_setField P z (by simp) ?_);obtain⟨Z,V,X⟩:=iz (j:=1) (x:=rawInt ((i:Int)+1)) U f;refine wpAny_bind (wpAny_setField U f (by simp) ?_);have y:∀b o,b≠I->s.heap.get? b=some o->((s.heap.update I (OW (·.setIfInBounds 0 (rawInt ((0:Int).toNat:Int))))).update I (OW (·.setIfInBounds 1 (rawInt ((i:Int)+1))))).get? b=some o:=λb o hb e=>(bO hb).trans ((bO hb).trans e);exact wpAny_pure ⟨_,rfl,wpAny_pure (Y _ _ ⟨_,R,rfl⟩ ⟨o,es,ep,t,.int 0 0,h y,hp,⟨_,Z,V.trans (C.trans J),by rw[X];simp[rawInt]⟩,.text hb hy,O,d,B,H,λT e=>nomatch e⟩ y)⟩
 |slot hb hn hy x hx=>
  dsimp only;have i0:i=0:=by lia
  subst i0;have hx:x=0:=hx;subst hx;have q:0<es.size:=by lia
  unfold setNext;refine wpAny_bind (wpAny_bind (wpAny_setState_of T.ho T.hd T.fits ?_));dsimp only;refine wpAny_bind (cy ?_);rw[hb];simp only[NY,if_false];refine wpAny_ite_split (λhc=>?_) λ_=>?_
  .have hc:(!t.plain&&decide (es.size > 1))=true:=hc;simp at hc;lia
  have re:∀(c:Bool)(u:Sem PUnit),c=false->(if c=true then u else pure ():Sem PUnit)=pure ():=λc u hc=>by rw[hc];rfl
  refine wpAny_bind (wpAny_of_eq (a:=()) (re (!t.led&&!es.isEmpty) _ (by rw[T.ld,hb];rfl)) ?_);have p:t.place[0]?=some (t.place.getD 0 0):=getD_at (by rw[T.sz];exact q);have N:Oy t.place (0:Int).toNat=0:=by
   obtain⟨b1,b2,b3⟩:=gU (j:=0) T.tb.ri;show Oy t.place 0=0;by_cases c:Oy t.place 0=0
   .exact c
   .exact absurd (b2 0 (by lia)) (OZ _)
  rw[N,p,NC q];refine wpAny_pure ?_;dsimp only;obtain⟨U,C,f⟩:=iz (j:=0) (x:=rawInt ((t.place.getD 0 0+1:Nat):Int)) P z;refine wpAny_bind (wpAny_setField P z (by simp) ?_);obtain⟨Z,V,X⟩:=iz (j:=1) (x:=rawInt (((0:Nat):Int)+1)) U f;refine wpAny_bind (wpAny_setField U f (by simp) ?_);have y:∀b o,b≠I->s.heap.get? b=some o->((s.heap.update I (OW (·.setIfInBounds 0 (rawInt ((t.place.getD 0 0+1:Nat):Int))))).update I (OW (·.setIfInBounds 1 (rawInt (((0:Nat):Int)+1))))).get? b=some o:=λb o hb e=>(bO hb).trans ((bO hb).trans e);exact wpAny_pure ⟨_,rfl,wpAny_pure (Y _ _ ⟨es[0],by rw[hy,NZ,NC q],rfl⟩ ⟨o,es,ep,t,.int ((t.place.getD 0 0+1:Nat):Int) 0,h y,hp,⟨_,Z,V.trans (C.trans J),by rw[X];simp[rawInt]⟩,.slot hb hn hy _ rfl,O,d,B,H,λT e=>nomatch e⟩ y)⟩
theorem tj.done{Q:Option Value->Shared->Prop}(V:A.handled=none)(x:tj prog w I S xs ys fp ys.length s.heap)
  (Y:∀h',(∀b o,b≠I->s.heap.get? b=some o->h'.get? b=some o)->Q none { s with heap:=h' }):wpAny (model prog w) A (pyNext (.ref I)) Q E s:=by
 obtain⟨o,es,ep,t,fst,T,hp,⟨D,P,J,z⟩,M,O,q,y,H,L⟩:=x;have hT:s.TypeIs (.ref I) "set_iterator" := ⟨D,P,J⟩
 have r:ys.length=es.size:=by rw[hp.length_eq,NP]
 unfold pyNext;refine wpAny_bind (wpAny_attempt (wpAny_callSpecial?_slot (name:=QH "__next__") hT fM (wpAny_call_entry fM hT oS ?_ (tE _))));unfold Builtin.«set_iterator.__next__»;refine wpAny_bind (m:=slotArgs "__next__" 0 _) (wpAny_of_eq (a:=(Of I,[])) rfl ?_);refine wpAny_bind (wpAny_fieldsOf P z ?_);dsimp only;refine wpAny_bind (dH T ?_);rw[if_neg (by simp)];cases M with
 |@drawn F K c od ht hd n hy l=>
  dsimp only;refine wpAny_bind (wpAny_seqItems ht hd ?_);dsimp only;have p:(od.map λ(j:Nat)=>rawInt j).toArray[(ys.length:Int).toNat]?=none:=by rw[OF,OG];simp[n.length_eq,r]
  rw[p];dsimp only;obtain⟨U,C,f⟩:=iz (j:=0) (x:=rawInt 0) P z;refine wpAny_bind (wpAny_setField P z (by simp) ?_);refine wpAny_bind (wpAny_setField U f (by simp) ?_);exact mK V λh' k=>Y h' λb o hb e=>k b o ((bO hb).trans ((bO hb).trans e))
 |text hb hy=>
  dsimp only;have hz:(pickOrder (w.params.setOrder S ep) es).size=ys.length:=by rw[hy,NP]
  unfold setNext;refine wpAny_bind (wpAny_bind (wpAny_setState_of T.ho T.hd T.fits ?_));dsimp only;refine wpAny_bind (cy ?_);rw[hb];simp only[if_true];rw[if_neg (by simp)];unfold setWalk;refine wpAny_bind (wpAny_bind (wpAny_setState_of T.ho T.hd T.fits ?_));dsimp only;refine wpAny_bind (cy ?_);rw[hb];simp only[if_true];refine wpAny_bind (wpAny_askSetting (wpAny_pure ?_));rw[show (pickOrder (((⟨(model prog w).prog,(model prog w).w.params⟩:Setting)).params.setOrder S ep) es)[(ys.length:Int).toNat]?=none from by show (pickOrder (w.params.setOrder S ep) es)[(ys.length:Int).toNat]?=_;rw[OF,OG (by lia)]]
  refine wpAny_pure ?_;rw[Option.map_none];dsimp only;refine wpAny_bind (wpAny_setField P z (by simp) ?_);exact mK V λh' k=>Y h' λb o hb e=>k b o ((bO hb).trans e)
 |slot hb hn hy x hx=>
  dsimp only;unfold setNext;refine wpAny_bind (wpAny_bind (wpAny_setState_of T.ho T.hd T.fits ?_));dsimp only;refine wpAny_bind (cy ?_);rw[hb];simp only[NY,if_false];refine wpAny_ite_split (λhc=>?_) λ_=>?_
  .have hc:(!t.plain&&decide (es.size > 1))=true:=hc;simp at hc;lia
  have h:∀(c:Bool)(u:Sem PUnit),c=false->(if c=true then u else pure ():Sem PUnit)=pure ():=λc u hc=>by rw[hc];rfl
  refine wpAny_bind (wpAny_of_eq (a:=()) (h (!t.led&&!es.isEmpty) _ (by rw[T.ld,hb];rfl)) ?_);have N:es[Oy t.place x.toNat]?=none:=by
   obtain⟨g,R,d⟩:=gU (j:=x.toNat) T.tb.ri;refine OG (P9 λc=>?_);have i:=T.sz;have G:ys.length=1:=by lia
   rw[G,if_neg (by decide)] at hx;have:=d (Oy t.place x.toNat) (Nr _) (by lia);have B:Oy t.place x.toNat=0:=by lia
   rw[B] at this;rw[hx] at this;lia
  rw[N];refine wpAny_pure ?_;dsimp only;refine wpAny_bind (wpAny_setField P z (by simp) ?_);exact mK V λh' k=>Y h' λb o hb e=>k b o ((bO hb).trans e)
end
end
section
open PySem PyProof.Rows PySem.W
open L2 PySem.Spec
variable{prog:Program}{w:World}{A:Around}{E:Value->Shared->Prop}{s:Shared}
theorem yJ{r:Addr}(hT:s.TypeIs (.ref r) "set")(h:Q false s):wpAny (model prog w) A (RS (.ref r)) Q E s:=by
 unfold RS;refine wpAny_bind (wpAny_specialOf hT PySem.F.slot_set_len.lookup ?_);generalize x:("set.__len__" : String)=id0
 wp_delta
 rw[show splitId id0=some ("set", "__len__") from by subst x;decide +kernel];subst x;refine wpAny_bind (wpAny_isInstance (T:= "set") (b:=true) hT (by rw[isSubtype_type];kernel_rfl) ?_);refine wpAny_ite_split (λN=>absurd N (by decide)) (λ_=>?_);refine wpAny_ite_split (λ_=>?_) (λN=>absurd (by decide +kernel) N);refine wpAny_bind (wpAny_typeOf hT ?_);exact wpAny_pure h
theorem mL(a:Value):argsOk "set_iterator.__iter__" ⟨[a],[]⟩:=by unfold argsOk;rw[signature?_of (id:= "set_iterator.__iter__") (n:= "__reti__".toList) (o:= "rotareti_tes".toList) (by kernel_rfl) (by kernel_rfl:Ua.lookup (UR "rotareti_tes".toList.reverse)=some Sv)];kernel_rfl
theorem kM:entryFor table "set_iterator.__iter__" = some Builtin.«dict_keyiterator.__iter__»:=entryFor_alias (id':= "dict_keyiterator.__iter__") (by kernel_rfl) rfl (by decide +kernel) (by kernel_rfl)
section
variable{I S:Addr}{xs:List (List Key×Addr)}{ys:List (Int×Value)}{fp:List Addr}{i:Nat}
theorem tj.walks(V:A.handled=none)(X:I∈fp):Walks prog w A I fp [I] ys.length (λi v=>∃e,ys[i]?=some e/\v=e.2) (λi h=>tj prog w I S xs ys fp i h) where
 sub:=λb hb=>by rw[Nw.mp hb];exact X
 frame:=λi h h' x k=>x.frame k
 item:=λi s Q E hi st Y=>st.item hi λv h' u N k=>Y v h' s.toks u N λb o hb e=>k b o (λz=>hb (by rw[z];exact Nw.mpr rfl)) e
 done:=λs Q E st Y=>st.done V λh' k=>Y h' s.toks λb o hb e=>k b o (λz=>hb (by rw[z];exact Nw.mpr rfl)) e
 self:=λi s Q E st Y=>by
  obtain⟨o,es,ep,t,fst,T,hp,⟨D,P,J,a⟩,_⟩:=st;have hT:s.TypeIs (.ref I) "set_iterator" := ⟨D,P,J⟩
  refine wpAny_pyIter_slot hT tN (wpAny_call_entry tN hT kM ?_ (mL _));show wpAny _ _ (ret (.ref I)) _ _ s;exact wpAny_pure ⟨_,rfl, "set_iterator",_,hT,fM.lookup,Y⟩
end
theorem oA{a:Addr}{t:SetTable}{R:List Value->Shared->Prop}(hh:A.handled=none)(S:bB prog w s.heap a xs o es ep t)
  (h:∀(h':Heap)(d:_)(tk:Nat)(acc:List Value),(∀b o,s.heap.get? b=some o->h'.get? b=some o)->acc.Perm (xs.map λx=>Of x.2)->R acc { s with heap:=h',drawn:=d,toks:=tk }):
  wpAny (model prog w) A (collect (.ref a)) R E s:=by
 have ha:a<s.heap.objs.size:=Nz S.ho;have C:∀x∈xs,x.2<s.heap.objs.size:=λx hx=>by obtain⟨o',_,_,J,_⟩:=(S.is x hx).1;exact Nz J
 unfold collect;refine wpAny_bind (wpAny_runValue (codeAny_builtin entry_proto_collect' ?_));rw[P0 PySem.F.plain_proto_collect _];show wpAny _ A.in1 (newList [] >>= λl=>again (.builtin "list.__iadd__" ⟨[l,.ref a],[]⟩)) _ _ s;refine wpAny_bind (wpAny_newObj_type ?_);refine wpAny_pure ⟨plainId_quiet SW _,codeAny_builtin entry_list_iadd' ?_⟩;rw[P0 SW _];have c:(s.heap.push { cls:=.type "list",data:=.seq ([]:List Value).toArray }).get? s.heap.objs.size=some { cls:=.type "list",data:=.seq #[] }:=NH _ rfl;show wpAny _ A.in1 (RT (.ref s.heap.objs.size) (.ref a) (.ref s.heap.objs.size)) _ _ _;have H:bB prog w (s.heap.push { cls:=.type "list",data:=.seq ([]:List Value).toArray }) a xs o es ep t:=S.keep λb o _ e=>Nm _ e;generalize f:s.heap.push { cls:=.type "list",data:=.seq ([]:List Value).toArray }=h1 at c H;have O:∀b o,s.heap.get? b=some o->h1.get? b=some o:=λb o e=>by rw[<-f];exact Nm _ e
 have P:h1.objs.size=s.heap.objs.size+1:=by rw[<-f];exact size_push' ..
 unfold RT;refine wpAny_bind (wpAny_typeOf (T:= "set") (s:={ s with heap:=h1 }) H.ty ?_);have n1:R4 (.ref s.heap.objs.size) (.ref a)=false:=by simp[R4,P8 ha]
 have n2:(Qi "set" == Qi "list")=false:=by decide
 have n3:(Qi "set" == Qi "tuple")=false:=by decide
 simp only[n1,n2,n3,U6,NY,if_false];refine wpAny_bind (vT (s:={ s with heap:=h1 }) H λh2 V I ys hp Y hI ⟨fp,X,st⟩=>?_);have B:h1.objs.size<=I:=hI;have p:∀b∈fp,b≠s.heap.objs.size:=λb hb=>by
  have gt:∀b,h1.objs.size<=b->s.heap.objs.size<b:=λb z=>Nn (by rw[P];exact Qa _) z;rcases X b hb with rfl|rfl|⟨x,N,rfl⟩|z
  .exact P8 (gt _ B)
  .exact NR ha
  .exact NR (C x N)
  .exact P8 (gt _ z)
 have u:I∈fp:=by obtain⟨_,_,_,_,_,_,_,_,_,_,f2,_⟩:=st;exact f2
 have S2:bB prog w h2 a xs o es ep t:=H.keep λb o _ e=>Y b o e;have m:=Y _ _ c;have L:ys.length<=sizeLine:=by rw[hp.length_eq,NP,sizeLine_eq];exact N5 S.small (by decide)
 have g:∀(h3:Heap)(Z:Nat),tj prog w I a xs ys fp 0 h3->(∀b o,b≠s.heap.objs.size->h2.get? b=some o->h3.get? b=some o)->h3.get? s.heap.objs.size=some { cls:=.type "list",data:=.seq #[] Z }->
   codeAny (model prog w) A (.builtin "list.extend.loop" ⟨[.ref s.heap.objs.size,.ref I,.ref s.heap.objs.size],[]⟩) (λ(q:Result)(s':Shared)=>∃(h':Heap)(tk:Nat)(Q:Array Value)(D:Nat),q=.ok (.ret (.ref s.heap.objs.size))/\s'={ s with heap:=h',drawn:=V,toks:=tk } /\
    (∀b o,s.heap.get? b=some o->h'.get? b=some o)/\h'.get? s.heap.objs.size=some { cls:=.type "list",dict:=none,data:=.seq Q D,slots:=#[] }/\ItemsOf (λi v=>∃e,ys[i]?=some e/\v=e.2) Q ys.length) { s with heap:=h3,drawn:=V }:=by
  intro h3 Z st3 k3 hS3;refine codeAny_extend_loopS (tj.walks (A:=A.in1) hh u).toS L s.heap.objs.size (λz=>p _ z rfl) (.ref s.heap.objs.size) ys.length 0 _ #[] Z rfl (Ou _) st3 hS3 (ItemsOf.nil _) λs' Q D hm n r=>?_;refine⟨s'.heap,s'.toks,Q,D,rfl,Moved.eq_with hm,λb o e=>?_,n,r⟩;have hb:b<s.heap.objs.size:=Nz e;exact hm.heap b o (by simp only[ND,Q8,or_false,not_or];exact⟨NR hb,NR (Nn (Nn hb (by rw[P];exact Q0 _)) B)⟩) (k3 b o (NR hb) (Y b o (O b o e)))
 have out:∀(q:Result)(s':Shared),(∃(h':Heap)(tk:Nat)(Q:Array Value)(D:Nat),q=.ok (.ret (.ref s.heap.objs.size))/\s'={ s with heap:=h',drawn:=V,toks:=tk } /\
    (∀b o,s.heap.get? b=some o->h'.get? b=some o)/\h'.get? s.heap.objs.size=some { cls:=.type "list",dict:=none,data:=.seq Q D,slots:=#[] }/\ItemsOf (λi v=>∃e,ys[i]?=some e/\v=e.2) Q ys.length)->∃h' tk Q D,q=.ok (.ret (.ref s.heap.objs.size))/\s'={ s with heap:=h',drawn:=V,toks:=tk }/\h'.get? s.heap.objs.size=some { cls:=.type "list",dict:=none,data:=.seq Q D,slots:=#[] }/\R Q.toList { s with heap:=h',drawn:=V,toks:=tk }:=by
  rintro q s' ⟨h',tk,Q,D,e1,e2,k,n,r⟩;refine⟨h',tk,Q,D,e1,e2,n,h h' V tk Q.toList k ?_⟩;have e:Q.toList=ys.map (·.2):=by
   apply O8;intro j;rw[NS,NZ];cases ej:Q[j]? with
   |none=>
    have:Q.size<=j:=by simpa using ej
    rw[OK (by rw[<-r.1];exact this)];rfl
   |some v=>obtain⟨e,he,rfl⟩:=r.2 j v ej;rw[he];rfl
  rw[e];refine(hp.map _).trans ?_;rw[S.he,Om];exact QD _
 refine wpAny_bind (wpAny_holding (yJ (s:={ s with heap:=h2,drawn:=V }) S2.ty ?_));have go:∀(h3:Heap)(Z:Nat),tj prog w I a xs ys fp 0 h3->(∀b o,b≠s.heap.objs.size->h2.get? b=some o->h3.get? b=some o)->h3.get? s.heap.objs.size=some { cls:=.type "list",data:=.seq #[] Z }->codeAny (model prog w) A (.builtin "list.extend.loop" ⟨[.ref s.heap.objs.size,.ref I,.ref s.heap.objs.size],[]⟩) (λ(q:Result)(s':Shared)=>∃h' tk Q D,q=.ok (.ret (.ref s.heap.objs.size))/\s'={ s with heap:=h',drawn:=V,toks:=tk }/\h'.get? s.heap.objs.size=some { cls:=.type "list",dict:=none,data:=.seq Q D,slots:=#[] }/\R Q.toList { s with heap:=h',drawn:=V,toks:=tk }) { s with heap:=h3,drawn:=V }:=λh3 Z N x2 x3=>codeAny_mono (g h3 Z N x2 x3) out;refine wpAny_ite_split (λ_=>?_) (λ_=>wpAny_pure ⟨plainId_quiet Sy _,codeAny_mono (go _ _ st (λb o _ e=>e) m) λq U y=>?_⟩)
 .refine wpAny_bind (wpAny_rule ?_);refine wpAny_bind ?_;show wpAny _ _ (updateSeq s.heap.objs.size (·.push .none) >>= λ_=>updateSeq s.heap.objs.size (·.pop)) _ _ _;refine wpAny_bind (wpAny_updateSeq m rfl ?_);have K:=Ph (PM (·.push P1)) m rfl;refine wpAny_updateSeq (hz:=by seq_fits) K rfl ?_;have G:=Ph (PM (·.pop)) K rfl;refine wpAny_pure ⟨plainId_quiet Sy _,codeAny_mono (go _ _ ?_ (λb o hb e=>?_) G) λq U y=>?_⟩
  .refine st.frame λb hb o e=>?_;exact(Pf _ _ (Pa (p b hb))).trans ((Pf _ _ (Pa (p b hb))).trans e)
  .exact(Pf _ _ (Pa hb)).trans ((Pf _ _ (Pa hb)).trans e)
  .obtain⟨h',tk,Q,D,rfl,rfl,n,hR⟩:=y;show wpAny _ A (load s.heap.objs.size >>= _) _ _ _;exact wpAny_bind (wpAny_load n (wpAny_pure hR))
 .obtain⟨h',tk,Q,D,rfl,rfl,n,hR⟩:=y;show wpAny _ A (load s.heap.objs.size >>= _) _ _ _;exact wpAny_bind (wpAny_load n (wpAny_pure hR))
end
def sK(ks:List (List Key)):List (List Key):=(aV ks).map λj=>ks.getD j []
theorem ze(d:α)(ks:List α):(NA ks.length).map (λj=>ks.getD j d)=ks:=by
 apply O8;intro i;rw[NS];by_cases h:i<ks.length
 .rw[Pb h];simp[h]
 .rw[OK (by simpa using h),OK (by simpa using h)];rfl
theorem gX(ks:List (List Key)):(sK ks).Perm ks:=by have:=(a8 ks).map λj=>ks.getD j [];rwa[ze] at this
theorem zu(nd:ks.Nodup):(sK ks).Pairwise λa b=>fe a b=true:=by
 have h1:(sK ks).Pairwise λa b=>fe b a=false:=by unfold sK;rw[PY];exact oh ks
 have h2:(sK ks).Nodup:=(gX ks).nodup_iff.mpr nd;refine(h1.and h2).imp λ{a b} h=>?_;cases h3:fe a b with
 |true=>rfl
 |false=>exact absurd (jq a b h3 h.1) h.2
variable{ls:List (List Key)}
theorem C0(nd:ks.Nodup)(p:ks.Perm ls):sK ks=sK ls:=
 QK (le:=λa b=>fe a b=true) (λa b _ _ h1 h2=>by have:=ig _ _ _ h1 h2;rw[dC] at this;cases this) (zu nd) (zu (p.nodup_iff.mp nd)) ((gX ks).trans (p.trans (gX ls).symm))
theorem Jo(p:ls.Perm ks)(h:ls.Pairwise λa b=>fe a b=true):sK ks=ls:=by have nd:ks.Nodup:=p.nodup_iff.mp (h.imp λ{a b} h e=>by rw[e,dC] at h;cases h);exact QK (le:=λa b=>fe a b=true) (λa b _ _ h1 h2=>by have:=ig _ _ _ h1 h2;rw[dC] at this;cases this) (zu nd) h ((gX ks).trans p.symm)
theorem l4{f:α->β}{l m:List β}(p:l.Perm m):∀xs:List α,m=xs.map f->∃Z:List α,Z.Perm xs/\l=Z.map f:=by
 induction p with
 |nil=>exact λxs e=>⟨xs,QD _,e⟩
 |cons a p c=>
  intro xs e;cases xs with
  |nil=>cases e
  |cons x xs=>rw[NK] at e;injection e with e1 e2;obtain⟨Z,s,T⟩:=c xs e2;exact⟨x::Z,s.cons x,by rw[NK,<-T,e1]⟩
 |swap a b l=>
  intro xs e;cases xs with
  |nil=>cases e
  |cons x xs=>
   cases xs with
   |nil=>cases e
   |cons y xs=>rw[NK,NK] at e;injection e with e1 e2;injection e2 with e2 e3;exact⟨y::x::xs,Ub _ _ _,by rw[NK,NK,e1,e2,e3]⟩
 |trans _ _ h j=>intro xs e;obtain⟨Z,s,T⟩:=j xs e;obtain⟨k,O,v⟩:=h Z T;exact⟨k,O.trans s,v⟩
noncomputable def kC:List (List Key)->List (List Key)
 |[]=>[]
 |k::r=>if (r.any λx=>decide (x=k))=true then kC r else k::kC r
theorem sF{r:List (List Key)}{k:List Key}:(r.any λx=>decide (x=k))=true↔k∈r:=by rw[O3];exact⟨λ⟨x,h1,h2⟩=>of_decide_eq_true h2▸h1,λh=>⟨k,h,decide_eq_true rfl⟩⟩
theorem eA{k:List Key}:∀{ks:List (List Key)},k∈kC ks↔k∈ks
 |[]=>Iff.rfl
 |x::r=>by
  unfold kC;split
  .rename_i h;rw[eA,ND];exact⟨.inr,λz=>z.elim (λe=>by rw[e];exact sF.mp h) id⟩
  .rw[ND,ND,eA]
theorem fU:∀ks:List (List Key),(kC ks).Nodup
 |[]=>SR
 |x::r=>by
  unfold kC;split
  .exact fU r
  .rename_i h;exact Oe.mpr ⟨λz=>h (sF.mpr (eA.mp z)),fU r⟩
theorem tS(bs:List Addr):∀l:List Nat,(∀i∈l,i<bs.length)->Vals ((l.map λi=>bs.getD i 0).map V.ref) (l.map λi=>(bs.map Of).getD i .none)
 |[],_=>.nil
 |i::l,h=>by refine .cons ?_ (tS bs l λj v=>h j (Nt _ v));have hi:=h i Nu;show (bs.map Of).getD i .none=Of (bs.getD i 0);simp[hi]
theorem gF(ks:List (List Key)):iP ks=(sK ks).map rh:=by unfold iP sK;rw[Om];apply Qe;intro j v;have:j<ks.length:=NU.mp ((a8 ks).mem_iff.mp v);simp[this]
variable{p2 q1 q2:Pos}
section
open PySem.Spec PyProof.Rows PySem.W PySem.Calls
variable{X:Cx}{E:XK}
theorem Inv.MO{pins:List (Addr×Obj)}{Y:L2.St}{s:Shared}{d:_}(I:L2.Inv X pins Y H s):L2.Inv X pins Y H { s with drawn:=d }:=⟨I.ok,I.os,I.bare,I.base,I.loc,I.cell,I.free,I.freeC,I.pin,I.hok,I.len⟩
def GW(X:Cx)(H:Hp)(bs:List Addr)(ks:List (List Key)):Prop:=bs.length=ks.length/\∀(i:Nat)(b:Addr)(k:List Key),bs[i]?=some b->ks[i]?=some k->cQ X.K H b (k.map kV)
def Kc(bs:List Addr)(ks:List (List Key))(cs:List Addr)(ls:List (List Key)):Prop:=cs.length=ls.length/\∀(i:Nat)(c:Addr)(k:List Key),cs[i]?=some c->ls[i]?=some k->∃j:Nat,bs[j]?=some c/\ks[j]?=some k
theorem pK{t:TE}(hc:X.calm=true)(hu:X.A.units+64<cLine)(hg:Gl X "set")(hm:X.mg "set" = none)(hg':Gl X "sorted")(hm':X.mg "sorted" = none)(he:PE X e t)(hs:starEach [e] X.env=(false,eval e X.env)::starEach [] X.env):
  PE X (.Call (.Name "sorted" p1) [.Call (.Name "set" p2) [e] [] q2] [] q1) (λY H Q=>t Y H λv f=>∃a bs ks,v=.ref a/\fo X.K f a (bs.map V.ref)/\GW X f bs ks/\(∀k∈ks,k≠[]/\nO k)/\(kC ks).length<=17 /\
   ∀r cs,f r=none->Kc bs ks cs (sK (kC ks))->Q (.ref r) (upd f r (.lst (cs.map V.ref)))):=by
 intro pins s Y H Q I h;refine wpAny_Call_Name_kw (gn I hg' hm' k9 ?_ (by decide +kernel) (by decide +kernel));refine RC ?_ rfl rfl;show wpAny _ _ (spliced ((false,eval (.Call (.Name "set" p2) [e] [] q2) X.env)::backTo q1 (starEach [] X.env))) _ _ s;refine T4 ?_;refine wpAny_Call_Name_kw (gn I hg hm GJ ?_ (by decide +kernel) (by decide +kernel));refine Py (bA (bb he bZ hs q2 pins s Y H (λvs f=>match vs with
  |[v]=>∃a bs ks,v=.ref a/\fo X.K f a (bs.map V.ref)/\GW X f bs ks/\(∀k∈ks,k≠[]/\nO k)/\(kC ks).length<=17/\∀r cs,f r=none->Kc bs ks cs (sK (kC ks))->Q (.ref r) (upd f r (.lst (cs.map V.ref)))
  | _=>False) I h) λus s1 ⟨vs,f,I1,r1,q1⟩=>?_) hs rfl
 cases vs with
 |nil=>exact q1.elim
 |cons v0 vs0=>
 cases vs0 with
 |cons _ _=>exact q1.elim
 |nil=>
  obtain⟨u0,rfl,ru0⟩:=r1.one;obtain⟨a,bs,ks,rfl,sq,E,y,hD,q⟩:=q1;obtain rfl:u0=Of a:=ru0;obtain⟨g,vs,pl,hz⟩:=I1.list sq;have l:g.length=bs.length:=by rw[<-vs.length,Nl]
  have O:g=bs.map Of:=by
   apply O8;intro j;by_cases p:j<bs.length
   .obtain⟨u,hu',ru⟩:=vs.get (i:=j) (x:=V.ref bs[j]) (by simp[p]);obtain rfl:u=Of bs[j]:=ru;rw[hu'];simp[p]
   .rw[OK (by lia),OK (by rw[Nl];lia)]
  have hsz:g.toArray.size=ks.length:=by rw[Nk,l,E.1]
  have R:∀i b k,bs[i]?=some b->ks[i]?=some k->(TK X.prog X.w).is s1.heap k b:=λi b k hb hk=>rb I1 (E.2 i b k hb hk);have G:∀i,i<ks.length->ks.getD i []∈ks:=λi hi=>by rw[show ks.getD i []=ks[i] by simp[hi]];exact OM hi
  refine kK (items:=g.toArray) (val:=λi=>ks.getD i []) (bs:=λi=>bs.getD i 0) (I1.ok.hd hc) hu pl.isList (λi v hi=>?_) (λi hi=>?_) (λi hi=>?_) (kC ks) hD (λi hi=>?_) λh' tk SX kp=>?_
  .have hi:g[i]?=some v:=by simpa using hi
   rw[O,NS] at hi;cases z:bs[i]? with
   |none=>rw[z] at hi;cases hi
   |some b=>rw[z] at hi;cases hi;simp[OB,z]
  .rw[hsz] at hi;have hb:i<bs.length:=by rw[E.1];exact hi
   refine R i _ _ ?_ ?_
   .rw[Nx hb];simp[hb]
   .rw[Nx hi];simp[hi]
  .rw[hsz] at hi;obtain⟨h1,h2⟩:=y _ (G i hi);cases z:ks.getD i [] with
   |nil=>exact absurd z h1
   |cons e r=>obtain⟨x,rfl⟩:=h2 e (by rw[z];exact Nu);exact⟨x,r,rfl⟩
  .rw[hsz] at hi;exact eA.mpr (G i hi)
  refine Uc ?_;have N:∀b o,s1.heap.get? b=some o->h'.get? b=some o:=λb o e=>kp b o (Nz e) e;have I2:L2.Inv X pins Y f { s1 with heap:=h',toks:=tk }:=I1.kept N;obtain⟨xs,o,es,ep,t,S,L,P⟩:=SX;generalize hs2:({ s1 with heap:=h',toks:=tk }:Shared)=s2 at I2;have S2:bB X.prog X.w s2.heap s1.heap.objs.size xs o es ep t:=by rw[<-hs2];exact S
  have pk:(xs.map (·.1)).Perm (kC ks):=by
   rw[QM S.nd (fU _)];intro k;rw[eA,NB];constructor
   .rintro⟨x,x1,x2⟩;obtain⟨j,J,j2⟩:=(L k).mp (cF.mpr ⟨x,x1,x2⟩);rw[<-j2];exact G j (by rw[<-hsz];exact J)
   .intro hk;obtain⟨j,p⟩:=RD hk;exact cF.mp ((L k).mpr ⟨j,by rw[hsz];exact(Np.mp p).1,by simp[OB,p]⟩)
  have F:∀x∈xs,∃j:Nat,bs[j]?=some x.2/\ks[j]?=some x.1:=λx hx=>by
   obtain⟨j,J,j2⟩:=P x hx;rw[hsz] at J;have hb:j<bs.length:=by rw[E.1];exact J
   have e1:bs[j]?=some x.2:=by rw[<-j2,Nx hb];simp[hb]
   have e2:ks[j]?=some (ks.getD j []):=by rw[Nx J];simp[J]
   have k1:=gR (R j _ _ e1 e2) (h':=h') λo e=>N _ o e;have:=(TK X.prog X.w).inj k1 (S.is x hx).1;exact⟨j,e1,by rw[e2,this]⟩
  have sqx:∀x∈xs,cQ X.K f x.2 (x.1.map kV):=λx hx=>by obtain⟨j,e1,e2⟩:=F x hx;exact E.2 j _ _ e1 e2
  refine SU kind_sorted plain_sorted entry_sorted (args_sorted1 _) ?_;unfold Builtin.«sorted»;refine wpAny_bind (m:=checkCount "sorted" 1 1 _) (wpAny_pure ?_);refine wpAny_bind (oA (A:=X.A.in1) (I2.ok.hd hc) S2 λh3 d3 U acc k3 pa=>?_);obtain⟨Z,B,ez⟩:∃Z:List (List Key×Addr),Z.Perm xs/\acc=Z.map λx=>Of x.2:=l4 pa xs rfl;have hlz:Z.length<=18:=by rw[B.length_eq,<-S.len];exact S.small
  have D:acc.length<=sizeLine:=by rw[ez,Nl,sizeLine_eq];lia
  have I3:L2.Inv X pins Y f { s2 with heap:=h3,drawn:=d3,toks:=U }:=Inv.MO (d:=d3) (I2.kept (t':=U) k3);have nz:(Z.map (·.1)).Nodup:=(B.map _).nodup_iff.mpr S.nd;have sqz:∀x∈Z,cQ X.K f x.2 (x.1.map kV):=λx hx=>sqx x (B.mem_iff.mp hx);have T:dG X.prog X.w h3 acc (Z.map (·.1)):=by
   have:dG X.prog X.w ({ s2 with heap:=h3,drawn:=d3,toks:=U }:Shared).heap ((Z.map (·.2)).map Of) (Z.map (·.1)):=mj I3 (by simp) λi b k hb hk=>by
    rw[NS] at hb hk;cases z:Z[i]? with
    |none=>rw[z] at hb;cases hb
    |some x=>rw[z] at hb hk;cases hb;cases hk;exact sqz x (NV z)
   rw[ez];rw[Om] at this;exact this
  have hom:Io (Z.map (·.1)):=.inr λk hk=>by have:k∈(kC ks):=((B.map _).trans pk).mem_iff.mp hk;exact y k (eA.mp this)
  refine wpAny_bind (wpAny_newList ?_ D);have C:(h3.push (seqObj "list" acc.toArray 0)).get? h3.objs.size=some (seqObj "list" acc.toArray 0):=NH _ rfl;have T':dG X.prog X.w (h3.push (seqObj "list" acc.toArray 0)) acc (Z.map (·.1)):=T.keep λb o e _=>Nm _ e;refine wpAny_bind (wpAny_holding (wpAny_call_entry slot_list_sort ⟨_,C,rfl⟩ entry_list_sort (lP C T' hom nz D ⟨_,rfl,?_⟩) (args_list_sort _)));obtain⟨e,he⟩:=sortedHeap_at (vs:=acc) (n:=0) (out:=OH ((aV (Z.map (·.1))).map λi=>acc.getD i .none)) C;have hf:∀b o,h3.get? b=some o->b≠h3.objs.size:=λb o z=>NR (Nz z);refine wpAny_pure ⟨_,rfl,.ref _,_,I3.Du (t':=U) (a:=h3.objs.size) (o:=.lst (((aV (Z.map (·.1))).map λi=>(Z.map (·.2)).getD i 0).map V.ref)) (λb o z=>?_) hf ⟨?_,(aV (Z.map (·.1))).map λi=>acc.getD i .none,e,?_,he⟩,rfl,q _ _ (I3.lY hf) ⟨?_,λi c k hc hk=>?_⟩⟩
  .rw[sortedHeap_old (hf b o z) (by rw[size_push'];exact O9 (Nz z))];exact Nm _ z
  .rw[Nl,Nl,(a8 _).length_eq,Oi,Nl,sizeLine_eq];lia
  .have ea:acc=(Z.map (·.2)).map Of:=by rw[ez,Om];rfl
   rw[ea];exact tS _ _ λi hi=>by have:=NU.mp ((a8 _).mem_iff.mp hi);simpa using this
  .rw[Nl,<-C0 nz ((B.map _).trans pk)];unfold sK;rw[Nl]
  .rw[<-C0 nz ((B.map _).trans pk)] at hk;unfold sK at hk;rw[NS] at hc hk;cases z:(aV (Z.map (·.1)))[i]? with
   |none=>rw[z] at hc;cases hc
   |some j=>
    rw[z] at hc hk;cases hc;cases hk;have p:j<Z.length:=by have:=NU.mp ((a8 _).mem_iff.mp (NV z));simpa using this
    have:=F Z[j] (B.mem_iff.mp (OM p));simpa[p] using this
end
section
variable{X:Cx}{E:XK}
def mN:List A->Option (List (List Key))
 |[]=>some []
 |a::r=>match zr a,mN r with
  |some y,some ys=>some (y::ys)
  |_,_=>none
theorem vW{K:Kx}{G:Hp}:∀{vs:List V}{as:List A}{ks:List (List Key)},bh K G vs as->mN as=some ks->∃bs:List Addr,vs=bs.map V.ref/\bs.length=ks.length/\∀(i:Nat)(b:Addr)(k:List Key),bs[i]?=some b->ks[i]?=some k->cQ K.K G b (k.map kV)
 |_,_,_,.nil,h=>by cases h;exact⟨[],rfl,rfl,λi b k hb=>by simp at hb⟩
 |_,_,_,.cons (a:=a) (as:=as) q r,h=>by
  unfold mN at h;cases D:zr a with
  |none=>simp only[D] at h;cases h
  |some y=>cases F:mN as with
   |none=>simp only[D,F] at h;cases h
   |some ys=>
    simp only[D,F] at h;cases h;obtain⟨bs,rfl,h1,h2⟩:=vW r F;cases a<;>first|(cases D;done)|skip
    cases q with
    |@tup p vs Y sq rs=>
     have E:=qY rs D;subst E;refine⟨p::bs,rfl,congrArg (·+1) h1,λi b k hb hk=>?_⟩;cases i with
     |zero=>cases hb;cases hk;exact sq
     |succ i=>exact h2 i b k hb hk
def gu(m:Mi Rr):Mi Rr:=aI (lL m) λr O=>match r with
 | .fr (.lst as)=>match mN as with
  |some ks=>if (ks.all (λk=>!k.isEmpty&&k.all λe=>!zg e)&&decide ((kC ks).length<=17))=true then some (.ok (.nw (.lst (iP (kC ks)))),O) else none
  |none=>none
 |_=>none
theorem CO{K:Kx}{G:Hp}{bs:List Addr}{ks:List (List Key)}(h:∀(i:Nat)(b:Addr)(k:List Key),bs[i]?=some b->ks[i]?=some k->cQ K.K G b (k.map kV)):∀{cs:List Addr}{ls:List (List Key)},Kc bs ks cs ls->bh K G (cs.map V.ref) (ls.map rh)
 |[],[],_=>.nil
 |[],_::_,p=>nomatch p.1
 |_::_,[],p=>nomatch p.1
 |c::cs,l::ls,p=>by obtain⟨j,Y,Z⟩:=p.2 0 c l rfl rfl;exact .cons (.tup (h j c l Y Z) (pL _)) (CO h ⟨UE p.1,λi c k hc hk=>p.2 (i+1) c k hc hk⟩)
theorem p5{m:Mi Rr}(Y:St)(H:Hp)(Q:VK)(h:kF (kx X) E (gu m) Y H Q):kF (kx X) E (lL m) Y H λv T=>∃a bs ks,v=.ref a/\fo X.K T a (bs.map V.ref)/\GW X T bs ks/\(∀k∈ks,k≠[]/\nO k)/\(kC ks).length<=17 /\
   ∀r cs,T r=none->Kc bs ks cs (sK (kC ks))->Q (.ref r) (upd T r (.lst (cs.map V.ref))):=by
 obtain⟨c,Z,B,θ,o,O,l,b,em,q⟩:=h;unfold gu at em;refine aT l b em (λx v U T u g t=>?_) (aX q);split at t
 .rename_i as;cases F:mN as with
  |none=>simp only[F] at t;cases t
  |some ks=>
   simp only[F] at t;split at t
   .rename_i hn;cases t;rw[Ni,Oh] at hn;obtain⟨L,bl,s⟩:=Bd.A4 g;have C:c.K=X.K:=congrArg Kx.K l;cases s with
    |lst e r=>
     rename_i p us;obtain⟨bs,rfl,h1,h2⟩:=vW r F;have sq:=hZ (g_same _ _ _) e;refine⟨p,bs,ks,rfl,by rw[<-C];exact sq,⟨h1,λi b k hb hk=>by rw[<-C];exact cq (g_same _ _ _) (h2 i b k hb hk)⟩,λk hk=>?_,of_decide_eq_true hn.2,λR cs D pk=>?_⟩
     .have:=hn.1 k hk;rw[Ni,Oh] at this;refine⟨λz=>(by rw[z] at this;exact absurd this.1 (by decide)),λe he=>?_⟩;have:=this.2 e he;cases e with
      |inl i=>cases this
      |inr x=>exact⟨x,rfl⟩
     .refine q _ _ trivial (bl.iG D λG H' sm y=>.lst y ?_);rw[gF];exact CO (λi b k hb hk=>cq sm (h2 i b k hb hk)) pk
   .cases t
 .cases t
theorem xF{m:Mi Rr}(hc:X.calm=true)(B:X.A.units+64<cLine)(j:Gl X "set")(hm:X.mg "set" = none)(b:Gl X "sorted")(x:X.mg "sorted" = none)(he:JE X E e m)(hs:starEach [e] X.env=(false,eval e X.env)::starEach [] X.env):
  JE X E (.Call (.Name "sorted" p1) [.Call (.Name "set" p2) [e] [] q2] [] q1) (gu m):=⟨PE.weaken (pK hc B j hm b x (Dn he).p hs) λY H Q h=>p5 Y H Q h⟩
end
section
open PySem.Spec PyProof.Rows PySem.W PySem.Calls
variable{X:Cx}{E:XK}
noncomputable def Ha(z y:Str):Option Nat:=(Sm z y 0 z.length 1).head?
def u6:V->List V->Hp->VK->Prop:=λx vs H Q=>∃(z y:Str)(i:Nat),x=.str z/\vs=[.str y]/\Ha z y=some i/\Q (.int (i:Int)) H
theorem Ek:Hb X "str.index" u6:=by
 intro pins s Y H x vs v us Q I o rv h;obtain⟨z,y,i,rfl,rfl,hi,q⟩:=h;obtain⟨t,rfl⟩:=o;obtain⟨u,rfl,S,rfl⟩:=vals1 rv;cases e:Sm z y 0 z.length 1 with
 |nil=>unfold Ha at hi;rw[e] at hi;cases hi
 |cons j r=>unfold Ha at hi;rw[e] at hi;cases hi;exact call_meets F.slot_str_index (typeIs_str _ _ _) F.entry_str_index (F.args_str_index_2 _ _) (gives_str_index z y t S i r e).meets (show (Made.int (i:Int)).post _ s from ⟨.int (i:Int),H,I.tok _,⟨_,rfl⟩,q⟩)
end
section
variable{X:Cx}{E:XK}
def oH(z:Str):A->Option Rr
 | .str y=>match Ha z y with
  |some i=>some (.fr (.int (i:Int)))
  |none=>none
 |_=>none
theorem D7(z:Str):tD K (λw=>u6 (.str z) [w]) (oH z):=.scalar λH v a q c h=>by
 cases a<;>first|(cases h;done)|skip
 rename_i y;unfold oH at h;simp only at h;cases e:Ha z y with
 |none=>simp only[e] at h;cases h
 |some i=>simp only[e] at h;cases c;cases h;exact⟨_,_,rfl,λ_=>.int _,λQ k=>⟨_,_,i,rfl,rfl,e,k⟩⟩
theorem vP{o:Expr}{m:Mi Rr}(ho:JE X E o mo)(he:JE X E e m)(hp:∀{to u:TE},PE X o to->PE X e u->PE X (.Call (.Attribute o "index" apos) [e] [] cpos) (KZ X.K "str" u6 to (vA u Fd))):
  JE X E (.Call (.Attribute o "index" apos) [e] [] cpos) (ye oH mo m):=⟨PE.weaken (hp ho.p he.p) λY H Q h=>rZ D7 Y H Q h⟩
end
open PySem L2 W
def dw(f:Ms)(das:List A):List Rr->Mi Rr:=λrs Z=>match cN (rs++das.map Rr.fr) Z with
 |some (as,U)=>match f (as.map qT) with
  |some (.rt s,T)=>match fW s,putL Z (rs++das.map Rr.fr) (aq as.length T) U with
   |some r,some O=>some (.ok r,O)
   |_,_=>none
  |some (.ex x,T)=>match putL Z (rs++das.map Rr.fr) (aq as.length T) U with
   |some O=>some (.error x,O)
   |none=>none
  |_=>none
 |none=>none
def Val(f:Ms)(as:List A)(a:A):Prop:=∃Z,f (as.map Sl.fr)=some (.rt (.fr a),Z)
def jH(f:Ms)(as:List A)(o:LO):Prop:=∃Z,f (as.map Sl.fr)=some (.rt (.lv o),Z)
def cZ(f:Ms)(o:LO)(as:List A)(s:Sl)(o':LO):Prop:=∃Z,f (.pv o::as.map Sl.fr)=some (.rt s,.pv o'::Z)
theorem jV(as:List A)(Z:List Sl):cN (as.map Rr.fr) Z=some (as.map Sl.fr,Z):=by
 induction as generalizing Z with
 |nil=>rfl
 |cons a as j=>simp only[NK,cN,take1,j]
theorem qD(as:List A):(as.map Sl.fr).map qT=as.map Sl.fr:=by rw[Om];rfl
theorem ja(Z1:List Sl):∀(as:List A)(ss:List Sl)(Z:List Sl),as.length=ss.length->putL Z1 (as.map Rr.fr) ss Z=some Z
 |[],[],Z,_=>rfl
 |a::as,s::ss,Z,h=>by rw[NK,putL,ja Z1 as ss Z (by simpa using h)];rfl
 |[],_::_,_,h=>by simp at h
 |_::_,[],_,h=>by simp at h
variable{f:Ms}
theorem s9{as:List A}{a:A}(h:Val f as a)(Z:List Sl):dw f [] (as.map Rr.fr) Z=some (.ok (.fr a),Z):=by obtain⟨T,h⟩:=h;unfold dw;rw[QF,Oo,jV];simp only[qD,h,fW];rw[ja _ _ _ _ (by rw[bN,Nl])]
theorem fS{as:List A}{o:LO}(h:jH f as o)(Z:List Sl):dw f [] (as.map Rr.fr) Z=some (.ok (.nw o),Z):=by obtain⟨T,h⟩:=h;unfold dw;rw[QF,Oo,jV];simp only[qD,h,fW];rw[ja _ _ _ _ (by rw[bN,Nl])]
theorem BK{as:List A}{o o':LO}{s:Sl}(h:cZ f o as s o')(D:fW s=some r)(hl:aM Z i=some o):dw f [] (.rf i::as.map Rr.fr) Z=some (.ok r,setAt Z i o'):=by
 obtain⟨T,h⟩:=h;unfold aM at hl;unfold setAt;have hi:∀s,Z[i]?=some s->(Z.set i Sl.un)[i]?=some .un:=λs e=>Ov (Np.mp e).1;have V:∀(q:Sl)(k:LO->Sl),Z[i]?=some q->take1 (.rf i) Z=some (.lv o,Z.set i .un)->(∀s O,O[i]?=some Sl.un->ou Z (.rf i) (.pv s) O=some (O.set i (k s)))->dw f [] (.rf i::as.map Rr.fr) Z=some (.ok r,Z.set i (k o')):=by
  intro q k es ht hp;unfold dw;rw[QF,Oo,cN,ht];simp only[jV];have h':f (SS qT (Sl.lv o::SS Sl.fr as))=some (.rt s,.pv o'::T):=by rw[NK,qD];exact h
  rw[h'];simp only[D];have hb:aq (Sl.lv o::SS Sl.fr as).length (.pv o'::T)=.pv o'::aq as.length T:=by rw[NM,Nl];rfl
  rw[hb,putL,ja _ _ _ _ (by rw[bN])];simp only[hp _ _ (hi q es),List.set_set]
 cases es:Z[i]? with
 |none=>simp only[es] at hl;cases hl
 |some t=>
  cases t with
  |un=>simp only[es] at hl;cases hl
  |fr a=>simp only[es] at hl;cases hl
  |lv x=>simp only[es] at hl;cases hl;refine V _ Sl.lv es (by unfold take1;simp only[es]) λs O e=>?_;unfold ou;simp only[es,e]
  |pv x=>simp only[es] at hl;cases hl;refine V _ Sl.pv es (by unfold take1;simp only[es]) λs O e=>?_;unfold ou;simp only[es,e]
variable{G:Mg}
theorem yg{b:Ms}{as:List A}(P:Nat->List Sl->Prop)(s:P 0 Z)(hs:∀i a Z,as[i]?=some a->P i Z->∃U Z0,G a Z=some U/\(b U=some (.nx,Z0)\/b U=some (.ct,Z0))/\P (i+1) Z0):
  ∃O,forL G b as Z=some (.nx,O)/\P as.length O:=by
 have V:∀n i Z,as.length-i=n->i<=as.length->P i Z->∃O,forL G b (as.drop i) Z=some (.nx,O)/\P as.length O:=by
  intro n;induction n with
  |zero=>
   intro i Z e hi p;have:i=as.length:=by lia
   subst this;exact⟨Z,by rw[Q4];rfl,p⟩
  |succ n j=>
   intro i Z e hi p;have w:i<as.length:=by lia
   obtain⟨U,Z0,h1,h2,h3⟩:=hs i as[i] Z (by simp[w]) p;obtain⟨O,h4,h5⟩:=j (i+1) Z0 (by lia) w h3;refine⟨O,?_,h5⟩;rw[Pl w,forL,h1];rcases h2 with h2|h2
   .simp only[h2];exact h4
   .simp only[h2];exact h4
 simpa using V as.length 0 Z (by simp) (Ou _) s
theorem fR{t:Mi Bool}{e:Mi Rr}{as:List A}(P:Nat->List A->List Sl->Prop)(s:P 0 [] Z)
  (hs:∀i a acc Z,as[i]?=some a->P i acc Z->∃U,G a Z=some U/\((∃Z0 r F d N,t U=some (.ok true,Z0)/\e Z0=some (.ok r,F)/\bg r F=some (d,N)/\P (i+1) (acc++[d]) N)\/∃Z0,t U=some (.ok false,Z0)/\P (i+1) acc Z0)):
  ∃ys O,bX G t e as [] Z=some (ys,O)/\P as.length ys O:=by
 have V:∀n i acc Z,as.length-i=n->i<=as.length->P i acc Z->∃ys O,bX G t e (as.drop i) acc Z=some (ys,O)/\P as.length ys O:=by
  intro n;induction n with
  |zero=>
   intro i acc Z e' hi p;have:i=as.length:=by lia
   subst this;exact⟨acc,Z,by rw[Q4];rfl,p⟩
  |succ n j=>
   intro i acc Z e' hi p;have w:i<as.length:=by lia
   obtain⟨U,h1,h2⟩:=hs i as[i] acc Z (by simp[w]) p;rw[Pl w,bX,h1];rcases h2 with ⟨Z0,r,F,d,N,q1,q2,q,b⟩|⟨Z0,q1,q2⟩
   .simp only[q1,q2,q];exact j (i+1) _ N (by lia) w b
   .simp only[q1];exact j (i+1) _ Z0 (by lia) w q2
 simpa using V as.length 0 [] Z (by simp) (Ou _) s
theorem lK{t:Mi Bool}{b:Ms}(P:Nat->List Sl->Prop)(Q:List Sl->Prop)(hs:∀k Z,P k Z->(∃U,t Z=some (.ok false,U)/\Q U)\/∃U Z0 k',t Z=some (.ok true,U)/\(b U=some (.nx,Z0)\/b U=some (.ct,Z0))/\k'<k/\P k' Z0):
  ∀{n k:Nat}{Z:List Sl},P k Z->k<n->∃O,dN t b n Z=some (.nx,O)/\Q O:=by
 intro n;induction n with
 |zero=>intro k Z _ h;lia
 |succ n j=>
  intro k Z p hk;rcases hs k Z p with ⟨U,h1,h2⟩|⟨U,Z0,k',h1,h2,h3,h4⟩
  .exact⟨U,by rw[dN,h1],h2⟩
  .obtain⟨O,h5,m⟩:=j h4 (by lia);refine⟨O,?_,m⟩;rw[dN,h1];rcases h2 with h2|h2
   .simp only[h2];exact h5
   .simp only[h2];exact h5
theorem xQ{n:Nat}(h:n<2^9500):n<Cv:=Nn h (by unfold Cv;exact O7 (by decide) (by decide))
noncomputable def nm(x:Num):A:=.tup [.int x.1,.int x.2]
theorem sV(i j:Int):lR (.int i) (.int j)=some (decide (i=j)):=by unfold lR;simp only[toD];rw[if_pos (by simp[D.depth])];simp[D.eq,TJ]
section
variable{α β:Type}{Z:List Sl}
theorem oT(i:Nat):af i Z=(match Z[i]? with|some (.fr a)=>some (.ok (.fr a),Z)|some (.lv _)=>some (.ok (.rf i),Z)|some (.pv _)=>some (.ok (.rf i),Z)|_=>none):=rfl
def ir(f:A->A->Option Rr)(x y:Rr)(Z:List Sl):Option (Except Str Rr×List Sl):=match res Z x,res Z y with
 |some a,some b=>match f a b with
  |some r=>some (.ok r,Z)
  |none=>none
 |_,_=>none
theorem Nf(f:A->A->Option Rr)(D mb:Mi Rr):ay f D mb Z=(match D Z with|some (.ok x,U)=>(match mb U with|some (.ok y,Z0)=>ir f x y Z0|some (.error e,Z0)=>some (.error e,Z0)|none=>none)|some (.error e,U)=>some (.error e,U)|none=>none):=by
 unfold ay aI ir;cases D Z with
 |none=>rfl
 |some p=>
  obtain⟨o,U⟩:=p;cases o with
  |error e=>rfl
  |ok x=>
   simp only;cases mb U with
   |none=>rfl
   |some p=>
    obtain⟨o,Z0⟩:=p;cases o with
    |error e=>rfl
    |ok y=>rfl
def Ld(f:A->Option Rr)(x:Rr)(Z:List Sl):Option (Except Str Rr×List Sl):=match res Z x with
 |some a=>match f a with
  |some r=>some (.ok r,Z)
  |none=>none
 |none=>none
theorem Mc(m n:Mi Bool):oU m n Z=(match m Z with|some (.ok true,U)=>n U|some (.ok false,U)=>some (.ok false,U)|some (.error e,U)=>some (.error e,U)|none=>none):=by
 unfold oU aI;cases m Z with
 |none=>rfl
 |some p=>obtain⟨o,U⟩:=p;cases o with|error e=>rfl|ok k=>cases k<;>rfl
def tupK(rs:List Rr)(Z:List Sl):Option (Except Str Rr×List Sl):=match dU rs Z with
 |some (as,O)=>if as.length<=1000 then some (.ok (.fr (.tup as)),O) else none
 |none=>none
def lstK(rs:List Rr)(Z:List Sl):Option (Except Str Rr×List Sl):=match dU rs Z with
 |some (as,O)=>if as.length<=1000 then some (.ok (.nw (.lst as)),O) else none
 |none=>none
theorem CF(m n:Ms):az m n Z=(match m Z with|some (.nx,U)=>n U|r=>r):=rfl
def zT(i:Nat)(r:Rr)(Z:List Sl):Option (Fl×List Sl):=match vm r Z with
 |some (t,U)=>match put i t U with
  |some Z0=>some (.nx,Z0)
  |none=>none
 |none=>none
def Lh(r:Rr)(Z:List Sl):Option (Fl×List Sl):=match GA r Z with
 |some (s,O)=>some (.rt s,O)
 |none=>none
theorem Ds(t:Mi Bool)(m n:Ms):cS t m n Z=(match t Z with|some (.ok true,U)=>m U|some (.ok false,U)=>n U|some (.error e,U)=>some (.ex e,U)|none=>none):=by
 unfold cS cc;cases t Z with
 |none=>rfl
 |some p=>obtain⟨o,U⟩:=p;cases o with|error e=>rfl|ok k=>cases k<;>rfl
theorem HE(loc:Nat)(m:Ms):bS loc m Z=(match m (Z++Oc loc .un) with|some (.nx,O)=>some (.rt (.fr .non),O)|some (.rt s,O)=>some (.rt s,O)|some (.ex x,O)=>some (.ex x,O)|_=>none):=by
 unfold bS;cases m (Z++Oc loc .un) with
 |none=>rfl
 |some p=>obtain⟨f,U⟩:=p;cases f<;>rfl
theorem IT(m:Mi (List A))(G:Mg)(b:Ms):da m G b Z=(match m Z with|some (.ok as,U)=>forL G b as U|some (.error e,U)=>some (.ex e,U)|none=>none):=by
 unfold da cc;cases m Z with
 |none=>rfl
 |some p=>
  obtain⟨o,U⟩:=p;cases o with
  |error e=>rfl
  |ok x=>rfl
def K1(r:Rr)(Z:List Sl):Option (Except Str (List A)×List Sl):=match bg r Z with
 |some (a,O)=>match GZ a with
  |some as=>some (.ok as,O)
  |none=>none
 |none=>none
def gi(r:Rr)(Z:List Sl):Option (Except Str (List A)×List Sl):=match res Z r with
 |some (.int j)=>if -(2^60)<=j/\j<2^60 then some (.ok (cg 0 j.toNat),Z) else none
 |_=>none
def fF(n:Nat)(G:Mg)(t:Mi Bool)(e:Mi Rr)(as:List A)(Z:List Sl):Option (Except Str Rr×List Sl):=if as.length<=100000 then match bX G t e as [] (Z++Oc n .un) with
 |some (ys,O)=>some (.ok (.nw (.lst ys)),O.take Z.length)
 |none=>none else none
def Jn(G:Mg)(r:Rr)(Z:List Sl):Option (Fl×List Sl):=match bg r Z with
 |some (a,U)=>match G a U with
  |some Z0=>some (.nx,Z0)
  |none=>none
 |none=>none
theorem IV(m:Mi Rr)(G:Mg):mw m G Z=(match m Z with|some (.ok x,U)=>Jn G x U|some (.error e,U)=>some (.ex e,U)|none=>none):=by
 unfold mw cc;cases m Z with
 |none=>rfl
 |some p=>
  obtain⟨o,U⟩:=p;cases o with
  |error e=>rfl
  |ok x=>rfl
def Mz(i:Nat)(r:Rr)(Z:List Sl):Option (Except Str Rr×List Sl):=match bg r Z with
 |some (a,U)=>match aM U i with
  |some (.lst xs)=>if xs.length<=16000000 then some (.ok (.fr .non),setAt U i (.lst (xs++[a]))) else none
  |_=>none
 |none=>none
def M0(i:Nat)(r Y:Rr)(Z:List Sl):Option (Fl×List Sl):=match bg r Z with
 |some (a,U)=>match res U Y,aM U i with
  |some (.int k),some (.lst xs)=>match kR xs.length k with
   |some j=>some (.nx,setAt U i (.lst (xs.set j a)))
   |none=>none
  |_,_=>none
 |none=>none
def MF(r:Rr)(Z:List Sl):Option (Except Str Rr×List Sl):=match bg r Z with
 |some (a,O)=>some (.ok (.fr a),O)
 |none=>none
end
section
variable{Z:List Sl}
theorem Bi(a b:A):sI a b=(kO λi j=>if fits 20000 i&&fits 20000 j then some (.fr (.int (i*j))) else none) a b:=rfl
end
noncomputable def np:Sl->Bool
 | .pv _=>false
 |_=>true
theorem Jb(i:Nat)(s:Sl)(Z:List Sl):put i s Z=(match Z[i]? with|some t=>if np t=true then some (Z.set i s) else none|none=>none):=by
 unfold put;cases Z[i]? with
 |none=>rfl
 |some t=>cases t<;>rfl
def Wp(m:Ms)(Z:List Sl)(Q:Fl->List Sl->Prop):Prop:=∃f O,m Z=some (f,O)/\Q f O
section
variable{m n b:Ms}{Z U:List Sl}{Q:Fl->List Sl->Prop}
theorem Wp.st(h:m Z=some (.nx,U))(k:Wp n U Q):Wp (az m n) Z Q:=by obtain⟨f,O,e,q⟩:=k;exact⟨f,O,by rw[CF,h];exact e,q⟩
theorem Wp.sq(k:Wp m Z λf U=>f=.nx/\Wp n U Q):Wp (az m n) Z Q:=by obtain⟨f,U,e,rfl,G,Z0,F,q⟩:=k;exact⟨G,Z0,by rw[CF,e];exact F,q⟩
theorem Wp.en{f:Fl}(h:m Z=some (f,U))(q:Q f U):Wp m Z Q:=⟨_,_,h,q⟩
theorem Wp.mono{H:Fl->List Sl->Prop}(k:Wp m Z Q)(h:∀f U,Q f U->H f U):Wp m Z H:=by obtain⟨f,U,e,q⟩:=k;exact⟨f,U,e,h f U q⟩
theorem Wp.ft{t:Mi Bool}(h:t Z=some (.ok true,U))(k:Wp m U Q):Wp (cS t m n) Z Q:=by obtain⟨f,O,e,q⟩:=k;exact⟨f,O,by rw[Ds,h];exact e,q⟩
theorem Wp.ff{t:Mi Bool}(h:t Z=some (.ok false,U))(k:Wp n U Q):Wp (cS t m n) Z Q:=by obtain⟨f,O,e,q⟩:=k;exact⟨f,O,by rw[Ds,h];exact e,q⟩
theorem Wp.fr{x:Mi (List A)}{as:List A}(P:Nat->List Sl->Prop)(h:x Z=some (.ok as,U))(w:P 0 U)(hs:∀i a Z,as[i]?=some a->P i Z->∃U,G a Z=some U/\Wp b U λf Z0=>(f=.nx\/f=.ct)/\P (i+1) Z0)(R:∀O,P as.length O->Q .nx O):Wp (da x G b) Z Q:=by
 obtain⟨O,h1,h2⟩:=yg (G:=G) (b:=b) (as:=as) P w (λi a Z ha p=>by
  obtain⟨U,g,f,Z0,e,hf,j⟩:=hs i a Z ha p;refine⟨U,Z0,g,?_,j⟩;rcases hf with rfl|rfl
  .exact .inl e
  .exact .inr e)
 exact⟨_,O,by rw[IT,h];exact h1,R O h2⟩
theorem Wp.Ml{x:Mi (List A)}(as:List A)(P:List Sl->Prop)(h:x Z=some (.ok as,U))(w:P U)(hs:∀a∈as,∀Z,P Z->∃U,G a Z=some U/\Wp b U λf Z0=>(f=.nx\/f=.ct)/\P Z0)(R:∀O,P O->Q .nx O):Wp (da x G b) Z Q:=
 Wp.fr (λ_=>P) h w (λ_ a Z ha p=>hs a (NV ha) Z p) R
theorem Wp.df{loc:Nat}(k:Wp m (Z++Oc loc .un) λf O=>match f with | .nx=>Q (.rt (.fr .non)) O | .rt s=>Q (.rt s) O | .ex x=>Q (.ex x) O|_=>False):Wp (bS loc m) Z Q:=by
 obtain⟨f,O,e,q⟩:=k;unfold Wp;rw[HE,e];cases f with
 |nx=>exact⟨_,_,rfl,q⟩
 |rt s=>exact⟨_,_,rfl,q⟩
 |ex x=>exact⟨_,_,rfl,q⟩
 |bk=>exact q.elim
 |ct=>exact q.elim
theorem Val.of{as:List A}{a:A}(k:Wp f (as.map Sl.fr) λg _=>g=.rt (.fr a)):Val f as a:=by obtain⟨g,O,e,rfl⟩:=k;exact⟨O,e⟩
theorem jH.of{as:List A}{o:LO}(k:Wp f (as.map Sl.fr) λg _=>g=.rt (.lv o)):jH f as o:=by obtain⟨g,O,e,rfl⟩:=k;exact⟨O,e⟩
theorem cZ.of{as:List A}{o:LO}{R:Sl->LO->Prop}(k:Wp f (.pv o::as.map Sl.fr) λg Z=>∃s o' U,g=.rt s/\Z=.pv o'::U/\R s o'):∃s o',cZ f o as s o'/\R s o':=by obtain⟨g,O,e,s,o',U,rfl,rfl,r⟩:=k;exact⟨s,o',⟨U,e⟩,r⟩
end
def Dt(n:Nat)(a:A):Prop:=∃d,toD a=some d/\D.depth d<=n
def lH(n:Nat)(as:List A):Prop:=∃ds,cL as=some ds/\D.c8 ds<=n
theorem Dt.int{n:Nat}(i:Int):Dt n (.int i):=⟨.int i,by rw[toD],by simp[D.depth]⟩
theorem Dt.str{n:Nat}(x:Str):Dt n (.str x):=⟨.str x,by rw[toD],by simp[D.depth]⟩
theorem lH.nil{n:Nat}:lH n []:=⟨[],by rw[cL],by simp[D.c8]⟩
theorem lH.cons{n:Nat}{a:A}{as:List A}(h:Dt n a)(k:lH n as):lH n (a::as):=by obtain⟨d,h1,h2⟩:=h;obtain⟨ds,h3,h4⟩:=k;exact⟨d::ds,by rw[cL,h1,h3],by rw[D.c8];lia⟩
theorem lH.of{n:Nat}:∀{as:List A},(∀a∈as,Dt n a)->lH n as
 |[],_=>.nil
 |a::as,h=>.cons (h a Nu) (lH.of λb hb=>h b (Nt _ hb))
theorem Dt.tup{n:Nat}{as:List A}(h:lH n as):Dt (n+1) (.tup as):=by obtain⟨ds,h1,h2⟩:=h;exact⟨.tup ds,by rw[toD,h1],by rw[D.depth];lia⟩
theorem Dt.lst{n:Nat}{as:List A}(h:lH n as):Dt (n+1) (.lst as):=by obtain⟨ds,h1,h2⟩:=h;exact⟨.lst ds,by rw[toD,h1],by rw[D.depth];lia⟩
theorem Dt.nm{n:Nat}(x:Num):Dt (n+1) (nm x):=Dt.tup (.cons (.int _) (.cons (.int _) .nil))
theorem gS{a:A}(h:Dt 40 a):lR a a=some true:=by obtain⟨d,h1,h2⟩:=h;unfold lR;simp only[h1];rw[if_pos h2,D.jk]
theorem ji(n:Nat):(cg 0 n).length=n:=by simp[cg]
theorem qU{n:Nat}{a:A}(h:(cg 0 n)[i]?=some a):i<n/\a=.int i:=by have hi:=(Np.mp h).1;rw[ji] at hi;unfold cg at h;rw[NS,Pb hi] at h;simp at h;exact⟨hi,h.symm⟩
section
variable{Z:List Sl}
def Kk(i:Nat)(r:Rr)(Z:List Sl):Option (Except Str Rr×List Sl):=match bg r Z with
 |some (.lst zs,U)=>match aM U i with
  |some (.lst xs)=>if xs.length+zs.length<=100000 then some (.ok (.fr .non),setAt U i (.lst (xs++zs))) else none
  |_=>none
 |_=>none
end
variable{ms:Mi (List Rr)}{b:Bool}
section
variable{α β:Type}{Z Z1 U Z0 F:List Sl}{m n mk:Mi Rr}{t u:Mi Bool}{x y r rk:Rr}
theorem bk{m:Mi α}{f:α->Mi β}{x:α}{q:Option (Except Str β×List Sl)}(h:m Z=some (.ok x,U))(k:f x U=q):aI m f Z=q:=by unfold aI;rw[h];exact k
theorem sk{m:Mi α}{f:α->Ms}{x:α}{q:Option (Fl×List Sl)}(h:m Z=some (.ok x,U))(k:f x U=q):cc m f Z=q:=by unfold cc;rw[h];exact k
theorem aC{das:List A}(h:ms Z=some (.ok rs,U))(c:dw f das rs U=some (.ok r,Z0)):lV f das ms Z=some (.ok r,Z0):=bk h c
theorem aA(h:m Z=some (.ok x,U))(k:ms U=some (.ok rs,Z0)):gT m ms Z=some (.ok (x::rs),Z0):=bk h (bk k rfl)
theorem ao{f:A->A->Option Rr}(h:m Z=some (.ok x,U))(k:n U=some (.ok y,Z0))(o:ir f x y Z0=some (.ok r,F)):ay f m n Z=some (.ok r,F):=bk h (bk k o)
theorem kb{f:A->Option Rr}(h:m Z=some (.ok x,U))(o:Ld f x U=some (.ok r,Z0)):oZ f m Z=some (.ok r,Z0):=bk h o
theorem jw(h:m Z=some (.ok x,U))(o:MF x U=some (.ok r,Z0)):lL m Z=some (.ok r,Z0):=bk h o
theorem dJ(h:ms Z=some (.ok rs,U))(o:tupK rs U=some (.ok r,Z0)):bR ms Z=some (.ok r,Z0):=bk h o
theorem DL(h:ms Z=some (.ok rs,U))(o:lstK rs U=some (.ok r,Z0)):cX ms Z=some (.ok r,Z0):=bk h o
theorem aR(h:m Z=some (.ok (.fr (.bl b)),U)):au m Z=some (.ok b,U):=bk h rfl
theorem pV(h:t Z=some (.ok b,U)):mV t Z=some (.ok (!b),U):=bk h rfl
theorem nh(h:t Z=some (.ok false,U))(k:u U=some (.ok b,Z0)):zE t u Z=some (.ok b,Z0):=bk h k
theorem Ai(h:t Z=some (.ok false,U)):oU t u Z=some (.ok false,U):=bk h rfl
theorem tV(h:t Z=some (.ok true,U))(k:u U=some (.ok b,Z0)):oU t u Z=some (.ok b,Z0):=bk h k
theorem ya(h:m Z=some (.ok r,U))(k:zT i r U=some (.nx,Z0)):aF i m Z=some (.nx,Z0):=sk h k
theorem bu{f:Fl}(h:m Z=some (.ok r,U))(k:Lh r U=some (f,Z0)):ck m Z=some (f,Z0):=sk h k
theorem eE(h:m Z=some (.ok r,U)):aY m Z=some (.nx,U):=sk h rfl
theorem JC{a:Sl}(h:vm r Z=some (a,U))(k:U[i]?=some s)(hn:np s=true):zT i r Z=some (.nx,U.set i a):=by unfold zT;rw[h];dsimp only;rw[Jb,k];dsimp only;rw[if_pos hn]
end
end M
namespace W
open PySem L2
noncomputable def wb(o:Obj):Bool:=match o.data with
 | .freed=>false
 |_=>true
def lN:List Nat->List Obj->Nh->Nh
 |a::as,o::os,K=>lN as os (match wb o with|true=>(a,o)::K|false=>K)
 |_,_,K=>K
def fK(h:Heap):Nh:=match h.get? mainGlobals with
 |some o=>(mainGlobals,o)::lN (NA h.objs.size) h.objs.toList []
 |none=>[]
theorem lD{o:Obj}{a:Addr}:∀{K:Nh},K.lookup a=some o->(a,o)∈K
 |(b,u)::K,e=>by
  rw[OC] at e;split at e
  .rename_i q;cases e;rw[beq_iff_eq.mp q];exact Nu
  .exact Nt _ (lD e)
theorem oE{h:Heap}:∀{as:List Nat}{os:List Obj}{K:Nh},(∀(i a:Nat)(o:Obj),as[i]?=some a->os[i]?=some o->h.objs[a]?=some o)->(∀(a:Nat)(o:Obj),(a,o)∈K->h.get? a=some o)->∀a o,(a,o)∈lN as os K->h.get? a=some o
 |[],_,K,_,k=>by unfold lN;exact k
 |_::_,[],K,_,k=>by unfold lN;exact k
 |a::as,o::os,K,e,k=>by
  unfold lN;refine oE (λi b u h1 h2=>e (i+1) b u h1 h2) ?_;cases c:wb o with
  |false=>exact k
  |true=>
   intro b u m;rcases ND.mp m with m|m
   .cases m;unfold Heap.get?;rw[e 0 a o rfl rfl];obtain⟨E,V,z,A⟩:=o;cases z<;>first|rfl|cases c
   .exact k b u m
theorem jJ(h:Heap):(fK h).In h:=λa o e=>by
 have m:=lD e;unfold fK at m;split at m
 .rename_i o' I;rcases ND.mp m with m|m
  .cases m;exact I
  .refine oE (λi b u h1 h2=>?_) (λ_ _ q=>by cases q) a o m;have hi:i<h.objs.size:=(Np.mp h1).1 |> λq=>by rwa[Oi] at q
   rw[Pb hi] at h1;cases h1;rw[<-NZ];exact h2
 .cases m
noncomputable def HW(K:Nh)(n:Str):Option (Str×Str×Arguments×FuncBody×Scope×Addr×List (Str×Addr)×Value×Addr×Bool):=
 match S5 K mainGlobals n with
 | some (some (.ref f))=>(match K.lookup f with
  |some ⟨_,_,.func d,_⟩=>some (d.name,d.qualname,d.params,d.body,d.scope,d.globals,d.closure,d.defaults,d.builtins,Ri K d.code n&&O4 K (.ref f))
  | _=>none)
 |_=>none
def Jk(n:Str)(st:Stmt):Option (Str×Str×Arguments×FuncBody×Scope×Addr×List (Str×Addr)×Value×Addr×Bool):=some (n,n,cC st,.stmts (dr st),aN st,mainGlobals,[],.none,builtinsNs,true)
noncomputable def Lf(K:Nh)(a:Addr)(i j:Int):Bool:=match K.lookup a with
 | some ⟨.type "tuple",none,.seq its _,_⟩=>(match its.toList with
  |[.int x _,.int y _]=>x==i&&y==j
  | _=>false)
 |_=>false
def Hi(ds:List (Str×Stmt))(h:Nh->Bool)(K:Nh):=(ds.map λx=>HW K x.1,h K)
def Hj(ds:List (Str×Stmt)):List (Option (Str×Str×Arguments×FuncBody×Scope×Addr×List (Str×Addr)×Value×Addr×Bool))×Bool:=(ds.map λx=>Jk x.1 x.2,true)
def hk(ds:List (Str×Stmt))(b:Nh->Bool):UW where
 α:=List (Option (Str×Str×Arguments×FuncBody×Scope×Addr×List (Str×Addr)×Value×Addr×Bool))×Bool
 obs:=λs=>Hi ds b (fK s.heap)
 val:=λ_=>Hj ds
 says:=λ_ h=>∃K:Nh,Hi ds b K=Hj ds/\K.In h
 of:=λ_ s e=>⟨fK s.heap,e,jJ _⟩
 keeps:=λ_ _ _ ⟨K,e,i⟩ k=>⟨K,e,i.keeps k⟩
noncomputable def JR(p:Program):List Stmt:=p.main.body.filter λs=>match s with | .FunctionDef n ..=>n==("law" : Str)|_=>false
noncomputable def IX:Stmt->List Str
 | .FunctionDef n ..=>[n]
 | .ClassDef n ..=>[n]
 | .Assign [.Name n _] _ _=>[n]
 |_=>[]
def IB(p:Program):Program:={ p with main:={ p.main with body:=JR p } }
def sN(p:Program):List Str:=(p.main.body.flatMap IX).filter λn=>n != ("law" : Str)
open PySem PySem.W PyProof.Rows
noncomputable abbrev C9:=VB
noncomputable abbrev qM:=VC
noncomputable abbrev Hz:=VD
noncomputable abbrev wU:=VE
noncomputable abbrev Dr:=VF
noncomputable abbrev CQ:=VG
noncomputable abbrev vv:=VH
theorem vq:denote=C9:=VI
theorem lI:treeTable=qM:=VJ
theorem BO:stepOk=Hz:=VL
theorem ud:stepT=wU:=VM
theorem zd:importEnds=Dr:=VN
theorem vZ:fenceModules?=CQ:=VO
theorem uc:openSeen=vv:=VP
def yO(p:Program)(w:World)(Z:Nat)(h:Option Value):Nat->SharedT->Thread->Option SharedT
 |0,_,_=>none
 |m+1,s,t=>match through t with
  |true=>some s
  |false=>match Hz Z h t with
   |false=>none
   |true=>match wU (C9 qM) p w s t with
    |some (s',t')=>yO p w Z h m s' t'
    |none=>none
theorem tO{p:Program}{w:World}{Z:Nat}{h:Option Value}:∀{m:Nat}{s s2:SharedT}{t:Thread},yO p w Z h m s t=some s2->topRun treeTable p w Z h m s.abs t=some s2.abs
 |0,_,_,_,e=>by cases e
 |m+1,s,s2,t,e=>by
  unfold yO at e;rw[<-BO,<-ud,<-vq,<-lI] at e;unfold topRun;cases I:through t with
  |true=>rw[I] at e;cases e;rfl
  |false=>
   rw[I] at e;simp only at e ⊢;cases a:stepOk Z h t with
   |false=>rw[a] at e;cases e
   |true=>
    rw[a] at e;simp only at e ⊢;cases es:stepT (denote treeTable) p w s t with
    |none=>rw[es] at e;cases e
    |some q=>obtain⟨O,C⟩:=q;rw[es] at e;rw[stepT_spec es];exact tO e
noncomputable def He:List Obj->Nat->BT->Option BT
 |[],_,t=>some t
 |o::os,n,t=>match ((t.ins n o).get n).isSome with
  |true=>He os (n+1) (t.ins n o)
  |false=>none
theorem wj(l:Life):∀{os:List Obj}{n:Nat}{t t':BT},He os n t=some t'->absHeap t' (n+os.length) l=⟨(absHeap t n l).objs++os.toArray,l⟩
 |[],n,t,t',e=>by cases e;show absHeap t n l=⟨(absHeap t n l).objs++#[],l⟩;rw[Array.append_empty];rfl
 |o::os,n,t,t',e=>by
  unfold He at e;cases I:((t.ins n o).get n).isSome with
  |false=>rw[I] at e;cases e
  |true=>
   rw[I] at e;have i:=wj l e;rw[absHeap_ins I] at i;have F:n+1+os.length=n+(o::os).length:=by rw[NM];lia
   rw[<-F,i];show Heap.mk (((absHeap t n l).objs.push o)++os.toArray) l=_;simp
theorem xt{h:Heap}{t:BT}(e:He h.objs.toList 0 .nil=some t):absHeap t h.objs.size h.life=h:=by have i:=wj h.life e;rw[Qb,NP] at i;rw[i];obtain⟨objs,l⟩:=h;show Heap.mk (#[]++objs.toList.toArray) l=_;simp
def GC(p:Program)(w:World)(N:Nat)(s₀:Shared):Option Shared:=match s₀.heap.isNs mainGlobals&&s₀.gens.size==0 with
 |true=>match He s₀.heap.objs.toList 0 .nil with
  |some t=>(yO p w s₀.heap.objs.size (s₀.heap.nsMap mainGlobals "__annotations__") N ⟨t,s₀.heap.objs.size,s₀.heap.life,s₀.gens,s₀.drawn,s₀.toks,s₀.os⟩ (topStub p)).bind λq=>match staticsOk (importedModules p.main.body) s₀.heap q.abs.heap&&namesBound p q.abs.heap&&gensDone q.abs&&laidKept s₀.heap q.abs.heap with
   |true=>some q.abs
   |false=>none
  |none=>none
 |false=>none
variable{p:Program}{w:World}{N:Nat}{s:Shared}
theorem Bg{s₀:Shared}(e:GC p w N s₀=some s):topFrom treeTable p w N s₀=some s:=by
 unfold GC at e;unfold topFrom;cases D:s₀.heap.isNs mainGlobals&&s₀.gens.size==0 with
 |false=>rw[D] at e;cases e
 |true=>
  rw[D] at e;simp only at e ⊢;cases F:He s₀.heap.objs.toList 0 .nil with
  |none=>rw[F] at e;cases e
  |some t=>
   rw[F] at e;simp only at e;cases O:yO p w s₀.heap.objs.size (s₀.heap.nsMap mainGlobals "__annotations__") N ⟨t,s₀.heap.objs.size,s₀.heap.life,s₀.gens,s₀.drawn,s₀.toks,s₀.os⟩ (topStub p) with
   |none=>rw[O] at e;cases e
   |some q=>
    rw[O] at e;have k:=tO O;have y:U4 ⟨t,s₀.heap.objs.size,s₀.heap.life,s₀.gens,s₀.drawn,s₀.toks,s₀.os⟩=s₀:=by unfold U4;rw[xt F]
    rw[y] at k;rw[k];exact e
def t6(p:Program)(w:World)(N:Nat):Option Shared:=((Dr qM (opening p) w N (start (opening p)).1 (start (opening p)).2).bind (CQ p)).bind (GC p w N)
theorem xk(e:t6 p w N=some s):openEnds treeTable p w N=some s:=by
 unfold t6 at e;unfold openEnds fencedOpening;rw[<-zd,<-lI,<-vZ] at e;cases D:(importEnds treeTable (opening p) w N (start (opening p)).1 (start (opening p)).2).bind (fenceModules? p) with
 |none=>rw[D] at e;cases e
 |some q=>rw[D] at e;exact Bg e
theorem vD{q:Program}{loose:List Str}{Xt:Shared->Bool}{α:Type}{Yf:Shared->α}{Ya:World->α}
  (h:∀w,Qt (λs=>(vv q loose (importedModules p.main.body) Xt true s,Yf s)) (t6 p w N)=some (openGood q loose,Ya w)):LeftO p q loose Xt Yf Ya N:=λw=>by
 have h:=h w;rw[<-uc] at h;cases e:t6 p w N with
 |none=>rw[e] at h;cases h
 |some s=>rw[e] at h;rw[xk e];exact h
end W
namespace L2
open PySem PySem.Spec PyProof.Rows
section
variable{P:Program}{w:World}{K:Nh}{mg:Str->Option Value}{base:Heap}{dV:Value}
theorem nk.M5{CX:oj}{x qual:Str}{st:Stmt}{f:Addr}{fd:FuncData}{N ps:List Str}{k:Nat}{sp:Sp}(F:nk K x qual st f fd dV)(S:gY N ps (aN st))(len:∀vs H Q E,sp vs H Q E->vs.length=ps.length)
  (h:∀(cdv:Value)(A:Around)(outer:List Env)(s:Shared)(H:Hp)(vs:List V)(Q:VK)(E:XK),cY k (A.deeper (envOfC qual (aN st) s.heap.objs.size f cdv))->sp vs H Q E->
   ∃t,pF (p7 CX P w K mg base N qual (aN st) f cdv A outer s H E) (dr st) t/\t { nx:=λ_ H'=>Q .non H',rt:=Q } (start N vs) H):dM P w K mg base CX (k+1) f fd ps sp:=by
 obtain⟨oc,od,kV,doc,pm,an,cdv,ct,osl,rfl,lk,C⟩:=F.ex;exact J1 lk C S len λA outer s H vs Q E D l=>h cdv A outer s H vs Q E D l
end
end L2
namespace M
open PySem L2
section
variable{X:Cx}{E:XK}
theorem z0{CX:oj}{P:Program}{w:World}{K:Nh}{mg:Str->Option Value}{base:Heap}{dV:Value}{x qual:Str}{st:Stmt}{f:Addr}{fd:FuncData}{N ps:List Str}{k:Nat}{m:Ms}(F:nk K x qual st f fd dV)(S:gY N ps (aN st))
  (hb:∀(cdv:Value)(A:Around)(outer:List Env)(s:Shared)(H:Hp)(E:XK),cY k (A.deeper (VQ qual (aN st) s.heap.objs.size f cdv))->
   vc (p7 CX P w K mg base N qual (aN st) f cdv A outer s H E) E (dr st) m):dM P w K mg base CX (k+1) f fd ps (nu ⟨K,mg,P,w⟩ ps.length (bS (N.length-ps.length) m)):=
 F.M5 S (λvs H Q E h=>h.1) λcdv A outer s H vs Q E t h=>by
  obtain⟨hn,c,Z,f,O,L,B,D,b,em,q⟩:=h;refine⟨_,(hb cdv A outer s H E t).p,?_⟩;have bs:=b.start N B;rw[hn] at bs;unfold bS at em;cases e:m (Z++Oc (N.length-ps.length) .un) with
  |none=>simp only[e] at em;cases em
  |some p=>
   obtain⟨n,U⟩:=p;simp only[e] at em;refine⟨c,_,[],[],n,U,L,bs,e,?_⟩;have bk:∀{Z':St}{H':Hp}{J:St}{T:List Sl},Bd c Z' H' U J T->Bd c (vs.map some) H' (aq vs.length U) J T:=λX=>by have:=X.back;rw[B,Nl] at this;exact this
   cases n with
   |nx=>cases em;exact λZ' H' X=>q .non H' (λo z=>by cases z) ((bk X).push λ_=>.non)
   |rt s=>cases em;exact λv Z' H' hs X=>q v H' hs (bk X)
   |ex x=>cases em;exact λC Z' H' hm X=>q C H' hm (bk X)
   |bk=>cases em
   |ct=>cases em
noncomputable def zF:oj:=λ_ _ _ _ _ _=>False
noncomputable def Dh:Ms:=λ_=>none
theorem BG{s:Stmt}:JS X E s Dh:=⟨λpins s Y H D I h=>by obtain⟨c,Z,B,θ,f,O,L,b,em,q⟩:=h;cases em⟩
end
end M
namespace W
open PySem L2
theorem vh{CX:oj}{l:Ul}{n k:Nat}{q:Program}{loose:List Str}{XP:(Str->Option Value)->Heap->Prop}{YP:World->Heap->Prop}{d:DefRec}{x:Str}{sp:Nh->Sp}
  (hn:l.most=some n)(A:n<=sizeLine)(U:d.params.defaults=[])(t:cY k callerA)
  (F:∀(w:World)(mg:Str->Option Value)(X:Addr)(h:Heap),YP w h->h.Ns mainGlobals mg->mg d.name=some (.ref X)->
   ∃K:Nh,K.In h/\∃fd:FuncData,(∀(s:Shared)(u:Value),BindsTo s fd ⟨[u],[]⟩ [(x,u)])/\∀base:Heap,K.In base->base.Ns mainGlobals mg->dM l.prog w K mg base CX k X fd [x] (sp K))
  (hx:∀l H s e s',CX l H s (λ_ _ _=>False) e s'->False) (m:∀(K:Nh)(H:Hp)(a:Addr)(ns:List Int),ns.length<=n->Ei H->fo K H a (ns.map V.int)->sp K [.ref a] H (λv _=>v=.bl true) λ_ _ _=>False):
  UH q loose XP YP l.row.toRowW d [] (λf vs=>T5 f vs):=by
 refine Att.pC hn U λw s₀ Z mg mb X o pm cd doc a vs ns G Y ho hd C r Q i E j=>?_;obtain⟨K,L,fd,hb,S⟩:=F w mg X _ Y G.T.g r;exact wH L G.T.g G.T.b G.T.builtins G.T.nolimit j Q i (N5 E A) t S hb (λH B p=>m K H a ns E B p) λH e s' z=>hx _ _ _ _ _ z
end W
namespace M
open PySem L2
structure FI where
 n:Nat
 m:Ms
 mu:List Bool
 df:List A
 hf:Bool
structure Tb where
 fns:List (Str×FI)
 cst:List (Str×A)
 exs:List Str
 kit:List (Str×List (Str×Bool))
 exm:List (Str×List Str)
 fld:List (Str×List Str)
 ini:List (Str×FI)
 mts:List (Str×Str×FI)
structure Sc where
 N:List Str
 nm:List (Str×NameKind)
 di:List Str
 ca:List Str
 hd:Bool
 lv:List Str
 tp:Bool:=false
noncomputable def KL(s:Sc):Sc:={ s with tp:=false }
noncomputable def ah{α β:Type}(x:Option α)(f:α->Option β):Option β:=match x with
 |some a=>f a
 |none=>none
noncomputable def cI{α:Type}(b:Bool)(x:Option α):Option α:=match b with
 |true=>x
 |false=>none
variable{α:Type}
theorem ae{β:Type}{x:Option α}{f:α->Option β}{y:β}(h:ah x f=some y):∃a,x=some a/\f a=some y:=by
 cases x with
 |none=>cases h
 |some a=>exact⟨a,rfl,h⟩
theorem aj{b:Bool}{x:Option α}{y:α}(h:cI b x=some y):b=true/\x=some y:=by
 cases b with
 |false=>cases h
 |true=>exact⟨rfl,h⟩
noncomputable def nB(s:Sc)(x:Str)(k:NameKind):Bool:=s.nm.lookup x==some k
noncomputable def Aa(s:Sc)(x:Str):Bool:=nB s x .local || nB s x .cell || nB s x .free
noncomputable def qW(s:Sc)(x:Str):Bool:=nB s x .local || nB s x .cell
noncomputable def okN(x:Str):Bool:=!(x==("__debug__" : Str))&&!(x==("__classdict__" : Str))
def pT(s:Sc)(x:Str):Bool:=nB s x .globalImplicit&&okN x
noncomputable def kR(x:Str):List Str->Nat->Option Nat
 |[],_=>none
 |y::ys,i=>if x==y then some i else kR x ys (i+1)
theorem kB{x:Str}:∀{N:List Str}{k i:Nat},kR x N k=some i->∃j,i=k+j/\N[j]?=some x
 |[],_,_,h=>by cases h
 |y::ys,k,i,h=>by
  unfold kR at h;split at h
  .rename_i e;cases h;exact⟨0,rfl,by rw[beq_iff_eq.mp e];rfl⟩
  .obtain⟨j,D,F⟩:=kB h;exact⟨j+1,by lia,by simpa using F⟩
def slot(s:Sc)(x:Str):Option Nat:=cI (Aa s x&&okN x) (kR x s.N 0)
def eY(s:Sc)(x:Str):Option Nat:=cI (qW s x&&okN x) (kR x s.N 0)
noncomputable def zY:List Str:=["len", "isinstance", "abs", "max", "min", "int", "bool", "str", "tuple", "list", "dict", "range", "ValueError", "sorted", "all", "zip", "set", "sum", "enumerate", "any", "reversed"]
def jv(P:Program)(w:World)(K:Nh)(mg:Str->Option Value)(fd:FuncData)(ps:List Str)(df:List A):Prop:=∀j,j<=df.length->∃ds dvs,Binds K fd ps ds/\Vals dvs ds/\∀G,bh ⟨K,mg,P,w⟩ G dvs (df.drop j)
noncomputable def yG(fi:FI)(n:Nat):List A:=fi.df.drop (fi.df.length-(fi.n-n))
variable{P:Program}{w:World}{K:Nh}{mg:Str->Option Value}{fd:FuncData}{ps:List Str}
theorem jv.of{fi:FI}(h:jv P w K mg fd ps fi.df)(n:Nat):∃ds dvs,Binds K fd ps ds/\Vals dvs ds/\∀G,bh ⟨K,mg,P,w⟩ G dvs (yG fi n):=h _ (VX _ _)
noncomputable def IL(tb:Tb)(f:Str):List Str:=(tb.fld.filter λp=>p.2.contains f).map (·.1)
structure Gd(tb:Tb)(k:Nat)(P:Program)(w:World)(K:Nh)(mg:Str->Option Value)(base:Heap):Prop where
 fn:∀x f,tb.fns.lookup x=some f->∃a fd ps,dM P w K mg base zF k a fd ps (nu ⟨K,mg,P,w⟩ f.n f.m)/\mg x=some (.ref a)/\O4 K (.ref a)=true/\jv P w K mg fd ps f.df
 cs:∀x a,tb.cst.lookup x=some a->∃v u,mg x=some u/\RelV v u/\∀G,RA ⟨K,mg,P,w⟩ G v a
 bl:∀x∈zY,mg x=none
 fl:∀f c C,(IL tb f).contains c=true->mg c=some (.ref C)->Fu K C/\DO K C f
 im:∀c f,tb.ini.lookup c=some f->∃C a fd ps j,j+1<=k/\dM P w K mg base zF j a fd ps (nu ⟨K,mg,P,w⟩ f.n f.m)/\mg c=some (.ref C)/\Mk K C a/\jv P w K mg fd ps f.df
 mt:∀m c f,(m,c,f)∈tb.mts->∃C a fd ps,dM P w K mg base zF k a fd ps (nu ⟨K,mg,P,w⟩ f.n f.m)/\mg c=some (.ref C)/\Fu K C/\Meth K C m a/\jv P w K mg fd ps f.df
structure Sit(tb:Tb)(k:Nat)(X:Cx)(E:XK)(s:Sc):Prop where
 n:X.N=s.N
 nd:s.N.Nodup
 gl:∀x,s.nm.lookup x=some .globalImplicit->Gl X x
 vs:∀x,Aa s x=true->pH X.env.scope x
 lo:∀x,qW s x=true->Loc X.env.scope x
 lc:∀x,s.nm.lookup x=some .local->X.env.scope.names.lookup x=some .local
 ce:∀x,s.nm.lookup x=some .cell->X.env.scope.names.lookup x=some .cell
 fx:∀x,qW s x=true->X.fn x=true\/X.env.scope.names.lookup x=some .local
 cm:s.hd=false->X.calm=true
 rm:s.hd=false->cY k X.A
 ps:s.hd=false->Passes zF X E
 gd:Gd tb k X.prog X.w X.K X.mg X.base
variable{x:Str}
section
variable{tb:Tb}{k:Nat}{X:Cx}{E:XK}{s:Sc}
theorem mX(h:okN x=true):gq x/\uR x:=by unfold okN at h;rw[Ni] at h;exact⟨by simpa using h.1,by simpa using h.2⟩
theorem Sit.slot(S:Sit tb k X E s){i:Nat}(h:M.slot s x=some i):X.N[i]?=some x/\pH X.env.scope x/\gq x/\uR x:=by
 obtain⟨h1,h2⟩:=aj h;rw[Ni] at h1;obtain⟨j,D,F⟩:=kB h2;obtain rfl:i=j:=by lia
 exact⟨by rw[S.n];exact F,S.vs x h1.1,(mX h1.2).1,(mX h1.2).2⟩
theorem Sit.eY(S:Sit tb k X E s){i:Nat}(h:M.eY s x=some i):X.N[i]?=some x/\Loc X.env.scope x/\gq x/\(X.fn x=true\/X.env.scope.names.lookup x=some .local):=by
 obtain⟨h1,h2⟩:=aj h;rw[Ni] at h1;obtain⟨j,D,F⟩:=kB h2;obtain rfl:i=j:=by lia
 exact⟨by rw[S.n];exact F,S.lo x h1.1,(mX h1.2).1,S.fx x h1.1⟩
theorem Sit.glob(S:Sit tb k X E s)(h:pT s x=true):Gl X x/\gq x:=by unfold pT nB at h;rw[Ni,beq_iff_eq] at h;exact⟨S.gl x h.1,(mX h.2).1⟩
end
noncomputable def notStar:Expr->Bool
 | .Starred _ _=>false
 |_=>true
variable{e:Expr}
theorem aD(h:notStar e=true)(es:List Expr)(env:Env):starEach (e::es) env=(false,eval e env)::starEach es env:=by cases e<;>first|rfl|cases h
theorem jy{env:Env}{pos:Pos}:∀{es:List Expr},es.all notStar=true->(backTo pos (starEach es env)).any (·.1)=false
 |[],_=>rfl
 |e::es,h=>by rw[Pp,Ni] at h;rw[aD h.1];show (false || (backTo pos (starEach es env)).any (·.1))=false;rw[jy h.2];rfl
noncomputable def gQ:Expr->Bool
 | .ListComp _ _ _ _=>false
 | .SetComp _ _ _ _=>false
 | .DictComp _ _ _ _ _=>false
 |_=>true
theorem fL(h:gQ e=true)(t:Option Expr)(l:Nat)(env:Env):swapsWith e t l env=pure false:=by cases e<;>first|rfl|cases h
noncomputable def ie:Expr->Bool
 | .Set _ _ _=>false
 |_=>true
theorem ju(h:ie e=true)(env:Env)(x:Value):foldedSetIterable e env x=pure x:=by cases e<;>first|rfl|cases h
noncomputable def plainT:Expr->Bool
 | .UnaryOp _ _ _=>false
 | .BoolOp _ _ _=>false
 | .IfExp _ _ _ _=>false
 | .Compare _ _ _ _=>false
 |_=>true
theorem qk(h:plainT e=true)(env:Env):∀z,isTrue e env z=(do let v <- z;standAt e.pos;holding [v] (truthy v)):=by intro z;cases e<;>first|rfl|cases h
noncomputable def fv:Expr->Bool
 | .Slice _ _ _ _=>false
 |_=>true
theorem rg(h:fv e=true):my e:=by intro o i;cases e<;>first|rfl|cases h
variable{op:CmpOp}
theorem gH(h:ie e=true):behindInMarks op e=false:=by cases e<;>first|rfl|cases h
theorem tT{env:Env}:∀es:List Expr,(assignEach es env).length=es.length
 |[]=>rfl
 |e::es=>by cases e<;>(show (_::assignEach es env).length=_;rw[NM,NM,tT es])
theorem oP{env:Env}:∀es:List Expr,es.all notStar=true->(assignEach es env).findIdx? (·.1)=none
 |[],_=>rfl
 |e::es,h=>by
  rw[Pp,Ni] at h;have j:=oP (env:=env) es h.2;have D:assignEach (e::es) env=(false,assign e env)::assignEach es env:=by cases e<;>first|rfl|cases h.1
  rw[D,List.findIdx?_cons];simp[j]
variable{env:Env}
theorem xb{es:List Expr}(h:notStar e=true):(assignEach (e::es) env).map (·.2)=assign e env::(assignEach es env).map (·.2):=by cases e<;>first|rfl|cases h
variable{b:Expr}{m:Mi Rr}{pos p:Pos}{f:Str}
section
variable{tb:Tb}{k:Nat}{X:Cx}{E:XK}{s:Sc}
def vB(F:Expr->Option (Mi Rr)):List Expr->Option (Mi (List Rr))
 |[]=>some cM
 |e::es=>cI (notStar e) (ah (F e) λm=>ah (vB F es) λn=>some (gT m n))
def FD(F G:Expr->Option (Mi Rr)):List Expr->List Bool->Option (Mi (List Rr))
 |[],_=>some cM
 |e::es,b::bs=>cI (notStar e) (ah (match b with|true=>F e|false=>G e) λm=>ah (FD F G es bs) λn=>some (gT m n))
 |_::_,[]=>none
def NL(m:Mi (List Rr))(n:Nat):Prop:=∀Z rs O,m Z=some (.ok rs,O)->rs.length=n
theorem i9{F:Expr->Option (Mi Rr)}(h:∀e m,F e=some m->JE X E e m):∀{es:List Expr}{m:Mi (List Rr)},vB F es=some m->JA X E es m/\NL m es.length/\es.all notStar=true
 |[],m,e=>by cases e;exact⟨pJ,qj,rfl⟩
 |a::es,m,e=>by obtain⟨h1,e⟩:=aj e;obtain⟨r,D,e⟩:=ae e;obtain⟨N,t,e⟩:=ae e;cases e;obtain⟨P,J,z⟩:=i9 h t;exact⟨mP (h _ _ D) P (aD h1 _ _),mG J,by rw[Pp,h1,z];rfl⟩
theorem sQ{F G:Expr->Option (Mi Rr)}(h:∀e m,F e=some m->JE X E e m)(g:∀e m,G e=some m->JE X E e m):∀{es:List Expr}{bs:List Bool}{m:Mi (List Rr)},FD F G es bs=some m->JA X E es m/\NL m es.length/\es.all notStar=true
 |[],_,m,e=>by cases e;exact⟨pJ,qj,rfl⟩
 |_::_,[],m,e=>by cases e
 |a::es,b::bs,m,e=>by
  obtain⟨h1,e⟩:=aj e;obtain⟨r,D,e⟩:=ae e;obtain⟨N,t,e⟩:=ae e;cases e;obtain⟨P,J,z⟩:=sQ h g t;refine⟨mP ?_ P (aD h1 _ _),mG J,by rw[Pp,h1,z];rfl⟩;cases b
  .exact g _ _ D
  .exact h _ _ D
def LD(op:BoolOp)(F:Expr->Option (Mi Rr)):List Expr->Option (Mi Rr)
 |[]=>none
 |[a]=>F a
 |a::b::r=>ah (F a) λm=>ah (LD op F (b::r)) λn=>(match op with | .And=>some (nX m n) | .Or=>none)
theorem xr{op:BoolOp}{F:Expr->Option (Mi Rr)}{pos:Pos}(h:∀e m,F e=some m->JE X E e m):∀{es:List Expr}{m:Mi Rr},LD op F es=some m->JE X E (.BoolOp op es pos) m
 |[],m,e=>by cases e
 |[a],m,e=>EZ (h _ _ e)
 |a::b::r,m,e=>by
  obtain⟨J,D,e⟩:=ae e;obtain⟨N,t,e⟩:=ae e;have i:=xr (pos:=pos) h t;cases op
  .cases e;exact E3 (h _ _ D) i
  .cases e
def Km(op:BoolOp)(F:Expr->Option (Mi Bool)):List Expr->Option (Mi Bool)
 |[]=>none
 |[a]=>F a
 |a::b::r=>ah (F a) λm=>ah (Km op F (b::r)) λn=>some (match op with | .And=>oU m n | .Or=>zE m n)
theorem wy{op:BoolOp}{F:Expr->Option (Mi Bool)}{pos:Pos}(h:∀e m,F e=some m->JT X E e m):∀{es:List Expr}{m:Mi Bool},Km op F es=some m->JW X E (.BoolOp op es pos) m
 |[],m,e=>by cases e
 |[a],m,e=>by cases op;exact Bl (h _ _ e);exact Ea (h _ _ e)
 |a::b::r,m,e=>by
  obtain⟨J,D,e⟩:=ae e;obtain⟨N,t,e⟩:=ae e;have i:=wy (pos:=pos) h t;cases op
  .cases e;exact ET (h _ _ D) i
  .cases e;exact HR (h _ _ D) i
def L4(s:Sc)(op:CmpOp)(a b:Expr)(m n:Mi Rr):Option (Mi Rr):=match op with
 | .Eq=>cI (!s.hd) (some (ay dg m n))
 | .NotEq=>cI (!s.hd) (some (ay iJ m n))
 | .Lt=>some (ay wx m n)
 | .Gt=>some (ay Gk m n)
 | .GtE=>some (ay Hk m n)
 | .In=>cI (!s.hd&&ie b) (some (ay (dS false) m n))
 | .NotIn=>cI (!s.hd&&ie b) (some (ay (dS true) m n))
 |_=>none
theorem Fy(S:Sit tb k X E s){a:Expr}{n q:Mi Rr}(h:L4 s op a b m n=some q)(ha:JE X E a m)(hb:JE X E b n):JE X E (.Compare a [op] [b] pos) q/\JT X E (.Compare a [op] [b] pos) (au q):=by
 cases op
 case Eq=>obtain⟨h1,h⟩:=aj h;have B:=(S.rm (by simpa using h1)).units;cases h;exact⟨HX B ha hb,IH B ha hb⟩
 case NotEq=>obtain⟨h1,h⟩:=aj h;have B:=(S.rm (by simpa using h1)).units;cases h;exact⟨Je B ha hb,Hy B ha hb⟩
 case Lt=>cases h;exact⟨Ir ha hb,IS ha hb⟩
 case LtE=>cases h
 case Gt=>cases h;exact⟨Hu ha hb,Hw ha hb⟩
 case GtE=>cases h;exact⟨JY ha hb,HQ ha hb⟩
 case Is=>cases h
 case IsNot=>cases h
 case In=>obtain⟨h1,h⟩:=aj h;rw[Ni] at h1;have B:=EM (S.rm (by simpa using h1.1)).units;cases h;exact⟨gB B m9 ha hb (gH h1.2),gx B m9 ha hb (gH h1.2)⟩
 case NotIn=>obtain⟨h1,h⟩:=aj h;rw[Ni] at h1;have B:=uE (S.rm (by simpa using h1.1)).units;cases h;exact⟨gB B m9 ha hb (gH h1.2),gx B m9 ha hb (gH h1.2)⟩
def Li(f:Str):Option (A->Option Rr):=
 if f==("len" : Str) then some bY else if f==("abs" : Str) then some wZ else if f==("int" : Str) then some Az else if f==("list" : Str) then some rP else none
theorem bC(S:Sit tb k X E s)(h:zY.contains x=true):X.mg x=none:=S.gd.bl x (Rv.mp h)
theorem DF(S:Sit tb k X E s){g:A->Option Rr}{a:Expr}(h:Li f=some g)(j:pT s f=true)(V:s.hd=false)(hs:notStar a=true)(ha:JE X E a m):JE X E (.Call (.Name f p) [a] [] pos) (cU g m):=by
 obtain⟨i,b⟩:=S.glob j;have hc:=S.cm V;have h1:=aD hs [] X.env;have h2:(backTo pos (starEach [] X.env)).any (·.1)=false:=rfl;unfold Li at h;split at h
 .rename_i z;rw[beq_iff_eq] at z;subst z;cases h;exact vE yw Fv i (bC S (by decide +kernel)) Ew ha (by decide +kernel) b h1 h2
 split at h
 .rename_i z;rw[beq_iff_eq] at z;subst z;cases h;exact vE zv Gm i (bC S (by decide +kernel)) G6 ha (by decide +kernel) b h1 h2
 split at h
 .rename_i z;rw[beq_iff_eq] at z;subst z;cases h;exact CB ub D6 i (bC S (by decide +kernel)) xo ha (by decide +kernel) b h1 h2
 split at h
 .rename_i z;rw[beq_iff_eq] at z;subst z;cases h;exact CB mf Ah i (bC S (by decide +kernel)) rW ha (by decide +kernel) b h1 h2
 .cases h
def J8(f:Str):Option (A->A->Option Rr):=if f==("max" : Str) then some B6 else if f==("min" : Str) then some AU else none
theorem wt(S:Sit tb k X E s){g:A->A->Option Rr}{a:Expr}{n:Mi Rr}(h:J8 f=some g)(j:pT s f=true)(V:s.hd=false)(hs:notStar a=true)(y:notStar b=true)(ha:JE X E a m)(hb:JE X E b n):JE X E (.Call (.Name f p) [a,b] [] pos) (Cr g m n):=by
 obtain⟨i,Z⟩:=S.glob j;have hc:=S.cm V;have h1:=aD hs [b] X.env;have h3:=aD y [] X.env;have h2:(backTo pos (starEach [b] X.env)).any (·.1)=false:=jy (by rw[Pp,y];rfl);unfold J8 at h;split at h
 .rename_i z;rw[beq_iff_eq] at z;subst z;cases h;exact Dj (uF hc) EX i (bC S (by decide +kernel)) Ex ha hb (by decide +kernel) Z h1 h3 h2
 split at h
 .rename_i z;rw[beq_iff_eq] at z;subst z;cases h;exact Dj (uX hc) DV i (bC S (by decide +kernel)) xf ha hb (by decide +kernel) Z h1 h3 h2
 .cases h
noncomputable def K4(x:Str):Option Ty:=if x==("int" : Str) then some .int else if x==("bool" : Str) then some .bool else if x==("str" : Str) then some .str else if x==("tuple" : Str) then some .tuple else if x==("list" : Str) then some .list else if x==("dict" : Str) then some .dict else none
theorem Gz{T:Ty}(h:K4 x=some T):bootBuiltins x=some (.type T.n)/\zY.contains x=true/\x ≠ "__name__" := by
 unfold K4 at h;split at h
 .rename_i z;rw[beq_iff_eq] at z;subst z;cases h;exact⟨xo,by decide +kernel,by decide +kernel⟩
 split at h
 .rename_i z;rw[beq_iff_eq] at z;subst z;cases h;exact⟨Aq,by decide +kernel,by decide +kernel⟩
 split at h
 .rename_i z;rw[beq_iff_eq] at z;subst z;cases h;exact⟨DK,by decide +kernel,by decide +kernel⟩
 split at h
 .rename_i z;rw[beq_iff_eq] at z;subst z;cases h;exact⟨xm,by decide +kernel,by decide +kernel⟩
 split at h
 .rename_i z;rw[beq_iff_eq] at z;subst z;cases h;exact⟨rW,by decide +kernel,by decide +kernel⟩
 split at h
 .rename_i z;rw[beq_iff_eq] at z;subst z;cases h;exact⟨Ca,by decide +kernel,by decide +kernel⟩
 .cases h
end
structure Tr where
 E:Sc->Expr->Option (Mi Rr)
 T:Sc->Expr->Option (Mi Bool)
 I:Sc->Expr->Expr->Option (Mi (List A))
structure bP(tb:Tb)(k:Nat)(r:Tr):Prop where
 E:∀{X E s e m},Sit tb k X E s->r.E s e=some m->JE X E e m
 T:∀{X E s e m},Sit tb k X E s->r.T s e=some m->JT X E e m
 I:∀{X E s tg e m},Sit tb k X E s->r.I s tg e=some m->JI X E tg e m
def Au(s:Sc)(lo:Nat):Nat->Expr->Option Mg
 |0,_=>none
 |d+1,.Name x _=>ah (eY s x) λi=>cI (TL lo i) (some (aJ i))
 |d+1,.Tuple es _ _=>cI (!s.hd) (ah (trGs (Au s lo d) es) λgs=>some (kY es.length gs))
 |_+1,_=>none
where trGs (F:Expr->Option Mg):List Expr->Option zH
 |[]=>some oW
 |e::es=>cI (notStar e) (ah (F e) λg=>ah (trGs F es) λgs=>some (ed g gs))
variable{r:Tr}{tg:Expr}
section
variable{tb:Tb}{k:Nat}{X:Cx}{E:XK}{s:Sc}
theorem rO{lo:Nat}{F:Expr->Option Mg}(h:∀e g,F e=some g->JG X lo e g):∀{es:List Expr}{gs:zH},Au.trGs F es=some gs->Hx X lo es gs/\es.all notStar=true
 |[],gs,e=>by cases e;exact⟨AD,rfl⟩
 |a::es,gs,e=>by obtain⟨h1,e⟩:=aj e;obtain⟨g,D,e⟩:=ae e;obtain⟨b,t,e⟩:=ae e;cases e;obtain⟨P,J⟩:=rO h t;exact⟨zB (h _ _ D) P (λx y=>yn x y (xb h1)),by rw[Pp,h1,J];rfl⟩
theorem lX(S:Sit tb k X E s){lo:Nat}:∀{d:Nat}{e:Expr}{g:Mg},Au s lo d e=some g->JG X lo e g
 |0,e,g,h=>by cases h
 |d+1,e,g,h=>by
  unfold Au at h;split at h
  .rename_i a;cases a
  .rename_i a;cases a;obtain⟨i,D,h⟩:=ae h;obtain⟨h1,h⟩:=aj h;cases h;obtain⟨x,Y,G,o⟩:=S.eY D;exact Bh (by rw[S.n];exact S.nd) x Y (RB h1) o
  .rename_i a;cases a;obtain⟨w,h⟩:=aj h;obtain⟨gs,D,h⟩:=ae h;cases h;obtain⟨P,J⟩:=rO (λe g h=>lX S h) D;have hc:=S.cm (by simpa using w);exact Fe hc P (tT _) (oP _ J)
  .cases h
noncomputable def LS:Expr->Bool
 | .Name _ _=>true
 |_=>false
def D8(r:Tr)(s:Sc)(tg:Expr):Expr->Option (Mi (List A))
 | .Call (.Name f p) [a] [] pos=>match f==("range" : Str) with
  |true=>cI (pT s f&&notStar a) (ah (r.E s a) λm=>some (cb m))
  |false=>ah (r.E s (.Call (.Name f p) [a] [] pos)) λm=>some (cj m)
 | .Call (.Name f p) [a,b] [] pos=>match f==("range" : Str) with
  |true=>cI (pT s f&&notStar a&&notStar b) (ah (r.E s a) λm=>ah (r.E s b) λn=>some (f9 m n))
  |false=>ah (r.E s (.Call (.Name f p) [a,b] [] pos)) λm=>some (cj m)
 |e=>ah (r.E s e) λm=>some (cj m)
theorem BL(R:bP tb k r)(S:Sit tb k X E s){m:Mi (List A)}(h:D8 r s tg e=some m):JI X E tg e m:=by
 unfold D8 at h;split at h
 .split at h
  .rename_i z;rw[beq_iff_eq] at z;subst z;obtain⟨h1,h⟩:=aj h;rw[Ni] at h1;obtain⟨J,D,h⟩:=ae h;cases h;exact AB (S.glob h1.1).1 (bC S (by decide +kernel)) (R.E S D) (aD h1.2 _ _) (aD h1.2 _ _)
  .obtain⟨J,D,h⟩:=ae h;cases h;exact qc (R.E S D)
 .split at h
  .rename_i z;rw[beq_iff_eq] at z;subst z;obtain⟨h1,h⟩:=aj h;rw[Ni,Ni] at h1;obtain⟨J,D,h⟩:=ae h;obtain⟨N,F,h⟩:=ae h;cases h;have V:=aD h1.1.2;have y:=aD h1.2;exact Bx (S.glob h1.1.1).1 (bC S (by decide +kernel)) (R.E S D) (R.E S F) (by rw[V,y];rfl) (by rw[y];rfl) (V _ _) (y _ _)
  .obtain⟨J,D,h⟩:=ae h;cases h;exact qc (R.E S D)
 .obtain⟨J,D,h⟩:=ae h;cases h;exact qc (R.E S D)
noncomputable def pG{α:Type}(a b:Option α):Option α:=match a with
 |some x=>some x
 |none=>b
theorem ba{a b:Option α}{x:α}(h:pG a b=some x):a=some x\/b=some x:=by
 cases a with
 |none=>exact .inr h
 |some y=>exact .inl h
def KQ(r:Tr)(s:Sc)(tg e:Expr):Option (Mi (List A)):=pG (r.I s tg e) (D8 r s tg e)
theorem xx(R:bP tb k r)(S:Sit tb k X E s){m:Mi (List A)}(h:KQ r s tg e=some m):JI X E tg e m:=by
 rcases ba h with h|h
 .exact R.I S h
 .exact BL R S h
noncomputable def Mt:Nat->Expr->List Str
 |0,_=>[]
 |_+1,.Name x _=>[x]
 |d+1,.Tuple es _ _=>es.flatMap (Mt d)
 |_+1,_=>[]
noncomputable def KG(N own:List Str):List Str:=N.map (λn=>if own.contains n then n++(" (of the def)" : Str) else n)++own
noncomputable def xa(s:Sc)(N:List Str)(own:Nat)(sc:Scope):Bool:=
 sc.kind==.function&&sc.names.all (λy=>y.2 != .cell)&&sc.names.all (λy=>y.2 != .local || sc.names.lookup y.1==some .local)&&N.length==s.N.length+own&&decide N.Nodup &&
 ((N.take s.N.length).zip s.N).all (λp=>p.1==p.2 || sc.names.lookup p.1==none)&&(N.take s.N.length).all (λn=>sc.names.lookup n != some .local)&&sc.names.all (λy=>y.2 != .free || s.nm.lookup y.1==some .cell)
noncomputable def xU(s:Sc)(N:List Str)(sc:Scope):Sc:={ N:=N,nm:=sc.names,di:=s.di,ca:=[],hd:=false,lv:=s.lv }
end
variable{elt:Expr}{gs:List Comprehension}{args:List Expr}
section
variable{tb:Tb}{k:Nat}{X:Cx}{E:XK}{s:Sc}
theorem cH{α:Type}{x:Str}{v:α}:∀{l:List (Str×α)},l.lookup x=some v->(x,v)∈l
 |(y,u)::l,h=>by
  rw[OC] at h;split at h
  .rename_i e;cases h;rw[beq_iff_eq.mp e];exact Nu
  .exact Nt _ (cH h)
theorem Sit.comp(S:Sit tb k X E s){N:List Str}{sc:Scope}{own:Nat}(h:xa s N own sc=true)(V:s.hd=false):
  eG X.N N own sc X.env.scope/\∀cl C q H fp,Sit tb k (gr X N sc cl C q H fp) rX (xU s N sc):=by
 unfold xa at h;simp only[Ni,beq_iff_eq,decide_eq_true_eq,Oh,OY,bne_iff_ne,ne_eq] at h;obtain⟨⟨⟨⟨⟨⟨⟨h1,h2⟩,h3⟩,h4⟩,h5⟩,m⟩,a⟩,b⟩:=h;refine⟨⟨h1,h2,λy hy e=>?_,by rw[S.n];exact h4,h5,by rw[S.n];exact m,by rw[S.n];exact a,λy hy e=>?_⟩,λcl C q H fp=>?_⟩
 .rcases h3 y hy with z|z
  .exact absurd e z
  .exact z
 .rcases b y hy with z|z
  .exact absurd e z
  .exact .inl (S.ce _ z)
 .have loc:∀x,qW (xU s N sc) x=true->sc.names.lookup x=some .local:=λx hx=>by
   unfold qW nB xU at hx;simp only[OY,beq_iff_eq] at hx;rcases hx with z|z
   .exact z
   .exact absurd rfl (h2 _ (cH z))
  refine⟨rfl,h5,λx hx=>yZ hx,λx hx=>?_,λx hx=>.inl (fP (loc x hx)),λx hx=>fP hx,λx hx=>absurd rfl (h2 _ (cH hx)),λx hx=>.inr (fP (loc x hx)),λ_=>S.cm V,λ_=>S.rm V,λ_=>(λ_ _ _ _ _ _ _ x=>x.elim),S.gd⟩;unfold Aa nB xU at hx;simp only[OY,beq_iff_eq] at hx;rcases hx with (z|z)|z
  .exact .inl (fP z)
  .exact absurd rfl (h2 _ (cH z))
  .exact pf z
def E7(r:Tr)(s:Sc):List Expr->Option (Mi Bool)
 |[]=>some aO
 |[t]=>r.T s t
 |_=>none
def lZ(r:Tr)(s:Sc)(elt:Expr)(gs:List Comprehension)(sc:Scope):Option (Mi Rr):=match gs with
 |[g]=>
  let own:=Mt 9 g.target
  let N:=KG s.N own
  let s':=xU s N sc
  cI (!s.hd&&g.is_async==0&&ie g.iter&&xa s N own.length sc) (ah (KQ r s g.target g.iter) λx=>ah (Au s' s.N.length 9 g.target) λG=>ah (E7 r s' g.ifs) λmt=>ah (r.E s' elt) λe=>some (aP own.length x G mt e))
 |_=>none
theorem BM(R:bP tb k r)(S:Sit tb k X E s){ifs:List Expr}{m:Mi Bool}(h:E7 r s ifs=some m):JF X E ifs m:=by
 unfold E7 at h;split at h
 .cases h;exact Ej
 .exact DW (R.T S h)
 .cases h
theorem lA(R:bP tb k r)(S:Sit tb k X E s){sc:Scope}(h:lZ r s elt gs sc=some m):
  s.hd=false/\∃N own tg iter ifs b G mt e,gs=[⟨tg,iter,ifs,0⟩]/\m=aP own b G mt e/\eG X.N N own sc X.env.scope/\JI X E tg iter b/\(∀cl C q H fp,JG (gr X N sc cl C q H fp) X.N.length tg G) /\
   (∀cl C q H fp,JF (gr X N sc cl C q H fp) rX ifs mt)/\(∀cl C q H fp,JE (gr X N sc cl C q H fp) rX elt e)/\∀x,foldedSetIterable iter X.env x=pure x:=by
 unfold lZ at h;split at h
 .rename_i g;obtain⟨tg,iter,ifs,ia⟩:=g;obtain⟨w,h⟩:=aj h;simp only[Ni,beq_iff_eq,NX] at w;obtain⟨⟨⟨h1,rfl⟩,h3⟩,h4⟩:=w;obtain⟨b,D,h⟩:=ae h;obtain⟨G,F,h⟩:=ae h;obtain⟨mt,O,h⟩:=ae h;obtain⟨e,Q,h⟩:=ae h;cases h;obtain⟨a,o⟩:=S.comp h4 h1;exact⟨h1,_,_,tg,iter,ifs,b,G,mt,e,rfl,rfl,a,xx R S D,λcl C q H fp=>by rw[S.n];exact lX (o cl C q H fp) F,λcl C q H fp=>BM R (o cl C q H fp) O,λcl C q H fp=>R.E (o cl C q H fp) Q,ju h3 _⟩
 .cases h
def LI(F:Expr->Option (Mi Rr)):Option Expr->Option (Mi (Option Int))
 |none=>some bL
 |some e=>ah (F e) λm=>some (bH m)
theorem wY{F:Expr->Option (Mi Rr)}(h:∀e m,F e=some m->JE X E e m){o:Option Expr}{m:Mi (Option Int)}(e:LI F o=some m):JP X E o m:=by
 cases o with
 |none=>cases e;exact An
 |some a=>obtain⟨J,D,e⟩:=ae e;cases e;exact Cb (h _ _ D)
def wX(r:Tr)(s:Sc)(a:Expr):Expr->Option (Mi Rr)
 | .Slice lo hi none _=>ah (r.E s a) λm=>ah (LI (r.E s) lo) λH=>ah (LI (r.E s) hi) λY=>some (nC m H Y)
 |b=>cI (fv b&&!s.hd) (ah (r.E s a) λm=>ah (r.E s b) λn=>some (ay zI m n))
theorem yP(R:bP tb k r)(S:Sit tb k X E s){a:Expr}(h:wX r s a b=some m):JE X E (.Subscript a b pos) m:=by
 unfold wX at h;split at h
 .obtain⟨J,D,h⟩:=ae h;obtain⟨N,F,h⟩:=ae h;obtain⟨B,O,h⟩:=ae h;cases h;exact Ho (R.E S D) (wY (λ_ _=>R.E S) F) (wY (λ_ _=>R.E S) O)
 .obtain⟨w,h⟩:=aj h;simp only[Ni,NX] at w;obtain⟨J,D,h⟩:=ae h;obtain⟨N,F,h⟩:=ae h;cases h;exact GN (R.E S D) (R.E S F) (rg w.1)
noncomputable def M6(f:Str):Bool:=match f.cps[0]? with
 |some c=>TL 65 c&&TL c 90
 |none=>false
def EK:Expr->Bool
 | .ListComp _ _ _ _=>true
 | .List _ _=>true
 | .Dict _ _ _=>true
 | .BinOp _ .Add _ _=>true
 | .Subscript _ (.Slice _ _ _ _) _=>true
 | .Call (.Name f _) _ _ _=>f==("list" : Str) || f==("sorted" : Str) || f==("dict" : Str) || M6 f
 | .Call (.Attribute _ _ _) _ _ _=>true
 |_=>false
def K5(r:Tr)(s:Sc)(e:Expr):Option (Mi Rr):=match e with
 | .Name x _=>match s.lv.contains x with
  |true=>r.E s e
  |false=>match slot s x with
   |some i=>some (aZ i)
   |none=>r.E s e
 |e=>match EK e with
  |true=>ah (r.E s e) λm=>some (lL m)
  |false=>r.E s e
theorem DR(R:bP tb k r)(S:Sit tb k X E s)(h:K5 r s e=some m):JE X E e m:=by
 unfold K5 at h;split at h
 .split at h
  .exact R.E S h
  split at h
  .rename_i D;cases h;obtain⟨x,Y,G,a⟩:=S.slot D;exact Bc x Y G a
  .exact R.E S h
 .split at h
  .obtain⟨J,D,h⟩:=ae h;cases h;exact Dn (R.E S D)
  .exact R.E S h
noncomputable def m5(s:Sc):Nat->List Expr->List Bool->List Nat
 |j,.Name x _::es,false::bs=>match s.lv.contains x with
  |true=>j::m5 s (j+1) es bs
  |false=>m5 s (j+1) es bs
 |j,_::es,_::bs=>m5 s (j+1) es bs
 |_,_,_=>[]
def ll:List Nat->Ms->Ms
 |[],m=>m
 |j::js,m=>iO j (ll js m)
theorem nu.ll{K:Kx}{n:Nat}{m:Ms}{vs:List V}{H:Hp}{Q:VK}{E:XK}:∀{i:List Nat},nu K n (M.ll i m) vs H Q E->nu K n m vs H Q E
 |[],h=>h
 |_::_,h=>nu.ll (nu.lend h)
def Fs(tb:Tb)(r:Tr)(s:Sc)(fi:FI)(args:List Expr):Option (Mi (List Rr)):=cI (args.length+(yG fi args.length).length==fi.n) (FD (r.E s) (K5 r s) args fi.mu)
def CG(tb:Tb)(r:Tr)(s:Sc)(a:Expr)(x:Str):Option (Mi Rr):=match K4 x with
 |some T=>ah (r.E s a) λm=>some (cU (jW T) m)
 |none=>none
def yU(tb:Tb)(r:Tr)(s:Sc)(f:Str)(args:List Expr):Option (Mi Rr):=cI (pT s f) (match tb.fns.lookup f with
 |some fi=>match args with
  |[]=>none
  |a::as=>match s.hd with
   |true=>none
   |false=>ah (Fs tb r s fi (a::as)) λm=>some (lV (ll (m5 s 0 (a::as) fi.mu) fi.m) (yG fi (a::as).length) m)
 |none=>match args with
  |[a]=>cI (notStar a&&!s.hd) (ah (Li f) λg=>ah (r.E s a) λm=>some (cU g m))
  |[a,.Name x p]=>match f==("isinstance" : Str) with
   |true=>cI (notStar a&&pT s x) (CG tb r s a x)
   |false=>cI (notStar a&&!s.hd) (ah (J8 f) λg=>ah (r.E s a) λm=>ah (r.E s (.Name x p)) λn=>some (Cr g m n))
  |[a,b]=>cI (notStar a&&notStar b&&!s.hd) (ah (J8 f) λg=>ah (r.E s a) λm=>ah (r.E s b) λn=>some (Cr g m n))
  | _=>none)
theorem uD(R:bP tb k r)(S:Sit tb k X E s)(h:yU tb r s f args=some m):JE X E (.Call (.Name f p) args [] pos) m:=by
 have h':=aj h;clear h;obtain⟨j,h⟩:=h';split at h
 .rename_i fi P;split at h
  .cases h
  .rename_i a as;split at h
   .cases h
   rename_i V;obtain⟨D,G,h⟩:=ae h;cases h;obtain⟨h1,G⟩:=aj G;obtain⟨I,b,n⟩:=sQ (λ_ _=>R.E S) (λ_ _=>DR R S) G;obtain⟨H,fd,ps,F,hm,hk,hb⟩:=S.gd.fn f fi P;obtain⟨ds,dvs,o,Q,A⟩:=hb.of (a::as).length;have e:=n;rw[Pp,Ni] at e;exact Bq (F.imp λ_ _ _ _ q=>nu.ll q) (S.rm V) (S.glob j).1 hm hk o Q A (S.ps V) I (wF b (by rw[beq_iff_eq] at h1;exact h1)) (S.glob j).2 (aD e.1 _ _) (jy e.2)
 .split at h
  .obtain⟨w,h⟩:=aj h;simp only[Ni,NX] at w;obtain⟨g,G,h⟩:=ae h;obtain⟨J,t,h⟩:=ae h;cases h;exact DF S G j w.2 w.1 (R.E S t)
  .split at h
   .rename_i z;rw[beq_iff_eq] at z;subst z;obtain⟨w,h⟩:=aj h;simp only[Ni] at w;obtain⟨i,Z⟩:=S.glob j;obtain⟨u,L⟩:=S.glob w.2;unfold CG at h;split at h
    .rename_i T x;obtain⟨J,t,h⟩:=ae h;cases h;obtain⟨U,K,C⟩:=Gz x;exact D9 T i (bC S (by decide +kernel)) kG u (bC S K) U (R.E S t) (by decide +kernel) Z C L (aD w.1 _ _)
    .cases h
   .obtain⟨w,h⟩:=aj h;simp only[Ni,NX] at w;obtain⟨g,G,h⟩:=ae h;obtain⟨J,t,h⟩:=ae h;obtain⟨N,O,h⟩:=ae h;cases h;exact wt S G j w.2 w.1 rfl (R.E S t) (R.E S O)
  .obtain⟨w,h⟩:=aj h;simp only[Ni,NX] at w;obtain⟨g,G,h⟩:=ae h;obtain⟨J,t,h⟩:=ae h;obtain⟨N,O,h⟩:=ae h;cases h;exact wt S G j w.2 w.1.1 w.1.2 (R.E S t) (R.E S O)
  .cases h
end
variable{o:Expr}{apos cpos:Pos}
section
variable{tb:Tb}{k:Nat}{X:Cx}{E:XK}{s:Sc}
noncomputable def Dl(o:Expr):Bool:=match o with
 | .Call f args kw _=>match f with
  | .Name _ _=>!(args.isEmpty&&kw.isEmpty)
  |_=>true
 |_=>true
theorem jd(h:Dl o=true)(m:Str)(env:Env)(w:Sem Value):attributeBase o m env w=w:=by
 cases o with
 |Call f args e p=>cases f with
  |Name _ _=>cases args with
   |cons _ _=>rfl
   |nil=>cases e with
    |cons _ _=>rfl
    |nil=>cases h
  |_=>rfl
 |_=>rfl
theorem uU(h:notStar e=true)(cpos:Pos)(env:Env):((backTo cpos (starEach [e] env)).all (λx=>!x.1)&&(backToKw cpos (keywordEach [] env)).all (λx=>x.1.isSome)&&decide (([e]:List Expr).length+([]:List Keyword).length+(if ([]:List Keyword).isEmpty then 0 else 1)<30))=true:=by rw[aD h];rfl
def MZ(e:Expr):Option (Expr×Str×Pos×Pos):=match e with
 | .Call f args kw cpos=>match f with
  | .Attribute o m apos=>cI (args.isEmpty&&kw.isEmpty) (some (o,m,apos,cpos))
  |_=>none
 |_=>none
def u9(e:Expr):Option (Expr×Str×Pos×Expr×Pos):=match e with
 | .Call f args kw cpos=>match f with
  | .Attribute o m apos=>match args with
   |[a]=>cI (kw.isEmpty&&notStar a) (some (o,m,apos,a,cpos))
   |_=>none
  |_=>none
 |_=>none
theorem fT{a:Expr}{m:Str}(h:u9 e=some (o,m,apos,a,cpos)):e=.Call (.Attribute o m apos) [a] [] cpos/\notStar a=true:=by
 unfold u9 at h;split at h
 .rename_i f args s c;split at h
  .split at h
   .obtain⟨w,h⟩:=aj h;rw[Ni,Px] at w;cases h;rw[w.1];exact⟨rfl,w.2⟩
   .cases h
  .cases h
 .cases h
def qu(e:Expr):Option (Str×Pos×Expr×Pos):=match e with
 | .Call f args kw cpos=>match f with
  | .Name x p=>match args with
   |[a]=>cI (kw.isEmpty&&notStar a) (some (x,p,a,cpos))
   |_=>none
  |_=>none
 |_=>none
theorem dR{a:Expr}(h:qu e=some (x,p,a,cpos)):e=.Call (.Name x p) [a] [] cpos/\notStar a=true:=by
 unfold qu at h;split at h
 .rename_i f args s c;split at h
  .split at h
   .obtain⟨w,h⟩:=aj h;rw[Ni,Px] at w;cases h;rw[w.1];exact⟨rfl,w.2⟩
   .cases h
  .cases h
 .cases h
noncomputable def vx(e:Expr):Option (Str×Pos):=match e with
 | .Name x p=>some (x,p)
 |_=>none
theorem cn(h:vx e=some (x,p)):e=.Name x p:=by
 unfold vx at h;split at h
 .cases h;rfl
 .cases h
noncomputable def Lz:Expr->Bool
 | .Call _ _ _ _=>true
 |_=>false
def pq(tb:Tb)(r:Tr)(s:Sc)(e:Expr):Option (Mi Rr):=ah (qu e) λ(f,_,a,_)=>cI (pT s f&&!s.hd&&Lz a) (ah (tb.fns.lookup f) λfi=>cI (fi.mu==[true]&&1+(yG fi 1).length==fi.n) (ah (r.E s a) λm=>some (mF fi.m (yG fi 1) (gT m cM))))
theorem nE(R:bP tb k r)(S:Sit tb k X E s){q:Mi Rr}(h:pq tb r s e=some q):JE X E e q:=by obtain⟨⟨f,p,a,cpos⟩,h1,g⟩:=ae h;clear h;obtain⟨rfl,hs⟩:=dR h1;obtain⟨h2,g⟩:=aj g;simp only[Ni,NX] at h2;obtain⟨⟨j,V⟩,_⟩:=h2;obtain⟨fi,P,g⟩:=ae g;obtain⟨h3,g⟩:=aj g;rw[Ni,beq_iff_eq (a:=1+_)] at h3;obtain⟨m,D,g⟩:=ae g;cases g;obtain⟨H,fd,ps,F,hm,hk,hb⟩:=S.gd.fn f fi P;obtain⟨ds,dvs,o,Q,A⟩:=hb.of 1;exact yW F (S.rm V) (S.glob j).1 hm hk o Q A (S.ps V) (mP (R.E S D) pJ (aD hs _ _)) (wF (mG qj) h3.2) (S.glob j).2 (aD hs _ _) rfl
def rG(_:Tb)(r:Tr)(s:Sc)(e:Expr):Option (Mi Rr):=ah (qu e) λ(f,_,a,_)=>cI (f==("sorted" : Str)&&pT s f&&!s.hd) (ah (vx a) λ(x,_)=>cI (s.di.contains x&&s.lv.contains x) (ah (slot s x) λi=>some (iq i)))
theorem p8(R:bP tb k r)(S:Sit tb k X E s){q:Mi Rr}(h:rG tb r s e=some q):JE X E e q:=by obtain⟨⟨f,p,a,pos⟩,h1,g⟩:=ae h;clear h;obtain⟨rfl,hs⟩:=dR h1;obtain⟨h2,h⟩:=aj g;clear g;rw[Ni,Ni,beq_iff_eq,NX] at h2;obtain⟨⟨rfl,j⟩,V⟩:=h2;obtain⟨⟨x,n⟩,h3,b⟩:=ae h;clear h;obtain rfl:=cn h3;obtain⟨_,h⟩:=aj b;obtain⟨i,D,h⟩:=ae h;cases h;obtain⟨m,Y,G,o⟩:=S.slot D;exact vC (S.cm V) m Y G o (S.glob j).1 (bC S (by decide +kernel)) k9 (by decide +kernel) (S.glob j).2 (aD hs _ _) rfl
def kZ(_:Tb)(r:Tr)(s:Sc)(e:Expr):Option (Mi Rr):=ah (u9 e) λ(o,m,apos,a,cpos)=>cI (m==("extend" : Str)&&apos.endLine==cpos.line) (ah (vx o) λ(x,_)=>ah (slot s x) λi=>ah (r.E s a) λn=>some (cD i (fO i n)))
theorem mQ(R:bP tb k r)(S:Sit tb k X E s){q:Mi Rr}(h:kZ tb r s e=some q):JE X E e q:=by obtain⟨⟨o,m,apos,a,cpos⟩,h1,g⟩:=ae h;clear h;obtain⟨rfl,hs⟩:=fT h1;obtain⟨h2,h⟩:=aj g;rw[Ni,beq_iff_eq] at h2;obtain⟨⟨x,A⟩,h3,b⟩:=ae h;clear h;obtain rfl:=cn h3;obtain⟨i,D,h⟩:=ae b;obtain⟨n,F,h⟩:=ae h;obtain⟨f,Y,G,z⟩:=S.slot D;cases h;obtain⟨rfl,hl⟩:=h2;exact u7 f Y G z (R.E S F) rfl (uU hs _ _) hl (aD hs _ _) rfl
def oC(_:Tb)(r:Tr)(s:Sc)(e:Expr):Option (Mi Rr):=ah (u9 e) λ(o,m,apos,a,cpos)=>cI (m==("pop" : Str)&&apos.endLine==cpos.line) (ah (vx o) λ(x,_)=>ah (slot s x) λi=>ah (r.E s a) λn=>some (fA i n))
theorem nF(R:bP tb k r)(S:Sit tb k X E s){q:Mi Rr}(h:oC tb r s e=some q):JE X E e q:=by obtain⟨⟨o,m,apos,a,cpos⟩,h1,g⟩:=ae h;clear h;obtain⟨rfl,hs⟩:=fT h1;obtain⟨h2,h⟩:=aj g;rw[Ni,beq_iff_eq] at h2;obtain⟨⟨x,A⟩,h3,b⟩:=ae h;clear h;obtain rfl:=cn h3;obtain⟨i,D,h⟩:=ae b;obtain⟨n,F,h⟩:=ae h;obtain⟨f,Y,G,z⟩:=S.slot D;cases h;obtain⟨rfl,hl⟩:=h2;exact vN f Y G z (R.E S F) rfl (uU hs _ _) hl (aD hs _ _) rfl
def tH(_:Tb)(r:Tr)(s:Sc)(e:Expr):Option (Mi Rr):=ah (qu e) λ(f,_,a,_)=>cI (f==("min" : Str)&&pT s f&&!s.hd) (ah (r.E s a) λn=>some (cU jD n))
theorem pY(R:bP tb k r)(S:Sit tb k X E s){q:Mi Rr}(h:tH tb r s e=some q):JE X E e q:=by obtain⟨⟨f,p,a,cpos⟩,h1,g⟩:=ae h;clear h;obtain⟨rfl,hs⟩:=dR h1;obtain⟨h2,g⟩:=aj g;simp only[Ni,beq_iff_eq,NX] at h2;obtain⟨n,F,g⟩:=ae g;cases g;obtain⟨⟨rfl,j⟩,V⟩:=h2;exact vE (uq (S.cm V)) A8 (S.glob j).1 (bC S (by decide +kernel)) xf (R.E S F) (by decide +kernel) (S.glob j).2 (aD hs _ _) rfl
def vG(_:Tb)(r:Tr)(s:Sc)(e:Expr):Option (Mi Rr):=ah (u9 e) λ(o,m,apos,a,cpos)=>cI (m==("index" : Str)&&apos.endLine==cpos.line) (ah (vx o) λ_=>ah (r.E s o) λn=>ah (r.E s a) λq=>some (zi n q))
theorem vb(R:bP tb k r)(S:Sit tb k X E s){q:Mi Rr}(h:vG tb r s e=some q):JE X E e q:=by obtain⟨⟨o,m,apos,a,cpos⟩,h1,g⟩:=ae h;clear h;obtain⟨rfl,hs⟩:=fT h1;obtain⟨h2,h⟩:=aj g;rw[Ni,beq_iff_eq] at h2;obtain⟨⟨x,A⟩,h3,b⟩:=ae h;clear h;obtain rfl:=cn h3;obtain⟨n,D,h⟩:=ae b;obtain⟨d,F,h⟩:=ae h;cases h;obtain⟨rfl,hl⟩:=h2;exact FE (R.E S D) (R.E S F) rfl (uU hs _ _) hl (aD hs _ _) rfl
def rV(_:Tb)(r:Tr)(s:Sc)(e:Expr):Option (Mi Rr):=ah (qu e) λ(f,_,a,_)=>cI (f==("sorted" : Str)&&pT s f&&!s.hd) (ah (qu a) λ(g,_,b,_)=>cI (g==("set" : Str)&&pT s g) (ah (r.E s b) λm=>some (gu m)))
theorem qi(R:bP tb k r)(S:Sit tb k X E s){q:Mi Rr}(h:rV tb r s e=some q):JE X E e q:=by obtain⟨⟨f,p,a,pos⟩,h1,g⟩:=ae h;clear h;obtain⟨rfl,hs⟩:=dR h1;obtain⟨h2,h⟩:=aj g;clear g;rw[Ni,Ni,beq_iff_eq,NX] at h2;obtain⟨⟨rfl,j⟩,V⟩:=h2;obtain⟨⟨G,P,b,i⟩,h3,Z⟩:=ae h;clear h;obtain⟨rfl,Q⟩:=dR h3;obtain⟨h4,h⟩:=aj Z;rw[Ni,beq_iff_eq] at h4;obtain⟨rfl,J⟩:=h4;obtain⟨m,D,h⟩:=ae h;cases h;exact xF (S.cm V) (S.rm V).units (S.glob J).1 (bC S (by decide +kernel)) (S.glob j).1 (bC S (by decide +kernel)) (R.E S D) (aD Q _ _)
noncomputable def Ee:Expr->Bool
 | .Subscript _ _ _=>true
 |_=>false
def vY(_:Tb)(r:Tr)(s:Sc)(e:Expr):Option (Mi Rr):=ah (u9 e) λ(o,m,apos,a,cpos)=>cI (m==("index" : Str)&&apos.endLine==cpos.line&&Ee a) (ah (vx o) λ_=>ah (r.E s o) λn=>ah (r.E s a) λq=>some (ye oH n q))
theorem uW(R:bP tb k r)(S:Sit tb k X E s){q:Mi Rr}(h:vY tb r s e=some q):JE X E e q:=by obtain⟨⟨o,m,apos,a,cpos⟩,h1,g⟩:=ae h;clear h;obtain⟨rfl,hs⟩:=fT h1;obtain⟨h2,h⟩:=aj g;rw[Ni,Ni,beq_iff_eq] at h2;obtain⟨⟨x,A⟩,h3,b⟩:=ae h;clear h;obtain rfl:=cn h3;obtain⟨n,D,h⟩:=ae b;obtain⟨d,t,h⟩:=ae h;cases h;obtain⟨⟨rfl,hl⟩,_⟩:=h2;exact vP (R.E S D) (R.E S t) (λx y=>n8 S6 PySem.F.slot_str_index PySem.F.type_str_index Ek x (bb y bZ (aD hs _ _)) rfl (uU hs _ _) hl (aD hs _ _) rfl)
def xP(tb:Tb)(r:Tr)(s:Sc)(e:Expr):Option (Mi Rr):=pG (pq tb r s e) (pG (rG tb r s e) (pG (rV tb r s e) (pG (vY tb r s e) (none))))
theorem J0(R:bP tb k r)(S:Sit tb k X E s)(h:xP tb r s e=some m):JE X E e m:=by
 rcases ba h with h|h
 .exact nE R S h
 rcases ba h with h|h
 .exact p8 R S h
 rcases ba h with h|h
 .exact qi R S h
 rcases ba h with h|h
 .exact uW R S h
 cases h
def xE(tb:Tb)(r:Tr)(s:Sc)(e:Expr):Option (Mi Rr):=pG (kZ tb r s e) (pG (oC tb r s e) (pG (tH tb r s e) (pG (vG tb r s e) (none))))
theorem Jg(R:bP tb k r)(S:Sit tb k X E s)(h:xE tb r s e=some m):JE X E e m:=by
 rcases ba h with h|h
 .exact mQ R S h
 rcases ba h with h|h
 .exact nF R S h
 rcases ba h with h|h
 .exact pY R S h
 rcases ba h with h|h
 .exact vb R S h
 cases h
noncomputable def xT(tb:Tb)(r:Tr)(s:Sc)(e:Expr):Option (Mi Bool):=none
theorem JZ(R:bP tb k r)(S:Sit tb k X E s){m:Mi Bool}(h:xT tb r s e=some m):JT X E e m:=by cases h
noncomputable def xI(tb:Tb)(r:Tr)(s:Sc)(tg e:Expr):Option (Mi (List A)):=none
theorem Iz(R:bP tb k r)(S:Sit tb k X E s){m:Mi (List A)}(h:xI tb r s tg e=some m):JI X E tg e m:=by cases h
end
section
variable{tb:Tb}{k:Nat}{X:Cx}{E:XK}{s:Sc}
def Ic(s:Sc)(o:Expr)(m:Str):Option (Mi Rr):=match o with
 | .Name x _=>ah (slot s x) λi=>if m==("clear" : Str) then some (gD i) else if m==("pop" : Str) then some (qH i) else none
 |_=>none
def Jj(r:Tr)(s:Sc)(o:Expr)(m:Str)(e:Expr):Option (Mi Rr):=
 if m==("append" : Str) then (match o with
  | .Name x _=>ah (slot s x) λi=>ah (r.E s e) λn=>some (cD i (bw i n))
  | _=>none)
 else if m==("join" : Str) then ah (r.E s o) λa=>ah (r.E s e) λn=>some (ye gh a n)
 else none
def yQ(tb:Tb)(r:Tr)(s:Sc)(o:Expr)(m:Str)(apos:Pos)(args:List Expr)(cpos:Pos):Option (Mi Rr):=cI (apos.endLine==cpos.line&&Dl o) (match args with
 |[]=>Ic s o m
 |[e]=>cI (notStar e) (Jj r s o m e)
 | _=>none)
theorem vf(R:bP tb k r)(S:Sit tb k X E s){Q:Str}(h:yQ tb r s o Q apos args cpos=some m):JE X E (.Call (.Attribute o Q apos) args [] cpos) m:=by
 have h':=aj h;clear h;obtain⟨w,h⟩:=h';rw[Ni] at w;split at h
 .unfold Ic at h;split at h
  .obtain⟨i,D,h⟩:=ae h;obtain⟨f,Y,G,e⟩:=S.slot D;split at h
   .rename_i z;rw[beq_iff_eq] at z;cases h;subst z;exact yY f Y G e rfl w.1
   .split at h
    .rename_i z;rw[beq_iff_eq] at z;cases h;subst z;exact Ez f Y G e rfl w.1
    .cases h
  .cases h
 .have h':=aj h;clear h;obtain⟨hs,h⟩:=h';unfold Jj at h;split at h
  .rename_i z;rw[beq_iff_eq] at z;split at h
   .obtain⟨i,D,h⟩:=ae h;obtain⟨n,t,h⟩:=ae h;obtain⟨f,Y,G,e⟩:=S.slot D;cases h;subst z;exact uN f Y G e (R.E S t) rfl (uU hs _ _) w.1 (aD hs _ _) rfl
   .cases h
  .split at h
   .rename_i z;rw[beq_iff_eq] at z;obtain⟨a,D,h⟩:=ae h;obtain⟨n,t,h⟩:=ae h;cases h;subst z;exact BW (R.E S D) (R.E S t) (λx y=>n8 S6 PySem.F.slot_str_join PySem.F.type_str_join wk x (bb y bZ (aD hs _ _)) (jd w.2 _ _ _) (uU hs _ _) w.1 (aD hs _ _) rfl)
   .cases h
 .cases h
def stK:Const->Option (Mi Rr)
 | .none=>some (mC .non)
 | .bool b=>some (mC (.bl b))
 | .int i=>some (mC (.int i))
 | .str x=>some (mC (.str x))
 |_=>none
def JU(m n:Mi Rr):Operator->Option (Mi Rr)
 | .Add=>some (ay aB m n)
 | .Sub=>some (ay kD m n)
 | .Mult=>some (ay dq m n)
 | .FloorDiv=>some (ay kE m n)
 | .Mod=>some (ay fC m n)
 | .Pow=>some (ay ix m n)
 |_=>none
theorem AF{a:Expr}{n q:Mi Rr}{op:Operator}(h:JU m n op=some q)(ha:JE X E a m)(hb:JE X E b n):JE X E (.BinOp a op b pos) q:=by
 cases op<;>first|(cases h;done)|skip
 .cases h;exact AW ha hb
 .cases h;exact DG ha hb
 .cases h;exact Eo ha hb
 .cases h;exact GL ha hb
 .cases h;exact Fg ha hb
 .cases h;exact GU ha hb
def rH(r:Tr)(s:Sc)(a:Expr)(ops:List CmpOp)(bs:List Expr):Option (Mi Rr):=match ops,bs with
 |[op],[b]=>ah (r.E s a) λm=>ah (r.E s b) λn=>L4 s op a b m n
 |_,_=>none
theorem n9(R:bP tb k r)(S:Sit tb k X E s){a:Expr}{ops:List CmpOp}{bs:List Expr}(h:rH r s a ops bs=some m):JE X E (.Compare a ops bs pos) m/\JT X E (.Compare a ops bs pos) (au m):=by
 unfold rH at h;split at h
 .obtain⟨J,D,h⟩:=ae h;obtain⟨N,F,h⟩:=ae h;exact Fy S h (R.E S D) (R.E S F)
 .cases h
def Ed(tb:Tb)(r:Tr)(s:Sc)(f:Expr)(args:List Expr)(e:List Keyword)(cpos:Pos):Option (Mi Rr):=match e with
 |[]=>match f with
  | .Name f _=>yU tb r s f args
  | .Attribute o m apos=>yQ tb r s o m apos args cpos
  |_=>none
 |_::_=>none
theorem Be(R:bP tb k r)(S:Sit tb k X E s){f:Expr}{e:List Keyword}(h:Ed tb r s f args e pos=some m):JE X E (.Call f args e pos) m:=by
 unfold Ed at h;split at h
 .split at h
  .exact uD R S h
  .exact vf R S h
  .cases h
 .cases h
def Me(tb:Tb)(r:Tr)(s:Sc):Expr->Option (Mi Rr)
 | .Name x _=>match slot s x with
  |some i=>some (af i)
  |none=>ah (tb.cst.lookup x) λa=>cI (pT s x) (some (mC a))
 | .Constant c _ _=>stK c
 | .BinOp a op b _=>ah (r.E s a) λm=>ah (r.E s b) λn=>JU m n op
 | .UnaryOp op a _=>match op with
  | .USub=>ah (r.E s a) λm=>some (oZ hE m)
  | .Not=>ah (r.E s a) λm=>some (tG m)
  |_=>none
 | .BoolOp op vs _=>LD op (r.E s) vs
 | .Compare a ops bs _=>rH r s a ops bs
 | .Tuple es _ _=>ah (vB (r.E s) es) λm=>some (bR m)
 | .List es _=>ah (vB (r.E s) es) λm=>some (cX m)
 | .Subscript a b _=>wX r s a b
 | .Call f args kw cpos=>Ed tb r s f args kw cpos
 | .ListComp elt gs sc _=>lZ r s elt gs sc
 |_=>none
theorem EV(R:bP tb k r)(S:Sit tb k X E s)(h:Me tb r s e=some m):JE X E e m:=by
 cases e with
 |Name x _=>
  have h:(match slot s x with
   |some i=>some (af i)
   | none=>ah (tb.cst.lookup x) λa=>cI (pT s x) (some (mC a)))=some m:=h
  split at h
  .rename_i D;cases h;obtain⟨n,Y,o,z⟩:=S.slot D;exact Ec n Y o z
  .obtain⟨a,D,h⟩:=ae h;obtain⟨j,h⟩:=aj h;cases h;obtain⟨v,u,h1,h2,h3⟩:=S.gd.cs _ _ D;exact BX (S.glob j).1 h1 h2 h3 (S.glob j).2
 |Constant c _ _=>
  cases c<;>first|(cases h;done)|skip
  .cases h;exact Dz
  .cases h;exact Hv
  .cases h;exact FQ
  .cases h;exact DH
 |BinOp a op b _=>obtain⟨J,D,h⟩:=ae h;obtain⟨y,F,h⟩:=ae h;exact AF h (R.E S D) (R.E S F)
 |UnaryOp op a _=>
  cases op<;>first|(cases h;done)|skip
  .obtain⟨J,D,h⟩:=ae h;cases h;exact Es (R.E S D)
  .obtain⟨J,D,h⟩:=ae h;cases h;exact GF (R.E S D)
 |BoolOp op vs _=>exact xr (λ_ _=>R.E S) h
 |Compare a ops bs _=>exact(n9 R S h).1
 |Tuple es _ _=>obtain⟨J,D,h⟩:=ae h;cases h;exact El (i9 (λ_ _=>R.E S) D).1
 |List es _=>obtain⟨J,D,h⟩:=ae h;cases h;exact E9 (i9 (λ_ _=>R.E S) D).1
 |Dict ks vs _=>cases h
 |Subscript a b _=>exact yP R S h
 |Call f args I cpos=>exact Be R S h
 |ListComp elt gs sc _=>obtain⟨V,N,own,tg,iter,ifs,d,G,mt,H,rfl,rfl,Q,U,p,K,A,q⟩:=lA R S h;exact BZ (S.cm V) Q rfl U p K A q
 |JoinedStr es _=>cases h
 |_=>cases h
def Gg(r:Tr)(s:Sc):Expr->Option (Mi Bool)
 | .Compare a ops bs _=>ah (rH r s a ops bs) λq=>some (au q)
 | .UnaryOp .Not a _=>ah (r.T s a) λm=>some (mV m)
 | .BoolOp op vs _=>Km op (r.T s) vs
 |e=>cI (plainT e) (ah (r.E s e) λm=>some (au m))
theorem Br(R:bP tb k r)(S:Sit tb k X E s){m:Mi Bool}(h:Gg r s e=some m):JT X E e m:=by
 unfold Gg at h;split at h
 .obtain⟨q,D,h⟩:=ae h;cases h;exact(n9 R S D).2
 .obtain⟨J,D,h⟩:=ae h;cases h;exact D5 (R.T S D)
 .exact Jl (wy (λ_ _=>R.T S) h)
 .obtain⟨w,h⟩:=aj h;obtain⟨J,D,h⟩:=ae h;cases h;exact DJ (R.E S D) (qk w _)
def tr(tb:Tb):Nat->Tr
 |0=>⟨λ_ _=>none,λ_ _=>none,λ_ _ _=>none⟩
 |n+1=>⟨λs e=>pG (xP tb (tr tb n) s e) (pG (Me tb (tr tb n) s e) (xE tb (tr tb n) s e)),λs e=>pG (Gg (tr tb n) s e) (xT tb (tr tb n) s e),xI tb (tr tb n)⟩
theorem jC:∀n,bP tb k (tr tb n)
 |0=>⟨λ_ h=>(by cases h),λ_ h=>(by cases h),λ_ h=>(by cases h)⟩
 | n+1=>⟨λS h=>by
   rcases ba h with h|h
   .exact J0 (jC n) S h
   rcases ba h with h|h
   .exact EV (jC n) S h
   .exact Jg (jC n) S h,λS h=>by
   rcases ba h with h|h
   .exact Br (jC n) S h
   .exact JZ (jC n) S h,λS h=>Iz (jC n) S h⟩
end
structure hJ(tb:Tb)(k:Nat)(X:Cx)(E:XK)(s:Sc):Prop extends Sit tb k X E s where
 po:s.hd=false->PassesOwn (model X.prog X.w) X.A X.env X.xe
 st:s.hd=false->X.stack=X.env::X.outer/\X.env.frame=some X.env.locals/\X.ex=[]
 bk:X.env.blockKind=.function
noncomputable def J5:Expr->Bool
 | .Starred ..=>true
 |_=>false
def Ku(x y:Str)(A h:Pos)(a b:Expr):Bool:=x != y&&A.line==h.line&&notStar a&&notStar b&&!([a,b].all (foldedForSure 8))&&!([a,b].all (constantsAlone 8))
variable{y:Str}{px py:Pos}{kt:Nat}
theorem HN{pt k:Pos}{K:Nat}{a:Expr}(h:Ku x y px py a b=true)(hx:env.kindOf x=some .local)(hy:env.kindOf y=some .local)(hb:env.blockKind=.function):
  swappedStores [.Tuple [.Name x px,.Name y py] kt pt] (.Tuple [a,b] K k) env=pure (some [x,y]):=by
 unfold Ku at h;simp only[Ni,bne_iff_ne,ne_eq,beq_iff_eq,NX] at h;obtain⟨⟨⟨⟨⟨h1,h2⟩,h3⟩,h4⟩,h5⟩,m⟩:=h;have s1:(([a,b]:List Expr).any fun | .Starred ..=>true|_=>false)=false:=by
  rw[RY];intro e he;have hn:notStar e=true:=by
   rcases ND.mp he with z|z
   .rw[z];exact h3
   .rw[Nw.mp z];exact h4
  cases e<;>first|(cases hn;done)|exact Og
 have s:(y==x)=false:=beq_eq_false_iff_ne.mpr λz=>h1 z.symm;have S:(x==y)=false:=beq_eq_false_iff_ne.mpr h1;unfold swappedStores;have pn:∀(n:Str)(p:Pos),(Expr.Name n p).pos=p:=λ_ _=>rfl;simp[hb,s1,hx,hy,pn,<-h2,h5,m,List.eraseDups_cons,s,S];intro z;exfalso;rcases z with z|z
 .cases a<;>first|(cases h3;done)|cases z
 .cases b<;>first|(cases h4;done)|cases z
noncomputable def tZ:Expr->Bool
 | .Tuple _ _ _=>false
 |_=>true
theorem jz(h:tZ e=true):swappedStores [tg] e env=pure none:=by cases tg<;>first|rfl|(cases e<;>first|rfl|cases h)
variable{i:Expr}
theorem pN:swappedStores [.Subscript o i p] e env=pure none:=by cases e<;>rfl
theorem kS{l:Nat}:swapsWith e (some (.Subscript o i p)) l env=pure false:=by cases e<;>rfl
theorem rj{sc:Scope}{l:Nat}(h:env.kindOf x=some .cell):swapsWith (.ListComp elt gs sc pos) (some (.Name x px)) l env=pure false:=by unfold swapsWith;show (pure (env.blockKind==.function&&env.kindOf x==some .local&&px.line==pos.line&&!(sc.names.any λp=>p.1==x&&(p.2==.local || p.2==.cell))):Sem Bool)=pure false;rw[h,show (some (NameKind.cell)==some (NameKind.local))=false from rfl,P5,SJ,SJ]
theorem nQ{t:Expr}(h:gQ e=true)(l:Nat)(env:Env):swapsWithSole [t] e l env=pure false:=fL h (some t) l env
theorem wD{l:Nat}:swapsWithSole [.Subscript o i p] e l env=pure false:=kS (e:=e) (o:=o) (i:=i) (p:=p) (l:=l) (env:=env)
theorem AX(h:fv i=true)(v:Value):assign (.Subscript o i p) env v=(do
   let ov <- holding [v] (eval o env)
   let iv <- holding [v,ov] (eval i env)
   standAt p
   holding [v,ov,iv] (setItem ov iv v)
   release [v,ov,iv] []):=by cases i<;>first|rfl|cases h
variable{ts:List Expr}{p1:Pos}
section
variable{tb:Tb}{k:Nat}{X:Cx}{E:XK}{s:Sc}
def vz(r:Tr)(s:Sc)(x:Str)(px:Pos)(e:Expr):Option Ms:=ah (eY s x) λi=>match e with
 | .ListComp elt gs sc pos=>match nB s x .local with
  |true=>cI (px.line==pos.line&&!(sc.names.any λp=>p.1==x&&(p.2==.local || p.2==.cell))) (ah (lZ r s elt gs sc) λm=>some (aF i m))
  |false=>ah (r.E s e) λm=>some (aF i m)
 |e=>cI (gQ e) (ah (r.E s e) λm=>some (aF i m))
theorem uB(R:bP tb k r)(S:hJ tb k X E s){m:Ms}(h:vz r s x px e=some m):JS X E (.Assign [.Name x px] e pos) m:=by
 obtain⟨i,D,h⟩:=ae h;obtain⟨f,Y,c,a⟩:=S.eY D;have u:X.N.Nodup:=by rw[S.n];exact S.nd
 split at h
 .split at h
  .rename_i z;obtain⟨w,h⟩:=aj h;simp only[Ni,NX] at w;obtain⟨J,F,h⟩:=ae h;cases h;have hl:X.env.scope.names.lookup x=some .local:=S.lc x (by unfold nB at z;simpa using z);obtain⟨V,N,own,tg,iter,ifs,b,G,mt,H,rfl,rfl,Q,o,p,K,A,q⟩:=lA R S.toSit F;exact AO (S.cm V) Q rfl u f hl (qm S.bk hl w.1 w.2) o p K A q
  .rename_i z;obtain⟨J,F,h⟩:=ae h;cases h;refine qf u f Y (R.E S.toSit F) (rj ?_) a;obtain⟨g,_⟩:=aj D;simp only[Ni,qW,OY] at g;rcases g.1 with y|y
   .rw[y] at z;cases z
   .exact S.ce x (by unfold nB at y;simpa using y)
 .obtain⟨w,h⟩:=aj h;obtain⟨J,F,h⟩:=ae h;cases h;exact qf u f Y (R.E S.toSit F) (fL w _ _ _) a
noncomputable def EI(e:Expr):Option (Expr×Expr):=match e with
 | .Tuple es _ _=>match es with
  |[a,b]=>some (a,b)
  |_=>none
 |_=>none
theorem uQ{a:Expr}(h:EI e=some (a,b)):∃c p,e=.Tuple [a,b] c p:=by
 cases e with
 |Tuple es c p=>match es,h with
  |[a,b],h=>cases h;exact⟨c,p,rfl⟩
 |_=>cases h
def Gb(ts:List Expr):Option ((Str×Pos)×Str×Pos):=match ts with
 |[a,b]=>ah (vx a) λp=>ah (vx b) λq=>some (p,q)
 |_=>none
theorem uG(h:Gb ts=some ((x,px),y,py)):ts=[.Name x px,.Name y py]:=by
 match ts,h with
 |[a,b],h=>obtain⟨p,h1,h⟩:=ae h;obtain⟨q,h2,h⟩:=ae h;cases h;rw[cn h1,cn h2]
def pW(r:Tr)(s:Sc)(ts:List Expr)(e:Expr):Option Ms:=cI (tZ e&&gQ e) (ah (r.E s e) λm=>ah (Au s 0 9 (.Tuple ts 0 default)) λg=>some (mw m g))
def wO(r:Tr)(s:Sc)(ts:List Expr)(e:Expr):Option Ms:=match Gb ts with
 | some ((x,px),y,py)=>(match EI e with
  |some (a,b)=>cI (!s.hd&&nB s x .local&&nB s y .local&&okN x&&okN y&&Ku x y px py a b) (ah (eY s x) λi=>ah (eY s y) λj=>cI (i != j) (ah (vB (r.E s) [a,b]) λm=>some (xA i j m)))
  | none=>pW r s ts e)
 |none=>pW r s ts e
theorem DS{lo d:Nat}{n n':Nat}{j:Pos}{g:Mg}(h:Au s lo d (.Tuple ts n p)=some g):Au s lo d (.Tuple ts n' j)=some g:=by
 cases d with
 |zero=>cases h
 |succ d=>exact h
theorem ly(R:bP tb k r)(S:hJ tb k X E s){pt:Pos}{m:Ms}(h:pW r s ts e=some m):JS X E (.Assign [.Tuple ts kt pt] e pos) m:=by obtain⟨w,h⟩:=aj h;rw[Ni] at w;obtain⟨J,D,h⟩:=ae h;obtain⟨g,F,h⟩:=ae h;cases h;exact G4 (R.E S.toSit D) (lX S.toSit (DS F)) (nQ w.2 _ _) (jz w.1) (hp:=λx y=>yI x y (nQ w.2 _ _) (jz w.1))
theorem xu(R:bP tb k r)(S:hJ tb k X E s){pt:Pos}{m:Ms}(h:wO r s ts e=some m):JS X E (.Assign [.Tuple ts kt pt] e pos) m:=by
 unfold wO at h;cases d:Gb ts with
 |none=>rw[d] at h;exact ly R S h
 |some p=>
  obtain⟨⟨x,px⟩,y,py⟩:=p;rw[d] at h;dsimp only at h;cases U:EI e with
  |none=>rw[U] at h;exact ly R S h
  |some p=>
   obtain⟨a,b⟩:=p;rw[U] at h;obtain⟨w,h⟩:=aj h;simp only[Ni,NX] at w;obtain⟨⟨⟨⟨⟨h1,h2⟩,h3⟩,_⟩,_⟩,h4⟩:=w;obtain⟨i,G,h⟩:=ae h;obtain⟨j,F,h⟩:=ae h;obtain⟨o,h⟩:=aj h;obtain⟨D,O,h⟩:=ae h;cases h;obtain rfl:=uG d;obtain⟨c,p,rfl⟩:=uQ U;have u:X.N.Nodup:=by rw[S.n];exact S.nd
   have Q:=S.lc x (show s.nm.lookup _=_ by unfold nB at h2;simpa using h2);have z:=S.lc y (show s.nm.lookup _=_ by unfold nB at h3;simpa using h3);have f:i≠j:=by simpa using o
   exact Dx (i9 (λ_ _=>R.E S.toSit) O).1 f (λy=>Ep (S.cm h1) u (S.eY G).1 (S.eY F).1 f Q z y (HN h4 Q z S.bk))
def Ib(r:Tr)(s:Sc)(x:Str)(L e:Expr):Option Ms:=ah (slot s x) λi=>ah (r.E s L) λmk=>ah (r.E s e) λm=>cI (!s.hd&&fv L) (some (jZ i mk m))
theorem Am(R:bP tb k r)(S:hJ tb k X E s){L:Expr}{m:Ms}(h:Ib r s x L e=some m):JS X E (.Assign [.Subscript (.Name x px) L p1] e pos) m:=by obtain⟨i,D,h⟩:=ae h;obtain⟨mk,F,h⟩:=ae h;obtain⟨J,O,h⟩:=ae h;obtain⟨V,h⟩:=aj h;simp only[Ni,NX] at V;obtain⟨f,Y,G,a⟩:=S.slot D;cases h;exact wR f Y G a (R.E S.toSit F) (R.E S.toSit O) (λx y z=>yI z (Fn x y set_list (AX V.2)) wD pN)
def yN(tb:Tb)(r:Tr)(s:Sc)(t e:Expr):Option Ms:=match t with
 | .Name x px=>vz r s x px e
 | .Tuple ts _ _=>wO r s ts e
 | .Subscript (.Name x _) ek _=>Ib r s x ek e
 |_=>none
theorem yL(R:bP tb k r)(S:hJ tb k X E s){t:Expr}{m:Ms}(h:yN tb r s t e=some m):JS X E (.Assign [t] e pos) m:=by
 unfold yN at h;split at h
 .exact uB R S h
 .exact xu R S h
 .exact Am R S h
 .cases h
end
variable{F:Sc->Stmt->Option Ms}
section
variable{tb:Tb}{k:Nat}{X:Cx}{E:XK}{s:Sc}
def pO(F:Stmt->Option Ms):List Stmt->Option Ms
 |[]=>some aU
 |[a]=>F a
 |a::b::r=>ah (F a) λm=>ah (pO F (b::r)) λn=>some (az m n)
theorem fQ{F:Stmt->Option Ms}(h:∀a m,F a=some m->JS X E a m):∀{l:List Stmt}{m:Ms},pO F l=some m->vc X E l m
 |[],m,e=>by cases e;exact AA
 |[a],m,e=>Ap (h _ _ e)
 |a::b::r,m,e=>by obtain⟨J,D,e⟩:=ae e;obtain⟨N,t,e⟩:=ae e;cases e;exact y9 (h _ _ D) (fQ h t)
def GK(st:Stmt):Option (Str×Pos×Pos×Pos):=match st with
 | .Assign ts e pos=>match ts with
  |[t]=>ah (vx t) λ(x,px)=>match e with
   | .Dict ks vs p=>match ks,vs with
    |[],[]=>some (x,px,p,pos)
    |_,_=>none
   |_=>none
  |_=>none
 |_=>none
theorem ux{st:Stmt}(h:GK st=some (x,px,p,pos)):st=.Assign [.Name x px] (.Dict [] [] p) pos:=by
 unfold GK at h;split at h
 .split at h
  .obtain⟨⟨y,py⟩,h1,h⟩:=ae h;dsimp only at h;split at h
   .split at h
    .cases h;rw[cn h1]
    .cases h
   .cases h
  .cases h
 .cases h
def F7(st:Stmt):Option (Str×Pos×Expr×Pos×Expr×Pos):=match st with
 | .Assign ts e pos=>match ts with
  |[t]=>match t with
   | .Subscript o i p1=>ah (vx o) λ(x,px)=>some (x,px,i,p1,e,pos)
   |_=>none
  |_=>none
 |_=>none
theorem uH{st:Stmt}(h:F7 st=some (x,px,i,p1,e,pos)):st=.Assign [.Subscript (.Name x px) i p1] e pos:=by
 unfold F7 at h;split at h
 .split at h
  .split at h
   .obtain⟨⟨y,py⟩,h1,h⟩:=ae h;cases h;rw[cn h1]
   .cases h
  .cases h
 .cases h
def wq(_:Tb)(r:Tr)(s:Sc)(_:Sc->Stmt->Option Ms)(st:Stmt):Option Ms:=pG (ah (GK st) λ(x,_,_,_)=>cI (s.di.contains x&&s.lv.contains x) (ah (eY s x) λi=>some (aF i mH)))
 (ah (F7 st) λ(x,_,L,_,e,_)=>cI (s.di.contains x&&s.lv.contains x&&(!s.hd&&fv L)) (ah (slot s x) λi=>ah (r.E s L) λmk=>ah (r.E s e) λm=>some (oV i mk m)))
theorem ua(R:bP tb k r)(S:hJ tb k X E s)(o:∀c,Passes zF X c->∀a m,F (KL s) a=some m->JS X c a m){st:Stmt}{m:Ms}(h:wq tb r s F st=some m):JS X E st m:=by
 rcases ba h with h|h
 .obtain⟨⟨x,px,p,pos⟩,h1,h⟩:=ae h;obtain rfl:=ux h1;obtain⟨_,h⟩:=aj h;obtain⟨i,D,h⟩:=ae h;cases h;obtain⟨f,Y,G,z⟩:=S.eY D;exact qf (by rw[S.n];exact S.nd) f Y yE (fL rfl _ _ _) z
 .obtain⟨⟨x,px,L,p1,e,pos⟩,h1,h⟩:=ae h;obtain rfl:=uH h1;obtain⟨V,h⟩:=aj h;simp only[Ni,NX] at V;obtain⟨i,D,h⟩:=ae h;obtain⟨mk,t,h⟩:=ae h;obtain⟨J,O,h⟩:=ae h;cases h;obtain⟨f,Y,G,z⟩:=S.slot D;exact BH (JM (S.rm V.2.1)) f Y G z (R.E S.toSit t) (R.E S.toSit O) kS
def xS(tb:Tb)(r:Tr)(s:Sc)(F:Sc->Stmt->Option Ms)(st:Stmt):Option Ms:=pG (wq tb r s F st) (none)
theorem Jc(R:bP tb k r)(S:hJ tb k X E s)(o:∀H,Passes zF X H->∀a m,F (KL s) a=some m->JS X H a m){st:Stmt}{m:Ms}(h:xS tb r s F st=some m):JS X E st m:=by
 rcases ba h with h|h
 .exact ua R S o h
 cases h
end
variable{base:Heap}{dV:Value}
section
variable{tb:Tb}{k:Nat}{X:Cx}{E:XK}{s:Sc}
def Cd(r:Tr)(s:Sc)(tg it:Expr)(b:Ms):Option Ms:=cI (ie it) (ah (KQ r s tg it) λm=>ah (Au s 0 9 tg) λG=>some (da m G b))
theorem xM(R:bP tb k r)(S:hJ tb k X E s)(V:s.hd=false){it:Expr}{body:List Stmt}{b m:Ms}(hb:vc X E body b)(h:Cd r s tg it b=some m):JS X E (.For tg it body [] pos) m:=by obtain⟨w,h⟩:=aj h;obtain⟨J,D,h⟩:=ae h;obtain⟨G,F,h⟩:=ae h;cases h;exact F0 (S.po V) (S.cm V) (xx R S.toSit D) (lX S.toSit F) hb (ju w _)
def yo(tb:Tb)(r:Tr)(s:Sc)(ts:List Expr)(e:Expr):Option Ms:=match ts with
 |[t]=>yN tb r s t e
 |_=>none
def K8(tb:Tb)(r:Tr)(s:Sc)(ex ca:Option Expr):Option Ms:=some Dh
def MA(tb:Tb)(r:Tr)(s:Sc)(F:Sc->Stmt->Option Ms):Stmt->Option Ms
 | .Assign ts e _=>yo tb r s ts e
 | .Return none _=>some CZ
 | .Return (some e) _=>ah (r.E s e) λm=>some (ck m)
 | .If t a b _=>ah (r.T s t) λmt=>ah (pO (F s) a) λm=>ah (pO (F s) b) λn=>some (cS mt m n)
 | .While t b els _=>cI (!s.hd&&els.isEmpty) (ah (r.T s t) λmt=>ah (pO (F s) b) λm=>some (iw Cv mt m))
 | .For tg it b els _=>cI (!s.hd&&els.isEmpty) (ah (pO (F s) b) λm=>Cd r s tg it m)
 | .Raise ex ca _=>K8 tb r s ex ca
 | .Expr e _=>cI (gQ e) (ah (r.E s e) λm=>some (aY m))
 | .Pass _=>some aU
 | .Break _=>some vV
 | .Continue _=>some Cz
 |_=>none
def Hc(tb:Tb)(r:Tr):Nat->Sc->Stmt->Option Ms
 |0,_,_=>none
 |d+1,s,st=>pG (xS tb r s (Hc tb r d) st) (MA tb r s (Hc tb r d) st)
theorem hJ.Jr{c:XK}(S:hJ tb k X E s)(h1:Passes zF X c):hJ tb k X c (KL s):=⟨⟨S.n,S.nd,S.gl,S.vs,S.lo,S.lc,S.ce,S.fx,S.cm,S.rm,λ_=>h1,S.gd⟩,S.po,S.st,S.bk⟩
theorem qK{r:Tr}(R:bP tb k r):∀{d:Nat}{X:Cx}{E:XK}{s:Sc}{st:Stmt}{m:Ms},hJ tb k X E s->Hc tb r d s st=some m->JS X E st m
 |0,X,E,s,st,m,S,h=>by cases h
 |d+1,X,E,s,st,m,S,h=>by
  have j:∀a m,Hc tb r d s a=some m->JS X E a m:=λa m e=>qK R S e;unfold Hc at h;have h':=ba h;clear h;rcases h' with h|h
  .exact Jc R S (λc h1 a m e=>qK R (S.Jr h1) e) h
  cases st with
  |Assign ts e _=>
   have h:yo tb r s ts e=some m:=h;unfold yo at h;split at h
   .exact yL R S h
   .cases h
  |Return v _=>cases v with
   |none=>cases h;exact A9
   |some e=>obtain⟨J,D,h⟩:=ae h;cases h;exact Ft (R.E S.toSit D)
  |If t a b _=>obtain⟨mt,D,h⟩:=ae h;obtain⟨J,F,h⟩:=ae h;obtain⟨N,O,h⟩:=ae h;cases h;exact IK (R.T S.toSit D) (fQ j F) (fQ j O)
  |While t b x _=>have h':=aj h;clear h;obtain⟨w,h⟩:=h';simp only[Ni,NX,Px] at w;obtain⟨V,rfl⟩:=w;obtain⟨mt,D,h⟩:=ae h;obtain⟨J,F,h⟩:=ae h;cases h;exact xh (S.po V) (R.T S.toSit D) (fQ j F)
  |For tg it b x _=>have h':=aj h;clear h;obtain⟨w,h⟩:=h';simp only[Ni,NX,Px] at w;obtain⟨V,rfl⟩:=w;obtain⟨J,F,h⟩:=ae h;exact xM R S V (fQ j F) h
  |Raise ex ca _=>cases h;exact BG
  |Expr e _=>obtain⟨w,h⟩:=aj h;obtain⟨J,D,h⟩:=ae h;cases h;exact Ax (R.E S.toSit D) (fL w _ _ _)
  |Pass _=>cases h;exact zJ
  |Break _=>cases h;exact wa
  |Continue _=>cases h;exact Bp
  |_=>cases h
structure DI where
 cl:Option Str
 name:Str
 st:Stmt
 N:List Str
 n:Nat
 di:List Str
 mu:List Bool
 df:List A
 lv:List Str
 m:Ms
 ce:List Str:=[]
 tp:Bool:=false
 sp:Bool:=false
def DI.sc(d:DI):Sc:={ N:=d.N,nm:=(aN d.st).names,di:=d.di,ca:=[],hd:=false,lv:=d.lv }
def fB(d:DI):Bool:=(aN d.st).kind==.function&&!(aN d.st).isCoroutine&&!(aN d.st).isGenerator&&decide d.N.Nodup&&TL d.n d.N.length&&(d.N.take d.n).all (λx=>(aN d.st).names.lookup x==some .local || (aN d.st).names.lookup x==some .cell)&&(aN d.st).names.all (λy=>y.2 != .free)
theorem fH{d:DI}(h:fB d=true):gY d.N (d.N.take d.n) (aN d.st)/\(d.N.take d.n).length=d.n:=by
 unfold fB at h;simp only[Ni,beq_iff_eq,NX,decide_eq_true_eq,Oh,OY,bne_iff_ne,ne_eq] at h;obtain⟨⟨⟨⟨⟨⟨h1,h2⟩,h3⟩,h4⟩,h5⟩,m⟩,a⟩:=h;have hl:(d.N.take d.n).length=d.n:=by rw[P6];have:=RB h5;lia
 exact⟨⟨h1,h2,h3,h4,by rw[hl],m,a⟩,hl⟩
def DI.M(d:DI):Ms:=bS (d.N.length-d.n) d.m
noncomputable def DI.fi(d:DI):FI:=⟨d.n,d.M,d.mu,d.df,!d.ce.isEmpty⟩
noncomputable def DI.qual(d:DI):Str:=match d.cl with
 |none=>d.name
 |some c=>c++(("." : Str)++d.name)
def Tb.add(tb:Tb)(d:DI):Tb:=match d.cl with
 |none=>{ tb with fns:=(d.name,d.fi)::tb.fns }
 |some c=>match d.name==("__init__" : Str) with
  |true=>{ tb with ini:=(c,d.fi)::tb.ini }
  |false=>{ tb with mts:=(d.name,c,d.fi)::tb.mts }
noncomputable def EL:Nat:=40
noncomputable def xi:Ms:=λ_=>none
theorem wQ{l:List Stmt}:vc X E l xi:=⟨λpins s Y H D I h=>by obtain⟨c,Z,B,θ,f,O,L,b,em,q⟩:=h;cases em⟩
def qG(tb:Tb)(d:DI):Option Ms:=match d.sp with
 |true=>some xi
 |false=>pO (Hc tb (tr tb EL) EL d.sc) (dr d.st)
theorem B5{d:DI}{m:Ms}(h:qG tb d=some m)(S:hJ tb k X E d.sc):vc X E (dr d.st) m:=by
 unfold qG at h;split at h
 .cases h;exact wQ
 .exact fQ (λa m e=>qK (jC EL) S e) h
theorem Dd{d:DI}{f:Addr}{qual:Str}(G:Gd tb k P w K mg base)(F:nk K d.name qual d.st f fd dV)(hs:fB d=true)
  (h:qG tb d=some d.m):dM P w K mg base zF (k+1) f fd (d.N.take d.n) (nu ⟨K,mg,P,w⟩ d.n d.M):=by
 obtain⟨S,hl⟩:=fH hs;have V:=z0 (CX:=zF) (P:=P) (w:=w) (mg:=mg) (base:=base) (k:=k) (m:=d.m) F S (λcdv A outer s H E t=>B5 h (?_:hJ tb k _ E d.sc))
 .rw[hl] at V;exact V
 .refine⟨⟨rfl,S.nd,λx hx=>hx,λx hx=>?_,λx hx=>?_,λx hx=>hx,λx hx=>hx,λx hx=>.inl rfl,λ_=>rfl,λ_=>t,λ_ _ _ _ _ _ _ _ x=>x.elim,G⟩,λ_=>PassesOwn.leaving,λ_=>⟨rfl,rfl,rfl⟩,?_⟩
  .unfold Aa nB DI.sc at hx;simp only[OY,beq_iff_eq] at hx;rcases hx with (z|z)|z
   .exact .inl z
   .exact .inr (.inl z)
   .exact .inr (.inr z)
  .unfold qW nB DI.sc at hx;simp only[OY,beq_iff_eq] at hx;exact hx
  .show (if (aN d.st).kind.isAnnotationScope then ScopeKind.function else (aN d.st).kind)=.function;rw[S.kind];rfl
end
theorem qX:∀{us:List Value}{n:Str},us.length=ps.length->n∈ps->((ps.zip us).lookup n).isSome=true:=by
 induction ps with
 |nil=>intro us n _ h;cases h
 |cons p ps j=>
  intro us n hl h;cases us with
  |nil=>cases hl
  |cons u us=>
   rw[Qm,OC];split
   .rfl
   .rename_i z;rcases ND.mp h with y|y
    .rw[y,beq_self_eq_true] at z;cases z
    .exact j (by simpa using hl) y
theorem kh:∀{us:List Value}{pre:List (Str×Value)},us.length=ps.length->ps.Nodup->(∀n∈ps,pre.lookup n=none)->ps.filterMap (λn=>((pre++ps.zip us).lookup n).map (n,·))=ps.zip us:=by
 induction ps with
 |nil=>intro us pre _ _ _;rfl
 |cons p ps j=>
  intro us pre hl nd hp;cases us with
  |nil=>cases hl
  |cons u us=>
   obtain⟨C,l⟩:=Oe.mp nd;have D:(pre++(p,u)::ps.zip us).lookup p=some u:=by rw[Um,hp p Nu,OC,beq_self_eq_true];rfl
   rw[Qm,Qd,D];show (p,u)::_=_
   congr 1
   have:=j (us:=us) (pre:=pre++[(p,u)]) (by simpa using hl) l (λn hn=>by rw[Um,hp n (Nt _ hn),OC];have:(n==p)=false:=beq_eq_false_iff_ne.mpr λz=>C (z▸hn);rw[this];rfl)
   simpa[Nj] using this
theorem iI{α β:Type}{f:α->β->Sem (ForInStep β)}{g:β->α->β}(h:∀a b,f a b=pure (.yield (g b a))):∀(l:List α)(b:β),(forIn l b f:Sem β)=pure (l.foldl g b)
 |[],_=>rfl
 |a::l,b=>by rw[Sw,h,pure_bind];exact iI h l _
noncomputable def oe(S:List (Str×Value))(x:Str×Value):List (Str×Value):=if (S.lookup x.1).isNone=true then S++[(x.1,x.2)] else S
variable{us:List Value}
theorem nA(h1:fd.params.posonlyargs=[])(h2:fd.params.kwonlyargs=[])(h3:fd.params.vararg=none)(h4:fd.params.kwarg=none)(m:fd.params.args.map (·.arg)=ps)(hl:us.length<=ps.length):
  ∃k,bindArgs fd ⟨us,[]⟩=seqItems? fd.defaults >>= k/\∀(o:Option (Array Value))(ds:List Value),(o.getD #[]).toList.drop ((o.getD #[]).toList.length-ps.length)=ds->
   (ps.take (ps.length-ds.length)).filter (λn=>((ps.zip us).lookup n).isNone)=[]->
   k o=pure ((ps++[]).filterMap λn=>((((ps.drop (ps.length-ds.length)).zip ds).foldl oe (ps.zip us)).lookup n).map (n,·)):=by
 obtain⟨nm,i,h,r,sc,gl,cl,de,x,U,pm,an,cd,ct,J⟩:=fd;obtain⟨po,ar,s,E,S,e,df⟩:=h;obtain rfl:ar.map (·.arg)=ps:=m;obtain rfl:po=[]:=h1;obtain rfl:E=[]:=h2;obtain rfl:s=none:=h3;obtain rfl:e=none:=h4;refine⟨_,rfl,λo ds hd hm=>?_⟩;subst hd;refine(if_neg (λz=>?_)).trans ?_
 .rw[Ni,decide_eq_true_eq] at z;exact absurd z.1 (Us.mpr hl)
 refine(if_neg (λz=>?_)).trans ?_
 .rw[NX,List.isEmpty_eq_false_iff] at z;exact z hm
 refine(congrArg (· >>= _) (iI (g:=oe) (λa b=>?_) _ _)).trans ?_
 .unfold oe;by_cases z:(b.lookup a.1).isNone=true
  .rw[if_pos z];exact if_pos z
  .rw[if_neg z];exact if_neg z
 .exact rfl
theorem gK(hl:us.length=ps.length):ps.filter (λn=>((ps.zip us).lookup n).isNone)=[]:=by
 rw[Qq];intro n hn;have:=qX hl hn;cases e:(ps.zip us).lookup n with
 |none=>rw[e] at this;cases this
 |some v=>exact Og
theorem nS(h1:fd.params.posonlyargs=[])(h2:fd.params.kwonlyargs=[])(h3:fd.params.vararg=none)(h4:fd.params.kwarg=none)(h5:fd.defaults=.none)(m:fd.params.args.map (·.arg)=ps)(nd:ps.Nodup)(hl:us.length=ps.length):
  bindArgs fd ⟨us,[]⟩=pure (ps.zip us):=by
 obtain⟨k,D,F⟩:=nA (us:=us) h1 h2 h3 h4 m (R8 hl);rw[D,h5];refine(F none [] Vc (by rw[List.length_nil,TB,Q5];exact gK hl)).trans ?_;rw[Oo,List.zip_nil_right];have G:=kh (pre:=[]) hl nd (λn _=>rfl);rw[QE] at G;exact congrArg pure G
theorem xZ:∀{us:List Value}{z:Str},z∉ps->(ps.zip us).lookup z=none:=by
 induction ps with
 |nil=>intro us z _;rfl
 |cons p ps j=>
  intro us z hz;cases us with
  |nil=>rfl
  |cons u us=>rw[Qm,OC];have:(z==p)=false:=beq_eq_false_iff_ne.mpr λy=>hz (y▸Nu);rw[this];exact j λy=>hz (Nt _ y)
variable{qs:List Str}
theorem uy:∀{us:List Value},us.length=ps.length->(ps++qs).zip us=ps.zip us:=by
 induction ps with
 |nil=>intro us h;cases us with
  |nil=>cases qs<;>rfl
  |cons _ _=>cases h
 |cons p ps j=>intro us h;cases us with
  |nil=>cases h
  |cons u us=>rw[UB,Qm,Qm,j (by simpa using h)]
theorem zt{s:Shared}{z:Str}{b:Addr}{o:Obj}{h:Value}{ep:Nat}(h1:fd.params.posonlyargs=[])(h2:fd.params.kwonlyargs=[])(h3:fd.params.vararg=none)(h4:fd.params.kwarg=none)(h5:fd.defaults=.ref b)(ho:s.heap.get? b=some o)(hs:o.data=.seq #[h] ep)
  (m:fd.params.args.map (·.arg)=qs++[z])(nd:(qs++[z]).Nodup):
  (us.length=(qs++[z]).length->BindsTo s fd ⟨us,[]⟩ ((qs++[z]).zip us))/\(us.length=qs.length->BindsTo s fd ⟨us,[]⟩ ((qs++[z]).zip (us++[h]))):=by
 have E:z∉qs:=λy=>(N8.mp nd).2.2 z y z Nu rfl;have D:List.drop (1-(qs++[z]).length) [h]=[h]:=by rw[show 1-(qs++[z]).length=0 by simp];rfl
 have F:(qs++[z]).take ((qs++[z]).length - [h].length)=qs:=by simp
 have O:(qs++[z]).drop ((qs++[z]).length - [h].length)=[z]:=by simp
 refine⟨λhl=>?_,λhl=>?_⟩
 .obtain⟨k,V,K⟩:=nA (us:=us) h1 h2 h3 h4 m (R8 hl);refine .of_defaults h5 ho hs V ((K (some #[h]) [h] D ?_).trans ?_)
  .rw[F,Qq];exact λn hn=>Qq.mp (gK hl) n (NF _ hn)
  .have r:¬ (((qs++[z]).zip us).lookup z).isNone=true:=Qq.mp (gK hl) z (Nq _ Nu);rw[O];have N:VS oe ((qs++[z]).zip us) ([z].zip [h])=(qs++[z]).zip us:=if_neg r;rw[N,Oo];exact congrArg pure (kh (pre:=[]) hl nd (λn _=>rfl))
 .obtain⟨k,V,K⟩:=nA (us:=us) h1 h2 h3 h4 m (by rw[hl,Ny];exact Pg _ _);have hz:(qs++[z]).zip us=qs.zip us:=uy hl;refine .of_defaults h5 ho hs V ((K (some #[h]) [h] D ?_).trans ?_)
  .rw[F,hz];exact gK hl
  .have i:(us++[h]).length=(qs++[z]).length:=by rw[Ny,Ny,hl];rfl
   have t:(qs++[z]).zip (us++[h])=qs.zip us++[(z,h)]:=by rw[List.zip_append hl.symm];rfl
   rw[O,hz];have N:VS oe (qs.zip us) ([z].zip [h])=qs.zip us++[(z,h)]:=if_pos (by rw[xZ E];rfl);rw[N,<-t,Oo];exact congrArg pure (kh (pre:=[]) i nd (λn _=>rfl))
mutual
noncomputable def xw(K:Nh):Nat->Value->A->Bool
 |0,_,_=>false
 |n+1,v,a=>match v,a with
  | .none,.non=>true
  | .bool b,.bl c=>b==c
  | .int i _,.int j=>i==j
  | .str x _,.str y=>x==y
  | .ref p,.tup as=>(match K.lookup p with
   |some ⟨.type "tuple",none,.seq its _,_⟩=>TL its.size 1000&&rF K n its.toList as
   | _=>false)
  |_,_=>false
noncomputable def rF(K:Nh):Nat->List Value->List A->Bool
 |0,_,_=>false
 |_+1,[],[]=>true
 |n+1,v::vs,a::as=>xw K n v a&&rF K n vs as
 |_+1,_,_=>false
end
mutual
theorem l9{P:Program}{w:World}{K:Nh}{mg:Str->Option Value}:∀{n:Nat}{v:Value}{a:A},xw K n v a=true->∃x,RelV x v/\∀G,RA ⟨K,mg,P,w⟩ G x a
 |0,v,a,h=>by cases h
 |n+1,v,a,h=>by
  unfold xw at h;split at h
  .exact⟨.non,rfl,λ_=>.non⟩
  .rw[beq_iff_eq] at h;subst h;exact⟨.bl _,rfl,λ_=>.bl _⟩
  .rw[beq_iff_eq] at h;subst h;exact⟨.int _,⟨_,rfl⟩,λ_=>.int _⟩
  .rw[beq_iff_eq] at h;subst h;exact⟨.str _,⟨_,rfl⟩,λ_=>.str _⟩
  .split at h
   .rename_i g ep sl e;rw[Ni] at h;obtain⟨xs,h1,h2⟩:=nL (P:=P) (w:=w) (mg:=mg) h.2;refine⟨.ref _,rfl,λG=>.tup (.inr ⟨_,g,_,e,⟨rfl,rfl⟩,rfl,?_,h1⟩) (h2 G)⟩;have:=RB h.1;have:=iB;lia
   .cases h
  .cases h
theorem nL{P:Program}{w:World}{K:Nh}{mg:Str->Option Value}:∀{n:Nat}{vs:List Value}{as:List A},rF K n vs as=true->∃xs,Vals xs vs/\∀G,bh ⟨K,mg,P,w⟩ G xs as
 |0,vs,as,h=>by cases h
 |_+1,[],[],h=>⟨[],.nil,λ_=>.nil⟩
 |n+1,v::vs,a::as,h=>by rw[rF,Ni] at h;obtain⟨x,h1,h2⟩:=l9 (P:=P) (w:=w) (mg:=mg) h.1;obtain⟨xs,h3,h4⟩:=nL (P:=P) (w:=w) (mg:=mg) h.2;exact⟨x::xs,.cons h1 h3,λG=>.cons (h2 G) (h4 G)⟩
 |_+1,[],_::_,h=>by cases h
 |_+1,_::_,[],h=>by cases h
end
noncomputable def gV(K:Nh)(x:Str):Option Value:=match S5 K mainGlobals x with
 |some (some v)=>some v
 |_=>none
variable{h:Heap}
theorem tu(X:K.In h)(G:h.Ns mainGlobals mg){v:Value}(e:gV K x=some v):mg x=some v:=by
 unfold gV at e;split at e
 .rename_i q;cases e;exact PySem.W.mg_of X G q
 .cases e
def Jw(K:Nh)(p:Str×A):Bool:=match gV K p.1 with
 |some v=>xw K 20 v p.2
 |none=>false
noncomputable def l6(K:Nh)(C:Addr):Bool:=RV K C Str.empty&&TN K C&&TQ K C&&Pq K (.ref C) "__setattr__" == some (some (.builtin "object.__setattr__"))
theorem kT{C:Addr}(h:l6 K C=true):Fu K C:=by unfold l6 at h;simp only[Ni,beq_iff_eq] at h;obtain⟨⟨⟨h1,h2⟩,h3⟩,h4⟩:=h;exact⟨h1,h2,h3,h4⟩
def IC(K:Nh)(p:Str×List Str):Bool:=match gV K p.1 with
 |some (.ref C)=>l6 K C&&p.2.all λf=>Pq K (.ref C) f==some none
 |_=>false
def CH(tb:Tb)(K:Nh):Bool:=tb.fns.isEmpty&&tb.cst.all (Jw K)&&zY.all (λx=>S5 K mainGlobals x==some none)&&tb.fld.all (IC K)&&tb.ini.isEmpty&&tb.mts.isEmpty
theorem F4{tb:Tb}(X:K.In h)(G:h.Ns mainGlobals mg)(e:CH tb K=true):Gd tb 1 P w K mg base:=by
 unfold CH at e;simp only[Ni,Px,Oh,beq_iff_eq] at e;obtain⟨⟨⟨⟨⟨D,F⟩,O⟩,k⟩,n⟩,s⟩:=e;refine⟨λx f q=>(by rw[D] at q;cases q),λx a q=>?_,λx q=>PySem.W.mg_none_of X G (O x q),λf c C q hm=>?_,λc f q=>(by rw[n] at q;cases q),λm c f q=>(by rw[s] at q;cases q)⟩
 .have:=F _ (cH q);unfold Jw at this;split at this
  .rename_i v E;obtain⟨y,B,J⟩:=l9 (P:=P) (w:=w) (mg:=mg) this;exact⟨y,v,tu X G E,B,J⟩
  .cases this
 .obtain⟨p,d,i⟩:=NB.mp (Rv.mp q);obtain⟨u,b⟩:=Qj.mp d;have t:=k p u;subst i;unfold IC at t;split at t
  .rename_i S E;have:=tu X G E;rw[hm] at this;cases this;rw[Ni,Oh] at t;have:=t.2 f (Rv.mp b);exact⟨kT t.1,by rw[beq_iff_eq] at this;exact this⟩
  .cases t
def pR(d:DI):Bool:=(cC d.st).posonlyargs.isEmpty&&(cC d.st).kwonlyargs.isEmpty&&(cC d.st).vararg.isNone&&(cC d.st).kwarg.isNone&&(cC d.st).args.map (·.arg)==d.N.take d.n
def Gh(K:Nh)(dV:Value)(a:A):Bool:=match dV with
 | .ref td=>match K.lookup td with
  | some ⟨_,_,.seq its _,_⟩=>(match its.toList with
   |[v]=>xw K 20 v a
   | _=>false)
  |_=>false
 |_=>false
def uT(K:Nh)(dV:Value):List A->Bool
 |[]=>match dV with
  | .none=>true
  |_=>false
 |[a]=>Gh K dV a
 |_=>false
theorem Fj{d:DI}{qual:Str}{f:Addr}(h:pR d=true)(hs:fB d=true)(F:nk K d.name qual d.st f fd dV)(hd:uT K dV d.df=true):jv P w K mg fd (d.N.take d.n) d.df:=by
 unfold pR at h;simp only[Ni,Px,SH,beq_iff_eq] at h;obtain⟨⟨⟨⟨h1,h2⟩,h3⟩,h4⟩,h5⟩:=h;obtain⟨S,hl⟩:=fH hs;have nd:=S.nd.sublist (RZ d.n d.N);obtain⟨p1,H⟩:fd.params=cC d.st/\fd.defaults=dV:=by obtain⟨oc,od,kV,doc,pm,an,cdv,ct,osl,e,_⟩:=F.ex;rw[e];exact⟨rfl,rfl⟩
 rw[<-p1] at h1 h2 h3 h4 h5;clear F p1 S hl hs;cases e:d.df with
 |nil=>
  rw[e] at hd;have hd:dV=.none:=by cases dV<;>first|rfl|cases hd
  subst hd
  .intro j c;refine⟨[],[],Binds.all λus B=>nS h1 h2 h3 h4 H h5 nd B,.nil,λ_=>?_⟩;rw[Vc];exact .nil
 |cons a as=>
  cases as with
  |cons _ _=>rw[e] at hd;cases hd
  |nil=>
   rw[e] at hd
   replace hd:Gh K dV a=true:=hd
   unfold Gh at hd;split at hd
   .rename_i b;split at hd
    .rename_i x y g ep sl A;split at hd
     .rename_i v i;obtain⟨p,Q,X⟩:=l9 (P:=P) (w:=w) (mg:=mg) hd;have hi:g=#[v]:=by rw[<-Qu,i]
      subst hi;have E:∀(s:Shared)(us:List Value),K.In s.heap->((us.length=(d.N.take d.n).length->BindsTo s _ ⟨us,[]⟩ ((d.N.take d.n).zip us))/\(us.length+1=(d.N.take d.n).length->BindsTo s _ ⟨us,[]⟩ ((d.N.take d.n).zip (us++[v])))):=λs us r=>by
       rcases Rw (d.N.take d.n) with z|⟨qs,U,z⟩
       .rw[z] at h5 ⊢;refine⟨λhl=>?_,λhl=>by cases hl⟩;cases us with
        |cons _ _=>cases hl
        |nil=>obtain⟨k,V,Y⟩:=nA (us:=[]) h1 h2 h3 h4 h5 (Nr 0);exact .of_defaults H (r _ _ A) rfl V (Y (some #[v]) [] rfl rfl)
       .rw[Rx] at z;rw[z] at h5 nd ⊢;have:=zt (s:=s) (us:=us) h1 h2 h3 h4 H (r _ _ A) rfl h5 nd;exact⟨this.1,λq=>this.2 (by simpa using q)⟩
      intro j c;rcases Nat.le_one_iff_eq_zero_or_eq_one.mp c with rfl|rfl
      .exact⟨[v],[p],λs us r B=>(E s us r).2 (by simpa using B),.cons Q .nil,λG=>.cons (X G) .nil⟩
      .exact⟨[],[],λs us r B=>by rw[Oo] at B ⊢;exact(E s us r).1 B,.nil,λG=>.nil⟩
     .cases hd
    .cases hd
   .cases hd
def sP:Tb->List DI->List (Option Ms)
 |_,[]=>[]
 |tb,d::ds=>qG tb d::sP (tb.add d) ds
def rT:Tb->List DI->Tb
 |tb,[]=>tb
 |tb,d::ds=>rT (tb.add d) ds
def gv(K:Nh)(mg:Str->Option Value)(d:DI)(f:Addr):Prop:=match d.cl with
 |none=>mg d.name=some (.ref f)
 |some c=>∃C,mg c=some (.ref C)/\Fu K C/\Meth K C d.name f/\(d.name=("__init__" : Str)->Mk K C f)
section
variable{P:Program}{w:World}{K:Nh}{mg:Str->Option Value}{base:Heap}
theorem Gd.up{tb:Tb}{j k:Nat}(G:Gd tb j P w K mg base)(h:j<=k):Gd tb k P w K mg base:=⟨λx f e=>by
 obtain⟨a,fd,ps,F,r⟩:=G.fn x f e;exact⟨a,fd,ps,F.mono h,r⟩,G.cs,G.bl,G.fl,λc f e=>by
 obtain⟨C,a,fd,ps,i,hi,r⟩:=G.im c f e;exact⟨C,a,fd,ps,i,N5 hi h,r⟩,λm c f e=>by
 obtain⟨C,a,fd,ps,F,r⟩:=G.mt m c f e;exact⟨C,a,fd,ps,F.mono h,r⟩⟩
theorem Gd.add{tb:Tb}{k:Nat}(G:Gd tb k P w K mg base){d:DI}{f:Addr}{fd:FuncData}{dV:Value}(m:gv K mg d f)(F:nk K d.name d.qual d.st f fd dV)(hd:uT K dV d.df=true)(hs:fB d=true)(hp:pR d=true)
  (h:qG tb d=some d.m):Gd (tb.add d) (k+2) P w K mg base:=by
 have G2:=G.up (show k<=k+2 by lia);have a:=Dd G F hs h;have s:jv P w K mg fd (d.N.take d.n) d.df:=Fj hp hs F hd;unfold Tb.add;unfold gv at m;split
 .rename_i hc;rw[hc] at m;refine⟨λx fi e=>?_,G2.cs,G2.bl,G2.fl,G2.im,G2.mt⟩
  .have e:((d.name,d.fi)::tb.fns).lookup x=some fi:=e;rw[OC] at e;cases z:x==d.name with
   |true=>rw[z] at e;cases e;rw[beq_iff_eq] at z;subst z;exact⟨f,fd,_,a.mono (Q0 _),m,F.kp,s⟩
   |false=>rw[z] at e;exact G2.fn x fi e
 .rename_i c hc;rw[hc] at m;obtain⟨C,J,V,B,S⟩:=m;split
  .rename_i z;rw[beq_iff_eq] at z;refine⟨G2.fn,G2.cs,G2.bl,G2.fl,λx fi e=>?_,G2.mt⟩;have e:((c,d.fi)::tb.ini).lookup x=some fi:=e;rw[OC] at e;cases y:x==c with
   |true=>rw[y] at e;cases e;rw[beq_iff_eq] at y;subst y;exact⟨C,f,fd,_,k+1,Nr _,a,J,S z,s⟩
   |false=>rw[y] at e;exact G2.im x fi e
  .refine⟨G2.fn,G2.cs,G2.bl,G2.fl,G2.im,λx y fi e=>?_⟩;rcases ND.mp e with e|e
   .cases e;exact⟨C,f,fd,_,a.mono (Q0 _),J,V,B,s⟩
   .exact G2.mt x y fi e
theorem Gd.all:∀{ds:List DI}{tb:Tb}{k:Nat},Gd tb k P w K mg base->(∀d∈ds,∃f fd dV,gv K mg d f/\nk K d.name d.qual d.st f fd dV/\uT K dV d.df=true)->ds.all (λd=>fB d&&pR d)=true->sP tb ds=ds.map (λd=>some d.m)->Gd (rT tb ds) (k+2*ds.length) P w K mg base
 |[],tb,k,G,_,_,_=>G
 |d::ds,tb,k,G,hf,hs,ht=>by rw[Pp,Ni,Ni] at hs;obtain⟨E,S⟩:=Ui ht;obtain⟨f,fd,dV,m,F,hd⟩:=hf d Nu;have:=Gd.all (G.add m F hd hs.1.1 hs.1.2 E) (λe he=>hf e (Nt _ he)) hs.2 S;rw[NM,show k+2*(ds.length+1)=k+2+2*ds.length by lia];exact this
end
noncomputable abbrev wI:=Str×Str×Arguments×FuncBody×Scope×Addr×List (Str×Addr)×Addr×Bool
def HK(K:Nh)(d:DI):Option Addr:=match d.cl with
 |none=>match gV K d.name with
  |some (.ref f)=>some f
  |_=>none
 |some c=>match gV K c with
  |some (.ref C)=>match Pq K (.ref C) d.name with
   |some (some (.ref f))=>some f
   |_=>none
  |_=>none
def Mp(K:Nh)(d:DI)(f:Addr):Bool:=match d.cl with
 |none=>true
 |some c=>match gV K c with
  |some (.ref C)=>l6 K C&&SY K (.ref f)&&(!(d.name==("__init__" : Str)) || (Ud K C&&O4 K (.ref C)))
  |_=>false
def EB(K:Nh)(d:DI):Option wI:=match HK K d with
 |some f=>match K.lookup f with
  |some ⟨_,_,.func x,_⟩=>some (x.name,x.qualname,x.params,x.body,x.scope,x.globals,x.closure,x.builtins,Ri K x.code d.qual&&O4 K (.ref f)&&uT K x.defaults d.df&&Mp K d f)
  |_=>none
 |none=>none
def FP(d:DI):Option wI:=some (d.name,d.qual,cC d.st,.stmts (dr d.st),aN d.st,mainGlobals,[],builtinsNs,true)
theorem zX(X:K.In h)(G:h.Ns mainGlobals mg){d:DI}(e:EB K d=FP d):∃f fd dV,gv K mg d f/\nk K d.name d.qual d.st f fd dV/\uT K dV d.df=true:=by
 unfold EB FP at e;split at e
 .rename_i f P;split at e
  .rename_i o Y x p A;obtain⟨g,N,Q,l,U,I,t,R,Z,n,a,s,r,S,i⟩:=x;simp only[VY,UI] at e;obtain⟨rfl,rfl,rfl,rfl,rfl,rfl,rfl,rfl,hb⟩:=e;simp only[Ni] at hb;obtain⟨⟨⟨q,b⟩,u⟩,L⟩:=hb;refine⟨f,_,_,?_,⟨⟨_,_,_,_,_,_,_,_,_,rfl,A,q⟩,b⟩,u⟩;unfold gv;unfold HK at P;unfold Mp at L;split
   .rename_i hc;rw[hc] at P;simp only at P;split at P
    .rename_i m E;cases P;exact tu X G E
    .cases P
   .rename_i c hc;rw[hc] at P L;simp only at P L;split at P
    .rename_i C E;rw[E] at L;simp only[Ni,OY,NX,beq_eq_false_iff_ne] at L;split at P
     .rename_i m k;cases P;refine⟨C,tu X G E,kT L.1.1,⟨k,L.1.2,b⟩,λz=>?_⟩;rcases L.2 with y|y
      .exact absurd z y
      .rw[z] at k;exact⟨y.1,k,L.1.2,y.2⟩
     .cases P
    .cases P
  .cases e
 .cases e
def Hi(ds:List DI)(h:Nh->Bool)(K:Nh):List (Option wI)×Bool:=(ds.map (EB K),h K)
def Hj(ds:List DI):List (Option wI)×Bool:=(ds.map FP,true)
def hk(ds:List DI)(b:Nh->Bool):UW where
 α:=List (Option wI)×Bool
 obs:=λs=>Hi ds b (W.fK s.heap)
 val:=λ_=>Hj ds
 says:=λ_ h=>∃K:Nh,Hi ds b K=Hj ds/\K.In h
 of:=λ_ s e=>⟨W.fK s.heap,e,W.jJ _⟩
 keeps:=λ_ _ _ ⟨K,e,i⟩ k=>⟨K,e,i.keeps k⟩
variable{ds:List DI}
theorem B4{b:Nh->Bool}(X:K.In h)(G:h.Ns mainGlobals mg)(e:Hi ds b K=Hj ds):b K=true/\∀d∈ds,∃f fd dV,gv K mg d f/\nk K d.name d.qual d.st f fd dV/\uT K dV d.df=true:=by obtain⟨D,F⟩:=Qh e;exact⟨F,λd hd=>zX X G (List.map_eq_map_iff.mp D d hd)⟩
theorem wW{l:Ul}{q:Program}{loose:List Str}{XP:(Str->Option Value)->Heap->Prop}{d:DefRec}{tb:Tb}{di:DI}(hn:l.most=some 63)(U:d.params.defaults=[])(dn:d.name = "law")
  (hs:(ds++[di]).all (λd=>fB d&&pR d)=true)(ht:sP tb ds=ds.map (λd=>some d.m))(hl:qG (rT tb ds) di=some di.m)(o:di.name = "law")(p:di.cl=none)(E:di.df=[])(hx:di.N.take di.n=[x])(t:cY (2+2*ds.length) callerA)
  (hm:∀ns:List Int,ns.length<=63->∃Z,di.M [.fr (.lst (ns.map A.int))]=some (.rt (.fr (.bl true)),Z)):
  UH q loose XP (hk (ds++[di]) (CH tb)).says l.row.toRowW d [] (λf vs=>T5 f vs):=by
 refine W.vh (CX:=zF) (l:=l) (n:=63) (k:=2+2*ds.length) (x:=x) (sp:=yR) hn (by decide) U t (λw mg H h Y G i=>?_) (λ_ _ _ _ _ z=>z) (λ_ _ a ns hl _ g=>⟨a,ns,rfl,g,hl,λ_=>rfl⟩);obtain⟨K,e,L⟩:=Y;obtain⟨D,F⟩:=B4 L G e;refine⟨K,L,?_⟩;rw[List.all_append,Ni] at hs;obtain⟨f,fd,dV,J,c,y⟩:=F di (Nq _ Nu);rw[E] at y;have y:dV=.none:=by cases dV<;>first|rfl|cases y
 subst y;unfold gv at J;rw[dn] at i;rw[p] at J;simp only at J;rw[o,i] at J;cases J;have r:=Oh.mp hs.2 di Nu;rw[Ni] at r;have Q:di.n=1:=by have:=(fH r.1).2;rw[hx] at this;exact this.symm
 refine⟨fd,λs u=>?_,λbase _ _=>?_⟩
 .obtain⟨oc,od,kV,doc,pm,an,cdv,ct,osl,rfl,lk,C⟩:=c.ex;obtain⟨S,R⟩:=fH r.1;have hp:=r.2;unfold pR at hp;simp only[Ni,Px,SH,beq_iff_eq] at hp;obtain⟨⟨⟨⟨h1,h2⟩,h3⟩,h4⟩,h5⟩:=hp;have:=nS (fd:=RL di.name di.qual (cC di.st) (dr di.st) (aN di.st) .none kV doc pm an cdv ct) (us:=[u]) h1 h2 h3 h4 rfl h5 (S.nd.sublist (RZ _ _)) (by rw[hx];rfl);rw[hx] at this;exact .of_eq this
 .have b:=Gd.all (F4 (P:=l.prog) (w:=w) (base:=base) L G D) (λd hd=>F d (NF _ hd)) hs.1 ht;have I:=Dd b c r.1 hl;rw[hx,Q,show 1+2*ds.length+1=2+2*ds.length by lia] at I;exact GH I hm
end M
set_option maxHeartbeats 4000000
namespace W
open PySem L2 M
noncomputable def top(i:Nat):Stmt:=PySem.Challenge.pw_fitwhatever_k21_chains.main.body.getD i (.Pass ⟨0,0,0,0⟩)
abbrev mix(m n:Mi Rr):Mi Rr:=ay zI m n
abbrev ax(i:Int):Mi Rr:=mC (.int i)
abbrev bJ(f:Ms)(m:Mi (List Rr)):Mi Rr:=lV f [] m
abbrev IY(t:Mi Bool):Ms:=cS t (ck (mC (.bl false))) aU
abbrev gp(a:Mi Rr):Mi (List Rr):=gT a cM
abbrev bW(a b:Mi Rr):Mi (List Rr):=gT a (gp b)
abbrev uA(a b c:Mi Rr):Mi (List Rr):=gT a (bW b c)
def iN:Ms:=az (cS (au (ay dg (mix (af 0) (ax 0)) (ax 1))) (az (aF 2 (ay fC (mix (af 0) (ax 1)) (af 1))) (az (jZ 0 (ax 1) (ay kE (mix (af 0) (ax 1)) (af 1))) (ck (af 2)))) aU) (az (aF 3 (ay aB (mix (af 0) (ax 2)) (ax 1))) (az (jZ 0 (ax 2) (af 3)) (az (aF 4 (ay fC (ay dq (ay aB (ay aB (mix (af 0) (ax 1)) (ay dq (ay dq (ax 7919) (af 3)) (af 3))) (af 3)) (ax 48271)) (ax 2305843009213693951))) (ck (ay fC (ay kE (ay fC (ay aB (ay dq (af 4) (ax 1442695040888963407)) (ax 4321)) (ax 2305843009213693921)) (ax 64)) (af 1))))))
def ag:Ms:=bS 3 iN
def j4:Ms:=az (cS (au (ay dg (bJ ag (bW (af 0) (ax 8))) (ax 1))) (ck (bR (bW (ay aB (ax 3) (bJ ag (bW (af 0) (ax 4)))) (ay aB (ax 9) (bJ ag (bW (af 0) (ax 8))))))) aU) (ck (bR (bW (ay aB (ax 1) (bJ ag (bW (af 0) (ax 4)))) (bJ ag (bW (af 0) (ax 9))))))
def eF:Ms:=bS 0 j4
def gZ:Ms:=az (aF 2 (mC (.str "abcdefghijklmnopqrstuvwxyz"))) (az (aF 3 (ye gh (mC (.str "")) (aP 1 (cb (ax 8)) (aJ 13) aO (mix (af 2) (bJ ag (bW (af 0) (ax 26))))))) (az (aF 4 (bJ ag (bW (af 0) (ax 16)))) (az (cS (au (ay wx (af 4) (ax 8))) (az (aF 5 (ye oH (af 2) (mix (af 3) (ax 7)))) (az (aF 6 (cX cM)) (az (da (cb (af 1)) (aJ 7) (az (aF 8 (mix (af 2) (ay fC (ay aB (af 5) (ay dq (ax 3) (af 7))) (ax 26)))) (aY (cD 6 (bw 6 (ay aB (af 8) (nC (af 3) bL (bH (ay fC (ay aB (af 4) (ay dq (ax 3) (af 7))) (ax 8)))))))))) (ck (af 6))))) aU) (az (aF 9 (ay aB (ax 1) (bJ ag (bW (af 0) (ax 8))))) (az (aF 10 (bJ ag (bW (af 0) (aZ 9)))) (az (aF 11 (bJ ag (bW (af 0) (ax 26)))) (az (aF 12 (aP 1 (cb (af 1)) (aJ 13) aO (mix (af 2) (ay fC (ay aB (af 11) (ay dq (ax 3) (af 13))) (ax 26))))) (ck (aP 1 (cj (af 12)) (aJ 13) aO (ay aB (ay aB (nC (af 3) bL (bH (af 10))) (af 13)) (nC (af 3) (bH (ay aB (af 10) (ax 1))) (bH (af 9)))))))))))))
def cP:Ms:=bS 11 gZ
def g7:Ms:=az (aF 2 (cX cM)) (az (da (cj (bJ cP (bW (af 0) (ax 6)))) (aJ 3) (aY (cD 2 (fO 2 (cX (bW (bR (bW (mC (.str "x")) (af 3))) (bR (bW (mC (.str "y")) (af 3))))))))) (ck (aP 1 (cb (af 1)) (aJ 4) aO (fA 2 (bJ ag (bW (af 0) (cU bY (af 2))))))))
def cR:Ms:=bS 2 g7
def fZ:Ms:=az (iw Cv (au (ay iJ (af 1) (ax 0))) (xA 0 1 (bW (af 1) (ay fC (af 0) (af 1))))) (ck (cU wZ (af 0)))
def dO:Ms:=bS 0 fZ
def j6:Ms:=az (cS (au (ay wx (af 1) (ax 0))) (az (aF 0 (ay kD (ax 0) (af 0))) (aF 1 (ay kD (ax 0) (af 1)))) aU) (az (aF 2 (bJ dO (bW (aZ 0) (aZ 1)))) (ck (bR (bW (ay kE (af 0) (af 2)) (ay kE (af 1) (af 2))))))
def eB:Ms:=bS 1 j6
def fX:Ms:=az (aF 1 (bJ ag (bW (af 0) (ax 8)))) (az (cS (au (ay dg (af 1) (ax 7))) (ck (bR (bW (ay kD (bJ ag (bW (af 0) (lL (ay aB (ay dq (ax 2) (ay ix (ax 10) (ax 17))) (ax 1))))) (ay ix (ax 10) (ax 17))) (ax 1)))) aU) (az (cS (au (ay dg (af 1) (ax 6))) (ck (bJ eB (bW (ay kD (bJ ag (bW (af 0) (lL (ay aB (ay dq (ax 2) (ay ix (ax 10) (ax 8))) (ax 1))))) (ay ix (ax 10) (ax 8))) (lL (ay aB (ax 1) (bJ ag (bW (af 0) (ay ix (ax 10) (ax 8))))))))) aU) (az (cS (au (ay Gk (af 1) (ax 3))) (ck (bJ eB (bW (ay kD (bJ ag (bW (af 0) (ax 201))) (ax 100)) (lL (ay aB (ax 1) (bJ ag (bW (af 0) (ax 6)))))))) aU) (ck (bR (bW (ay kD (bJ ag (bW (af 0) (ax 9))) (ax 4)) (ax 1)))))))
def cA:Ms:=bS 1 fX
def iE:Ms:=az (mw (bJ eF (gp (af 0))) (kY 2 (ed (aJ 1) (ed (aJ 2) oW)))) (az (aF 3 (bJ cR (bW (af 0) (aZ 1)))) (az (aF 4 (cX cM)) (az (da (cb (af 2)) (aJ 5) (az (aF 6 (mix (af 3) (bJ ag (bW (af 0) (aZ 1))))) (az (aF 7 (mix (af 3) (bJ ag (bW (af 0) (aZ 1))))) (az (cS (oU (au (ay iJ (af 4) (cX cM))) (au (ay dg (bJ ag (bW (af 0) (ax 5))) (ax 1)))) (mw (nC (mix (af 4) (bJ ag (bW (af 0) (cU bY (af 4))))) bL (bH (ax 2))) (kY 2 (ed (aJ 7) (ed (aJ 6) oW)))) aU) (aY (cD 4 (bw 4 (bR (uA (af 6) (af 7) (bR (bW (bJ cA (gp (af 0))) (bR cM)))))))))))) (ck (af 4)))))
def du:Ms:=bS 7 iE
def f6:Ms:=az (aF 1 mH) (az (aF 2 (aP 1 (cb (cU bY (af 0))) (aJ 6) aO (bR (gp (af 6))))) (az (iw Cv (au (ay iJ (af 2) (cX cM))) (az (aF 3 (qH 2)) (az (aF 4 (mix (mix (af 0) (mix (af 3) (oZ hE (ax 1)))) (ax 1))) (cS (au (ay dg (af 4) (mix (mix (af 0) (mix (af 3) (ax 0))) (ax 0)))) (az (aF 5 (zi (af 3) (cU jD (af 3)))) (oV 1 (ay aB (nC (af 3) (bH (af 5)) bL) (nC (af 3) bL (bH (af 5)))) (mC (.bl true)))) (cS (au (ay (dS true) (af 4) (aP 1 (cj (af 3)) (aJ 6) aO (mix (mix (af 0) (af 6)) (ax 0))))) (aY (cD 2 (fO 2 (aP 1 (cb (cU bY (af 0))) (aJ 6) (au (ay dg (mix (mix (af 0) (af 6)) (ax 0)) (af 4))) (ay aB (af 3) (bR (gp (af 6)))))))) aU))))) (ck (iq 1))))
def cB:Ms:=bS 5 f6
def iM:Ms:=az (aF 2 (ax 0)) (az (cS (au (ay wx (af 1) (cU bY (af 0)))) (aF 2 (mix (af 0) (af 1))) aU) (ck (cX (uA (cU Az (ay Hk (cU wZ (af 2)) (ay ix (ax 10) (ax 18)))) (af 2) (ay dq (ax 17) (af 1))))))
def iF:Ms:=bS 1 iM
def ke:Ms:=ck (gu (ay aB (aP 1 (cj (af 0)) (aJ 1) aO (mix (af 1) (ax 0))) (aP 1 (cj (af 0)) (aJ 1) aO (mix (af 1) (ax 1)))))
def eI:Ms:=bS 0 ke
def eU:Ms:=xi
def fc:Ms:=bS 2 eU
def eX:Ms:=az (aF 3 (mix (mix (af 0) (mix (af 1) (oZ hE (ax 1)))) (ax 1))) (cS (au (ay dg (af 3) (mix (mix (af 0) (mix (af 1) (ax 0))) (ax 0)))) (aY (cD 2 (bw 2 (af 1)))) (cS (au (ay (dS true) (af 3) (aP 1 (cj (af 1)) (aJ 5) aO (mix (mix (af 0) (af 5)) (ax 0))))) (da (f9 (ay aB (mix (af 1) (ax 0)) (ax 1)) (cU bY (af 0))) (aJ 4) (cS (au (ay dg (mix (mix (af 0) (af 4)) (ax 0)) (af 3))) (aY (bJ fc (uA (aZ 0) (lL (ay aB (af 1) (bR (gp (af 4))))) (af 2)))) aU)) aU))
def i5:Ms:=bS 2 eX
def eZ:Ms:=az (aF 3 (mix (mix (af 0) (mix (af 1) (oZ hE (ax 1)))) (ax 1))) (cS (au (ay dg (af 3) (mix (mix (af 0) (mix (af 1) (ax 0))) (ax 0)))) (aY (cD 2 (bw 2 (af 1)))) (cS (au (ay (dS true) (af 3) (aP 1 (cj (af 1)) (aJ 5) aO (mix (mix (af 0) (af 5)) (ax 0))))) (da (f9 (ay aB (mix (af 1) (ax 0)) (ax 1)) (cU bY (af 0))) (aJ 4) (cS (au (ay dg (mix (mix (af 0) (af 4)) (ax 0)) (af 3))) (aY (bJ i5 (uA (aZ 0) (lL (ay aB (af 1) (bR (gp (af 4))))) (af 2)))) aU)) aU))
def iT:Ms:=bS 2 eZ
def eQ:Ms:=az (aF 3 (mix (mix (af 0) (mix (af 1) (oZ hE (ax 1)))) (ax 1))) (cS (au (ay dg (af 3) (mix (mix (af 0) (mix (af 1) (ax 0))) (ax 0)))) (aY (cD 2 (bw 2 (af 1)))) (cS (au (ay (dS true) (af 3) (aP 1 (cj (af 1)) (aJ 5) aO (mix (mix (af 0) (af 5)) (ax 0))))) (da (f9 (ay aB (mix (af 1) (ax 0)) (ax 1)) (cU bY (af 0))) (aJ 4) (cS (au (ay dg (mix (mix (af 0) (af 4)) (ax 0)) (af 3))) (aY (bJ iT (uA (aZ 0) (lL (ay aB (af 1) (bR (gp (af 4))))) (af 2)))) aU)) aU))
def i4:Ms:=bS 2 eQ
def fh:Ms:=az (aF 3 (mix (mix (af 0) (mix (af 1) (oZ hE (ax 1)))) (ax 1))) (cS (au (ay dg (af 3) (mix (mix (af 0) (mix (af 1) (ax 0))) (ax 0)))) (aY (cD 2 (bw 2 (af 1)))) (cS (au (ay (dS true) (af 3) (aP 1 (cj (af 1)) (aJ 5) aO (mix (mix (af 0) (af 5)) (ax 0))))) (da (f9 (ay aB (mix (af 1) (ax 0)) (ax 1)) (cU bY (af 0))) (aJ 4) (cS (au (ay dg (mix (mix (af 0) (af 4)) (ax 0)) (af 3))) (aY (bJ i4 (uA (aZ 0) (lL (ay aB (af 1) (bR (gp (af 4))))) (af 2)))) aU)) aU))
def i6:Ms:=bS 2 fh
def eM:Ms:=az (aF 3 (mix (mix (af 0) (mix (af 1) (oZ hE (ax 1)))) (ax 1))) (cS (au (ay dg (af 3) (mix (mix (af 0) (mix (af 1) (ax 0))) (ax 0)))) (aY (cD 2 (bw 2 (af 1)))) (cS (au (ay (dS true) (af 3) (aP 1 (cj (af 1)) (aJ 5) aO (mix (mix (af 0) (af 5)) (ax 0))))) (da (f9 (ay aB (mix (af 1) (ax 0)) (ax 1)) (cU bY (af 0))) (aJ 4) (cS (au (ay dg (mix (mix (af 0) (af 4)) (ax 0)) (af 3))) (aY (bJ i6 (uA (aZ 0) (lL (ay aB (af 1) (bR (gp (af 4))))) (af 2)))) aU)) aU))
def iU:Ms:=bS 2 eM
def fg:Ms:=az (aF 3 (mix (mix (af 0) (mix (af 1) (oZ hE (ax 1)))) (ax 1))) (cS (au (ay dg (af 3) (mix (mix (af 0) (mix (af 1) (ax 0))) (ax 0)))) (aY (cD 2 (bw 2 (af 1)))) (cS (au (ay (dS true) (af 3) (aP 1 (cj (af 1)) (aJ 5) aO (mix (mix (af 0) (af 5)) (ax 0))))) (da (f9 (ay aB (mix (af 1) (ax 0)) (ax 1)) (cU bY (af 0))) (aJ 4) (cS (au (ay dg (mix (mix (af 0) (af 4)) (ax 0)) (af 3))) (aY (bJ iU (uA (aZ 0) (lL (ay aB (af 1) (bR (gp (af 4))))) (af 2)))) aU)) aU))
def iS:Ms:=bS 2 fg
def eN:Ms:=az (aF 3 (mix (mix (af 0) (mix (af 1) (oZ hE (ax 1)))) (ax 1))) (cS (au (ay dg (af 3) (mix (mix (af 0) (mix (af 1) (ax 0))) (ax 0)))) (aY (cD 2 (bw 2 (af 1)))) (cS (au (ay (dS true) (af 3) (aP 1 (cj (af 1)) (aJ 5) aO (mix (mix (af 0) (af 5)) (ax 0))))) (da (f9 (ay aB (mix (af 1) (ax 0)) (ax 1)) (cU bY (af 0))) (aJ 4) (cS (au (ay dg (mix (mix (af 0) (af 4)) (ax 0)) (af 3))) (aY (bJ iS (uA (aZ 0) (lL (ay aB (af 1) (bR (gp (af 4))))) (af 2)))) aU)) aU))
def eV:Ms:=bS 2 eN
def iQ:Ms:=az (aF 1 (cX cM)) (az (da (cb (cU bY (af 0))) (aJ 2) (aY (bJ eV (uA (aZ 0) (bR (gp (af 2))) (af 1))))) (ck (af 1)))
def dE:Ms:=bS 2 iQ
def dA:Ms:=az (IY (mV (au (cU (jW Ty.list) (af 0))))) (az (da (cj (af 0)) (aJ 1) (IY (zE (mV (au (cU (jW Ty.tuple) (af 1)))) (au (ay (dS false) (mC (.bl false)) (aP 1 (cj (af 1)) (aJ 2) aO (nX (cU (jW Ty.int) (af 2)) (tG (cU (jW Ty.bool) (af 2)))))))))) (ck (mC (.bl true))))
def aK:Ms:=bS 1 dA
def Dp:Ms:=az (da (cb (Cr B6 (ax 1) (Cr AU (cU bY (af 0)) (ax 4)))) (aJ 1) (az (aF 2 (mF du [] (gp (bJ iF (bW (aZ 0) (aZ 1)))))) (az (aF 3 (gu (ay aB (aP 1 (cj (af 2)) (aJ 9) aO (mix (af 9) (ax 0))) (aP 1 (cj (af 2)) (aJ 9) aO (mix (af 9) (ax 1)))))) (az (aF 4 (bJ cB (gp (aZ 2)))) (az (aF 5 (cU rP (af 2))) (az (da (cb (ax 2)) (aJ 6) (az (aF 7 (bJ eI (gp (aZ 5)))) (az (aF 8 (bJ dE (gp (aZ 5)))) (az (IY (zE (mV (au (cU (jW Ty.list) (af 7)))) (zE (au (ay iJ (af 7) (af 3))) (zE (mV (au (lV (iO 0 aK) [] (gp (af 8))))) (au (ay iJ (af 8) (af 4))))))) (az (aY (gD 7)) (aY (gD 8))))))) (IY (au (ay iJ (af 5) (af 2)))))))))) (ck (nX (ay dg (bJ eI (gp (lL (cX cM)))) (cX cM)) (ay dg (bJ dE (gp (lL (cX cM)))) (cX cM))))
def Ct:Ms:=bS 8 Dp
noncomputable def E6:Tb:={ fns:=[],cst:=[],exs:=[],kit:=[],exm:=[],fld:=[],ini:=[],mts:=[] }
def zU:List DI:=[
 ⟨none, "_law_take",top 6,["_law_well_here", "_law_many", "_law_digit", "_law_turn", "_law_number_here"],2,[],[true,false],[],[],iN,[],false,false⟩,
 ⟨none, "_law_few",top 16,["_law_well_here"],1,[],[true],[],[],j4,[],false,false⟩,
 ⟨none, "_law_words",top 14,["_law_well_here", "_law_many", "_law_letters", "_law_base", "_law_start", "_law_at", "_law_words_here", "_law_k", "_law_letter", "_law_long", "_law_spot", "_law_first", "_law_some"],2,[],[true,false],[],[],gZ,[],false,false⟩,
 ⟨none, "_law_nodes",top 15,["_law_well_here", "_law_many", "_law_left", "_law_word"],2,[],[true,false],[],[],g7,[],false,false⟩,
 ⟨none, "_law_common",top 7,["_law_one", "_law_other"],2,[],[false,false],[],[],fZ,[],false,false⟩,
 ⟨none, "_law_num",top 8,["_law_top", "_law_bottom", "_law_by"],2,[],[false,false],[],[],j6,[],false,false⟩,
 ⟨none, "_law_number",top 13,["_law_well_here", "_law_way"],1,[],[true],[],[],fX,[],false,false⟩,
 ⟨none, "_law_gaps",top 18,["_law_well_here", "_law_nodes_here", "_law_many", "_law_some", "_law_gaps_here", "_law_k", "_law_low", "_law_high"],1,[],[true],[],[],iE,[],false,false⟩,
 ⟨none, "_law_chains",top 17,["_law_gaps_here", "_law_found", "_law_ways", "_law_way", "_law_here", "_law_at"],1,["_law_found"],[false],[],["_law_found"],f6,[],false,false⟩,
 ⟨none, "_law_well",top 5,["_law_script", "_law_k", "_law_cell"],2,[],[false,false],[],[],iM,[],false,false⟩,
 ⟨none, "nodes_of",top 1,["gaps"],1,[],[false],[],[],ke,[],false,false⟩,
 ⟨none, "find_chains",top 3,["gaps", "path", "chains", "end", "k"],3,[],[false,false,true],[],[],eU,[],false,true⟩,
 ⟨none, "find_chains",top 3,["gaps", "path", "chains", "end", "k"],3,[],[false,false,true],[],[],eX,[],false,false⟩,
 ⟨none, "find_chains",top 3,["gaps", "path", "chains", "end", "k"],3,[],[false,false,true],[],[],eZ,[],false,false⟩,
 ⟨none, "find_chains",top 3,["gaps", "path", "chains", "end", "k"],3,[],[false,false,true],[],[],eQ,[],false,false⟩,
 ⟨none, "find_chains",top 3,["gaps", "path", "chains", "end", "k"],3,[],[false,false,true],[],[],fh,[],false,false⟩,
 ⟨none, "find_chains",top 3,["gaps", "path", "chains", "end", "k"],3,[],[false,false,true],[],[],eM,[],false,false⟩,
 ⟨none, "find_chains",top 3,["gaps", "path", "chains", "end", "k"],3,[],[false,false,true],[],[],fg,[],false,false⟩,
 ⟨none, "find_chains",top 3,["gaps", "path", "chains", "end", "k"],3,[],[false,false,true],[],[],eN,[],false,false⟩,
 ⟨none, "chains_of",top 2,["gaps", "chains", "first"],1,[],[false],[],[],iQ,[],false,false⟩,
 ⟨none, "_law_are_chains",top 19,["_law_found", "_law_chain"],1,[],[false],[],[],dA,[],false,false⟩]
def kH:DI:=⟨none, "law",top 20,["_law_script", "_law_k", "_law_gaps_here", "_law_nodes_here", "_law_due", "_law_handed", "_law_turn", "_law_told", "_law_found"],1,[],[false],[],["_law_found"],Dp,[],false,false⟩
theorem DU:sP E6 zU=zU.map (λd=>some d.m):=by kernel_rfl
theorem F9:qG (rT E6 zU) kH=some kH.m:=by kernel_rfl
theorem GV:(zU++[kH]).all (λd=>fB d&&pR d)=true:=by decide +kernel
end W
section
open PySem PySem.W PyProof.Rows L2
set_option maxRecDepth 100000 in
theorem W.hl:LeftO PySem.Challenge.rw_fitwhatever_k21_chains.row.prog (W.IB PySem.Challenge.pw_fitwhatever_k21_chains) (W.sN PySem.Challenge.pw_fitwhatever_k21_chains) (λs=>xlAt (W.IB PySem.Challenge.pw_fitwhatever_k21_chains) [] s&&recOk PySem.Challenge.rw_fitwhatever_k21_chains.row.records s) (Hook.obs (M.hk (W.zU++[W.kH]) (M.CH W.E6))) (Hook.val (M.hk (W.zU++[W.kH]) (M.CH W.E6))) 20000:=W.vD λw=>by kernel_rfl
set_option maxRecDepth 100000 in
set_option maxHeartbeats 0 in
theorem W.fin(LT:∀ns:List Int,ns.length<=63->∃Z,W.kH.M [.fr (.lst (ns.map M.A.int))]=some (.rt (.fr (.bl true)),Z)):PySem.Challenge.rw_fitwhatever_k21_chains.Holds:=by
 w_on
 refine holds_law (by decide +kernel) λh=>?_
 refine holds_open (q:=W.IB PySem.Challenge.pw_fitwhatever_k21_chains) (loose:=W.sN PySem.Challenge.pw_fitwhatever_k21_chains) (Xt:=λs=>xlAt (W.IB PySem.Challenge.pw_fitwhatever_k21_chains) [] s&&recOk (RowW.records _) s) (XP:=XL (W.IB PySem.Challenge.pw_fitwhatever_k21_chains) []) (Yf:=Hook.obs (M.hk (W.zU++[W.kH]) (M.CH W.E6))) (Ya:=Hook.val (M.hk (W.zU++[W.kH]) (M.CH W.E6))) (YP:=Hook.says (M.hk (W.zU++[W.kH]) (M.CH W.E6))) (N:=20000) W.hl (Hook.of _) (Hook.keeps _) (λs e=>xl_of s (TZ.mp e).1) XL.keeps (by rfl) (by rfl) (by rfl) (λs e=>recFacts_of (TZ.mp e).2) (by rfl) h (by decide +kernel) ⟨rfl,rfl,rfl,rfl,rfl,by decide +kernel⟩ ?hw ?hc
 case hw=>w_witness2
 case hc=>exact M.wW rfl rfl rfl W.GV W.DU W.F9 rfl rfl rfl rfl ⟨rfl,by decide,by decide⟩ LT
end
set_option maxHeartbeats 1000000
set_option exponentiation.threshold 100000
namespace W
open PySem L2 M
inductive X2{α β:Type}(p:α->β->Prop):Prop|mk(a:α)(b:β)(h:p a b)
inductive X3{α β γ:Type}(p:α->β->γ->Prop):Prop|mk(a:α)(b:β)(c:γ)(h:p a b c)
inductive X5{α β γ δ ε:Type}(p:α->β->γ->δ->ε->Prop):Prop|mk(a:α)(b:β)(c:γ)(d:δ)(e:ε)(h:p a b c d e)
inductive N3(a b c:Prop):Prop|mk(x:a)(y:b)(z:c)
inductive N4(a b c d:Prop):Prop|mk(x:a)(y:b)(z:c)(w:d)
inductive N6(a b c d e f:Prop):Prop|mk(x:a)(y:b)(z:c)(w:d)(u:e)(v:f)
variable{x:Rr}{Z:List Sl}{i:Int}
theorem bt{xs:List A}{a:A}(h:res Z x=some (.lst xs)\/res Z x=some (.tup xs))(e:fk xs i=some a):ir zI x (.fr (.int i)) Z=some (.ok (.fr a),Z):=by unfold ir;rcases h with h|h<;>rw[h]<;>simp only[res,zI,e]
variable{U:List Sl}{s:Sl}
theorem Wp.sr{m n:Ms}{Q:Fl->List Sl->Prop}(h:m Z=some (.rt s,U))(q:Q (.rt s) U):Wp (az m n) Z Q:=⟨_,_,by unfold az;rw[h],q⟩
theorem iu{t:Mi Bool}{m n:Ms}{r:Option (Fl×List Sl)}(h:t Z=some (.ok true,U))(k:m U=r):cS t m n Z=r:=sk h k
theorem fj{t:Mi Bool}{m n:Ms}{r:Option (Fl×List Sl)}(h:t Z=some (.ok false,U))(k:n U=r):cS t m n Z=r:=sk h k
theorem yD(i j:Int)(Z:List Sl):ir dg (.fr (.int i)) (.fr (.int j)) Z=some (.ok (.fr (.bl (decide (i=j)))),Z):=by simp only[ir,res,dg,sV]
theorem dB{m n:Ms}{r:Option (Fl×List Sl)}(h:m Z=some (.nx,U))(k:n U=r):az m n Z=r:=by unfold az;rw[h];exact k
variable{m:Mi Rr}{Z0:List Sl}{r:Rr}
theorem xg{i:Nat}(w:Ce Z i=true)(h:m Z=some (.ok x,U))(k:Kk i x U=some (.ok r,Z0)):cD i (fO i m) Z=some (.ok r,Z0):=by exact(if_pos w).trans (bk h k)
theorem DQ{i:Nat}{a:Sl}(h:vm r Z=some (a,U))(k:U[i]?=some s)(hn:np s=true)(e:U.set i a=Z0):zT i r Z=some (.nx,Z0):=by rw[JC h k hn,e]
variable{G:Mg}{e:Mi Rr}
theorem cu{n:Nat}{x:Mi (List A)}{t:Mi Bool}{as:List A}(h:x Z=some (.ok as,U))(k:fF n G t e as U=some (.ok r,Z0)):aP n x G t e Z=some (.ok r,Z0):=bk h k
theorem br{i:Nat}{a:Sl}(h:m Z=some (.ok r,U))(h1:vm r U=some (a,U))(k:U[i]?=some s)(hn:np s=true)(e:U.set i a=Z0):aF i m Z=some (.nx,Z0):=ya h (DQ h1 k hn e)
theorem qN{i:Nat}{a:A}{xs:List A}(w:Ce Z i=true)(h:m Z=some (.ok x,U))(k:bg x U=some (a,U))(l:aM U i=some (.lst xs))(hl:xs.length<=16000000)(e:setAt U i (.lst (xs++[a]))=Z0):aY (cD i (bw i m)) Z=some (.nx,Z0):=by refine eE (r:=.fr .non) ((if_pos w).trans (bk h ?_));rw[k];dsimp only;rw[l];dsimp only;rw[if_pos hl,e]
variable{y:Rr}
theorem fu{o:Option (Except Str Rr×List Sl)}{f:A->A->Option Rr}{a b:A}(h1:res Z x=some a)(h2:res Z y=some b)(k:f a b=some r):ir f x y Z=some (.ok r,Z):=by unfold ir;rw[h1,h2];dsimp only;rw[k]
variable{j:Int}{b:Bool}
theorem wL(h:decide (i=j)=b)(Z:List Sl):ir iJ (.fr (.int i)) (.fr (.int j)) Z=some (.ok (.fr (.bl (!b))),Z):=by rw[<-h];simp only[ir,res,iJ,sV]
theorem nv(h:decide (i=j)=b)(Z:List Sl):ir dg (.fr (.int i)) (.fr (.int j)) Z=some (.ok (.fr (.bl b)),Z):=by rw[<-h];exact yD i j Z
theorem fq(h:j≠0)(Z:List Sl):ir fC (.fr (.int i)) (.fr (.int j)) Z=some (.ok (.fr (.int (i.fmod j))),Z):=fu (o:=none) rfl rfl (if_pos (by simpa using h))
theorem l8(h:j≠0)(f:fits 9000 j=true)(Z:List Sl):ir kE (.fr (.int i)) (.fr (.int j)) Z=some (.ok (.fr (.int (i.fdiv j))),Z):=fu (o:=none) rfl rfl (if_pos (by rw[f];simpa using h))
theorem Cp(h:fits 20000 i=true)(k:fits 20000 j=true)(Z:List Sl):ir dq (.fr (.int i)) (.fr (.int j)) Z=some (.ok (.fr (.int (i*j))),Z):=by have e:sI (.int i) (.int j)=some (.fr (.int (i*j))):=if_pos (by rw[h,k];rfl);refine fu (o:=none) rfl rfl ?_;unfold dq zD;rw[e]
theorem ft{n m:Nat}(h:L2.Bd n i)(k:n<=m):fits m i=true:=eD h k
theorem ug{f:A->Option Rr}{a:A}(h:res Z x=some a)(k:f a=some r):Ld f x Z=some (.ok r,Z):=by unfold Ld;rw[h];dsimp only;rw[k]
theorem iH{as:List A}(h:m Z=some (.ok x,U))(k:K1 x U=some (.ok as,Z0)):cj m Z=some (.ok as,Z0):=bk h k
theorem Cg{n:Nat}{t:Mi Bool}{b:Ms}{r:Option (Fl×List Sl)}(h:dN t b n Z=r):iw n t b Z=r:=h
theorem Gv{i j:Nat}{ms:Mi (List Rr)}{rs:List Rr}{r:Option (Fl×List Sl)}(h:ms Z=some (.ok rs,U))(k:As i j rs U=r):xA i j ms Z=r:=sk h k
variable{mk:Mi Rr}{Z1:List Sl}{rk:Rr}
theorem CU{i:Nat}{q:Option (Fl×List Sl)}(h:m Z=some (.ok r,Z1))(l:Ce Z1 i=true)(hk:mk Z1=some (.ok rk,U))(k:M0 i r rk U=q):jZ i mk m Z=q:=sk h ((if_pos l).trans (sk hk k))
theorem yV{x y:Int}(hb:L2.Bd 9000 y):Val dO [.int x,.int y] (.int (Po x y)):=by
 obtain⟨O,h1,q,rfl,j⟩:=lK (t:=au (ay iJ (af 1) (ax 0))) (b:=xA 0 1 (bW (af 1) (ay fC (af 0) (af 1)))) (n:=Cv)
  (P:=λk Z=>X2 λp q=>N3 (Z=[.fr (.int p),.fr (.int q)]) (k=q.natAbs) (Po p q=Po x y))
  (Q:=λZ=>∃p,Z=[.fr (.int p),.fr (.int 0)]/\Po p 0=Po x y) (by
   rintro k Z ⟨p,q,rfl,rfl,h1⟩;by_cases z:q=0
   .subst z;exact .inl ⟨_,aR (ao rfl rfl (wL rfl _)),p,rfl,h1⟩
   .exact .inr ⟨_,[.fr (.int q),.fr (.int (p.fmod q))],_,aR (ao rfl rfl (wL (decide_eq_false z) _)),.inl (Gv (aA rfl (aA (ao rfl rfl (fq z _)) rfl)) rfl),xy p z,q,p.fmod q,rfl,rfl,by rw[vH,h1]⟩) ⟨x,y,rfl,rfl,rfl⟩ (xQ (Nn hb (O7 (by decide) (by decide))))
 have e:(if q<0 then -q else q)=(Po x y:Int):=by rw[<-j,Int.gcd_zero_right];split<;>lia
 exact Val.of (Wp.df (Wp.st (Cg h1) (Wp.en (bu (kb rfl (ug (r:=.fr (.int (Po x y))) rfl (by rw[<-e];rfl))) rfl) rfl)))
theorem DM{t b:Int}(h:b≠0)(hb:L2.Bd 9000 b):∃x:Num,Val eB [.int t,.int b] (nm x):=by
 have V:∀t b:Int,b≠0->L2.Bd 9000 b->∀Z,Wp (az (aF 2 (bJ dO (bW (aZ 0) (aZ 1)))) (ck (bR (bW (ay kE (af 0) (af 2)) (ay kE (af 1) (af 2)))))) (.fr (.int t)::.fr (.int b)::.un::Z) λg _=>g=.rt (.fr (nm (t.fdiv (Po t b),b.fdiv (Po t b)))):=λt b h hb Z=>by
  have h1:Po t b<=b.natAbs:=Int.gcd_le_natAbs_right _ h;have w:(Po t b:Int)≠0:=by simpa using λz:Po t b=0=>h (Int.gcd_eq_zero_iff.mp z).2
  have f:fits 9000 (Po t b:Int)=true:=eD (show L2.Bd 9000 (Po t b:Int) from O5 (by simpa using h1) hb) (Nr _);exact Wp.st (br (aC rfl (s9 (yV hb) _)) rfl rfl rfl rfl) (Wp.en (bu (dJ (aA (ao rfl rfl (l8 w f _)) (aA (ao rfl rfl (l8 w f _)) rfl)) rfl) rfl) rfl)
 have X:∀c,decide (b<0)=c->au (ay wx (af 1) (ax 0)) [.fr (.int t),.fr (.int b),.un]=some (.ok c,[.fr (.int t),.fr (.int b),.un]):=by rintro c rfl;rfl
 by_cases c:b<0
 .exact⟨_,Val.of (Wp.df (Wp.st (iu (X true (decide_eq_true c)) (dB (br rfl rfl rfl rfl rfl) (br rfl rfl rfl rfl rfl))) (Wp.mono (V (0-t) (0-b) (by lia) (by rw[Int.zero_sub];exact hb.neg) []) λf _ e=>by rw[e])))⟩
 .exact⟨_,Val.of (Wp.df (Wp.st (fj (X false (decide_eq_false c)) rfl) (Wp.mono (V t b h hb []) λf _ e=>by rw[e])))⟩
def Wl(n:Int)(o:LO):Prop:=X3 λ(f c t:Int)=>N4 (o=.lst [.int f,.int c,.int t]) (f=0\/f=1) (f=0->c.natAbs<10^18) (0<=t/\t<=n)
variable{o:LO}
theorem Wl.mono{n m:Int}(h:Wl n o)(k:n<=m):Wl m o:=by obtain⟨f,c,t,h1,h2,h3,h4,h5⟩:=h;exact⟨f,c,t,h1,h2,h3,h4,by lia⟩
theorem qB(h:i.natAbs<2^64):fits 20000 i=true:=eD h (by decide)
theorem Gi{n:Int}{m:Int}(w:Wl n o)(hn:n<2^40)(B:0<m)(J:m<2^64):X2 λr o'=>N4 (cZ ag o [.int m] (.fr (.int r)) o') (0<=r) (r<m) (Wl (n+1) o'):=by
 suffices ∃s o',cZ ag o [.int m] s o'/\∃r,N4 (s=.fr (.int r)) (0<=r) (r<m) (Wl (n+1) o') by obtain⟨s,o',v,r,rfl,h1,h2,h3⟩:=this;exact⟨r,o',v,h1,h2,h3⟩
 obtain⟨f,c,t,rfl,hf,hc,k,E⟩:=w
 have h:m≠0:=by lia
 refine cZ.of (Wp.df ?_)
 have X:∀b,decide (f=1)=b->∀Z,au (ay dg (mix (af 0) (ax 0)) (ax 1)) (.pv (.lst [.int f,.int c,.int t])::Z)=some (.ok b,.pv (.lst [.int f,.int c,.int t])::Z):=λb hb Z=>aR (ao (ao rfl rfl (bt (.inl rfl) rfl)) rfl (nv hb _))
 rcases hf with rfl|rfl
 .have hc:=hc rfl
  have e:L2.Bd 128 (7919*(t+1)*(t+1)):=L2.Bd.mul (show (7919*(t+1)).natAbs<2^64 by lia) (show (t+1).natAbs<2^64 by lia)
  have N:L2.Bd 130 (c+7919*(t+1)*(t+1)+(t+1)):=((L2.Bd.add (show c.natAbs<2^128 by lia) e).add (show (t+1).natAbs<2^128 by lia)).mono (by decide)
  have D:∀i:Int,(i.fmod 2305843009213693951).natAbs<2^64:=λi=>by have q:=Rq i (b:=2305843009213693951) (by decide);have p:=RX i (b:=2305843009213693951) (by decide);rw[S7 _ (by decide)];lia
  refine Wp.st (fj (X false rfl _) rfl) ?_
  refine Wp.st (br (ao (ao rfl rfl (bt (.inl rfl) rfl)) rfl rfl) rfl rfl rfl rfl) ?_
  refine Wp.st (CU rfl rfl rfl rfl) ?_
  refine Wp.st (br (ao (ao (ao (ao (ao rfl rfl (bt (.inl rfl) rfl)) (ao (ao rfl rfl (Cp (qB (by decide)) (qB (by lia)) _)) rfl (Cp (qB (by lia)) (qB (by lia)) _)) rfl) rfl rfl) rfl (Cp (ft N (by decide)) (qB (by decide)) _)) rfl (fq (by decide) _)) rfl rfl rfl rfl) ?_
  exact Wp.en (bu (ao (ao (ao (ao (ao rfl rfl (Cp (qB (D _)) (qB (by decide)) _)) rfl rfl) rfl (fq (by decide) _)) rfl (l8 (by decide) (eD (show (64:Int).natAbs<2^64 by decide) (by decide)) _)) rfl (fq h _)) rfl) ⟨_,_,_,rfl,rfl,_,rfl,Rk _ B,RW _ B,0,c,t+1,rfl,.inl rfl,λ_=>hc,by lia,by lia⟩
 .have x:∀Z,mix (af 0) (ax 1) (.pv (.lst [.int 1,.int c,.int t])::Z)=some (.ok (.fr (.int c)),.pv (.lst [.int 1,.int c,.int t])::Z):=λZ=>ao rfl rfl (bt (.inl rfl) rfl)
  exact Wp.sr (iu (X true rfl _) (dB (br (ao (x _) rfl (fq h _)) rfl rfl rfl rfl) <| dB (CU (ao (x _) rfl (l8 h (eD (show m.natAbs<2^64 by lia) (by decide)) _)) rfl rfl rfl) (bu rfl rfl))) ⟨_,.lst [.int 1,.int (c.fdiv m),.int t],_,rfl,rfl,_,rfl,Rk c B,RW c B,1,c.fdiv m,t,rfl,.inr rfl,λz=>by lia,k,by lia⟩
variable{f:Ms}{o':LO}
theorem Ih{as:List A}(h:cZ f o as s o')(t:fW s=some r):∀Z,dw f [] (.rf 0::as.map Rr.fr) (.pv o::Z)=some (.ok r,.pv o'::Z):=λZ=>BK h t rfl
theorem tk{n:Int}(m:Int)(w:Wl n o)(hn:n<2^40)(B:0<m)(J:m<2^64):X2 λr o'=>N4 (∀Z,dw ag [] [.rf 0,.fr (.int m)] (.pv o::Z)=some (.ok (.fr (.int r)),.pv o'::Z)) (0<=r) (r<m) (Wl (n+1) o'):=by obtain⟨r,o',h,h1,h2,h3⟩:=Gi w hn B J;exact⟨r,o',Ih h rfl,h1,h2,h3⟩
theorem pw(k v:Int)(h:0<=k/\k<=1000000/\(10:Int).natAbs<2^64)(e:(10:Int)^k.toNat=v)(Z:List Sl):ay ix (ax 10) (mC (.int k)) Z=some (.ok (.fr (.int v)),Z):=
 ao rfl rfl (fu (o:=none) rfl rfl (by rw[<-e];exact if_pos h))
theorem FC(ns:List Int)(k:Int)(s:0<=k)(r:k<=1000):∃o,jH iF [.lst (ns.map A.int),.int k] o/\Wl 17000 o:=by
 have V:∀c:Int,Wl 17000 (.lst [.int (if decide (1000000000000000000<=(if c<0 then -c else c))=true then 1 else 0),.int c,.int (17*k)]):=λc=>by
  refine⟨_,c,17*k,rfl,?_,λz=>?_,by lia,by lia⟩
  .generalize decide (1000000000000000000<=(if c<0 then -c else c))=d;cases d
   .exact .inl rfl
   .exact .inr rfl
  .by_cases h:1000000000000000000<=(if c<0 then -c else c)
   .simp[h] at z
   .split at h<;>lia
 have fin:∀c:Int,Wp (ck (cX (uA (cU Az (ay Hk (cU wZ (af 2)) (ay ix (ax 10) (ax 18)))) (af 2) (ay dq (ax 17) (af 1))))) [.fr (.lst (ns.map A.int)),.fr (.int k),.fr (.int c)] λg _=>g=.rt (.lv (.lst [.int (if decide (1000000000000000000<=(if c<0 then -c else c))=true then 1 else 0),.int c,.int (17*k)])):=λc=>Wp.en (bu (DL (aA (kb (ao rfl (pw 18 1000000000000000000 (by decide) (by decide) _) rfl) rfl) (aA rfl (aA (ao rfl rfl (Cp (qB (by decide)) (qB (by lia)) _)) rfl))) rfl) rfl) rfl
 have X:∀b,decide (k<((ns.map A.int).length:Int))=b->au (ay wx (af 1) (cU bY (af 0))) [.fr (.lst (ns.map A.int)),.fr (.int k),.fr (.int 0)]=some (.ok b,[.fr (.lst (ns.map A.int)),.fr (.int k),.fr (.int 0)]):=by rintro b rfl;rfl
 by_cases hk:k<((ns.map A.int).length:Int)
 .obtain⟨j,rfl⟩:∃j:Nat,k=j:=⟨k.toNat,by lia⟩
  have v:j<ns.length:=by rw[Nl] at hk;lia
  exact⟨_,jH.of (Wp.df (Wp.st rfl (Wp.st (iu (X true (decide_eq_true hk)) (br (ao rfl rfl (bt (.inl rfl) (eJ (by rw[NS,Nx v];rfl)))) rfl rfl rfl rfl)) (Wp.mono (fin ns[j]) λf _ e=>by rw[e])))),V ns[j]⟩
 .exact⟨_,jH.of (Wp.df (Wp.st rfl (Wp.st (fj (X false (decide_eq_false hk)) rfl) (Wp.mono (fin 0) λf _ e=>by rw[e])))),V 0⟩
theorem ik{i:Nat}{x:Sl}{t:Sl}(hi:Z1.length=i)(hx:∀o,x≠Sl.pv o):put i t (Z1++[x])=some (Z1++[t]):=by
 subst hi;unfold put;rw[Oa (Nr _),Se];simp only[List.getElem?_cons_zero];have e:(Z1++[x]).set Z1.length t=Z1++[t]:=by rw[TC _ _ (Nr _),Se];rfl
 cases x with
 |pv o=>exact absurd rfl (hx o)
 |un=>simp only[e]
 |fr a=>simp only[e]
 |lv o=>simp only[e]
variable{T:Type}
theorem cT{i:Nat}{ts:List T}(k g:T->A)(hi:Z1.length=i)(hl:ts.length<=100000)(h:∀t∈ts,∃r,e (Z1++[.fr (k t)])=some (.ok r,Z1++[.fr (k t)])/\bg r (Z1++[.fr (k t)])=some (g t,Z1++[.fr (k t)])):
  fF 1 (aJ i) aO e (ts.map k) Z1=some (.ok (.nw (.lst (ts.map g))),Z1):=by
 obtain⟨ys,O,h1,x,rfl,_,rfl⟩:=fR (G:=aJ i) (t:=aO) (as:=ts.map k)
  (λj acc Z=>∃x:Sl,N3 (Z=Z1++[x]) (∀o,x≠Sl.pv o) (acc=(ts.take j).map g)) ⟨.un,rfl,(λo z=>by cases z),rfl⟩ (by
   rintro j q acc Z R ⟨x,rfl,hx,rfl⟩;rw[NS] at R;cases a:ts[j]? with
   |none=>rw[a] at R;cases R
   | some t=>rw[a] at R;cases R;obtain⟨r,V,y⟩:=h t (NV a);refine⟨Z1++[Sl.fr (k t)],(show put i (.fr (k t)) (Z1++[x])=some (Z1++[.fr (k t)]) from ik hi hx),.inl ⟨_,r,_,g t,_,rfl,V,y,.fr (k t),rfl,(λo z=>by cases z),?_⟩⟩;rw[QY,a,NT];rfl)
 unfold fF;rw[if_pos (by rw[Nl];exact hl)];have D:Z1++Oc 1 Sl.un=Z1++[.un]:=rfl;rw[D,h1];simp
theorem HS{x y:Int}(h:m Z=some (.ok (.fr (.int x)),U)):bR (bW m (mC (.int y))) Z=some (.ok (.fr (nm (x,y))),U):=dJ (aA h rfl) rfl
theorem Dw(hi:i.natAbs<2^64)(v:j.natAbs<2^64)(Z:List Sl):ir dq (.fr (.int i)) (.fr (.int j)) Z=some (.ok (.fr (.int (i*j))),Z):=by have n:fits 20000 i=true:=eD hi (by decide);have G:fits 20000 j=true:=eD v (by decide);simp only[ir,res,dq,zD,Bi,M.kO,n,G,Ti,if_true]
variable{k:Int}
theorem tw{n:Int}{v:Int}(w:Wl n o)(hn:n<2^38)(h:0<=k/\k<=1000000/\(10:Int).natAbs<2^64)(e:(10:Int)^k.toNat=v)(p:0<=v)(i:v<2^60):X2 λu o'=>N4 (0<=u) (u<2*v+1) (Wl (n+1) o') (∀Z,ay kD (bJ ag (bW (af 0) (lL (ay aB (ay dq (ax 2) (ay ix (ax 10) (mC (.int k)))) (ax 1))))) (ay ix (ax 10) (mC (.int k))) (.pv o::Z)=some (.ok (.fr (.int (u-v))),.pv o'::Z)):=by obtain⟨u,o',c,a,b,S⟩:=tk (2*v+1) w (by lia) (by lia) (by lia);exact⟨u,o',a,b,S,λZ=>ao (aC (aA rfl (aA (jw (ao (ao rfl (pw k v h e _) (Dw (by decide) (by lia) _)) rfl rfl) rfl) rfl)) (c _)) (pw k v h e _) rfl⟩
theorem Bb(b:Bool)(hb:decide (i=j)=b)(h:Z[1]?=some (.fr (.int i))):au (ay dg (af 1) (mC (.int j))) Z=some (.ok b,Z):=by rw[<-hb];exact aR (ao (by rw[oT,h]) rfl (yD _ _ _))
theorem zx{t b:Int}(h:b≠0)(hb:b.natAbs<2^64):∃x:Num,∀Z:List Sl,dw eB [] [.fr (.int t),.fr (.int b)] Z=some (.ok (.fr (nm x)),Z):=let ⟨x,v⟩:=DM (t:=t) h (show b.natAbs<2^9000 from Nn hb (O7 (by decide) (by decide)));⟨x,λZ=>s9 v Z⟩
abbrev G2(i j:Nat):Mg:=kY 2 (ed (aJ i) (ed (aJ j) oW))
theorem BI{i:Nat}{t:Mi Bool}{ts:List T}(k g:T->A)(c:T->Bool)(hi:Z1.length=i)(hl:ts.length<=100000)(h:∀x∈ts,t (Z1++[.fr (k x)])=some (.ok (c x),Z1++[.fr (k x)])/\(c x=true->∃r,e (Z1++[.fr (k x)])=some (.ok r,Z1++[.fr (k x)])/\bg r (Z1++[.fr (k x)])=some (g x,Z1++[.fr (k x)]))):
  fF 1 (aJ i) t e (ts.map k) Z1=some (.ok (.nw (.lst ((ts.filter c).map g))),Z1):=by
 obtain⟨ys,O,h1,x,rfl,_,rfl⟩:=fR (G:=aJ i) (as:=ts.map k)
  (λj acc Z=>∃x:Sl,N3 (Z=Z1++[x]) (∀o,x≠Sl.pv o) (acc=((ts.take j).filter c).map g)) ⟨.un,rfl,(λo z=>by cases z),rfl⟩ (by
   rintro j q acc Z R ⟨x,rfl,hx,rfl⟩;rw[NS] at R;cases a:ts[j]? with
   |none=>rw[a] at R;cases R
   |some y=>
    rw[a] at R;cases R;obtain⟨V,K⟩:=h y (NV a);refine⟨Z1++[Sl.fr (k y)],(show put i (.fr (k y)) (Z1++[x])=some (Z1++[.fr (k y)]) from ik hi hx),?_⟩;rw[QY,a,QO];cases S:c y with
    |true=>obtain⟨r,Y,F⟩:=K S;rw[S] at V;exact .inl ⟨_,r,_,g y,_,V,Y,F,.fr (k y),rfl,(λo z=>by cases z),by simp[S]⟩
    | false=>rw[S] at V;exact .inr ⟨_,V,.fr (k y),rfl,(λo z=>by cases z),by simp[S]⟩)
 unfold fF;rw[if_pos (by rw[Nl];exact hl)];have D:Z1++Oc 1 Sl.un=Z1++[.un]:=rfl;rw[D,h1];simp
theorem wJ{n:Int}(w:Wl n o)(hn:n<2^37):X2 λx o'=>cZ cA o [] (.fr (nm x)) o'/\Wl (n+3) o':=by
 obtain⟨r,K,J,f,i,O⟩:=tk 8 w (by lia) (by decide) (by decide)
 suffices ∃s o',cZ cA o [] s o'/\∃x,s=.fr (nm x)/\Wl (n+3) o' by obtain⟨s,o',v,x,rfl,h2⟩:=this;exact⟨x,o',v,h2⟩
 refine cZ.of (Wp.df ?_);refine Wp.st (ya (aC rfl (J _)) rfl) ?_;by_cases a:r=7
 .obtain⟨u,E,Y,z,h,F⟩:=tw (k:=17) (v:=100000000000000000) O (by lia) (by decide) (by decide) (by decide) (by decide);exact Wp.sr (iu (Bb true (decide_eq_true a) rfl) (bu (HS (F _)) rfl)) ⟨_,_,_,rfl,rfl,_,rfl,h.mono (by lia)⟩
 refine Wp.st (fj (Bb false (decide_eq_false a) rfl) rfl) ?_;by_cases m:r=6
 .obtain⟨u,E,Y,z,h,F⟩:=tw (k:=8) (v:=100000000) O (by lia) (by decide) (by decide) (by decide) (by decide);obtain⟨d,y,c3,G,g,C⟩:=tk 100000000 h (by lia) (by decide) (by decide);obtain⟨x,ex⟩:=zx (t:=u-100000000) (b:=1+d) (by lia) (by lia);exact Wp.sr (iu (Bb true (decide_eq_true m) rfl) (bu (aC (aA (F _) (aA (jw (ao rfl (aC (aA rfl (aA (pw 8 100000000 (by decide) (by decide) _) rfl)) (c3 _)) rfl) rfl) rfl)) (ex _)) rfl)) ⟨_,_,_,rfl,rfl,_,rfl,C.mono (by lia)⟩
 refine Wp.st (fj (Bb false (decide_eq_false m) rfl) rfl) ?_;by_cases h3:r > 3
 .obtain⟨u,E,e,Y,z,h⟩:=tk 201 O (by lia) (by decide) (by decide);obtain⟨d,y,c3,G,g,C⟩:=tk 6 h (by lia) (by decide) (by decide);obtain⟨x,ex⟩:=zx (t:=u-100) (b:=1+d) (by lia) (by lia);have X:au (ay Gk (af 1) (ax 3)) [.pv K,.fr (.int r)]=some (.ok true,[.pv K,.fr (.int r)]):=by rw[<-decide_eq_true h3];rfl
  exact Wp.sr (iu X (bu (aC (aA (ao (aC rfl (e _)) rfl rfl) (aA (jw (ao rfl (aC rfl (c3 _)) rfl) rfl) rfl)) (ex _)) rfl)) ⟨_,_,_,rfl,rfl,_,rfl,C.mono (by lia)⟩
 have X:au (ay Gk (af 1) (ax 3)) [.pv K,.fr (.int r)]=some (.ok false,[.pv K,.fr (.int r)]):=by rw[<-decide_eq_false h3];rfl
 obtain⟨u,E,e,Y,z,h⟩:=tk 9 O (by lia) (by decide) (by decide);exact Wp.st (fj X rfl) (Wp.en (bu (HS (ao (aC rfl (e _)) rfl rfl)) rfl) ⟨_,_,_,rfl,rfl,_,rfl,h.mono (by lia)⟩)
theorem dI{as:List A}(h:m Z=some (.ok r,U))(k:gi r U=some (.ok as,Z0)):cb m Z=some (.ok as,Z0):=bk h k
variable{z:Str}{c:Nat}
theorem nc(h:res Z x=some (.str z))(l:z.length<=100000)(e:fk z.cps.toList i=some c):ir zI x (.fr (.int i)) Z=some (.ok (.fr (.str ⟨#[c]⟩)),Z):=by exact fu (o:=none) h rfl ((if_pos l).trans (by rw[e]))
variable{mo:Mi Rr}
theorem Dg{F:Str->A->Option Rr}{a:A}(h:mo Z=some (.ok (.fr (.str z)),Z1))(k:m Z1=some (.ok y,U))(e:res U y=some a)(f:F z a=some r):ye F mo m Z=some (.ok r,U):=by refine bk h (bk k ?_);rw[e];dsimp only;rw[f]
variable{ml mh:Mi (Option Int)}{lo hi:Option Int}
theorem zA(h:m Z=some (.ok x,Z))(l:ml Z=some (.ok lo,Z))(u:mh Z=some (.ok hi,Z))(e:res Z x=some (.str z))(hz:z.length<=100000):nC m ml mh Z=some (.ok (.fr (.str (PR z lo hi))),Z):=by have k:Ka (.str z) lo hi=some (.fr (.str (PR z lo hi))):=if_pos hz;refine bk h (bk l (bk u ?_));rw[e];dsimp only;rw[k]
theorem je(h:m Z=some (.ok (.fr (.int i)),Z)):bH m Z=some (.ok (some i),Z):=by unfold bH aI;rw[h];rfl
theorem yC{x y:Str}(h:x.length+y.length<=100000)(Z:List Sl):ir aB (.fr (.str x)) (.fr (.str y)) Z=some (.ok (.fr (.str (x++y))),Z):=by have k:rE (.str x) (.str y)=some (.fr (.str (x++y))):=if_pos h;refine fu (o:=none) rfl rfl ?_;unfold aB zD;rw[show sY (.str x) (.str y)=none from rfl];dsimp only;rw[k]
theorem um(ss:List Str):(OR ⟨#[]⟩ ss).cps.toList=ss.flatMap (λs=>s.cps.toList):=by
 unfold OR;cases ss with
 |nil=>rfl
 |cons a r=>
  show (r.foldl (λacc p=>acc++#[]++p.cps) a.cps).toList=_;rw[Uy];have:∀(acc:Array Nat),(r.foldl (λacc p=>acc++#[]++p.cps) acc).toList=acc.toList++r.flatMap (λs=>s.cps.toList):=by
   induction r with
   |nil=>intro acc;simp
   |cons p r j=>intro acc;rw[Rl,j];simp
  exact this _
theorem BN(x y:Str):(x++y).length=x.length+y.length:=by show (x.cps++y.cps).size=x.cps.size+y.cps.size;simp
theorem tf(x:Str):x.length=x.cps.toList.length:=by rw[NP];rfl
theorem JX{n:Int}(w:Wl n o)(hn:n<2^38):X3 λ(a b:Int)(o':LO)=>N4 (cZ eF o [] (.fr (.tup [.int a,.int b])) o') (1<=a/\a<=6) (0<=b/\b<=16) (Wl (n+3) o'):=by
 obtain⟨r,K,J,f,g,e⟩:=tk 8 w (by lia) (by decide) (by decide);obtain⟨p,E,O,Y,N,k⟩:=tk 4 e (by lia) (by decide) (by decide)
 suffices ∃s o',cZ eF o [] s o'/\X2 λ(a b:Int)=>N4 (s=.fr (.tup [.int a,.int b])) (1<=a/\a<=6) (0<=b/\b<=16) (Wl (n+3) o') by obtain⟨s,o',v,x,y,rfl,h1,h2,h3⟩:=this;exact⟨x,y,o',v,h1,h2,h3⟩
 have X:∀b,decide (r=1)=b->∀Z,au (ay dg (bJ ag (bW (af 0) (ax 8))) (ax 1)) (.pv o::Z)=some (.ok b,.pv K::Z):=λb hb Z=>aR (ao (aC rfl (J _)) rfl (nv hb _));refine cZ.of (Wp.df ?_);by_cases h:r=1
 .obtain⟨q,z,c3,G,d,C⟩:=tk 8 k (by lia) (by decide) (by decide);exact Wp.sr (iu (X true (decide_eq_true h) _) (bu (dJ (aA (ao rfl (aC rfl (O _)) rfl) (aA (ao rfl (aC rfl (c3 _)) rfl) rfl)) rfl) rfl)) ⟨_,_,_,rfl,rfl,_,_,rfl,by lia,by lia,C.mono (by lia)⟩
 .obtain⟨q,z,c3,G,d,C⟩:=tk 9 k (by lia) (by decide) (by decide);exact Wp.st (fj (X false (decide_eq_false h) _) rfl) (Wp.en (bu (dJ (aA (ao rfl (aC rfl (O _)) rfl) (aA (aC rfl (c3 _)) rfl)) rfl) rfl) ⟨_,_,_,rfl,rfl,_,_,rfl,by lia,by lia,C.mono (by lia)⟩)
noncomputable abbrev jG:Str:= "abcdefghijklmnopqrstuvwxyz"
theorem C7:jG.cps.toList.length=26:=by decide +kernel
theorem qv:(jG.length<=100000)=True:=by simp only[eq_iff_iff,iff_true];decide +kernel
theorem G3{r:Int}(w:0<=r)(h1:r<26):∃c,fk jG.cps.toList r=some c:=by
 obtain⟨j,rfl⟩:∃j:Nat,r=j:=⟨r.toNat,by lia⟩
 have v:j<jG.cps.toList.length:=by rw[C7];lia
 exact⟨_,eJ (Nx v)⟩
variable{α:Type}
theorem rQ{l:List α}{r:Int}{c:α}(w:0<=r)(h:fk l r=some c):c∈l:=by
 unfold fk at h;cases e:L2.kR l.length r with
 |none=>rw[e] at h;cases h
 |some j=>rw[e] at h;exact NV h
theorem Bz{n:Int}(m:Int)(w:Wl n o)(hn:n<2^38):X2 λ(B:Str)(o':LO)=>N3 (aF 3 (ye gh (mC (.str "")) (aP 1 (cb (ax 8)) (aJ 13) aO (mix (af 2) (bJ ag (bW (af 0) (ax 26)))))) [.pv o,.fr (.int m),.fr (.str jG),.un,.un,.un,.un,.un,.un,.un,.un,.un,.un]=some (.nx,[.pv o',.fr (.int m),.fr (.str jG),.fr (.str B),.un,.un,.un,.un,.un,.un,.un,.un,.un])) (B.length=8/\∀c∈B.cps.toList,c∈jG.cps.toList) (Wl (n+8) o'):=by
 obtain⟨ys,O,hc,cs,k,D,⟨F,N⟩,H,r⟩:=fR (G:=aJ 13) (t:=aO) (e:=mix (af 2) (bJ ag (bW (af 0) (ax 26)))) (as:=cg 0 8)
  (λi acc Z=>X2 λ(cs:List Nat)(k:LO)=>N4 (acc=(cs.map λc=>(⟨#[c]⟩:Str)).map A.str) (cs.length=i/\∀c∈cs,c∈jG.cps.toList) (∃x,Z=[.pv k,.fr (.int m),.fr (.str jG),.un,.un,.un,.un,.un,.un,.un,.un,.un,.un,x]/\∀q,x≠Sl.pv q) (Wl (n+i) k))
  ⟨[],o,rfl,⟨rfl,λc hc=>nomatch hc⟩,⟨.un,rfl,λq z=>by cases z⟩,w.mono (by simp)⟩ (by
   rintro i a acc Z ha ⟨cs,k,rfl,⟨S,N⟩,⟨x,rfl,hx⟩,r⟩;have hi:i<8:=by have:=(Np.mp ha).1;simpa[cg] using this
   obtain⟨K,Q,c3,p,d,C⟩:=tk 26 r (by lia) (by decide) (by decide);obtain⟨ch,y⟩:=G3 p d;refine⟨[.pv k,.fr (.int m),.fr (.str jG),.un,.un,.un,.un,.un,.un,.un,.un,.un,.un,.fr a],?_,.inl ⟨_,.fr (.str ⟨#[ch]⟩),[.pv Q,.fr (.int m),.fr (.str jG),.un,.un,.un,.un,.un,.un,.un,.un,.un,.un,.fr a],.str ⟨#[ch]⟩,_,rfl,?_,rfl,cs++[ch],Q,?_,?_,⟨.fr a,rfl,λq z=>by cases z⟩,C.mono (by lia)⟩⟩
   .cases x with
    |pv q=>exact absurd rfl (hx q)
    |_=>rfl
   .exact ao rfl (aC rfl (c3 _)) (nc rfl (of_eq_true qv) y)
   .rw[NT,NT];rfl
   .refine⟨by rw[Ny,S];rfl,λc hc=>?_⟩;rcases Nv.mp hc with h|h
    .exact N c h
    .rw[Nw.mp h];exact rQ p y)
 obtain⟨x,H,_⟩:=H;subst D H;have E:(cg 0 8).length=8:=by simp[cg]
 rw[E] at F r;have fl:(cs.map λc=>(⟨#[c]⟩:Str)).flatMap (λs=>s.cps.toList)=cs:=by
  rw[List.flatMap_map];induction cs with
  |nil=>rfl
  |cons c cs j=>rw[Uy];simp
 have gl:=um (cs.map λc=>(⟨#[c]⟩:Str));rw[fl] at gl;refine⟨OR ⟨#[]⟩ (cs.map λc=>(⟨#[c]⟩:Str)),k,?_,⟨by rw[tf,gl];exact F,by rw[gl];exact N⟩,r.mono (by simp)⟩;have U:gA (cs.map λc=>(⟨#[c]⟩:Str))=8:=by unfold gA;rw[Om];have:(VW∘λc=>(⟨#[c]⟩:Str))=λ_=>1:=rfl;rw[this,List.map_const',List.sum_replicate_nat,F]
 have R:gh "" (.lst ((cs.map λc=>(⟨#[c]⟩:Str)).map A.str))=some (.fr (.str (OR ⟨#[]⟩ (cs.map λc=>(⟨#[c]⟩:Str))))):=by show gh ⟨#[]⟩ _=_;unfold gh;simp only[yX];rw[if_pos (by rw[U];show 8+_*0<=100000;lia)]
 have I:fF 1 (aJ 13) aO (mix (af 2) (bJ ag (bW (af 0) (ax 26)))) (cg 0 8) [.pv o,.fr (.int m),.fr (.str jG),.un,.un,.un,.un,.un,.un,.un,.un,.un,.un]=some (.ok (.nw (.lst ((cs.map λc=>(⟨#[c]⟩:Str)).map A.str))),[.pv k,.fr (.int m),.fr (.str jG),.un,.un,.un,.un,.un,.un,.un,.un,.un,.un]):=by unfold fF;rw[if_pos (by rw[E];decide)];show (match bX (aJ 13) aO (mix (af 2) (bJ ag (bW (af 0) (ax 26)))) (cg 0 8) [] [.pv o,.fr (.int m),.fr (.str jG),.un,.un,.un,.un,.un,.un,.un,.un,.un,.un,.un] with|some (ys,O)=>some ((Pk (Rr.nw (.lst ys)):Except Str Rr),O.take 13)|none=>none)=_;rw[hc];rfl
 exact br (Dg rfl (cu (dI rfl rfl) I) rfl R) rfl rfl rfl rfl
theorem F3:∀c∈jG.cps.toList,∃j:Nat,j<26/\Ha jG ⟨#[c]⟩=some j:=by decide +kernel
abbrev ur(o:LO)(B:Str)(x4 x e s z a h k n:Sl):List Sl:=[.pv o,.fr (.int 6),.fr (.str jG),.fr (.str B),x4,x,e,s,z,a,h,k,n]
abbrev MY:Ms:=az (aF 8 (mix (af 2) (ay fC (ay aB (af 5) (ay dq (ax 3) (af 7))) (ax 26)))) (aY (cD 6 (bw 6 (ay aB (af 8) (nC (af 3) bL (bH (ay fC (ay aB (af 4) (ay dq (ax 3) (af 7))) (ax 8))))))))
abbrev LW:Ms:=az (aF 5 (ye oH (af 2) (mix (af 3) (ax 7)))) (az (aF 6 (cX cM)) (az (da (cb (af 1)) (aJ 7) MY) (ck (af 6))))
abbrev Mf:Ms:=az (aF 9 (ay aB (ax 1) (bJ ag (bW (af 0) (ax 8))))) (az (aF 10 (bJ ag (bW (af 0) (aZ 9)))) (az (aF 11 (bJ ag (bW (af 0) (ax 26)))) (az (aF 12 (aP 1 (cb (af 1)) (aJ 13) aO (mix (af 2) (ay fC (ay aB (af 11) (ay dq (ax 3) (af 13))) (ax 26))))) (ck (aP 1 (cj (af 12)) (aJ 13) aO (ay aB (ay aB (nC (af 3) bL (bH (af 10))) (af 13)) (nC (af 3) (bH (ay aB (af 10) (ax 1))) (bH (af 9)))))))))
theorem xq:cP=bS 11 (az (aF 2 (mC (.str jG))) (az (aF 3 (ye gh (mC (.str "")) (aP 1 (cb (ax 8)) (aJ 13) aO (mix (af 2) (bJ ag (bW (af 0) (ax 26))))))) (az (aF 4 (bJ ag (bW (af 0) (ax 16)))) (az (cS (au (ay wx (af 4) (ax 8))) LW aU) Mf)))):=rfl
def BS(r k:Int):Nat:=jG.cps.toList.getD ((r+3*k).fmod 26).toNat 0
theorem wd(r k:Int):fk jG.cps.toList ((r+3*k).fmod 26)=some (BS r k):=by
 have B:=Rq (r+3*k) (b:=26) (by decide);have J:=RX (r+3*k) (b:=26) (by decide);have em:(r+3*k).fmod 26=(r+3*k)%26:=S7 _ (by decide);unfold BS;rw[em];obtain⟨j,v⟩:∃j:Nat,(r+3*k)%26=j:=⟨((r+3*k)%26).toNat,by lia⟩
 rw[v,OF];have H:j<jG.cps.toList.length:=by rw[C7];lia
 exact eJ (by rw[OB,Nx H];rfl)
theorem IM(Z:List Sl):gi (.fr (.int 6)) Z=some (.ok (cg 0 6),Z):=rfl
variable{B:Str}{r4:Int}
theorem MB{n:Int}(w:Wl n o)(m:B.length=8)(hc:∀c∈B.cps.toList,c∈jG.cps.toList)(y:0<=r4)(h1:r4<8):Wp LW (ur o B (.fr (.int r4)) .un .un .un .un .un .un .un .un) λf Z=>∃ss:List Str,N3 (f=.rt (.lv (.lst (ss.map A.str)))) (ss.length=6) (∃O,Z=.pv o::O):=by
 have k:B.length<=100000:=by lia
 obtain⟨h,x⟩:∃c,fk B.cps.toList 7=some c:=by
  have:7<B.cps.toList.length:=by rw[<-tf];lia
  exact⟨_,eJ (j:=7) (Nx this)⟩
 obtain⟨j,Y,l⟩:=F3 h (hc h (rQ (by decide) x));have fx:oH jG (.str ⟨#[h]⟩)=some (.fr (.int (j:Int))):=by unfold oH;dsimp only;rw[l]
 refine Wp.st (U:=ur o B (.fr (.int r4)) (.fr (.int j)) .un .un .un .un .un .un .un) (br (Dg rfl (ao rfl rfl (nc rfl k x)) rfl fx) rfl rfl rfl rfl) ?_;refine Wp.st (U:=ur o B (.fr (.int r4)) (.fr (.int j)) (.lv (.lst [])) .un .un .un .un .un .un) rfl ?_;refine Wp.sq (Wp.fr (as:=cg 0 6) (λi Z=>X3 λ(ss:List Str)(s z:Sl)=>N4 (Z=ur o B (.fr (.int r4)) (.fr (.int j)) (.lv (.lst (ss.map A.str))) s z .un .un .un .un) (ss.length=i) (np s=true) (np z=true)) (dI rfl (IM _)) ⟨[],.un,.un,rfl,rfl,rfl,rfl⟩ ?_ ?_)
 .rintro i a Z ha ⟨ss,s,z,rfl,hl,e,b⟩;obtain⟨hi,rfl⟩:=qU ha;refine⟨ur o B (.fr (.int r4)) (.fr (.int j)) (.lv (.lst (ss.map A.str))) (.fr (.int i)) z .un .un .un .un,by cases s<;>first|(cases e;done)|rfl,?_⟩;have d:=Sa B none (some ((r4+3*(i:Int)).fmod 8));refine Wp.st (U:=ur o B (.fr (.int r4)) (.fr (.int j)) (.lv (.lst (ss.map A.str))) (.fr (.int i)) (.fr (.str ⟨#[BS j i]⟩)) .un .un .un .un) (br (ao rfl (ao (ao rfl (ao rfl rfl (Cp (qB (by decide)) (qB (by lia)) _)) rfl) rfl (fq (by decide) _)) (nc rfl (of_eq_true qv) (wd _ _))) rfl rfl b rfl) ?_;refine Wp.en (qN (a:=.str (⟨#[BS j i]⟩++PR B none (some ((r4+3*(i:Int)).fmod 8)))) (xs:=ss.map A.str) rfl (ao rfl (zA rfl rfl (je (ao (ao rfl (ao rfl rfl (Cp (qB (by decide)) (qB (by lia)) _)) rfl) rfl (fq (by decide) _))) rfl k) (yC (by show 1+_<=_;lia) _)) rfl rfl (by rw[Nl];lia) rfl) ⟨.inl rfl,ss++[⟨#[BS j i]⟩++PR B none (some ((r4+3*(i:Int)).fmod 8))],_,_,by unfold ur;rw[NT];rfl,by rw[Ny,hl];rfl,rfl,rfl⟩
 .rintro O ⟨ss,s,z,rfl,hl,e,b⟩;exact⟨rfl,Wp.en (bu rfl rfl) ⟨ss,rfl,by rw[hl];rfl,_,rfl⟩⟩
theorem MR{n:Int}(w:Wl n o)(hn:n<2^38)(p:B.length=8):Wp Mf (ur o B (.fr (.int r4)) .un .un .un .un .un .un .un .un) λf Z=>X2 λ(ss:List Str)(o':LO)=>N4 (f=.rt (.lv (.lst (ss.map A.str)))) (ss.length=6) (∃O,Z=.pv o'::O) (Wl (n+3) o'):=by
 have a:B.length<=100000:=by lia
 obtain⟨N,K,q,l,P,r⟩:=tk 8 w (by lia) (by decide) (by decide);obtain⟨I,E,z,b,d,Q⟩:=tk (1+N) r (by lia) (by lia) (by lia);obtain⟨h,m,S,H,t,U⟩:=tk 26 Q (by lia) (by decide) (by decide);have V:=cT (i:=13) (ts:=NA 6) (e:=mix (af 2) (ay fC (ay aB (af 11) (ay dq (ax 3) (af 13))) (ax 26))) (Z1:=ur m B (.fr (.int r4)) .un .un .un .un (.fr (.int (1+N))) (.fr (.int I)) (.fr (.int h)) .un) (λk=>.int (0+(k:Nat))) (λk=>.str ⟨#[BS h (0+(k:Nat))]⟩) rfl (by simp) (λk hk=>by have hk:=NU.mp hk;exact⟨_,ao rfl (ao (ao rfl (ao rfl rfl (Cp (qB (by decide)) (qB (by lia)) _)) rfl) rfl (fq (by decide) _)) (nc rfl (of_eq_true qv) (wd _ _)),rfl⟩)
 have D:(NA 6).map (λ(k:Nat)=>A.str ⟨#[BS h (0+(k:Nat))]⟩)=((NA 6).map λ(k:Nat)=>BS h (0+(k:Nat))).map λc=>A.str ⟨#[c]⟩:=by rw[Om];rfl
 rw[D] at V;generalize x:(NA 6).map (λ(k:Nat)=>BS h (0+(k:Nat)))=cs at V;have s:cs.length=6:=by rw[<-x];simp
 have R:=Sa B none (some I);have C:=Sa B (some (I+1)) (some (1+N));have y:=cT (i:=13) (ts:=cs) (e:=ay aB (ay aB (nC (af 3) bL (bH (af 10))) (af 13)) (nC (af 3) (bH (ay aB (af 10) (ax 1))) (bH (af 9)))) (Z1:=ur m B (.fr (.int r4)) .un .un .un .un (.fr (.int (1+N))) (.fr (.int I)) (.fr (.int h)) (.fr (.lst (cs.map λc=>A.str ⟨#[c]⟩)))) (λc=>.str ⟨#[c]⟩) (λc=>.str (PR B none (some I)++⟨#[c]⟩++PR B (some (I+1)) (some (1+N)))) rfl (by lia) (λc hc=>by have e:(⟨#[c]⟩:Str).length=1:=rfl;exact⟨_,ao (ao (zA rfl rfl (je rfl) rfl a) rfl (yC (by lia) _)) (zA rfl (je rfl) (je rfl) rfl a) (yC (by rw[BN];lia) _),rfl⟩)
 have F:cs.map (λc=>A.str (PR B none (some I)++⟨#[c]⟩++PR B (some (I+1)) (some (1+N))))=(cs.map λc=>PR B none (some I)++⟨#[c]⟩++PR B (some (I+1)) (some (1+N))).map A.str:=by rw[Om];rfl
 rw[F] at y;exact Wp.st (br (ao rfl (aC rfl (q _)) rfl) rfl rfl rfl rfl) (Wp.st (br (aC rfl (z _)) rfl rfl rfl rfl) (Wp.st (br (aC rfl (S _)) rfl rfl rfl rfl) (Wp.st (br (cu (dI rfl (IM _)) V) rfl rfl rfl rfl) (Wp.en (bu (cu (iH rfl rfl) y) rfl) ⟨_,_,rfl,by rw[Nl];exact s,⟨_,rfl⟩,U.mono (by lia)⟩))))
theorem zZ{n:Int}(w:Wl n o)(hn:n<2^37):X2 λ(ss:List Str)(o':LO)=>N3 (cZ cP o [.int 6] (.lv (.lst (ss.map A.str))) o') (ss.length=6) (Wl (n+12) o'):=by
 obtain⟨B,K,c,⟨a,hc⟩,i⟩:=Bz 6 w (by lia);obtain⟨r4,k,q,z,l,x⟩:=tk 16 i (by lia) (by decide) (by decide)
 suffices ∃s o',cZ cP o [.int 6] s o'/\∃ss:List Str,N3 (s=.lv (.lst (ss.map A.str))) (ss.length=6) (Wl (n+12) o') by obtain⟨s,o',v,ss,rfl,h1,h2⟩:=this;exact⟨ss,o',v,h1,h2⟩
 rw[xq];have X:∀b,decide (r4<8)=b->au (ay wx (af 4) (ax 8)) (ur k B (.fr (.int r4)) .un .un .un .un .un .un .un .un)=some (.ok b,ur k B (.fr (.int r4)) .un .un .un .un .un .un .un .un):=by rintro b rfl;rfl
 refine cZ.of (Wp.df (Wp.st rfl (Wp.st c (Wp.st (U:=ur k B (.fr (.int r4)) .un .un .un .un .un .un .un .un) (br (aC rfl (q _)) rfl rfl rfl rfl) ?_))));by_cases h:r4<8
 .obtain⟨f,U,e,ss,rfl,h1,O,rfl⟩:=MB x a hc z h;exact Wp.sr (iu (X true (decide_eq_true h)) e) ⟨_,_,_,rfl,rfl,ss,rfl,h1,x.mono (by lia)⟩
 .refine Wp.st (fj (X false (decide_eq_false h)) rfl) ?_;obtain⟨f,U,e,ss,o',rfl,h1,⟨O,rfl⟩,S⟩:=MR (r4:=r4) x (by lia) a;exact Wp.en e ⟨_,_,_,rfl,rfl,ss,rfl,h1,S.mono (by lia)⟩
noncomputable abbrev Nd:=Str×Str
noncomputable def bf(p:Nd):A:=.tup [.str p.1,.str p.2]
theorem six{n:Nat}(w:0<=k)(h1:k<n):seqIndex? k n=some k.toNat:=Vr w h1
theorem sG{α β:Type}(f:α->β):∀(l:List α)(i:Nat),(l.map f).eraseIdx i=(l.eraseIdx i).map f
 |[],_=>rfl
 |a::l,0=>rfl
 |a::l,i+1=>congrArg (f a::·) (sG f l i)
theorem Bn{n:Int}{a:Int}(w:Wl n o)(hn:n<2^36)(h1:1<=a)(R:a<=6):X2 λ(ns:List Nd)(o':LO)=>N3 (cZ cR o [.int a] (.lv (.lst (ns.map bf))) o') ((ns.length:Int)=a) (Wl (n+20) o'):=by
 obtain⟨ss,K,f,H,p⟩:=zZ w (by lia)
 suffices ∃s o',cZ cR o [.int a] s o'/\∃ns:List Nd,N3 (s=.lv (.lst (ns.map bf))) ((ns.length:Int)=a) (Wl (n+20) o') by obtain⟨s,o',v,ss,rfl,h1,h2⟩:=this;exact⟨ss,o',v,h1,h2⟩
 refine cZ.of (Wp.df (Wp.st rfl (Wp.sq (Wp.fr (as:=ss.map A.str) (λi Z=>X2 λ(L:List Nd)(h:Sl)=>N3 (Z=[.pv K,.fr (.int a),.lv (.lst (L.map bf)),h]) (L.length=2*i) (np h=true)) (iH (aC rfl (Ih f rfl _)) rfl) ⟨[],.un,rfl,rfl,rfl⟩ ?_ ?_))))
 .rintro i z Z hz ⟨L,h,rfl,hl,h3⟩;have I:=(Np.mp hz).1;rw[Nl,H] at I;rw[NS] at hz;cases S:ss[i]? with
  |none=>rw[S] at hz;cases hz
  |some s=>rw[S] at hz;cases hz;refine⟨[.pv K,.fr (.int a),.lv (.lst (L.map bf)),.fr (.str s)],by cases h<;>first|(cases h3;done)|rfl,?_⟩;refine Wp.en (U:=[.pv K,.fr (.int a),.lv (.lst ((L++([("x",s),("y",s)]:List Nd)).map bf)),.fr (.str s)]) (eE (r:=.fr .non) (xg rfl rfl ?_)) ⟨.inl rfl,_,_,rfl,by rw[Ny,hl];rfl,rfl⟩;rw[NT];exact if_pos (by rw[Nl,hl];show 2*i+2<=_;lia)
 .rintro O ⟨L,h,rfl,hl,h3⟩;rw[Nl,H] at hl;refine⟨rfl,?_⟩;obtain⟨m,rfl⟩:∃m:Nat,a=m:=⟨a.toNat,by lia⟩
  obtain⟨ys,O,hc,ns,M,k,E,F,J,N,c⟩:=fR (G:=aJ 4) (t:=aO) (e:=fA 2 (bJ ag (bW (af 0) (cU bY (af 2))))) (as:=cg 0 m) (Z:=[.pv K,.fr (.int m),.lv (.lst (L.map bf)),h,.un])
   (λi acc Z=>X3 λ(ns M:List Nd)(k:LO)=>N6 (acc=ns.map bf) (ns.length=i) (M.length+i=12) (∃x,Z=[.pv k,.fr (.int m),.lv (.lst (M.map bf)),h,x]/\∀q,x≠Sl.pv q) (Wl (n+12+i) k) True)
   ⟨[],L,K,rfl,rfl,hl,⟨.un,rfl,λq z=>by cases z⟩,p.mono (by simp),trivial⟩ (by
    rintro i z acc Z ha ⟨ns,M,k,rfl,S,em,⟨x,rfl,hx⟩,c,-⟩;have hi:i<m:=by have:=(Np.mp ha).1;simpa[cg] using this
    obtain⟨Q,y,c3,P,d,C⟩:=tk (M.length:Int) c (by lia) (by lia) (by lia);have D:Q.toNat<M.length:=by lia
    have lk:bY (.lst (M.map bf))=some (.fr (.int (M.length:Int))):=by show some (Rr.fr (.int ((M.map bf).length:Int)))=_;rw[Nl]
    refine⟨[.pv k,.fr (.int m),.lv (.lst (M.map bf)),h,.fr z],?_,.inl ⟨_,.fr (bf M[Q.toNat]),[.pv y,.fr (.int m),.lv (.lst ((M.eraseIdx Q.toNat).map bf)),h,.fr z],bf M[Q.toNat],_,rfl,?_,rfl,ns++[M[Q.toNat]],M.eraseIdx Q.toNat,y,?_,?_,?_,⟨.fr z,rfl,λq z=>by cases z⟩,C.mono (by lia),trivial⟩⟩
    .cases x with
     |pv q=>exact absurd rfl (hx q)
     |_=>rfl
    .have l:bJ ag (bW (af 0) (cU bY (af 2))) [.pv k,.fr (.int m),.lv (.lst (M.map bf)),h,.fr z]=some (.ok (.fr (.int Q)),[.pv y,.fr (.int m),.lv (.lst (M.map bf)),h,.fr z]):=aC (aA rfl (aA (kb rfl (ug rfl lk)) rfl)) (c3 _);unfold fA cD;rw[if_pos (show Ce _ 2=true from rfl)];refine bk l ?_;show (if -(2^60)<=Q/\Q<2^60 then (match seqIndex? Q (M.map bf).length with|some j=>(match (M.map bf)[j]? with|some a=>some ((Pk (Rr.fr a):Except Str Rr),[Sl.pv y,.fr (.int m),.lv (.lst ((M.map bf).eraseIdx j)),h,.fr z])|none=>none)|none=>none) else none)=_;rw[if_pos (by lia),Nl,six P d];dsimp only;rw[NS,Nx D,sG];rfl
    .rw[NT];rfl
    .rw[Ny,S];rfl
    .rw[QN D];lia)
  obtain⟨x,N,_⟩:=N;subst E N;rw[ji] at F c;have b:∀Z,gi (.fr (.int (m:Int))) Z=some (.ok (cg 0 m),Z):=λZ=>by unfold gi;dsimp only [res];rw[if_pos (by lia),OF]
  have B:fF 1 (aJ 4) aO (fA 2 (bJ ag (bW (af 0) (cU bY (af 2))))) (cg 0 m) [.pv K,.fr (.int m),.lv (.lst (L.map bf)),h]=some (.ok (.nw (.lst (ns.map bf))),[.pv k,.fr (.int m),.lv (.lst (M.map bf)),h]):=by unfold fF;rw[if_pos (by rw[ji];lia)];show (match bX (aJ 4) aO (fA 2 (bJ ag (bW (af 0) (cU bY (af 2))))) (cg 0 m) [] [.pv K,.fr (.int m),.lv (.lst (L.map bf)),h,.un] with|some (ys,O)=>some ((Pk (Rr.nw (.lst ys)):Except Str Rr),O.take 4)|none=>none)=_;rw[hc];rfl
  exact Wp.en (bu (cu (dI rfl (b _)) B) rfl) ⟨_,_,_,rfl,rfl,ns,rfl,by lia,c.mono (by lia)⟩
variable{F:List Sl}
theorem qo{a:A}(h:m Z=some (.ok x,U))(l:ml U=some (.ok lo,Z0))(u:mh Z0=some (.ok hi,F))(e:res F x=some a)(f:Ka a lo hi=some r):nC m ml mh Z=some (.ok r,F):=by refine bk h (bk l (bk u ?_));rw[e];dsimp only;rw[f]
theorem kn(h:m Z=some (.ok (.fr (.int i)),U)):bH m Z=some (.ok (some i),U):=by unfold bH aI;rw[h];rfl
theorem xB{r:Option (Fl×List Sl)}(h:m Z=some (.ok x,U))(k:Jn G x U=r):mw m G Z=r:=by rw[IV,h];exact k
theorem BV(f:α->A)(xs:List α)(k:Nat):iV (xs.map f) none (some (k:Int))=(xs.take (min k xs.length)).map f:=by unfold iV;rw[Nl,HT.oK,HT.tY,UZ,TB,List.map_take]
theorem pA{xs:List A}(h:lH 39 xs):lR (.lst xs) (.lst [])=some (decide (xs=[])):=by
 obtain⟨ds,h1,h2⟩:=h;unfold lR;simp only[toD,h1,cL];rw[if_pos (by rw[D.depth];lia)];cases xs with
 |nil=>rw[cL] at h1;cases h1;simp[D.eq,D.eqs]
 |cons a xs=>
  cases ds with
  |nil=>
   rw[cL] at h1;cases G:toD a with
   |none=>simp only[G] at h1;cases h1
   |some d=>cases F:cL xs with
    |none=>simp only[G,F] at h1;cases h1
    |some ds=>simp only[G,F] at h1;cases h1
  |cons d ds=>simp[D.eq,D.eqs]
theorem Cj(p:Nd):Dt 5 (bf p):=Dt.tup (.cons (.str _) (.cons (.str _) .nil))
variable{ns:List Nd}
theorem CW{r:Int}(w:0<=r)(h1:r<(ns.length:Int)):∃p∈ns,fk (ns.map bf) r=some (bf p):=by
 obtain⟨j,rfl⟩:∃j:Nat,r=j:=⟨r.toNat,by lia⟩
 have v:j<ns.length:=by lia
 exact⟨ns[j],OM v,eJ (by rw[NS,Nx v];rfl)⟩
structure Gp where
 p:Nd
 q:Nd
 x:Num
def aG(g:Gp):A:=.tup [bf g.p,bf g.q,.tup [nm g.x,.tup []]]
noncomputable def g0:Gp:=⟨("", ""),("", ""),(0,1)⟩
def zG(gs:List Gp)(k:Int):Gp:=gs.getD k.toNat g0
variable{gs:List Gp}
theorem qt(w:0<=k)(h1:k<gs.length):fk (gs.map aG) k=some (aG (zG gs k))/\zG gs k∈gs:=by
 obtain⟨j,rfl⟩:∃j:Nat,k=j:=⟨k.toNat,by lia⟩
 have v:j<gs.length:=by lia
 have e:zG gs j=gs[j]:=by unfold zG;simp[v]
 rw[e];exact⟨eJ (by rw[NS,Nx v];rfl),OM v⟩
theorem Fh(g:Gp):Dt 38 (aG g):=by obtain⟨i,h1,V⟩:=Cj g.p;obtain⟨m,h2,y⟩:=Cj g.q;obtain⟨z,h3,Y⟩:Dt 5 (.tup [nm g.x,.tup []]):=Dt.tup (.cons (Dt.nm g.x) (.cons (Dt.tup .nil) .nil));exact Dt.tup (n:=37) (.cons ⟨i,h1,by lia⟩ (.cons ⟨m,h2,by lia⟩ (.cons ⟨z,h3,by lia⟩ .nil)))
theorem om(gs:List Gp):lH 39 (gs.map aG):=lH.of λa ha=>by obtain⟨g,j,rfl⟩:=NB.mp ha;obtain⟨d,h1,h2⟩:=Fh g;exact⟨d,h1,by lia⟩
structure Gd(ns:List Nd)(g:Gp):Prop where
 u:g.p∈ns
 v:g.q∈ns
abbrev xN(o:LO)(a b:Int)(ns:List Nd)(gs:List Gp)(x e s:Sl):List Sl:=[.pv o,.fr (.int a),.fr (.int b),.lv (.lst (ns.map bf)),.lv (.lst (gs.map aG)),x,e,s]
abbrev MK:Mi Bool:=oU (au (ay iJ (af 4) (cX cM))) (au (ay dg (bJ ag (bW (af 0) (ax 5))) (ax 1)))
abbrev M4:Ms:=mw (nC (mix (af 4) (bJ ag (bW (af 0) (cU bY (af 4))))) bL (bH (ax 2))) (G2 7 6)
abbrev LN:Ms:=aY (cD 4 (bw 4 (bR (uA (af 6) (af 7) (bR (bW (bJ cA (gp (af 0))) (bR cM)))))))
theorem zR:du=bS 7 (az (mw (bJ eF (gp (af 0))) (G2 1 2)) (az (aF 3 (bJ cR (bW (af 0) (aZ 1)))) (az (aF 4 (cX cM)) (az (da (cb (af 2)) (aJ 5) (az (aF 6 (mix (af 3) (bJ ag (bW (af 0) (aZ 1))))) (az (aF 7 (mix (af 3) (bJ ag (bW (af 0) (aZ 1))))) (az (cS MK M4 aU) LN)))) (ck (af 4)))))):=rfl
theorem Eb{n:Int}(w:Wl n o)(hn:n<2^34):X2 λ(ns:List Nd)(gs:List Gp)=>∃o',N4 (cZ du o [] (.lv (.lst (gs.map aG))) o') (ns.length<=6) (gs.length<=16) (∀g∈gs,Gd ns g):=by
 obtain⟨a,b,o2,V,ha,hb,d⟩:=JX w (by lia);obtain⟨ns,y,X,l3,C⟩:=Bn d (by lia) ha.1 ha.2;obtain⟨m,hm⟩:∃m:Nat,b=m:=⟨b.toNat,by lia⟩
 suffices ∃s o',cZ du o [] s o'/\∃gs:List Gp,N3 (s=.lv (.lst (gs.map aG))) (gs.length<=16) (∀g∈gs,Gd ns g) by obtain⟨s,o',v,gs,rfl,h1,h2⟩:=this;exact⟨ns,gs,o',v,by lia,h1,h2⟩
 rw[zR];have B:∀Z,gi (.fr (.int b)) Z=some (.ok (cg 0 m),Z):=λZ=>by unfold gi;dsimp only [res];rw[if_pos (by lia),hm,OF]
 refine cZ.of (Wp.df (Wp.st (xB (aC rfl (Ih V rfl _)) rfl) (Wp.st (br (aC rfl (Ih X rfl _)) rfl rfl rfl rfl) (Wp.st (U:=xN y a b ns [] .un .un .un) rfl ?_))));refine Wp.sq (Wp.fr (λi Z=>X5 λo' gs A c e=>N4 (Z=xN o' a b ns gs A c e) (gs.length=i/\∀g∈gs,Gd ns g) (N3 (np A=true) (np c=true) (np e=true)) (Wl (n+24+20*i) o')) (dI rfl (B _)) ⟨y,[],.un,.un,.un,rfl,⟨rfl,λg j=>nomatch j⟩,⟨rfl,rfl,rfl⟩,C.mono (by lia)⟩ ?_ ?_)
 .rintro i z Z hz ⟨o',gs,A,c,e,rfl,⟨hl,j⟩,⟨h5,H,G⟩,Y⟩;obtain⟨hi,rfl⟩:=qU hz;refine⟨xN o' a b ns gs (.fr (.int i)) c e,by cases A<;>first|(cases h5;done)|rfl,?_⟩;obtain⟨r6,t,L,J,b6,T⟩:=tk a Y (by lia) (by lia) (by lia);obtain⟨r7,S,F,D,b7,P⟩:=tk a T (by lia) (by lia) (by lia);obtain⟨p,hp,ep⟩:=CW (ns:=ns) J (by lia);obtain⟨q,R,eq⟩:=CW (ns:=ns) D (by lia);refine Wp.st (U:=xN t a b ns gs (.fr (.int i)) (.fr (bf p)) e) (br (ao rfl (aC rfl (L _)) (bt (.inl rfl) ep)) rfl rfl H rfl) ?_;refine Wp.st (U:=xN S a b ns gs (.fr (.int i)) (.fr (bf p)) (.fr (bf q))) (br (ao rfl (aC rfl (F _)) (bt (.inl rfl) eq)) rfl rfl G rfl) ?_;have fin:∀K p q,p∈ns->q∈ns->Wl (n+24+20*i+5) K->Wp LN (xN K a b ns gs (.fr (.int i)) (.fr (bf p)) (.fr (bf q))) λf Z0=>(f=.nx\/f=.ct)/\X5 λo' gs A c e=>N4 (Z0=xN o' a b ns gs A c e) (gs.length=i+1/\∀g∈gs,Gd ns g) (N3 (np A=true) (np c=true) (np e=true)) (Wl (n+24+20*(i+1:Nat)) o'):=by
   intro K p q hp R I;obtain⟨x,o8,v8,w8⟩:=wJ I (by lia);refine Wp.en (qN (a:=aG ⟨p,q,x⟩) (xs:=gs.map aG) rfl (dJ (aA rfl (aA rfl (aA (dJ (aA (aC rfl (Ih v8 rfl _)) (aA rfl rfl)) rfl) rfl))) rfl) rfl rfl (by rw[Nl];lia) rfl) ⟨.inl rfl,o8,gs++[⟨p,q,x⟩],_,_,_,by unfold xN;rw[NT];rfl,⟨by rw[Ny,hl];rfl,λg h=>?_⟩,⟨rfl,rfl,rfl⟩,w8.mono (by lia)⟩;rcases Nv.mp h with h|h
   .exact j g h
   .rw[Nw.mp h];exact⟨hp,R⟩
  have E:au (ay iJ (af 4) (cX cM)) (xN S a b ns gs (.fr (.int i)) (.fr (bf p)) (.fr (bf q)))=some (.ok (!decide (gs.map aG=[])),xN S a b ns gs (.fr (.int i)) (.fr (bf p)) (.fr (bf q))):=aR (ao rfl rfl (by simp only[ir,res,iJ];show (match (match lR (.lst (gs.map aG)) (.lst []) with|some k=>some (Rr.fr (.bl (!k)))|none=>none) with|some r=>some ((Pk r:Except Str Rr),xN S a b ns gs (.fr (.int i)) (.fr (bf p)) (.fr (bf q)))|none=>none)=_;rw[pA (om gs)]))
  by_cases Q:gs=[]
  .rw[Q] at E fin ⊢;exact Wp.st (fj (Ai E) rfl) (fin S p q hp R (P.mono (by lia)))
  .have ne:decide (gs.map aG=[])=false:=by simp[Q]
   rw[ne] at E;obtain⟨N,K,c5,a5,b5,I⟩:=tk 5 P (by lia) (by decide) (by decide);have l:∀b,decide (N=1)=b->∀Z,au (ay dg (bJ ag (bW (af 0) (ax 5))) (ax 1)) (.pv S::Z)=some (.ok b,.pv K::Z):=λb hb Z=>aR (ao (aC rfl (c5 _)) rfl (nv hb _));by_cases h5:N=1
   .have lg:0<gs.length:=RJ.mpr Q;obtain⟨r9,o9,c9,a9,b9,w9⟩:=tk (gs.length:Int) I (by lia) (by lia) (by lia);obtain⟨eg,mg⟩:=qt (gs:=gs) a9 b9;have gd:=j _ mg;have lk:bY (.lst (gs.map aG))=some (.fr (.int (gs.length:Int))):=by show some (Rr.fr (.int ((gs.map aG).length:Int)))=_;rw[Nl]
    refine Wp.st (iu (tV E (l true (decide_eq_true h5) _)) ?_) (fin o9 _ _ gd.v gd.u (w9.mono (by lia)));exact xB (qo (a:=aG (zG gs r9)) (ao rfl (aC (aA rfl (aA (kb rfl (ug rfl lk)) rfl)) (c9 _)) (bt (.inl rfl) eg)) rfl (kn rfl) rfl rfl) rfl
   .exact Wp.st (fj (tV E (l false (decide_eq_false h5) _)) rfl) (fin K p q hp R (I.mono (by lia)))
 .rintro O ⟨o',gs,A,c,e,rfl,⟨hl,j⟩,-,Y⟩;rw[ji] at hl;exact⟨rfl,Wp.en (bu rfl rfl) ⟨_,o',_,rfl,rfl,gs,rfl,by lia,j⟩⟩
theorem ni{α:Type}[DecidableEq α]:∀{xs ys:List α},xs.Nodup->(∀x∈xs,x∈ys)->xs.length<=ys.length
 |[],_,_,_=>Ou _
 |x::xs,ys,nd,h=>by obtain⟨C,l⟩:=Oe.mp nd;have hx:=h x (.head _);have j:=ni (ys:=ys.erase x) l λu B=>(List.mem_erase_of_ne λz=>C (by rw[<-z];exact B)).mpr (h u (Nt _ B));rw[List.length_erase_of_mem hx] at j;have:=List.length_pos_of_mem hx;rw[NM];lia
theorem wM(b:Nat->Nat->Bool):∀n,argBest b n<=n
 |0=>Nr 0
 |n+1=>by
  have e:argBest b (n+1)=if b (n+1) (argBest b n) then n+1 else argBest b n:=rfl
  have:=wM b n;rw[e];split<;>lia
variable{w:List Int}
theorem min_mem(h:w≠[]):jE w∈w:=by have l:0<w.length:=RJ.mpr h;have a:=wM (λi j=>decide (w.getD i 0<w.getD j 0)) (w.length-1);unfold jE;rw[OB,Nx (by omega)];exact OM _
theorem yd:∀{w:List Int}{i:Int},i∈w->∃j,sJ w i=some j
 |a::w,i,h=>by
  rw[sJ];by_cases e:a=i
  .exact⟨0,if_pos e⟩
  .obtain⟨j,v⟩:=yd (w:=w) ((ND.mp h).resolve_left λz=>e z.symm);exact⟨j+1,by rw[if_neg e,v];rfl⟩
theorem mD:∀w:List Int,fY (w.map A.int)=some w
 |[]=>rfl
 |a::w=>by rw[NK,fY,mD w]
theorem vS:∀w:List Int,ql (w.map A.int)=some (w.map Ot)
 |[]=>rfl
 |a::w=>by rw[NK,ql,vS w];rfl
noncomputable def cO(D:List (List Int)):List (List Key×A):=D.map λk=>(k.map Ot,A.bl true)
theorem sM:∀{k w:List Int},(k.map Ot:List Key)=w.map Ot->k=w
 |[],[],_=>rfl
 |[],_::_,h=>by cases h
 |_::_,[],h=>by cases h
 |a::k,b::w,h=>by rw[NK,NK] at h;injection h with h1 h2;injection h1 with h1;rw[h1,sM h2]
theorem Av(D:List (List Int))(k:List Int):qS (cO D) (k.map Ot) (.bl true)=cO (if k∈D then D else D++[k]):=by
 unfold qS;have e:((cO D).any λx=>decide (x.1=k.map Ot))=decide (k∈D):=by
  rw[Rj,O3,decide_eq_true_iff];constructor
  .rintro⟨x,hx,e⟩;obtain⟨w,f,rfl⟩:=NB.mp hx;rw[<-sM (of_decide_eq_true e)];exact f
  .intro h;exact⟨_,NB.mpr ⟨k,h,rfl⟩,decide_eq_true rfl⟩
 rw[e];by_cases h:k∈D
 .rw[if_pos (decide_eq_true h),if_pos h];unfold cO;rw[Om];refine Qe λw _=>?_;show (if (w.map Ot:List Key)=k.map Ot then _ else _)=_;split<;>rfl
 .rw[if_neg (by rw[decide_eq_false h];decide),if_neg h];unfold cO;rw[NT];rfl
theorem t9(g:Nat->Int):∀n i,i<=n->g (argBest (λi j=>decide (g i<g j)) n)<=g i
 |0,i,h=>by rw[Nat.le_zero.mp h];exact Sz _
 |n+1,i,h=>by
  have e:argBest (λi j=>decide (g i<g j)) (n+1)=if decide (g (n+1)<g (argBest (λi j=>decide (g i<g j)) n)) then n+1 else argBest (λi j=>decide (g i<g j)) n:=rfl
  have c:=t9 g n;have Q:=c n (Nr _);rw[e];by_cases hc:g (n+1)<g (argBest (λi j=>decide (g i<g j)) n)
  .rw[if_pos (decide_eq_true hc)];by_cases z:i=n+1
   .rw[z];exact Sz _
   .have:=c i (by lia);lia
  .rw[if_neg (by rw[decide_eq_false hc];decide)];by_cases z:i=n+1
   .rw[z];lia
   .exact c i (by lia)
theorem min_le(h:i∈w):jE w<=i:=by
 obtain⟨j,v,rfl⟩:=Pc h;have:=t9 (λi=>w.getD i 0) (w.length-1) j (by omega);have e:w.getD j 0=w[j]:=by simp[v]
 rw[e] at this;exact this
theorem Di:∀{w:List Int}{i:Int}{j:Nat},sJ w i=some j->∃t,w=w.take j++i::t/\w.drop j=i::t
 |[],_,_,h=>nomatch h
 |a::w,i,j,h=>by
  rw[sJ] at h;split at h
  .rename_i e;cases h;exact⟨w,by rw[e];rfl,by rw[e];rfl⟩
  .cases e:sJ w i with
   |none=>rw[e] at h;cases h
   |some j'=>rw[e] at h;cases h;obtain⟨t,h1,h2⟩:=Di e;exact⟨t,congrArg (a::·) h1,h2⟩
variable{p:List Int}
section
variable{u v:Int->Nd}{n:Nat}
def lk(u v:Int->Nd):List Int->Prop
 |a::b::l=>v a=u b/\lk u v (b::l)
 |_=>True
def jn(u v:Int->Nd)(a b:List Int):Prop:=∀x,a.getLast?=some x->∀y,b.head?=some y->v x=u y
theorem j5:∀{a b:List Int},lk u v (a++b)↔lk u v a/\lk u v b/\jn u v a b
 |[],b=>⟨λh=>⟨trivial,h,λx hx=>nomatch hx⟩,λh=>h.2.1⟩
 |[x],[]=>⟨λ_=>⟨trivial,trivial,λx hx y hy=>nomatch hy⟩,λ_=>trivial⟩
 |[x],y::l=>⟨λh=>⟨trivial,h.2,λa ha b hb=>by cases ha;cases hb;exact h.1⟩,λh=>⟨h.2.2 x rfl y rfl,h.2.1⟩⟩
 |x::y::l,b=>by
  have j:=j5 (a:=y::l) (b:=b);have e:jn u v (x::y::l) b↔jn u v (y::l) b:=by unfold jn;rw[List.getLast?_cons_cons]
  rw[e];show (v x=u y/\lk u v (y::l++b))↔((v x=u y/\lk u v (y::l))/\_);rw[j];exact⟨λh=>⟨⟨h.1,h.2.1⟩,h.2.2⟩,λh=>⟨h.1.1,h.1.2,h.2⟩⟩
structure Wy(u v:Int->Nd)(n:Nat)(w:List Int):Prop where
 ne:w≠[]
 r:∀i∈w,0<=i/\i<(n:Int)
 nd:(w.map u).Nodup
 lk:lk u v w
structure Ch(u v:Int->Nd)(n:Nat)(k:List Int):Prop where
 w:Wy u v n k
 cl:jn u v k k
 le:∀f,k.head?=some f->∀i∈k,f<=i
theorem Ff{l:List Int}(h:(l.map u).Nodup):∀{a b:Int},a∈l->b∈l->u a=u b->a=b:=by
 induction l with
 |nil=>intro a b ha;cases ha
 |cons c l j=>
  intro a b ha hb e;rw[NK,Oe] at h;rcases ND.mp ha with ha|ha<;>rcases ND.mp hb with hb|hb
  .rw[ha,hb]
  .exact absurd (NB.mpr ⟨b,hb,by rw[<-e,ha]⟩) h.1
  .exact absurd (NB.mpr ⟨a,ha,by rw[e,hb]⟩) h.1
  .exact j h.2 ha hb e
theorem qP{x:Int}(hx:w.getLast?=some x):jn u v w [k]↔v x=u k:=
 ⟨λh=>h x hx k rfl,λh a ha b hb=>by rw[hx] at ha;cases ha;cases hb;exact h⟩
theorem Wy.ext(h:Wy u v n w)(e:jn u v w [k])(hk:0<=k/\k<(n:Int))(hn:u k∉w.map u):Wy u v n (w++[k]):=
 ⟨by simp,λi hi=>(Nv.mp hi).elim (h.r i) λz=>by rw[Nw.mp z];exact hk,by
  rw[NT];exact N8.mpr ⟨h.nd,Oe.mpr ⟨by simp,.nil⟩,λa ha b hb z=>by rw[Uo] at hb;rw[Nw.mp hb] at z;exact hn (z▸ha)⟩,j5.mpr ⟨h.lk,trivial,e⟩⟩
theorem Wy.MN{a b:List Int}(h:Wy u v n (a++b))(c:jn u v (a++b) (a++b))(hb:b≠[])(hm:∀m,b.head?=some m->∀i∈a++b,m<=i):Ch u v n (b++a):=by
 have pm:(b++a).Perm (a++b):=Oz;obtain⟨Q,U,Y⟩:=j5.mp h.lk;have V:(b++a).head?=b.head?:=by cases b with
  |nil=>exact absurd rfl hb
  |cons x b=>rfl
 have hl:(a++b).getLast?=b.getLast?:=by rw[T3];cases e:b.getLast? with
  |none=>exact absurd (S8.mp e) hb
  |some x=>rfl
 have N:Wy u v n (b++a):=by
  refine⟨by simp[hb],λi hi=>h.r i (pm.mem_iff.mp hi),(pm.map u).nodup_iff.mpr h.nd,j5.mpr ⟨U,Q,λx hx y hy=>?_⟩⟩;refine c x (by rw[hl];exact hx) y ?_;cases a with
  |nil=>cases hy
  |cons z a=>exact hy
 refine⟨N,λx hx y hy=>?_,λf hf i hi=>hm f (by rw[<-V];exact hf) i (pm.mem_iff.mp hi)⟩;rw[V] at hy;cases a with
 |nil=>rw[Oo] at hx;exact c x (by exact hx) y (by exact hy)
 |cons z a=>
  refine Y x ?_ y hy;rw[T3] at hx;cases e:(z::a).getLast? with
  |none=>rw[S8] at e;cases e
  |some q=>rw[e] at hx;exact hx
theorem Ch.next{r:List Int}{x l f:Int}(h:Ch u v n (w++x::r))(hl:w.getLast?=some l)(hf:w.head?=some f):v l=u x/\u x∉w.map u/\(0<=x/\x<(n:Int))/\f<x/\v l≠u f:=by
 have hd:(w++x::r).head?=some f:=by cases w with
  |nil=>cases hf
  |cons a w=>exact hf
 have o:f∈w:=Pj hf;have e:v l=u x:=(j5.mp h.w.lk).2.2 l hl x rfl;have nd:=h.w.nd;rw[NT,NK,N8] at nd;have nx:u x∉w.map u:=λz=>nd.2.2 _ z _ (.head _) rfl;have hx:x∈w++x::r:=by simp
 have h1:=h.le f hd x hx;have h2:f≠x:=λz=>nx (NB.mpr ⟨f,o,by rw[z]⟩);exact⟨e,nx,h.w.r x hx,by omega,λz=>nx (by rw[<-e,z];exact NB.mpr ⟨f,o,rfl⟩)⟩
theorem Ch.uniq:∀{r s p:List Int},p≠[]->Ch u v n (p++r)->Ch u v n (p++s)->(∀i,i∈p++r↔i∈p++s)->r=s
 |[],[],_,_,_,_,_=>rfl
 |[],y::s,p,hp,h1,h2,h=>by
  obtain⟨l,hl⟩:∃l,p.getLast?=some l:=⟨_,PK hp⟩
  obtain⟨f,hf⟩:∃f,p.head?=some f:=⟨_,Qo hp⟩
  have hy:y∈p:=by simpa using (h y).mpr (by simp)
  exact absurd (NB.mpr ⟨y,hy,rfl⟩) (h2.next hl hf).2.1
 |x::r,[],p,hp,h1,h2,h=>by
  obtain⟨l,hl⟩:∃l,p.getLast?=some l:=⟨_,PK hp⟩
  obtain⟨f,hf⟩:∃f,p.head?=some f:=⟨_,Qo hp⟩
  have hy:x∈p:=by simpa using (h x).mp (by simp)
  exact absurd (NB.mpr ⟨x,hy,rfl⟩) (h1.next hl hf).2.1
 |x::r,y::s,p,hp,h1,h2,h=>by
  obtain⟨l,hl⟩:∃l,p.getLast?=some l:=⟨_,PK hp⟩
  obtain⟨f,hf⟩:∃f,p.head?=some f:=⟨_,Qo hp⟩
  have e:x=y:=Ff h1.w.nd (by simp) ((h y).mpr (by simp)) ((h1.next hl hf).1.symm.trans (h2.next hl hf).1);subst e;have D:p++x::r=(p++[x])++r:=by simp
  have F:p++x::s=(p++[x])++s:=by simp
  rw[D] at h1 h;rw[F] at h2 h;rw[Ch.uniq (by simp) h1 h2 h]
theorem Ch.same{k q:List Int}(h1:Ch u v n k)(h2:Ch u v n q)(h:∀i,i∈k↔i∈q):k=q:=by
 cases k with
 |nil=>exact absurd rfl h1.w.ne
 |cons a k=>cases q with
  |nil=>exact absurd rfl h2.w.ne
  |cons b q=>
   have N:=h1.le a rfl b ((h b).mpr (.head _));have r:=h2.le b rfl a ((h a).mp (.head _));have e:a=b:=by lia
   subst e;rw[Ch.uniq (p:=[a]) (by simp) h1 h2 h]
noncomputable def mask(P:Nat->Bool):Nat->Nat
 |0=>0
 |n+1=>2*mask P n+if P n then 1 else 0
theorem sE(P:Nat->Bool):∀n,mask P n<2^n
 |0=>Nat.one_pos
 |n+1=>by have:=sE P n;rw[mask,R9];split<;>lia
theorem nP{P Q:Nat->Bool}:∀{n},mask P n=mask Q n->∀i,i<n->P i=Q i
 |0,_,i,h=>absurd h (OZ _)
 |n+1,h,i,hi=>by
  rw[mask,mask] at h;have h1:mask P n=mask Q n:=by revert h;split<;>split<;>lia
  by_cases e:i=n
  .subst e;revert h;cases P i<;>cases Q i<;>simp<;>lia
  .exact nP h1 i (by lia)
theorem LB{D:List (List Int)}(hn:n<=16)(nd:D.Nodup)(h:∀k∈D,Ch u v n k):D.length<=65536:=by
 have l:(D.map λk=>mask (λi=>decide ((i:Int)∈k)) n).Nodup:=by
  unfold Uj at nd ⊢;rw[PY];refine QC (λ{a b} ha hb N e=>N ((h _ ha).same (h _ hb) λi=>?_)) nd;have V:∀j:Nat,j<n->((j:Int)∈a↔(j:Int)∈b):=λj H=>by have:=nP e j H;rwa[decide_eq_decide] at this
  constructor
  .intro hi;have:=(h _ ha).w.r i hi;have k:=V i.toNat (by lia);rw[Up this.1] at k;exact k.mp hi
  .intro hi;have:=(h _ hb).w.r i hi;have k:=V i.toNat (by lia);rw[Up this.1] at k;exact k.mpr hi
 have:=ni (ys:=NA 65536) l λc hc=>by obtain⟨k,hk,rfl⟩:=NB.mp hc;exact NU.mpr (Nn (sE _ n) (O7 (by decide) hn:2^n<=2^16))
 rw[Nl,Oi] at this;exact this
noncomputable def De(u v:Int->Nd)(n:Nat)(f l:Int):List Int:=((NA (n-(f+1).toNat)).map λ(j:Nat)=>f+1+(j:Int)).filter λk=>decide (u k=v l)
theorem sx{f l:Int}(w:0<=f):k∈De u v n f l↔(f<k/\k<(n:Int))/\u k=v l:=by
 unfold De;rw[Qj,NB,decide_eq_true_iff];constructor
 .rintro⟨⟨j,c,rfl⟩,h⟩;have:=NU.mp c;exact⟨⟨by omega,by omega⟩,h⟩
 .rintro⟨⟨h1,h2⟩,h⟩;exact⟨⟨(k-f-1).toNat,NU.mpr (by omega),by omega⟩,h⟩
theorem DZ(f l:Int):(De u v n f l).Pairwise λa b=>a<b:=by unfold De;refine Vs _ ?_;rw[PY];exact Rg.imp λh=>by lia
def Fc(u v:Int->Nd)(n:Nat):Nat->List Int->List (List Int)
 |0,_=>[]
 |m+1,p=>if v (p.getLastD 0)=u (p.headD 0) then [p] else if v (p.getLastD 0)∈p.map u then [] else (De u v n (p.headD 0) (p.getLastD 0)).flatMap λk=>Fc u v n m (p++[k])
theorem lC{m:Nat}{f l:Int}(hf:p.head?=some f)(hl:p.getLast?=some l):Fc u v n (m+1) p=if v l=u f then [p] else if v l∈p.map u then [] else (De u v n f l).flatMap λk=>Fc u v n m (p++[k]):=by
 have D:p.headD 0=f:=by rw[List.headD_eq_head?_getD,hf];rfl
 have F:p.getLastD 0=l:=by rw[List.getLastD_eq_getLast?,hl];rfl
 rw[Fc,D,F]
theorem ends(h:p≠[]):∃f l,p.head?=some f/\p.getLast?=some l:=⟨_,_,Qo h,PK h⟩
theorem wc{r:List Int}{f:Int}(h:p.head?=some f):(p++r).head?=some f:=by cases p with
 |nil=>cases h
 |cons a p=>exact h
theorem jY:∀{m:Nat}{p k:List Int},p≠[]->k∈Fc u v n m p->p <+: k
 |0,_,_,_,h=>nomatch h
 |m+1,p,k,hp,h=>by
  obtain⟨f,l,hf,hl⟩:=ends hp;rw[lC hf hl] at h;split at h
  .rw[Nw.mp h];exact List.prefix_refl _
  .split at h
   .cases h
   .obtain⟨x,_,hk⟩:=Q9.mp h;exact(List.prefix_append p [x]).trans (jY (by simp) hk)
theorem Cu:∀{m:Nat}{p k:List Int},Wy u v n p->(∀f,p.head?=some f->∀i∈p,f<=i)->k∈Fc u v n m p->Ch u v n k
 |0,_,_,_,_,h=>nomatch h
 |m+1,p,k,hp,hm,h=>by
  obtain⟨f,l,hf,hl⟩:=ends hp.ne;rw[lC hf hl] at h;split at h
  .rename_i e;rw[Nw.mp h];exact⟨hp,λx hx y hy=>by rw[hl] at hx;rw[hf] at hy;cases hx;cases hy;exact e,hm⟩
  .split at h
   .cases h
   .rename_i h2;obtain⟨x,hx,hk⟩:=Q9.mp h;have o:=hp.r f (Pj hf);obtain⟨N,c⟩:=(sx o.1).mp hx;refine Cu (hp.ext ((qP hl).mpr c.symm) ⟨by lia,N.2⟩ (by rw[c];exact h2)) (λg j i hi=>?_) hk;rw[wc hf] at j;cases j;rcases Nv.mp hi with z|z
    .exact hm f hf i z
    .rw[Nw.mp z];lia
theorem yj:∀{m:Nat}{p r:List Int},Ch u v n (p++r)->p≠[]->r.length<m->p++r∈Fc u v n m p
 |0,_,_,_,_,h=>absurd h (OZ _)
 |m+1,p,[],hc,hp,h=>by obtain⟨f,l,hf,hl⟩:=ends hp;rw[Oo] at hc ⊢;rw[lC hf hl,if_pos (hc.cl l hl f hf)];exact .head _
 |m+1,p,x::r,hc,hp,h=>by
  obtain⟨f,l,hf,hl⟩:=ends hp;obtain⟨h1,h2,h3,h4,h5⟩:=hc.next hl hf;have o:=hc.w.r f (NF _ (Pj hf));rw[lC hf hl,if_neg h5,if_neg (by rw[h1];exact h2)];have e:p++x::r=(p++[x])++r:=by simp
  rw[e] at hc ⊢;exact Q9.mpr ⟨x,(sx o.1).mpr ⟨⟨h4,h3.2⟩,h1.symm⟩,yj hc (by simp) (by simp at h;omega)⟩
theorem CJ{R:List Int->List Int->Prop}(h:∀(p:List Int)(a b:Int)(r s:List Int),a<b->R (p++a::r) (p++b::s)):∀{m:Nat}{p:List Int},p≠[]->(Fc u v n m p).Pairwise R
 |0,_,_=>.nil
 |m+1,p,hp=>by
  obtain⟨f,l,hf,hl⟩:=ends hp;rw[lC hf hl];split
  .exact List.pairwise_singleton _ _
  .split
   .exact .nil
   .refine TM.mpr ⟨λk _=>CJ h (by simp),(DZ f l).imp λ{a b} N x hx y hy=>?_⟩;obtain⟨r,rfl⟩:=jY (by simp) hx;obtain⟨s,rfl⟩:=jY (by simp) hy;rw[Nj,Nj];exact h p a b r s N
def Cc(u v:Int->Nd)(n:Nat):List (List Int):=(NA n).flatMap λi=>Fc u v n 7 [(0+(i:Nat):Int)]
theorem Cf{R:List Int->List Int->Prop}(h:∀(p:List Int)(a b:Int)(r s:List Int),a<b->R (p++a::r) (p++b::s)):(Cc u v n).Pairwise R:=by refine TM.mpr ⟨λk _=>CJ h (by simp),Rg.imp λ{a b} N x hx y hy=>?_⟩;obtain⟨r,rfl⟩:=jY (by simp) hx;obtain⟨s,rfl⟩:=jY (by simp) hy;exact h [] _ _ r s (by lia)
theorem Wy.one(h:0<=i/\i<(n:Int)):Wy u v n [i]:=⟨by simp,λj c=>by rw[Nw.mp c];exact h,Oe.mpr ⟨by simp,.nil⟩,trivial⟩
theorem rl(m:∀w,Wy u v n w->w.length<=6){k:List Int}:k∈Cc u v n↔Ch u v n k:=by
 unfold Cc;rw[Q9];constructor
 .rintro⟨i,hi,hk⟩;have:=NU.mp hi;exact Cu (.one ⟨by lia,by lia⟩) (λf hf j c=>by cases hf;rw[Nw.mp c];exact Sz _) hk
 .intro h;have l:=m k h.w;cases k with
  |nil=>exact absurd rfl h.w.ne
  |cons a k=>
   have ha:=h.w.r a (.head _);have e:(0+(a.toNat:Nat):Int)=a:=by lia
   refine⟨a.toNat,NU.mpr (by lia),?_⟩;rw[e];exact yj (p:=[a]) h (by simp) (by simp at l;lia)
end
noncomputable def tupI(k:List Int):A:=.tup (k.map A.int)
def un(gs:List Gp)(k:Int):Nd:=(zG gs k).p
def vn(gs:List Gp)(k:Int):Nd:=(zG gs k).q
abbrev C8(gs:List Gp):List Int->Prop:=Wy (un gs) (vn gs) gs.length
abbrev CD(gs:List Gp):List Int->Prop:=Ch (un gs) (vn gs) gs.length
theorem vQ(h:0<=k/\k<(gs.length:Int)):fk (gs.map aG) k=some (aG (zG gs k)):=(qt h.1 h.2).1
theorem Wy.qZ(j:∀g∈gs,Gd ns g)(m:ns.length<=6)(h:C8 gs w):w.length<=6:=by
 have:=ni (ys:=ns) h.nd λa ha=>by obtain⟨k,hk,rfl⟩:=NB.mp ha;exact(j _ (qt (h.r k hk).1 (h.r k hk).2).2).u
 rw[Nl] at this;lia
theorem vy(p q:Nd):D.eq (.tup [.str p.1,.str p.2]) (.tup [.str q.1,.str q.2])=decide (p=q):=by obtain⟨a,b⟩:=p;obtain⟨c,d⟩:=q;simp[D.eq,D.eqs,TJ,UI]
theorem mJ(p:Nd):toD (bf p)=some (.tup [.str p.1,.str p.2]):=by unfold bf;simp[toD,cL]
theorem sS:∀ps:List Nd,cL (ps.map bf)=some (ps.map λp=>.tup [.str p.1,.str p.2])
 |[]=>by simp[cL]
 |p::ps=>by rw[NK,cL,sS ps,mJ];rfl
theorem m8(p q:Nd)(Z:List Sl):ir dg (.fr (bf p)) (.fr (bf q)) Z=some (.ok (.fr (.bl (decide (p=q)))),Z):=by refine fu (o:=none) rfl rfl ?_;unfold dg lR;rw[mJ,mJ];dsimp only;rw[if_pos (by simp[D.depth,D.c8]),vy]
theorem rN(p:Nd)(ps:List Nd)(Z:List Sl):ir (dS true) (.fr (bf p)) (.nw (.lst (ps.map bf))) Z=some (.ok (.fr (.bl (!decide (p∈ps)))),Z):=by
 refine fu (o:=none) (b:=.lst (ps.map bf)) rfl rfl ?_;show dS true (bf p) (.lst (ps.map bf))=some (.fr (.bl (!decide (p∈ps))))
 .unfold dS;dsimp only;rw[mJ,sS];dsimp only;have h1:((ps.map λp=>D.tup [.str p.1,.str p.2]).all λe=>decide (D.depth e<=40))=true:=by rw[Oh];intro d hd;obtain⟨q,_,rfl⟩:=NB.mp hd;simp[D.depth,D.c8]
  have h2:((ps.map λp=>D.tup [.str p.1,.str p.2]).any λe=>D.eq e (.tup [.str p.1,.str p.2]))=decide (p∈ps):=by
   rw[Rj,O3,decide_eq_true_iff];constructor
   .rintro⟨d,hd,e⟩;obtain⟨q,R,rfl⟩:=NB.mp hd;rw[vy] at e;exact of_decide_eq_true e▸R
   .intro h;exact⟨_,NB.mpr ⟨p,h,rfl⟩,by rw[vy];exact decide_eq_true rfl⟩
  rw[if_pos h1,h2];rfl
theorem EO{a b:A}(h:mo Z=some (.ok x,Z))(h1:res Z x=some a)(ht:JJ a=true)(k:m Z=some (.ok y,Z))(h2:res Z y=some b)(e:G9 a b=some r):zi mo m Z=some (.ok r,Z):=by refine bk h ?_;rw[h1];dsimp only;rw[if_pos ht];refine bk k ?_;rw[h1,h2];dsimp only;rw[e]
theorem AK{i:Nat}{a ka:A}{kvs:List (List Key×A)}{y:List Key}(h:m Z=some (.ok r,Z1))(d:B9 Z1 i=true)(hk:mk Z1=some (.ok rk,U))(f:bg r U=some (a,Z0))(h1:res Z0 rk=some ka)(l:aM Z0 i=some (.dit kvs))(n:zr ka=some y)(hl:kvs.length<=16000000)(e:setAt Z0 i (.dit (qS kvs y a))=F):oV i mk m Z=some (.nx,F):=by refine sk h ((if_pos d).trans (sk hk ?_));rw[f];dsimp only;rw[h1,l];dsimp only;rw[n];dsimp only;rw[if_pos hl,e]
theorem ES{x y:List A}(h:x.length+y.length<=100000)(Z:List Sl):ir aB (.fr (.tup x)) (.fr (.tup y)) Z=some (.ok (.fr (.tup (x++y))),Z):=by have k:tQ (.tup x) (.tup y)=some (.fr (.tup (x++y))):=if_pos h;refine fu (o:=none) rfl rfl ?_;unfold aB zD;rw[show sY (.tup x) (.tup y)=none from rfl];dsimp only;rw[show rE (.tup x) (.tup y)=none from rfl,k]
theorem yz(f:α->A)(xs:List α)(k:Nat):iV (xs.map f) (some (k:Int)) none=(xs.drop (min k xs.length)).map f:=by unfold iV;rw[Nl,HT.oK,HT.tY,List.map_drop,PL];rw[Qv,Nl];lia
abbrev gL(gs:List Gp)(D S:List (List Int))(h x4 x:Sl):List Sl:=[.fr (.lst (gs.map aG)),.lv (.dit (cO D)),.lv (.lst (S.map tupI)),h,x4,x]
abbrev Md:Ms:=az (aF 5 (zi (af 3) (cU jD (af 3)))) (oV 1 (ay aB (nC (af 3) (bH (af 5)) bL) (nC (af 3) bL (bH (af 5)))) (mC (.bl true)))
abbrev Mo:Ms:=aY (cD 2 (fO 2 (aP 1 (cb (cU bY (af 0))) (aJ 6) (au (ay dg (mix (mix (af 0) (af 6)) (ax 0)) (af 4))) (ay aB (af 3) (bR (gp (af 6)))))))
abbrev Mm:Mi Bool:=au (ay (dS true) (af 4) (aP 1 (cj (af 3)) (aJ 6) aO (mix (mix (af 0) (af 6)) (ax 0))))
abbrev Mu:Mi Bool:=au (ay dg (af 4) (mix (mix (af 0) (mix (af 3) (ax 0))) (ax 0)))
abbrev K9:Ms:=az (aF 3 (qH 2)) (az (aF 4 (mix (mix (af 0) (mix (af 3) (oZ hE (ax 1)))) (ax 1))) (cS Mu Md (cS Mm Mo aU)))
theorem uZ:cB=bS 5 (az (aF 1 mH) (az (aF 2 (aP 1 (cb (cU bY (af 0))) (aJ 6) aO (bR (gp (af 6))))) (az (iw Cv (au (ay iJ (af 2) (cX cM))) K9) (ck (iq 1))))):=rfl
structure Cs(gs:List Gp)(D S:List (List Int)):Prop where
 dn:D.Nodup
 dk:∀k∈D,CD gs k
 sw:∀w∈S,C8 gs w
 sb:∀i w,S[i]?=some w->i<16*w.length
 al:∀k,CD gs k->k∈D\/∃w∈S,w <+: k
noncomputable def qp(S:List (List Int)):Nat:=(S.map λw=>17^(16-w.length)).sum
theorem ng(S T:List (List Int)):qp (S++T)=qp S+qp T:=by unfold qp;rw[NT,List.sum_append]
theorem sT(w:List Int):qp [w]=17^(16-w.length):=by simp[qp]
variable{S:List (List Int)}
theorem xX:(∀w∈S,17^(16-w.length)<=c)->qp S<=S.length*c:=by
 induction S with
 |nil=>intro _;exact Ou _
 |cons w S j=>
  intro h;have h1:=h w (.head _);have h2:=j λv u=>h v (Nt _ u);have e:qp (w::S)=17^(16-w.length)+qp S:=by simp[qp]
  rw[e,NM,Nat.succ_mul];lia
variable{x3 x4 x5:Sl}
theorem ER{D:List (List Int)}:qH 2 (gL gs D (S++[w]) x3 x4 x5)=some (.ok (.fr (tupI w)),gL gs D S x3 x4 x5):=by
 show (match ((S++[w]).map tupI)[((S++[w]).map tupI).length-1]? with|some a=>some ((Pk (Rr.fr a):Except Str Rr),setAt (gL gs D (S++[w]) x3 x4 x5) 2 (.lst ((S++[w]).map tupI).dropLast))|none=>none)=_;have e:((S++[w]).map tupI)[((S++[w]).map tupI).length-1]?=some (tupI w):=by rw[NT];simp
 have F:((S++[w]).map tupI).dropLast=S.map tupI:=by rw[NT,Uo,List.dropLast_concat]
 rw[e,F];rfl
theorem jP{n:Nat}(h:n<=16)(Z:List Sl):gi (.fr (.int (n:Int))) Z=some (.ok ((NA n).map λk=>A.int (0+(k:Nat))),Z):=by unfold gi;dsimp only [res];rw[if_pos (by lia),OF];rfl
section
variable{ns:List Nd}{gs:List Gp}
theorem nt(Z:List Sl)(h:Z[0]?=some (.fr (.lst (gs.map aG)))):cU bY (af 0) Z=some (.ok (.fr (.int (gs.length:Int))),Z):=by
 have e:bY (.lst (gs.map aG))=some (.fr (.int (gs.length:Int))):=by show some (Rr.fr (.int ((gs.map aG).length:Int)))=_;rw[Nl]
 exact kb (x:=.fr (.lst (gs.map aG))) (by rw[oT,h]) (ug rfl e)
theorem yu{D:List (List Int)}{f l:Int}(n:gs.length<=16)(hl:w.length<=6)(hc:Cs gs D (S++[w]))(hf:w.head?=some f)(ha:w.getLast?=some l)(cl:vn gs l=un gs f)(h5:np x5=true):X2 λo Z=>N3 (Md (gL gs D S (.fr (tupI w)) x4 x5)=some (.nx,gL gs o S (.fr (tupI w)) x4 Z)) (Cs gs o S) (np Z=true):=by
 have N:=hc.sw w (by simp);obtain⟨j,H⟩:=yd (min_mem N.ne);obtain⟨t,E,K⟩:=Di H;have G:jD (tupI w)=some (.fr (.int (jE w))):=by unfold jD tupI;dsimp only;rw[mD];dsimp only;rw[if_neg N.ne]
 have F:G9 (tupI w) (.int (jE w))=some (.fr (.int (j:Int))):=by unfold G9 tupI;dsimp only;rw[mD];dsimp only;rw[H]
 have I:j<w.length:=by have:=congrArg TR K;rw[Qv,NM] at this;lia
 have ka:(iV (w.map A.int) (some (j:Int)) none++iV (w.map A.int) none (some (j:Int)))=(w.drop j++w.take j).map A.int:=by rw[yz,BV,NT,Nat.min_eq_left (by lia)]
 have p:jn (un gs) (vn gs) w w:=λx hx y hy=>by rw[ha] at hx;rw[hf] at hy;cases hx;cases hy;exact cl
 have kk:CD gs (w.drop j++w.take j):=by rw[<-OA j w] at N p;refine Wy.MN N p (by rw[K];simp) λm hm i hi=>?_;rw[K] at hm;cases hm;rw[OA] at hi;exact min_le hi
 have ks:CD gs w->w.drop j++w.take j=w:=λh=>by
  have h1:=h.le f hf _ (min_mem N.ne);have h2:=min_le (Pj hf);have e:jE w=f:=by lia
  rw[e] at H;cases w with
  |nil=>cases hf
  |cons a w=>cases hf;rw[sJ,if_pos rfl] at H;cases H;simp
 have lk:(w.drop j++w.take j).length=w.length:=by rw[Ny,Qv,P6];lia
 generalize L:w.drop j++w.take j=k at ka kk ks lk;refine⟨if k∈D then D else D++[k],.fr (.int j),?_,⟨?_,?_,λv u=>hc.sw v (NF _ u),λi v u=>hc.sb i v (by rw[Ob (Np.mp u).1];exact u),λc h=>?_⟩,rfl⟩
 .refine dB (br (U:=gL gs D S (.fr (tupI w)) x4 x5) (EO rfl rfl rfl (kb rfl (ug rfl G)) rfl F) rfl rfl h5 rfl) ?_;refine AK (a:=.bl true) (ka:=.tup (k.map A.int)) (y:=k.map Ot) (kvs:=cO D) rfl rfl (ao (qo (a:=tupI w) rfl (kn rfl) rfl rfl rfl) (qo (a:=tupI w) rfl rfl (kn rfl) rfl rfl) (ES ?_ _)) rfl ?_ rfl (vS k) ?_ ?_
  .rw[<-Ny,ka,Nl,lk];lia
  .rw[ka];rfl
  .unfold cO;rw[Nl];exact N5 (LB n hc.dn hc.dk) (by decide)
  .rw[Av];rfl
 .split
  .exact hc.dn
  .rename_i z;exact N8.mpr ⟨hc.dn,Oe.mpr ⟨by simp,.nil⟩,λa ha b hb e=>by rw[Nw.mp hb] at e;exact z (e▸ha)⟩
 .intro q R;split at R
  .exact hc.dk q R
  .rcases Nv.mp R with h|h
   .exact hc.dk q h
   .rw[Nw.mp h];exact kk
 .have sub:∀q,q∈D\/q=k->q∈if k∈D then D else D++[k]:=λq R=>by
   split
   .rename_i z;rcases R with h|h
    .exact h
    .rw[h];exact z
   .rcases R with h|h
    .exact NF _ h
    .rw[h];simp
  rcases hc.al c h with h'|⟨Y,s,r,B⟩
  .exact .inl (sub c (.inl h'))
  .rcases Nv.mp s with z|z
   .exact .inr ⟨Y,z,r,B⟩
   .rw[Nw.mp z] at B;subst B;cases r with
    |nil=>rw[Oo] at h ⊢;exact .inl (sub w (.inr (ks h).symm))
    |cons x r=>exact absurd cl (h.next ha hf).2.2.2.2
end
section
variable{ns:List Nd}{gs:List Gp}
def kids(gs:List Gp)(w:List Int)(q:Nd):List (List Int):=((NA gs.length).filter λ(i:Nat)=>decide (un gs (0+(i:Nat))=q)).map λ(i:Nat)=>w++[(0+(i:Nat):Int)]
theorem kv(w:List Int)(q:Nd):(kids gs w q).length<=gs.length:=by unfold kids;rw[Nl];exact N5 (List.length_filter_le _ _) (by rw[Oi];exact Nr _)
theorem gJ{v:List Int}{q:Nd}:v∈kids gs w q↔∃k:Int,v=w++[k]/\un gs k=q/\0<=k/\k<(gs.length:Int):=by
 constructor
 .intro h;obtain⟨i,hi,rfl⟩:=NB.mp h;obtain⟨h1,h2⟩:=Qj.mp hi;have:=NU.mp h1;exact⟨_,rfl,of_decide_eq_true h2,by lia,by lia⟩
 .rintro⟨k,rfl,h1,h2,h3⟩;have e:(0+(k.toNat:Nat):Int)=k:=by lia
  exact NB.mpr ⟨k.toNat,Qj.mpr ⟨NU.mpr (by lia),by rw[e];exact decide_eq_true h1⟩,by rw[e]⟩
theorem z6{D:List (List Int)}{q:Nd}(n:gs.length<=16)(hl:w.length<=6)(h:S.length<=1000):Mo (gL gs D S (.fr (tupI w)) (.fr (bf q)) x5)=some (.nx,gL gs D (S++kids gs w q) (.fr (tupI w)) (.fr (bf q)) x5):=by
 have k:=BI (i:=6) (ts:=NA gs.length) (Z1:=gL gs D S (.fr (tupI w)) (.fr (bf q)) x5) (t:=au (ay dg (mix (mix (af 0) (af 6)) (ax 0)) (af 4))) (e:=ay aB (af 3) (bR (gp (af 6)))) (λi=>.int (0+(i:Nat))) (λi=>.tup (w.map A.int++[.int (0+(i:Nat))])) (λi=>decide (un gs (0+(i:Nat))=q)) rfl (by rw[Oi];lia) (λi hi=>by have hi:=NU.mp hi;have e:=vQ (gs:=gs) (k:=0+(i:Nat)) ⟨by lia,by lia⟩;exact⟨aR (ao (ao (ao rfl rfl (bt (.inl rfl) e)) rfl (bt (.inr rfl) rfl)) rfl (m8 _ _ _)),λ_=>⟨_,ao rfl (dJ rfl rfl) (ES (by rw[Nl];show w.length+1<=_;lia) _),rfl⟩⟩)
 have e:((NA gs.length).filter λi=>decide (un gs (0+(i:Nat))=q)).map (λi=>A.tup (w.map A.int++[.int (0+(i:Nat))]))=(kids gs w q).map tupI:=by unfold kids;rw[Om];refine Qe λi _=>?_;show _=tupI (w++[_]);unfold tupI;rw[NT];rfl
 rw[e] at k;have lk:=kv (gs:=gs) w q;refine eE (r:=.fr .non) (xg rfl (cu (dI (nt _ rfl) (jP n _)) k) ?_);show (if (S.map tupI).length+((kids gs w q).map tupI).length<=100000 then some ((Pk (Rr.fr A.non):Except Str Rr),setAt (gL gs D S (.fr (tupI w)) (.fr (bf q)) x5) 2 (.lst (S.map tupI++(kids gs w q).map tupI))) else none)=_;rw[if_pos (by rw[Nl,Nl];lia),<-NT];rfl
theorem rK(N:C8 gs w):X2 λf l=>N6 (w.head?=some f) (w.getLast?=some l) (fk (w.map A.int) 0=some (.int f)) (fk (w.map A.int) (-1)=some (.int l)) (fk (gs.map aG) f=some (aG (zG gs f))) (fk (gs.map aG) l=some (aG (zG gs l))):=by
 obtain⟨f,l,hf,hl⟩:=ends N.ne;refine⟨f,l,hf,hl,?_,?_,vQ (N.r f (Pj hf)),vQ (N.r l (List.mem_of_getLast? hl))⟩
 .cases w with
  |nil=>cases hf
  |cons a w=>cases hf;exact eJ (j:=0) rfl
 .rcases Rw w with z|⟨S,a,z⟩
  .rw[z] at hl;cases hl
  .rw[Rx] at z;rw[z,List.getLast?_concat] at hl;cases hl;rw[z,NT];exact zw _ _
theorem lows{i:Nat}(f:C8 gs w)(hi:Z1.length=i)(hl:w.length<=6)(s:Z1[0]?=some (.fr (.lst (gs.map aG)))):fF 1 (aJ i) aO (mix (mix (af 0) (af i)) (ax 0)) (w.map A.int) Z1=some (.ok (.nw (.lst ((w.map (un gs)).map bf))),Z1):=by
 have k:=cT (i:=i) (ts:=w) (Z1:=Z1) (e:=mix (mix (af 0) (af i)) (ax 0)) A.int (λk=>bf (un gs k)) hi (by lia) (λj v=>by
  have e:=vQ (f.r j v);have n:af 0 (Z1++[.fr (.int j)])=some (.ok (.fr (.lst (gs.map aG))),Z1++[.fr (.int j)]):=by rw[oT,Ob (Np.mp s).1,s]
  have Z:af i (Z1++[.fr (.int j)])=some (.ok (.fr (.int j)),Z1++[.fr (.int j)]):=by rw[oT,Oa (by lia),hi,Se];rfl
  exact⟨_,ao (ao n Z (bt (.inl rfl) e)) rfl (bt (.inr rfl) rfl),rfl⟩)
 have em:w.map (λk=>bf (un gs k))=(w.map (un gs)).map bf:=by rw[Om];rfl
 rw[em] at k;exact k
theorem BQ(j:∀g∈gs,Gd ns g)(Q:ns.length<=6){D:List (List Int)}(n:gs.length<=16)(hc:Cs gs D (S++[w]))(h3:np x3=true)(h4:np x4=true)(h5:np x5=true):
  X5 λo a m p Z=>N4 (K9 (gL gs D (S++[w]) x3 x4 x5)=some (.nx,gL gs o a m p Z)) (Cs gs o a) (qp a<qp (S++[w])) (N3 (np m=true) (np p=true) (np Z=true)):=by
 have N:=hc.sw w (by simp);have hl:=N.qZ j Q;have K:S.length<16*w.length:=hc.sb S.length w (by simp);have sw:∀v∈S,C8 gs v:=λv u=>hc.sw v (NF _ u);have sb:∀i v,S[i]?=some v->i<16*v.length:=λi v u=>hc.sb i v (by rw[Ob (Np.mp u).1];exact u);have A:qp S<qp (S++[w]):=by rw[ng,sT];have:0<17^(16-w.length):=VT (by decide);lia
 obtain⟨f,l,hf,ha,H,la,y,gl⟩:=rK N;have s1:aF 3 (qH 2) (gL gs D (S++[w]) x3 x4 x5)=some (.nx,gL gs D S (.fr (tupI w)) x4 x5):=br ER rfl rfl h3 rfl;have s2:aF 4 (mix (mix (af 0) (mix (af 3) (oZ hE (ax 1)))) (ax 1)) (gL gs D S (.fr (tupI w)) x4 x5)=some (.nx,gL gs D S (.fr (tupI w)) (.fr (bf (vn gs l))) x5):=br (ao (ao rfl (ao rfl rfl (bt (.inr rfl) la)) (bt (.inl rfl) gl)) rfl (bt (.inr rfl) rfl)) rfl rfl h4 rfl;have U:∀b,decide (vn gs l=un gs f)=b->Mu (gL gs D S (.fr (tupI w)) (.fr (bf (vn gs l))) x5)=some (.ok b,gL gs D S (.fr (tupI w)) (.fr (bf (vn gs l))) x5):=by rintro b rfl;exact aR (ao rfl (ao (ao rfl (ao rfl rfl (bt (.inr rfl) H)) (bt (.inl rfl) y)) rfl (bt (.inr rfl) rfl)) (m8 _ _ _))
 by_cases R:vn gs l=un gs f
 .obtain⟨o,Z,e,P,hy⟩:=yu (x4:=.fr (bf (vn gs l))) n hl hc hf ha R h5;exact⟨o,S,_,_,Z,dB s1 (dB s2 (iu (U true (decide_eq_true R)) e)),P,A,rfl,rfl,hy⟩
 .have k:=lows (i:=6) (Z1:=gL gs D S (.fr (tupI w)) (.fr (bf (vn gs l))) x5) N rfl hl rfl;have X:∀b,(!decide (vn gs l∈w.map (un gs)))=b->Mm (gL gs D S (.fr (tupI w)) (.fr (bf (vn gs l))) x5)=some (.ok b,gL gs D S (.fr (tupI w)) (.fr (bf (vn gs l))) x5):=by rintro b rfl;exact aR (ao rfl (cu (iH rfl rfl) k) (rN _ _ _))
  have nx:∀c,CD gs c->w <+: c->∃x r,c=w++x::r:=by
   rintro c hc ⟨r,rfl⟩;cases r with
   |nil=>rw[Oo] at hc;exact absurd (hc.cl l ha f hf) R
   |cons x r=>exact⟨x,r,rfl⟩
  by_cases hn:vn gs l∈w.map (un gs)
  .refine⟨D,S,_,_,x5,dB s1 (dB s2 (fj (U false (decide_eq_false R)) (fj (X false (by rw[decide_eq_true hn];rfl)) rfl))),⟨hc.dn,hc.dk,sw,sb,λc h=>?_⟩,A,rfl,rfl,h5⟩;rcases hc.al c h with z|⟨Y,s,z⟩
   .exact .inl z
   .rcases Nv.mp s with q|q
    .exact .inr ⟨Y,q,z⟩
    .rw[Nw.mp q] at z;obtain⟨x,r,rfl⟩:=nx c h z;obtain⟨C,I,-⟩:=h.next ha hf;rw[C] at hn;exact absurd hn I
  .refine⟨D,S++kids gs w (vn gs l),_,_,x5,dB s1 (dB s2 (fj (U false (decide_eq_false R)) (iu (X true (by rw[decide_eq_false hn];rfl)) (z6 n hl (by lia))))),⟨hc.dn,hc.dk,λv u=>?_,λi v u=>?_,λc h=>?_⟩,?_,rfl,rfl,h5⟩
   .rcases Nv.mp u with h|h
    .exact sw v h
    .obtain⟨k,rfl,e,E,V⟩:=gJ.mp h;exact N.ext ((qP ha).mpr e.symm) ⟨E,V⟩ (by rw[e];exact hn)
   .by_cases hi:i<S.length
    .rw[Ob hi] at u;exact sb i v u
    .rw[Oa (by lia)] at u;have h1:=(Np.mp u).1;obtain⟨k,rfl,-⟩:=gJ.mp (NV u);have h2:=kv (gs:=gs) w (vn gs l);rw[Ny,Rp];lia
   .rcases hc.al c h with z|⟨Y,s,z⟩
    .exact .inl z
    .rcases Nv.mp s with q|q
     .exact .inr ⟨Y,NF _ q,z⟩
     .rw[Nw.mp q] at z;obtain⟨x,r,rfl⟩:=nx c h z;obtain⟨C,I,B,-⟩:=h.next ha hf;exact .inr ⟨w++[x],Nq _ (gJ.mpr ⟨x,rfl,C.symm,B⟩),r,by simp⟩
   .rw[ng,ng,sT];have h1:=xX (S:=kids gs w (vn gs l)) (c:=17^(15-w.length)) λv u=>by obtain⟨k,rfl,-⟩:=gJ.mp u;rw[Ny,Rp];exact O7 (by decide) (by lia)
    have h2:=kv (gs:=gs) w (vn gs l);have h3:=RE (17^(15-w.length)) (N5 h2 n);have h4:17^(16-w.length)=17^(15-w.length)*17:=by rw[<-R9];congr 1;lia
    have h5:0<17^(15-w.length):=VT (by decide);lia
end
section
variable{ns:List Nd}{gs:List Gp}
abbrev jm(gs:List Gp):List (List Int):=Cc (un gs) (vn gs) gs.length
theorem p9:∀(p:List Int)(a b:Int)(r s:List Int),a<b->fe ((p++a::r).map Ot) ((p++b::s).map Ot)=true
 |[],a,b,r,s,h=>by show fe (Ot a::r.map Ot) (Ot b::s.map Ot)=true;rw[bp _ _ (λe=>by injection e with e;lia)];exact decide_eq_true h
 |c::p,a,b,r,s,h=>by show fe (Ot c::(p++a::r).map Ot) (Ot c::(p++b::s).map Ot)=true;rw[cf];exact p9 p a b r s h
theorem Dm:(jm gs).Nodup:=(Cf (R:=λa b=>fe (a.map Ot) (b.map Ot)=true) p9).imp λ{a b} h e=>by rw[e,dC] at h;cases h
theorem tR(k:List Int):rh (k.map Ot)=tupI k:=by unfold rh tupI;rw[Om];rfl
theorem EA(j:∀g∈gs,Gd ns g)(m:ns.length<=6){D:List (List Int)}(dn:D.Nodup)(dk:∀k,CD gs k↔k∈D):iP ((cO D).map (·.1))=(jm gs).map tupI:=by
 have e:(cO D).map (·.1)=D.map λk=>(k.map Ot:List Key):=by unfold cO;rw[Om];rfl
 have pm:(jm gs).Perm D:=(QM Dm dn).mpr λk=>(rl λw f=>f.qZ j m).trans (dk k);rw[gF,e,Jo (pm.map λk=>(k.map Ot:List Key)) (by rw[PY];exact Cf (R:=λa b=>fe (a.map Ot) (b.map Ot)=true) p9),Om];exact Qe λk _=>tR k
theorem yr(j:∀g∈gs,Gd ns g)(H:ns.length<=6)(o:gs.length<=16):jH cB [.lst (gs.map aG)] (.lst ((jm gs).map tupI)):=by
 suffices Wp cB ([A.lst (gs.map aG)].map Sl.fr) λg _=>g=.rt (.lv (.lst ((jm gs).map tupI))) by obtain⟨_,_,e,rfl⟩:=this;exact⟨_,e⟩
 rw[uZ]
 have k:=cT (i:=6) (ts:=NA gs.length) (Z1:=[.fr (.lst (gs.map aG)),.lv (.dit (cO [])),.un,.un,.un,.un]) (e:=bR (gp (af 6))) (λi=>.int (0+(i:Nat))) (λi=>tupI [(0+(i:Nat):Int)]) rfl (by rw[Oi];lia) (λi hi=>⟨_,dJ rfl rfl,rfl⟩)
 have E:(NA gs.length).map (λi=>tupI [(0+(i:Nat):Int)])=((NA gs.length).map λ(i:Nat)=>[(0+(i:Nat):Int)]).map tupI:=by rw[Om];rfl
 rw[E] at k
 have K:((NA gs.length).map λ(i:Nat)=>[(0+(i:Nat):Int)]).length=gs.length:=by rw[Nl,Oi]
 have s:∀w∈(NA gs.length).map λ(i:Nat)=>[(0+(i:Nat):Int)],C8 gs w/\w.length=1:=λw f=>by obtain⟨i,hi,rfl⟩:=NB.mp f;have:=NU.mp hi;exact⟨.one ⟨by lia,by lia⟩,rfl⟩
 have p:∀c,CD gs c->∃w∈(NA gs.length).map λ(i:Nat)=>[(0+(i:Nat):Int)],w <+: c:=λc hc=>by
  cases c with
  |nil=>exact absurd rfl hc.w.ne
  |cons a c=>have ha:=hc.w.r a (.head _);exact⟨[a],NB.mpr ⟨a.toNat,NU.mpr (by lia),by rw[show (0+(a.toNat:Nat):Int)=a by lia]⟩,c,rfl⟩
 generalize ((NA gs.length).map λ(i:Nat)=>[(0+(i:Nat):Int)])=S0 at k K s p
 have y:Cs gs [] S0:=⟨.nil,(λk hk=>nomatch hk),λw f=>(s w f).1,λi w f=>by have h1:=(Np.mp f).1;have h2:=(s w (NV f)).2;lia,λc hc=>.inr (p c hc)⟩
 obtain⟨O,h1,D,x3,x4,x5,rfl,dn,dk⟩:=lK (t:=au (ay iJ (af 2) (cX cM))) (b:=K9) (n:=Cv)
  (P:=λk Z=>X5 λD S x3 x4 x5=>N4 (Z=gL gs D S x3 x4 x5) (k=qp S) (Cs gs D S) (N3 (np x3=true) (np x4=true) (np x5=true)))
  (Q:=λZ=>∃D x3 x4 x5,Z=gL gs D [] x3 x4 x5/\D.Nodup/\∀k,CD gs k↔k∈D) (by
   rintro k Z ⟨D,S,x3,x4,x5,rfl,rfl,hc,h3,h4,h5⟩;have I:lH 39 (S.map tupI):=lH.of λa ha=>by
    obtain⟨w,_,rfl⟩:=NB.mp ha;exact Dt.tup (n:=38) (lH.of λb hb=>by obtain⟨i,_,rfl⟩:=NB.mp hb;exact .int i)
   have X:∀b,decide (S.map tupI=[])=b->au (ay iJ (af 2) (cX cM)) (gL gs D S x3 x4 x5)=some (.ok (!b),gL gs D S x3 x4 x5):=by rintro b rfl;refine aR (ao rfl rfl ?_);simp only[ir,res,iJ];show (match (match lR (.lst (S.map tupI)) (.lst []) with|some k=>some (Rr.fr (.bl (!k)))|none=>none) with|some r=>some ((Pk r:Except Str Rr),gL gs D S x3 x4 x5)|none=>none)=_;rw[pA I]
   rcases Rw S with z|⟨L,w,z⟩
   .rw[z] at X hc ⊢;refine .inl ⟨_,X true rfl,D,x3,x4,x5,rfl,hc.dn,λk=>⟨λh=>?_,hc.dk k⟩⟩;rcases hc.al k h with q|⟨w,f,-⟩
    .exact q
    .cases f
   .rw[Rx] at z;subst z;obtain⟨d,l,B,C,R,e,v,ml,Y,F,G⟩:=BQ j H o hc h3 h4 h5;exact .inr ⟨_,_,_,X false (by rw[NT];simp),.inl e,ml,d,l,B,C,R,rfl,rfl,v,Y,F,G⟩) ⟨[],S0,.un,.un,.un,rfl,rfl,y,rfl,rfl,rfl⟩ (xQ (by
   have:=xX (S:=S0) (c:=17^15) λw f=>by rw[(s w f).2];exact Nr _
   have h2:=RE (17^15) (show S0.length<=16 by lia);exact O5 (N5 this h2) (Nn (show 16*17^15<2^100 by decide) (O7 (by decide) (by decide)))))
 have m:uP ((cO D).map (·.1))=true:=by
  unfold uP;rw[OY];refine .inl (Oh.mpr λk hk=>?_);obtain⟨x,hx,rfl⟩:=NB.mp hk;obtain⟨w,f,rfl⟩:=NB.mp hx;have ne:=((dk w).mpr f).w.ne;cases w with
  |nil=>exact absurd rfl ne
  |cons a w=>show (true&&((a::w).map Ot:List Key).all zg)=true;rw[Vb,Oh];intro e he;obtain⟨i,_,rfl⟩:=NB.mp he;rfl
 have u:iq 1 (gL gs D [] x3 x4 x5)=some (.ok (.nw (.lst ((jm gs).map tupI))),gL gs D [] x3 x4 x5):=by show (if uP ((cO D).map (·.1))=true then some ((Pk (Rr.nw (.lst (iP ((cO D).map (·.1))))):Except Str Rr),gL gs D [] x3 x4 x5) else none)=_;rw[if_pos m,EA j H dn dk]
 exact Wp.df (Wp.st (U:=[.fr (.lst (gs.map aG)),.lv (.dit (cO [])),.un,.un,.un,.un]) rfl (Wp.st (br (cu (dI (nt _ rfl) (jP o _)) k) rfl rfl rfl rfl) (Wp.st (Cg h1) (Wp.en (bu u rfl) rfl))))
end
abbrev Mq:Mi Bool:=au (ay dg (af 3) (mix (mix (af 0) (mix (af 1) (ax 0))) (ax 0)))
abbrev LL:Mi Bool:=au (ay (dS true) (af 3) (aP 1 (cj (af 1)) (aJ 5) aO (mix (mix (af 0) (af 5)) (ax 0))))
abbrev Na(g:Ms):Ms:=cS (au (ay dg (mix (mix (af 0) (af 4)) (ax 0)) (af 3))) (aY (bJ g (uA (aZ 0) (lL (ay aB (af 1) (bR (gp (af 4))))) (af 2)))) aU
abbrev LP:Mi (List A):=f9 (ay aB (mix (af 1) (ax 0)) (ax 1)) (cU bY (af 0))
abbrev L6(g:Ms):Ms:=az (aF 3 (mix (mix (af 0) (mix (af 1) (oZ hE (ax 1)))) (ax 1))) (cS Mq (aY (cD 2 (bw 2 (af 1)))) (cS LL (da LP (aJ 4) (Na g)) aU))
abbrev qy(gs:List Gp)(p:List Int)(acc:List (List Int))(x3 x4:Sl):List Sl:=[.fr (.lst (gs.map aG)),.fr (tupI p),.pv (.lst (acc.map tupI)),x3,x4]
theorem c3{a b:A}{T:List Sl}(h:f [.fr a,.fr b,.pv o]=some (.rt (.fr .non),T))(hb:aq 3 T=[.un,.un,.pv o'])(U N:Sl)(xs:List Sl):dw f [] [.fr a,.fr b,.rf 2] (U::N::.pv o::xs)=some (.ok (.fr .non),U::N::.pv o'::xs):=by
 show (match f [.fr a,.fr b,.pv o] with
  |some (.rt s,T)=>match fW s,putL (U::N::.pv o::xs) [.fr a,.fr b,.rf 2] (aq 3 T) (U::N::.un::xs) with
   |some r,some O=>some ((Pk r:Except Str Rr),O)
   |_,_=>none
  |some (.ex x,T)=>match putL (U::N::.pv o::xs) [.fr a,.fr b,.rf 2] (aq 3 T) (U::N::.un::xs) with
   |some O=>some (.error x,O)
   |none=>none
  | _=>none)=_
 rw[h];dsimp only;rw[hb];rfl
theorem MD{a b:A}{T:List Sl}(h:f [.fr a,.fr b,.pv o]=some (.rt (.fr .non),T))(hb:aq 3 T=[.un,.un,.pv o'])(U:Sl)(xs:List Sl):dw f [] [.fr a,.fr b,.rf 1] (U::.lv o::xs)=some (.ok (.fr .non),U::.lv o'::xs):=by
 show (match f [.fr a,.fr b,.pv o] with
  |some (.rt s,T)=>match fW s,putL (U::.lv o::xs) [.fr a,.fr b,.rf 1] (aq 3 T) (U::.un::xs) with
   |some r,some O=>some ((Pk r:Except Str Rr),O)
   |_,_=>none
  |some (.ex x,T)=>match putL (U::.lv o::xs) [.fr a,.fr b,.rf 1] (aq 3 T) (U::.un::xs) with
   |some O=>some (.error x,O)
   |none=>none
  | _=>none)=_
 rw[h];dsimp only;rw[hb];rfl
section
variable{ns:List Nd}{gs:List Gp}
abbrev si(gs:List Gp):Nat->List Int->List (List Int):=Fc (un gs) (vn gs) gs.length
def zL(gs:List Gp)(m:Nat)(f:Ms):Prop:=∀p acc,C8 gs p->(∀f,p.head?=some f->∀i∈p,f<=i)->p.length+m=8->acc.length+(si gs m p).length<=100000->∃T,f [.fr (.lst (gs.map aG)),.fr (tupI p),.pv (.lst (acc.map tupI))]=some (.rt (.fr .non),T)/\aq 3 T=[.un,.un,.pv (.lst ((acc++si gs m p).map tupI))]
theorem eC(K:∀g∈gs,Gd ns g)(P:ns.length<=6)(I:gs.length<=16){m:Nat}{g:Ms}(hf:f=bS 2 (L6 g))(h:zL gs m g):zL gs (m+1) f:=by
 intro p acc N hm hl E;obtain⟨a,l,ha,hz,H,la,d,gl⟩:=rK N;have C:=N.qZ K P;have F:=N.r a (Pj ha);subst hf;rw[si,lC ha hz] at E ⊢
 suffices Wp (bS 2 (L6 g)) [.fr (.lst (gs.map aG)),.fr (tupI p),.pv (.lst (acc.map tupI))] λfl Z=>fl=.rt (.fr .non)/\aq 3 Z=[.un,.un,.pv (.lst ((acc++if vn gs l=un gs a then [p] else if vn gs l∈p.map (un gs) then [] else (De (un gs) (vn gs) gs.length a l).flatMap λk=>si gs m (p++[k])).map tupI))] by obtain⟨_,_,e,rfl,hb⟩:=this;exact⟨_,e,hb⟩
 have s2:aF 3 (mix (mix (af 0) (mix (af 1) (oZ hE (ax 1)))) (ax 1)) (qy gs p acc .un .un)=some (.nx,qy gs p acc (.fr (bf (vn gs l))) .un):=br (ao (ao rfl (ao rfl rfl (bt (.inr rfl) la)) (bt (.inl rfl) gl)) rfl (bt (.inr rfl) rfl)) rfl rfl rfl rfl;have s:∀b,decide (vn gs l=un gs a)=b->Mq (qy gs p acc (.fr (bf (vn gs l))) .un)=some (.ok b,qy gs p acc (.fr (bf (vn gs l))) .un):=by rintro b rfl;exact aR (ao rfl (ao (ao rfl (ao rfl rfl (bt (.inr rfl) H)) (bt (.inl rfl) d)) rfl (bt (.inr rfl) rfl)) (m8 _ _ _))
 refine Wp.df (Wp.st (U:=qy gs p acc (.fr (bf (vn gs l))) .un) s2 ?_);by_cases c:vn gs l=un gs a
 .rw[if_pos c] at E ⊢;refine Wp.en (iu (s true (decide_eq_true c)) (qN (a:=tupI p) (xs:=acc.map tupI) rfl rfl rfl rfl (by rw[Nl];lia) rfl)) ⟨rfl,?_⟩;rw[NT];rfl
 rw[if_neg c] at E ⊢;refine Wp.ff (s false (decide_eq_false c)) ?_;have k:=lows (i:=5) (Z1:=qy gs p acc (.fr (bf (vn gs l))) .un) N rfl C rfl;have X:∀b,(!decide (vn gs l∈p.map (un gs)))=b->LL (qy gs p acc (.fr (bf (vn gs l))) .un)=some (.ok b,qy gs p acc (.fr (bf (vn gs l))) .un):=by rintro b rfl;exact aR (ao rfl (cu (iH rfl rfl) k) (rN _ _ _))
 by_cases hn:vn gs l∈p.map (un gs)
 .rw[if_pos hn] at E ⊢;refine Wp.en (fj (X false (by rw[decide_eq_true hn];rfl)) rfl) ⟨rfl,?_⟩;rw[Oo];rfl
 rw[if_neg hn] at E ⊢;refine Wp.ft (X true (by rw[decide_eq_false hn];rfl)) ?_;have y:LP (qy gs p acc (.fr (bf (vn gs l))) .un)=some (.ok (cg (a+1) (gs.length-(a+1).toNat)),qy gs p acc (.fr (bf (vn gs l))) .un):=by refine bk (ao (ao rfl rfl (bt (.inr rfl) H)) rfl rfl) (bk (nt _ rfl) ?_);show (if -(2^60)<=a+1/\a+1<2^60 /\ -(2^60)<=(gs.length:Int)/\(gs.length:Int)<2^60 then some ((Pk (cg (a+1) ((gs.length:Int)-(a+1)).toNat):Except Str (List A)),qy gs p acc (.fr (bf (vn gs l))) .un) else none)=_;rw[if_pos (by lia),show ((gs.length:Int)-(a+1)).toNat=gs.length-(a+1).toNat by lia]
 generalize x:(NA (gs.length-(a+1).toNat)).map (λ(j:Nat)=>a+1+(j:Int))=R;have G:cg (a+1) (gs.length-(a+1).toNat)=R.map A.int:=by rw[<-x,Om];rfl
 have w:De (un gs) (vn gs) gs.length a l=R.filter λk=>decide (un gs k=vn gs l):=by rw[<-x];rfl
 have u:∀k∈R,a<k/\k<(gs.length:Int):=λk hk=>by rw[<-x] at hk;obtain⟨j,v,rfl⟩:=NB.mp hk;have:=NU.mp v;lia
 rw[G] at y;rw[w] at E ⊢;refine Wp.fr (λi Z=>∃x4,Z=qy gs p (acc++((R.take i).filter λk=>decide (un gs k=vn gs l)).flatMap λk=>si gs m (p++[k])) (.fr (bf (vn gs l))) x4/\np x4=true) y ⟨.un,by simp,rfl⟩ ?_ ?_
 .rintro i z Z hz ⟨x4,rfl,h4⟩;rw[NS] at hz;cases S:R[i]? with
  |none=>rw[S] at hz;cases hz
  |some k=>
   rw[S] at hz;cases hz;have hk:=u k (NV S);have Y:=vQ (gs:=gs) (k:=k) ⟨by lia,hk.2⟩;generalize n:acc++((R.take i).filter λk=>decide (un gs k=vn gs l)).flatMap (λk=>si gs m (p++[k]))=acc2;refine⟨qy gs p acc2 (.fr (bf (vn gs l))) (.fr (.int k)),by cases x4<;>first|(cases h4;done)|rfl,?_⟩;have tk:∀b,decide (un gs k=vn gs l)=b->au (ay dg (mix (mix (af 0) (af 4)) (ax 0)) (af 3)) (qy gs p acc2 (.fr (bf (vn gs l))) (.fr (.int k)))=some (.ok b,qy gs p acc2 (.fr (bf (vn gs l))) (.fr (.int k))):=by rintro b rfl;exact aR (ao (ao (ao rfl rfl (bt (.inl rfl) Y)) rfl (bt (.inr rfl) rfl)) rfl (m8 _ _ _))
   have Q:R.take (i+1)=R.take i++[k]:=by rw[QY,S];rfl
   by_cases B:un gs k=vn gs l
   .have o:C8 gs (p++[k]):=N.ext ((qP (by assumption)).mpr B.symm) ⟨by lia,hk.2⟩ (by rw[B];exact hn);have J:acc++((R.take (i+1)).filter λk=>decide (un gs k=vn gs l)).flatMap (λk=>si gs m (p++[k]))=acc2++si gs m (p++[k]):=by rw[Q,QO,Qf,<-Nj,n,UJ,if_pos (decide_eq_true B)];simp
    have D:acc2.length+(si gs m (p++[k])).length<=100000:=by rw[<-Ny,<-J];rw[<-OA (i+1) R,QO,Qf,Ny] at E;rw[Ny];exact N5 (Ug (Pg _ _) _) E
    obtain⟨T,t,L⟩:=h (p++[k]) acc2 o (λf' q j v=>by
     rw[wc ha] at q;cases q;rcases Nv.mp v with z|z
     .exact hm a ha j z
     .rw[Nw.mp z];lia) (by rw[Ny];show p.length+1+m=8;lia) D
    have V:tupI (p++[k])=.tup (p.map A.int++[.int k]):=by unfold tupI;rw[NT];rfl
    rw[V] at t;refine Wp.en (iu (tk true (decide_eq_true B)) (eE (r:=.fr .non) (aC (aA rfl (aA (jw (ao rfl (dJ rfl rfl) (ES (by rw[Nl];show p.length+1<=_;lia) _)) rfl) rfl)) (c3 t L _ _ _)))) ⟨.inl rfl,.fr (.int k),?_,rfl⟩;rw[J]
   .refine Wp.en (fj (tk false (decide_eq_false B)) rfl) ⟨.inl rfl,.fr (.int k),?_,rfl⟩;rw[Q,QO,Qf,<-Nj,n,UJ,if_neg (by rw[decide_eq_false B];decide)];simp
 .rintro O ⟨x4,rfl,h4⟩;rw[Nl,Q5];exact⟨rfl,rfl⟩
theorem KU(j:∀g∈gs,Gd ns g)(m:ns.length<=6)(n:gs.length<=16):zL gs 7 eV:=by
 have w:zL gs 0 fc:=λp acc f hm hl=>by have:=f.qZ j m;lia
 exact eC j m n rfl (eC j m n rfl (eC j m n rfl (eC j m n rfl (eC j m n rfl (eC j m n rfl (eC j m n rfl w))))))
theorem iK(K:∀g∈gs,Gd ns g)(m:ns.length<=6)(n:gs.length<=16):jH dE [.lst (gs.map aG)] (.lst ((jm gs).map tupI)):=by
 have lc:(jm gs).length<=65536:=LB n Dm λk hk=>(rl λw N=>N.qZ K m).mp hk;refine jH.of (Wp.df (Wp.st (U:=[.fr (.lst (gs.map aG)),.lv (.lst []),.un]) rfl (Wp.sq (Wp.fr (as:=(NA gs.length).map λk=>A.int (0+(k:Nat))) (λi Z=>∃c,Z=[.fr (.lst (gs.map aG)),.lv (.lst ((((NA gs.length).take i).flatMap λ(i:Nat)=>si gs 7 [(0+(i:Nat):Int)]).map tupI)),c]/\np c=true) (dI (nt _ rfl) (jP n _)) ⟨.un,by simp,rfl⟩ ?_ ?_))))
 .rintro i z Z hz ⟨c,rfl,h2⟩;have hi:=(Np.mp hz).1;rw[Nl,Oi] at hi;rw[NS,Pb hi] at hz;cases hz;generalize e:((NA gs.length).take i).flatMap (λ(i:Nat)=>si gs 7 [(0+(i:Nat):Int)])=acc;refine⟨[.fr (.lst (gs.map aG)),.lv (.lst (acc.map tupI)),.fr (.int (0+(i:Nat)))],by cases c<;>first|(cases h2;done)|rfl,?_⟩;have x:(NA gs.length).take (i+1)=(NA gs.length).take i++[i]:=by rw[QY,Pb hi];rfl
  have J:((NA gs.length).take (i+1)).flatMap (λ(i:Nat)=>si gs 7 [(0+(i:Nat):Int)])=acc++si gs 7 [(0+(i:Nat):Int)]:=by rw[x,Qf,e];simp
  have D:acc.length+(si gs 7 [(0+(i:Nat):Int)]).length<=100000:=by rw[<-Ny,<-J];unfold jm Cc at lc;rw[<-OA (i+1) (NA gs.length),Qf,Ny] at lc;have:=lc;exact N5 (Pg _ _) (N5 this (by decide))
  obtain⟨T,t,E⟩:=KU K m n [(0+(i:Nat):Int)] acc (.one ⟨by lia,by lia⟩) (λf hf j v=>by cases hf;rw[Nw.mp v];exact Sz _) rfl D;refine Wp.en (eE (r:=.fr .non) (aC (aA rfl (aA (dJ rfl rfl) rfl)) (MD t E _ _))) ⟨.inl rfl,.fr (.int (0+(i:Nat))),?_,rfl⟩;rw[J]
 .rintro O ⟨c,rfl,h2⟩;refine⟨rfl,Wp.en (bu rfl rfl) ?_⟩;rw[Nl,Q5];rfl
end
theorem xl{D:Mi (List Rr)}(h:D Z=some (.ok [.nw o],U))(v:cZ f o [] s o')(t:fW s=some r):mF f [] D Z=some (.ok r,U):=by
 obtain⟨T,e⟩:=v;refine bk h ?_;show (match f [.pv o] with
  | some (.rt s,T)=>(match fW s,putL U [.nw o] (aq 1 T) U with
   |some r,some O=>some ((Pk r:Except Str Rr),O)
   | _,_=>none)
  | some (.ex x,T)=>(match putL U [.nw o] (aq 1 T) U with
   |some O=>some (.error x,O)
   | none=>none)
  | _=>none)=_
 have e:f [.pv o]=some (.rt s,.pv o'::T):=e;rw[e];dsimp only;rw[t];rfl
noncomputable def kk(p:Nd):List Key:=[.inr p.1,.inr p.2]
theorem rB:∀ps:List Nd,mN (ps.map bf)=some (ps.map kk)
 |[]=>rfl
 |p::ps=>by rw[NK,mN,rB ps];rfl
def Et(gs:List Gp):List (List Key):=((gs.map λg=>g.p)++gs.map λg=>g.q).map kk
def dh(gs:List Gp):List A:=iP (kC (Et gs))
theorem GG:dh []=[]:=by unfold dh;rw[gF];have:=gX (kC (Et []));have e:kC (Et [])=[]:=rfl;rw[e] at this ⊢;rw[this.eq_nil];rfl
theorem rC(k:List Key):Dt 38 (rh k):=Dt.tup (n:=37) (lH.of λb hb=>by
 obtain⟨e,_,rfl⟩:=NB.mp hb;cases e with
 |inl i=>obtain⟨d,h1,h2⟩:Dt 5 (.int i):=.int i;exact⟨d,h1,by lia⟩
 | inr x=>obtain⟨d,h1,h2⟩:Dt 5 (.str x):=.str x;exact⟨d,h1,by lia⟩)
theorem B1(gs:List Gp):lR (.lst (dh gs)) (.lst (dh gs))=some true:=gS (Dt.lst (n:=39) (lH.of λa ha=>by unfold dh at ha;rw[gF] at ha;obtain⟨k,_,rfl⟩:=NB.mp ha;obtain⟨d,h1,h2⟩:=rC k;exact⟨d,h1,by lia⟩))
theorem Aw(cs:List (List Int)):lR (.lst (cs.map tupI)) (.lst (cs.map tupI))=some true:=gS (Dt.lst (n:=39) (lH.of λa ha=>by obtain⟨k,_,rfl⟩:=NB.mp ha;obtain⟨d,h1,h2⟩:=rC (k.map Ot);rw[tR] at h1;exact⟨d,h1,by lia⟩))
theorem nT(gs:List Gp):lR (.lst (gs.map aG)) (.lst (gs.map aG))=some true:=gS (Dt.lst (om gs))
theorem rM{a:A}(h:lR a a=some true)(h1:res Z x=some a)(h2:res Z y=some a):ir iJ x y Z=some (.ok (.fr (.bl false)),Z):=fu (o:=none) h1 h2 (by unfold iJ;rw[h];rfl)
section
variable{ns:List Nd}{gs:List Gp}
theorem pD{i:Nat}(c:Int)(f:Gp->Nd)(hc:∀g:Gp,fk [bf g.p,bf g.q,.tup [nm g.x,.tup []]] c=some (bf (f g)))(hi:Z1.length=i)(hl:gs.length<=16):fF 1 (aJ i) aO (mix (af i) (ax c)) (gs.map aG) Z1=some (.ok (.nw (.lst ((gs.map f).map bf))),Z1):=by
 have k:=cT (i:=i) (ts:=gs) (Z1:=Z1) (e:=mix (af i) (ax c)) aG (λg=>bf (f g)) hi (by lia) (λg j=>by
  have Z:af i (Z1++[.fr (aG g)])=some (.ok (.fr (aG g)),Z1++[.fr (aG g)]):=by rw[oT,Oa (by lia),hi,Se];rfl
  exact⟨_,ao Z rfl (bt (.inr rfl) (hc g)),rfl⟩)
 have em:gs.map (λg=>bf (f g))=(gs.map f).map bf:=by rw[Om];rfl
 rw[em] at k;exact k
theorem nU(j:∀g∈gs,Gd ns g)(Q:ns.length<=6)(n:gs.length<=16){i:Nat}(h:cj m Z=some (.ok (gs.map aG),U))(h':cj m U=some (.ok (gs.map aG),U))(hi:U.length=i):
  gu (ay aB (aP 1 (cj m) (aJ i) aO (mix (af i) (ax 0))) (aP 1 (cj m) (aJ i) aO (mix (af i) (ax 1)))) Z=some (.ok (.nw (.lst (dh gs))),U):=by
 have ea:ay aB (aP 1 (cj m) (aJ i) aO (mix (af i) (ax 0))) (aP 1 (cj m) (aJ i) aO (mix (af i) (ax 1))) Z=some (.ok (.nw (.lst (((gs.map λg=>g.p)++gs.map λg=>g.q).map bf))),U):=by refine ao (cu h (pD 0 (λg=>g.p) (λg=>rfl) hi n)) (cu h' (pD 1 (λg=>g.q) (λg=>rfl) hi n)) (fu (o:=none) rfl rfl ?_);have k:rS (.lst ((gs.map λg=>g.p).map bf)) (.lst ((gs.map λg=>g.q).map bf))=some (.nw (.lst ((gs.map λg=>g.p).map bf++(gs.map λg=>g.q).map bf))):=if_pos (by simp only[Nl];lia);rw[NT,<-k];rfl
 refine bk (jw ea rfl) ?_;show (match mN (((gs.map λg=>g.p)++gs.map λg=>g.q).map bf) with
  |some ks=>if (ks.all (λk=>!k.isEmpty&&k.all λe=>!zg e)&&decide ((kC ks).length<=17))=true then some ((Pk (.nw (.lst (iP (kC ks)))):Except Str Rr),U) else none
  | none=>none)=_
 rw[rB];refine if_pos ?_;rw[Ni];refine⟨Oh.mpr λk hk=>?_,decide_eq_true ?_⟩
 .obtain⟨p,_,rfl⟩:=NB.mp hk;rfl
 .have:=ni (ys:=ns.map kk) (fU (((gs.map λg=>g.p)++gs.map λg=>g.q).map kk)) λk hk=>by
   obtain⟨p,hp,rfl⟩:=NB.mp (eA.mp hk);refine NB.mpr ⟨p,?_,rfl⟩;rcases Nv.mp hp with z|z
   .obtain⟨g,b,rfl⟩:=NB.mp z;exact(j g b).u
   .obtain⟨g,b,rfl⟩:=NB.mp z;exact(j g b).v
  rw[Nl] at this;lia
theorem j7(j:∀g∈gs,Gd ns g)(m:ns.length<=6)(n:gs.length<=16):jH eI [.lst (gs.map aG)] (.lst (dh gs)):=
 jH.of (Wp.df (Wp.en (bu (nU j m n (U:=[.fr (.lst (gs.map aG))]) rfl rfl rfl) rfl) rfl))
end
theorem Ju(cs:List (List Int))(h:∀c∈cs,c.length<=6):∃Z,aK [.fr (.lst (cs.map tupI))]=some (.rt (.fr (.bl true)),.fr (.lst (cs.map tupI))::Z):=by
 suffices Wp aK [.fr (.lst (cs.map tupI))] λg Z=>g=.rt (.fr (.bl true))/\∃O,Z=.fr (.lst (cs.map tupI))::O by obtain⟨_,_,e,rfl,O,rfl⟩:=this;exact⟨O,e⟩
 refine Wp.df (Wp.st (U:=[.fr (.lst (cs.map tupI)),.un]) rfl (Wp.sq (Wp.Ml (cs.map tupI) (λZ=>∃N,Z=[.fr (.lst (cs.map tupI)),N]/\np N=true) (iH rfl rfl) ⟨.un,rfl,rfl⟩ ?_ ?_)))
 .rintro a ha Z ⟨N,rfl,h1⟩
  obtain⟨c,hc,rfl⟩:=NB.mp ha
  have lc:=h c hc
  refine⟨[.fr (.lst (cs.map tupI)),.fr (tupI c)],by cases N<;>first|(cases h1;done)|rfl,?_⟩
  have k:=cT (i:=2) (ts:=c) (Z1:=[.fr (.lst (cs.map tupI)),.fr (tupI c)]) (e:=nX (cU (jW Ty.int) (af 2)) (tG (cU (jW Ty.bool) (af 2)))) A.int (λ_=>A.bl true) rfl (by lia) (λi hi=>⟨.fr (.bl true),rfl,rfl⟩)
  have o:∀Z,ir (dS false) (.fr (.bl false)) (.nw (.lst (c.map λ_=>A.bl true))) Z=some (.ok (.fr (.bl false)),Z):=λZ=>by
   refine fu (o:=none) (b:=.lst (c.map λ_=>A.bl true)) rfl rfl ?_;have X:cL (c.map λ_=>A.bl true)=some (c.map λ_=>D.bl true):=by
    clear lc ha hc k;induction c with
    |nil=>simp[cL]
    |cons x c j=>rw[NK,cL,j];simp[toD]
   have Y:((c.map λ_=>D.bl true).any λe=>D.eq e (.bl false))=false:=by
    clear lc ha hc k X;induction c with
    |nil=>rfl
    |cons x c j=>rw[NK,RQ,j];simp[D.eq]
   have G:((c.map λ_=>D.bl true).all λe=>decide (D.depth e<=40))=true:=Oh.mpr λd hd=>by obtain⟨_,_,rfl⟩:=NB.mp hd;simp[D.depth]
   have z:toD (.bl false)=some (.bl false):=by simp[toD]
   unfold dS;dsimp only;rw[X,z];dsimp only;rw[if_pos G,Y];rfl
  exact Wp.en (fj (nh (pV (b:=true) rfl) (aR (ao rfl (cu (iH rfl rfl) k) (o _)))) rfl) ⟨.inl rfl,_,rfl,rfl⟩
 .rintro O ⟨N,rfl,h1⟩
  exact⟨rfl,Wp.en (bu rfl rfl) ⟨rfl,_,rfl⟩⟩
abbrev nK(sc:A)(N c x3 x4 x5 e s z:Sl):List Sl:=[.fr sc,N,c,x3,x4,x5,e,s,z]
abbrev M9:Ms:=IY (zE (mV (au (cU (jW Ty.list) (af 7)))) (zE (au (ay iJ (af 7) (af 3))) (zE (mV (au (lV (iO 0 aK) [] (gp (af 8))))) (au (ay iJ (af 8) (af 4))))))
abbrev ME:Ms:=az (aF 7 (bJ eI (gp (aZ 5)))) (az (aF 8 (bJ dE (gp (aZ 5)))) (az M9 (az (aY (gD 7)) (aY (gD 8)))))
theorem Hm{cs:List (List Int)}(h:∀c∈cs,c.length<=6)(U N V x3 x4 x5 k A:Sl):dw (iO 0 aK) [] [.rf 8] [U,N,V,x3,x4,x5,k,A,.lv (.lst (cs.map tupI))]=some (.ok (.fr (.bl true)),[U,N,V,x3,x4,x5,k,A,.lv (.lst (cs.map tupI))]):=by
 obtain⟨Z,e⟩:=Ju cs h;have hl:iO 0 aK [.pv (.lst (cs.map tupI))]=some (.rt (.fr (.bl true)),[.pv (.lst (cs.map tupI))]):=by
  show (match aK [.fr (.lst (cs.map tupI))] with
   |some (.rt s,T)=>if xO (aq 1 T)[0]?&&(s::aq 1 T).all Hf then some (Fl.rt s,(aq 1 T).set 0 (.pv (.lst (cs.map tupI)))) else none
   |some (.ex x,T)=>if xO (aq 1 T)[0]?&&(aq 1 T).all Hf then some (.ex x,(aq 1 T).set 0 (.pv (.lst (cs.map tupI)))) else none
   | _=>none)=_
  rw[e];rfl
 show (match iO 0 aK [.pv (.lst (cs.map tupI))] with
  |some (.rt s,T)=>match fW s,putL [U,N,V,x3,x4,x5,k,A,.lv (.lst (cs.map tupI))] [.rf 8] (aq 1 T) [U,N,V,x3,x4,x5,k,A,.un] with
   |some r,some O=>some ((Pk r:Except Str Rr),O)
   |_,_=>none
  |some (.ex x,T)=>match putL [U,N,V,x3,x4,x5,k,A,.lv (.lst (cs.map tupI))] [.rf 8] (aq 1 T) [U,N,V,x3,x4,x5,k,A,.un] with
   |some O=>some (.error x,O)
   |none=>none
  | _=>none)=_
 rw[hl];rfl
theorem F8(j:∀g∈gs,Gd ns g)(m:ns.length<=6)(n:gs.length<=16)(sc:A){N e s z:Sl}(h5:x5=.lv (.lst (gs.map aG))\/x5=.fr (.lst (gs.map aG)))(a:np s=true)(k:np z=true):
  ME (nK sc N (.fr (.lst (gs.map aG))) (.lv (.lst (dh gs))) (.lv (.lst ((jm gs).map tupI))) x5 e s z)=some (.nx,nK sc N (.fr (.lst (gs.map aG))) (.lv (.lst (dh gs))) (.lv (.lst ((jm gs).map tupI))) (.fr (.lst (gs.map aG))) e (.lv (.lst [])) (.lv (.lst []))):=by
 have L:∀c∈jm gs,c.length<=6:=λc hc=>((rl λw f=>f.qZ j m).mp hc).w.qZ j m;have X:gp (aZ 5) (nK sc N (.fr (.lst (gs.map aG))) (.lv (.lst (dh gs))) (.lv (.lst ((jm gs).map tupI))) x5 e s z)=some (.ok [.fr (.lst (gs.map aG))],nK sc N (.fr (.lst (gs.map aG))) (.lv (.lst (dh gs))) (.lv (.lst ((jm gs).map tupI))) (.fr (.lst (gs.map aG))) e s z):=by rcases h5 with rfl|rfl<;>rfl
 refine dB (U:=nK sc N (.fr (.lst (gs.map aG))) (.lv (.lst (dh gs))) (.lv (.lst ((jm gs).map tupI))) (.fr (.lst (gs.map aG))) e (.lv (.lst (dh gs))) z) (br (aC X (fS (j7 j m n) _)) rfl rfl a rfl) ?_;refine dB (U:=nK sc N (.fr (.lst (gs.map aG))) (.lv (.lst (dh gs))) (.lv (.lst ((jm gs).map tupI))) (.fr (.lst (gs.map aG))) e (.lv (.lst (dh gs))) (.lv (.lst ((jm gs).map tupI)))) (br (aC (aA rfl rfl) (fS (iK j m n) _)) rfl rfl k rfl) ?_;refine dB (fj (nh (pV (b:=true) rfl) (nh (aR (ao rfl rfl (rM (B1 gs) rfl rfl))) (nh (pV (b:=true) (aR (aC (aA rfl rfl) (Hm L _ _ _ _ _ _ _ _)))) (aR (ao rfl rfl (rM (Aw _) rfl rfl)))))) rfl) ?_;exact dB (eE (r:=.fr .non) rfl) (eE (r:=.fr .non) rfl)
theorem law_true:∀ns:List Int,ns.length<=63->∃Z,kH.M [.fr (.lst (ns.map A.int))]=some (.rt (.fr (.bl true)),Z):=by
 intro ns L;show ∃Z,Ct [.fr (.lst (ns.map A.int))]=some (.rt (.fr (.bl true)),Z);generalize q:A.lst (ns.map A.int)=sc;obtain⟨t,B,u,Y⟩:∃t:Int,N3 (∀Z,Cr B6 (ax 1) (Cr AU (cU bY (af 0)) (ax 4)) (.fr sc::Z)=some (.ok (.fr (.int t)),.fr sc::Z)) (1<=t) (t<=4):=by
  subst q;refine⟨if (if (4:Int)<((ns.map A.int).length:Int) then 4 else ((ns.map A.int).length:Int)) > 1 then (if (4:Int)<((ns.map A.int).length:Int) then 4 else ((ns.map A.int).length:Int)) else 1,λZ=>?_,?_,?_⟩
  .rfl
  ·(repeat' split)<;>lia
  ·(repeat' split)<;>lia
 obtain⟨m,rfl⟩:∃m:Nat,t=m:=⟨t.toNat,by lia⟩
 have C:∀Z,gi (.fr (.int (m:Int))) Z=some (.ok (cg 0 m),Z):=λZ=>by unfold gi;dsimp only [res];rw[if_pos (by lia),OF]
 suffices Wp Ct [.fr sc] λg _=>g=.rt (.fr (.bl true)) by obtain⟨f,Z,e,rfl⟩:=this;exact⟨Z,e⟩
 refine Wp.df (Wp.sq (Wp.fr (λ_ Z=>∃N c x3 x4 x5 k s h,Z=nK sc N c x3 x4 x5 k s h/\N4 (np N=true) (np c=true) (np x3=true) (np x4=true)/\N4 (np x5=true) (np k=true) (np s=true) (np h=true)) (dI (B _) (C _)) ⟨.un,.un,.un,.un,.un,.un,.un,.un,rfl,⟨rfl,rfl,rfl,rfl⟩,⟨rfl,rfl,rfl,rfl⟩⟩ ?_ ?_))
 .rintro i a Z ha ⟨N,c,x3,x4,x5,k,s,h,rfl,⟨h1,h2,h3,h4⟩,⟨h5,H,G,X⟩⟩;obtain⟨hi,rfl⟩:=qU ha;obtain⟨o,x,v⟩:=FC ns (i:Int) (by lia) (by lia);rw[q] at x;obtain⟨nd,gs,o',V,y,I,j⟩:=Eb v (by decide);have w:=yr j y I;have fl:MU rP Fb (.lst (gs.map aG))=some (.nw (.lst (gs.map aG))):=rfl;refine⟨nK sc (.fr (.int i)) c x3 x4 x5 k s h,by cases N<;>first|(cases h1;done)|rfl,?_⟩;refine Wp.st (U:=nK sc (.fr (.int i)) (.lv (.lst (gs.map aG))) x3 x4 x5 k s h) (br (xl (aA (aC (aA rfl (aA rfl rfl)) (fS x _)) rfl) V rfl) rfl rfl h2 rfl) ?_;refine Wp.st (U:=nK sc (.fr (.int i)) (.fr (.lst (gs.map aG))) (.lv (.lst (dh gs))) x4 x5 k s h) (br (nU (i:=9) j y I (U:=nK sc (.fr (.int i)) (.fr (.lst (gs.map aG))) x3 x4 x5 k s h) (iH rfl rfl) (iH rfl rfl) rfl) rfl rfl h3 rfl) ?_;refine Wp.st (U:=nK sc (.fr (.int i)) (.fr (.lst (gs.map aG))) (.lv (.lst (dh gs))) (.lv (.lst ((jm gs).map tupI))) x5 k s h) (br (aC (aA rfl rfl) (fS w _)) rfl rfl h4 rfl) ?_;refine Wp.st (U:=nK sc (.fr (.int i)) (.fr (.lst (gs.map aG))) (.lv (.lst (dh gs))) (.lv (.lst ((jm gs).map tupI))) (.lv (.lst (gs.map aG))) k s h) (br (kb rfl (ug rfl fl)) rfl rfl h5 rfl) ?_;refine Wp.sq (Wp.Ml (cg 0 2) (λZ=>∃x5 k s h,Z=nK sc (.fr (.int i)) (.fr (.lst (gs.map aG))) (.lv (.lst (dh gs))) (.lv (.lst ((jm gs).map tupI))) x5 k s h/\(x5=.lv (.lst (gs.map aG))\/x5=.fr (.lst (gs.map aG)))/\N3 (np k=true) (np s=true) (np h=true)) (dI rfl rfl) ⟨_,_,_,_,rfl,.inl rfl,H,G,X⟩ ?_ ?_)
  .rintro z hz Z ⟨R,p,P,Q,rfl,l,d,E,K⟩;exact⟨nK sc (.fr (.int i)) (.fr (.lst (gs.map aG))) (.lv (.lst (dh gs))) (.lv (.lst ((jm gs).map tupI))) R (.fr z) P Q,by cases p<;>first|(cases d;done)|rfl,Wp.en (F8 j y I sc l E K) ⟨.inl rfl,_,_,_,_,rfl,.inr rfl,rfl,rfl,rfl⟩⟩
  .rintro O ⟨R,p,P,Q,rfl,l,d,E,K⟩;have en:au (ay iJ (af 5) (af 2)) (nK sc (.fr (.int i)) (.fr (.lst (gs.map aG))) (.lv (.lst (dh gs))) (.lv (.lst ((jm gs).map tupI))) R p P Q)=some (.ok false,nK sc (.fr (.int i)) (.fr (.lst (gs.map aG))) (.lv (.lst (dh gs))) (.lv (.lst ((jm gs).map tupI))) R p P Q):=by
    rcases l with rfl|rfl
    .exact aR (ao rfl rfl (rM (nT gs) rfl rfl))
    .exact aR (ao rfl rfl (rM (nT gs) rfl rfl))
   exact⟨rfl,Wp.en (fj en rfl) ⟨.inl rfl,_,_,_,_,_,_,_,_,rfl,⟨rfl,rfl,rfl,rfl⟩,⟨by rcases l with rfl|rfl<;>rfl,d,E,K⟩⟩⟩
 .rintro O ⟨N,c,x3,x4,x5,k,s,h,rfl,-,-⟩;have x:=j7 (ns:=[]) (gs:=[]) (λg j=>nomatch j) (by decide) (by decide);have V:=iK (ns:=[]) (gs:=[]) (λg j=>nomatch j) (by decide) (by decide);rw[GG] at x;have F:(jm []).map tupI=[]:=rfl;rw[F] at V;have S:∀Z,ir dg (.nw (.lst [])) (.nw (.lst [])) Z=some (.ok (.fr (.bl true)),Z):=λZ=>fu (o:=none) rfl rfl (by unfold dg;rw[show lR (LO.lst []).a (LO.lst []).a=some true from gS (Dt.lst (n:=39) (lH.of λa ha=>nomatch ha))]);refine⟨rfl,Wp.en (bu (r:=.fr (.bl true)) (bk (aR (b:=true) (ao (aC (aA (jw rfl rfl) rfl) (fS x _)) rfl (S _))) (ao (aC (aA (jw rfl rfl) rfl) (fS V _)) rfl (S _))) rfl) rfl⟩
end W
set_option maxHeartbeats 4000000
theorem PySem.Challenge.cw_fitwhatever_k21_chains_holds : PySem.Challenge.rw_fitwhatever_k21_chains.Holds :=
 W.fin W.law_true
#print axioms PySem.Challenge.cw_fitwhatever_k21_chains_holds
