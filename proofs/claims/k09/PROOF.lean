import PyProof.Rows.All
import Wide.All
import OpenK.AllK
import Wide.FinOn
import Lean
import PyProof.EqAt
import PyProof.EqKinds
import PyProof.TupleCall
import PyProof.StrLaws
import PySem.Challenge.RW_fitwhatever_k09_what_keeps_a_stock
set_option genSizeOf false
set_option genInjectivity false
set_option bootstrap.genMatcherCode false
set_option compiler.extract_closed false
open PySem.W renaming Frag->LD,findIn->MH,emptyDict->MP,kitOne->MW,keepIn->M0,instObj->M5,fnOf->NF,plainGet->NH,hasDictIn->N6,methodCall_KW->Oy,lookIn->OF,codeIn->OG,plainGet_of->ON,callWith_K->OU,methodObj->O4,isFn->O5,plainOver->O6,kitx_list->O9,kitx_dict->Pa,takerIn->Pq,makesIn->Pr,cellsFrom_some->P0,nsIn->P9,kitx_tuple->Qw,handedIn->QG,OpenLaw->QQ,WalkO->Rb,Hook->Rl
open List renaming map_cons->LF,length_map->LH,getElem?_eq_some_iff->LI,map_nil->LJ,length_cons->LL,size_toArray->LM,mem_append_right->LN,append_assoc->LQ,mem_append->LS,mem_cons_self->LW,mem_cons_of_mem->LX,getElem?_map->LZ,length_append->L4,nodup_append->L6,replicate->L7,getElem?_eq_getElem->L8,mem_singleton->Ma,mem_append_left->Mb,mem_of_getElem?->Mc,mem_cons->Me,map_append->Mh,length_take->Mm,mem_map->Mn,range->Mo,nodup_cons->Mp,lookup_cons->Mq,append_nil->Mr,mem_map_of_mem->Mt,all_eq_true->Mv,getElem?_set_self->Mx,all_cons->MA,take_append_drop->MB,nil_append->MC,take_add_one->MD,drop_eq_getElem_cons->MF,find?_cons->MI,getElem?_append_left->MK,map_map->MM,getElem?_set_ne->MN,getElem?_append_right->MQ,getD_eq_getElem?_getD->MR,flatMap_append->MS,cons_append->MU,any_eq_true->MV,take_length->M4,length->M7,mem_range->Nb,isEmpty_iff->Nc,perm_append_comm->Nl,getElem_of_mem->Nv,replicate_succ->Nw,replicate_zero->Nx,map_congr_left->Ny,any_cons->NA,zip_cons_cons->ND,length_singleton->NM,getElem?_eq_none->NO,mem_flatMap->NQ,lookup->NT,length_nil->NU,filterMap_cons->NV,getElem?_range->NW,mem_filterMap->N5,any_eq_false->Oc,ext_getElem?->Oe,reverse_cons->Of,getElem?_take_of_lt->Og,length_drop->Om,filter_cons->Oo,drop_length->Ou,getElem_mem->Ov,length_eq_zero_iff->Ow,filter_eq_nil_iff->OD,mem_filter->OE,contains_iff_mem->OM,map->OS,mem_of_mem_take->OT,perm_iff_count->O0,find?_eq_none->Pf,take_sublist->Pj,all_map->Pk,count_append->Pl,flatMap_cons->Pm,not_mem_nil->Px,eq_nil_of_length_eq_zero->PB,of_mem_zip->PD,dropLast_concat_getLast->PL,getElem?_eq_none_iff->P2,sublist_append_right->P4,pairwise_iff_getElem->P8,eq_of_mem_replicate->Qf,getElem?_replicate->Qh,getElem?_cons_zero->Qj,length_replicate->Qr,length_filter_le->Qu,filterMap_append->Qz,set_cons_zero->QM,set_cons_succ->QN,pairwise_cons->QO,lookup_append->QR,length_range->Q3,pairwise_map->Q4,getElem?_inj->Q5,find?_append->Q6,map_reverse->Q8,range'_succ->Ra,count_cons->Rf,foldl_cons->Rg,any_append->Rh,map_const'->Rm,take_left->Rt,drop_zero->Rx,nodup_nil->Ry,any_map->RJ,not_lt->RV,map_id->RX,Nodup->SD
open Bool renaming and_eq_true->LG,not_eq_true'->Ml,false_ne_true->Mz,or_eq_true->MZ,beq_eq_decide_eq->NP,and_false->N7,eq_iff_iff->OJ,and_true->O8,true_and->Pb,not_eq_false'->Pe,false_and->PV,not_not->Qp,false_eq_true->QL,eq_false_iff->QX,not_false->Rw
open PySem.Heap renaming get?_push_of_some->LK,lt_size->LV,get?_push_size->L9,SameBut->NX,size_push->OQ,get?_update_other->Ql,get?_update_self->Qs
open Nat renaming lt_of_lt_of_le->LP,le_refl->LU,ne_of_lt->Md,le_trans->Mf,lt_irrefl->MG,pow_le_pow_right->MO,zero_le->MT,lt_of_le_of_lt->Ng,le_of_ble_eq_true->Nn,le_succ->NG,lt_succ_of_lt->NI,lt_succ_self->NR,le_of_lt->NY,ble->O1,ne_of_gt->Pp,zero_add->Pw,le_of_eq->Qq,min_self->Qv,sub_self->QB,le_max_right->Rc,le_max_left->Ro,le_add_left->Rq,lt_or_ge->RW,log2_lt->R4,sub_le->SI,not_lt->SJ
open Option.some renaming inj->LY,injEq->SK
open PySem.F renaming called_set->Mj,plainAttrs_list->NC,args_tuple_add_2->N9,entry_tuple_add->Od,slot_tuple_add->Ol,slot_dict_delitem->PH,slot_list_extend->PR,entry_type_call->PZ,typeCall_set_1->P5,entry_set_init->P7,slot_dict_pop->Qe,slot_set_ne->Qn,excAttr_ValueError->QW
open Sum renaming inr->Mu,inl->Pn
open Int renaming mul_ne_zero->Mw,gcd->ME,mul_fdiv_cancel_left->M9,gcd_pos_of_ne_zero_right->Nk,toNat_natCast->Nq,fmod_nonneg_of_pos->NJ,fmod_eq_emod_of_nonneg->Oa,gcd_dvd_right->Oh,lt_or_gt_of_ne->Pg,fmod_lt_of_pos->Ph,gcd_dvd_left->Pz,le_of_lt->Qy,zero_add->QC,neg_mul->QI,sub_eq_add_neg->QY,gcd_zero_right->QZ,emod_nonneg->Rp,natAbs_mul->RC,mul_comm->RT,lt_or_le->RU,zero_sub->RY,mul_one->RZ,neg_dvd->R5,mul_neg->R6,neg_gcd->R7,negSucc->SA
open PySem.Value renaming ref->My,type->Ox,str->OP,builtin->OZ,none->O3,int->Po,bool->QF,isStrOf->Rn,isInt->RD,bytes->RE,float->RF
open PySem.Builtin.Str renaming glued->MJ,occurrences->M6,strSliceIndices->Nf,tooLong->OB
open Array renaming length_toList->ML,getElem?_toList->OI,toArray_toList->Qx,toList_inj->Q0,toList->Rz
open PySem.Txt renaming slice->MX,slice_le->Pt,mul->Q9
open PyProof.Rows renaming callWith_type1->MY,slot_tuple_getitem->Nz,sortedS->Oi,risingS->PJ,callWith_builtin1->R1,tuple_addW0->R8,ltCps_eq->R9,strKind->Sa,list_addW->Sd,envOfC->Sy
open False renaming elim->M8
open PySem renaming mem_of_lookup->Na,Str->Qa,Within->Qg,call->QH
open Ne renaming symm->Nd
open Rat renaming intCast_lt_intCast->Nh,mul_lt_mul_right->OV,mul_nonneg->OY,divInt_eq_div->Pu,intCast_inj->PN,intCast_mul->PQ,intCast_le_intCast->QD,divInt->SH,not_lt->SM
open PySem.Builtin.Slice renaming slicePlaces->Ni,sliceAdjust->NS,sliceApplied->O7,slicePartIndex->RN,sliceFields->RO
open PyProof.Rows.F renaming plain_set_update_loop->Nj,entry_set_update_loop->Oj
open PySem.Builtin.Tuple renaming tupleExact->Nm,tupleItemsOf->RP
open PySem.Builtin.List renaming listTooLong->Np
open True renaming intro->Nr
open ForInStep renaming yield->Nt
open PySem.NameKind renaming free->Nu
open Sum.inr renaming inj->NK
open PySem.Calls renaming spliced_cons->NZ,spliced_nil->Ob,callWith_builtin->OA,Name_function_global->PM,call_function_entry->PY,evalArgs_plain->Qt
open Option renaming isNone_iff_eq_none->N8,isSome_map->Pc,not_isSome->QJ,getD_none->QK,getD_some->QU
open List.Sublist renaming append->Ot,refl->OL,map->SE
open PySem.SeqAt renaming EqAt->Oz
open PySem.SetTable renaming fresh->OC,laid->Q2
open PySem.Obj renaming mapSeq->OH
open PySem.Builtin.Frozenset renaming updateFrom->OK,subsetOf->OO,quietEq->OR,sizeOf->OX,walkUnseen->Ri,unchanged->Rj,isAnySet->Rk
open PySem.Shared renaming TypeIs->OW
open Function renaming comp_def->O2
open PySem.Code renaming quiet_builtin->Pd,isFrame->Qk,frames->RM
open List.Pairwise renaming sublist->Py,nil->RQ
open PySem.AutoSeq1 renaming wpAny_loadPart'->PK
open PySem.Paired renaming length->PU,snoc->RB
open PySem.Builtin.Int renaming intBits->PX
open PySem.SeqAt.EqAt renaming int_str->Qb,str_int->Qc
open PySem.Around renaming under->Qd,under_plainId->Qo,under_plain->QE
open PySem.KeyKind renaming is_eq_decide->Qi
open PySem.Spec renaming ltCps->Qm
open List.cons renaming inj->QP
open PySem.Str renaming length->QV
open PySem.Builtin.ObjectAttr renaming bindTo->Q7
open Std.Legacy.Range renaming forIn_eq_forIn_range'->Ru
open PySem.W.SharedT renaming abs->Rv
open PySem.Heap.IsSliceOf renaming new->RG
open PySem.W.WShape renaming has->RH
open Or renaming inr->RI
open PySem.Builtin.Range renaming rangeSize->RK
open PySem.W.Looks renaming here->RL
open PySem.Walks renaming list->RS
open PySem.Within renaming cons->R0
open PySem.W.WData renaming int->R3
open PySem.Str.mk renaming injEq->Sb
open PySem.Heap.SameBut renaming update->Se
open PySem.W.Fast renaming tw11892475500146522536->Sg,tw14364793385576792824->Sh,tw6613529449190102663->Si,tw10156331382660048174->Sj,tw10274390034422433532->Sk,tw14289696077712309145->Sm,tw4187177175401517315->Sn,te11892475500146522536->So,te14364793385576792824->Sr,te6613529449190102663->Ss,te10156331382660048174->Su,te10274390034422433532->Sv,te14289696077712309145->Sw,te4187177175401517315->Sx
open PySem.Flow renaming next->SF
open PySem.Heap.DictOf renaming new->SG
set_option Elab.async false
set_option linter.all false
set_option maxRecDepth 100000
abbrev NDb(x:Qa):Prop:=(x==("__debug__" : Qa))=false
abbrev NCd(x:Qa):Prop:=(x==("__classdict__" : Qa))=false
namespace L2
open PySem PySem.Spec PyProof.Rows
noncomputable abbrev Key:=Sum Int Str
noncomputable def gM:Key->Value->Bool
 | .inl k,v=>RD k v
 | .inr x,v=>Rn x v
noncomputable def Lc(w:World):Key->Int
 | .inl k=>hashInt k
 | .inr x=>hashStr w x
theorem aL:∀{k:Key}{v:Value},gM k v=true->(∃i t,k=Pn i/\v=Po i t)\/(∃x t,k=Mu x/\v=OP x t)
 | .inl i,v,h=>by
  obtain⟨t,e⟩:=Value.isInt_shape (k:=i) (v:=v) h
  exact .inl ⟨i,t,rfl,e⟩
 | .inr x,v,h=>by
  obtain⟨t,e⟩:=Value.isStrOf_shape (x:=x) (v:=v) h
  exact .inr ⟨x,t,rfl,e⟩
theorem tL(i:Int)(t:Tok):gM (.inl i) (.int i t)=true:=by simp[gM,RD]
theorem uR(x:Str)(t:Tok):gM (.inr x) (.str x t)=true:=by simp[gM,Rn]
theorem CM(a b:Int):decide ((Pn a:Key)=Pn b)=(a==b):=by
 by_cases e:a=b
 ·subst e;simp
 ·have h:¬ (Pn a:Key)=Pn b:=λq=>e (Pn.inj q)
  rw[decide_eq_false h]
  exact(beq_eq_false_iff_ne.mpr e).symm
theorem DK(a b:Str):decide ((Mu a:Key)=Mu b)=decide (a=b):=by
 by_cases e:a=b
 ·subst e;simp
 ·have h:¬ (Mu a:Key)=Mu b:=λq=>e (NK q)
  rw[decide_eq_false h,decide_eq_false e]
theorem Fo(a:Int)(b:Str):decide ((Pn a:Key)=Mu b)=false:=decide_eq_false (λq=>nomatch q)
theorem Dj(a:Str)(b:Int):decide ((Mu a:Key)=Pn b)=false:=decide_eq_false (λq=>nomatch q)
noncomputable def aw(prog:Program)(w:World):PySem.KeyKind prog w Key where
 is:=gM
 hash:=Lc w
 inj:=λv a b ha hb=>by
  rcases aL ha with ⟨i,t,rfl,rfl⟩|⟨x,t,rfl,rfl⟩
  ·rcases aL hb with ⟨j,u,rfl,e⟩|⟨y,u,rfl,e⟩
   ·injection e with e1 _;rw[e1]
   ·exact nomatch e
  ·rcases aL hb with ⟨j,u,rfl,e⟩|⟨y,u,rfl,e⟩
   ·exact nomatch e
   ·injection e with e1 _;rw[e1]
 byValue:=λk v h=>by
  rcases aL h with ⟨i,t,rfl,rfl⟩|⟨x,t,rfl,rfl⟩<;>rfl
 pyHash:=λhv h=>by
  rcases aL hv with ⟨i,t,rfl,rfl⟩|⟨x,t,rfl,rfl⟩
  ·exact wpAny_pyHash_int h
  ·exact wpAny_pyHash_str h
 eqBool:=λhu hv h=>by
  rcases aL hu with ⟨i,t,rfl,rfl⟩|⟨x,t,rfl,rfl⟩
  ·rcases aL hv with ⟨j,u,rfl,rfl⟩|⟨y,u,rfl,rfl⟩
   ·rw[CM] at h;exact wpAny_eqBool_int h
   ·rw[Fo] at h;exact Qb i t y u _ _ _ _ h
  ·rcases aL hv with ⟨j,u,rfl,rfl⟩|⟨y,u,rfl,rfl⟩
   ·rw[Dj] at h;exact Qc x t j u _ _ _ _ h
   ·rw[DK] at h;exact wpAny_eqBool_str h
 «strs»:=λk x t v h=>by
  rcases aL h with ⟨i,u,rfl,e⟩|⟨y,u,rfl,e⟩
  ·exact nomatch e
  ·injection e with e1 _
   subst e1
   cases v<;>rfl
theorem pI(prog:Program)(w:World)(i:Int)(t:Tok):(aw prog w).is (.inl i) (.int i t)=true:=tL i t
theorem pq(prog:Program)(w:World)(x:Str)(t:Tok):(aw prog w).is (.inr x) (.str x t)=true:=uR x t
end L2
namespace L2
open PySem PySem.Spec PyProof.Rows
inductive V where
 | non|bl (b:Bool)|int (i:Int)|str (x:Str)|byt (b:Array UInt8)|flt (b:UInt64)|ref (a:Addr)|ty (n:String)
 deriving DecidableEq
noncomputable def RelV:V->Value->Prop
 | .non,u=>u=O3
 | .bl b,u=>u=QF b
 | .int i,u=>∃t,u=Po i t
 | .str x,u=>∃t,u=OP x t
 | .byt b,u=>∃t,u=RE b t
 | .flt b,u=>∃t,u=RF b t
 | .ref a,u=>u=My a
 | .ty n,u=>u=Ox n
noncomputable abbrev Vals:List V->List Value->Prop:=Paired RelV
theorem Vals.length{xs:List V}{us:List Value}(r:Vals xs us):xs.length=us.length:=PU r
theorem Vals.get:∀{xs:List V}{us:List Value}{i:Nat}{x:V},Vals xs us->xs[i]?=some x->∃u,us[i]?=some u/\RelV x u
 | _,_,_,_,.nil,e=>by simp at e
 | _,_,0,_,.cons r _,e=>by simp at e;subst e;exact⟨_,rfl,r⟩
 | _,_,i+1,x,.cons _ t,e=>by
  obtain⟨u,h1,h2⟩:=Vals.get (i:=i) (x:=x) t (by simpa using e)
  exact⟨u,by simpa using h1,h2⟩
theorem Vals.set{x:V}{u:Value}(r:RelV x u):∀{xs:List V}{us:List Value}(i:Nat),Vals xs us->Vals (xs.set i x) (us.set i u)
 | _,_,_,.nil=>.nil
 | _,_,0,.cons _ t=>.cons r t
 | _,_,i+1,.cons q t=>.cons q (Vals.set r i t)
theorem Vals.append:∀{xs ys:List V}{us ws:List Value},Vals xs us->Vals ys ws->Vals (xs++ys) (us++ws)
 | _,_,_,_,.nil,s=>s
 | _,_,_,_,.cons r t,s=>.cons r (Vals.append t s)
theorem Vals.take:∀{xs:List V}{us:List Value}(n:Nat),Vals xs us->Vals (xs.take n) (us.take n)
 | _,_,0,_=>.nil
 | _,_,_+1,.nil=>.nil
 | _,_,n+1,.cons r t=>.cons r (Vals.take n t)
theorem Vals.drop:∀{xs:List V}{us:List Value}(n:Nat),Vals xs us->Vals (xs.drop n) (us.drop n)
 | _,_,0,r=>r
 | _,_,_+1,.nil=>.nil
 | _,_,n+1,.cons _ t=>Vals.drop n t
noncomputable def fv:Option V->Option Value->Prop
 | some v,some u=>RelV v u
 | none,none=>True
 | _,_=>False
noncomputable def KV{κ:Type}:List (κ×V)->List (κ×Value)->Prop:=Paired λ(p:κ×V) (q:κ×Value)=>p.1=q.1/\RelV p.2 q.2
noncomputable def kV:Key->V
 | .inl i=>.int i
 | .inr x=>.str x
inductive HO where
  | lst (xs:List V)
  | tup (xs:List V)
  | dK (kvs:List (Key×V))|dT (kvs:List (List Key×V))
  | set (S:Int->Bool) (n:Nat)
  | ins (C dx:Addr) (fs:List (Str×V))
  | own (x:Addr)
  | xd (fs:List (Str×V))
  | met (f x:Addr)
  | rng (lo hi:Int)
  | frz (o:Obj) (u:HO)
  | tbl (ps:Array Value)
  | ext (φ:Heap->Prop)
noncomputable abbrev Hp:=Addr->Option HO
noncomputable def upd(H:Hp)(a:Addr)(o:HO):Hp:=λb=>if b=a then some o else H b
theorem bj{H:Hp}{a:Addr}{o:HO}:upd H a o a=some o:=by unfold upd;rw[if_pos rfl]
theorem aA{H:Hp}{a b:Addr}{o:HO}(h:b≠a):upd H a o b=H b:=by unfold upd;rw[if_neg h]
theorem GP{H:Hp}{a b:Addr}{o u:HO}(h:H a=some o)(h':H b=some u)(d:o≠u):a≠b:=by
 intro e;subst e;rw[h] at h';exact d (LY h')
theorem aF{H:Hp}{a b:Addr}{o:HO}(h:H a=some o)(h':H b=none):a≠b:=by
 intro e;subst e;rw[h] at h';cases h'
section
variable(P:Program)(w:World)
def fN(h:Heap)(a:Addr)(items:Array Value):Prop:=∃o,h.get? a=some o/\o.cls=.type "tuple" /\ ∃n,o.data=.seq items n/\o.dict=none
theorem fN.t{h:Heap}{a:Addr}{items:Array Value}(x:fN h a items):IsTup h a items:=let ⟨o,e,c,n,d,_⟩:=x;⟨o,e,c,n,d⟩
theorem fN.new(h:Heap)(items:Array Value):fN (h.push { cls:=.type "tuple",data:=.seq items }) h.objs.size items:=⟨_,L9 _ rfl,rfl,_,rfl,rfl⟩
noncomputable def ba(H:Hp)(h:Heap)(a:Addr):HO->Prop
 | .lst xs=>xs.length<=sizeLine/\∃(its:List Value) (n:Nat),Vals xs its/\h.get? a=some { cls:=.type "list",data:=.seq its.toArray n }
 | .tup xs=>xs.length<=sizeLine/\∃its:List Value,Vals xs its/\fN h a its.toArray
 | .dK kvs=>kvs.length<=sizeLine/\(a==sysModules)=false/\∃vs,KV kvs vs/\h.DictOf (aw P w) a vs
 | .dT kvs=>kvs.length<=sizeLine/\(a==sysModules)=false/\∃xs:List (List Key×Addr×Value),
   Paired (λ(p:List Key×V) (q:List Key×Addr×Value)=>p.1=q.1/\H q.2.1=some (.tup (p.1.map kV))/\RelV p.2 q.2.2) kvs xs /\
   ∃o es ep,h.get? a=some o/\o.ExactDict/\o.data=.dict es ep/\es.toList=xs.map (entryOfKey (tupleKind (aw P w)))/\(xs.map (·.1)).Nodup
 | .set S n=>h.SetOf (intKind P w) a S n
 | .ins C dx fs=>H dx=some (.own a)/\fs.length<=1000/\dx≠a/\h.get? a=some (M5 C dx) /\
   ∃mA,h.Ns1 dx mA/\(∀f,fv (fs.lookup f) (mA f))/\Qg mA (fs.map (·.1))
 | .own _=>∃o,h.get? a=some o
 | .xd fs=>∃mA,h.Ns1 a mA/\∀f,fv (fs.lookup f) (mA f)
 | .rng lo hi=>∃t u v,h.get? a=some { cls:=.type "range",data:=.fields #[.int lo t,.int hi u,.int 1 v] }
 | .frz o u=>h.get? a=some o/\ba H h a u
 | .tbl ps=>h.get? a=some { cls:=.none,data:=.fields ps }
 | .met f x=>h.get? a=some (O4 (.ref f) (.ref x))
 | .ext φ=>φ h/\(∃o,h.get? a=some o)/\∀h1 h2:Heap,φ h1->(∀o,h1.get? a=some o->h2.get? a=some o)->φ h2
def HOk(H:Hp)(h:Heap):Prop:=∀a o,H a=some o->ba P w H h a o
end
section
variable{P:Program}{w:World}{H H':Hp}{h h':Heap}{a:Addr}{o:HO}
theorem ba.lt(x:ba P w H h a o):a<h.objs.size:=by
 cases o with
 | lst xs=>obtain⟨_,_,_,_,e⟩:=x;exact LV e
 | tup xs=>obtain⟨_,_,_,p⟩:=x;exact p.t.lt
 | dK kvs=>obtain⟨_,_,_,_,o,_,_,e,_⟩:=x;exact LV e
 | dT kvs=>obtain⟨_,_,_,_,o,_,_,e,_⟩:=x;exact LV e
 | set S n=>obtain⟨o,_,_,_,e,_⟩:=x;exact LV e
 | ins C dx fs=>obtain⟨_,_,_,e,_⟩:=x;exact LV e
 | own y=>obtain⟨_,e⟩:=x;exact LV e
 | xd fs=>obtain⟨_,⟨_,_,_,e,_⟩,_⟩:=x;exact LV e
 | rng lo hi=>obtain⟨_,_,_,e⟩:=x;exact LV e
 | frz ob u=>obtain⟨e,_⟩:=x;exact LV e
 | tbl ps=>exact LV (show h.get? a=some _ from x)
 | met f y=>exact LV (show h.get? a=some _ from x)
 | ext φ=>obtain⟨_,⟨_,e⟩,_⟩:=x;exact LV e
theorem Paired.Eg{α β:Type}{F G:α->β->Prop}:∀{l₁:List α}{l₂:List β},Paired F l₁ l₂->(∀a b,F a b->G a b)->Paired G l₁ l₂
 | _,_,.nil,_=>.nil
 | _,_,.cons r t,f=>.cons (f _ _ r) (Paired.Eg t f)
theorem ba.qx(x:ba P w H h a o)(k:∀b u,(b=a\/H b=some (.own a))->h.get? b=some u->h'.get? b=some u)
  (ho:∀b,H b=some (.own a)->H' b=some (.own a))(ht:∀b xs,H b=some (.tup xs)->H' b=some (.tup xs)):ba P w H' h' a o:=by
 induction o with
 | lst xs=>obtain⟨z,its,n,r,e⟩:=x;exact⟨z,its,n,r,k _ _ (.inl rfl) e⟩
 | tup xs=>obtain⟨z,its,r,ob,e,c⟩:=x;exact⟨z,its,r,ob,k _ _ (.inl rfl) e,c⟩
 | dK kvs=>obtain⟨z,y,vs,r,ob,es,ep,e,c⟩:=x;exact⟨z,y,vs,r,ob,es,ep,k _ _ (.inl rfl) e,c⟩
 | dT kvs =>
  obtain⟨z,y,xs,r,ob,es,ep,e,c⟩:=x
  exact⟨z,y,xs,Paired.Eg r λp q z=>⟨z.1,ht _ _ z.2.1,z.2.2⟩,ob,es,ep,k _ _ (.inl rfl) e,c⟩
 | set S n=>obtain⟨ob,es,ep,t,e,c⟩:=x;exact⟨ob,es,ep,t,k _ _ (.inl rfl) e,c⟩
 | ins C dx fs =>
  obtain⟨d,z,ne,e,mA,⟨od,es,ep,e2,c⟩,r⟩:=x
  exact⟨ho _ d,z,ne,k _ _ (.inl rfl) e,mA,⟨od,es,ep,k _ _ (.inr d) e2,c⟩,r⟩
 | own y=>obtain⟨ob,e⟩:=x;exact⟨ob,k _ _ (.inl rfl) e⟩
 | xd fs=>obtain⟨mA,⟨od,es,ep,e,c⟩,r⟩:=x;exact⟨mA,⟨od,es,ep,k _ _ (.inl rfl) e,c⟩,r⟩
 | rng lo hi=>obtain⟨t,u,v,e⟩:=x;exact⟨t,u,v,k _ _ (.inl rfl) e⟩
 | frz ob u ih=>obtain⟨e,q⟩:=x;exact⟨k _ _ (.inl rfl) e,ih q⟩
 | tbl ps =>
  have e:h.get? a=some { cls:=.none,data:=.fields ps }:=x
  show h'.get? a=some { cls:=.none,data:=.fields ps }
  exact k a _ (.inl rfl) e
 | met f y =>
  have e:h.get? a=some (O4 (.ref f) (.ref y)):=x
  show h'.get? a=some (O4 (.ref f) (.ref y))
  exact k a _ (.inl rfl) e
 | ext φ=>obtain⟨p,⟨o,e⟩,st⟩:=x;exact⟨st _ _ p λo q=>k _ _ (.inl rfl) q,⟨o,k _ _ (.inl rfl) e⟩,st⟩
theorem HOk.lt(x:HOk P w H h)(e:H a=some o):a<h.objs.size:=(x a o e).lt
theorem HOk.fresh(x:HOk P w H h)(e:h.objs.size<=a):H a=none:=by
 cases q:H a with
 | none=>rfl
 | some u=>exact absurd (LP (x.lt q) e) (MG _)
theorem HOk.kept(x:HOk P w H h)(k:∀b u,h.get? b=some u->h'.get? b=some u):HOk P w H h':=λa o e =>
 (x a o e).qx (λb u _ q=>k b u q) (λ_ q=>q) λ_ _ q=>q
theorem HOk.laid(x:HOk P w H h)(k:∀b u,h.get? b=some u->h'.get? b=some u)(hp:h.objs.size<=a)(new:ba P w (upd H a o) h' a o):HOk P w (upd H a o) h':=λb u e=>by
 have hn:=x.fresh hp
 by_cases hb:b=a
 ·subst hb;rw[bj] at e;cases e;exact new
 ·rw[aA hb] at e
  exact(x b u e).qx (λc v _ q=>k c v q) (λc q=>by rw[aA (aF q hn)];exact q) λc xs q=>by rw[aA (aF q hn)];exact q
end
def Rd(H:Hp)(a:Addr)(u:HO):Prop:=H a=some u\/∃o,H a=some (.frz o u)
theorem Rd.ok{P:Program}{w:World}{H:Hp}{h:Heap}{a:Addr}{u:HO}(r:Rd H a u)(x:HOk P w H h):ba P w H h a u:=by
 rcases r with r|⟨o,r⟩
 ·exact x a u r
 ·obtain⟨_,q⟩:=x a _ r
  exact q
noncomputable def Mut:Option HO->Prop
 | some (.lst _)=>True
 | some (.dK _)=>True
 | some (.dT _)=>True
 | some (.set _ _)=>True
 | some (.ins _ _ _)=>True
 | some (.ext _)=>True
 | _=>False
section
variable{P:Program}{w:World}{H:Hp}{h h':Heap}{x e:Addr}{o':HO}
theorem HOk.write(ok:HOk P w H h)(mu:Mut (H x))(he:e=x\/H e=some (.own x))(k:∀b u,b≠e->h.get? b=some u->h'.get? b=some u)(heo:∃u,h'.get? e=some u)
  (new:ba P w (upd H x o') h' x o'):HOk P w (upd H x o') h':=λb u q=>by
 have nown:∀c y,H c=some (.own y)->c≠x:=λc y r z=>by subst z;rw[r] at mu;exact mu
 have ntup:∀c xs,H c=some (.tup xs)->c≠x:=λc xs r z=>by subst z;rw[r] at mu;exact mu
 by_cases hb:b=x
 ·subst hb;rw[bj] at q;cases q;exact new
 ·rw[aA hb] at q
  by_cases hbe:b=e
  ·have q':H b=some (.own x):=by
    rcases he with z|z
    ·exact absurd (hbe.trans z) hb
    ·rw[hbe];exact z
   rw[q] at q';cases q'
   obtain⟨v,hv⟩:=heo
   exact⟨v,by rw[hbe];exact hv⟩
  ·refine(ok b u q).qx (λc v hc r=>k c v ?_ r) (λc r=>by rw[aA (nown c b r)];exact r) λc xs r=>by rw[aA (ntup c xs r)];exact r
   rcases hc with rfl|hc
   ·exact hbe
   ·rintro rfl
    rcases he with z|z
    ·exact nown c b hc z
    ·rw[hc] at z;cases z;exact hb rfl
end
structure Un (fs ex:List Addr) (H H':Hp) (h h':Heap):Prop where
 keep:∀b o,h.get? b=some o->H b=none->b∉fs->b∉ex->h'.get? b=some o
 slot:∀b o,h.get? b=some o->H b=none->b∈fs->b∉ex->∃sl,h'.get? b=some { o with slots:=sl }
 free:∀b o,h.get? b=some o->H b=none->b∉ex->H' b=none
 there:∀b o,h.get? b=some o->b∉ex->∃o',h'.get? b=some o'
 tups:∀b xs,H b=some (.tup xs)->H' b=some (.tup xs)
 frzs:∀b o u,H b=some (.frz o u)->H' b=some (.frz o u)
 tbls:∀b ps,H b=some (.tbl ps)->∃more,H' b=some (.tbl (ps++more))
section
variable{fs fs' ex ex':List Addr}{H H1 H2:Hp}{h h1 h2 h':Heap}{a x e:Addr}{o:HO}
theorem Un.any(u:Un fs ex H H1 h h1){b:Addr}{ob:Obj}(q:h.get? b=some ob)(n:H b=none)(hx:b∉ex):∃sl,h1.get? b=some { ob with slots:=sl }:=by
 by_cases hb:b∈fs
 ·exact u.slot b ob q n hb hx
 ·exact⟨ob.slots,u.keep b ob q n hb hx⟩
theorem Un.kept(k:∀b u,h.get? b=some u->h'.get? b=some u):Un fs ex H H h h' :=
 ⟨λb ob q _ _ _=>k b ob q,λb ob q _ _ _=>⟨ob.slots,k b ob q⟩,λ_ _ _ n _=>n,λb ob q _=>⟨ob,k b ob q⟩,λ_ _ q=>q,λ_ _ _ q=>q,λ_ ps q=>⟨#[],by rw[q];simp⟩⟩
theorem Un.refl:Un fs ex H H h h:=Un.kept λ_ _ q=>q
theorem Un.laid(k:∀b u,h.get? b=some u->h'.get? b=some u)(hp:h.objs.size<=a)(hn:H a=none):Un fs ex H (upd H a o) h h' where
 keep:=λb u q _ _ _=>k b u q
 slot:=λb u q _ _ _=>⟨u.slots,k b u q⟩
 free:=λb u q n _=>by rw[aA (Md (LP (LV q) hp))];exact n
 there:=λb u q _=>⟨u,k b u q⟩
 tups:=λb xs q=>by rw[aA (aF q hn)];exact q
 frzs:=λb u xs q=>by rw[aA (aF q hn)];exact q
 tbls:=λb ps q=>⟨#[],by rw[aA (aF q hn),q];simp⟩
theorem Un.write(mu:Mut (H x))(he:e=x\/H e=some (.own x))(k:∀b u,b≠e->h.get? b=some u->h'.get? b=some u)(heo:∃u,h'.get? e=some u):Un fs ex H (upd H x o) h h':=by
 have hx:∀b,H b=none->b≠x:=λb n z=>by subst z;rw[n] at mu;exact mu
 have hb:∀b,H b=none->b≠e:=λb n z=>by
  subst z
  rcases he with r|r
  ·exact hx b n r
  ·rw[n] at r;cases r
 have hm:∀b u,H b=some u->¬ Mut (some u)->b≠x:=λb u q nm z=>by subst z;rw[q] at mu;exact nm mu
 refine⟨λb u q n _ _=>k b u (hb b n) q,λb u q n _ _=>⟨u.slots,k b u (hb b n) q⟩,λb u q n _=>by rw[aA (hx b n)];exact n,λb u q _=>?_,
  λb xs q=>by rw[aA (hm b _ q λz=>z)];exact q,λb u xs q=>by rw[aA (hm b _ q λz=>z)];exact q,λb ps q=>⟨#[],by rw[aA (hm b _ q λz=>z),q];simp⟩⟩
 by_cases hbe:b=e
 ·subst hbe;exact heo
 ·exact⟨u,k b u hbe q⟩
end
noncomputable def trk(h:Heap)(H:Hp):List Addr:=(Mo h.objs.size).filter λa=>(H a).isSome
noncomputable def nO(h:Heap)(H:Hp):Heap:=PySem.W.hideAll h (trk h H)
theorem t9(h:Heap)(H:Hp):(nO h H).objs.size=h.objs.size:=PySem.W.hideAll_size _ _
theorem wJ{h:Heap}{H:Hp}{b:Addr}{o:Obj}(e:h.get? b=some o)(n:H b=none):(nO h H).get? b=some o :=
 PySem.W.hideAll_get _ e λhm=>by
  have q:(H b).isSome=true:=(OE.mp hm).2
  rw[n] at q;simp at q
theorem BC{h:Heap}{H:Hp}{b:Addr}{o:Obj}(e:(nO h H).get? b=some o):h.get? b=some o/\H b=none:=by
 have e':h.get? b=some o:=PySem.W.of_hideAll (trk h H) e
 refine⟨e',?_⟩
 cases q:H b with
 | none=>rfl
 | some x =>
  have hm:b∈trk h H:=OE.mpr ⟨Nb.mpr (LV e'),by simp[q]⟩
  have z:(nO h H).get? b=none:=PySem.W.hideAll_none (trk h H) hm
  rw[z] at e;cases e
noncomputable def A5(g h:Heap)(L:Addr):List (Addr×Obj):=(Mo h.objs.size).filterMap λa=>if a=L\/(g.get? a).isSome=true then none else (h.get? a).map λo=>(a,o)
noncomputable def rest(g h:Heap)(L d:Addr):List (Addr×Obj):=(A5 g h L).filter λp=>decide (p.1≠d)
end L2
namespace L2
open PySem PySem.Spec PyProof.Rows
structure Mod (K:LD) (mg:Str->Option Value) (base:Heap):Prop where
 kin:K.In base
 glob:base.Ns mainGlobals mg
 blt:∃mb,base.Ns builtinsNs mb/\∀x:Str,x ≠ "__name__" -> mb x=bootBuiltins x
 nolimit:base.NoLimit
structure Cx where
 prog:Program
 w:World
 K:LD
 mg:Str->Option Value
 base:Heap
 A:Around
 N:List Str
 s₀:Shared
 H₀:Hp
 env:Env
 outer:List Env
 stack:List Env
 ex:List Addr
 fn:Str->Bool
 calm:Bool
 pn:List (Addr×Obj)
 xe:Value->Shared->Prop
noncomputable def frs(l:List Env):List Addr:=l.filterMap (·.frame)
noncomputable abbrev Cx.fs(X:Cx):List Addr:=frs X.outer
def Vis(sc:Scope)(x:Str):Prop:=sc.names.lookup x=some .local\/sc.names.lookup x=some .cell\/sc.names.lookup x=some .free
def Loc(sc:Scope)(x:Str):Prop:=sc.names.lookup x=some .local\/sc.names.lookup x=some .cell
noncomputable def Look(env:Env)(h:Heap)(m:Str->Option Value)(x:Str)(u:Value):Prop :=
 (env.kindOf x=some .local/\m x=some u)\/((env.kindOf x=some .cell\/env.kindOf x=some .free)/\∃c,env.cells.lookup x=some c/\h.IsCell c (some u))
structure Cx.Ok (X:Cx):Prop where
 mod:Mod X.K X.mg X.base
 kind:X.env.scope.kind=.function
 glob:X.env.globals=mainGlobals
 blt:X.env.builtins=builtinsNs
 above:X.s₀.heap.objs.size<=X.env.locals
 inj:∀x y c,X.env.cells.lookup x=some c->X.env.cells.lookup y=some c->x=y
 has:∀x,(X.env.kindOf x=some .cell\/X.env.kindOf x=some .free)->∃c,X.env.cells.lookup x=some c
 cab:∀x c,X.fn x=true->X.env.cells.lookup x=some c->X.s₀.heap.objs.size<=c
 hd:X.calm=true->X.A.handled=none
 frames:X.A.frames=some X.stack
 stk:X.stack=X.outer\/(X.stack=X.env::X.outer/\X.env.frame=some X.env.locals)
 exf:∀b∈X.ex,b≠X.env.locals/\∀x c,X.env.cells.lookup x=some c->c≠b
 bs:∀b o,X.base.get? b=some o->X.s₀.heap.get? b=some o/\X.H₀ b=none
 bsz:X.base.objs.size<=X.s₀.heap.objs.size
 noex:∀b o,X.base.get? b=some o->b∉X.ex
 exfs:∀b∈X.ex,b∉X.fs
 lE:X.s₀.heap.FunFrames X.base X.outer
 frf:∀b∈X.fs,X.H₀ b=none
structure Inv (X:Cx) (pins:List (Addr×Obj)) (σ:List (Option V)) (H:Hp) (s:Shared):Prop where
 ok:X.Ok
 os:s.os=X.s₀.os
 bare:AllBare s.gens
 base:Un X.fs X.ex X.H₀ H X.s₀.heap s.heap
 loc:∃m,s.heap.Ns X.env.locals m/\∀(i:Nat)(x:Str)(v:V),X.N[i]?=some x->σ[i]?=some (some v)->Vis X.env.scope x->∃u,RelV v u/\Look X.env s.heap m x u
 cell:∀x c,X.env.cells.lookup x=some c->∃v,s.heap.IsCell c v
 free:H X.env.locals=none
 freeC:∀x c,X.env.cells.lookup x=some c->H c=none
 pin:∀p∈X.pn++pins,s.heap.get? p.1=some p.2/\H p.1=none/\p.1≠X.env.locals/\p.1∉X.fs/\∀v,p.2.data≠.cell v
 hok:HOk X.prog X.w H s.heap
 len:σ.length=X.N.length
section
variable{X:Cx}{pins:List (Addr×Obj)}{σ:List (Option V)}{H H':Hp}{s:Shared}{h':Heap}
theorem Cx.Ok.KU(ok:X.Ok){b:Addr}{o:Obj}(e:X.base.get? b=some o):b∉X.fs:=λhb=>by
 have:=(ok.lE.mem hb).1
 rw[e] at this;cases this
theorem Inv.bs(I:Inv X pins σ H s):∀b o,X.base.get? b=some o->s.heap.get? b=some o/\H b=none:=λb o e =>
 ⟨I.base.keep b o (I.ok.bs b o e).1 (I.ok.bs b o e).2 (I.ok.KU e) (I.ok.noex b o e),I.base.free b o (I.ok.bs b o e).1 (I.ok.bs b o e).2 (I.ok.noex b o e)⟩
theorem Inv.bk(I:Inv X pins σ H s):∀b o,X.base.get? b=some o->s.heap.get? b=some o:=λb o e=>(I.bs b o e).1
theorem Inv.mod(I:Inv X pins σ H s):Mod X.K X.mg X.base:=I.ok.mod
theorem Inv.kIn(I:Inv X pins σ H s):X.K.In s.heap:=I.ok.mod.kin.keeps I.bk
theorem Inv.lt(I:Inv X pins σ H s):X.env.locals<s.heap.objs.size:=let ⟨_,hn,_⟩:=I.loc;hn.lt
theorem Inv.sz(I:Inv X pins σ H s):X.s₀.heap.objs.size<=s.heap.objs.size:=Mf I.ok.above (NY I.lt)
theorem Inv.F2(I:Inv X pins σ H s){a:Addr}(h:s.heap.objs.size<=a):a∉X.fs:=λhb=>by
 obtain⟨_,o,ho,_⟩:=I.ok.lE.mem hb
 exact absurd (LP (LV ho) (Mf I.sz h)) (MG _)
theorem Inv.cne(I:Inv X pins σ H s):∀x c,X.env.cells.lookup x=some c->c≠X.env.locals:=λx c e z=>by
 obtain⟨v,o,ho,hd⟩:=I.cell x c e
 obtain⟨m,⟨o',es,ep,ho',hd',_⟩,_⟩:=I.loc
 rw[z,ho'] at ho;cases ho;rw[hd'] at hd;cases hd
theorem Inv.lE(I:Inv X pins σ H s):s.heap.FunFrames X.base X.outer:=by
 have all:∀(l:List Env),(∀b∈frs l,b∈X.fs)->X.s₀.heap.FunFrames X.base l->s.heap.FunFrames X.base l:=by
  intro l
  induction l with
  | nil=>intro _ _;trivial
  | cons env r ih =>
   intro hs hl
   obtain⟨hk,⟨L,o,hf,hn,ho,hd⟩,hr⟩:=hl
   have hL:L∈X.fs:=hs L (by unfold frs;rw[NV,hf];exact LW)
   obtain⟨sl,e⟩:=I.base.slot L o ho (I.ok.frf L hL) hL λz=>I.ok.exfs L z hL
   exact⟨hk,⟨L,_,hf,hn,e,hd⟩,ih (λb hb=>hs b (by unfold frs;rw[NV,hf];exact LX _ hb)) hr⟩
 exact all X.outer (λ_ hb=>hb) I.ok.lE
theorem Inv.stack(I:Inv X pins σ H s):s.heap.FunFrames X.base X.stack:=by
 rcases I.ok.stk with e|⟨e,hf⟩
 ·rw[e];exact I.lE
 ·rw[e]
  obtain⟨m,hn,_⟩:=I.loc
  refine .cons (by rw[I.ok.kind];decide) hf hn ?_ I.lE
  exact Heap.get?_none_of_le (Mf I.ok.bsz I.ok.above)
theorem Inv.iS(I:Inv X pins σ H s):∀b∈frs X.stack,b∈X.env.locals::X.fs:=λb hb=>by
 rcases I.ok.stk with e|⟨e,hf⟩
 ·rw[e] at hb;exact LX _ hb
 ·rw[e] at hb
  unfold frs at hb
  rw[NV,hf] at hb
  exact hb
theorem Inv.sD(I:Inv X pins σ H s):∀b∈frs X.stack,H b=none:=λb hb=>by
 rcases Me.mp (I.iS b hb) with e|hb
 ·rw[e];exact I.free
 ·obtain⟨_,o,ho,_⟩:=I.ok.lE.mem hb
  exact I.base.free b o ho (I.ok.frf b hb) λz=>I.ok.exfs b z hb
theorem Inv.step{g':Array GenState}{t':Nat}{d':Drawn}{ch:List Addr}(I:Inv X pins σ H s)
  (hch:∀b∈ch,(b∈X.ex\/X.s₀.heap.objs.size<=b)/\b≠X.env.locals/\(∀x c,X.env.cells.lookup x=some c->c≠b)/\∀p∈X.pn++pins,p.1≠b)
  (keep:∀b o,b≠X.env.locals->b∉X.fs->b∉ch->s.heap.get? b=some o->H b=none->h'.get? b=some o)
  (slot:∀b o,b≠X.env.locals->b∈X.fs->b∉ch->s.heap.get? b=some o->H b=none->∃sl,h'.get? b=some { o with slots:=sl })(free:∀b o,b∉ch->s.heap.get? b=some o->H b=none->H' b=none)
  (there:∀b o,b∉ch->s.heap.get? b=some o->∃o',h'.get? b=some o')
  (tups:∀b xs,H b=some (.tup xs)->H' b=some (.tup xs))(frzs:∀b o u,H b=some (.frz o u)->H' b=some (.frz o u))(tbls:∀b ps,H b=some (.tbl ps)->∃more,H' b=some (.tbl (ps++more)))
  (ns:∀m,s.heap.Ns X.env.locals m->h'.Ns X.env.locals m)(hok:HOk X.prog X.w H' h')(hg:AllBare g') :
  Inv X pins σ H' { s with heap:=h',gens:=g',drawn:=d',toks:=t' }:=by
 have neL:∀b o,X.s₀.heap.get? b=some o->b≠X.env.locals:=λb o e=>Md (LP (LV e) I.ok.above)
 have neC:∀b o,X.s₀.heap.get? b=some o->b∉X.ex->b∉ch:=λb o e hx hb=>by
  rcases(hch b hb).1 with z|z
  ·exact hx z
  ·exact absurd (LP (LV e) z) (MG _)
 have cellK:∀x c,X.env.cells.lookup x=some c->∀v,s.heap.IsCell c v->h'.IsCell c v:=λx c e v ⟨o,ho,hd⟩=>by
  have nch:c∉ch:=λz=>(hch c z).2.2.1 x c e rfl
  by_cases hc:c∈X.fs
  ·obtain⟨sl,q⟩:=slot c o (I.cne x c e) hc nch ho (I.freeC x c e)
   exact⟨_,q,hd⟩
  ·exact⟨o,keep c o (I.cne x c e) hc nch ho (I.freeC x c e),hd⟩
 refine⟨I.ok,I.os,hg,⟨λb o e n hb hx=>?_,λb o e n hb hx=>?_,λb o e n hx=>?_,λb o e hx=>?_,λb xs e=>tups b xs (I.base.tups b xs e),λb o xs e=>frzs b o xs (I.base.frzs b o xs e),λb ps e=>?_⟩,?_,λx c e=>?_,?_,λx c e=>?_,λp hp=>?_,hok,I.len⟩
 ·exact keep b o (neL b o e) hb (neC b o e hx) (I.base.keep b o e n hb hx) (I.base.free b o e n hx)
 ·obtain⟨sl,e1⟩:=I.base.slot b o e n hb hx
  obtain⟨sl',e2⟩:=slot b _ (neL b o e) hb (neC b o e hx) e1 (I.base.free b o e n hx)
  exact⟨sl',e2⟩
 ·obtain⟨o',e1⟩:=I.base.there b o e hx
  exact free b o' (neC b o e hx) e1 (I.base.free b o e n hx)
 ·obtain⟨o',e1⟩:=I.base.there b o e hx
  exact there b o' (neC b o e hx) e1
 ·obtain⟨m1,e1⟩:=I.base.tbls b ps e
  obtain⟨m2,e2⟩:=tbls b _ e1
  exact⟨m1++m2,by rw[e2,Array.append_assoc]⟩
 ·obtain⟨m,hn,hl⟩:=I.loc
  refine⟨m,ns m hn,λi x v e1 e2 e3=>?_⟩
  obtain⟨u,r,l⟩:=hl i x v e1 e2 e3
  refine⟨u,r,?_⟩
  rcases l with l|⟨k,c,e,z⟩
  ·exact .inl l
  ·exact .inr ⟨k,c,e,cellK x c e _ z⟩
 ·obtain⟨v,z⟩:=I.cell x c e
  exact⟨v,cellK x c e v z⟩
 ·obtain⟨m,⟨o,_,_,ho,_⟩,_⟩:=I.loc
  exact free _ o (λz=>(hch _ z).2.1 rfl) ho I.free
 ·obtain⟨v,o,ho,hd⟩:=I.cell x c e
  exact free c o (λz=>(hch c z).2.2.1 x c e rfl) ho (I.freeC x c e)
 ·obtain⟨e,n,ne,nf,d⟩:=I.pin p hp
  have nch:p.1∉ch:=λz=>(hch p.1 z).2.2.2 p hp rfl
  exact⟨keep p.1 p.2 ne nf nch e n,free p.1 p.2 nch e n,ne,nf,d⟩
theorem Inv.un{t':Nat}(I:Inv X pins σ H s)(u:Un X.fs [] H H' s.heap h')(hok:HOk X.prog X.w H' h'):Inv X pins σ H' { s with heap:=h',toks:=t' }:=by
 obtain⟨m,⟨o,es,ep,ho,r⟩,_⟩:=id I.loc
 obtain⟨sl,hL⟩:=u.any ho I.free (by simp)
 exact I.step (g':=s.gens) (d':=s.drawn) (ch:=[]) (λ_ z=>nomatch z) (λb o _ hb _ e n=>u.keep b o e n hb (by simp)) (λb o _ hb _ e n=>u.slot b o e n hb (by simp)) (λb o _ e n=>u.free b o e n (by simp)) (λb o _ e=>u.there b o e (by simp)) u.tups u.frzs u.tbls (λm' hm=>by
  obtain⟨o',es',ep',ho',r'⟩:=hm
  rw[ho] at ho';cases ho'
  exact⟨_,es',ep',hL,r'⟩) hok I.bare
theorem Inv.call{g':Array GenState}{t':Nat}{d':Drawn}{ch:List Addr}(I:Inv X pins σ H s)(u:Un (frs X.stack) ch H H' s.heap h')(hok:HOk X.prog X.w H' h')(hg:AllBare g')
  (hch:∀b∈ch,(b∈X.ex\/X.s₀.heap.objs.size<=b)/\b≠X.env.locals/\(∀x c,X.env.cells.lookup x=some c->c≠b)/\∀p∈X.pn++pins,p.1≠b) :
  Inv X pins σ H' { s with heap:=h',gens:=g',drawn:=d',toks:=t' }:=by
 obtain⟨m,⟨o,es,ep,ho,r⟩,_⟩:=id I.loc
 obtain⟨sl,hL⟩:=u.any ho I.free λz=>(hch _ z).2.1 rfl
 exact I.step (ch:=ch) hch (λb o hL hb hc e n=>u.keep b o e n (λz=>(Me.mp (I.iS b z)).elim hL hb) hc) (λb o _ _ hc e n=>u.any e n hc) (λb o hc e n=>u.free b o e n hc) (λb o hc e=>u.there b o e hc) u.tups u.frzs u.tbls (λm' hm=>by
  obtain⟨o',es',ep',ho',r'⟩:=hm
  rw[ho] at ho';cases ho'
  exact⟨_,es',ep',hL,r'⟩) hok hg
theorem Inv.turned{t':Nat}{it:Addr}(I:Inv X pins σ H s)(k:∀b o,b≠it->s.heap.get? b=some o->h'.get? b=some o)(hn:H it=none)(hL:it≠X.env.locals)
  (h1:it∈X.ex\/X.s₀.heap.objs.size<=it)(h2:∀x c,X.env.cells.lookup x=some c->c≠it)(h3:∀p∈X.pn++pins,p.1≠it):Inv X pins σ H { s with heap:=h',toks:=t' }:=by
 have nit:∀b u,H b=some u->b≠it:=λb u e z=>by rw[z,hn] at e;cases e
 refine I.step (g':=s.gens) (d':=s.drawn) (ch:=[it]) (λb hb=>?_) (λb o _ _ hc e _=>k b o (λz=>hc (by simp[z])) e) (λb o _ _ hc e _=>⟨o.slots,k b o (λz=>hc (by simp[z])) e⟩) (λ_ _ _ _ n=>n)
  (λb o hc e=>⟨o,k b o (λz=>hc (by simp[z])) e⟩) (λ_ _ e=>e) (λ_ _ _ e=>e) (λb ps e=>⟨#[],by rw[e];simp⟩) (λm hm=>?_) (λb u e=>?_) I.bare
 ·have e:b=it:=by simpa using hb
  subst e
  exact⟨h1,hL,h2,h3⟩
 ·obtain⟨o,es,ep,ho,r⟩:=hm
  exact⟨o,es,ep,k _ o (Nd hL) ho,r⟩
 ·refine(I.hok b u e).qx (λc v hc q=>k c v ?_ q) (λ_ q=>q) λ_ _ q=>q
  rcases hc with z|z
  ·rw[z];exact nit b u e
  ·exact nit c _ z
theorem Inv.tok(I:Inv X pins σ H s)(t:Nat):Inv X pins σ H { s with toks:=t }:=I.un (h':=s.heap) (t':=t) Un.refl I.hok
theorem Inv.kept{t':Nat}(I:Inv X pins σ H s)(k:∀b u,s.heap.get? b=some u->h'.get? b=some u):Inv X pins σ H { s with heap:=h',toks:=t' }:=I.un (Un.kept k) (I.hok.kept k)
theorem Inv.laid{a:Addr}{o:HO}{t':Nat}(I:Inv X pins σ H s)(k:∀b u,s.heap.get? b=some u->h'.get? b=some u)(hp:s.heap.objs.size<=a)(new:ba X.prog X.w (upd H a o) h' a o) :
  Inv X pins σ (upd H a o) { s with heap:=h',toks:=t' }:=I.un (Un.laid k hp (I.hok.fresh hp)) (I.hok.laid k hp new)
theorem Inv.write{x e:Addr}{o:HO}{t':Nat}(I:Inv X pins σ H s)(mu:Mut (H x))(he:e=x\/H e=some (.own x))(k:∀b u,b≠e->s.heap.get? b=some u->h'.get? b=some u)(heo:∃u,h'.get? e=some u)
  (new:ba X.prog X.w (upd H x o) h' x o):Inv X pins σ (upd H x o) { s with heap:=h',toks:=t' }:=I.un (Un.write mu he k heo) (I.hok.write mu he k heo new)
theorem Inv.n6{pins':List (Addr×Obj)}(I:Inv X pins σ H s)(h:∀p∈pins',s.heap.get? p.1=some p.2/\H p.1=none/\p.1≠X.env.locals/\p.1∉X.fs/\∀v,p.2.data≠.cell v):Inv X pins' σ H s :=
 ⟨I.ok,I.os,I.bare,I.base,I.loc,I.cell,I.free,I.freeC,λp hp=>(LS.mp hp).elim (λz=>I.pin p (Mb _ z)) (h p),I.hok,I.len⟩
theorem pD{N:List Str}(hN:N.Nodup){i j:Nat}{x:Str}(a:N[i]?=some x)(b:N[j]?=some x):i=j:=by
 obtain⟨h1,e1⟩:=LI.mp a
 obtain⟨h2,e2⟩:=LI.mp b
 exact(List.getElem_inj hN).mp (e1.trans e2.symm)
theorem mz{M:Model}{A:Around}{E:Value->Shared->Prop}{i:Nat}{x:Str}{v:V}{u:Value}{Q:Unit->Shared->Prop}(I:Inv X pins σ H s)(hN:X.N.Nodup)(hi:X.N[i]?=some x)(hx:Loc X.env.scope x)(r:RelV v u)
  (h:∀s',Inv X pins (σ.set i (some v)) H s'->(∃a,NX a s.heap s'.heap/\(a=X.env.locals\/X.env.cells.lookup x=some a))->Q () s')(hf:X.fn x=true\/X.env.scope.names.lookup x=some .local:=by first|exact .inl rfl|exact .inr rfl|assumption):wpAny M A (storeName X.env x u) Q E s:=by
 obtain⟨m,hn,hl⟩:=id I.loc
 have hcls:(X.env.scope.kind==.class || (X.env.scope.kind==.module&&X.env.locals != X.env.globals))=false:=by rw[I.ok.kind];rfl
 have hiσ:i<σ.length:=by rw[I.len];exact(LI.mp hi).1
 have cne:=I.cne
 have tracked:∀{a:Addr}{h':Heap},(∃o,s.heap.get? a=some o/\H a=none)->NX a s.heap h'->HOk X.prog X.w H h':=λ{a h'} ha hs b ob e=>by
  obtain⟨_,_,hfree⟩:=ha
  refine(I.hok b ob e).qx (λc w' hc q=>(hs.2 c ?_).trans q) (λ_ q=>q) λ_ _ q=>q
  rintro rfl
  rcases hc with rfl|hc
  ·rw[hfree] at e;cases e
  ·rw[hfree] at hc;cases hc
 rcases hx with hk|hk
 ·refine wpAny_storeName_local hk hn (λh' hn' hs=>?_) hcls
  obtain⟨oL,_,_,hoL,_⟩:=id hn
  refine h _ ⟨I.ok,I.os,I.bare,⟨λb o e n hb hx=>?_,λb o e n hb hx=>?_,I.base.free,λb o e hx=>?_,I.base.tups,I.base.frzs,I.base.tbls⟩,⟨_,hn',λj y v' e1 e2 e3=>?_⟩,λy c e=>?_,I.free,I.freeC,λp hp=>?_,tracked ⟨oL,hoL,I.free⟩ hs,by simpa using I.len⟩ ⟨_,hs,.inl rfl⟩
  ·exact(hs.2 b (Md (LP (LV e) I.ok.above))).trans (I.base.keep b o e n hb hx)
  ·obtain⟨sl,e1⟩:=I.base.slot b o e n hb hx
   exact⟨sl,(hs.2 b (Md (LP (LV e) I.ok.above))).trans e1⟩
  ·obtain⟨o',e1⟩:=I.base.there b o e hx
   exact⟨o',(hs.2 b (Md (LP (LV e) I.ok.above))).trans e1⟩
  ·by_cases hj:j=i
   ·subst hj
    rw[hi] at e1;cases e1
    rw[Mx hiσ] at e2
    cases e2
    exact⟨u,r,.inl ⟨hk,by simp⟩⟩
   ·rw[MN (Nd hj)] at e2
    obtain⟨u',r',q⟩:=hl j y v' e1 e2 e3
    refine⟨u',r',?_⟩
    rcases q with ⟨k,e⟩|⟨k,c,e,z⟩
    ·refine .inl ⟨k,?_⟩
     have:y≠x:=λe=>hj (pD hN e1 (e▸hi))
     simp[this,e]
    ·exact .inr ⟨k,c,e,z.sameBut hs (cne y c e)⟩
  ·obtain⟨w',z⟩:=I.cell y c e
   exact⟨w',z.sameBut hs (cne y c e)⟩
  ·obtain⟨e,n,ne,nf,d⟩:=I.pin p hp
   exact⟨(hs.2 p.1 ne).trans e,n,ne,nf,d⟩
 ·have hfn:X.fn x=true:=by
   rcases hf with z|z
   ·exact z
   ·rw[z] at hk;cases hk
  obtain⟨c,hc⟩:=I.ok.has x (.inl hk)
  obtain⟨w',z⟩:=I.cell x c hc
  refine wpAny_storeName_cell I.ok.kind hk hc z (λh' hc' hs=>?_)
  obtain⟨oc,hoc,hocd⟩:=id z
  refine h { s with heap:=h' } ⟨I.ok,I.os,I.bare,⟨λb o e n hb hx=>?_,λb o e n hb hx=>?_,I.base.free,λb o e hx=>?_,I.base.tups,I.base.frzs,I.base.tbls⟩,⟨m,hn.sameBut hs (Nd (cne x c hc)),λj y v' e1 e2 e3=>?_⟩,λy c' e=>?_,I.free,I.freeC,λp hp=>?_,tracked ⟨oc,hoc,I.freeC x c hc⟩ hs,by simpa using I.len⟩ ⟨c,hs,.inr hc⟩
  ·exact(hs.2 b (Md (LP (LV e) (I.ok.cab x c hfn hc)))).trans (I.base.keep b o e n hb hx)
  ·obtain⟨sl,e1⟩:=I.base.slot b o e n hb hx
   exact⟨sl,(hs.2 b (Md (LP (LV e) (I.ok.cab x c hfn hc)))).trans e1⟩
  ·obtain⟨o',e1⟩:=I.base.there b o e hx
   exact⟨o',(hs.2 b (Md (LP (LV e) (I.ok.cab x c hfn hc)))).trans e1⟩
  ·by_cases hj:j=i
   ·subst hj
    rw[hi] at e1;cases e1
    rw[Mx hiσ] at e2
    cases e2
    exact⟨u,r,.inr ⟨.inl hk,c,hc,hc'⟩⟩
   ·rw[MN (Nd hj)] at e2
    obtain⟨u',r',q⟩:=hl j y v' e1 e2 e3
    refine⟨u',r',?_⟩
    rcases q with q|⟨k,c',e,z'⟩
    ·exact .inl q
    ·refine .inr ⟨k,c',e,z'.sameBut hs ?_⟩
     rintro rfl
     exact hj (pD hN e1 (I.ok.inj _ _ _ e hc▸hi))
  ·by_cases hcc:c'=c
   ·subst hcc;exact⟨_,hc'⟩
   ·obtain⟨w2,z2⟩:=I.cell y c' e
    exact⟨w2,z2.sameBut hs hcc⟩
  ·obtain⟨e,n,ne,nf,d⟩:=I.pin p hp
   refine⟨(hs.2 p.1 ?_).trans e,n,ne,nf,d⟩
   intro q
   rw[q,hoc] at e
   have q':oc=p.2:=LY e
   exact d w' (by rw[<- q'];exact hocd)
theorem ig{M:Model}{A:Around}{E:Value->Shared->Prop}{i:Nat}{x:Str}{v:V}{u:Value}{Q:Unit->Shared->Prop}(I:Inv X pins σ H s)(hN:X.N.Nodup)(hi:X.N[i]?=some x)(hx:Loc X.env.scope x)(r:RelV v u)
  (h:∀s',Inv X pins (σ.set i (some v)) H s'->Q () s')(hf:X.fn x=true\/X.env.scope.names.lookup x=some .local:=by first|exact .inl rfl|exact .inr rfl|assumption):wpAny M A (storeName X.env x u) Q E s :=
 mz I hN hi hx r (λs' I' _=>h s' I') hf
theorem Inv.G8{s':Shared}{ch:List Addr}(I:Inv X pins σ H s)(ho:s'.os=s.os)(u:Un (frs X.stack) ch H H' s.heap s'.heap)(hok:HOk X.prog X.w H' s'.heap)(hg:AllBare s'.gens)
  (hch:∀b∈ch,(b∈X.ex\/X.s₀.heap.objs.size<=b)/\b≠X.env.locals/\(∀x c,X.env.cells.lookup x=some c->c≠b)/\∀p∈X.pn++pins,p.1≠b):Inv X pins σ H' s':=by
 obtain⟨h',g',d',t',o'⟩:=s'
 have e:o'=s.os:=ho
 subst e
 exact I.call (g':=g') (t':=t') (d':=d') u hok hg hch
end
noncomputable abbrev XK:=Value->Option Addr->Hp->Prop
noncomputable abbrev St:=List (Option V)
noncomputable abbrev VK:=V->Hp->Prop
noncomputable abbrev TE:=St->Hp->VK->Prop
noncomputable abbrev TT:=St->Hp->(Bool->Hp->Prop)->Prop
noncomputable abbrev TA:=St->Hp->(List V->Hp->Prop)->Prop
structure Ends where
 nx:St->Hp->Prop
 rt:VK
 bk:St->Hp->Prop:=λ_ _=>False
 ct:St->Hp->Prop:=λ_ _=>False
noncomputable abbrev TS:=Ends->St->Hp->Prop
def EP(X:Cx)(pins:List (Addr×Obj))(σ:St)(Q:VK)(u:Value)(s':Shared):Prop:=∃v H',Inv X pins σ H' s'/\RelV v u/\Q v H'
def TP(X:Cx)(pins:List (Addr×Obj))(σ:St)(Q:Bool->Hp->Prop)(b:Bool)(s':Shared):Prop:=∃H',Inv X pins σ H' s'/\Q b H'
def AP(X:Cx)(pins:List (Addr×Obj))(σ:St)(Q:List V->Hp->Prop)(us:List Value)(s':Shared):Prop:=∃vs H',Inv X pins σ H' s'/\Vals vs us/\Q vs H'
noncomputable def SP(X:Cx)(pins:List (Addr×Obj))(D:Ends)(f:Flow)(s':Shared):Prop :=
 match f with
 | .next=>∃σ' H',Inv X pins σ' H' s'/\D.nx σ' H'
 | .brk=>∃σ' H',Inv X pins σ' H' s'/\D.bk σ' H'
 | .cont=>∃σ' H',Inv X pins σ' H' s'/\D.ct σ' H'
 | .ret u=>∃v σ' H',Inv X pins σ' H' s'/\RelV v u/\D.rt v H'
noncomputable def PE(X:Cx)(e:Expr)(t:TE):Prop :=
 ∀(pins:List (Addr×Obj))(s:Shared)(σ:St)(H:Hp)(Q:VK),Inv X pins σ H s->t σ H Q->wpAny (model X.prog X.w) X.A (eval e X.env) (EP X pins σ Q) X.xe s
noncomputable def PT(X:Cx)(e:Expr)(t:TT):Prop :=
 ∀(pins:List (Addr×Obj))(s:Shared)(σ:St)(H:Hp)(Q:Bool->Hp->Prop),Inv X pins σ H s->t σ H Q->wpAny (model X.prog X.w) X.A (isTrue e X.env (eval e X.env)) (TP X pins σ Q) X.xe s
noncomputable def PW(X:Cx)(e:Expr)(t:TT):Prop :=
 ∀(whole:Sem Value)(pins:List (Addr×Obj))(s:Shared)(σ:St)(H:Hp)(Q:Bool->Hp->Prop),Inv X pins σ H s->t σ H Q->wpAny (model X.prog X.w) X.A (isTrue e X.env whole) (TP X pins σ Q) X.xe s
theorem PW.pt{X:Cx}{e:Expr}{t:TT}(h:PW X e t):PT X e t:=h _
noncomputable def PA(X:Cx)(es:List Expr)(t:TA):Prop :=
 ∀(pos:Pos)(pins:List (Addr×Obj))(s:Shared)(σ:St)(H:Hp)(Q:List V->Hp->Prop),Inv X pins σ H s->t σ H Q->wpAny (model X.prog X.w) X.A (spliced (backTo pos (starEach es X.env))) (AP X pins σ Q) X.xe s
noncomputable def PS(X:Cx)(st:Stmt)(t:TS):Prop :=
 ∀(pins:List (Addr×Obj))(s:Shared)(σ:St)(H:Hp)(D:Ends),Inv X pins σ H s->t D σ H->wpAny (model X.prog X.w) X.A (exec st X.env) (SP X pins D) X.xe s
noncomputable def PSs(X:Cx)(st:List Stmt)(t:TS):Prop :=
 ∀(pins:List (Addr×Obj))(s:Shared)(σ:St)(H:Hp)(D:Ends),Inv X pins σ H s->t D σ H->wpAny (model X.prog X.w) X.A (execs st X.env) (SP X pins D) X.xe s
theorem thn{α:Type}{t:Sem α}{Q Q':α->Shared->Prop}{M:Model}{A:Around}{E:Value->Shared->Prop}{s:Shared}(h:wpAny M A t Q E s)(hQ:∀a s,Q a s->Q' a s):wpAny M A t Q' E s:=wpAny_mono h hQ λ_ _ x=>x
end L2
namespace L2
open PySem PySem.Spec PyProof.Rows
section
variable{X:Cx}
theorem bin{a b:Expr}{ta tb:TE}(ha:PE X a ta)(hb:PE X b tb){pins:List (Addr×Obj)}{s:Shared}{σ:St}{H:Hp}{R:V->V->Hp->Prop}(I:Inv X pins σ H s)(h:ta σ H λx H1=>tb σ H1 λy H2=>R x y H2)
  {α:Type}{Q:α->Shared->Prop}{f:Value->Value->Sem α}
  (hf:∀v u s2 x y H2,Inv X pins σ H2 s2->RelV x v->RelV y u->R x y H2->wpAny (model X.prog X.w) X.A (f v u) Q X.xe s2) :
  wpAny (model X.prog X.w) X.A (eval a X.env) (λv s₁=>wpAny (model X.prog X.w) X.A (eval b X.env) (λu s₂=>wpAny (model X.prog X.w) X.A (f v u) Q X.xe s₂) X.xe s₁) X.xe s:=by
 refine thn (ha pins s σ H _ I h) λv s1 ⟨x,H1,I1,r1,q1⟩=>?_
 refine thn (hb pins s1 σ H1 _ I1 q1) λu s2 ⟨y,H2,I2,r2,q2⟩=>?_
 exact hf v u s2 x y H2 I2 r1 r2 q2
noncomputable def De(i:Nat):TE:=λσ H Q=>∃v,σ[i]?=some (some v)/\Q v H
noncomputable def tC(v:V):TE:=λ_ H Q=>Q v H
theorem dk{i:Nat}{x:Str}{pos:Pos}(hN:X.N[i]?=some x)(hv:Vis X.env.scope x)(hd:NDb x:=by decide)(hcd:NCd x:=by decide):PE X (.Name x pos) (De i):=by
 intro pins s σ H Q I h
 obtain⟨v,e,h⟩:=h
 obtain⟨m,hn,hl⟩:=I.loc
 obtain⟨u,r,l⟩:=hl i x v hN e hv
 have fin:EP X pins σ Q u s:=⟨v,H,I,r,h⟩
 rcases l with ⟨hk,hm⟩|⟨hk,c,hc,hcell⟩
 ·exact wpAny_Name (wpAny_loadName_local I.ok.kind hk hn hm fin) hd
 ·rcases hk with hk|hk
  ·exact wpAny_Name (wpAny_loadName_cell I.ok.kind hk hc hcell fin) hd
  ·exact wpAny_Name (wpAny_loadName_free I.ok.kind hk hc hcell fin hcd) hd
theorem Di{i j pos}:PE X (.Constant (.int i) j pos) (tC (.int i)):=λ_ _ _ H _ I h=>wpAny_Constant_int ⟨.int i,H,I.tok _,⟨_,rfl⟩,h⟩
theorem HI{b j pos}:PE X (.Constant (.bool b) j pos) (tC (.bl b)):=λ_ _ _ H _ I h=>Constant_bool ⟨.bl b,H,I,rfl,h⟩
theorem EK{j pos}:PE X (.Constant .none j pos) (tC .non):=λ_ _ _ H _ I h=>Constant_none ⟨.non,H,I,rfl,h⟩
theorem yC{x j pos}:PE X (.Constant (.str x) j pos) (tC (.str x)):=λ_ _ _ H _ I h=>Calls.Constant_str ⟨.str x,H,I.tok _,⟨_,rfl⟩,h⟩
def Gl(X:Cx)(x:Str):Prop:=X.env.kindOf x=some .globalImplicit
theorem ou{E:Value->Shared->Prop}{pins:List (Addr×Obj)}{s:Shared}{σ:St}{H:Hp}{x:Str}{u:Value}{pos:Pos}{Q:Value->Shared->Prop}(I:Inv X pins σ H s)(hg:Gl X x)(hm:X.mg x=some u)(h:Q u s)
  (hd:NDb x:=by decide):wpAny (model X.prog X.w) X.A (eval (.Name x pos) X.env) Q E s :=
 PM I.ok.kind hg (Calls.loadGlobal_global (by rw[I.ok.glob];exact I.mod.glob.keeps I.bk) hm h) hd
theorem hV{E:Value->Shared->Prop}{pins:List (Addr×Obj)}{s:Shared}{σ:St}{H:Hp}{x:Str}{u:Value}{pos:Pos}{Q:Value->Shared->Prop}(I:Inv X pins σ H s)(hg:Gl X x)(hm:X.mg x=none)(hv:bootBuiltins x=some u)(h:Q u s)
  (hn:x ≠ "__name__" := by decide)(hd:NDb x:=by decide):wpAny (model X.prog X.w) X.A (eval (.Name x pos) X.env) Q E s:=by
 obtain⟨mb,h1,h2⟩:=I.mod.blt
 exact PM I.ok.kind hg (Calls.loadGlobal_builtin (by rw[I.ok.glob];exact I.mod.glob.keeps I.bk) hm (by rw[I.ok.blt];exact h1.keeps I.bk) ((h2 x hn).trans hv) h) hd
theorem Bk{x:Str}{v:V}{u:Value}{pos:Pos}(hg:Gl X x)(hm:X.mg x=some u)(r:RelV v u)(hd:NDb x:=by decide):PE X (.Name x pos) (tC v) :=
 λ_ _ _ H _ I h=>ou I hg hm ⟨v,H,I,r,h⟩ hd
theorem z7{x:Str}{v:V}{u:Value}{pos:Pos}(hg:Gl X x)(hm:X.mg x=none)(hv:bootBuiltins x=some u)(r:RelV v u)(hn:x ≠ "__name__" := by decide)(hd:NDb x:=by decide):PE X (.Name x pos) (tC v) :=
 λ_ _ _ H _ I h=>hV I hg hm hv ⟨v,H,I,r,h⟩ hn hd
variable{a b:Expr}{ta tb:TE}{pos:Pos}
noncomputable def PC(X:Cx)(op:CmpOp)(a b:Expr)(t:TE):Prop :=
 ∀(pins:List (Addr×Obj))(s:Shared)(σ:St)(H:Hp)(Q:VK),Inv X pins σ H s->t σ H Q ->
  wpAny (model X.prog X.w) X.A (eval a X.env) (λv s₁=>wpAny (model X.prog X.w) X.A (eval b X.env) (λu s₂=>wpAny (model X.prog X.w) X.A (compareOp op v u) (EP X pins σ Q) X.xe s₂) X.xe s₁) X.xe s
noncomputable def tB(t:TE):TT:=λσ H Q=>t σ H λx H1=>∃c,x=.bl c/\Q c H1
theorem rh{op:CmpOp}{t:TE}(h:PC X op a b t)(h1:behindInMarks op b=false:=by first|exact nobehind _ (by decide) (by decide)|rfl):PE X (.Compare a [op] [b] pos) t:=λpins s σ H Q I hw=>wpAny_Compare1 (h pins s σ H Q I hw) h1
theorem qy{op:CmpOp}{t:TE}(h:PC X op a b t)(h1:behindInMarks op b=false:=by first|exact nobehind _ (by decide) (by decide)|rfl):PT X (.Compare a [op] [b] pos) (tB t):=by
 intro pins s σ H Q I hw
 refine wpAny_isTrue_Compare1 (thn (h pins s σ H _ I hw) λv s1 h1=>thn h1 λu s2 h2=>thn h2 λc s3 ⟨x,H1,I1,r1,q1⟩=>?_) h1
 obtain⟨d,rfl,q⟩:=q1
 cases r1
 exact wpAny_truthy_bool ⟨H1,I1,q⟩
theorem Gi{e:Expr}{t:TE}(h:PE X e t)(he:∀whole,isTrue e X.env whole=(do let v <- whole;standAt e.pos;holding [v] (truthy v)):=by intro _;rfl):PT X e (tB t):=by
 intro pins s σ H Q I hw
 refine isTrue_plain (thn (h pins s σ H _ I hw) λv s1 ⟨x,H1,I1,r1,q1⟩=>?_) (he _)
 obtain⟨d,rfl,q⟩:=q1
 cases r1
 exact wpAny_truthy_bool ⟨H1,I1,q⟩
variable{tA tB':TT}{rest:List Expr}
noncomputable def KH(t u:TT):TT:=λσ H Q=>t σ H λc H1=>if c=true then u σ H1 Q else Q false H1
noncomputable def tOr(t u:TT):TT:=λσ H Q=>t σ H λc H1=>if c=true then Q true H1 else u σ H1 Q
noncomputable def K8(t:TT):TT:=λσ H Q=>t σ H λc H1=>Q (!c) H1
theorem Bi(ha:PT X a tA):PW X (.BoolOp .And [a] pos) tA:=by
 intro wh pins s σ H Q I h
 refine isTrue_and (thn (ha pins s σ H Q I h) λc s1 e=>?_)
 cases c with
 | true=>exact isTrue_and_nil e
 | false=>exact e
theorem Dm(ha:PT X a tA):PW X (.BoolOp .Or [a] pos) tA:=by
 intro wh pins s σ H Q I h
 refine isTrue_or (thn (ha pins s σ H Q I h) λc s1 e=>?_)
 cases c with
 | false=>exact isTrue_or_nil e
 | true=>exact e
theorem Fg(ha:PT X a tA)(hb:PW X (.BoolOp .And (b::rest) pos) tB'):PW X (.BoolOp .And (a::b::rest) pos) (KH tA tB'):=by
 intro wh pins s σ H Q I h
 refine isTrue_and (thn (ha pins s σ H _ I h) λc s1 ⟨H1,I1,q1⟩=>?_)
 cases c with
 | true=>exact hb wh pins s1 σ H1 Q I1 q1
 | false=>exact⟨H1,I1,q1⟩
theorem JV(ha:PT X a tA)(hb:PW X (.BoolOp .Or (b::rest) pos) tB'):PW X (.BoolOp .Or (a::b::rest) pos) (tOr tA tB'):=by
 intro wh pins s σ H Q I h
 refine isTrue_or (thn (ha pins s σ H _ I h) λc s1 ⟨H1,I1,q1⟩=>?_)
 cases c with
 | true=>exact⟨H1,I1,q1⟩
 | false=>exact hb wh pins s1 σ H1 Q I1 q1
theorem FA(ha:PT X a tA):PT X (.UnaryOp .Not a pos) (K8 tA):=by
 intro pins s σ H Q I h
 exact isTrue_not (ha pins s σ H (λc H1=>Q (!c) H1) I h)
noncomputable def IL(ta tb:TE):TE:=λσ H Q=>ta σ H λx H1=>∃c,x=.bl c/\if c=true then tb σ H1 Q else Q (.bl false) H1
noncomputable def Lj(ta tb:TE):TE:=λσ H Q=>ta σ H λx H1=>∃c,x=.bl c/\if c=true then Q (.bl true) H1 else tb σ H1 Q
noncomputable def HQ(ta:TE):TE:=λσ H Q=>ta σ H λx H1=>∃c,x=.bl c/\Q (.bl (!c)) H1
theorem Ey{op}{t:TE}(h:PE X a t):PE X (.BoolOp op [a] pos) t:=λpins s σ H Q I hw=>BoolOp_one (h pins s σ H Q I hw)
theorem Gf(ha:PE X a ta)(hb:PE X (.BoolOp .And (b::rest) pos) tb):PE X (.BoolOp .And (a::b::rest) pos) (IL ta tb):=by
 intro pins s σ H Q I h
 refine BoolOp_and (thn (ha pins s σ H _ I h) λv s1 ⟨x,H1,I1,r1,q1⟩=>?_)
 obtain⟨c,rfl,q1⟩:=q1
 cases r1
 refine wpAny_truthy_bool ?_
 cases c with
 | true=>exact hb pins s1 σ H1 Q I1 q1
 | false=>exact⟨.bl false,H1,I1,rfl,q1⟩
theorem HU(ha:PE X a ta)(hb:PE X (.BoolOp .Or (b::rest) pos) tb):PE X (.BoolOp .Or (a::b::rest) pos) (Lj ta tb):=by
 intro pins s σ H Q I h
 refine BoolOp_or (thn (ha pins s σ H _ I h) λv s1 ⟨x,H1,I1,r1,q1⟩=>?_)
 obtain⟨c,rfl,q1⟩:=q1
 cases r1
 refine wpAny_truthy_bool ?_
 cases c with
 | false=>exact hb pins s1 σ H1 Q I1 q1
 | true=>exact⟨.bl true,H1,I1,rfl,q1⟩
theorem Es(ha:PE X a ta):PE X (.UnaryOp .Not a pos) (HQ ta):=by
 intro pins s σ H Q I h
 refine UnaryOp_ (thn (ha pins s σ H _ I h) λv s1 ⟨x,H1,I1,r1,q1⟩=>?_)
 obtain⟨c,rfl,q1⟩:=q1
 cases r1
 exact not_of (wpAny_truthy_bool ⟨.bl (!c),H1,I1,rfl,q1⟩)
noncomputable def tIf(t:TT)(ta tb:TE):TE:=λσ H Q=>t σ H λc H1=>if c=true then ta σ H1 Q else tb σ H1 Q
theorem vy{c:Expr}(hc:PT X c tA)(ha:PE X a ta)(hb:PE X b tb):PE X (.IfExp c a b pos) (tIf tA ta tb):=by
 intro pins s σ H Q I h
 refine wpAny_IfExp (thn (hc pins s σ H _ I h) λd s1 ⟨H1,I1,q1⟩=>?_)
 cases d with
 | true=>exact ha pins s1 σ H1 Q I1 q1
 | false=>exact hb pins s1 σ H1 Q I1 q1
end
end L2
namespace L2
open PySem PySem.Spec PyProof.Rows
noncomputable def SqL(K:LD)(H:Hp)(a:Addr)(xs:List V):Prop :=
 Rd H a (.lst xs) \/
  ∃(o:Obj) (its:Array Value) (n:Nat),K.lookup a=some o/\o.cls=.type "list" /\ o.dict=none/\o.data=.seq its n/\its.size<=sizeLine/\Vals xs its.toList
noncomputable def SqT(K:LD)(H:Hp)(a:Addr)(xs:List V):Prop :=
 Rd H a (.tup xs) \/
  ∃(o:Obj) (its:Array Value) (n:Nat),K.lookup a=some o/\(o.cls=.type "tuple" /\ o.dict=none)/\o.data=.seq its n/\its.size<=sizeLine/\Vals xs its.toList
noncomputable def KO:Value->Option V
 | .none=>some .non
 | .bool b=>some (.bl b)
 | .int i _=>some (.int i)
 | .str x _=>some (.str x)
 | .bytes b _=>some (.byt b)
 | .float b _=>some (.flt b)
 | .ref a=>some (.ref a)
 | .type n=>some (.ty n)
 | _=>none
theorem RelV.abs{x:V}{u:Value}(r:RelV x u):KO u=some x:=by
 cases x with
 | non=>cases r;rfl
 | bl _=>cases r;rfl
 | int _=>obtain⟨t,rfl⟩:=r;rfl
 | str _=>obtain⟨t,rfl⟩:=r;rfl
 | byt _=>obtain⟨t,rfl⟩:=r;rfl
 | flt _=>obtain⟨t,rfl⟩:=r;rfl
 | ref _=>cases r;rfl
 | ty _=>cases r;rfl
theorem RelV.inj{x y:V}{u:Value}(r:RelV x u)(q:RelV y u):x=y:=LY (r.abs.symm.trans q.abs)
theorem Vals.inj:∀{xs ys:List V}{us:List Value},Vals xs us->Vals ys us->xs=ys
 | _,_,_,.nil,.nil=>rfl
 | _,_,_,.cons r t,.cons r' t'=>by rw[r.inj r',Vals.inj t t']
section
variable{X:Cx}{pins:List (Addr×Obj)}{σ:St}{H:Hp}{s:Shared}{a:Addr}{xs ys:List V}
theorem Inv.list(I:Inv X pins σ H s)(h:SqL X.K H a xs):∃its:List Value,Vals xs its/\PlainL s.heap a its.toArray/\xs.length<=sizeLine:=by
 rcases h with h|⟨o,its,n,hk,hc,hd,hs,hz,r⟩
 ·obtain⟨z,its,n,r,e⟩:=h.ok I.hok
  exact⟨its,r,⟨_,n,e,rfl,rfl,rfl⟩,z⟩
 ·refine⟨its.toList,r,⟨o,n,I.kIn a o hk,hc,hd,by simpa using hs⟩,?_⟩
  have e:=r.length
  simp only[ML] at e
  omega
theorem Inv.tuple(I:Inv X pins σ H s)(h:SqT X.K H a xs):∃its:List Value,Vals xs its/\IsTup s.heap a its.toArray/\xs.length<=sizeLine:=by
 rcases h with h|⟨o,its,n,hk,hc,hs,hz,r⟩
 ·obtain⟨z,its,r,p⟩:=h.ok I.hok
  exact⟨its,r,p.t,z⟩
 ·refine⟨its.toList,r,⟨o,I.kIn a o hk,hc.1,n,by simpa using hs⟩,?_⟩
  have e:=r.length
  simp only[ML] at e
  omega
theorem Inv.pG(I:Inv X pins σ H s)(h:SqL X.K H a xs)(h':SqL X.K H a ys):xs=ys:=by
 obtain⟨its,r,⟨o,n,e,_,_,d⟩,_⟩:=I.list h
 obtain⟨its',r',⟨o',n',e',_,_,d'⟩,_⟩:=I.list h'
 rw[e] at e';cases e'
 rw[d] at d'
 injection d' with d1 _
 have:its=its':=by simpa using congrArg Rz d1
 subst this
 exact r.inj r'
theorem Inv.lS(I:Inv X pins σ H s)(h:SqT X.K H a xs)(h':SqT X.K H a ys):xs=ys:=by
 obtain⟨its,r,⟨o,e,_,n,d⟩,_⟩:=I.tuple h
 obtain⟨its',r',⟨o',e',_,n',d'⟩,_⟩:=I.tuple h'
 rw[e] at e';cases e'
 rw[d] at d'
 injection d' with d1 _
 have:its=its':=by simpa using congrArg Rz d1
 subst this
 exact r.inj r'
end
section
variable{X:Cx}{st:Stmt}{rest:List Stmt}{t u:TS}{e:Expr}{te:TE}{pos:Pos}
noncomputable def CI:TS:=λD σ H=>D.nx σ H
noncomputable def Kt(t u:TS):TS:=λD σ H=>t { D with nx:=u D } σ H
theorem Ax:PSs X [] CI:=λ_ _ σ H _ I h=>wpAny_execs_nil ⟨σ,H,I,h⟩
theorem yh(h1:PS X st t)(h2:PSs X rest u):PSs X (st::rest) (Kt t u):=by
 intro pins s σ H D I h
 refine wpAny_execs_cons (thn (h1 pins s σ H { D with nx:=u D } I h) λf s1 q=>?_)
 cases f with
 | next =>
  obtain⟨σ',H',I',q⟩:=q
  exact h2 pins s1 σ' H' D I' q
 | ret v=>exact q
 | brk=>exact q
 | cont=>exact q
theorem AI(h1:PS X st t):PSs X [st] t:=by
 intro pins s σ H D I h
 refine wpAny_execs_cons (thn (h1 pins s σ H D I h) λf s1 q=>?_)
 cases f with
 | next=>exact wpAny_execs_nil q
 | ret v=>exact q
 | brk=>exact q
 | cont=>exact q
noncomputable def GC:TS:=λD σ H=>D.bk σ H
noncomputable def Ik:TS:=λD σ H=>D.ct σ H
theorem Bn:PS X (.Pass pos) CI:=λ_ _ σ H _ I h=>wpAny_Pass ⟨σ,H,I,h⟩
theorem yt:PS X (.Break pos) GC:=λ_ _ σ H _ I h=>wpAny_Break ⟨σ,H,I,h⟩
theorem pd:PS X (.Continue pos) Ik:=λ_ _ σ H _ I h=>wpAny_Continue ⟨σ,H,I,h⟩
theorem Inv.quiet{pins:List (Addr×Obj)}{σ:St}{H:Hp}{s:Shared}(I:Inv X pins σ H s):interactive X.env=false:=by simp[interactive,I.ok.kind]
noncomputable def Jl(te:TE):TS:=λD σ H=>te σ H λ_ H1=>D.nx σ H1
theorem z9(he:PE X e te)(hs:swapsWith e none pos.line X.env=pure false:=by rfl):PS X (.Expr e pos) (Jl te):=by
 intro pins s σ H D I h
 exact wpAny_Expr_any (thn (he pins s σ H _ I h) λv s1 ⟨x,H1,I1,r1,q1⟩=>⟨σ,H1,I1,q1⟩) I.quiet hs
noncomputable def KD(te:TE):TS:=λD σ H=>te σ H D.rt
theorem Ff(he:PE X e te):PS X (.Return (some e) pos) (KD te):=by
 intro pins s σ H D I h
 exact wpAny_Return_some (thn (he pins s σ H _ I h) λv s1 ⟨x,H1,I1,r1,q1⟩=>⟨x,σ,H1,I1,r1,q1⟩)
noncomputable def JB:TS:=λD _ H=>D.rt .non H
theorem zV:PS X (.Return none pos) JB:=λ_ _ σ H _ I h=>wpAny_Return_none ⟨.non,σ,H,I,rfl,h⟩
noncomputable def KC(c:TT)(t u:TS):TS:=λD σ H=>c σ H λb H1=>if b=true then t D σ H1 else u D σ H1
theorem II{c:Expr}{a b:List Stmt}{tc:TT}(hc:PT X c tc)(ha:PSs X a t)(hb:PSs X b u):PS X (.If c a b pos) (KC tc t u):=by
 intro pins s σ H D I h
 refine wpAny_If (thn (hc pins s σ H _ I h) λd s1 ⟨H1,I1,q1⟩=>?_)
 cases d with
 | true=>exact ha pins s1 σ H1 D I1 q1
 | false=>exact hb pins s1 σ H1 D I1 q1
end
noncomputable abbrev TG:=V->St->Hp->(St->Hp->Prop)->Prop
noncomputable abbrev TGs:=List V->St->Hp->(St->Hp->Prop)->Prop
noncomputable def PG(X:Cx)(target:Expr)(t:TG):Prop :=
 ∀(pins:List (Addr×Obj))(s:Shared)(σ:St)(H:Hp)(v:V)(u:Value)(Q:St->Hp->Prop),Inv X pins σ H s->RelV v u->t v σ H Q ->
  wpAny (model X.prog X.w) X.A (assign target X.env u) (λ_ s'=>∃σ' H',Inv X pins σ' H' s'/\Q σ' H') X.xe s
noncomputable def PGs(X:Cx)(ts:List Expr)(t:TGs):Prop :=
 ∀(pins:List (Addr×Obj))(s:Shared)(σ:St)(H:Hp)(vs:List V)(us:List Value)(Q:St->Hp->Prop),Inv X pins σ H s->Vals vs us->t vs σ H Q ->
  wpAny (model X.prog X.w) X.A (assignInOrder ((assignEach ts X.env).map (·.2)) us) (λ_ s'=>∃σ' H',Inv X pins σ' H' s'/\Q σ' H') X.xe s
noncomputable abbrev Fx:=V->V->V->Hp->(Hp->Prop)->Prop
noncomputable def Kb(X:Cx)(t:Fx):Prop :=
 ∀(pins:List (Addr×Obj))(s:Shared)(σ:St)(H:Hp)(o i v:V)(ov iv u:Value)(Q:Hp->Prop),Inv X pins σ H s->RelV o ov->RelV i iv->RelV v u->t o i v H Q ->
  wpAny (model X.prog X.w) X.A (setItem ov iv u) (λ_ s'=>∃H',Inv X pins σ H' s'/\Q H') X.xe s
section
variable{X:Cx}{pos:Pos}
noncomputable def wa(i:Nat):TG:=λv σ H Q=>Q (σ.set i (some v)) H
theorem zX{i:Nat}{x:Str}(hN:X.N.Nodup)(hi:X.N[i]?=some x)(hx:Loc X.env.scope x)(hf:X.fn x=true\/X.env.scope.names.lookup x=some .local:=by first|exact .inl rfl|exact .inr rfl|assumption):PG X (.Name x pos) (wa i):=by
 intro pins s σ H v u Q I r h
 exact wpAny_assign_Name (ig I hN hi hx r (λs' I'=>⟨_,H,I',h⟩) hf)
noncomputable def Lh:TGs:=λvs σ H Q=>vs=[]/\Q σ H
noncomputable def B7(t:TG)(u:TGs):TGs:=λvs σ H Q=>∃v r,vs=v::r/\t v σ H λσ' H'=>u r σ' H' Q
theorem zx:PGs X [] Lh:=by
 intro pins s σ H vs us Q I r h
 obtain⟨e,h⟩:=h
 subst e
 cases r
 exact assignInOrder_nil ⟨σ,H,I,h⟩
theorem wF{e:Expr}{es:List Expr}{t:TG}{u:TGs}(h1:PG X e t)(h2:PGs X es u)
  (hs:(assignEach (e::es) X.env).map (·.2)=assign e X.env::(assignEach es X.env).map (·.2):=by rfl):PGs X (e::es) (B7 t u):=by
 intro pins s σ H vs us Q I r h
 obtain⟨v,vr,e1,h⟩:=h
 subst e1
 cases r with
 | cons r rr =>
  rw[hs]
  refine assignInOrder_cons (thn (h1 pins s σ H _ _ _ I r h) λ_ s1 ⟨σ1,H1,I1,q1⟩=>?_)
  exact h2 pins s1 σ1 H1 _ _ Q I1 rr q1
noncomputable def K7(K:LD)(n:Nat)(t:TGs):TG:=λv σ H Q=>∃a xs,v=.ref a/\SqT K H a xs/\xs.length=n/\t xs σ H Q
theorem D4{es:List Expr}{k:Nat}{t:TGs}{n:Nat}(hc:X.calm=true)(h:PGs X es t)
  (hn:(assignEach es X.env).length=n:=by rfl)(hst:(assignEach es X.env).findIdx? (·.1)=none:=by rfl):PG X (.Tuple es k pos) (K7 X.K n t):=by
 intro pins s σ H v u Q I r hw
 obtain⟨a,xs,e1,hq,hl,hw⟩:=hw
 subst e1
 cases r
 obtain⟨its,rv,ht,hz⟩:=I.tuple hq
 refine assign_Tuple_tuple (I.ok.hd hc) ht (by simp[hn,<- hl,rv.length]) hst λh' hx=>?_
 have I1:Inv X pins σ H { s with heap:=h' }:=I.kept (t':=s.toks) λb o e=>hx b o (Md (LV e)) e
 exact h pins _ σ H xs _ Q I1 (by simpa using rv) hw
noncomputable def GX(to ti:TE)(t:Fx):TG:=λv σ H Q=>to σ H λo H1=>ti σ H1 λi H2=>t o i v H2 λH3=>Q σ H3
theorem DZ{o i:Expr}{to ti:TE}{t:Fx}(ho:PE X o to)(hi:PE X i ti)(hs:Kb X t)
  (ha:∀v,assign (.Subscript o i pos) X.env v=(do
   let ov <- holding [v] (eval o X.env)
   let iv <- holding [v,ov] (eval i X.env)
   standAt pos
   holding [v,ov,iv] (setItem ov iv v)
   release [v,ov,iv] []):=by intro _;rfl):PG X (.Subscript o i pos) (GX to ti t):=by
 intro pins s σ H v u Q I r h
 rw[ha]
 refine wpAny_bind (wpAny_holding (thn (ho pins s σ H _ I h) λov s1 ⟨x,H1,I1,r1,q1⟩=>?_))
 refine wpAny_bind (wpAny_holding (thn (hi pins s1 σ H1 _ I1 q1) λiv s2 ⟨y,H2,I2,r2,q2⟩=>?_))
 refine wpAny_bind (wpAny_standAt (wpAny_bind (wpAny_holding (thn (hs pins s2 σ H2 x y v ov iv u _ I2 r1 r2 r q2) λ_ s3 ⟨H3,I3,q3⟩=>?_))))
 exact wpAny_release ⟨σ,H3,I3,q3⟩
noncomputable def yf(te:TE)(g:TG):TS:=λD σ H=>te σ H λx H1=>g x σ H1 D.nx
theorem wR{tg e:Expr}{te:TE}{g:TG}(he:PE X e te)(hg:PG X tg g)(hs:swapsWithSole [tg] e pos.line X.env=pure false:=by rfl)(hw:swappedStores [tg] e X.env=pure none:=by rfl)
  (h1:(assignEach [tg] X.env).map (·.2)=[assign tg X.env]:=by rfl):PS X (.Assign [tg] e pos) (yf te g):=by
 intro pins s σ H D I h
 refine wpAny_Assign_stores (thn (he pins s σ H _ I h) λv s1 ⟨x,H1,I1,r1,q1⟩=>?_) hs hw
 rw[h1]
 exact thn (hg pins s1 σ H1 x v _ I1 r1 q1) λ_ s2 q=>q
theorem E0{i:Nat}{x:Str}{e:Expr}{te:TE}{pos':Pos}(hN:X.N.Nodup)(hi:X.N[i]?=some x)(hx:Loc X.env.scope x)(he:PE X e te)(hs:swapsWith e (some (.Name x pos')) pos.line X.env=pure false:=by rfl)(hf:X.fn x=true\/X.env.scope.names.lookup x=some .local:=by first|exact .inl rfl|exact .inr rfl|assumption) :
  PS X (.Assign [.Name x pos'] e pos) (yf te (wa i)):=by
 intro pins s σ H D I h
 refine wpAny_Assign_Name (thn (he pins s σ H _ I h) λv s1 ⟨y,H1,I1,r1,q1⟩=>?_) hs
 exact ig I1 hN hi hx r1 (λs2 I2=>⟨_,H1,I2,q1⟩) hf
noncomputable def Hk(i j:Nat)(ta:TA):TS:=λD σ H=>ta σ H λvs H1=>∃v w,vs=[v,w]/\D.nx ((σ.set i (some v)).set j (some w)) H1
theorem Ed{i j:Nat}{x y:Str}{a b:Expr}{ta:TA}{px py pt:Pos}{kt k2 pt2}(hc:X.calm=true)(hN:X.N.Nodup)(hi:X.N[i]?=some x)(hj:X.N[j]?=some y)(hij:i≠j)
  (hx:X.env.scope.names.lookup x=some .local)(hy:X.env.scope.names.lookup y=some .local)(ha:PA X [a,b] ta)
  (hw:swappedStores [.Tuple [.Name x px,.Name y py] kt pt] (.Tuple [a,b] k2 pt2) X.env=pure (some [x,y]))
  (hs:swapsWithSole [.Tuple [.Name x px,.Name y py] kt pt] (.Tuple [a,b] k2 pt2) pos.line X.env=pure false:=by rfl) :
  PS X (.Assign [.Tuple [.Name x px,.Name y py] kt pt] (.Tuple [a,b] k2 pt2) pos) (Hk i j ta):=by
 intro pins s σ H D I h
 rw[exec_Assign_arm]
 refine wpAny_bind (wpAny_standAt ?_)
 rw[hs]
 refine wpAny_bind (wpAny_pure ?_)
 rw[if_neg (by decide)]
 refine wpAny_bind (Tuple_ (thn (ha _ pins s σ H _ I h) λus s1 ⟨vs,H1,I1,r1,q1⟩=>?_))
 obtain⟨v,w,e1,q1⟩:=q1
 subst e1
 obtain⟨u1,u2,rfl,rv,rw'⟩:∃u1 u2,us=[u1,u2]/\RelV v u1/\RelV w u2:=by
  cases r1 with
  | cons p q =>
   cases q with
   | cons p' q' =>
    cases q'
    exact⟨_,_,rfl,p,p'⟩
 refine wpAny_newObj_type ?_ (by show 2<=sizeLine;decide)
 have I2:Inv X pins σ H1 { s1 with heap:=s1.heap.push { cls:=.type "tuple",data:=.seq [u1,u2].toArray } }:=I1.kept (t':=s1.toks) λb o e=>LK _ e
 rw[hw]
 refine wpAny_bind (wpAny_pure ?_)
 show wpAny (model X.prog X.w) X.A (do rule "assign.swapped-stores";let items <- unpackItems (.ref s1.heap.objs.size) 2 none;assignInOrder [λv=>bindName X.env y v,λv=>bindName X.env x v] items.reverse;pure SF) _ _ _
 refine wpAny_bind (wpAny_rule (wpAny_bind (unpackItems_tuple (items:=#[u1,u2]) (I.ok.hd hc) (IsTup.new s1.heap _) λh' hx'=>?_)))
 have I3:=I2.kept (h':=h') (t':=s1.toks) λb o e=>hx' b o (Md (LV e)) e
 show wpAny _ _ (assignInOrder [λv=>bindName X.env y v,λv=>bindName X.env x v] [u2,u1] >>= λ_=>pure SF) _ _ _
 refine wpAny_bind (assignInOrder_cons (wpAny_bindName (ig I3 hN hj (.inl hy) rw' (fun s2 I4=>?_) (.inr hy))))
 refine assignInOrder_cons (wpAny_bindName (ig I4 hN hi (.inl hx) rv (fun s3 I5=>assignInOrder_nil (wpAny_pure ?_)) (.inr hx)))
 rw [List.set_comm _ _ (Nd hij)] at I5
 exact ⟨_,H1,I5,q1⟩
end
section
variable {X:Cx} {pos:Pos}
noncomputable def EY (c:TT) (tb:TS):TS:=fun D σ H=>∃ W:Nat → St → Hp → Prop,(∃ m,W m σ H) ∧ ∀ m σ H,W m σ H →
 c σ H fun b H1=>if b = true then ∃ N:St → Hp → Prop,(∀ σ' H',N σ' H' → ∃ m',m' < m ∧ W m' σ' H') ∧ tb { D with nx:=N,ct:=N,bk:=D.nx } σ H1 else D.nx σ H1
theorem u6 {c:Expr} {body:List Stmt} {tc:TT} {tb:TS} (hp:PassesOwn (model X.prog X.w) X.A X.env X.xe) (hc:PT X c tc) (hb:PSs X body tb):PS X (.While c body [] pos) (EY tc tb):=by
 intro pins s σ H D I h
 obtain ⟨W,⟨m0,w0⟩,turn⟩:=h
 refine wpAny_While (codeAny_whileLoop (λn s'=>∃σ' H',Inv X pins σ' H' s'/\W n σ' H') ?_ m0 ⟨σ,H,I,w0⟩)
 rintro n s1 ⟨σ1,H1,I1,w1⟩
 refine wpAny_passesOwn hp (thn (hc pins s1 σ1 H1 _ I1 (turn n σ1 H1 w1)) λb s2 ⟨H2,I2,q2⟩=>?_)
 cases b with
 | true =>
  obtain⟨N,hN,q2⟩:=q2
  rw[if_pos rfl]
  refine wpAny_passesOwn hp (thn (hb pins s2 σ1 H2 _ I2 q2) λf s3 q3=>?_)
  cases f with
  | next =>
   obtain⟨σ3,H3,I3,n3⟩:=q3
   obtain⟨m',hm,w3⟩:=hN σ3 H3 n3
   exact⟨m',hm,σ3,H3,I3,w3⟩
  | cont =>
   obtain⟨σ3,H3,I3,n3⟩:=q3
   obtain⟨m',hm,w3⟩:=hN σ3 H3 n3
   exact⟨m',hm,σ3,H3,I3,w3⟩
  | brk=>exact q3
  | ret v=>exact q3
 | false =>
  rw[if_neg Mz]
  exact wpAny_execs_nil ⟨σ1,H2,I2,q2⟩
end
structure It where
 go:Nat->Hp->Prop
 yld:Nat->Hp->V->Hp->Prop
 stop:Nat->Hp->Prop
noncomputable def kf(X:Cx)(pins:List (Addr×Obj))(H:Hp)(b:Addr):Prop :=
 H b=none/\b≠X.env.locals/\b∉X.fs/\(b∈X.ex\/X.s₀.heap.objs.size<=b)/\(∀x c,X.env.cells.lookup x=some c->c≠b)/\∀p∈X.pn++pins,p.1≠b
theorem Inv.vI{X:Cx}{pins:List (Addr×Obj)}{σ:St}{H H':Hp}{s:Shared}{b:Addr}(I:Inv X pins σ H s)(hb:s.heap.objs.size<=b)(hn:H' b=none):kf X pins H' b:=by
 refine⟨hn,Pp (LP I.lt hb),I.F2 hb,.inr (Mf I.sz hb),λx c e z=>?_,λp hp z=>?_⟩
 ·obtain⟨v,q⟩:=I.cell x c e
  exact absurd (LP q.lt (by rw[z];exact hb)) (MG _)
 ·exact absurd (LP (LV (I.pin p hp).1) (by rw[z];exact hb)) (MG _)
structure Turn (P:Program) (w:World) (K:LD) (tg:Expr) (J:It) (fp:List Addr) (it:Addr) (tn:Nat->Heap->Prop):Prop where
 mem:it∈fp
 obj:∀i h,tn i h->∀b∈fp,∃o,h.get? b=some o/\∀v,o.data≠.cell v
 keep:∀i h h',tn i h->(∀b∈fp,∀o,h.get? b=some o->h'.get? b=some o)->tn i h'
 item:∀(X:Cx),X.prog=P->X.w=w->X.K=K->X.calm=true->∀(i:Nat)(pins:List (Addr×Obj))(s:Shared)(σ:St)(H:Hp)(E:Value->Shared->Prop),Inv X pins σ H s->(∀b∈fp,kf X pins H b)->tn i s.heap->J.go i H ->
  wpAny (model P w) X.A (pyNext (.ref it)) (λr s1=>∃u,r=some u /\
   wpAny (model P w) X.A (letOwnedTupleGo tg (.ref it) u) (λ_ s2=>∃x H',Inv X pins σ H' s2/\RelV x u/\J.yld i H x H'/\tn (i+1) s2.heap/\∀b∈fp,H' b=none) E s1) E s
 done:∀(X:Cx),X.prog=P->X.w=w->X.K=K->X.calm=true->∀(i:Nat)(pins:List (Addr×Obj))(s:Shared)(σ:St)(H:Hp)(E:Value->Shared->Prop),Inv X pins σ H s->(∀b∈fp,kf X pins H b)->tn i s.heap->J.stop i H ->
  wpAny (model P w) X.A (pyNext (.ref it)) (λr s1=>r=none/\Inv X pins σ H s1) E s
 self:∀(A:Around)(i:Nat)(s:Shared)(Q:Value->Shared->Prop)(E:Value->Shared->Prop),tn i s.heap->Q (.ref it) s->wpAny (model P w) A (pyIter (.ref it)) Q E s
noncomputable abbrev TI:=St->Hp->(It->Hp->Prop)->Prop
noncomputable def PIE(X:Cx)(pins:List (Addr×Obj))(σ:St)(tg:Expr)(R:It->Hp->Prop)(itv:Value)(s2:Shared):Prop :=
 ∃(it:Addr) (fp:List Addr) (tn:Nat->Heap->Prop) (J:It) (H':Hp),itv=.ref it/\Inv X pins σ H' s2/\Turn X.prog X.w X.K tg J fp it tn/\tn 0 s2.heap/\(∀b∈fp,kf X pins H' b)/\R J H'
noncomputable def PI(X:Cx)(tg iter:Expr)(wi:TI):Prop :=
 ∀(pins:List (Addr×Obj))(s:Shared)(σ:St)(H:Hp)(R:It->Hp->Prop),Inv X pins σ H s->wi σ H R ->
  wpAny (model X.prog X.w) X.A (eval iter X.env) (λv s1=>wpAny (model X.prog X.w) X.A (pyIter v) (PIE X pins σ tg R) X.xe s1) X.xe s
theorem pK{M:Model}{A:Around}{E:Value->Shared->Prop}{s:Shared}{tg:Expr}{it:Addr}{u:Value}{o:Obj}{n:String}{vs:Array Value}{Q:Unit->Shared->Prop}(ho:s.heap.get? it=some o)(hc:o.cls=.type n)(hd:o.data=.fields vs)
    (hn:["enumerate", "zip", "dict_itemiterator", "dict_reverseitemiterator", "odict_iterator", "itertools.zip_longest", "itertools.pairwise"].contains n=false)(hQ:Q () s):wpAny M A (letOwnedTupleGo tg (.ref it) u) Q E s:=by
  unfold letOwnedTupleGo
  cases tg<;>first
    | exact wpAny_pure hQ
    | (cases u<;>first
        | exact wpAny_pure hQ
        | (refine wpAny_bind (wpAny_load ho ?_)
           rw[hc,hd]
           show wpAny M A (if (["enumerate", "zip", "dict_itemiterator", "dict_reverseitemiterator", "odict_iterator", "itertools.zip_longest", "itertools.pairwise"].contains n&&vs[0]?==some (rawInt _))=true then _ else _) Q E s
           rw[if_neg (by intro h;rw[hn,PV] at h;cases h)]
           exact wpAny_pure hQ))
noncomputable def Itl(K:LD)(a:Addr):It :=
 ⟨λi H=>∃xs x,SqL K H a xs/\xs[i]?=some x,λi H x H'=>H'=H/\∀xs,SqL K H a xs->xs[i]?=some x,λi H=>∃xs,SqL K H a xs/\xs.length<=i⟩
noncomputable def Itt(K:LD)(a:Addr):It :=
 ⟨λi H=>∃xs x,SqT K H a xs/\xs[i]?=some x,λi H x H'=>H'=H/\∀xs,SqT K H a xs->xs[i]?=some x,λi H=>∃xs,SqT K H a xs/\xs.length<=i⟩
noncomputable def Itr(lo:Int)(n:Nat):It:=⟨λi _=>i<n,λi H x H'=>H'=H/\x=.int (lo+i),λi _=>n<=i⟩
theorem md{P:Program}{w:World}{K:LD}{tg:Expr}(a it:Addr):Turn P w K tg (Itl K a) [it] it (λi h=>h.IsListIter it a i) where
 mem:=by simp
 obj:=λi h st b hb=>by
  have e:b=it:=by simpa using hb
  subst e
  obtain⟨o,e,c,d⟩:=st
  exact⟨o,e,λv z=>by rw[d] at z;cases z⟩
 keep:=λi h h' st k=>st.at λo e=>k it (by simp) o e
 item:=by
  intro X hP hw hK hc i pins s σ H E I hf st hg
  subst hP hw hK
  obtain⟨xs,x,hq,hx⟩:=hg
  obtain⟨its,rv,p,hz⟩:=I.list hq
  obtain⟨u,hu,ru⟩:=rv.get hx
  obtain⟨f0,f1,f2,f3,f4,f5⟩:=hf it (by simp)
  refine wpAny_pyNext_list_item st p.isList (x:=u) (by simpa using hu) λh' st' sb=>?_
  have I1:Inv X pins σ H { s with heap:=h' }:=I.turned (t':=s.toks) (λb o hb e=>(sb.2 b hb).trans e) f0 f1 f3 f4 f5
  obtain⟨o,e,c,d⟩:=id st'
  exact⟨u,rfl,pK (s:={ s with heap:=h' }) e c d (by decide) ⟨x,H,I1,ru,⟨rfl,λys hy=>by rw[I.pG hy hq];exact hx⟩,st',λb hb=>(hf b hb).1⟩⟩
 done:=by
  intro X hP hw hK hc i pins s σ H E I hf st hg
  subst hP hw hK
  obtain⟨xs,hq,hx⟩:=hg
  obtain⟨its,rv,p,hz⟩:=I.list hq
  obtain⟨f0,f1,f2,f3,f4,f5⟩:=hf it (by simp)
  have hl:=rv.length
  exact wpAny_pyNext_list_end (I.ok.hd hc) st p.isList (by simp;omega) λh' eb=>⟨rfl,I.turned (t':=s.toks) (λb o hb e=>eb b o hb e) f0 f1 f3 f4 f5⟩
 self:=λ_ _ _ _ _ st h=>wpAny_pyIter_listiter st h
theorem qm{P:Program}{w:World}{K:LD}{tg:Expr}(a it:Addr):Turn P w K tg (Itt K a) [it] it (λi h=>h.IsTupleIter it a i) where
 mem:=by simp
 obj:=λi h st b hb=>by
  have e:b=it:=by simpa using hb
  subst e
  obtain⟨o,e,c,d⟩:=st
  exact⟨o,e,λv z=>by rw[d] at z;cases z⟩
 keep:=λi h h' st k=>st.at λo e=>k it (by simp) o e
 item:=by
  intro X hP hw hK hc i pins s σ H E I hf st hg
  subst hP hw hK
  obtain⟨xs,x,hq,hx⟩:=hg
  obtain⟨its,rv,p,hz⟩:=I.tuple hq
  obtain⟨u,hu,ru⟩:=rv.get hx
  obtain⟨f0,f1,f2,f3,f4,f5⟩:=hf it (by simp)
  refine wpAny_pyNext_tuple_item st (show s.heap.IsTuple a its.toArray from p) (x:=u) (by simpa using hu) λh' st' sb=>?_
  have I1:Inv X pins σ H { s with heap:=h' }:=I.turned (t':=s.toks) (λb o hb e=>(sb.2 b hb).trans e) f0 f1 f3 f4 f5
  obtain⟨o,e,c,d⟩:=id st'
  exact⟨u,rfl,pK (s:={ s with heap:=h' }) e c d (by decide) ⟨x,H,I1,ru,⟨rfl,λys hy=>by rw[I.lS hy hq];exact hx⟩,st',λb hb=>(hf b hb).1⟩⟩
 done:=by
  intro X hP hw hK hc i pins s σ H E I hf st hg
  subst hP hw hK
  obtain⟨xs,hq,hx⟩:=hg
  obtain⟨its,rv,p,hz⟩:=I.tuple hq
  obtain⟨f0,f1,f2,f3,f4,f5⟩:=hf it (by simp)
  have hl:=rv.length
  exact wpAny_pyNext_tuple_end (I.ok.hd hc) st (show s.heap.IsTuple a its.toArray from p) (by simp;omega) λh' eb=>⟨rfl,I.turned (t':=s.toks) (λb o hb e=>eb b o hb e) f0 f1 f3 f4 f5⟩
 self:=λ_ _ _ _ _ st h=>wpAny_pyIter_tupleiter st h
theorem rj{P:Program}{w:World}{K:LD}{tg:Expr}(it:Addr)(lo:Int)(n:Nat):Turn P w K tg (Itr lo n) [it] it (λi h=>IsRangeIter h it (lo+(i:Nat)*1) ((n:Int)-(i:Nat)) 1) where
 mem:=by simp
 obj:=λi h st b hb=>by
  have e:b=it:=by simpa using hb
  subst e
  exact⟨_,st,λv z=>by
   have z':Data.fields _=Data.cell v:=z
   cases z'⟩
 keep:=λi h h' st k=>k it (by simp) _ st
 item:=by
  intro X hP hw hK hc i pins s σ H E I hf st hg
  subst hP hw hK
  obtain⟨f0,f1,f2,f3,f4,f5⟩:=hf it (by simp)
  have W:=Walks.range (prog:=X.prog) (w:=X.w) (I.ok.hd hc) it lo 1 n
  refine W.item i s _ _ hg st λv h' tk hv st' kk=>?_
  obtain⟨t,rfl⟩:=hv
  have I1:Inv X pins σ H { s with heap:=h',toks:=tk }:=I.turned (λb o hb e=>kk b o (by simpa using hb) e) f0 f1 f3 f4 f5
  refine⟨_,rfl,pK (s:={ s with heap:=h',toks:=tk }) (n := "range_iterator") st' rfl rfl (by decide) ⟨.int (lo+i),H,I1,⟨t,?_⟩,⟨rfl,rfl⟩,st',λb hb=>(hf b hb).1⟩⟩
  rw[RZ]
 done:=by
  intro X hP hw hK hc i pins s σ H E I hf st hg
  subst hP hw hK
  obtain⟨f0,f1,f2,f3,f4,f5⟩:=hf it (by simp)
  exact wpAny_pyNext_range_end (I.ok.hd hc) st (by have:n<=i:=hg;omega) λh' eb=>⟨rfl,I.turned (t':=s.toks) (λb o hb e=>eb b o hb e) f0 f1 f3 f4 f5⟩
 self:=λ_ _ _ _ _ st h=>wpAny_pyIter_rangeiter st h
end L2
namespace L2
open PySem PySem.Spec PyProof.Rows
section
variable{X:Cx}{tg:Expr}
noncomputable def BZ(K:LD)(tl:TE):TI:=λσ H R=>tl σ H λx H1=>∃a,x=.ref a/\(∃xs,SqL K H1 a xs)/\R (Itl K a) H1
theorem An{l:Expr}{tl:TE}(hl:PE X l tl):PI X tg l (BZ X.K tl):=by
 intro pins s σ H R I h
 refine thn (hl pins s σ H _ I h) λv s1 ⟨x,H1,I1,r1,q1⟩=>?_
 obtain⟨a,e,⟨xs,hq⟩,q⟩:=q1
 subst e
 cases r1
 obtain⟨its,rv,p,hz⟩:=I1.list hq
 refine wpAny_pyIter_list p.isList ?_
 refine⟨s1.heap.objs.size,[s1.heap.objs.size],_,_,H1,rfl,I1.kept (t':=s1.toks) λb o e=>LK _ e,md a _,⟨_,L9 _ rfl,rfl,rfl⟩,λb hb=>?_,q⟩
 have e:b=s1.heap.objs.size:=by simpa using hb
 subst e
 exact I1.vI (LU _) (I1.hok.fresh (LU _))
theorem pj{pins:List (Addr×Obj)}{σ:St}{H:Hp}{s:Shared}{R:It->Hp->Prop}{E:Value->Shared->Prop}{lo hi:Int}{t u v:Tok}{tk:Nat}(I:Inv X pins σ H s)(h1:-(2^62)<=lo)(h2:lo<2^62)(h3:-(2^62)<=hi)(h4:hi<2^62)
  (q:R (Itr lo (hi-lo).toNat) H):wpAny (model X.prog X.w) X.A (pyIter (.ref s.heap.objs.size)) (PIE X pins σ tg R) E { s with heap:=s.heap.push { cls:=.type "range",data:=.fields #[.int lo t,.int hi u,.int 1 v] },toks:=tk }:=by
 refine wpAny_pyIter_range (IsRange.new ..) (small_one h1 h2 h3 h4) ?_
 have I1:Inv X pins σ H { s with heap:=s.heap.push { cls:=.type "range",data:=.fields #[.int lo t,.int hi u,.int 1 v] },toks:=tk }:=I.kept λb o e=>LK _ e
 refine⟨(s.heap.push { cls:=.type "range",data:=.fields #[.int lo t,.int hi u,.int 1 v] }).objs.size,[(s.heap.push { cls:=.type "range",data:=.fields #[.int lo t,.int hi u,.int 1 v] }).objs.size],_,_,H,rfl,
  I1.kept (t':=tk) λb o e=>LK _ e,rj _ lo (hi-lo).toNat,?_,λb hb=>?_,q⟩
 ·have e1:lo+((0:Nat):Int)*1=lo:=by simp
  have e2:(((hi-lo).toNat:Nat):Int)-((0:Nat):Int)=RK lo hi 1:=by rw[rangeSize_one];split<;>omega
  show IsRangeIter _ _ (lo+((0:Nat):Int)*1) ((((hi-lo).toNat:Nat):Int)-((0:Nat):Int)) 1
  rw[e1,e2]
  exact L9 _ rfl
 ·have e:b=(s.heap.push { cls:=.type "range",data:=.fields #[.int lo t,.int hi u,.int 1 v] }).objs.size:=by simpa using hb
  subst e
  exact I1.vI (LU _) (I1.hok.fresh (LU _))
noncomputable def Ja(ta:TA):TI:=λσ H R=>ta σ H λvs H1=>∃j:Int,vs=[.int j] /\ -(2^62)<=j/\j<2^62/\R (Itr 0 j.toNat) H1
noncomputable def Jw(ta:TA):TI:=λσ H R=>ta σ H λvs H1=>∃i j:Int,vs=[.int i,.int j]/\(-(2^62)<=i/\i<2^62 /\ -(2^62)<=j/\j<2^62)/\R (Itr i (j-i).toNat) H1
theorem uE{a:Expr}{ta:TA}{p pos:Pos}(hg:Gl X "range")(hm:X.mg "range" = none)(ha:PA X [a] ta)(hs:starEach [a] X.env=[(false,eval a X.env)]:=by rfl):PI X tg (.Call (.Name "range" p) [a] [] pos) (Ja ta):=by
 intro pins s σ H R I h
 refine Call_ (hV I hg hm boot_range (MY (thn (ha pos pins s σ H _ I h) λus s1 ⟨vs,H1,I1,r1,q1⟩=>?_) hs rfl))
 obtain⟨j,e,q1,q2,q⟩:=q1
 subst e
 cases r1 with
 | cons r rr =>
  cases rr
  obtain⟨t,rfl⟩:=r
  exact call_range_1 (pj I1 (by omega) (by omega) q1 q2 (by simpa using q))
theorem uj{a b:Expr}{ta:TA}{p pos:Pos}(hg:Gl X "range")(hm:X.mg "range" = none)(ha:PA X [a,b] ta)(hs:starEach [a,b] X.env=[(false,eval a X.env),(false,eval b X.env)]:=by rfl)(hs2:starEach [b] X.env=[(false,eval b X.env)]:=by rfl) :
  PI X tg (.Call (.Name "range" p) [a,b] [] pos) (Jw ta):=by
 intro pins s σ H R I h
 refine Call_ (hV I hg hm boot_range (MY (thn (ha pos pins s σ H _ I h) λus s1 ⟨vs,H1,I1,r1,q1⟩=>?_) (by rw[hs,hs2]) (by rw[hs2];rfl)))
 obtain⟨i,j,e,⟨q1,q2,q3,q4⟩,q⟩:=q1
 subst e
 cases r1 with
 | cons r rr =>
  cases rr with
  | cons r' rr =>
   cases rr
   obtain⟨t,rfl⟩:=r
   obtain⟨t',rfl⟩:=r'
   exact call_range_2 (pj I1 q1 q2 q3 q4 q)
noncomputable def Lz(wi:TI)(g:TG)(tb:TS):TS:=λD σ H=>wi σ H λJ H1=>∃W:Nat->Nat->St->Hp->Prop,(∃m,W 0 m σ H1)/\∀i m σ H,W i m σ H ->
 (J.stop i H/\D.nx σ H)\/(J.go i H/\∃N:St->Hp->Prop,(∀σ' H',N σ' H'->∃m',m'<m/\W (i+1) m' σ' H')/\∀x H',J.yld i H x H'->g x σ H' λσ2 H2=>tb { D with nx:=N,ct:=N,bk:=D.nx } σ2 H2)
noncomputable def kG(fp:List Addr)(h:Heap):List (Addr×Obj):=fp.filterMap λb=>(h.get? b).map λo=>(b,o)
theorem eW{fp:List Addr}{h:Heap}{b:Addr}{o:Obj}(hb:b∈fp)(e:h.get? b=some o):(b,o)∈kG fp h:=N5.mpr ⟨b,hb,by rw[e];rfl⟩
theorem uP{fp:List Addr}{h:Heap}{p:Addr×Obj}(hp:p∈kG fp h):p.1∈fp/\h.get? p.1=some p.2:=by
 obtain⟨b,hb,e⟩:=N5.mp hp
 cases q:h.get? b with
 | none=>rw[q] at e;cases e
 | some o =>
  rw[q] at e
  have e':(b,o)=p:=LY e
  subst e'
  exact⟨hb,q⟩
theorem Inv.pinned{pins:List (Addr×Obj)}{σ:St}{H:Hp}{s:Shared}{fp:List Addr}(I:Inv X pins σ H s)(hf:∀b∈fp,kf X pins H b)(ho:∀b∈fp,∃o,s.heap.get? b=some o/\∀v,o.data≠.cell v):Inv X (pins++kG fp s.heap) σ H s :=
 I.n6 λp hp=>(LS.mp hp).elim (λz=>I.pin p (LN _ z)) λz=>by
  obtain⟨hb,e⟩:=uP z
  obtain⟨f0,f1,f2,_⟩:=hf p.1 hb
  obtain⟨o,e',d⟩:=ho p.1 hb
  rw[e] at e';cases e'
  exact⟨e,f0,f1,f2,d⟩
theorem Inv.c0{pins pl:List (Addr×Obj)}{σ:St}{H:Hp}{s:Shared}(I:Inv X (pins++pl) σ H s):Inv X pins σ H s:=I.n6 λp hp=>I.pin p (LN _ (Mb _ hp))
theorem FG{iter:Expr}{body:List Stmt}{wi:TI}{g:TG}{tb:TS}{pos:Pos}(hp:PassesOwn (model X.prog X.w) X.A X.env X.xe)(hc:X.calm=true)(hi:PI X tg iter wi)(hg:PG X tg g)(hb:PSs X body tb)
  (hs:∀x,foldedSetIterable iter X.env x=pure x:=by intro _;rfl):PS X (.For tg iter body [] pos) (Lz wi g tb):=by
 intro pins s σ H D I h
 refine wpAny_For (thn (hi pins s σ H _ I h) λv s1 h1=>thn h1 λitv s2 h2=>?_) hs
 obtain⟨it,fp,tn,J,H2,e,I2,T,st2,f2,W,⟨m0,w0⟩,turn⟩:=h2
 subst e
 have stat:∀{H':Hp},(∀b∈fp,H' b=none)->∀b∈fp,kf X pins H' b:=λhn b hb=>⟨hn b hb,(f2 b hb).2⟩
 refine codeAny_forLoop_any (λn s'=>∃i σ' H',Inv X pins σ' H' s'/\tn i s'.heap/\(∀b∈fp,H' b=none)/\W i n σ' H') ?_ m0 ⟨0,σ,H2,I2,st2,λb hb=>(f2 b hb).1,w0⟩
 rintro n s3 ⟨i,σ3,H3,I3,st3,fr3,w3⟩
 rcases turn i n σ3 H3 w3 with ⟨stop,qn⟩|⟨go,N,hN,step⟩
 ·refine wpAny_passesOwn hp (thn (T.done X rfl rfl rfl hc i pins s3 σ3 H3 X.xe I3 (stat fr3) st3 stop) λr s4 ⟨hr,I4⟩=>?_)
  subst hr
  exact wpAny_execs_nil ⟨σ3,H3,I4,qn⟩
 ·refine wpAny_passesOwn hp (thn (T.item X rfl rfl rfl hc i pins s3 σ3 H3 X.xe I3 (stat fr3) st3 go) λr s4 ⟨u,hr,h4⟩=>?_)
  subst hr
  refine wpAny_passesOwn hp (thn h4 λ_ s5 ⟨x,H5,I5,r5,y5,st5,fr5⟩=>?_)
  have I5':=I5.pinned (stat fr5) (T.obj _ _ st5)
  refine wpAny_passesOwn hp (thn (hg _ s5 σ3 H5 x u _ I5' r5 (step x H5 y5)) λ_ s6 ⟨σ6,H6,I6,q6⟩=>?_)
  refine wpAny_passesOwn hp (thn (hb _ s6 σ6 H6 _ I6 q6) λf s7 q7=>?_)
  have again:∀{σ7:St}{H7:Hp},Inv X (pins++kG fp s5.heap) σ7 H7 s7->N σ7 H7->∃m,m<n/\∃i σ' H',Inv X pins σ' H' s7/\tn i s7.heap/\(∀b∈fp,H' b=none)/\W i m σ' H':=λ{σ7 H7} I7 n7=>by
   obtain⟨m',hm,w7⟩:=hN σ7 H7 n7
   refine⟨m',hm,i+1,σ7,H7,I7.c0,T.keep _ _ _ st5 λb hb o e=>(I7.pin (b,o) (LN _ (LN _ (eW hb e)))).1,λb hb=>?_,w7⟩
   obtain⟨o,e,d⟩:=T.obj _ _ st5 b hb
   exact(I7.pin (b,o) (LN _ (LN _ (eW hb e)))).2.1
  cases f with
  | next=>obtain⟨σ7,H7,I7,n7⟩:=q7;exact again I7 n7
  | cont=>obtain⟨σ7,H7,I7,n7⟩:=q7;exact again I7 n7
  | brk=>obtain⟨σ7,H7,I7,q7⟩:=q7;exact⟨σ7,H7,I7.c0,q7⟩
  | ret v=>obtain⟨x7,σ7,H7,I7,r7,q7⟩:=q7;exact⟨x7,σ7,H7,I7.c0,r7,q7⟩
end
end L2
namespace L2
open PySem PySem.Spec PyProof.Rows
noncomputable abbrev R2:=V->V->Hp->VK->Prop
noncomputable def OpR(X:Cx)(f:Value->Value->Sem Value)(r:R2):Prop :=
 ∀(pins:List (Addr×Obj))(s:Shared)(σ:St)(H:Hp)(x y:V)(v u:Value)(Q:VK),Inv X pins σ H s->RelV x v->RelV y u->r x y H Q ->
  wpAny (model X.prog X.w) X.A (f v u) (EP X pins σ Q) X.xe s
noncomputable def UnR(X:Cx)(f:Value->Sem Value)(r:V->Hp->VK->Prop):Prop :=
 ∀(pins:List (Addr×Obj))(s:Shared)(σ:St)(H:Hp)(x:V)(v:Value)(Q:VK),Inv X pins σ H s->RelV x v->r x H Q ->
  wpAny (model X.prog X.w) X.A (f v) (EP X pins σ Q) X.xe s
noncomputable def bR(X:Cx)(f:Value)(r:List V->Hp->VK->Prop):Prop :=
 ∀(pins:List (Addr×Obj))(s:Shared)(σ:St)(H:Hp)(xs:List V)(us:List Value)(Q:VK),Inv X pins σ H s->Vals xs us->r xs H Q ->
  wpAny (model X.prog X.w) X.A (call f us) (EP X pins σ Q) X.xe s
noncomputable def tOp(r:R2)(ta tb:TE):TE:=λσ H Q=>ta σ H λx H1=>tb σ H1 λy H2=>r x y H2 Q
noncomputable def tUn(r:V->Hp->VK->Prop)(ta:TE):TE:=λσ H Q=>ta σ H λx H1=>r x H1 Q
noncomputable def rI(C:Int->Int->Prop)(g:Int->Int->V):R2:=λx y H Q=>∃i j,x=.int i/\y=.int j/\C i j/\Q (g i j) H
noncomputable def rI0(g:Int->Int->V):R2:=λx y H Q=>∃i j,x=.int i/\y=.int j/\Q (g i j) H
noncomputable def rU(g:Int->V):V->Hp->VK->Prop:=λx H Q=>∃i,x=.int i/\Q (g i) H
section
variable{X:Cx}{a b c:Expr}{ta tb tc:TE}{pos:Pos}
theorem EN(ha:PE X a ta)(hb:PE X b tb){pins:List (Addr×Obj)}{s:Shared}{σ:St}{H:Hp}{R:V->V->Hp->Prop}(I:Inv X pins σ H s)
  (h:ta σ H λx H1=>tb σ H1 λy H2=>R x y H2){Q:Value->Shared->Prop}{f:Value->Value->Sem Value}
  (hf:∀v u s2 x y H2,Inv X pins σ H2 s2->RelV x v->RelV y u->R x y H2->wpAny (model X.prog X.w) X.A (f v u) Q X.xe s2) :
  wpAny (model X.prog X.w) X.A (eval a X.env) (λv s₁=>wpAny (model X.prog X.w) X.A (eval b X.env) (λu s₂=>wpAny (model X.prog X.w) X.A (f v u) Q X.xe s₂) X.xe s₁) X.xe s:=by
 refine thn (ha pins s σ H _ I h) λv s1 ⟨x,H1,I1,r1,q1⟩=>?_
 refine thn (hb pins s1 σ H1 _ I1 q1) λu s2 ⟨y,H2,I2,r2,q2⟩=>?_
 exact hf v u s2 x y H2 I2 r1 r2 q2
theorem Je{op:Operator}{r:R2}(ho:OpR X (binaryOp op) r)(ha:PE X a ta)(hb:PE X b tb):PE X (.BinOp a op b pos) (tOp r ta tb):=by
 intro pins s σ H Q I h
 exact wpAny_BinOp (EN ha hb I h λv u s2 x y H2 I2 rx ry q=>ho pins s2 σ H2 x y v u Q I2 rx ry q)
theorem Kk{op:UnaryOp}{r:V->Hp->VK->Prop}(ho:UnR X (unaryOp op) r)(ha:PE X a ta):PE X (.UnaryOp op a pos) (tUn r ta):=by
 intro pins s σ H Q I h
 exact UnaryOp_ (thn (ha pins s σ H _ I h) λv s1 ⟨x,H1,I1,r1,q1⟩=>ho pins s1 σ H1 x v Q I1 r1 q1)
theorem opI{f:Value->Value->Sem Value}{C:Int->Int->Prop}{g:Int->Int->Int}
  (rule:∀(i j:Int)(t u:Tok)(s:Shared)(Q:Value->Shared->Prop)(E:Value->Shared->Prop),C i j->Q (.int (g i j) s.toks) { s with toks:=s.toks+1 }->wpAny (model X.prog X.w) X.A (f (.int i t) (.int j u)) Q E s) :
  OpR X f (rI C λi j=>.int (g i j)):=by
 intro pins s σ H x y v u Q I rx ry h
 obtain⟨i,j,rfl,rfl,hc,q⟩:=h
 obtain⟨t,rfl⟩:=rx
 obtain⟨t',rfl⟩:=ry
 exact rule i j t t' s _ _ hc ⟨.int (g i j),H,I.tok _,⟨_,rfl⟩,q⟩
theorem GR{f:Value->Value->Sem Value}{g:Int->Int->Int}
  (rule:∀(i j:Int)(t u:Tok)(s:Shared)(Q:Value->Shared->Prop)(E:Value->Shared->Prop),Q (.int (g i j) s.toks) { s with toks:=s.toks+1 }->wpAny (model X.prog X.w) X.A (f (.int i t) (.int j u)) Q E s) :
  OpR X f (rI0 λi j=>.int (g i j)):=by
 intro pins s σ H x y v u Q I rx ry h
 obtain⟨i,j,rfl,rfl,q⟩:=h
 obtain⟨t,rfl⟩:=rx
 obtain⟨t',rfl⟩:=ry
 exact rule i j t t' s _ _ ⟨.int (g i j),H,I.tok _,⟨_,rfl⟩,q⟩
theorem AL{f:Value->Value->Sem Value}{g:Int->Int->Bool}
  (rule:∀(i j:Int)(t u:Tok)(s:Shared)(Q:Value->Shared->Prop)(E:Value->Shared->Prop),Q (.bool (g i j)) s->wpAny (model X.prog X.w) X.A (f (.int i t) (.int j u)) Q E s) :
  OpR X f (rI0 λi j=>.bl (g i j)):=by
 intro pins s σ H x y v u Q I rx ry h
 obtain⟨i,j,rfl,rfl,q⟩:=h
 obtain⟨t,rfl⟩:=rx
 obtain⟨t',rfl⟩:=ry
 exact rule i j t t' s _ _ ⟨.bl (g i j),H,I,rfl,q⟩
def IJ(i j:Int):Prop:=0<=j/\j<=1000000/\i.natAbs<2^64
theorem Ei:OpR X (binaryOp .Add) (rI0 λi j=>.int (i+j)):=GR λ_ _ _ _ _ _ _ q=>add_int q
theorem E7:OpR X (binaryOp .Sub) (rI0 λi j=>.int (i-j)):=GR λ_ _ _ _ _ _ _ q=>sub_int q
theorem Aa:OpR X (binaryOp .Mod) (rI (λ_ j=>j≠0) λi j=>.int (i.fmod j)):=opI λ_ _ _ _ _ _ _ hc q=>mod_int' hc q
theorem Em:OpR X (binaryOp .Pow) (rI IJ λi j=>.int (i^j.toNat)):=opI λ_ _ _ _ _ _ _ hc q=>pow_int_small hc.1 hc.2.1 hc.2.2 q
theorem unI{f:Value->Sem Value}{g:Int->Int}
  (rule:∀(i:Int)(t:Tok)(s:Shared)(Q:Value->Shared->Prop)(E:Value->Shared->Prop),Q (.int (g i) s.toks) { s with toks:=s.toks+1 }->wpAny (model X.prog X.w) X.A (f (.int i t)) Q E s) :
  UnR X f (rU λi=>.int (g i)):=by
 intro pins s σ H x v Q I rx h
 obtain⟨i,rfl,q⟩:=h
 obtain⟨t,rfl⟩:=rx
 exact rule i t s _ _ ⟨.int (g i),H,I.tok _,⟨_,rfl⟩,q⟩
theorem FH:UnR X (unaryOp .USub) (rU λi=>.int (-i)):=unI λ_ _ _ _ _ q=>neg_int q
end
section
variable{X:Cx}{a b c:Expr}{ta tb tc:TE}{pos:Pos}
theorem je{pins:List (Addr×Obj)}{σ:St}{H:Hp}{s:Shared}{Q:VK}{k k':Bool}(I:Inv X pins σ H s)(q:Q (.bl k) H)(e:k=k'):EP X pins σ Q (.bool k') s:=by
 subst e
 exact⟨.bl k,H,I,rfl,q⟩
theorem rG:OpR X (compareOp .Lt) (rI0 λi j=>.bl (decide (i<j))):=AL λ_ _ _ _ _ _ _ q=>lt_int q
theorem rA:OpR X (compareOp .LtE) (rI0 λi j=>.bl (decide (i<=j))):=AL λ_ _ _ _ _ _ _ q=>le_int q
theorem vH:OpR X (compareOp .Gt) (rI0 λi j=>.bl (decide (j<i))):=AL λ_ _ _ _ _ _ _ q=>gt_int q
theorem w8:OpR X (compareOp .GtE) (rI0 λi j=>.bl (decide (j<=i))):=AL λ_ _ _ _ _ _ _ q=>ge_int q
theorem lZ:OpR X (compareOp .In) (λx y H Q=>∃i j,x=.str i/\y=.str j/\Q (.bl (!(M6 j i 0 j.length 1).isEmpty)) H):=by
 intro pins s σ H x y v u Q I rx ry h
 obtain⟨i,j,rfl,rfl,q⟩:=h
 obtain⟨t,rfl⟩:=rx
 obtain⟨t',rfl⟩:=ry
 exact in_str (je I q rfl)
theorem nQ:OpR X (compareOp .Is) (λx y H Q=>y=.non/\Q (.bl (decide (x=.non))) H):=by
 intro pins s σ H x y v u Q I rx ry h
 obtain⟨rfl,q⟩:=h
 cases ry
 refine is_none_gen (je I q ?_)
 cases x<;>first
  | (cases rx;rfl)
  | (obtain⟨t,rfl⟩:=rx;rfl)
theorem jH:OpR X (compareOp .IsNot) (λx y H Q=>y=.non/\Q (.bl (!decide (x=.non))) H):=by
 intro pins s σ H x y v u Q I rx ry h
 obtain⟨rfl,q⟩:=h
 cases ry
 refine isnot_none_gen (je I q ?_)
 cases x<;>first
  | (cases rx;rfl)
  | (obtain⟨t,rfl⟩:=rx;rfl)
theorem ib:OpR X (compareOp .NotIn) (λx y H Q=>∃i j,x=.str i/\y=.str j/\Q (.bl (!(!(M6 j i 0 j.length 1).isEmpty))) H):=by
 intro pins s σ H x y v u Q I rx ry h
 obtain⟨i,j,rfl,rfl,q⟩:=h
 obtain⟨t,rfl⟩:=rx
 obtain⟨t',rfl⟩:=ry
 exact notIn_str (je I q rfl)
theorem aY(b:Expr){op:CmpOp}(h:op≠.In:=by decide)(h2:op≠.NotIn:=by decide):behindInMarks op b=false:=by
 have e1:(op==CmpOp.In)=false:=by cases op<;>first|rfl|exact absurd rfl h
 have e2:(op==CmpOp.NotIn)=false:=by cases op<;>first|rfl|exact absurd rfl h2
 cases b<;>simp[behindInMarks,e1,e2]
theorem zR{op:CmpOp}{r:R2}(ho:OpR X (compareOp op) r)(ha:PE X a ta)(hb:PE X b tb)(hm:behindInMarks op b=false):PE X (.Compare a [op] [b] pos) (tOp r ta tb):=by
 intro pins s σ H Q I h
 exact wpAny_Compare1 (EN ha hb I h λv u s2 x y H2 I2 rx ry q=>ho pins s2 σ H2 x y v u Q I2 rx ry q) hm
noncomputable def CK(t:TE):TT:=λσ H Q=>t σ H λx H'=>∃k,x=.bl k/\Q k H'
theorem Bv{op:CmpOp}{r:R2}(ho:OpR X (compareOp op) r)(ha:PE X a ta)(hb:PE X b tb)(hm:behindInMarks op b=false):PT X (.Compare a [op] [b] pos) (CK (tOp r ta tb)):=by
 intro pins s σ H Q I h
 refine wpAny_isTrue_Compare1 (thn (ha pins s σ H _ I h) λv s1 ⟨x,H1,I1,r1,q1⟩=>thn (hb pins s1 σ H1 _ I1 q1) λu s2 ⟨y,H2,I2,r2,q2⟩ =>
  thn (ho pins s2 σ H2 x y v u _ I2 r1 r2 q2) λc s3 ⟨z,H3,I3,r3,k,e,q3⟩=>?_) hm
 subst e
 cases r3
 exact wpAny_truthy_bool ⟨H3,I3,q3⟩
noncomputable def qG(r r':R2)(ta tb tc:TE):TE:=λσ H Q=>ta σ H λx H1=>tb σ H1 λy H2=>r x y H2 λz H3=>∃k,z=.bl k /\
 (if k=true then tc σ H3 λw' H4=>r' y w' H4 Q else Q (.bl false) H3)
theorem v9{op op':CmpOp}{r r':R2}(ho:OpR X (compareOp op) r)(ho':OpR X (compareOp op') r')(ha:PE X a ta)(hb:PE X b tb)(hc:PE X c tc)
  (hm:lastMarks [op,op'] [b,c]=false:=by with_unfolding_all rfl):PE X (.Compare a [op,op'] [b,c] pos) (qG r r' ta tb tc):=by
 intro pins s σ H Q I h
 refine Compare_chain (thn (ha pins s σ H _ I h) λv s1 ⟨x,H1,I1,r1,q1⟩=>chain_link (thn (hb pins s1 σ H1 _ I1 q1) λu s2 ⟨y,H2,I2,r2,q2⟩ =>
  thn (ho pins s2 σ H2 x y v u _ I2 r1 r2 q2) λd s3 ⟨z,H3,I3,r3,k,e,q3⟩=>?_)) hm
 subst e
 cases r3
 refine wpAny_truthy_bool ?_
 cases k with
 | false=>exact ite_ff ⟨.bl false,H3,I3,rfl,q3⟩
 | true=>exact ite_tt (chain_last (thn (hc pins s3 σ H3 _ I3 q3) λw' s4 ⟨z',H4,I4,r4,q4⟩=>ho' pins s4 σ H4 y z' u w' Q I4 r2 r4 q4))
theorem yg{op op':CmpOp}{r r':R2}(ho:OpR X (compareOp op) r)(ho':OpR X (compareOp op') r')(ha:PE X a ta)(hb:PE X b tb)(hc:PE X c tc)
  (hm:lastMarks [op,op'] [b,c]=false:=by with_unfolding_all rfl):PT X (.Compare a [op,op'] [b,c] pos) (CK (qG r r' ta tb tc)):=by
 intro pins s σ H Q I h
 refine isTrue_chain (thn (ha pins s σ H _ I h) λv s1 ⟨x,H1,I1,r1,q1⟩=>test_link (thn (hb pins s1 σ H1 _ I1 q1) λu s2 ⟨y,H2,I2,r2,q2⟩ =>
  thn (ho pins s2 σ H2 x y v u _ I2 r1 r2 q2) λd s3 ⟨z,H3,I3,r3,k,e,q3⟩=>?_)) hm
 subst e
 cases r3
 refine wpAny_truthy_bool ?_
 cases k with
 | false =>
  obtain⟨k',e',q'⟩:=q3
  cases e'
  exact ite_ff ⟨H3,I3,q'⟩
 | true =>
  refine ite_tt (test_last (thn (hc pins s3 σ H3 _ I3 q3) λw' s4 ⟨z',H4,I4,r4,q4⟩=>thn (ho' pins s4 σ H4 y z' u w' _ I4 r2 r4 q4) λd' s5 ⟨z2,H5,I5,r5,k2,e2,q5⟩=>?_))
  subst e2
  cases r5
  exact wpAny_truthy_bool ⟨H5,I5,q5⟩
theorem kh:(sizeLine:Nat)<2^63:=by rw[sizeLine_eq];decide
theorem qc:OpR X (binaryOp .Add) (λx y H Q=>∃i j,x=.str i/\y=.str j/\i.length+j.length<=sizeLine/\Q (.str (i++j)) H):=by
 intro pins s σ H x y v u Q I rx ry h
 obtain⟨i,j,rfl,rfl,hz,q⟩:=h
 obtain⟨t,rfl⟩:=rx
 obtain⟨t',rfl⟩:=ry
 exact add_str (λt' tk=>⟨.str (i++j),H,I.tok _,⟨_,rfl⟩,q⟩) hz
theorem vals1{x:V}{us:List Value}(r:Vals [x] us):∃u,us=[u]/\RelV x u:=by
 cases r with
 | cons r1 r2=>cases r2;exact⟨_,rfl,r1⟩
theorem vals2{x y:V}{us:List Value}(r:Vals [x,y] us):∃u w',us=[u,w']/\RelV x u/\RelV y w':=by
 cases r with
 | cons r1 r2 =>
  cases r2 with
  | cons r3 r4=>cases r4;exact⟨_,_,rfl,r1,r3⟩
theorem xV:bR X (.builtin "abs") (λxs H Q=>∃i,xs=[.int i]/\Q (.int (if i<0 then -i else i)) H):=by
 intro pins s σ H xs us Q I r h
 obtain⟨i,rfl,q⟩:=h
 obtain⟨u,rfl,t,rfl⟩:=vals1 r
 exact call_abs_int λu tk=>⟨.int (if i<0 then -i else i),H,I.tok _,⟨_,rfl⟩,q⟩
theorem uK(hc:X.calm=true):bR X (.builtin "max") (λxs H Q=>∃i j,xs=[.int i,.int j]/\Q (.int (if j > i then j else i)) H):=by
 intro pins s σ H xs us Q I r h
 obtain⟨i,j,rfl,q⟩:=h
 obtain⟨u,w',rfl,⟨t,rfl⟩,⟨t',rfl⟩⟩:=vals2 r
 refine max_two_ints (I.ok.hd hc) λh' tk k=>⟨_,H,I.kept k,?_,q⟩
 by_cases hj:j > i
 ·rw[if_pos hj,if_pos hj];exact⟨_,rfl⟩
 ·rw[if_neg hj,if_neg hj];exact⟨_,rfl⟩
theorem t5(hc:X.calm=true):bR X (.builtin "min") (λxs H Q=>∃i j,xs=[.int i,.int j]/\Q (.int (if j<i then j else i)) H):=by
 intro pins s σ H xs us Q I r h
 obtain⟨i,j,rfl,q⟩:=h
 obtain⟨u,w',rfl,⟨t,rfl⟩,⟨t',rfl⟩⟩:=vals2 r
 refine min_two_ints (I.ok.hd hc) λh' tk k=>⟨_,H,I.kept k,?_,q⟩
 by_cases hj:j<i
 ·rw[if_pos hj,if_pos hj];exact⟨_,rfl⟩
 ·rw[if_neg hj,if_neg hj];exact⟨_,rfl⟩
theorem uM:bR X (.type "int") (λxs H Q=>(∃i,xs=[.int i]/\Q (.int i) H)\/∃k,xs=[.bl k]/\Q (.int (if k then 1 else 0)) H):=by
 intro pins s σ H xs us Q I r h
 rcases h with ⟨i,rfl,q⟩|⟨k,rfl,q⟩
 ·obtain⟨u,rfl,t,rfl⟩:=vals1 r
  exact call_int_int ⟨.int i,H,I,⟨_,rfl⟩,q⟩
 ·obtain⟨u,rfl,r1⟩:=vals1 r
  cases r1
  exact call_int_bool ⟨.int (if k then 1 else 0),H,I.tok _,⟨_,rfl⟩,q⟩
noncomputable def Ke(K:LD)(x:V)(H:Hp)(n:Nat):Prop :=
 match x with
 | .str y=>y.length<=sizeLine/\n=y.length
 | .byt y=>y.size<=sizeLine/\n=y.size
 | .ref p=>(∃xs,SqL K H p xs/\n=xs.length)\/∃xs,SqT K H p xs/\n=xs.length
 | _=>False
theorem yK:bR X (.builtin "len") (λxs H Q=>∃x n,xs=[x]/\Ke X.K x H n/\Q (.int n) H):=by
 intro pins s σ H xs us Q I r h
 obtain⟨x,n,rfl,e,q⟩:=h
 obtain⟨u,rfl,rx⟩:=vals1 r
 have hl:=kh
 have hs:sizeLine=16777216:=sizeLine_eq
 cases x with
 | str y =>
  obtain⟨t,rfl⟩:=rx
  obtain⟨hy,e'⟩:y.length<=sizeLine/\n=y.length:=e
  subst e'
  exact len_str (by omega) ⟨.int _,H,I.tok _,⟨_,rfl⟩,q⟩
 | byt y =>
  obtain⟨t,rfl⟩:=rx
  obtain⟨hy,e'⟩:y.size<=sizeLine/\n=y.size:=e
  subst e'
  exact PySem.W.len_bytes (by omega) ⟨.int _,H,I.tok _,⟨_,rfl⟩,q⟩
 | ref p =>
  cases rx
  have e':(∃xs,SqL X.K H p xs/\n=xs.length)\/∃xs,SqT X.K H p xs/\n=xs.length:=e
  rcases e' with ⟨xs,hx,e'⟩|⟨xs,hx,e'⟩
  ·subst e'
   obtain⟨its,r',pl,hz⟩:=I.list hx
   have hlen:=r'.length
   exact Calls.call_len_list pl.isList (by simp only[LM];omega) ⟨.int xs.length,H,I.tok _,⟨_,by simp only[LM];rw[hlen]⟩,q⟩
  ·subst e'
   obtain⟨its,r',pl,hz⟩:=I.tuple hx
   have hlen:=r'.length
   exact len_tuple pl (by simp only[LM];omega) ⟨.int xs.length,H,I.tok _,⟨_,by simp only[LM];rw[hlen]⟩,q⟩
 | _=>exact(show False from e).elim
end
end L2
namespace L2
open PySem PySem.Spec PyProof.Rows
structure qX (h:Heap) (x dx C:Addr) (mA:Str->Option Value):Prop where
 obj:h.get? x=some (M5 C dx)
 ns:h.Ns1 dx mA
 ne:dx≠x
theorem uv{h:Heap}{dx:Addr}{mA:Str->Option Value}(n:h.Ns1 dx mA):∃od,h.get? dx=some od/\∀name,OF name od=some (mA name):=by
 obtain⟨o,es,ep,ho,hd,hk,_,hm⟩:=n
 refine⟨o,ho,λname=>?_⟩
 have e:=hm name
 unfold nsFind findBy at e
 rw[<- Array.find?_toList] at e
 unfold OF
 rw[hd]
 dsimp only
 split
 ·rename_i y q
  rw[q] at e
  exact congrArg some e
 ·rename_i q
  rw[q] at e
  have a:es.toList.any (·.refKey)=false:=by
   rw[Oc]
   intro y hy
   obtain⟨z,t,hkey⟩:=hk y (Array.mem_toList_iff.mp hy)
   simp[DictEntry.refKey,hkey]
  have a':¬ es.toList.any (·.refKey)=true:=by rw[a];exact Mz
  rw[if_neg a']
  exact congrArg some e
theorem qX.look{h:Heap}{x dx C:Addr}{mA:Str->Option Value}(I:qX h x dx C mA):∃od,PySem.W.InstAt h x (M5 C dx) C (some od)/\∀name,OF name od=some (mA name) :=
 let ⟨od,ho,hl⟩:=uv I.ns
 ⟨od,⟨I.obj,rfl,rfl,ho⟩,hl⟩
section
variable{prog:Program}{w:World}{A:Around}{E:Value->Shared->Prop}{s:Shared}{K:LD}{x dx C f:Addr}{mA:Str->Option Value}{name:Str}{v:Value}
theorem get_map{expr:Bool}{Q:Value->Shared->Prop}(X:K.In s.heap)(I:qX s.heap x dx C mA)(hg:NH K C name=true)(hh:N6 K C=true)
  (ha:MH K (.ref C) name=some none)(hv:mA name=some v)(hv':QG v=true)(h:Q v { s with toks:=s.toks+1 }) :
  wpAny (model prog w) A (getAttr (.ref x) name expr) Q E s:=by
 obtain⟨od,J,hl⟩:=I.look
 exact PySem.W.get_value X J (ON hg).1 (PySem.W.findObj_own hh ha rfl (by rw[hl,hv])) hv' h
theorem yi{pl:Sem Bool}{Q:Value×List Value->Shared->Prop}(X:K.In s.heap)(I:qX s.heap x dx C mA)(hg:NH K C name=true)
  (hf:MH K (.ref C) name=some (some (.ref f)))(ht:O5 K (.ref f)=true)(hv:mA name=none)(h:Q (.ref f,[.ref x]) s) :
  wpAny (model prog w) A (getMethod (.ref x) name pl) Q E s:=by
 obtain⟨od,J,hl⟩:=I.look
 exact PySem.W.method_fn X J (ON hg).1 (ON hg).2 hf (beq_iff_eq.mp ht) (by show (OF name od).map (·.isSome)=some false;rw[hl,hv];rfl) h
theorem zT{ns:List Str}{Q:Unit->Shared->Prop}(X:K.In s.heap)(I:qX s.heap x dx C mA)
  (hs:MH K (.ref C) "__setattr__" = some (some (.builtin "object.__setattr__")))(hp:O6 K C=true)(ht:Pq K C name=some none)(hh:N6 K C=true)
  (hw:Qg mA ns)(hsz:ns.length<=sizeLine)
  (h:∀h',qX h' x dx C (λy=>if y=name then some v else mA y)->NX dx s.heap h'->Q () { s with heap:=h',toks:=s.toks+2 }) :
  wpAny (model prog w) A (setAttr (.ref x) name v) Q E s:=by
 obtain⟨od,J,hl⟩:=I.look
 refine PySem.W.set_plain X J hs (PySem.W.osa_open (s:={ s with toks:=s.toks+1 }) (r:=none) X J hp ht λb=>?_)
 obtain⟨cd,hc,hd'⟩:=PySem.W.any_some hh
 have hx:s.heap.get? x=some ⟨.ref C,some dx,.plain,#[]⟩:=I.obj
 refine wpAny_bind (wpAny_pure (wpAny_bind (wpAny_bind (wpAny_loadPart hx (wpAny_bind (RL (s:={ s with toks:=s.toks+1 }) (PySem.W.looks_clsIn X hc) ?_))))))
 rw[hd']
 refine wpAny_pure (a:=some dx) (wpAny_bind (wpAny_pure (wpAny_bind ?_)))
 refine wpAny_nsSet1 (s:={ s with toks:=s.toks+1 }) I.ns λh' hn2 hs2=>?_
 obtain⟨oD,esD,epD,hoD,hdD,hcD⟩:=hn2.count (R0 name v hw)
 refine wpAny_bind (wpAny_lookBehind hoD (by rw[hdD];exact pastItsLine_dict (Mf hcD (by rw[LL];omega))) ?_)
 exact wpAny_pure (h _ ⟨(hs2.2 _ (Nd I.ne)).trans I.obj,hn2,I.ne⟩ hs2)
theorem yI{R:Result->Shared->Prop}{vs:List Value}{kw:List (Str×Value)}(X:K.In s.heap)(hm:Pr K C=true)
  (hi:MH K (.ref C) "__init__" = some (some (.ref f)))(hf:PySem.W.typeIn K (.ref f)=some (.type "function"))
  (h:codeAny (model prog w) (A.under (.builtin "type.__call__" ⟨.ref C::vs,kw⟩)) (.call (.ref f) ⟨.ref (s.heap.objs.size+1)::vs,kw⟩) (PySem.W.InitBack (s.heap.objs.size+1) R)
   { s with heap:=(s.heap.push MP).push (M5 C s.heap.objs.size) }) :
  codeAny (model prog w) A (.call (.ref C) ⟨vs,kw⟩) R s:=by
 obtain⟨hh,g,d,t,os⟩:=s
 exact PySem.W.make_core (PySem.W.makes_of X hm) (PySem.W.looks_findIn X hi) (λself=>PySem.W.bind_fn X self hf) (.inl rfl) h
end
noncomputable def fu(f:Str)(v:V):List (Str×V)->List (Str×V)
 | []=>[(f,v)]
 | (g,x)::r=>if g=f then (g,v)::r else (g,x)::fu f v r
theorem ju(f g:Str)(v:V):∀fs:List (Str×V),(fu f v fs).lookup g=if g=f then some v else fs.lookup g
 | []=>by
  show NT g [(f,v)]=_
  by_cases h:g=f
  ·have hb:(g==f)=true:=beq_iff_eq.mpr h
   simp only[NT,hb,if_pos h]
  ·have hb:(g==f)=false:=beq_eq_false_iff_ne.mpr h
   simp only[NT,hb,if_neg h]
 | (k,x)::r=>by
  have ih:=ju f g v r
  rw[show fu f v ((k,x)::r)=(if k=f then (k,v)::r else (k,x)::fu f v r) from rfl]
  by_cases hk:k=f
  ·rw[if_pos hk]
   by_cases h:g=k
   ·have hb:(g==k)=true:=beq_iff_eq.mpr h
    simp only[NT,hb,if_pos (h.trans hk)]
   ·have hb:(g==k)=false:=beq_eq_false_iff_ne.mpr h
    simp only[NT,hb,if_neg (λe:g=f=>h (e.trans hk.symm))]
  ·rw[if_neg hk]
   by_cases h:g=k
   ·have hb:(g==k)=true:=beq_iff_eq.mpr h
    simp only[NT,hb,if_neg (λe:g=f=>hk (h.symm.trans e))]
   ·have hb:(g==k)=false:=beq_eq_false_iff_ne.mpr h
    simp only[NT,hb]
    exact ih
theorem jb(f:Str)(v:V):∀fs:List (Str×V),f∈(fu f v fs).map (·.1)/\∀g,g∈fs.map (·.1)->g∈(fu f v fs).map (·.1)
 | []=>⟨by simp[fu],λg h=>by simp at h⟩
 | (k,x)::r=>by
  obtain⟨i1,i2⟩:=jb f v r
  rw[show fu f v ((k,x)::r)=(if k=f then (k,v)::r else (k,x)::fu f v r) from rfl]
  by_cases hk:k=f
  ·rw[if_pos hk]
   subst hk
   exact⟨by simp,λg h=>by simpa using h⟩
  ·rw[if_neg hk]
   refine⟨?_,λg h=>?_⟩
   ·rw[LF]
    exact LX _ i1
   ·rw[LF] at h ⊢
    rcases Me.mp h with e|e
    ·exact Me.mpr (.inl e)
    ·exact LX _ (i2 g e)
theorem jm(f:Str)(v:V):∀fs:List (Str×V),(fu f v fs).length<=fs.length+1
 | []=>by simp[fu]
 | (k,x)::r=>by
  have ih:=jm f v r
  rw[show fu f v ((k,x)::r)=(if k=f then (k,v)::r else (k,x)::fu f v r) from rfl]
  by_cases hk:k=f
  ·rw[if_pos hk,LL,LL];omega
  ·rw[if_neg hk,LL,LL];omega
theorem fv.some_of{v:V}{o:Option Value}(r:fv (some v) o):∃u,o=some u/\RelV v u:=by
 cases o with
 | none=>exact(show False from r).elim
 | some u=>exact⟨u,rfl,r⟩
theorem fv.none_of{o:Option Value}(r:fv none o):o=none:=by
 cases o with
 | none=>rfl
 | some u=>exact(show False from r).elim
theorem t4{v:V}{u:Value}(r:RelV v u):QG u=true:=by
 cases v with
 | non=>cases (show u=O3 from r);rfl
 | bl b=>cases (show u=QF b from r);rfl
 | int i=>obtain⟨t,e⟩:=(show ∃t,u=Po i t from r);cases e;rfl
 | str x=>obtain⟨t,e⟩:=(show ∃t,u=OP x t from r);cases e;rfl
 | byt b=>obtain⟨t,e⟩:=(show ∃t,u=RE b t from r);cases e;rfl
 | flt b=>obtain⟨t,e⟩:=(show ∃t,u=RF b t from r);cases e;rfl
 | ref a=>cases (show u=My a from r);rfl
 | ty n=>cases (show u=Ox n from r);rfl
section
variable{P:Program}{w:World}{H H':Hp}{h h':Heap}{a C dx:Addr}{fs fs':List (Str×V)}
theorem jK(hok:HOk P w H h)(e:H a=some (.ins C dx fs)):∃mA,qX h a dx C mA/\(∀f,fv (fs.lookup f) (mA f))/\Qg mA (fs.map (·.1))/\fs.length<=1000/\H dx=some (.own a):=by
 obtain⟨d,z,ne,ob,mA,n,r,q⟩:=(show ba P w H h a (.ins C dx fs) from hok a _ e)
 exact⟨mA,⟨ob,n,ne⟩,r,q,z,d⟩
end
structure Cls (K:LD) (C:Addr):Prop where
 pg:NH K C Str.empty=true
 hd:N6 K C=true
 po:O6 K C=true
 sa:MH K (.ref C) "__setattr__" = some (some (.builtin "object.__setattr__"))
theorem Cls.get{K:LD}{C:Addr}(c:Cls K C)(f:Str):NH K C f=true:=c.pg
def dH(K:LD)(C:Addr)(f:Str):Prop:=MH K (.ref C) f=some none
theorem dH.IS{K:LD}{C:Addr}{f:Str}(n:dH K C f):Pq K C f=some none:=by
 unfold Pq
 rw[show MH K (.ref C) f=some none from n]
 rfl
structure Meth (K:LD) (C:Addr) (m:Str) (f:Addr):Prop where
 at_:MH K (.ref C) m=some (some (.ref f))
 fn:O5 K (.ref f)=true
 kp:M0 K (.ref f)=true
section
variable{X:Cx}{pins:List (Addr×Obj)}{σ:St}{H:Hp}{s:Shared}{a C dx:Addr}{fs:List (Str×V)}{f:Str}{v:V}{A:Around}{E:Value->Shared->Prop}
theorem qq{b:Bool}{Q:Value->Shared->Prop}(I:Inv X pins σ H s)(e:H a=some (.ins C dx fs))(c:Cls X.K C)(n:dH X.K C f)(l:fs.lookup f=some v)
  (h:∀u s',Inv X pins σ H s'->RelV v u->Q u s'):wpAny (model X.prog X.w) A (getAttr (.ref a) f b) Q E s:=by
 obtain⟨mA,O,r,_,_,_⟩:=jK I.hok e
 obtain⟨u,hu,ru⟩:=fv.some_of (v:=v) (o:=mA f) (by rw[<- l];exact r f)
 exact get_map I.kIn O (c.get f) c.hd n hu (t4 ru) (h u _ (I.tok _) ru)
theorem hJ{m:Str}{g:Addr}{pl:Sem Bool}{Q:Value×List Value->Shared->Prop}(I:Inv X pins σ H s)(e:H a=some (.ins C dx fs))(c:Cls X.K C)(k:Meth X.K C m g)(l:fs.lookup m=none)
  (h:Q (.ref g,[.ref a]) s):wpAny (model X.prog X.w) A (getMethod (.ref a) m pl) Q E s:=by
 obtain⟨mA,O,r,_,_,_⟩:=jK I.hok e
 have hn:mA m=none:=fv.none_of (by rw[<- l];exact r m)
 exact yi I.kIn O (c.get m) k.at_ k.fn hn h
theorem qr{y:V}{u:Value}{Q:Unit->Shared->Prop}(I:Inv X pins σ H s)(e:H a=some (.ins C dx fs))(c:Cls X.K C)(n:dH X.K C f)(hl:fs.length<1000)(ry:RelV y u)
  (h:∀s',Inv X pins σ (upd H a (.ins C dx (fu f y fs))) s'->Q () s'):wpAny (model X.prog X.w) A (setAttr (.ref a) f u) Q E s:=by
 obtain⟨mA,O,r,wi,_,ho⟩:=jK I.hok e
 have hz:(fs.map (·.1)).length<=sizeLine:=by rw[LH,sizeLine_eq];omega
 refine zT I.kIn O c.sa c.po n.IS c.hd wi hz λh' O' sb=>h _ ?_
 have hd:∃o,h'.get? dx=some o:=let ⟨o,_,_,e',_⟩:=O'.ns;⟨o,e'⟩
 refine I.write (x:=a) (e:=dx) (by rw[e];exact Nr) (.inr ho) (λb q hb z=>(sb.2 b hb).trans z) hd ?_
 refine⟨by rw[aA O.ne];exact ho,?_,O.ne,O'.obj,_,O'.ns,λg=>?_,λg hg=>?_⟩
 ·have:=jm f y fs;omega
 ·show fv ((fu f y fs).lookup g) (if g=f then some u else mA g)
  rw[ju]
  by_cases q:g=f
  ·rw[if_pos q,if_pos q];exact ry
  ·rw[if_neg q,if_neg q];exact r g
 ·by_cases q:g=f
  ·rw[q];exact(jb f y fs).1
  ·refine(jb f y fs).2 g (wi g λz=>hg ?_)
   show (if g=f then some u else mA g)=none
   rw[if_neg q];exact z
theorem Inv.made(I:Inv X pins σ H s):Inv X pins σ (upd (upd H s.heap.objs.size (.own (s.heap.objs.size+1))) (s.heap.objs.size+1) (.ins C s.heap.objs.size []))
  { s with heap:=(s.heap.push MP).push (M5 C s.heap.objs.size) }:=by
 have e1:(s.heap.push MP).get? s.heap.objs.size=some MP:=L9 s.heap rfl
 have e2:((s.heap.push MP).push (M5 C s.heap.objs.size)).get? (s.heap.objs.size+1)=some (M5 C s.heap.objs.size):=by
  have:=L9 (s.heap.push MP) (o:=M5 C s.heap.objs.size) rfl
  rwa[OQ] at this
 have e3:(s.heap.push MP).Ns s.heap.objs.size (λ_=>none):=⟨MP,#[],_,e1,rfl,(λe he=>absurd he (by simp)),λ_=>rfl⟩
 have I1:=I.laid (a:=s.heap.objs.size) (o:=.own (s.heap.objs.size+1)) (h':=s.heap.push MP) (t':=s.toks) (λb u q=>LK _ q) (LU _) ⟨_,e1⟩
 refine I1.laid (a:=s.heap.objs.size+1) (o:=.ins C s.heap.objs.size []) (t':=s.toks) (λb u q=>LK _ q) (Qq (OQ _ _)) ?_
 have ne:s.heap.objs.size≠s.heap.objs.size+1:=Md (NR _)
 refine⟨by rw[aA ne,bj],MT _,ne,e2,λ_=>none,(Heap.Ns1.of_empty e3).at λo q=>LK _ q,λ_=>Nr,λy hy=>absurd rfl hy⟩
theorem AJ{prog:Program}{w:World}{env:Env}{e:Expr}{f:Str}{pos:Pos}{s:Shared}{Q:Value->Shared->Prop}(hb:attributeBase e f env (eval e env)=eval e env)
  (h:wpAny (model prog w) A (eval e env) (λo s₁=>wpAny (model prog w) A (getAttr o f true) Q E s₁) E s):wpAny (model prog w) A (eval (.Attribute e f pos) env) Q E s :=
 Attribute_any_ h (by rw[arm_eval_Attribute,hb])
end
noncomputable def Ld(K:LD)(ta:TE)(f:Str):TE:=λσ H Q=>ta σ H λx H1=>∃a C dx fs v,x=.ref a/\H1 a=some (.ins C dx fs)/\Cls K C/\dH K C f/\fs.lookup f=some v/\Q v H1
noncomputable def KG(K:LD)(ta tv:TE)(f:Str):TS:=λD σ H=>tv σ H λy H1=>ta σ H1 λx H2=>∃a C dx fs,x=.ref a/\H2 a=some (.ins C dx fs)/\Cls K C/\dH K C f/\fs.length<1000 /\
 D.nx σ (upd H2 a (.ins C dx (fu f y fs)))
section
variable{X:Cx}{o e value:Expr}{f:Str}{pos pos' tpos:Pos}{ta tv:TE}
theorem E6(he:PE X e ta)(hb:attributeBase e f X.env (eval e X.env)=eval e X.env):PE X (.Attribute e f pos) (Ld X.K ta f):=by
 intro pins s σ H Q I h
 refine AJ hb (thn (he pins s σ H _ I h) λu s1 ⟨x,H1,I1,rx,a,C,dx,fs,v,ex,ea,c,n,l,q⟩=>?_)
 subst ex
 obtain rfl:u=My a:=rx
 exact qq I1 ea c n l λu' s2 I2 ru=>⟨v,H1,I2,ru,q⟩
theorem Dk(ha:PE X o ta)(hv:PE X value tv)(hs:swapsWith value (some (.Attribute o f pos')) pos.line X.env=pure false):PS X (.Assign [.Attribute o f pos'] value pos) (KG X.K ta tv f):=by
 intro pins s σ H D I h
 refine plainObj_wpAny_Assign_Attribute (thn (hv pins s σ H _ I h) λu s1 ⟨y,H1,I1,ry,q⟩=>thn (ha pins s1 σ H1 _ I1 q) λov s2 ⟨x,H2,I2,rx,a,C,dx,fs,ex,ea,c,n,l,q2⟩=>?_) hs
 subst ex
 obtain rfl:ov=My a:=rx
 exact qr I2 ea c n l ry λs3 I3=>⟨σ,_,I3,q2⟩
theorem Cz{pl:Sem Bool}{m:Str}{apos:Pos}{args:List Expr}{pins:List (Addr×Obj)}{s:Shared}{σ:St}{H:Hp}{Q:Value->Shared->Prop}{te:TE}(he:PE X e te)(I:Inv X pins σ H s)
  (h:te σ H λx H1=>∃a C dx fs g,x=.ref a/\H1 a=some (.ins C dx fs)/\Cls X.K C/\Meth X.K C m g/\fs.lookup m=none /\
   ∀s1,Inv X pins σ H1 s1->wpAny (model X.prog X.w) X.A (callWith pos (.ref g) [.ref a] (backTo pos (starEach args X.env)) (backToKw pos (keywordEach [] X.env))) Q X.xe s1)
  (ht:eval (.Call (.Attribute e m apos) args [] pos) X.env=(do
   let ov <- eval e X.env
   standAt apos.atName
   let (f,first) <- holding [ov] (getMethod ov m pl)
   callWith pos f first (backTo pos (starEach args X.env)) (backToKw pos (keywordEach [] X.env)))) :
  wpAny (model X.prog X.w) X.A (eval (.Call (.Attribute e m apos) args [] pos) X.env) Q X.xe s:=by
 refine Oy (pl:=pl) (thn (he pins s σ H _ I h) λu s1 ⟨x,H1,I1,rx,a,C,dx,fs,g,ex,ea,c,k,l,q⟩=>?_) ht
 subst ex
 obtain rfl:u=My a:=rx
 exact hJ I1 ea c k l (q s1 I1)
end
section
variable{X:Cx}{pins:List (Addr×Obj)}{σ:St}{H:Hp}{s:Shared}{A:Around}{E:Value->Shared->Prop}{Q:Value->Shared->Prop}{c:Value}{b:Bool}
inductive jv (K:LD) (H:Hp):V->Value->Prop where
 | non:jv K H .non (.type "NoneType")
 | bl (x:Bool):jv K H (.bl x) (.type "bool")
 | int (i:Int):jv K H (.int i) (.type "int")
 | str (x:Str):jv K H (.str x) (.type "str")
 | flt (x:UInt64):jv K H (.flt x) (.type "float")
 | lst {a:Addr} {xs:List V} (e:H a=some (.lst xs)):jv K H (.ref a) (.type "list")
 | frz {a:Addr} {o:Obj} {xs:List V} (e:H a=some (.frz o (.lst xs))):jv K H (.ref a) (.type "list")
 | tup {a:Addr} {xs:List V} (e:H a=some (.tup xs)):jv K H (.ref a) (.type "tuple")
 | dK {a:Addr} {kvs:List (Key×V)} (e:H a=some (.dK kvs)):jv K H (.ref a) (.type "dict")
 | dT {a:Addr} {kvs:List (List Key×V)} (e:H a=some (.dT kvs)):jv K H (.ref a) (.type "dict")
 | ins {a C dx:Addr} {fs:List (Str×V)} (e:H a=some (.ins C dx fs)) (cl:Cls K C) (ha:MH K (.ref C) "__class__" = some (some (.builtin "object.__class__")))
   (hn:PySem.W.specialIn K (.builtin "object.__class__") "__get__" = some (some (.builtin "getset_descriptor.__get__"))) (htk:PySem.W.takesIn K (.builtin "object.__class__")=some true)
   (hm:PySem.W.mroIn K C (.type "object")=some true):jv K H (.ref a) (.ref C)
end
end L2
namespace L2
open PySem PySem.Spec PyProof.Rows
structure cj (k:Nat) (A:Around):Prop where
 hd:A.handled=none
 dp:A.depth+3*k+5<recursionLimit
 un:A.units+16*k+200<cLine
theorem cj.mono{j k:Nat}{A:Around}(r:cj k A)(h:j<=k):cj j A:=⟨r.hd,by have:=r.dp;omega,by have:=r.un;omega⟩
theorem cj.deeper{k:Nat}{A:Around}(r:cj (k+1) A)(env:Env):cj k (A.deeper env) :=
 ⟨r.hd,by have:=r.dp;show A.depth+1+3*k+5<_;omega,by have:=r.un;show A.units+3+16*k+200<_;omega⟩
theorem qD{A:Around}{C:Addr}{us:List Value}{kw:List (Str×Value)}:(A.under (.builtin "type.__call__" ⟨.ref C::us,kw⟩)).depth=A.depth+1:=by
 first|rfl|simp[Qd,Code.weight,Code.isCreation,Code.isGuard,Code.isCaller,RM,Qk,guardIds]
theorem pU{A:Around}{C:Addr}{us:List Value}{kw:List (Str×Value)}:(A.under (.builtin "type.__call__" ⟨.ref C::us,kw⟩)).units=A.units+1:=by
 first|rfl|simp[Qd,Code.cUnits,RM,Qk]
theorem cj.make{k:Nat}{A:Around}(r:cj (k+1) A)(C:Addr)(us:List Value)(kw:List (Str×Value)):cj k (A.under (.builtin "type.__call__" ⟨.ref C::us,kw⟩)) :=
 ⟨r.hd,by have:=r.dp;rw[qD];omega,by have:=r.un;rw[pU];omega⟩
theorem cj.depth{k:Nat}{A:Around}(r:cj k A):A.depth<recursionLimit:=by have:=r.dp;omega
theorem cj.units{k:Nat}{A:Around}(r:cj k A):A.units+64<cLine:=by have:=r.un;omega
noncomputable def DO:TA:=λ_ H Q=>Q [] H
noncomputable def B8(ta:TE)(tr:TA):TA:=λσ H Q=>ta σ H λx H1=>tr σ H1 λxs H2=>Q (x::xs) H2
section
variable{X:Cx}{e:Expr}{es:List Expr}{te:TE}{t:TA}{pos:Pos}
theorem eC:PA X [] DO:=λ_ _ _ _ H Q I h=>Ob ⟨[],H,I,.nil,h⟩
theorem bX(ha:PE X e te)(hr:PA X es t)(hs:starEach (e::es) X.env=(false,eval e X.env)::starEach es X.env:=by rfl):PA X (e::es) (B8 te t):=by
 intro pos pins s σ H Q I h
 rw[hs]
 show wpAny _ _ (spliced ((false,eval e X.env)::backTo pos (starEach es X.env))) _ _ s
 refine NZ (thn (ha pins s σ H _ I h) λu s1 ⟨x,H1,I1,r1,q1⟩=>?_)
 exact thn (hr pos pins s1 σ H1 _ I1 q1) λus s2 ⟨xs,H2,I2,r2,q2⟩=>⟨x::xs,H2,I2,.cons r1 r2,q2⟩
noncomputable def KR(t:TA):TE:=λσ H Q=>t σ H λxs H1=>xs.length<=sizeLine/\∀p,H1 p=none->Q (.ref p) (upd H1 p (.tup xs))
noncomputable def Lf(t:TA):TE:=λσ H Q=>t σ H λxs H1=>xs.length<=sizeLine/\∀p,H1 p=none->Q (.ref p) (upd H1 p (.lst xs))
theorem EE{x1}(h:PA X es t):PE X (.Tuple es x1 pos) (KR t):=by
 intro pins s σ H Q I hq
 refine wpAny_Tuple_spliced (thn (h pos pins s σ H _ I hq) λus s1 ⟨xs,H1,I1,r,z,q⟩=>⟨by rw[<- r.length];exact z,?_⟩)
 have hf:H1 s1.heap.objs.size=none:=I1.hok.fresh (LU _)
 refine⟨.ref s1.heap.objs.size,upd H1 s1.heap.objs.size (.tup xs),I1.laid (t':=s1.toks) (λb u e=>LK _ e) (LU _) ?_,rfl,q _ hf⟩
 exact⟨z,us,r,⟨_,L9 _ rfl,rfl,_,rfl,rfl⟩⟩
theorem Ge(h:PA X es t):PE X (.List es pos) (Lf t):=by
 intro pins s σ H Q I hq
 refine wpAny_List_spliced (thn (h pos pins s σ H _ I hq) λus s1 ⟨xs,H1,I1,r,z,q⟩=>⟨by rw[<- r.length];exact z,?_⟩)
 have hf:H1 s1.heap.objs.size=none:=I1.hok.fresh (LU _)
 refine⟨.ref s1.heap.objs.size,upd H1 s1.heap.objs.size (.lst xs),I1.laid (t':=s1.toks) (λb u e=>LK _ e) (LU _) ?_,rfl,q _ hf⟩
 exact⟨z,us,0,r,L9 _ rfl⟩
end
noncomputable abbrev Sp:=List V->Hp->VK->XK->Prop
noncomputable abbrev CXT:=List Env->Hp->Shared->XK->Value->Shared->Prop
structure qZ (P:Program) (w:World) (K:LD) (mg:Str->Option Value) (base:Heap) (A:Around) (outer:List Env) (s:Shared) (H:Hp):Prop where
 frames:A.frames=some outer
 mod:Mod K mg base
 bs:∀b o,base.get? b=some o->s.heap.get? b=some o/\H b=none
 bsz:base.objs.size<=s.heap.objs.size
 lE:s.heap.FunFrames base outer
 frf:∀b∈frs outer,H b=none
 hok:HOk P w H s.heap
 bare:AllBare s.gens
noncomputable def CE(outer:List Env)(P:Program)(w:World)(H:Hp)(s:Shared)(Q:VK)(u:Value)(s':Shared):Prop :=
 ∃v H',s'.os=s.os/\AllBare s'.gens/\Un (frs outer) [] H H' s.heap s'.heap/\HOk P w H' s'.heap/\RelV v u/\Q v H'
noncomputable def CR(CX:CXT)(outer:List Env)(P:Program)(w:World)(H:Hp)(s:Shared)(Q:VK)(E:XK)(r:Result)(s':Shared):Prop :=
 match r with
 | .ok (.ret u)=>CE outer P w H s Q u s'
 | .ok _=>False
 | .error e=>CX outer H s E e s'
structure cV (P:Program) (w:World) (K:LD) (mg:Str->Option Value) (base:Heap) (CX:CXT) (k:Nat) (f:Addr) (fd:FuncData) (ps:List Str) (sp:Sp):Prop where
 len:∀vs H Q E,sp vs H Q E->vs.length=ps.length
 run:∀(A:Around)(outer:List Env)(s:Shared)(H:Hp)(args:Args)(us:List Value)(vs:List V)(Q:VK)(E:XK),cj k A->qZ P w K mg base A outer s H->BindsTo s fd args (ps.zip us)->Vals vs us->sp vs H Q E ->
  codeAny (model P w) A (.call (.ref f) args) (CR CX outer P w H s Q E) s
theorem cV.mono{P:Program}{w:World}{K:LD}{mg:Str->Option Value}{base:Heap}{CX:CXT}{j k:Nat}{f:Addr}{fd:FuncData}{ps:List Str}{sp:Sp}(F:cV P w K mg base CX j f fd ps sp)(h:j<=k) :
  cV P w K mg base CX k f fd ps sp:=⟨F.len,λA outer s H args us vs Q E hr=>F.run A outer s H args us vs Q E (hr.mono h)⟩
theorem cV.imp{P:Program}{w:World}{K:LD}{mg:Str->Option Value}{base:Heap}{CX:CXT}{k:Nat}{f:Addr}{fd:FuncData}{ps:List Str}{sp sp':Sp}(F:cV P w K mg base CX k f fd ps sp)
  (h:∀vs H Q E,sp' vs H Q E->sp vs H Q E):cV P w K mg base CX k f fd ps sp' :=
 ⟨λvs H Q E q=>F.len vs H Q E (h _ _ _ _ q),λA outer s H args us vs Q E hr he hb hv hs=>F.run A outer s H args us vs Q E hr he hb hv (h _ _ _ _ hs)⟩
theorem qZ.make{P:Program}{w:World}{K:LD}{mg:Str->Option Value}{base:Heap}{A:Around}{outer:List Env}{s:Shared}{H:Hp}(e:qZ P w K mg base A outer s H)(C:Addr)(us:List Value)(kw:List (Str×Value)) :
  qZ P w K mg base (A.under (.builtin "type.__call__" ⟨.ref C::us,kw⟩)) outer s H:=⟨by first|exact e.frames|(simpa[Qd,Code.envs,Qk,pushEnvs] using e.frames),e.mod,e.bs,e.bsz,e.lE,e.frf,e.hok,e.bare⟩
section
variable{X:Cx}{pins:List (Addr×Obj)}{σ:St}{H:Hp}{s s':Shared}
theorem Inv.HJ(I:Inv X pins σ H s):qZ X.prog X.w X.K X.mg X.base X.A X.stack s H :=
 ⟨I.ok.frames,I.ok.mod,I.bs,Mf I.ok.bsz I.sz,I.stack,I.sD,I.hok,I.bare⟩
theorem Inv.after{Q:VK}{u:Value}(I:Inv X pins σ H s)(h:CE X.stack X.prog X.w H s Q u s'):EP X pins σ Q u s':=by
 obtain⟨v,H',os,bare,un,hok,r,q⟩:=h
 obtain⟨hh,g,d,t,os'⟩:=s'
 obtain rfl:os'=s.os:=os
 exact⟨v,H',I.call (h':=hh) (g':=g) (d':=d) (t':=t) (ch:=[]) un hok bare (λb z=>absurd z (by simp)),r,q⟩
end
noncomputable def Ig(sp:Sp)(dvs:List V)(E:XK)(t:TA):TE:=λσ H Q=>t σ H λvs H1=>sp (vs++dvs) H1 Q E
noncomputable def xo(C:Addr)(m:Str)(sp:Sp)(dvs:List V)(E:XK)(ta:TE)(t:TA):TE:=λσ H Q=>ta σ H λx H1=>∃a dx fs,x=.ref a/\H1 a=some (.ins C dx fs)/\fs.lookup m=none /\
 t σ H1 λvs H2=>sp (x::(vs++dvs)) H2 Q E
noncomputable def B4(C:Addr)(sp:Sp)(dvs:List V)(E:XK)(t:TA):TE:=λσ H Q=>t σ H λvs H1=>∀x dx,H1 x=none->H1 dx=none->dx≠x ->
 sp (.ref x::(vs++dvs)) (upd (upd H1 dx (.own x)) x (.ins C dx [])) (λv H2=>v=.non/\Q (.ref x) H2) E
noncomputable def Binds(K:LD)(fd:FuncData)(ps:List Str)(ds:List Value):Prop :=
 ∀(s:Shared)(us:List Value),K.In s.heap->(us++ds).length=ps.length->BindsTo s fd ⟨us,[]⟩ (ps.zip (us++ds))
theorem Binds.all{K:LD}{fd:FuncData}{ps:List Str}(h:∀us:List Value,us.length=ps.length->bindArgs fd ⟨us,[]⟩=pure (ps.zip us)):Binds K fd ps []:=λs us _ hl=>by
 rw[Mr] at hl ⊢
 exact .of_eq (h us hl)
def Passes(CX:CXT)(X:Cx)(E:XK):Prop:=∀(pins:List (Addr×Obj))(σ:St)(H:Hp)(s:Shared)(e:Value)(s':Shared),Inv X pins σ H s->CX X.stack H s E e s'->X.xe e s'
section
variable{X:Cx}{CX:CXT}{k:Nat}{f C:Addr}{fd:FuncData}{ps:List Str}{sp:Sp}{dvs:List V}{ds:List Value}{E:XK}{x m:Str}{p pos apos:Pos}{e o:Expr}{es:List Expr}{ta:TE}{t:TA}
theorem qf{pins:List (Addr×Obj)}{σ:St}{H:Hp}{s:Shared}{Q:VK}{us:List Value}{vs:List V}(F:cV X.prog X.w X.K X.mg X.base CX k f fd ps sp)(hr:cj k X.A)(hb:Binds X.K fd ps ds)(hd:Vals dvs ds)(hx:Passes CX X E)
  (I:Inv X pins σ H s)(r:Vals vs us)(h:sp (vs++dvs) H Q E):wpAny (model X.prog X.w) X.A (call (.ref f) us) (EP X pins σ Q) X.xe s:=by
 have r2:Vals (vs++dvs) (us++ds):=r.append hd
 have hl:(us++ds).length=ps.length:=by rw[<- r2.length];exact F.len _ _ _ _ h
 refine wpAny_call (codeAny_mono (F.run X.A X.stack s H ⟨us,[]⟩ (us++ds) (vs++dvs) Q E hr I.HJ (hb s us I.kIn hl) r2 h) λr s' hq=>?_)
 cases r with
 | error e=>exact hx pins σ H s e s' I hq
 | ok fl =>
  cases fl with
  | ret u=>exact I.after hq
  | next=>exact M8 hq
  | brk=>exact M8 hq
  | cont=>exact M8 hq
theorem Bp(F:cV X.prog X.w X.K X.mg X.base CX k f fd ps sp)(hr:cj k X.A)(hg:Gl X x)(hm:X.mg x=some (.ref f))(hk:M0 X.K (.ref f)=true)(hb:Binds X.K fd ps ds)(hd:Vals dvs ds)(hx:Passes CX X E)
  (ha:PA X (e::es) t)(hdb:NDb x:=by decide)(he:starEach (e::es) X.env=(false,eval e X.env)::starEach es X.env:=by rfl)(hpl:(backTo pos (starEach es X.env)).any (·.1)=false:=by rfl) :
  PE X (.Call (.Name x p) (e::es) [] pos) (Ig sp dvs E t):=by
 intro pins s σ H Q I h
 refine wpAny_Call_Name_kw (ou I hg hm ?_ hdb)
 refine OU (h₀:=X.base) I.ok.mod.kin hk (thn (ha pos pins s σ H _ I h) λus s1 ⟨vs,H1,I1,r,q⟩=>⟨I1.kIn,?_⟩) he hpl
 exact qf F hr hb hd hx I1 r q
theorem yV{pl:Sem Bool}(he:PE X o ta)(c:Cls X.K C)(hm:Meth X.K C m f)(F:cV X.prog X.w X.K X.mg X.base CX k f fd ps sp)(hr:cj k X.A)(hb:Binds X.K fd ps ds)(hd:Vals dvs ds)(hx:Passes CX X E)(ha:PA X (e::es) t)
  (hst:starEach (e::es) X.env=(false,eval e X.env)::starEach es X.env:=by rfl)(hpl:(backTo pos (starEach es X.env)).any (·.1)=false:=by rfl)
  (ht:eval (.Call (.Attribute o m apos) (e::es) [] pos) X.env=(do
   let ov <- eval o X.env
   standAt apos.atName
   let (f,first) <- holding [ov] (getMethod ov m pl)
   callWith pos f first (backTo pos (starEach (e::es) X.env)) (backToKw pos (keywordEach [] X.env))):=by rfl) :
  PE X (.Call (.Attribute o m apos) (e::es) [] pos) (xo C m sp dvs E ta t):=by
 intro pins s σ H Q I h
 refine Oy (pl:=pl) (thn (he pins s σ H _ I h) λu s1 ⟨x,H1,I1,rx,a,dx,fs,ex,ea,l,q⟩=>?_) ht
 subst ex
 obtain rfl:u=My a:=rx
 refine hJ I1 ea c hm l ?_
 refine OU (first:=[.ref a]) (h₀:=X.base) I.ok.mod.kin hm.kp (thn (ha pos pins s1 σ H1 _ I1 q) λus s2 ⟨vs,H2,I2,r,q2⟩=>⟨I2.kIn,?_⟩) hst hpl
 exact qf (us:=.ref a::us) (vs:=.ref a::vs) F hr hb hd hx I2 (.cons rfl r) q2
theorem xx{pl:Sem Bool}(he:PE X o ta)(c:Cls X.K C)(hm:Meth X.K C m f)(F:cV X.prog X.w X.K X.mg X.base CX k f fd ps sp)(hr:cj k X.A)(hb:Binds X.K fd ps ds)(hd:Vals dvs ds)(hx:Passes CX X E)
  (ht:eval (.Call (.Attribute o m apos) [] [] pos) X.env=(do
   let ov <- eval o X.env
   standAt apos.atName
   let (f,first) <- holding [ov] (getMethod ov m pl)
   callWith pos f first (backTo pos (starEach [] X.env)) (backToKw pos (keywordEach [] X.env))):=by rfl) :
  PE X (.Call (.Attribute o m apos) [] [] pos) (xo C m sp dvs E ta DO):=by
 intro pins s σ H Q I h
 refine Oy (pl:=pl) (thn (he pins s σ H _ I h) λu s1 ⟨x,H1,I1,rx,a,dx,fs,ex,ea,l,q⟩=>?_) ht
 subst ex
 obtain rfl:u=My a:=rx
 refine hJ I1 ea c hm l ?_
 exact PySem.W.callWith_K0 (first:=[.ref a]) I1.kIn hm.kp (qf (us:=[.ref a]) (vs:=[.ref a]) F hr hb hd hx I1 (.cons rfl .nil) q)
structure Mk (K:LD) (C f:Addr):Prop where
 makes:Pr K C=true
 init:MH K (.ref C) "__init__" = some (some (.ref f))
 fn:O5 K (.ref f)=true
 kp:M0 K (.ref C)=true
theorem vv{pins:List (Addr×Obj)}{σ:St}{H:Hp}{s:Shared}{Q:VK}{us:List Value}{vs:List V}(M:Mk X.K C f)(F:cV X.prog X.w X.K X.mg X.base CX k f fd ps sp)(hr:cj (k+1) X.A)(hb:Binds X.K fd ps ds)(hd:Vals dvs ds)
  (hx:Passes CX X E)(I:Inv X pins σ H s)(r:Vals vs us)
  (h:∀x dx,H x=none->H dx=none->dx≠x->sp (.ref x::(vs++dvs)) (upd (upd H dx (.own x)) x (.ins C dx [])) (λv H2=>v=.non/\Q (.ref x) H2) E) :
  wpAny (model X.prog X.w) X.A (call (.ref C) us) (EP X pins σ Q) X.xe s:=by
 have hq:=h (s.heap.objs.size+1) s.heap.objs.size (I.hok.fresh (NG _)) (I.hok.fresh (LU _)) (Md (NR _))
 have I2:=Inv.made (C:=C) I
 have r2:Vals (V.ref (s.heap.objs.size+1)::(vs++dvs)) (My (s.heap.objs.size+1)::(us++ds)):=.cons rfl (r.append hd)
 have hl:(My (s.heap.objs.size+1)::us++ds).length=ps.length:=by
  have e:=r2.length
  rw[F.len _ _ _ _ hq] at e
  exact e.symm
 refine wpAny_call (yI (f:=f) I.kIn M.makes M.init (beq_iff_eq.mp M.fn) (codeAny_mono (F.run _ X.stack _ _ ⟨My (s.heap.objs.size+1)::us,[]⟩ (My (s.heap.objs.size+1)::(us++ds)) _ _ E (hr.make C us [])
  (I2.HJ.make C us []) (hb _ (My (s.heap.objs.size+1)::us) I2.kIn hl) r2 hq) λr s' hq'=>?_))
 cases r with
 | error e=>exact hx pins σ _ _ e s' I2 hq'
 | ok fl =>
  cases fl with
  | ret u =>
   obtain⟨v,H',I3,rv,ev,q3⟩:=I2.after hq'
   subst ev
   exact⟨rv,⟨V.ref (s.heap.objs.size+1),H',I3,rfl,q3⟩⟩
  | next=>exact M8 hq'
  | brk=>exact M8 hq'
  | cont=>exact M8 hq'
theorem zW(M:Mk X.K C f)(F:cV X.prog X.w X.K X.mg X.base CX k f fd ps sp)(hr:cj (k+1) X.A)(hg:Gl X x)(hm:X.mg x=some (.ref C))(hb:Binds X.K fd ps ds)(hd:Vals dvs ds)(hx:Passes CX X E)
  (ha:PA X (e::es) t)(hdb:NDb x:=by decide)(he:starEach (e::es) X.env=(false,eval e X.env)::starEach es X.env:=by rfl)(hpl:(backTo pos (starEach es X.env)).any (·.1)=false:=by rfl) :
  PE X (.Call (.Name x p) (e::es) [] pos) (B4 C sp dvs E t):=by
 intro pins s σ H Q I h
 refine wpAny_Call_Name_kw (ou I hg hm ?_ hdb)
 refine OU (h₀:=X.base) I.ok.mod.kin M.kp (thn (ha pos pins s σ H _ I h) λus s1 ⟨vs,H1,I1,r,q⟩=>⟨I1.kIn,?_⟩) he hpl
 exact vv M F hr hb hd hx I1 r q
end
structure iH (N P:List Str) (sc:Scope):Prop where
 kind:sc.kind=.function
 co:sc.isCoroutine=false
 gen:sc.isGenerator=false
 nd:N.Nodup
 pre:N.take P.length=P
 par:∀x∈P,sc.names.lookup x=some .local\/sc.names.lookup x=some .cell
 nofree:∀y∈sc.names,y.2≠.free
theorem mF{kindOf:Str->Option NameKind}{x:Str}:∀{binds:List (Str×Value)}{m:Str->Option Value},(∀v,(x,v)∉binds)->bindL kindOf binds m x=m x
 | [],_,_=>rfl
 | (n,v)::r,m,h=>by
  unfold bindL
  rw[mF λw hw=>h w (LX _ hw)]
  split
  ·have:x≠n:=by rintro rfl;exact h v LW
   simp[this]
  ·rfl
theorem my{kindOf:Str->Option NameKind}{x:Str}:∀{binds:List (Str×Value)}{m:Str->Option Value},(∀v,(x,v)∉binds)->bindC kindOf binds m x=m x
 | [],_,_=>rfl
 | (n,v)::r,m,h=>by
  unfold bindC
  rw[my λw hw=>h w (LX _ hw)]
  split
  ·rfl
  ·have:x≠n:=by rintro rfl;exact h v LW
   simp[this]
theorem mQ{kindOf:Str->Option NameKind}{x:Str}{v:Value}:∀{P:List Str}{vs:List Value}{i:Nat}{m:Str->Option Value},P.Nodup->P[i]?=some x->vs[i]?=some v->kindOf x=some .local ->
  bindL kindOf (P.zip vs) m x=some v
 | [],_,_,_,_,h,_,_=>by simp at h
 | _::_,[],_,_,_,_,h,_=>by simp at h
 | p::P,w::vs,0,m,nd,h1,h2,hk=>by
  simp at h1 h2;subst h1;subst h2
  show bindL kindOf ((p,w)::P.zip vs) m p=_
  unfold bindL
  rw[mF λv hv=>(Mp.mp nd).1 (PD hv).1,if_pos hk]
  simp
 | p::P,w::vs,i+1,m,nd,h1,h2,hk=>by
  show bindL kindOf ((p,w)::P.zip vs) m x=_
  unfold bindL
  exact mQ (i:=i) (Mp.mp nd).2 (by simpa using h1) (by simpa using h2) hk
theorem lX{kindOf:Str->Option NameKind}{x:Str}{v:Value}:∀{P:List Str}{vs:List Value}{i:Nat}{m:Str->Option Value},P.Nodup->P[i]?=some x->vs[i]?=some v->kindOf x≠some .local ->
  bindC kindOf (P.zip vs) m x=some v
 | [],_,_,_,_,h,_,_=>by simp at h
 | _::_,[],_,_,_,_,h,_=>by simp at h
 | p::P,w::vs,0,m,nd,h1,h2,hk=>by
  simp at h1 h2;subst h1;subst h2
  show bindC kindOf ((p,w)::P.zip vs) m p=_
  unfold bindC
  rw[my λv hv=>(Mp.mp nd).1 (PD hv).1,if_neg hk]
  simp
 | p::P,w::vs,i+1,m,nd,h1,h2,hk=>by
  show bindC kindOf ((p,w)::P.zip vs) m x=_
  unfold bindC
  exact lX (i:=i) (Mp.mp nd).2 (by simpa using h1) (by simpa using h2) hk
noncomputable def start(N:List Str)(vs:List V):St:=vs.map some++L7 (N.length-vs.length) none
noncomputable def qQ(CX:CXT)(P:Program)(w:World)(K:LD)(mg:Str->Option Value)(base:Heap)(N:List Str)(qual:Str)(scope:Scope)(f:Addr)(cd:Value)(A:Around)(outer:List Env)(s:Shared)(H:Hp)(E:XK):Cx where
 prog:=P
 w:=w
 K:=K
 mg:=mg
 base:=base
 A:=A.deeper (envOfC qual scope s.heap.objs.size f cd)
 N:=N
 s₀:=s
 H₀:=H
 env:=envOfC qual scope s.heap.objs.size f cd
 outer:=outer
 stack:=envOfC qual scope s.heap.objs.size f cd::outer
 ex:=[]
 calm:=true
 fn:=λ_=>true
 pn:=[]
 xe:=λe s'=>wpAny (model P w) (A.deeper (envOfC qual scope s.heap.objs.size f cd)) (leaving (envOfC qual scope s.heap.objs.size f cd) e) (λ_ s''=>CX outer H s E e s'') (λe' s''=>CX outer H s E e' s'') s'
theorem oT{sc:Scope}{n:Nat}{x:Str}(h:sc.names.lookup x=some .cell):∃c,(cellsFrom n sc.names []).lookup x=some c:=by
 have q:=P0 sc.names n [] (.inl h)
 exact Option.isSome_iff_exists.mp q
theorem uw{CX:CXT}{P:Program}{w:World}{K:LD}{mg:Str->Option Value}{base:Heap}{N ps:List Str}{qual:Str}{scope:Scope}{f:Addr}{cd:Value}{A:Around}{outer:List Env}{s s1:Shared}{H:Hp}{E:XK}{us:List Value}{vs:List V}
  (S:iH N ps scope)(hd:A.handled=none)(e0:qZ P w K mg base A outer s H)(hl:vs.length=ps.length)(r:Vals vs us)
  (x:InCallC s s.heap.objs.size (bindL (envOfC qual scope s.heap.objs.size f cd).kindOf (ps.zip us) λ_=>none) (cellsFrom (s.heap.objs.size+1) scope.names []) (bindC (envOfC qual scope s.heap.objs.size f cd).kindOf (ps.zip us) λ_=>none) s1) :
  Inv (qQ CX P w K mg base N qual scope f cd A outer s H E) [] (start N vs) H s1:=by
 have hpl:ps.length<=N.length:=by have:=congrArg M7 S.pre;rw[Mm] at this;omega
 obtain⟨h1,tk,rfl,hk⟩:=x.done
 have noA:∀b:Addr,b∉(qQ CX P w K mg base N qual scope f cd A outer s H E).ex:=λb z=>absurd (show b∈([]:List Addr) from z) (by simp)
 refine⟨⟨e0.mod,S.kind,rfl,rfl,LU _,λy z c h1 h2=>?_,λy hy=>?_,λy c _ h=>?_,λ_=>hd,Around.frames_deeper e0.frames,.inr ⟨rfl,rfl⟩,λb z=>absurd z (noA b),e0.bs,e0.bsz,λb _ _=>noA b,λb z=>absurd z (noA b),e0.lE,e0.frf⟩,
  rfl,e0.bare,Un.kept hk,⟨_,x.toInCall.ns,λi y v h1 h2 h3=>?_⟩,λy c h=>⟨_,x.cell y c h⟩,e0.hok.fresh (LU _),λy c h=>?_,λp hp=>absurd (show p∈([]:List (Addr×Obj)) from hp) (by simp),e0.hok.kept hk,?_⟩
 ·exact name_of_addr x.apart (Na h1) (Na h2)
 ·have hy:scope.names.lookup y=some .cell\/scope.names.lookup y=some .free:=hy
  rcases hy with hy|hy
  ·exact oT hy
  ·exact absurd rfl (S.nofree _ (Na hy))
 ·exact NY (x.above y c (Na h))
 ·have hi:i<vs.length:=by
   unfold start at h2
   by_cases hi:i<vs.length
   ·exact hi
   ·rw[MQ (by simpa using hi)] at h2
    rw[Qh] at h2
    split at h2<;>cases h2
  have ha:vs[i]?=some v:=by
   unfold start at h2
   rw[MK (by simpa using hi),LZ] at h2
   cases e:vs[i]? with
   | none=>rw[e] at h2;cases h2
   | some a=>rw[e] at h2;cases h2;rfl
  obtain⟨u,hu,rv⟩:=r.get ha
  have hp:ps[i]?=some y:=by
   rw[<- S.pre,Og (by omega)];exact h1
  have ndP:ps.Nodup:=by rw[<- S.pre];exact S.nd.sublist (Pj _ _)
  refine⟨u,rv,?_⟩
  rcases S.par y (Mc hp) with k|k
  ·exact .inl ⟨k,mQ ndP hp hu k⟩
  ·obtain⟨c,e⟩:=oT (n:=s.heap.objs.size+1) k
   refine .inr ⟨.inl k,c,e,?_⟩
   have q:=x.cell y c e
   rw[lX ndP hp hu (by show scope.names.lookup y≠_;rw[k];decide)] at q
   exact q
 ·exact e0.hok.fresh (NY (x.above y c (Na h)))
 ·unfold start
  show _=N.length
  rw[L4,LH,Qr]
  omega
theorem Ip{CX:CXT}{P:Program}{w:World}{K:LD}{mg:Str->Option Value}{base:Heap}{k:Nat}{f:Addr}{name qual:Str}{params:Arguments}{body:List Stmt}{scope:Scope}{dV kV doc pm cdv ct oc:Value}{an od:Option Addr}
  {osl:Array (Option Value)}{N ps:List Str}{sp:Sp}(lk:K.lookup f=some ⟨oc,od,.func (NF name qual params body scope dV kV doc pm an cdv ct),osl⟩)(hcd:OG K cdv qual=true)(S:iH N ps scope)
  (len:∀vs H Q E,sp vs H Q E->vs.length=ps.length)
  (hbody:∀(A:Around)(outer:List Env)(s:Shared)(H:Hp)(vs:List V)(Q:VK)(E:XK),cj k (A.deeper (envOfC qual scope s.heap.objs.size f cdv))->sp vs H Q E ->
   ∃t,PSs (qQ CX P w K mg base N qual scope f cdv A outer s H E) body t/\t { nx:=λ_ H'=>Q .non H',rt:=Q } (start N vs) H) :
  cV P w K mg base CX (k+1) f (NF name qual params body scope dV kV doc pm an cdv ct) ps sp:=by
 refine⟨len,λA outer s H args us vs Q E hr e0 hb r hsp=>?_⟩
 have hl:=len _ _ _ _ hsp
 have KX:K.In s.heap:=e0.mod.kin.keeps λb o e=>(e0.bs b o e).1
 have lim:s.heap.NoLimit:=e0.mod.nolimit.keeps λb o e=>(e0.bs b o e).1
 have hkind:∀y∈ps.zip us,scope.names.lookup y.1=some .local\/(scope.names.lookup y.1=some .cell/\((cellsFrom (s.heap.objs.size+1) scope.names []).lookup y.1).isSome=true):=λ⟨n,v⟩ hy=>by
  rcases S.par n (PD hy).1 with q|q
  ·exact .inl q
  ·exact .inr ⟨q,P0 _ _ _ (.inl q)⟩
 refine codeAny_call_function hr.depth (KX _ _ lk) rfl S.co S.gen rfl (PySem.W.codeRec_of KX hcd) (hb _ _ _ _ ?_)
 refine wpAny_newFunctionEnv_cells S.kind hkind λenv he s1 x=>?_
 subst he
 refine⟨lim.keeps x.toInCall.keep,codeAny_func ?_⟩
 obtain⟨t,ht,hq⟩:=hbody A outer s H vs Q E (hr.deeper _) hsp
 have I:Inv (qQ CX P w K mg base N qual scope f cdv A outer s H E) [] (start N vs) H s1:=uw S hr.hd e0 hl r x
 refine wpAny_mono (ht [] s1 (start N vs) H _ I hq) (λfl s' hs=>?_) λe s' hs=>hs
 have fin:∀{σ':St}{H':Hp}{v:V}{u:Value},Inv (qQ CX P w K mg base N qual scope f cdv A outer s H E) [] σ' H' s'->RelV v u->Q v H'->CE outer P w H s Q u s' :=
  λ{σ' H' v u} J rv q=>⟨v,H',J.os,J.bare,J.base,J.hok,rv,q⟩
 cases fl with
 | ret u =>
  obtain⟨v,σ',H',J,rv,q⟩:=hs
  exact fin J rv q
 | next =>
  obtain⟨σ',H',J,q⟩:=hs
  exact fin (v:=V.non) (u:=O3) J rfl q
 | brk =>
  obtain⟨_,_,_,q⟩:=hs
  exact M8 q
 | cont =>
  obtain⟨_,_,_,q⟩:=hs
  exact M8 q
end L2
namespace L2
open PySem PySem.Spec PyProof.Rows
section
variable{X:Cx}{x:Str}{p pos:Pos}{e:Expr}{es:List Expr}{t:TA}{id T:String}{r:List V->Hp->VK->Prop}
noncomputable def tCB(r:List V->Hp->VK->Prop)(t:TA):TE:=λσ H Q=>t σ H λvs H1=>r vs H1 Q
theorem j0(hc:bR X (.builtin id) r)(hg:Gl X x)(hm:X.mg x=none)(hv:bootBuiltins x=some (.builtin id))(ha:PA X (e::es) t)(hn:x ≠ "__name__" := by decide)(hdb:NDb x:=by decide)
  (he:starEach (e::es) X.env=(false,eval e X.env)::starEach es X.env:=by rfl)(hpl:(backTo pos (starEach es X.env)).any (·.1)=false:=by rfl):PE X (.Call (.Name x p) (e::es) [] pos) (tCB r t):=by
 intro pins s σ H Q I h
 refine wpAny_Call_Name_kw (hV I hg hm hv ?_ hn hdb)
 exact R1 (thn (ha pos pins s σ H _ I h) λus s1 ⟨vs,H1,I1,r1,q1⟩=>hc pins s1 σ H1 vs us Q I1 r1 q1) he hpl
theorem uG(hc:bR X (.type T) r)(hg:Gl X x)(hm:X.mg x=none)(hv:bootBuiltins x=some (.type T))(ha:PA X (e::es) t)(hn:x ≠ "__name__" := by decide)(hdb:NDb x:=by decide)
  (he:starEach (e::es) X.env=(false,eval e X.env)::starEach es X.env:=by rfl)(hpl:(backTo pos (starEach es X.env)).any (·.1)=false:=by rfl):PE X (.Call (.Name x p) (e::es) [] pos) (tCB r t):=by
 intro pins s σ H Q I h
 refine wpAny_Call_Name_kw (hV I hg hm hv ?_ hn hdb)
 exact MY (thn (ha pos pins s σ H _ I h) λus s1 ⟨vs,H1,I1,r1,q1⟩=>hc pins s1 σ H1 vs us Q I1 r1 q1) he hpl
end
end L2
namespace HT
open PySem PyProof.Rows
section
variable{prog:Program}{w:World}{A:Around}{E:Value->Shared->Prop}{s:Shared}
theorem BQ{t b:Addr}{vs ws:List Value}{Q:Value->Shared->Prop}(ht:IsTup s.heap t vs.toArray)(hb:IsTup s.heap b ws.toArray)(hv:vs≠[])
  (h1:ws=[]->Q (.ref t) s)(h2:ws≠[]->Q (.ref s.heap.objs.size) { s with heap:=s.heap.push { cls:=.type "tuple",data:=.seq (vs++ws).toArray } })
  (hsz:vs.length+ws.length<=sizeLine):wpAny (model prog w) A (binaryOp .Add (.ref t) (.ref b)) Q E s:=by
 obtain⟨⟨cls,dd,data,sl⟩,ho,hc,n,hd⟩:=id ht
 obtain⟨⟨cls2,dd2,data2,sl2⟩,ho2,hc2,n2,hd2⟩:=id hb
 simp only at hc hd hc2 hd2
 subst hc hd hc2 hd2
 have e:vs.toArray++ws.toArray=(vs++ws).toArray:=by simp
 by_cases hw:ws=[]
 ·exact concat_meets ⟨_,ho,rfl⟩ ⟨_,ho2,rfl⟩ noFill_tuple_add seq_tuple_add Ol Od (N9 _ _)
   (tuple_addW1 t b vs.toArray ws.toArray n n2 dd dd2 sl sl2 (by simpa using hv) (by simp[hw])) ⟨ho,ho2,h1 hw⟩
 ·refine concat_meets ⟨_,ho,rfl⟩ ⟨_,ho2,rfl⟩ noFill_tuple_add seq_tuple_add Ol Od (N9 _ _)
   (tuple_addW2 t b vs.toArray ws.toArray n n2 dd dd2 sl sl2 (by simpa using hv) (by simpa using hw) (by rw[LM,LM];exact hsz)) ⟨ho,ho2,?_⟩
  rw[e]
  exact h2 hw
noncomputable def sIx(n d:Nat):Option Int->Nat
 | none=>d
 | some v=>if v<0 then (v+(n:Int)).toNat else min v.toNat n
theorem DS(n d:Nat)(hd:d<=n)(o:Option Int):sIx n d o<=n:=by
 cases o with
 | none=>exact hd
 | some v =>
  show (if v<0 then (v+(n:Int)).toNat else min v.toNat n)<=n
  by_cases hv:v<0
  ·rw[if_pos hv];omega
  ·rw[if_neg hv];exact Nat.min_le_right _ _
theorem rX(v:Int)(n d:Nat):(if v<0 then max (v+(n:Int)) 0 else min v (n:Int))=((sIx n d (some v):Nat):Int):=by
 show (if v<0 then max (v+(n:Int)) 0 else min v (n:Int))=(((if v<0 then (v+(n:Int)).toNat else min v.toNat n):Nat):Int)
 by_cases hv:v<0
 ·simp only[if_pos hv];omega
 ·simp only[if_neg hv];omega
theorem qd(lo hi:Option Int)(n:Nat):NS lo hi 1 (n:Int)=(((sIx n 0 lo:Nat):Int),((sIx n n hi:Nat):Int)):=by
 have h1:¬ ((1:Int)<0):=by omega
 unfold NS
 simp only[h1,if_false]
 refine Prod.ext ?_ ?_
 ·cases lo with
  | none=>rfl
  | some v=>exact rX v n 0
 ·cases hi with
  | none=>rfl
  | some v=>exact rX v n n
theorem qB(i j:Nat):Ni (i:Int) (j:Int) 1=j-i:=by
 unfold Ni
 have h1:(1:Int) > 0:=by omega
 simp only[h1,if_true,Int.ediv_one]
 split<;>omega
theorem kI{v:Value}{o:Option Int}{Q:Option Int->Shared->Prop}(p:IsPart v o)(h:Q o s):wpAny (model prog w) A (RN v) Q E s:=by
 cases p with
 | none=>exact slicePart_none h
 | int i t=>exact slicePart_int h
theorem iP{sl:Addr}{vl vu:Value}{lo hi:Option Int}{n:Nat}{Q:Int×Int×Nat->Shared->Prop}(hs:s.heap.IsSliceOf sl vl vu .none)(pl:IsPart vl lo)(pu:IsPart vu hi)
  (h:Q (((sIx n 0 lo:Nat):Int),1,sIx n n hi-sIx n 0 lo) s):wpAny (model prog w) A (O7 (.ref sl) (pure (n:Int))) Q E s:=by
 obtain⟨os,hos,hcs,hds⟩:=id hs
 unfold O7 RO
 refine wpAny_bind (wpAny_bind (wpAny_field hos hds (x:=vl) rfl (wpAny_bind (wpAny_field hos hds (x:=vu) rfl (wpAny_bind (wpAny_field hos hds (x:=.none) rfl (wpAny_pure ?_)))))))
 refine wpAny_bind (slicePart_none ?_)
 show wpAny _ _ (if ((1:Int)==0)=true then _ else _) _ _ s
 rw[if_neg (by decide)]
 refine wpAny_bind (kI pl (wpAny_bind (kI pu (wpAny_bind (wpAny_pure ?_)))))
 show wpAny _ _ (match NS lo hi 1 (n:Int) with|(lo,hi)=>pure (lo,(1:Int),Ni lo hi 1)) _ _ s
 rw[qd lo hi n]
 show wpAny _ _ (pure (((sIx n 0 lo:Nat):Int),(1:Int),Ni ((sIx n 0 lo:Nat):Int) ((sIx n n hi:Nat):Int) 1)) _ _ s
 rw[qB]
 exact wpAny_pure h
theorem yq(xs:Array Value)(i k:Nat):((Mo k).filterMap λ(m:Nat)=>xs[((i:Int)+(m:Int)*1).toNat]?).toArray=((xs.toList.drop i).take k).toArray:=by
 have e:(λ(m:Nat)=>xs[((i:Int)+(m:Int)*1).toNat]?)=λm=>xs[i+m]?:=by
  funext m
  have:((i:Int)+(m:Int)*1).toNat=i+m:=by omega
  rw[this]
 rw[e]
 have:=pick_run xs i k
 rw[List.filterMap_map] at this
 have e2:((λx=>xs[x]?)∘λx=>i+x)=λm=>xs[i+m]?:=rfl
 rw[e2] at this
 rw[this]
theorem iB{t sl:Addr}{items:Array Value}{vl vu:Value}{lo hi:Option Int}{Q:Value->Shared->Prop}(ht:IsTup s.heap t items)(hs:s.heap.IsSliceOf sl vl vu .none)(pl:IsPart vl lo)(pu:IsPart vu hi)
  (hw:¬ (sIx items.size 0 lo=0/\sIx items.size items.size hi=items.size))
  (h:Q (.ref s.heap.objs.size) { s with heap:=s.heap.push { cls:=.type "tuple",data:=.seq ((items.toList.drop (sIx items.size 0 lo)).take (sIx items.size items.size hi-sIx items.size 0 lo)).toArray } })
  (hsz:items.size<=sizeLine):wpAny (model prog w) A (getItem (.ref t) (.ref sl)) Q E s:=by
 have htake:sizeOk (.seq ((items.toList.drop (sIx items.size 0 lo)).take (sIx items.size items.size hi-sIx items.size 0 lo)).toArray):=by
  show ((items.toList.drop (sIx items.size 0 lo)).take (sIx items.size items.size hi-sIx items.size 0 lo)).toArray.size<=sizeLine
  rw[LM,Mm,Om,ML]
  omega
 have hj:sIx items.size items.size hi<=items.size:=DS _ _ (LU _) hi
 obtain⟨os,hos,hcs,hds⟩:=id hs
 have hTs:s.TypeIs (.ref sl) "slice" := ⟨os,hos,hcs⟩
 unfold getItem
 try with_reducible refine wpAny_holding ?_
 first|refine wpAny_bind (wpAny_pure ?_)|skip
 refine wpAny_bind (wpAny_sequenceKey ht.typeIs (by decide) ?_)
 refine wpAny_bind (wpAny_callSpecial?_slot (name:=Str.ofString "__getitem__") ht.typeIs Nz
  (wpAny_call_entry Nz ht.typeIs entry_tuple_getitem ?_ (args_tuple_getitem _ _)))
 show wpAny _ _ (RP (.ref t) >>= _) _ _ s
 refine wpAny_bind (tupleItemsOf_ ht ?_)
 refine wpAny_bind (wpAny_typeOf hTs ?_)
 rw[if_pos (by decide)]
 refine wpAny_bind (iP hs pl pu ?_)
 have hno:¬ ((((sIx items.size 0 lo:Nat):Int)==0&&(1:Int)==1&&(sIx items.size items.size hi-sIx items.size 0 lo)==items.size)=true):=by
  intro q
  rw[LG,LG] at q
  have q1:((sIx items.size 0 lo:Nat):Int)=0:=eq_of_beq q.1.1
  have q2:sIx items.size items.size hi-sIx items.size 0 lo=items.size:=eq_of_beq q.2
  exact hw ⟨by omega,by omega⟩
 show wpAny _ _ (if (((sIx items.size 0 lo:Nat):Int)==0&&(1:Int)==1&&(sIx items.size items.size hi-sIx items.size 0 lo)==items.size)=true then _ else _) _ _ s
 rw[if_neg hno,yq]
 first
  | exact wpAny_bind (m:=Nm _) (wpAny_newObj_type (wpAny_pure ⟨_,rfl,wpAny_pure h⟩) htake)
  | exact wpAny_bind (m:=Nm _) (wpAny_newObj_type (wpAny_bind (wpAny_pure (wpAny_pure ⟨_,rfl,wpAny_pure h⟩))) htake)
  | exact wpAny_bind (wpAny_bind (m:=Nm _) (wpAny_newObj_type (wpAny_pure (wpAny_pure ⟨_,rfl,wpAny_pure h⟩)) htake))
  | exact wpAny_bind (wpAny_bind (m:=Nm _) (wpAny_newObj_type (wpAny_pure ⟨_,rfl,wpAny_pure h⟩) htake))
end
end HT
namespace L2
open PySem PySem.Spec PyProof.Rows
noncomputable abbrev TO:=St->Hp->(Option Int->Hp->Prop)->Prop
noncomputable def PO(X:Cx)(e:Option Expr)(t:TO):Prop :=
 ∀(pins:List (Addr×Obj))(s:Shared)(σ:St)(H:Hp)(Q:Option Int->Hp->Prop),Inv X pins σ H s->t σ H Q ->
  wpAny (model X.prog X.w) X.A (evalPart e X.env) (λu s'=>∃o H',Inv X pins σ H' s'/\IsPart u o/\Q o H') X.xe s
noncomputable def Bo:TO:=λ_ H Q=>Q none H
noncomputable def HN(t:TE):TO:=λσ H Q=>t σ H λx H1=>∃i,x=.int i/\Q (some i) H1
section
variable{X:Cx}{e:Expr}{te:TE}{lo hi:Option Expr}{tl th:TO}{pos p2:Pos}
theorem y6:PO X none Bo:=by
 intro pins s σ H Q I h
 rw[evalPart_none]
 exact wpAny_pure ⟨none,H,I,.none,h⟩
theorem zI(h:PE X e te):PO X (some e) (HN te):=by
 intro pins s σ H Q I hw
 rw[evalPart_some]
 refine thn (h pins s σ H _ I hw) λu s1 ⟨x,H1,I1,r1,q1⟩=>?_
 obtain⟨i,rfl,q⟩:=q1
 obtain⟨t,rfl⟩:=r1
 exact⟨some i,H1,I1,.int i t,q⟩
noncomputable def SlR(X:Cx)(r:V->Option Int->Option Int->Hp->VK->Prop):Prop :=
 ∀(pins:List (Addr×Obj))(s:Shared)(σ:St)(H:Hp)(x:V)(v vl vu:Value)(lo hi:Option Int)(sl:Addr)(Q:VK),Inv X pins σ H s->RelV x v->s.heap.IsSliceOf sl vl vu .none->IsPart vl lo->IsPart vu hi->r x lo hi H Q ->
  ∃T id,typeLookup (.type T) "__getitem__" = pure (some (.builtin id))/\s.TypeIs v T/\wpAny (model X.prog X.w) X.A (getItem v (.ref sl)) (EP X pins σ Q) X.xe s
theorem SlR.or{r r':V->Option Int->Option Int->Hp->VK->Prop}(h:SlR X r)(h':SlR X r'):SlR X (λx lo hi H Q=>r x lo hi H Q\/r' x lo hi H Q):=by
 intro pins s σ H x v vl vu lo hi sl Q I rx hs pl pu q
 rcases q with q|q
 ·exact h pins s σ H x v vl vu lo hi sl Q I rx hs pl pu q
 ·exact h' pins s σ H x v vl vu lo hi sl Q I rx hs pl pu q
noncomputable def tSl(r:V->Option Int->Option Int->Hp->VK->Prop)(te:TE)(tl th:TO):TE:=λσ H Q=>te σ H λx H1=>tl σ H1 λl H2=>th σ H2 λu H3=>r x l u H3 Q
theorem wD{r:V->Option Int->Option Int->Hp->VK->Prop}(hr:SlR X r)(he:PE X e te)(hl:PO X lo tl)(hu:PO X hi th):PE X (.Subscript e (.Slice lo hi none p2) pos) (tSl r te tl th):=by
 intro pins s σ H Q I h
 refine Subscript_ (thn (he pins s σ H _ I h) λv s1 ⟨x,H1,I1,r1,q1⟩=>?_)
 refine wpAny_Slice (thn (hl pins s1 σ H1 _ I1 q1) λvl s2 ⟨l,H2,I2,pl,q2⟩=>thn (hu pins s2 σ H2 _ I2 q2) λvu s3 ⟨u,H3,I3,pu,q3⟩=>?_)
 rw[evalPart_none]
 refine wpAny_pure ?_
 have I4:Inv X pins σ H3 { s3 with heap:=s3.heap.push { cls:=.type "slice",data:=.fields #[vl,vu,.none] } }:=I3.kept (t':=s3.toks) λb ob q=>LK _ q
 obtain⟨T,id,hT,ht,hg⟩:=hr pins { s3 with heap:=s3.heap.push { cls:=.type "slice",data:=.fields #[vl,vu,.none] } } σ H3 x v vl vu l u s3.heap.objs.size Q I4 r1 (RG ..) pl pu q3
 show wpAny (model X.prog X.w) X.A (subscriptTail e (.Slice lo hi none p2) v (.ref s3.heap.objs.size)) (EP X pins σ Q) X.xe { s3 with heap:=s3.heap.push { cls:=.type "slice",data:=.fields #[vl,vu,.none] } }
 exact tail_any (ops:=[.ref s3.heap.objs.size,v]) ht hT hg (by with_unfolding_all rfl)
noncomputable def nU(xs:List V)(lo hi:Option Int):List V:=(xs.drop (HT.sIx xs.length 0 lo)).take (HT.sIx xs.length xs.length hi-HT.sIx xs.length 0 lo)
theorem js(xs:List V)(lo hi:Option Int):(nU xs lo hi).length<=xs.length:=by
 unfold nU
 rw[Mm,Om]
 omega
noncomputable def Lo(K:LD):V->Option Int->Option Int->Hp->VK->Prop:=λx lo hi H Q=>∃a xs,x=.ref a/\SqT K H a xs /\
 ¬ (HT.sIx xs.length 0 lo=0/\HT.sIx xs.length xs.length hi=xs.length)/\∀p,H p=none->Q (.ref p) (upd H p (.tup (nU xs lo hi)))
theorem C0:SlR X (Lo X.K):=by
 intro pins s σ H x v vl vu lo hi sl Q I rx hs pl pu h
 obtain⟨a,xs,rfl,hx,hw,q⟩:=h
 cases rx
 obtain⟨its,r,ht,hz⟩:=I.tuple hx
 have hlen:its.toArray.size=xs.length:=by rw[LM];exact r.length.symm
 refine⟨"tuple",_,Nz.lookup,ht.typeIs,?_⟩
 refine HT.iB ht hs pl pu (by rw[hlen];exact hw) ?_ (by rw[hlen];exact hz)
 rw[hlen]
 refine⟨.ref s.heap.objs.size,_,I.laid (t':=s.toks) (o:=.tup (nU xs lo hi)) (λb ob q=>LK _ q) (LU _) ?_,rfl,q _ (I.hok.fresh (LU _))⟩
 exact⟨Mf (js xs lo hi) hz,_,(r.drop (HT.sIx xs.length 0 lo)).take (HT.sIx xs.length xs.length hi-HT.sIx xs.length 0 lo),fN.new _ _⟩
noncomputable def HD(K:LD):R2:=λx y H Q=>∃a b xs ys,x=.ref a/\y=.ref b/\SqT K H a xs/\SqT K H b ys/\xs≠[]/\xs.length+ys.length<=sizeLine /\
 (ys=[]->Q (.ref a) H)/\(ys≠[]->∀p,H p=none->Q (.ref p) (upd H p (.tup (xs++ys))))
theorem Vals.m7{xs:List V}{us:List Value}(r:Vals xs us):us=[]↔xs=[]:=by
 cases r with
 | nil=>simp
 | cons _ _=>simp
theorem yW:OpR X (binaryOp .Add) (HD X.K):=by
 intro pins s σ H x y v u Q I rx ry h
 obtain⟨a,b,xs,ys,rfl,rfl,ha,hb,hx,hz,q1,q2⟩:=h
 cases rx
 cases ry
 obtain⟨its,r1,p1,_⟩:=I.tuple ha
 obtain⟨its2,r2,p2,_⟩:=I.tuple hb
 refine HT.BQ p1 p2 (λz=>hx (r1.m7.mp z)) (λz=>⟨.ref a,H,I,rfl,q1 (r2.m7.mp z)⟩) (λz=>?_) (by rw[<- r1.length,<- r2.length];exact hz)
 refine⟨.ref s.heap.objs.size,_,I.laid (t':=s.toks) (o:=.tup (xs++ys)) (λb ob q=>LK _ q) (LU _) ?_,rfl,q2 (λw=>z (r2.m7.mpr w)) _ (I.hok.fresh (LU _))⟩
 exact⟨by rw[L4];exact hz,_,r1.append r2,fN.new _ _⟩
end
end L2
namespace L2
open PySem PySem.Spec PyProof.Rows
noncomputable def ixN(n:Nat)(i:Int):Option Nat:=if 0<=i then (if i<n then some i.toNat else none) else if -(n:Int)<=i then some (i+n).toNat else none
noncomputable def atI{α:Type}(xs:List α)(i:Int):Option α:=(ixN xs.length i).bind λj=>xs[j]?
theorem sx{n:Nat}{i:Int}{j:Nat}(h:ixN n i=some j):seqIndex? i n=some j/\j<n /\ -(n:Int)<=i/\i<n:=by
 unfold ixN at h
 by_cases h0:0<=i
 ·rw[if_pos h0] at h
  by_cases h1:i<n
  ·rw[if_pos h1] at h
   have e:i.toNat=j:=LY h
   exact⟨by rw[seqIndex_of h0 h1,e],by omega,by omega,h1⟩
  ·rw[if_neg h1] at h;cases h
 ·rw[if_neg h0] at h
  by_cases h1:-(n:Int)<=i
  ·rw[if_pos h1] at h
   have e:(i+n).toNat=j:=LY h
   exact⟨by rw[seqIndex_neg (by omega) h1,e],by omega,h1,by omega⟩
  ·rw[if_neg h1] at h;cases h
theorem mX{α:Type}{xs:List α}{i:Int}{v:α}(h:atI xs i=some v):∃j,seqIndex? i xs.length=some j/\xs[j]?=some v/\j<xs.length /\ -(xs.length:Int)<=i/\i<xs.length:=by
 unfold atI at h
 cases e:ixN xs.length i with
 | none=>rw[e] at h;cases h
 | some j =>
  rw[e] at h
  obtain⟨h1,h2,h3,h4⟩:=sx e
  exact⟨j,h1,h,h2,h3,h4⟩
theorem jB{α:Type}{xs:List α}{j:Nat}{v:α}(h:xs[j]?=some v):atI xs (j:Int)=some v:=by
 have hj:j<xs.length:=(LI.mp h).1
 have e:ixN xs.length (j:Int)=some j:=by
  unfold ixN
  rw[if_pos (by omega),if_pos (by omega)];simp
 unfold atI;rw[e];exact h
def jE(b:Expr):Prop:=∀o i,subscripted b false o i=operate [o,i] (getItem o i)
noncomputable def IxR(X:Cx)(r:R2):Prop :=
 ∀(value slice:Expr)(pins:List (Addr×Obj))(s:Shared)(σ:St)(H:Hp)(x y:V)(v u:Value)(Q:VK),Inv X pins σ H s->RelV x v->RelV y u->r x y H Q ->
  subscripted slice false v u=operate [v,u] (getItem v u)->wpAny (model X.prog X.w) X.A (subscriptTail value slice v u) (EP X pins σ Q) X.xe s
noncomputable def MtR(X:Cx)(id:String)(r:V->List V->Hp->VK->Prop):Prop :=
 ∀(pins:List (Addr×Obj))(s:Shared)(σ:St)(H:Hp)(x:V)(xs:List V)(v:Value)(us:List Value)(Q:VK),Inv X pins σ H s->RelV x v->Vals xs us->r x xs H Q ->
  wpAny (model X.prog X.w) X.A (call (.builtin id) (v::us)) (EP X pins σ Q) X.xe s
section
variable{X:Cx}{a b:Expr}{ta tb:TE}{pos:Pos}
theorem IxR.or{r r':R2}(h:IxR X r)(h':IxR X r'):IxR X (λx y H Q=>r x y H Q\/r' x y H Q):=by
 intro value slice pins s σ H x y v u Q I rx ry q hs
 rcases q with q|q
 ·exact h value slice pins s σ H x y v u Q I rx ry q hs
 ·exact h' value slice pins s σ H x y v u Q I rx ry q hs
theorem IV{r:R2}(hr:IxR X r)(ha:PE X a ta)(hb:PE X b tb)(hs:jE b):PE X (.Subscript a b pos) (tOp r ta tb):=by
 intro pins s σ H Q I h
 exact Subscript_ (EN ha hb I h λv u s2 x y H2 I2 rx ry q=>hr a b pins s2 σ H2 x y v u Q I2 rx ry q (hs _ _))
noncomputable def J8(K:LD):R2:=λx y H Q=>∃p xs i v,x=.ref p/\y=.int i/\SqL K H p xs/\atI xs i=some v/\Q v H
noncomputable def IX(K:LD):R2:=λx y H Q=>∃p xs i v,x=.ref p/\y=.int i/\SqT K H p xs/\atI xs i=some v/\Q v H
noncomputable def HB:R2:=λx y H Q=>∃z i c,x=.str z/\y=.int i/\z.length<=sizeLine/\atI z.cps.toList i=some c/\Q (.str ⟨#[c]⟩) H
theorem Aj:IxR X (J8 X.K):=by
 intro value slice pins s σ H x y v u Q I rx ry h hs
 obtain⟨p,xs,i,z,rfl,rfl,hq,he,q⟩:=h
 cases rx
 obtain⟨t,rfl⟩:=ry
 obtain⟨its,r,pl,hz⟩:=I.list hq
 obtain⟨j,h1,h2,h3,h4,h5⟩:=mX he
 obtain⟨w,ew,rw'⟩:=r.get h2
 have hl:=r.length
 have hn:=kh
 have fin:EP X pins σ Q w s:=⟨z,H,I,rw',q⟩
 by_cases h0:0<=i
 ·have hj:i.toNat=j:=by
   rw[seqIndex_of h0 h5] at h1
   exact LY h1
  exact item_listR pl.isList h0 (by omega) (by rw[hj];simpa using ew) fin hs
 ·have hj:(i+(its.toArray.size:Int)).toNat=j:=by
   rw[seqIndex_neg (by omega) h4] at h1
   rw[LM,<- hl]
   exact LY h1
  exact subscriptTail_builtinR (x:=w) pl.isList.typeIs slot_list_getitem.lookup
   (wpAny_getItem_list_neg (Q:=λr s'=>r=w/\EP X pins σ Q r s') pl.isList (by omega) (by rw[LM]<;>omega) (by omega) (by rw[hj];simpa using ew) ⟨rfl,fin⟩) hs
theorem Gg:IxR X (IX X.K):=by
 intro value slice pins s σ H x y v u Q I rx ry h hs
 obtain⟨p,xs,i,z,rfl,rfl,hq,he,q⟩:=h
 cases rx
 obtain⟨t,rfl⟩:=ry
 obtain⟨its,r,pl,hz⟩:=I.tuple hq
 obtain⟨j,h1,h2,h3,h4,h5⟩:=mX he
 obtain⟨w,ew,rw'⟩:=r.get h2
 have hl:=r.length
 have hn:=kh
 have fin:EP X pins σ Q w s:=⟨z,H,I,rw',q⟩
 exact subscriptTail_builtinR (x:=w) pl.typeIs slot_tuple_getitem.lookup
  (getItem_tuple (j:=j) (Q:=λr s'=>r=w/\EP X pins σ Q r s') pl (by omega) (by omega) (by rw[LM,<- hl];exact h1) (by simpa using ew) ⟨rfl,fin⟩) hs
theorem DU:IxR X HB:=by
 intro value slice pins s σ H x y v u Q I rx ry h hs
 obtain⟨z,i,c,rfl,rfl,hz,he,q⟩:=h
 obtain⟨t,rfl⟩:=rx
 obtain⟨t',rfl⟩:=ry
 obtain⟨j,h1,h2,h3,h4,h5⟩:=mX he
 have hl:z.cps.toList.length=z.length:=by simp[QV]
 rw[hl] at h1 h4 h5
 have hn:=kh
 exact tail_any (typeIs_str s z t) slot_str_getitem.lookup (getItem_str (c:=c) (by
  have e1:decide (i < -(2^63:Int))=false:=decide_eq_false (by omega)
  have e2:decide (i≥2^63)=false:=decide_eq_false (by omega)
  rw[e1,e2,Bool.or_false]) (by rw[h1];simpa using h2) ⟨.str ⟨#[c]⟩,H,I.tok _,⟨_,rfl⟩,q⟩) hs
noncomputable def rIx(K:LD):R2:=λx y H Q=>J8 K x y H Q\/IX K x y H Q\/HB x y H Q
theorem Df:IxR X (rIx X.K):=Aj.or (Gg.or DU)
theorem pY(its:List Value)(n j:Nat)(u:Value):OH (·.setIfInBounds j u) { cls:=.type "list",data:=.seq its.toArray n }={ cls:=.type "list",data:=.seq (its.set j u).toArray n }:=by
 simp[OH]
theorem Inv.lst{pins:List (Addr×Obj)}{σ:St}{H:Hp}{s:Shared}{p:Addr}{xs:List V}(I:Inv X pins σ H s)(h:H p=some (.lst xs)) :
  ∃(its:List Value) (n:Nat),Vals xs its/\s.heap.get? p=some { cls:=.type "list",data:=.seq its.toArray n }/\xs.length<=sizeLine:=by
 obtain⟨z,its,n,r,e⟩:=I.hok p _ h
 exact⟨its,n,r,e,z⟩
theorem Inv.EA{pins:List (Addr×Obj)}{σ:St}{H:Hp}{s:Shared}{p:Addr}{xs ys:List V}{its its':List Value}{n n':Nat}{f:Obj->Obj}(I:Inv X pins σ H s)(h:H p=some (.lst xs))
  (ho:s.heap.get? p=some { cls:=.type "list",data:=.seq its.toArray n })(hf:f { cls:=.type "list",data:=.seq its.toArray n }={ cls:=.type "list",data:=.seq its'.toArray n' })(r:Vals ys its')(hz:ys.length<=sizeLine)(t:Nat) :
  Inv X pins σ (upd H p (.lst ys)) { s with heap:=s.heap.update p f,toks:=t }:=by
 have e:(s.heap.update p f).get? p=some { cls:=.type "list",data:=.seq its'.toArray n' }:=by
  rw[Qs f ho (by rw[hf]<;>rfl),hf]
 refine I.write (x:=p) (e:=p) (by rw[h];trivial) (.inl rfl) (λb u hb q=>(Ql _ _ (Nd hb)).trans q) ⟨_,e⟩ ?_
 exact⟨hz,its',n',r,e⟩
noncomputable def Cv:V->V->V->Hp->(Hp->Prop)->Prop:=λo i v H Q=>∃p xs k j,o=.ref p/\i=.int k/\H p=some (.lst xs)/\ixN xs.length k=some j/\Q (upd H p (.lst (xs.set j v)))
theorem set_list:Kb X Cv:=by
 intro pins s σ H o i v ov iv u Q I ro ri rv h
 obtain⟨p,xs,k,j,rfl,rfl,hp,hj,q⟩:=h
 cases ro
 obtain⟨t,rfl⟩:=ri
 obtain⟨its,n,r,ho,hz⟩:=I.lst hp
 obtain⟨h1,h2,h3,h4⟩:=sx hj
 have hl:=r.length
 have hn:=kh
 have I':Inv X pins σ (upd H p (.lst (xs.set j v))) { s with heap:=s.heap.update p (OH (·.setIfInBounds j u)) } :=
  I.EA hp ho (pY its n j u) (r.set rv j) (by rw[List.length_set];exact hz) s.toks
 by_cases h0:0<=k
 ·have hk:k.toNat=j:=by
   rw[seqIndex_of h0 h4] at h1
   exact LY h1
  exact PySem.W.ki_setAt ho h0 (by omega) (by rw[LM,<- hl];exact h4) (by rw[hk];exact⟨_,I',q⟩)
 ·have hk:(k+(its.toArray.size:Int)).toNat=j:=by
   rw[seqIndex_neg (by omega) h3] at h1
   rw[LM,<- hl]
   exact LY h1
  exact PySem.W.ki_setBack ho (by omega) (by rw[LM,<- hl];exact h3) (by omega) (by rw[hk];exact⟨_,I',q⟩)
theorem ni(lo hi:Option Int)(n:Nat):(sliceBounds lo hi none n).1=((HT.sIx n 0 lo:Nat):Int)/\(sliceBounds lo hi none n).2.1=((HT.sIx n n hi:Nat):Int)/\(sliceBounds lo hi none n).2.2=1:=by
 refine⟨?_,?_,rfl⟩
 ·cases lo with
  | none=>simp[sliceBounds,HT.sIx]
  | some i =>
   simp only[sliceBounds,HT.sIx,QK,show (1:Int) > 0 by decide,if_true]
   by_cases h:i<0
   ·simp only[h,if_true]<;>omega
   ·simp only[h,if_false]<;>omega
 ·cases hi with
  | none=>simp[sliceBounds,HT.sIx]
  | some i =>
   simp only[sliceBounds,HT.sIx,QK,show (1:Int) > 0 by decide,if_true]
   by_cases h:i<0
   ·simp only[h,if_true]<;>omega
   ·simp only[h,if_false]<;>omega
theorem lC(its:List Value)(lo hi:Option Int):slicePick its.toArray lo hi none=((its.drop (HT.sIx its.length 0 lo)).take (HT.sIx its.length its.length hi-HT.sIx its.length 0 lo)).toArray:=by
 obtain⟨h1,h2,h3⟩:=ni lo hi its.toArray.size
 unfold slicePick
 rw[h1,h2,h3]
 simp only[sliceRange_one,pick_run,LM]<;>rfl
noncomputable def Kq(K:LD):V->Option Int->Option Int->Hp->VK->Prop:=λx lo hi H Q=>∃a xs,x=.ref a/\SqL K H a xs/\∀p,H p=none->Q (.ref p) (upd H p (.lst (nU xs lo hi)))
theorem AS:SlR X (Kq X.K):=by
 intro pins s σ H x v vl vu lo hi sl Q I rx hs pl pu h
 obtain⟨a,xs,rfl,hx,q⟩:=h
 cases rx
 obtain⟨its,r,ht,hz⟩:=I.list hx
 have hlen:=r.length
 refine⟨"list",_,slot_list_getitem.lookup,ht.isList.typeIs,?_⟩
 refine wpAny_getItem_list_slice ht.isList hs pl pu .none (by simp) ?_ (by rw[LM]<;>omega)
 rw[lC,<- hlen]
 refine⟨.ref s.heap.objs.size,_,I.laid (t':=s.toks) (o:=.lst (nU xs lo hi)) (λb ob q=>LK _ q) (LU _) ?_,rfl,q _ (I.hok.fresh (LU _))⟩
 exact⟨Mf (js xs lo hi) hz,_,0,(r.drop (HT.sIx xs.length 0 lo)).take (HT.sIx xs.length xs.length hi-HT.sIx xs.length 0 lo),L9 _ rfl⟩
noncomputable def gm:V->Bool
 | .non=>true
 | .bl _=>true
 | .int _=>true
 | .str _=>true
 | _=>false
noncomputable def eqV:V->V->Bool
 | .non,.non=>true
 | .bl a,.bl b=>a==b
 | .bl a,.int b=>(if a then 1 else 0)==b
 | .int a,.bl b=>a==(if b then 1 else 0)
 | .int a,.int b=>a==b
 | .str a,.str b=>a==b
 | _,_=>false
theorem bK{A:Around}{s:Shared}{y x:V}{u v:Value}(ry:RelV y u)(rx:RelV x v)(fy:gm y=true)(fx:gm x=true):Oz A s u v (eqV y x):=by
 cases y with
 | non =>
  cases ry
  cases x with
  | non=>cases rx;exact Oz.same _
  | bl b=>cases rx;exact Oz.none_bool b
  | int b=>obtain⟨t,rfl⟩:=rx;exact Oz.none_int b t
  | str b=>obtain⟨t,rfl⟩:=rx;exact Oz.none_str b t
  | _=>exact absurd (show false=true from fx) Mz
 | bl a =>
  cases ry
  cases x with
  | non=>cases rx;exact Oz.bool_none a
  | bl b=>cases rx;exact Oz.bool_bool a b
  | int b=>obtain⟨t,rfl⟩:=rx;exact Oz.bool_int a b t
  | str b=>obtain⟨t,rfl⟩:=rx;exact Oz.bool_str a b t
  | _=>exact absurd (show false=true from fx) Mz
 | int a =>
  obtain⟨t',rfl⟩:=ry
  cases x with
  | non=>cases rx;exact Oz.int_none a t'
  | bl b=>cases rx;exact Oz.int_bool a t' b
  | int b=>obtain⟨t,rfl⟩:=rx;exact Oz.int_int a t' b t
  | str b=>obtain⟨t,rfl⟩:=rx;exact Qb a t' b t
  | _=>exact absurd (show false=true from fx) Mz
 | str a =>
  obtain⟨t',rfl⟩:=ry
  cases x with
  | non=>cases rx;exact Oz.str_none a t'
  | bl b=>cases rx;exact Oz.str_bool a t' b
  | int b=>obtain⟨t,rfl⟩:=rx;exact Qc a t' b t
  | str b=>obtain⟨t,rfl⟩:=rx;exact Oz.str_str a t' b t
  | _=>exact absurd (show false=true from fx) Mz
 | _=>exact absurd (show false=true from fy) Mz
noncomputable def eqU(x:V)(u:Value):Bool:=match u with
 | .none=>eqV .non x
 | .bool b=>eqV (.bl b) x
 | .int i _=>eqV (.int i) x
 | .str z _=>eqV (.str z) x
 | _=>false
theorem yb{x y:V}{u:Value}(r:RelV y u)(f:gm y=true):eqU x u=eqV y x:=by
 cases y with
 | non=>cases r;rfl
 | bl b=>cases r;rfl
 | int i=>obtain⟨t,rfl⟩:=r;rfl
 | str z=>obtain⟨t,rfl⟩:=r;rfl
 | _=>exact absurd (show false=true from f) Mz
theorem ie{x:V}:∀{xs:List V}{us:List Value},Vals xs us->xs.all gm=true->us.any (eqU x)=xs.any λy=>eqV y x
 | _,_,.nil,_=>rfl
 | y::xs,u::us,.cons r t,f=>by
  rw[MA,LG] at f
  rw[NA,NA,yb r f.1,ie t f.2]
theorem fI{A:Around}{s:Shared}{x:V}{v:Value}(rx:RelV x v)(fx:gm x=true):∀{xs:List V}{us:List Value},Vals xs us->xs.all gm=true->∀u∈us,Oz A s u v (eqU x u)
 | _,_,.nil,_=>λu hu=>by cases hu
 | y::xs,u::us,.cons r t,f=>λu' hu=>by
  rw[MA,LG] at f
  rcases Me.mp hu with rfl|hu
  ·rw[yb r f.1];exact bK r rx f.1 fx
  ·exact fI rx fx t f.2 u' hu
noncomputable def inV(x:V)(xs:List V):Bool:=xs.any λy=>eqV y x
noncomputable def rIn(K:LD)(neg:Bool):R2:=λx y H Q=>∃p xs,y=.ref p/\(SqL K H p xs\/SqT K H p xs)/\gm x=true/\xs.all gm=true/\Q (.bl (if neg then !inV x xs else inV x xs)) H
theorem mr:OpR X (compareOp .In) (rIn X.K false):=by
 intro pins s σ H x y v u Q I rx ry h
 obtain⟨p,xs,rfl,hq,fx,fs,q⟩:=h
 cases ry
 rcases hq with hq|hq
 ·obtain⟨its,r,pl,hz⟩:=I.list hq
  refine SeqAt.in_listAt (eqU x) pl.isList (λw hw=>fI rx fx r fs w (by simpa using hw)) ⟨.bl _,H,I,rfl,?_⟩
  rw[show its.toArray.any (eqU x)=its.any (eqU x) by simp,ie r fs]
  exact q
 ·obtain⟨its,r,pl,hz⟩:=I.tuple hq
  refine SeqAt.in_tupleAt (eqU x) pl (λw hw=>fI rx fx r fs w (by simpa using hw)) ⟨.bl _,H,I,rfl,?_⟩
  rw[show its.toArray.any (eqU x)=its.any (eqU x) by simp,ie r fs]
  exact q
theorem iw:OpR X (compareOp .NotIn) (rIn X.K true):=by
 intro pins s σ H x y v u Q I rx ry h
 obtain⟨p,xs,rfl,hq,fx,fs,q⟩:=h
 cases ry
 rcases hq with hq|hq
 ·obtain⟨its,r,pl,hz⟩:=I.list hq
  refine SeqAt.notIn_listAt (eqU x) pl.isList (λw hw=>fI rx fx r fs w (by simpa using hw)) ⟨.bl _,H,I,rfl,?_⟩
  rw[show its.toArray.any (eqU x)=its.any (eqU x) by simp,ie r fs]
  exact q
 ·obtain⟨its,r,pl,hz⟩:=I.tuple hq
  refine SeqAt.notIn_tupleAt (eqU x) pl (λw hw=>fI rx fx r fs w (by simpa using hw)) ⟨.bl _,H,I,rfl,?_⟩
  rw[show its.toArray.any (eqU x)=its.any (eqU x) by simp,ie r fs]
  exact q
theorem ow:bR X (.type "list") (λxs H Q=>∃p ys,xs=[.ref p]/\(SqL X.K H p ys\/SqT X.K H p ys)/\∀l,H l=none->Q (.ref l) (upd H l (.lst ys))):=by
 intro pins s σ H xs us Q I r h
 obtain⟨p,ys,rfl,hq,q⟩:=h
 obtain⟨u,rfl,rx⟩:=vals1 r
 cases rx
 have fin:∀(its:List Value),Vals ys its->ys.length<=sizeLine->∀(h':Heap)(c':Nat),(∀b o',s.heap.get? b=some o'->h'.get? b=some o') ->
   h'.get? s.heap.objs.size=some { cls:=.type "list",dict:=none,data:=.seq its.toArray c',slots:=#[] }->EP X pins σ Q (.ref s.heap.objs.size) { s with heap:=h' }:=λits r' hz h' c' kp e =>
  ⟨.ref s.heap.objs.size,_,I.laid (t':=s.toks) kp (LU _) (show ba X.prog X.w _ h' _ (.lst ys) from ⟨hz,its,c',r',e⟩),rfl,q _ (I.hok.fresh (LU _))⟩
 rcases hq with hq|hq
 ·obtain⟨its,r',pl,hz⟩:=I.list hq
  have hlen:=r'.length
  obtain⟨o,ho,hc,n,hd⟩:=pl.isList
  exact call_list_seq p (.inl rfl) ho hc hd (λh' c' kp e=>fin its r' hz h' c' kp e) (by simp only[LM]<;>omega)
 ·obtain⟨its,r',pl,hz⟩:=I.tuple hq
  have hlen:=r'.length
  obtain⟨o,ho,hc,n,hd⟩:=pl
  exact call_list_seq p (.inr rfl) ho hc hd (λh' c' kp e=>fin its r' hz h' c' kp e) (by simp only[LM]<;>omega)
theorem lD:bR X (.type "tuple") (λxs H Q=>∃p ys,xs=[.ref p]/\((SqL X.K H p ys/\∀l,H l=none->Q (.ref l) (upd H l (.tup ys)))\/(SqT X.K H p ys/\Q (.ref p) H))):=by
 intro pins s σ H xs us Q I r h
 obtain⟨p,ys,rfl,h⟩:=h
 obtain⟨u,rfl,rx⟩:=vals1 r
 cases rx
 rcases h with ⟨hq,q⟩|⟨hq,q⟩
 ·obtain⟨its,r',pl,hz⟩:=I.list hq
  have hlen:=r'.length
  refine call_tuple_list pl.isList (λh' kp=>?_) (by simp only[LM]<;>omega)
  have I1:Inv X pins σ H { s with heap:=h' }:=I.kept (t':=s.toks) kp
  have I2:Inv X pins σ (upd H h'.objs.size (.tup ys)) { s with heap:=h'.push { cls:=.type "tuple",data:=.seq its.toArray } } :=
   I1.laid (t':=s.toks) (λb o e=>LK _ e) (LU _) (show ba X.prog X.w _ _ _ (.tup ys) from ⟨hz,its,r',fN.new _ _⟩)
  exact⟨.ref h'.objs.size,_,I2,rfl,q _ (I1.hok.fresh (LU _))⟩
 ·obtain⟨its,r',pl,hz⟩:=I.tuple hq
  exact call_tuple_same pl ⟨.ref p,H,I,rfl,q⟩
def tyV(K:LD)(T:String)(x:V)(H:Hp):Prop:=match x with
 | .str _=>T = "str"
 | .int _=>T = "int"
 | .ref p=>(T = "list" /\ ∃xs,SqL K H p xs)\/(T = "tuple" /\ ∃o,K.lookup p=some o/\o.cls=.type "tuple" /\ o.dict=none) \/
   (T = "dict" /\ ((∃kvs,H p=some (.dK kvs))\/∃kvs,H p=some (.dT kvs)))\/(T = "set" /\ ∃S n,H p=some (.set S n))
 | _=>False
theorem xu{pins:List (Addr×Obj)}{σ:St}{H:Hp}{s:Shared}{T:String}{x:V}{v:Value}(I:Inv X pins σ H s)(r:RelV x v)(ty:tyV X.K T x H) :
  s.TypeIs v T/\∀a,v=.ref a->∃ob,s.heap.get? a=some ob/\ob.dict=none:=by
 cases x with
 | str z =>
  obtain⟨t,rfl⟩:=r
  cases (show T = "str" from ty)
  exact⟨typeIs_str s z t,λ_ e=>nomatch e⟩
 | int i =>
  obtain⟨t,rfl⟩:=r
  cases (show T = "int" from ty)
  exact⟨typeIs_int s i t,λ_ e=>nomatch e⟩
 | ref p =>
  cases r
  rcases ty with ⟨rfl,xs,hq⟩|⟨rfl,o,hk,hc,hd⟩|⟨rfl,hk⟩|⟨rfl,S,n,hk⟩
  ·obtain⟨its,_,pl,_⟩:=I.list hq
   refine⟨pl.isList.typeIs,λa e=>?_⟩
   cases e
   obtain⟨o,n,e,c,hd,_⟩:=pl
   exact⟨o,e,hd⟩
  ·refine⟨⟨o,I.kIn p o hk,hc⟩,λa e=>?_⟩
   cases e
   exact⟨o,I.kIn _ o hk,hd⟩
  ·have z:∃o,s.heap.get? p=some o/\o.ExactDict:=by
    rcases hk with ⟨kvs,hk⟩|⟨kvs,hk⟩
    ·obtain⟨_,_,_,_,o,_,_,e,ex,_⟩:=I.hok p _ hk
     exact⟨o,e,ex⟩
    ·obtain⟨_,_,_,_,o,_,_,e,ex,_⟩:=I.hok p _ hk
     exact⟨o,e,ex⟩
   obtain⟨o,e,ex⟩:=z
   refine⟨⟨o,e,ex.1⟩,λa e2=>?_⟩
   cases e2
   exact⟨o,e,ex.2.1⟩
  ·obtain⟨o,_,_,_,e,ex,_⟩:=I.hok p _ hk
   refine⟨⟨o,e,ex.1⟩,λa e2=>?_⟩
   cases e2
   exact⟨o,e,ex.2.1⟩
 | _=>exact M8 ty
noncomputable def KJ(K:LD)(T:String)(r:V->List V->Hp->VK->Prop)(to:TE):TE:=λσ H Q=>to σ H λx H1=>tyV K T x H1/\r x [] H1 Q
noncomputable def tBM(K:LD)(T:String)(r:V->List V->Hp->VK->Prop)(to:TE)(t:TA):TE:=λσ H Q=>to σ H λx H1=>tyV K T x H1/\t σ H1 λxs H2=>r x xs H2 Q
variable{o e:Expr}{es:List Expr}{to:TE}{t:TA}{name:Str}{apos cpos:Pos}{T id:String}{r:V->List V->Hp->VK->Prop}
theorem yO(pa:PlainAttrs T)(slot:Slot T name id)(hty:typeOf (.builtin id)=pure (.type "method_descriptor"))(hm:MtR X id r)(ho:PE X o to)
  (hbase:attributeBase o name X.env (eval o X.env)=eval o X.env:=by rfl)(hline:(apos.endLine==cpos.line)=true:=by rfl):PE X (.Call (.Attribute o name apos) [] [] cpos) (KJ X.K T r to):=by
 intro pins s σ H Q I h
 refine wpAny_Call_method0_late hbase hline (thn (ho pins s σ H _ I h) λv s1 ⟨x,H1,I1,r1,ty,q1⟩=>?_)
 obtain⟨h1,h2⟩:=xu I1 r1 ty
 exact⟨T,id,pa,slot,hty,h1,h2,OA rfl (PySem.evalArgs_none (hm pins s1 σ H1 x [] v [] Q I1 r1 .nil q1))⟩
theorem u9(pa:PlainAttrs T)(slot:Slot T name id)(hty:typeOf (.builtin id)=pure (.type "method_descriptor"))(hm:MtR X id r)(ho:PE X o to)(ha:PA X (e::es) t)
  (hbase:attributeBase o name X.env (eval o X.env)=eval o X.env:=by rfl)
  (hfew:((backTo cpos (starEach (e::es) X.env)).all (λx=>!x.1)&&(backToKw cpos (keywordEach [] X.env)).all (λx=>x.1.isSome)
   && decide ((e::es).length+([]:List Keyword).length+(if ([]:List Keyword).isEmpty then 0 else 1)<30))=true:=by rfl)
  (hline:(apos.endLine==cpos.line)=true:=by rfl) (hs:starEach (e::es) X.env=(false,eval e X.env)::starEach es X.env:=by rfl) (hplain:(backTo cpos (starEach es X.env)).any (·.1)=false:=by rfl) :
  PE X (.Call (.Attribute o name apos) (e::es) [] cpos) (tBM X.K T r to t):=by
 intro pins s σ H Q I h
 refine wpAny_Call_method_late hbase hfew hline rfl (thn (ho pins s σ H _ I h) λv s1 ⟨x,H1,I1,r1,ty,q1⟩=>?_)
 obtain⟨h1,h2⟩:=xu I1 r1 ty
 refine⟨T,id,pa,slot,hty,h1,h2,?_⟩
 have hA:=ha cpos pins s1 σ H1 _ I1 q1
 rw[hs] at hA ⊢
 refine OA (by show (false || (backTo cpos (starEach es X.env)).any (·.1))=false;rw[hplain]<;>rfl) (Qt ?_)
 exact thn hA λus s2 ⟨vs,H2,I2,r2,q2⟩=>hm pins s2 σ H2 x vs v us Q I2 r1 r2 q2
end
end L2
namespace L2
open PySem PySem.Spec PyProof.Rows
noncomputable def MtM(X:Cx)(id:String)(r:V->List V->Hp->VK->Prop):Prop :=
 ∀(pins:List (Addr×Obj))(s:Shared)(σ:St)(H:Hp)(x:V)(xs:List V)(v:Value)(us:List Value)(Q:VK),Inv X pins σ H s->RelV x v->Vals xs us->r x xs H Q ->
  wpAny (model X.prog X.w) X.A (call (.builtin id) (v::us)) (EP X pins σ Q) X.xe s
theorem Vals.one:∀{x:V}{us:List Value},Vals [x] us->∃u,us=[u]/\RelV x u
 | _,_,.cons r .nil=>⟨_,rfl,r⟩
theorem Vals.zero:∀{us:List Value},Vals [] us->us=[]
 | _,.nil=>rfl
theorem Vals.dropLast{xs:List V}{us:List Value}(h:Vals xs us):Vals xs.dropLast us.dropLast:=by
 induction h with
 | nil=>exact .nil
 | cons r t ih =>
  cases t with
  | nil=>exact .nil
  | cons q t'=>exact .cons r ih
theorem qw{α:Type}(l:List α):l.eraseIdx (l.length-1)=l.dropLast:=by
 induction l with
 | nil=>rfl
 | cons a r ih =>
  cases r with
  | nil=>rfl
  | cons b r =>
   have e:(a::b::r).length-1=((b::r).length-1)+1:=by
    have h1:(a::b::r).length=r.length+2:=rfl
    have h2:(b::r).length=r.length+1:=rfl
    omega
   rw[e,List.eraseIdx_cons_succ,ih]
   all_goals rfl
section
variable{X:Cx}{pins:List (Addr×Obj)}{σ:St}{H:Hp}{s:Shared}{l b:Addr}{xs ys zs:List V}
theorem Inv.zi{its its':List Value}{n:Nat}{f:Array Value->Array Value}{t':Nat}(I:Inv X pins σ H s)(hH:H l=some (.lst xs))
  (e:s.heap.get? l=some { cls:=.type "list",data:=.seq its.toArray n })(hf:f its.toArray=its'.toArray)(hv:Vals ys its')(hz:ys.length<=sizeLine) :
  Inv X pins σ (upd H l (.lst ys)) { s with heap:=s.heap.update l (OH f),toks:=t' }:=by
 have q:=PySem.IsL.update e f
 rw[hf] at q
 refine I.write (x:=l) (e:=l) (by rw[hH];exact trivial) (.inl rfl) (λb' u hb hu=>(Ql s.heap (OH f) (Nd hb)).trans hu) ⟨_,q⟩ ?_
 exact⟨hz,its',_,hv,q⟩
theorem Inv.Ln{its:List Value}{t':Nat}(I:Inv X pins σ H s)(hv:Vals ys its)(hz:ys.length<=sizeLine) :
  Inv X pins σ (upd H s.heap.objs.size (.lst ys)) { s with heap:=s.heap.push { cls:=.type "list",data:=.seq its.toArray },toks:=t' } :=
 I.laid (λ_ _ q=>LK _ q) (LU _) ⟨hz,its,0,hv,L9 _ rfl⟩
theorem Inv.fresh(I:Inv X pins σ H s):H s.heap.objs.size=none:=I.hok.fresh (LU _)
theorem Inv.zm(I:Inv X pins σ H s)(hH:H l=some (.lst xs)):xs.length<=sizeLine/\∃(its:List Value) (n:Nat),Vals xs its/\xs.length=its.length/\s.heap.get? l=some { cls:=.type "list",data:=.seq its.toArray n }:=by
 obtain⟨z,its,n,r,e⟩:=I.hok l _ hH
 exact⟨z,its,n,r,r.length,e⟩
theorem ym{n:Nat}(h:n<=sizeLine):Np n=false:=by
 unfold Np
 exact decide_eq_false (by omega)
end
section
variable{X:Cx}
noncomputable def Bt:V->List V->Hp->VK->Prop:=λx vs H Q=>∃l xs y,x=.ref l/\vs=[y]/\H l=some (.lst xs)/\xs.length<sizeLine/\Q .non (upd H l (.lst (xs++[y])))
theorem uS:MtM X "list.append" Bt:=by
 intro pins s σ H x vs v us Q I rx rv h
 obtain⟨l,xs,y,rfl,rfl,hH,hz,q⟩:=h
 cases rx
 obtain⟨u,rfl,ru⟩:=rv.one
 obtain⟨z,its,n,r,hl,e⟩:=I.zm hH
 refine call_meets F.slot_list_append ⟨_,e,rfl⟩ F.entry_list_append (F.args_list_append_2 _ _) (PySem.list_append l its.toArray n u (by rw[LM];omega)) ⟨e,?_⟩
 refine⟨.non,_,I.zi (its':=its++[u]) hH e (by simp) (r.append (.cons ru .nil)) ?_,rfl,q⟩
 rw[L4,NM]
 omega
noncomputable def Kr:V->List V->Hp->VK->Prop:=λx vs H Q=>∃l xs y,x=.ref l/\vs=[]/\H l=some (.lst xs)/\xs[xs.length-1]?=some y/\Q y (upd H l (.lst xs.dropLast))
theorem DL:MtM X "list.pop" Kr:=by
 intro pins s σ H x vs v us Q I rx rv h
 obtain⟨l,xs,y,rfl,rfl,hH,hy,q⟩:=h
 cases rx
 have hus:=rv.zero
 subst hus
 obtain⟨z,its,n,r,hl,e⟩:=I.zm hH
 obtain⟨u,hu,ru⟩:=r.get hy
 have hy':its.toArray[its.toArray.size-1]?=some u:=by
  show its.toArray[its.length-1]?=some u
  rw[<- OI,<- hl]
  exact hu
 refine call_meets F.slot_list_pop ⟨_,e,rfl⟩ F.entry_list_pop (F.args_list_pop_1 _) (MeetsSeq.list_pop_last l its.toArray n u hy' (by rw[LM];omega)) ⟨e,?_⟩
 refine⟨y,_,I.zi (its':=its.dropLast) hH e ?_ r.dropLast ?_,ru,q⟩
 ·show its.toArray.eraseIdxIfInBounds (its.toArray.size-1)=its.dropLast.toArray
  rw[LM,List.eraseIdxIfInBounds_toArray,qw]
 ·rw[List.length_dropLast]
  omega
noncomputable def EV:V->List V->Hp->VK->Prop:=λx vs H Q=>∃l xs,x=.ref l/\vs=[]/\H l=some (.lst xs)/\Q .non (upd H l (.lst []))
theorem wQ:MtM X "list.clear" EV:=by
 intro pins s σ H x vs v us Q I rx rv h
 obtain⟨l,xs,rfl,rfl,hH,q⟩:=h
 cases rx
 have hus:=rv.zero
 subst hus
 obtain⟨z,its,n,r,hl,e⟩:=I.zm hH
 refine call_meets F.slot_list_clear ⟨_,e,rfl⟩ F.entry_list_clear (F.args_list_clear_1 _) (AutoSeq1.list_clear_list_0 l its.toArray n (by rw[LM];omega)) ⟨e,?_⟩
 exact⟨.non,_,I.zi (its':=[]) (ys:=[]) hH e rfl .nil (MT _),rfl,q⟩
end
section
variable{prog:Program}{w:World}{A:Around}{E:Value->Shared->Prop}{s:Shared}
set_option maxRecDepth 100000 in
end
end L2
namespace L2
open PySem PySem.Spec PyProof.Rows
section
variable{κ:Type}[DecidableEq κ]
noncomputable def fB(kvs:List (κ×V))(k:κ):Option V:=(kvs.find? λkv=>decide (kv.1=k)).map (·.2)
noncomputable def putK(kvs:List (κ×V))(k:κ)(v:V):List (κ×V) :=
 if (kvs.any λkv=>decide (kv.1=k))=true then kvs.map (λkv=>if kv.1=k then (kv.1,v) else kv) else kvs++[(k,v)]
noncomputable def fM(kvs:List (κ×V))(k:κ):List (κ×V):=kvs.filter λkv=>decide (kv.1≠k)
theorem kP{p:κ×V}{r:List (κ×V)}{k:κ}(e:p.1=k):fB (p::r) k=some p.2:=by simp[fB,MI,e]
theorem kT{p:κ×V}{r:List (κ×V)}{k:κ}(e:¬ p.1=k):fB (p::r) k=fB r k:=by simp[fB,MI,e]
theorem oK(k:κ):∀kvs:List (κ×V),(kvs.any λkv=>decide (kv.1=k))=(fB kvs k).isSome
 | []=>rfl
 | p::r=>by
  rw[NA]
  by_cases e:p.1=k
  ·simp only[kP e,decide_eq_true e,Bool.true_or,Option.isSome_some]
  ·rw[kT e,decide_eq_false e,Bool.false_or];exact oK k r
theorem fQ(kvs:List (κ×V))(k:κ)(v:V):(putK kvs k v).length<=kvs.length+1:=by
 unfold putK
 split
 ·rw[LH];omega
 ·rw[L4,LL,NU];omega
theorem fv.dF{o:Option V}{u:Option Value}(r:fv o u):o.isSome=u.isSome:=by
 cases o with
 | none=>cases u with
  | none=>rfl
  | some _=>exact(show False from r).elim
 | some _=>cases u with
  | none=>exact(show False from r).elim
  | some _=>rfl
theorem KV.val{kvs:List (κ×V)}{vs:List (κ×Value)}(r:KV kvs vs)(k:κ):fv (fB kvs k) (valueAt vs k):=by
 unfold KV at r
 induction r with
 | nil=>exact Nr
 | @cons p q ps qs h t ih =>
  obtain⟨h1,h2⟩:=h
  by_cases e:p.1=k
  ·have e':q.1=k:=h1.symm.trans e
   have b:valueAt (q::qs) k=some q.2:=by simp[valueAt,MI,e']
   rw[kP e,b];exact h2
  ·have e':¬ q.1=k:=λz=>e (h1.trans z)
   have b:valueAt (q::qs) k=valueAt qs k:=by simp[valueAt,MI,e']
   rw[kT e,b];exact ih
theorem KV.any{kvs:List (κ×V)}{vs:List (κ×Value)}(r:KV kvs vs)(k:κ):(kvs.any λkv=>decide (kv.1=k))=vs.any λkv=>decide (kv.1=k):=by
 unfold KV at r
 induction r with
 | nil=>rfl
 | cons h t ih=>rw[NA,NA,ih,h.1]
theorem KV.Ek{kvs:List (κ×V)}{vs:List (κ×Value)}(r:KV kvs vs)(k:κ){y:V}{u:Value}(ry:RelV y u) :
  KV (kvs.map λkv=>if kv.1=k then (kv.1,y) else kv) (vs.map λkv=>if kv.1=k then (kv.1,u) else kv):=by
 unfold KV at r ⊢
 induction r with
 | nil=>exact .nil
 | @cons p q ps qs h t ih =>
  rw[LF,LF]
  refine .cons ?_ ih
  obtain⟨h1,h2⟩:=h
  by_cases e:p.1=k
  ·rw[if_pos e,if_pos (h1.symm.trans e)];exact⟨h1,ry⟩
  ·rw[if_neg e,if_neg (λz=>e (h1.trans z))];exact⟨h1,h2⟩
theorem KV.put{kvs:List (κ×V)}{vs:List (κ×Value)}(r:KV kvs vs)(k:κ){y:V}{u:Value}(ry:RelV y u):KV (putK kvs k y) (stored vs k u):=by
 unfold putK stored
 rw[r.any k]
 by_cases e:(vs.any λkv=>decide (kv.1=k))=true
 ·rw[if_pos e,if_pos e];exact r.Ek k ry
 ·rw[if_neg e,if_neg e];exact RB r ⟨rfl,ry⟩
theorem KV.drop{kvs:List (κ×V)}{vs:List (κ×Value)}(r:KV kvs vs)(k:κ):KV (fM kvs k) (without vs k):=by
 unfold KV at r ⊢
 unfold fM without
 induction r with
 | nil=>exact .nil
 | @cons p q ps qs h t ih =>
  obtain⟨h1,h2⟩:=h
  rw[Oo,Oo]
  by_cases e:p.1=k
  ·have a:¬ decide (p.1≠k)=true:=by simp[e]
   have b:¬ decide (q.1≠k)=true:=by simp[h1.symm.trans e]
   rw[if_neg a,if_neg b];exact ih
  ·have e':¬ q.1=k:=λz=>e (h1.trans z)
   have a:decide (p.1≠k)=true:=by simp[e]
   have b:decide (q.1≠k)=true:=by simp[e']
   rw[if_pos a,if_pos b];exact .cons ⟨h1,h2⟩ ih
theorem KV.keys{kvs:List (κ×V)}{vs:List (κ×Value)}(r:KV kvs vs):kvs.map (·.1)=vs.map (·.1):=by
 unfold KV at r
 induction r with
 | nil=>rfl
 | cons h t ih=>rw[LF,LF,ih,h.1]
theorem KV.length{kvs:List (κ×V)}{vs:List (κ×Value)}(r:KV kvs vs):kvs.length=vs.length:=PU r
theorem oE(kvs:List (κ×V))(k:κ):(fM kvs k).length<=kvs.length:=Qu _ _
end
theorem iJ{P:Program}{w:World}{k:Key}{u:Value}(r:RelV (kV k) u):(aw P w).is k u=true:=by
 cases k with
 | inl i=>obtain⟨t,e⟩:=(show ∃t,u=Po i t from r);subst e;exact pI P w i t
 | inr x=>obtain⟨t,e⟩:=(show ∃t,u=OP x t from r);subst e;exact pq P w x t
theorem mI{P:Program}{w:World}:∀{ks:List Key}{us:List Value},Vals (ks.map kV) us->ItemsAre (aw P w) ks us
 | [],_,r=>by rw[LJ] at r;cases r;exact .nil
 | k::ks,_,r=>by
  rw[LF] at r
  cases r with
  | cons h t=>exact .cons (iJ h) (mI t)
noncomputable abbrev KT(H:Hp):List (List Key×V)->List (List Key×Addr×Value)->Prop:=Paired λp q=>p.1=q.1/\H q.2.1=some (.tup (p.1.map kV))/\RelV p.2 q.2.2
theorem KT.val{H:Hp}{kvs:List (List Key×V)}{xs:List (List Key×Addr×Value)}(r:KT H kvs xs)(k:List Key):fv (fB kvs k) ((atKey xs k).map (·.2)):=by
 induction r with
 | nil=>exact Nr
 | @cons p q ps qs h t ih =>
  obtain⟨h1,_,h2⟩:=h
  by_cases e:p.1=k
  ·have e':q.1=k:=h1.symm.trans e
   have b:atKey (q::qs) k=some q.2:=by simp[atKey,MI,e']
   rw[kP e,b];exact h2
  ·have e':¬ q.1=k:=λz=>e (h1.trans z)
   have b:atKey (q::qs) k=atKey qs k:=by simp[atKey,MI,e']
   rw[kT e,b];exact ih
theorem KT.Ek{H:Hp}{kvs:List (List Key×V)}{xs:List (List Key×Addr×Value)}(r:KT H kvs xs)(k:List Key){y:V}{u:Value}(ry:RelV y u) :
  KT H (kvs.map λkv=>if kv.1=k then (kv.1,y) else kv) (xs.map (putAt k u)):=by
 induction r with
 | nil=>exact .nil
 | @cons p q ps qs h t ih =>
  rw[LF,LF]
  refine .cons ?_ ih
  obtain⟨h1,h2,h3⟩:=h
  unfold putAt
  by_cases e:p.1=k
  ·rw[if_pos e,if_pos (h1.symm.trans e)];exact⟨h1,h2,ry⟩
  ·rw[if_neg e,if_neg (λz=>e (h1.trans z))];exact⟨h1,h2,h3⟩
theorem KT.put{H:Hp}{kvs:List (List Key×V)}{xs:List (List Key×Addr×Value)}(r:KT H kvs xs)(k:List Key){b:Addr}{y:V}{u:Value}(hb:H b=some (.tup (k.map kV)))(ry:RelV y u) :
  KT H (putK kvs k y) (storedH xs k b u):=by
 have e:(kvs.any λkv=>decide (kv.1=k))=(atKey xs k).isSome:=by
  rw[oK,(r.val k).dF,Pc]
 unfold putK storedH
 rw[e]
 by_cases q:(atKey xs k).isSome=true
 ·rw[if_pos q,if_pos q];exact r.Ek k ry
 ·rw[if_neg q,if_neg q];exact RB r ⟨rfl,hb,ry⟩
theorem KT.keeps{H H':Hp}{kvs:List (List Key×V)}{xs:List (List Key×Addr×Value)}(r:KT H kvs xs)(ht:∀b ys,H b=some (.tup ys)->H' b=some (.tup ys)):KT H' kvs xs :=
 Paired.Eg r λ_ _ z=>⟨z.1,ht _ _ z.2.1,z.2.2⟩
section
variable{P:Program}{w:World}{H:Hp}{h:Heap}{a:Addr}
theorem B0{u:HO}(ok:HOk P w H h)(e:Rd H a u):ba P w H h a u:=e.ok ok
theorem dy{kvs:List (Key×V)}(ok:HOk P w H h)(e:Rd H a (.dK kvs)):kvs.length<=sizeLine/\(a==sysModules)=false/\∃vs,KV kvs vs/\h.DictOf (aw P w) a vs :=
 show ba P w H h a (.dK kvs) from B0 ok e
theorem pJ{kvs:List (Key×V)}(ok:HOk P w H h)(e:H a=some (.dK kvs)):kvs.length<=sizeLine/\(a==sysModules)=false/\∃vs,KV kvs vs/\h.DictOf (aw P w) a vs:=dy ok (.inl e)
theorem kY{ks:List Key}(ok:HOk P w H h)(e:H a=some (.tup (ks.map kV))):(tupleKind (aw P w)).is h ks a:=by
 obtain⟨_,its,r,o,h1,h2,n,h3,_⟩:=(show ba P w H h a (.tup (ks.map kV)) from ok a _ e)
 exact⟨o,its.toArray,n,h1,h2,h3,by simpa using mI r⟩
theorem lK{kvs:List (List Key×V)}(ok:HOk P w H h)(e:Rd H a (.dT kvs)):kvs.length<=sizeLine/\(a==sysModules)=false /\
  ∃xs,KT H kvs xs/\h.DictOfH (tupleKind (aw P w)) a xs:=by
 obtain⟨z,y,xs,r,o,es,ep,h1,h2,h3,h4,h5⟩:=(show ba P w H h a (.dT kvs) from B0 ok e)
 refine⟨z,y,xs,r,o,es,ep,h1,h2,h3,h4,λx hx=>?_,h5⟩
 have all:∀{l:List (List Key×V)}{m:List (List Key×Addr×Value)},KT H l m->∀x∈m,(tupleKind (aw P w)).is h x.1 x.2.1:=by
  intro l m q
  induction q with
  | nil=>intro x hx;exact nomatch hx
  | @cons p q ps qs hq t ih =>
   intro x hx
   rcases Me.mp hx with e|hx
   ·subst e
    exact kY ok (by rw[<- hq.1];exact hq.2.1)
   ·exact ih x hx
 exact all r x hx
theorem J4{kvs:List (List Key×V)}(ok:HOk P w H h)(e:H a=some (.dT kvs)):kvs.length<=sizeLine/\(a==sysModules)=false /\
  ∃xs,KT H kvs xs/\h.DictOfH (tupleKind (aw P w)) a xs:=lK ok (.inl e)
end
noncomputable def gX(H:Hp)(a:Addr)(y:V)(r:Option V):Prop :=
 (∃kvs k,Rd H a (.dK kvs)/\y=kV k/\r=fB kvs k)\/∃kvs k b,Rd H a (.dT kvs)/\y=.ref b/\H b=some (.tup (k.map kV))/\r=fB kvs k
noncomputable def Ih(H:Hp)(a:Addr)(y v:V)(H':Hp):Prop :=
 (∃kvs k,H a=some (.dK kvs)/\y=kV k/\kvs.length<sizeLine/\H'=upd H a (.dK (putK kvs k v))) \/
 ∃kvs k b,H a=some (.dT kvs)/\y=.ref b/\H b=some (.tup (k.map kV))/\kvs.length<sizeLine/\H'=upd H a (.dT (putK kvs k v))
section
variable{X:Cx}{pins:List (Addr×Obj)}{σ:St}{H:Hp}{s:Shared}{a:Addr}{y v:V}{u r:Value}{o:Option V}{A:Around}{E:Value->Shared->Prop}
theorem Inv.big(I:Inv X pins σ H s):sysModules<s.heap.objs.size:=by
 have h:mainGlobals<s.heap.objs.size:=(I.mod.glob.keeps I.bk).lt
 exact Nat.lt_trans (by decide) h
theorem ua{Q:Value->Shared->Prop}(hu:A.units+1<cLine)(I:Inv X pins σ H s)(g:gX H a y (some v))(ry:RelV y u)(h:∀w' s',Inv X pins σ H s'->RelV v w'->Q w' s') :
  wpAny (model X.prog X.w) A (getItem (.ref a) u) Q E s:=by
 rcases g with ⟨kvs,k,e,ey,l⟩|⟨kvs,k,b,e,ey,eb,l⟩
 ·subst ey
  obtain⟨z,hd,vs,rel,dd⟩:=dy I.hok e
  obtain⟨w',hw,rw'⟩:=fv.some_of (v:=v) (o:=valueAt vs k) (by rw[l];exact rel.val k)
  exact wpAny_getItem_of (iJ ry) dd.mapOf hw (h w' _ (I.tok _) rw')
 ·subst ey
  cases (show u=My b from ry)
  obtain⟨z,hd,xs,rel,dd⟩:=lK I.hok e
  obtain⟨w',hw,rw'⟩:=fv.some_of (v:=v) (o:=(atKey xs k).map (·.2)) (by rw[l];exact rel.val k)
  obtain⟨p,hp,hp2⟩:=Option.map_eq_some_iff.mp hw
  refine wpAny_getItem_heap (tupleKind_room_in1 hu) (kY I.hok eb) dd hp ?_
  rw[hp2]
  exact h w' _ (I.tok _) rw'
theorem Ly{Q:Value->Shared->Prop}(hu:A.units+1<cLine)(I:Inv X pins σ H s)(g:gX H a y o)(ry:RelV y u)(h:∀s',Inv X pins σ H s'->Q (.bool o.isSome) s') :
  wpAny (model X.prog X.w) A (compareOp .In u (.ref a)) Q E s:=by
 rcases g with ⟨kvs,k,e,ey,l⟩|⟨kvs,k,b,e,ey,eb,l⟩
 ·subst ey
  obtain⟨z,hd,vs,rel,dd⟩:=dy I.hok e
  refine wpAny_in_of (iJ ry) hd dd.mapOf ?_
  rw[<- (rel.val k).dF,<- l]
  exact h _ (I.tok _)
 ·subst ey
  cases (show u=My b from ry)
  obtain⟨z,hd,xs,rel,dd⟩:=lK I.hok e
  refine wpAny_in_heap (tupleKind_room_in1 hu) (kY I.hok eb) hd dd ?_
  have q:=(rel.val k).dF
  rw[Pc] at q
  rw[<- q,<- l]
  exact h _ (I.tok _)
theorem AX{Q:Value->Shared->Prop}(hu:A.units+1<cLine)(I:Inv X pins σ H s)(g:gX H a y o)(ry:RelV y u)(h:∀s',Inv X pins σ H s'->Q (.bool (!o.isSome)) s') :
  wpAny (model X.prog X.w) A (compareOp .NotIn u (.ref a)) Q E s:=by
 rcases g with ⟨kvs,k,e,ey,l⟩|⟨kvs,k,b,e,ey,eb,l⟩
 ·subst ey
  obtain⟨z,hd,vs,rel,dd⟩:=dy I.hok e
  refine wpAny_notIn_of (iJ ry) hd dd.mapOf ?_
  rw[<- (rel.val k).dF,<- l]
  exact h _ (I.tok _)
 ·subst ey
  cases (show u=My b from ry)
  obtain⟨z,hd,xs,rel,dd⟩:=lK I.hok e
  refine wpAny_notIn_heap (tupleKind_room_in1 hu) (kY I.hok eb) hd dd ?_
  have q:=(rel.val k).dF
  rw[Pc] at q
  rw[<- q,<- l]
  exact h _ (I.tok _)
theorem iD{h':Heap}{t':Nat}{ob:HO}(I:Inv X pins σ H s)(mu:Mut (H a))(hs:NX a s.heap h')(he:∃q,h'.get? a=some q)(new:ba X.prog X.w (upd H a ob) h' a ob) :
  Inv X pins σ (upd H a ob) { s with heap:=h',toks:=t' } :=
 I.write (x:=a) (e:=a) mu (.inl rfl) (λb q hb z=>(hs.2 b hb).trans z) he new
theorem j7{P:Program}{w:World}{H':Hp}{h':Heap}{kvs:List (Key×V)}{vs:List (Key×Value)}(z:kvs.length<=sizeLine)(hd:(a==sysModules)=false)(rel:KV kvs vs)(dd:h'.DictOf (aw P w) a vs) :
  ba P w H' h' a (.dK kvs):=⟨z,hd,vs,rel,dd⟩
theorem tM{H':Hp}{Q:Unit->Shared->Prop}(hu:A.units+1<cLine)(I:Inv X pins σ H s)(g:Ih H a y v H')(ry:RelV y u)(rv:RelV v r)(h:∀s',Inv X pins σ H' s'->Q () s') :
  wpAny (model X.prog X.w) A (setItem (.ref a) u r) Q E s:=by
 rcases g with ⟨kvs,k,e,ey,l,eH⟩|⟨kvs,k,b,e,ey,eb,l,eH⟩
 ·subst ey eH
  obtain⟨z,hd,vs,rel,dd⟩:=pJ I.hok e
  have hz:vs.length<=sizeLine:=by rw[<- rel.length];exact z
  have hl:(putK kvs k v).length<=sizeLine:=by have:=fQ kvs k v;omega
  refine wpAny_setItem_pairs (hsz:=hz) (iJ ry) dd λh' dd' hs=>h _ ?_
  have he:∃q,h'.get? a=some q:=let ⟨q,_,_,hq,_⟩:=dd';⟨q,hq⟩
  exact iD I (by rw[e];exact Nr) hs he (j7 hl hd (rel.put k rv) dd')
 ·subst ey eH
  cases (show u=My b from ry)
  obtain⟨z,hd,xs,rel,dd⟩:=J4 I.hok e
  have hz:xs.length<=sizeLine:=by rw[<- PU rel];exact z
  have hl:(putK kvs k v).length<=sizeLine:=by have:=fQ kvs k v;omega
  refine wpAny_setItem_heap (hsz:=hz) (tupleKind_room_in1 hu) (kY I.hok eb) dd λh' dd' hs=>h _ ?_
  obtain⟨q,es,ep,hq,h2,h3,h4,_,h5⟩:=dd'
  refine iD I (by rw[e];exact Nr) hs ⟨q,hq⟩ ⟨hl,hd,_,(rel.put k eb rv).keeps λc ys ec=>?_,q,es,ep,hq,h2,h3,h4,h5⟩
  rw[aA (GP ec e (λz=>nomatch z))]
  exact ec
end
section
variable{X:Cx}{pins:List (Addr×Obj)}{σ:St}{H:Hp}{s:Shared}{a:Addr}{kvs:List (Key×V)}{k:Key}{u:Value}{A:Around}{E:Value->Shared->Prop}
theorem GN{Q:Unit->Shared->Prop}(I:Inv X pins σ H s)(e:H a=some (.dK kvs))(ry:RelV (kV k) u)(l:(fB kvs k).isSome=true)(h:∀s',Inv X pins σ (upd H a (.dK (fM kvs k))) s'->Q () s') :
  wpAny (model X.prog X.w) A (delItem (.ref a) u) Q E s:=by
 obtain⟨z,hd,vs,rel,dd⟩:=pJ I.hok e
 refine wpAny_delItem_slot dd.typeIs (by decide) PH
  (call_meetsIn PH dd.typeIs PySem.F.entry_dict_delitem (PySem.F.args_dict_delitem_2 _ _) (meets_dict_delitem_pairs (aw X.prog X.w) a (iJ ry)) ⟨vs,dd,by rw[<- rel.length];exact z,by rw[<- (rel.val k).dF];exact l,λh' dd' hs=>h _ ?_⟩)
 have he:∃q,h'.get? a=some q:=let ⟨q,_,_,hq,_⟩:=dd';⟨q,hq⟩
 exact iD I (by rw[e];exact Nr) hs he (j7 (Mf (oE kvs k) z) hd (rel.drop k) dd')
theorem Hq{v:V}{more:List Value}{Q:Value->Shared->Prop}(I:Inv X pins σ H s)(e:H a=some (.dK kvs))(ry:RelV (kV k) u)(l:fB kvs k=some v)(hm:more=[]\/∃x,more=[x])
  (h:∀w' s',Inv X pins σ (upd H a (.dK (fM kvs k))) s'->RelV v w'->Q w' s'):wpAny (model X.prog X.w) A (call (.builtin "dict.pop") (.ref a::u::more)) Q E s:=by
 obtain⟨z,hd,vs,rel,dd⟩:=pJ I.hok e
 obtain⟨w',hw,rw'⟩:=fv.some_of (v:=v) (o:=valueAt vs k) (by rw[<- l];exact rel.val k)
 have hp:(keyPart u).isSome=true:=by
  cases k with
  | inl i=>obtain⟨t,q⟩:=(show ∃t,u=Po i t from ry);subst q;rfl
  | inr x=>obtain⟨t,q⟩:=(show ∃t,u=OP x t from ry);subst q;rfl
 have ha:argsOk "dict.pop" ⟨.ref a::u::more,[]⟩:=by
  rcases hm with q|⟨x,q⟩
  ·subst q;exact PySem.F.args_dict_pop_2 _ _
  ·subst q;exact PySem.F.args_dict_pop_3 _ _ _
 refine call_meetsIn Qe dd.typeIs PySem.F.entry_dict_pop ha (meets_dict_pop_there (aw X.prog X.w) a (iJ ry) more hm hp)
  ⟨vs,w',dd,by rw[<- rel.length];exact z,hw,λh' dd' hs=>h w' _ ?_ rw'⟩
 have he:∃q,h'.get? a=some q:=let ⟨q,_,_,hq,_⟩:=dd';⟨q,hq⟩
 exact iD I (by rw[e];exact Nr) hs he (j7 (Mf (oE kvs k) z) hd (rel.drop k) dd')
end
def wu(i:Expr):Prop:=∀ov iv,subscripted i false ov iv=operate [ov,iv] (getItem ov iv)
theorem zd{prog:Program}{w:World}{A:Around}{E:Value->Shared->Prop}{s:Shared}{env:Env}{value slice:Expr}{pos:Pos}{T id:String}{Q:Value->Shared->Prop}
  (hl:typeLookup (.type T) "__getitem__" = pure (some (.builtin id)))(hs:wu slice)
  (h:wpAny (model prog w) A (eval value env) (λo s₁=>wpAny (model prog w) A (eval slice env) (λi s₂=>s₂.TypeIs o T/\wpAny (model prog w) A (getItem o i) Q E s₂) E s₁) E s) :
  wpAny (model prog w) A (eval (.Subscript value slice pos) env) Q E s:=by
 refine Subscript_ (wpAny_mono h (λo s₁ h₁=>wpAny_mono h₁ (λi s₂ h₂=>?_) λ_ _ x=>x) λ_ _ x=>x)
 obtain⟨hT,h₂⟩:=h₂
 unfold subscriptTail
 refine wpAny_bind ?_
 rw[getitemInPython_of_ne hT.not_modules]
 refine wpAny_bind (wpAny_specialOf hT hl ?_)
 have fin:wpAny (model prog w) A (subscripted slice false o i) (λr s₃=>wpAny (model prog w) A (letTemporaryGo value o r >>= λ_=>pure r) Q E s₃) E s₂:=by
  rw[hs o i]
  exact wpAny_operating (wpAny_mono h₂ (λr s₃ h₃=>wpAny_bind (wpAny_letTemporaryGo (wpAny_pure h₃))) λ_ _ x=>x)
 first
  | exact wpAny_pure (wpAny_bind fin)
  | exact wpAny_bind (wpAny_pure (wpAny_bind fin))
  | exact wpAny_bind fin
theorem oX{X:Cx}{pins:List (Addr×Obj)}{σ:St}{H:Hp}{s:Shared}{a:Addr}{y:V}{o:Option V}(I:Inv X pins σ H s)(g:gX H a y o):s.TypeIs (.ref a) "dict" := by
 rcases g with ⟨kvs,k,e,_,_⟩|⟨kvs,k,b,e,_,_,_⟩
 ·obtain⟨_,_,vs,_,dd⟩:=dy I.hok e
  exact dd.typeIs
 ·obtain⟨_,_,xs,_,dd⟩:=lK I.hok e
  exact dd.typeIs
noncomputable def Kj(td ty:TE):TE:=λσ H Q=>td σ H λx H1=>ty σ H1 λy H2=>∃a v,x=.ref a/\gX H2 a y (some v)/\Q v H2
noncomputable def Lm(ty td:TE):TE:=λσ H Q=>ty σ H λy H1=>td σ H1 λx H2=>∃a o,x=.ref a/\gX H2 a y o/\Q (.bl o.isSome) H2
noncomputable def Bj(ty td:TE):TE:=λσ H Q=>ty σ H λy H1=>td σ H1 λx H2=>∃a o,x=.ref a/\gX H2 a y o/\Q (.bl (!o.isSome)) H2
noncomputable def Jt(td ty tv:TE):TS:=λD σ H=>tv σ H λv H1=>td σ H1 λx H2=>ty σ H2 λy H3=>∃a H4,x=.ref a/\Ih H3 a y v H4/\D.nx σ H4
section
variable{X:Cx}{o i e value:Expr}{pos pos' tpos:Pos}{td ty tv:TE}
theorem AK(hu:X.A.units+1<cLine)(ho:PE X o td)(hi:PE X i ty)(hs:wu i):PE X (.Subscript o i pos) (Kj td ty):=by
 intro pins s σ H Q I h
 refine zd PySem.F.slot_dict_getitem.lookup hs (thn (ho pins s σ H _ I h) λu s1 ⟨x,H1,I1,rx,q1⟩=>thn (hi pins s1 σ H1 _ I1 q1) λiv s2 ⟨y,H2,I2,ry,a,v,ex,g,q2⟩=>?_)
 subst ex
 obtain rfl:u=My a:=rx
 exact⟨oX I2 g,ua hu I2 g ry λw' s3 I3 rw'=>⟨v,H2,I3,rw',q2⟩⟩
theorem u0(hu:X.A.units+1<cLine)(hi:PE X i ty)(ho:PE X o td):PC X .In i o (Lm ty td):=by
 intro pins s σ H Q I h
 refine thn (hi pins s σ H _ I h) λiv s1 ⟨y,H1,I1,ry,q1⟩=>thn (ho pins s1 σ H1 _ I1 q1) λu s2 ⟨x,H2,I2,rx,a,ov,ex,g,q2⟩=>?_
 subst ex
 obtain rfl:u=My a:=rx
 exact Ly hu I2 g ry λs3 I3=>⟨.bl ov.isSome,H2,I3,rfl,q2⟩
theorem lN(hu:X.A.units+1<cLine)(hi:PE X i ty)(ho:PE X o td):PC X .NotIn i o (Bj ty td):=by
 intro pins s σ H Q I h
 refine thn (hi pins s σ H _ I h) λiv s1 ⟨y,H1,I1,ry,q1⟩=>thn (ho pins s1 σ H1 _ I1 q1) λu s2 ⟨x,H2,I2,rx,a,ov,ex,g,q2⟩=>?_
 subst ex
 obtain rfl:u=My a:=rx
 exact AX hu I2 g ry λs3 I3=>⟨.bl (!ov.isSome),H2,I3,rfl,q2⟩
theorem zJ(hu:X.A.units+1<cLine)(ho:PE X o td)(hi:PE X i ty)(hv:PE X value tv)(hs:swapsWith value (some (.Subscript o i pos')) pos.line X.env=pure false) :
  PS X (.Assign [.Subscript o i pos'] value pos) (Jt td ty tv):=by
 intro pins s σ H D I h
 refine wpAny_Assign_Subscript (thn (hv pins s σ H _ I h) λr s1 ⟨v,H1,I1,rv,q1⟩=>thn (ho pins s1 σ H1 _ I1 q1) λu s2 ⟨x,H2,I2,rx,q2⟩=>thn (hi pins s2 σ H2 _ I2 q2) λiv s3 ⟨y,H3,I3,ry,a,H4,ex,g,q3⟩=>?_) hs
 subst ex
 obtain rfl:u=My a:=rx
 exact tM hu I3 g ry rv λs4 I4=>⟨σ,H4,I4,q3⟩
end
theorem pN{P:Program}{w:World}{H:Hp}(h:Heap)(hb:sysModules<h.objs.size):ba P w H (h.push { cls:=.type "dict",data:=.dict #[] }) h.objs.size (.dK []) :=
 ⟨MT _,beq_eq_false_iff_ne.mpr (Nd (Md hb)),[],.nil,SG h⟩
noncomputable def FC:TE:=λ_ H Q=>∀p,H p=none->Q (.ref p) (upd H p (.dK []))
section
variable{X:Cx}{pos:Pos}
theorem yG:PE X (.Dict [] [] pos) FC:=λpins s σ H Q I h =>
 wpAny_Dict_empty ⟨.ref s.heap.objs.size,_,I.laid (a:=s.heap.objs.size) (o:=.dK []) (t':=s.toks) (λ_ _ q=>LK _ q) (LU _) (pN s.heap I.big),rfl,h _ (I.hok.fresh (LU _))⟩
end
noncomputable def qo:List (TE×TE)->St->Hp->(List (V×V)->Hp->Prop)->Prop
 | [],_,H,Q=>Q [] H
 | (tk,tv)::r,σ,H,Q=>tk σ H λx H1=>tv σ H1 λy H2=>qo r σ H2 λps H3=>Q ((x,y)::ps) H3
noncomputable abbrev VV:List (V×V)->List (Value×Value)->Prop:=Paired λp q=>RelV p.1 q.1/\RelV p.2 q.2
noncomputable def PPs(X:Cx)(pos:Pos)(keys:List (Option Expr))(values:List Expr)(trs:List (TE×TE)):Prop :=
 ∀(pins:List (Addr×Obj))(s:Shared)(σ:St)(H:Hp)(Q:List (V×V)->Hp->Prop),Inv X pins σ H s->qo trs σ H Q ->
  wpAny (model X.prog X.w) X.A (evalPairs (pairTrees keys values X.env pos)) (λvs s'=>∃ps H',Inv X pins σ H' s'/\VV ps vs/\Q ps H') X.xe s
theorem AH{X:Cx}{pos:Pos}:PPs X pos [] [] []:=λpins s σ H Q I h=>pairTrees_nil_walk ⟨[],H,I,.nil,h⟩
theorem vM{X:Cx}{pos:Pos}{k v:Expr}{ks:List (Option Expr)}{vs:List Expr}{tk tv:TE}{trs:List (TE×TE)}(hk:PE X k tk)(hv:PE X v tv)(hr:PPs X pos ks vs trs) :
  PPs X pos (some k::ks) (v::vs) ((tk,tv)::trs):=λpins s σ H Q I h =>
 pairTrees_cons_walk (thn (hk pins s σ H _ I h) λu s1 ⟨x,H1,I1,rx,q1⟩=>thn (hv pins s1 σ H1 _ I1 q1) λw2 s2 ⟨y,H2,I2,ry,q2⟩ =>
  thn (hr pins s2 σ H2 _ I2 q2) λws s3 ⟨ps,H3,I3,rel,q3⟩=>⟨(x,y)::ps,H3,I3,.cons ⟨rx,ry⟩ rel,q3⟩)
noncomputable def iW(kvs more:List (Key×V)):List (Key×V):=more.foldl (λacc kv=>putK acc kv.1 kv.2) kvs
theorem KV.merge:∀{more:List (Key×V)}{rs:List (Key×Value)}{kvs:List (Key×V)}{vs:List (Key×Value)},KV more rs->KV kvs vs->KV (iW kvs more) (merged vs rs):=by
 intro more rs kvs vs r
 unfold KV at r
 induction r generalizing kvs vs with
 | nil=>intro q;exact q
 | @cons p q ps qs h t ih =>
  intro r0
  have e:KV (putK kvs p.1 p.2) (stored vs q.1 q.2):=by
   have:=r0.put p.1 h.2
   rw[<- h.1];exact this
  exact ih e
theorem gS:∀(more kvs:List (Key×V)),(iW kvs more).length<=kvs.length+more.length
 | [],kvs=>by show kvs.length<=kvs.length+0;omega
 | p::r,kvs=>by
  have h1:=gS r (putK kvs p.1 p.2)
  have h2:=fQ kvs p.1 p.2
  show (iW (putK kvs p.1 p.2) r).length<=_
  rw[LL];omega
theorem kL{P:Program}{w:World}:∀{kvs:List (Key×V)}{ws:List (Value×Value)},VV (kvs.map λkv=>(kV kv.1,kv.2)) ws->∃rs,Carries (aw P w) ws rs/\KV kvs rs
 | [],_,r=>by rw[LJ] at r;cases r;exact⟨[],Nr,.nil⟩
 | p::kvs,_,r=>by
  rw[LF] at r
  cases r with
  | @cons a b as bs h t =>
   obtain⟨rs,c,q⟩:=kL (P:=P) (w:=w) t
   obtain⟨b1,b2⟩:=b
   exact⟨(p.1,b2)::rs,⟨iJ h.1,rfl,c⟩,.cons ⟨rfl,h.2⟩ q⟩
noncomputable def JU(trs:List (TE×TE)):TE:=λσ H Q=>∀p,H p=none->qo trs σ (upd H p (.dK [])) λps H2=>H2 p=some (.dK [])/\∃kvs:List (Key×V),ps=kvs.map (λkv=>(kV kv.1,kv.2))/\kvs.length<=15/\Q (.ref p) (upd H2 p (.dK (iW [] kvs)))
theorem BP{X:Cx}{pos:Pos}{keys:List (Option Expr)}{values:List Expr}{trs:List (TE×TE)}(h:PPs X pos keys values trs)(hall:keys.all (·.isSome)=true)(hl:keys.length=values.length)(h0:keys≠[])
  (h15:keys.length<=15):PE X (.Dict keys values pos) (JU trs):=by
 intro pins s σ H Q I q
 have hn:=I.hok.fresh (LU s.heap.objs.size)
 have I1:=I.laid (a:=s.heap.objs.size) (o:=.dK []) (h':=s.heap.push { cls:=.type "dict",data:=.dict #[] }) (t':=s.toks) (λ_ _ q=>LK _ q) (LU _) (pN s.heap I.big)
 refine wpAny_Dict_walk (knd:=aw X.prog X.w) hall hl h0 h15 (thn (h pins _ σ _ _ I1 (q _ hn)) λws s2 ⟨ps,H2,I2,rel,e,kvs,ep,lk,q2⟩=>?_)
 subst ep
 obtain⟨rs,c,rk⟩:=kL (P:=X.prog) (w:=X.w) rel
 obtain⟨z,hd,vs0,r0,dd⟩:=pJ I2.hok e
 cases r0
 refine⟨rs,c,dd,λh' dd' hs=>⟨.ref s.heap.objs.size,_,?_,rfl,q2⟩⟩
 have hz:(iW [] kvs).length<=sizeLine:=by
  have h1:=gS kvs []
  rw[NU] at h1
  rw[sizeLine_eq];omega
 have he:∃q,h'.get? s.heap.objs.size=some q:=let ⟨q,_,_,hq,_⟩:=dd';⟨q,hq⟩
 exact iD I2 (by rw[e];exact Nr) hs he (j7 hz hd (rk.merge .nil) dd')
structure M1 (X:Cx) (o:Expr) (m:Str) (apos:Pos) (e:Expr) (cpos:Pos):Prop where
 base:attributeBase o m X.env (eval o X.env)=eval o X.env
 few:((backTo cpos (starEach [e] X.env)).all (λx=>!x.1)&&(backToKw cpos (keywordEach [] X.env)).all (λx=>x.1.isSome)
  && decide (([e]:List Expr).length+([]:List Keyword).length+(if ([]:List Keyword).isEmpty then 0 else 1)<30))=true
 line:(apos.endLine==cpos.line)=true
 trees:backTo cpos (starEach [e] X.env)=[(false,eval e X.env)]
def IsD(H:Hp)(a:Addr):Prop:=(∃kvs,Rd H a (.dK kvs))\/∃kvs,Rd H a (.dT kvs)
theorem Fn{X:Cx}{pins:List (Addr×Obj)}{σ:St}{H:Hp}{s:Shared}{a:Addr}(I:Inv X pins σ H s)(d:IsD H a) :
  s.TypeIs (.ref a) "dict" /\ (∀b,My a=.ref b->∃ob,s.heap.get? b=some ob/\ob.dict=none)/\(a==sysModules)=false:=by
 rcases d with ⟨kvs,e⟩|⟨kvs,e⟩
 ·obtain⟨_,hd,vs,_,dd⟩:=dy I.hok e
  refine⟨dd.typeIs,λb q=>?_,hd⟩
  cases q
  obtain⟨ob,_,_,h1,h2,_⟩:=dd
  exact⟨ob,h1,h2.2.1⟩
 ·obtain⟨_,hd,xs,_,dd⟩:=lK I.hok e
  refine⟨dd.typeIs,λb q=>?_,hd⟩
  cases q
  obtain⟨ob,_,_,h1,h2,_⟩:=dd
  exact⟨ob,h1,h2.2.1⟩
noncomputable def Gh(td ty:TE):TE:=λσ H Q=>td σ H λx H1=>∃a,x=.ref a/\IsD H1 a/\ty σ H1 λy H2=>∃kvs k v,H2 a=some (.dK kvs)/\y=kV k/\fB kvs k=some v/\Q v (upd H2 a (.dK (fM kvs k)))
section
variable{X:Cx}{o e f:Expr}{apos cpos:Pos}{td ty tx:TE}
theorem xB(ho:PE X o td)(he:PE X e ty)(m:M1 X o "pop" apos e cpos):PE X (.Call (.Attribute o "pop" apos) [e] [] cpos) (Gh td ty):=by
 intro pins s σ H Q I h
 refine wpAny_Call_method m.base m.few m.line PySem.F.plainAttrs_dict Qe PySem.F.type_dict_pop (thn (ho pins s σ H _ I h) λu s1 ⟨x,H1,I1,rx,a,ex,d,q1⟩=>?_)
 subst ex
 obtain rfl:u=My a:=rx
 obtain⟨t1,t2,_⟩:=Fn I1 d
 refine⟨t1,t2,?_⟩
 rw[m.trees]
 refine OA rfl (Qt (NZ (thn (he pins s1 σ H1 _ I1 q1) λiv s2 ⟨y,H2,I2,ry,kvs,k,v,ea,ey,l,q2⟩=>Ob ?_)))
 subst ey
 exact Hq I2 ea ry l (.inl rfl) λw' s3 I3 rw'=>⟨v,_,I3,rw',q2⟩
end
section
variable{X:Cx}{pins:List (Addr×Obj)}{σ:St}{H:Hp}{s:Shared}{a:Addr}{kvs:List (Key×V)}{A:Around}{E:Value->Shared->Prop}
theorem vK{Q:Value->Shared->Prop}(I:Inv X pins σ H s)(e:Rd H a (.dK kvs))(h:∀p s',H p=none->Inv X pins σ (upd H p (.dK kvs)) s'->Q (.ref p) s'):wpAny (model X.prog X.w) A (call (.type "dict") [.ref a]) Q E s:=by
 obtain⟨z,hd,vs,rel,dd⟩:=dy I.hok e
 refine kt_call_dict hd dd (by rw[<- rel.length];exact z) λh' dd' hs=>?_
 refine h _ _ (I.hok.fresh (LU _)) (I.laid (a:=s.heap.objs.size) (o:=.dK kvs) (t':=s.toks) (λb q hq=>?_) (LU _) (j7 z (beq_eq_false_iff_ne.mpr (Nd (Md I.big))) rel dd'))
 exact(hs.2 b (Md (LV hq))).trans (LK _ hq)
end
end L2
namespace Att
open PySem PySem.W PySem.Calls PyProof.Rows
theorem jw{P:Params}{h:Heap}:∀(ns:List Int)(vs:List Value),WellAll P h vs (ns.map R3)->IntsAre vs ns:=by
 intro ns
 induction ns with
 | nil =>
  intro vs w
  rw[LJ] at w
  cases w
  exact .nil
 | cons n ns ih =>
  intro vs w
  rw[LF] at w
  cases w with
  | cons a b =>
   cases a
   exact .cons _ _ (ih _ b)
theorem tR{l:OpenLaw}{n:Nat}(hn:l.most=some n){P:Params}{h:Heap}{args:List WData}{vals:List Value}
  (hpre:l.row.toRowW.claim.pre args=true)(hwl:WellAll P h vals args) :
  ∃a vs ns,vals=[My a]/\args=[WData.list (ns.map R3)]/\h.get? a=some { cls:=.type "list",data:=.seq vs.toArray }/\IntsAre vs ns/\ns.length<=n:=by
 have hsh:WShape.hasAll [] args [.list .int]=true:=(pre_splitW hpre).1
 have hc:l.pre.holds [] { args:=args }=true:=(pre_splitW hpre).2
 obtain⟨d,r,rfl,h1,h2⟩:=hasAllW_cons hsh
 obtain rfl:=hasAllW_nil h2
 obtain⟨xs,rfl,h3⟩:=hasW_list h1
 obtain⟨ns,rfl⟩:=items_int h3
 have hlen:ns.length<=n:=by
  unfold OpenLaw.pre at hc
  have h4:(WTm.not (.lt (.lit (.int (n:Int))) (.len (.arg 0)))).holds [] { args:=[.list (ns.map .int)] }=true:=by
   have h4:=(holds_andW hc).1
   rw[hn] at h4
   exact h4
  have h5:=condW_of h4 (w_not (w_lt w_lit (w_len_list (w_arg rfl))))
  rw[LH] at h5
  refine Nat.le_of_not_lt λq=>?_
  have q':(n:Int)<((ns.length:Nat):Int):=by omega
  first
   | (rw[decide_eq_true q'] at h5;exact absurd h5 (by decide))
   | (simp at h5;omega)
 cases hwl with
 | cons w1 w2 =>
  cases w2
  cases w1 with
  | list ho hall=>exact⟨_,_,ns,rfl,rfl,ho,jw ns _ hall,hlen⟩
theorem uq(l:OpenLaw)(args:List WData):l.row.toRowW.claim.post args (.bool true) args=true :=
 postW_of (r:=l.row.toRowW) (X:=(true==true))
  (show RH [] (.bool true) .bool=true by first|rfl|decide|simp[RH,WShape.arms,WShape.armsAll])
  (show (WTm.eq .res (.lit (.bool true))).value [] { args:=args,res:=some (.bool true),after:=args }=some (.bool (true==true)) from w_eq_bool (w_res rfl) w_lit) rfl
theorem pR{l:OpenLaw}{n:Nat}{q:Program}{loose:List Str}{XP:(Str->Option Value)->Heap->Prop}{YP:World->Heap->Prop}{d:DefRec}
  (hn:l.most=some n)(hdf:d.params.defaults=[])
  (call:∀(w:World)(s₀ s₁:Shared)(mg mb:Str->Option Value)(fa:Addr)(o:Obj)(pm cd doc:Value)(a:Addr)(vs:List Value)(ns:List Int),
   Ground q loose [] XP w s₀ mg mb s₁.heap->YP w s₁.heap ->
   s₁.heap.get? fa=some o->o.data=.func (docDef d.name d.params d.body d.scope pm cd doc)->s₁.heap.CodeRec cd d.name->mg d.name=some (.ref fa) ->
   s₁.heap.get? a=some { cls:=.type "list",data:=.seq vs.toArray }->IntsAre vs ns->ns.length<=n->s₁.gens=#[] ->
   codeAny (model l.prog w) callerA (.call (.ref fa) ⟨[.ref a],[]⟩) (λr s'=>r=.ok (.ret (.bool true))/\OldK s₁.heap s'.heap/\s'.os=s₁.os/\AllBare s'.gens) s₁) :
  WalkO q loose XP YP l.row.toRowW d [] (λf vs=>QH f vs):=by
 intro w s₀ s₁ mg mb G Y fa o pm cd doc dV kV ho hd hcd hD hmg hg args vals as hpre hlay hrd hwl hlo
 obtain rfl:dV=.none:=Dflts.none hD hdf
 obtain rfl:kV=.none:=Dflts.noKw hD
 obtain⟨a,vs,ns,rfl,rfl,hobj,hints,hlen⟩:=tR hn hpre hwl
 refine enter_call (codeAny_mono (call w s₀ s₁ mg mb fa o pm cd doc a vs ns G Y ho (fd_plain hd) hcd hmg hobj hints hlen hg) λr s' hq=>?_)
 obtain⟨rfl,h2,h3,h4⟩:=hq
 exact⟨.inl ⟨.bool true,.bool true,[],rfl,λ_=>rfl,.bool true,uq l _,λ_=>⟨RQ,λ_ hm=>(nomatch hm)⟩⟩,h2,h3,h4⟩
end Att
namespace L2
open PySem PySem.Spec PyProof.Rows
theorem lQ:∀{vs:List Value}{ns:List Int},IntsAre vs ns->Vals (ns.map V.int) vs
 | _,_,.nil=>.nil
 | _,_,.cons n t h=>.cons ⟨t,rfl⟩ (lQ h)
def CU(H:Hp):Prop:=∀b,H b=none\/∃o xs,H b=some (.frz o (.lst xs))
theorem vm{P:Program}{w:World}{K:LD}{mg mb:Str->Option Value}{CX:CXT}{k:Nat}{fa a:Addr}{fd:FuncData}{x:Str}{sp:Sp}{s₁:Shared}{vs:List Value}{ns:List Int}
  (KX:K.In s₁.heap)(hns:s₁.heap.Ns mainGlobals mg)(hb:s₁.heap.Ns builtinsNs mb)(hbb:∀x:Str,x ≠ "__name__" -> mb x=bootBuiltins x)(hlim:s₁.heap.NoLimit)(hg:s₁.gens=#[])
  (ha:s₁.heap.get? a=some { cls:=.type "list",data:=.seq vs.toArray })(hi:IntsAre vs ns)(hl:ns.length<=sizeLine)(hr:cj k callerA)
  (F:∀base:Heap,K.In base->base.Ns mainGlobals mg->cV P w K mg base CX k fa fd [x] sp)(hbind:∀(s:Shared)(u:Value),BindsTo s fd ⟨[u],[]⟩ [(x,u)])
  (hsp:∀H:Hp,CU H->SqL K H a (ns.map V.int)->sp [.ref a] H (λv _=>v=.bl true) λ_ _ _=>False)
  (hCX:∀H e s',CX [] H s₁ (λ_ _ _=>False) e s'->False) :
  codeAny (model P w) callerA (.call (.ref fa) ⟨[.ref a],[]⟩) (λr s'=>r=.ok (.ret (.bool true))/\OldK s₁.heap s'.heap/\s'.os=s₁.os/\AllBare s'.gens) s₁:=by
 have rv:=lQ hi
 have lenV:=hi.length
 have core:∀H:Hp,CU H->SqL K H a (ns.map V.int)->HOk P w H s₁.heap->(∀b,H b≠none->b=a)->(H a≠none->K.lookup a=none) ->
   codeAny (model P w) callerA (.call (.ref fa) ⟨[.ref a],[]⟩) (λr s'=>r=.ok (.ret (.bool true))/\OldK s₁.heap s'.heap/\s'.os=s₁.os/\AllBare s'.gens) s₁:=by
  intro H hO hS hok hA hK
  have eh:∀{b:Addr}{o:Obj},s₁.heap.get? b=some o->H b=none->(nO s₁.heap H).get? b=some o:=λe n=>wJ e n
  have noA:∀{b:Addr}{o:Obj}{es:Array DictEntry}{ep:Nat},s₁.heap.get? b=some o->o.data=.dict es ep->H b=none:=λ{b o es ep} e d=>by
   cases q:H b with
   | none=>rfl
   | some u =>
    have e':b=a:=hA b (by rw[q];simp)
    subst e'
    rw[ha] at e;cases e
    have d':Data.seq vs.toArray _=Data.dict es ep:=d
    cases d'
  have nsK:∀{b:Addr}{m:Str->Option Value},s₁.heap.Ns b m->(nO s₁.heap H).Ns b m:=λ{b m} ⟨o,es,ep,e,d,r⟩=>⟨o,es,ep,eh e (noA e d),d,r⟩
  have hKb:K.In (nO s₁.heap H):=λb o e=>eh (KX b o e) (by
   cases q:H b with
   | none=>rfl
   | some u =>
    have e':b=a:=hA b (by rw[q];simp)
    subst e'
    rw[hK (by rw[q];simp)] at e;cases e)
  have hM:Mod K mg (nO s₁.heap H):=⟨hKb,nsK hns,⟨mb,nsK hb,hbb⟩,let ⟨mc,h1,h2⟩:=hlim;⟨mc,nsK h1,h2⟩⟩
  have e0:qZ P w K mg (nO s₁.heap H) callerA [] s₁ H:=⟨rfl,hM,λb o e=>BC e,Qq (t9 _ _),trivial,λb hb=>absurd (show b∈([]:List Addr) from hb) (by simp),hok,.of_eq hg⟩
  refine codeAny_mono ((F _ hKb (nsK hns)).run callerA [] s₁ H ⟨[.ref a],[]⟩ [.ref a] [.ref a] _ _ hr e0 (hbind s₁ (.ref a)) (.cons rfl .nil) (hsp H hO hS)) λr s' h=>?_
  cases r with
  | error e=>exact(hCX H e s' h).elim
  | ok fl =>
   cases fl with
   | next=>exact M8 h
   | brk=>exact M8 h
   | cont=>exact M8 h
   | ret u =>
    obtain⟨v,H',os,bare,un,hok',r',q⟩:=h
    have q':v=.bl true:=q
    subst q'
    obtain rfl:u=QF true:=r'
    refine⟨rfl,OldK.of_keep λb o e=>?_,os,bare⟩
    cases q:H b with
    | none=>exact un.keep b o e q (by intro z;exact absurd (show b∈([]:List Addr) from z) (by simp)) (by simp)
    | some u =>
     rcases hO b with z|⟨ob,xs,z⟩
     ·rw[q] at z;cases z
     ·have z2:=un.frzs b ob _ z
      obtain⟨e1,_⟩:=hok b _ z
      obtain⟨e2,_⟩:=hok' b _ z2
      rw[e] at e1;cases e1
      exact e2
 cases hk:K.lookup a with
 | some o =>
  have e:=KX a o hk
  rw[ha] at e
  cases e
  refine core (λ_=>none) (λ_=>.inl rfl) (.inr ⟨_,vs.toArray,_,hk,rfl,rfl,rfl,by rw[LM,lenV];exact hl,by simpa using rv⟩) (λb u z=>by have z':(none:Option HO)=some u:=z;cases z') (λb z=>absurd rfl z) λz=>absurd rfl z
 | none =>
  refine core (λb=>if b=a then some (.frz { cls:=.type "list",data:=.seq vs.toArray } (.lst (ns.map V.int))) else none) (λb=>?_) (.inl (.inr ⟨{ cls:=.type "list",data:=.seq vs.toArray },if_pos rfl⟩)) (λb u z=>?_) (λb z=>?_) λ_=>hk
  ·by_cases hb:b=a
   ·exact .inr ⟨_,_,if_pos hb⟩
   ·exact .inl (if_neg hb)
  ·by_cases hb:b=a
   ·have z':=(if_pos hb).symm.trans z
    cases z'
    subst hb
    exact⟨ha,by rw[LH];exact hl,vs,_,rv,ha⟩
   ·have z':=(if_neg hb).symm.trans z
    cases z'
  ·by_cases hb:b=a
   ·exact hb
   ·exact absurd (if_neg hb) z
end L2
namespace L2
open PySem PySem.Spec PyProof.Rows
noncomputable def cM(s:Stmt):Arguments:=match s with
 | .FunctionDef _ a _ _ _ _ _ _ _ _=>a
 | _=>{ posonlyargs:=[],args:=[],vararg:=none,kwonlyargs:=[],kw_defaults:=[],kwarg:=none,defaults:=[] }
noncomputable def bZ(s:Stmt):List Stmt:=match s with
 | .FunctionDef _ _ b _ _ _ _ _ _ _=>b
 | _=>[]
noncomputable def aJ(s:Stmt):Scope:=match s with
 | .FunctionDef _ _ _ _ _ _ sc _ _ _=>sc
 | _=>{ kind:=.function,names:=[],isGenerator:=false,isCoroutine:=false }
theorem oF{A:Around}{k:Nat}(hr:cj k A):A.units+1<cLine:=Ng (Nat.add_le_add_left (by decide:1<=64) _) hr.units
section
variable{X:Cx}
theorem pv(i:Nat){x:Str}{pos:Pos}(hN:X.N[i]?=some x:=by rfl)(hv:Vis X.env.scope x:=by first|exact Or.inl rfl|exact RI (Or.inl rfl)|exact RI (RI rfl))(hd:NDb x:=by decide)
  (hcd:NCd x:=by decide):PE X (.Name x pos) (De i):=dk hN hv hd hcd
end
def K9(H H':Hp):Prop:=∀b o,H b=some o->H' b=some o
end L2
set_option maxHeartbeats 4000000
namespace L2
open PySem PySem.Spec PyProof.Rows PySem.W
open PySem.Builtin.ObjectAttr (find dataDescriptor? getOf)
open PySem.Builtin.Getset_descriptor (descrGet descrGetter descrCheckInstance descrNameAndClass)
section
variable{prog:Program}{w:World}{A:Around}{E:Value->Shared->Prop}{h:Heap}{g:Array GenState}{d:Drawn}{t:Nat}{os:OsState}{K:Frag}{x C:Addr}
structure kW (K:Frag) (C:Addr):Prop where
 ga:findIn K (.ref C) "__getattribute__" = some (some (.builtin "BaseException.__getattribute__"))
 gt:findIn K (.ref C) "__getattr__" = some none
 cl:findIn K (.ref C) "__class__" = some (some (.builtin "object.__class__"))
 gg:specialIn K (.builtin "object.__class__") "__get__" = some (some (.builtin "getset_descriptor.__get__"))
 tk:takesIn K (.builtin "object.__class__")=some true
 ob:mroIn K C (.type "object")=some true
 be:mroIn K C (.type "BaseException")=some true
def ExcAt(a C:Addr)(h:Heap):Prop:=∃oa,h.get? a=some oa/\oa.cls=.ref C
theorem ExcAt.type{M:Model}(I:ExcAt x C h):Looks M h (typeOf (.ref x)) (.ref C):=by
 obtain⟨oa,e1,e2⟩:=I
 exact e2▸(Looks.ld e1).andThen .now
theorem FZ{M:Model}{nameV:Value}{Q:Unit->Shared->Prop}(X:K.In h)(T:kW K C)(I:ExcAt x C h)(hq:Q () ⟨h,g,d,t,os⟩) :
  wpAny M A (checkBuiltinCall "BaseException.__getattribute__" ⟨[.ref x,nameV],[]⟩) Q E ⟨h,g,d,t,os⟩:=by
 have k1:builtinKind "BaseException.__getattribute__" = some .slot:=by decide +kernel
 have k2:splitId "BaseException.__getattribute__" = some ("BaseException", "__getattribute__"):=by decide +kernel
 have k3:=F.args_bexc_ga (.ref x) nameV
 have L2:Looks M h (isInstance (.ref x) (.type "BaseException")) true:=I.type.andThen (looks_mroIn (M:=M) X T.be)
 simp only[checkBuiltinCall,k1,k2]
 refine wpAny_bind (L2.at ?_)
 repeat (first|exact hq|wp_step)
theorem Jq{M:Model}(X:K.In h)(T:kW K C):Looks M h (find (.ref x) (.ref C) "__class__") (.bind (.builtin "getset_descriptor.__get__") (.builtin "object.__class__")):=by
 have l1:=looks_findIn (M:=M) X T.cl
 have l2:Looks M h (getOf (some (.builtin "object.__class__"))) (some (.builtin "getset_descriptor.__get__")):=looks_specialIn X T.gg
 have l3:Looks M h (dataDescriptor? (some (.builtin "object.__class__")) (some (.builtin "getset_descriptor.__get__"))) (some (.builtin "getset_descriptor.__get__",.builtin "object.__class__")):=(looks_takesIn (M:=M) X T.tk).andThen .now
 exact l1.andThen (l2.andThen (l3.andThen (Looks.tag .now)))
theorem Li{tp:Value}{R:Result->Shared->Prop}(X:K.In h)(T:kW K C)(I:ExcAt x C h)(q:R (.ok (.ret (.ref C))) ⟨h,g,d,t,os⟩) :
  codeAny (model prog w) A (.call (.builtin "getset_descriptor.__get__") ⟨[.builtin "object.__class__",.ref x,tp],[]⟩) R ⟨h,g,d,t,os⟩:=by
 have l0:=I.type (M:=model prog w)
 have l1:=looks_mroIn (M:=model prog w) X T.ob
 refine codeAny_call_builtin (KF.slot_gs).plain (KF.entry_gs) ((KF.slot_gs).check _ _ _ _ _ _ _ _ (KF.type_class) (KF.args_gs _ _ _) ?_)
 unfold Builtin.«getset_descriptor.__get__»
 unfold descrGet
 rw[dga_obj _ tp x]
 refine wpAny_bind (wpAny_pure ?_)
 unfold descrGetter descrCheckInstance
 unfold descrNameAndClass isInstance
 simp only[KF.owner_class,id]
 repeat (first|lk)
 refine⟨Pd _ (by decide +kernel),codeAny_builtin (KF.entry_class) ?_⟩
 unfold Builtin.«object.__class__»
 unfold shownTypeOf
 repeat (first|lk)
 exact q
theorem CQ{tk:Tok}{Q:Fin->Shared->Prop}(X:K.In h)(T:kW K C)(I:ExcAt x C h)(hq:Q (.done (.ret (.ref C))) ⟨h,g,d,t,os⟩) :
  wpAny (model prog w) A (Builtin.«object.__getattribute__» ⟨[.ref x,.str "__class__" tk],[]⟩) Q E ⟨h,g,d,t,os⟩:=by
 have L0:=I.type (M:=model prog w)
 have L1:=Jq (x:=x) (M:=model prog w) X T
 unfold Builtin.«object.__getattribute__»
 refine wpAny_bind (wpAny_pure ?_)
 refine wpAny_bind (wpAny_pure ?_)
 refine wpAny_bind (L0.at ?_)
 refine wpAny_bind (L1.at ?_)
 unfold Q7
 refine wpAny_bind (wpAny_call ?_)
 refine Li X T I ?_
 exact wpAny_pure hq
theorem HV{tk:Tok}{R:Result->Shared->Prop}(X:K.In h)(T:kW K C)(I:ExcAt x C h)(hq:R (.ok (.ret (.ref C))) ⟨h,g,d,t,os⟩) :
  codeAny (model prog w) A (.call (.builtin "BaseException.__getattribute__") ⟨[.ref x,.str "__class__" tk],[]⟩) R ⟨h,g,d,t,os⟩ :=
 codeAny_call_builtin QW.ga.plain F.entry_bexc_ga (FZ X T I (CQ X T I hq))
theorem xby{tk:Tok}{Q:Value->Shared->Prop}(X:K.In h)(T:kW K C)(I:ExcAt x C h)(hq:Q (.ref C) ⟨h,g,d,t,os⟩) :
  wpAny (model prog w) A (getAttrBy (.ref x) (.str "__class__" tk) false) Q E ⟨h,g,d,t,os⟩:=by
 have f3:=QW.ga.bind (.ref x)
 have z2:(OZ "BaseException.__getattribute__" == OZ "object.__getattribute__")=false:=by decide +kernel
 have z1:(onTheHeap (My C)&&OZ "BaseException.__getattribute__" == OZ "object.__getattribute__")=false:=by rw[z2];rfl
 have L0:=I.type (M:=model prog w)
 have L1:=looks_findIn (M:=model prog w) X T.ga
 have L2:=looks_findIn (M:=model prog w) X T.gt
 unfold getAttrBy
 refine wpAny_holding (wpAny_bind (L0.at (wpAny_bind (L1.at ?_))))
 dsimp only
 rw[if_neg (by rw[z1];exact Mz)]
 unfold getAttrByItsOwn hookBefore
 repeat (any_goals (first|assumption|with_reducible refine wpAny_bind (L2.at ?_)|with_reducible refine wpAny_bind (L1.at ?_)|wp_step))
 refine HV X T I ?_
 repeat (any_goals (first|assumption|wp_step))
theorem Jk{Q:Option Value->Shared->Prop}(X:K.In h)(T:kW K C)(I:ExcAt x C h)(hq:Q (some (.ref C)) ⟨h,g,d,t+1,os⟩) :
  wpAny (model prog w) A (getAttr? (.ref x) "__class__") Q E ⟨h,g,d,t,os⟩:=by
 unfold getAttr? getAttrBy?
 repeat (any_goals (first|assumption|with_reducible apply xby X T I|wp_step))
end
theorem kW.there{K:Frag}{C:Addr}(T:kW K C):∃oc od cd sl,K.lookup C=some ⟨oc,od,.cls cd,sl⟩:=by
 have q:=T.ob
 unfold mroIn clsIn at q
 split at q
 ·rename_i a b c e f
  exact⟨a,b,c,e,f⟩
 ·cases q
theorem xq{K:Frag}{a C:Addr}(T:kW K C):KitX K (.ref a) (.ref C) (ExcAt a C) where
 ty:=λ_ _ _ I=>I.type
 it:=λ_ _ X _=>by
  obtain⟨_,_,_,_,lk⟩:=T.there
  intro A1 Q1 E1 s1 k1 q1
  unfold isType loadHead
  exact wpAny_bind (wpAny_loadPart (k1 _ _ (X _ _ lk)) (wpAny_pure q1))
 ne:=λh tp dd its n sl X htp=>by
  obtain⟨_,_,_,_,lk⟩:=T.there
  refine QX.mpr λq=>?_
  cases My.inj (beq_iff_eq.mp q)
  cases (X _ _ lk).symm.trans htp
 ca:=λ{_ _ _ _ _ s} X I k=>by
  obtain⟨h,g,d,t,os⟩:=s
  exact Jk X T I k
end L2
namespace L2
open PySem PySem.Spec PyProof.Rows
theorem ba.is{P:Program}{w:World}{H:Hp}{h:Heap}{a:Addr}{o:HO}(x:ba P w H h a o):∃ob,h.get? a=some ob:=by
 cases o with
 | lst xs=>obtain⟨_,_,_,_,e⟩:=x;exact⟨_,e⟩
 | tup xs=>obtain⟨_,_,_,ob,e,_⟩:=x;exact⟨_,e⟩
 | dK kvs=>obtain⟨_,_,_,_,ob,_,_,e,_⟩:=x;exact⟨_,e⟩
 | dT kvs=>obtain⟨_,_,_,_,ob,_,_,e,_⟩:=x;exact⟨_,e⟩
 | set S n=>obtain⟨ob,_,_,_,e,_⟩:=x;exact⟨_,e⟩
 | ins C dx fs=>obtain⟨_,_,_,e,_⟩:=x;exact⟨_,e⟩
 | own y=>obtain⟨_,e⟩:=x;exact⟨_,e⟩
 | xd fs=>obtain⟨_,⟨_,_,_,e,_⟩,_⟩:=x;exact⟨_,e⟩
 | rng lo hi=>obtain⟨_,_,_,e⟩:=x;exact⟨_,e⟩
 | frz ob u=>obtain⟨e,_⟩:=x;exact⟨_,e⟩
 | tbl ps=>exact⟨_,x⟩
 | met f y=>exact⟨_,x⟩
 | ext φ=>obtain⟨_,⟨_,e⟩,_⟩:=x;exact⟨_,e⟩
end L2
namespace L2
open PySem PySem.Spec PyProof.Rows
noncomputable abbrev XS:=Value->St->Hp->Prop
noncomputable abbrev TX:=Ends->XS->St->Hp->Prop
section
variable{X:Cx}
variable{k:Nat}{f C:Addr}{fd:FuncData}{ps:List Str}{sp:Sp}{dvs:List V}{ds:List Value}{x m:Str}{p pos apos:Pos}{e o:Expr}{es:List Expr}{ta:TE}{t:TA}
noncomputable def Fq(a C:Addr):HO:=.ext (ExcAt a C)
end
end L2
namespace L2
open PySem PySem.Spec PyProof.Rows
def Bd(n:Nat)(x:Int):Prop:=x.natAbs<2^n
theorem Bd.mono{m n:Nat}{x:Int}(h:Bd m x)(k:m<=n):Bd n x:=LP h (MO (by decide) k)
theorem Bd.bits{n:Nat}{x:Int}(h:Bd n x):PX x<=n:=by
 unfold PX
 split
 ·exact MT _
 ·rename_i z
  have h0:x.natAbs≠0:=λq=>z (by simp[Int.natAbs_eq_zero.mp q])
  exact(R4 h0).mpr h
theorem Bd.Iy{m n:Nat}{x y:Int}(h:Bd m x)(k:Bd n y)(hs:m+n<=134217728):IntMulOk x y:=IntMulOk.of_le h.bits k.bits hs
theorem Bd.mul{m n:Nat}{x y:Int}(h:Bd m x)(k:Bd n y):Bd (m+n) (x*y):=by
 unfold Bd at *
 rw[RC,Nat.pow_add]
 exact Nat.mul_lt_mul'' h k
theorem Bd.add{m n:Nat}{x y:Int}(h:Bd m x)(k:Bd n y):Bd (max m n+1) (x+y):=by
 have h1:=h.mono (Ro m n)
 have k1:=k.mono (Rc m n)
 unfold Bd at *
 have:=Int.natAbs_add_le x y
 rw[Nat.pow_succ]
 omega
theorem Bd.neg{n:Nat}{x:Int}(h:Bd n x):Bd n (-x):=by unfold Bd at *;rwa[Int.natAbs_neg]
theorem Bd.sub{m n:Nat}{x y:Int}(h:Bd m x)(k:Bd n y):Bd (max m n+1) (x-y):=by
 rw[QY];exact h.add k.neg
theorem Bd.log{n:Nat}{x:Int}(h:Bd n x)(hn:n<=9000):x.natAbs.log2<9000:=by
 by_cases z:x.natAbs=0
 ·rw[z];decide
 ·exact LP ((R4 z).mpr h) hn
section
variable{X:Cx}
def CDv(_ j:Int):Prop:=j≠0/\Bd 9000 j
theorem AV:OpR X (binaryOp .Mult) (rI IntMulOk λi j=>.int (i*j)):=opI λ_ _ _ _ _ _ _ hc q=>mul_int q hc
theorem yu:OpR X (binaryOp .FloorDiv) (rI CDv λi j=>.int (i.fdiv j)):=opI λ_ _ _ _ _ _ _ hc q=>floordiv_int hc.1 q (.inl (PyProof.noPylong_of_log2 (hc.2.log (LU _))))
end
inductive D where
 | non|bl (b:Bool)|int (i:Int)|str (x:Str)|tup (ds:List D)|lst (ds:List D)
mutual
noncomputable def D.eq:D->D->Bool
 | .non,.non=>true
 | .bl a,.bl b=>a==b
 | .bl a,.int b=>(if a then 1 else 0)==b
 | .int a,.bl b=>a==(if b then 1 else 0)
 | .int a,.int b=>a==b
 | .str a,.str b=>a==b
 | .tup xs,.tup ys=>D.eqs xs ys
 | .lst xs,.lst ys=>D.eqs xs ys
 | _,_=>false
noncomputable def D.eqs:List D->List D->Bool
 | [],[]=>true
 | x::xs,y::ys=>D.eq x y&&D.eqs xs ys
 | _,_=>false
end
mutual
noncomputable def D.depth:D->Nat
 | .tup xs=>D.cC xs+1
 | .lst xs=>D.cC xs+1
 | _=>0
noncomputable def D.cC:List D->Nat
 | []=>0
 | x::xs=>max (D.depth x) (D.cC xs)
end
mutual
theorem D.gB:∀d:D,D.eq d d=true
 | .non=>rfl
 | .bl b=>by simp[D.eq]
 | .int i=>by simp[D.eq]
 | .str x=>by simp[D.eq]
 | .tup xs=>by rw[D.eq];exact D.kZ xs
 | .lst xs=>by rw[D.eq];exact D.kZ xs
theorem D.kZ:∀ds:List D,D.eqs ds ds=true
 | []=>rfl
 | x::xs=>by rw[D.eqs,D.gB x,D.kZ xs];rfl
end
mutual
inductive Den (K:LD) (H:Hp):V->D->Prop
 | non:Den K H .non .non
 | bl (b:Bool):Den K H (.bl b) (.bl b)
 | int (i:Int):Den K H (.int i) (.int i)
 | str (x:Str):Den K H (.str x) (.str x)
 | tup {a:Addr} {xs:List V} {ds:List D} (e:SqT K H a xs) (r:eM K H xs ds):Den K H (.ref a) (.tup ds)
 | lst {a:Addr} {xs:List V} {ds:List D} (e:SqL K H a xs) (r:eM K H xs ds):Den K H (.ref a) (.lst ds)
inductive eM (K:LD) (H:Hp):List V->List D->Prop
 | nil:eM K H [] []
 | cons {x:V} {d:D} {xs:List V} {ds:List D} (h:Den K H x d) (r:eM K H xs ds):eM K H (x::xs) (d::ds)
end
theorem eM.len{K:LD}{H:Hp}:∀{xs:List V}{ds:List D},eM K H xs ds->xs.length=ds.length
 | _,_,.nil=>rfl
 | _,_,.cons _ r=>by rw[LL,LL,r.len]
theorem eM.at{K:LD}{H:Hp}:∀{xs:List V}{ds:List D}(j:Nat){x:V}{d:D},eM K H xs ds->xs[j]?=some x->ds[j]?=some d->Den K H x d
 | _,_,0,_,_,.cons h _,e1,e2=>by cases e1;cases e2;exact h
 | _,_,j+1,_,_,.cons _ r,e1,e2=>r.at j e1 e2
theorem D.mv:∀{ds:List D}(j:Nat){d:D},ds[j]?=some d->D.depth d<=D.cC ds
 | x::xs,0,_,e=>by cases e;exact Ro _ _
 | x::xs,j+1,_,e=>Mf (D.mv (ds:=xs) j e) (Rc _ _)
theorem D.fq:∀(xs ys:List D),D.eqs xs ys=((Mo (min xs.length ys.length)).all (λj=>D.eq (xs.getD j .non) (ys.getD j .non))&&xs.length==ys.length)
 | [],[]=>rfl
 | [],_::_=>rfl
 | _::_,[]=>rfl
 | x::xs,y::ys=>by
  rw[D.eqs,D.fq xs ys,LL,LL,Nat.succ_min_succ,List.range_succ_eq_map,MA,Pk]
  have e:(xs.length+1==ys.length+1)=(xs.length==ys.length):=by
   rw[OJ];simp
  rw[e,Bool.and_assoc]
  rfl
section
variable{X:Cx}{pins:List (Addr×Obj)}{σ:St}{H:Hp}{s:Shared}
theorem sR{a:Addr}{xs ys:List V}(I:Inv X pins σ H s)(h1:SqT X.K H a xs)(h2:SqL X.K H a ys):False:=by
 obtain⟨_,_,⟨o,e,c,_⟩,_⟩:=I.tuple h1
 obtain⟨_,_,⟨o',n',e',c',_,d'⟩,_⟩:=I.list h2
 rw[e] at e';cases e'
 rw[c] at c'
 injection c' with q
 exact absurd q (by decide)
mutual
theorem Den.inj(I:Inv X pins σ H s):∀{v:V}{d e:D},Den X.K H v d->Den X.K H v e->d=e
 | _,_,_,.non,h=>by cases h;rfl
 | _,_,_,.bl b,h=>by cases h;rfl
 | _,_,_,.int i,h=>by cases h;rfl
 | _,_,_,.str x,h=>by cases h;rfl
 | _,_,_,.tup e r,h=>by
  cases h with
  | tup e' r'=>cases I.lS e e';rw[eM.inj I r r']
  | lst e' r'=>exact(sR I e e').elim
 | _,_,_,.lst e r,h=>by
  cases h with
  | lst e' r'=>cases I.pG e e';rw[eM.inj I r r']
  | tup e' r'=>exact(sR I e' e).elim
theorem eM.inj(I:Inv X pins σ H s):∀{v:List V}{d e:List D},eM X.K H v d->eM X.K H v e->d=e
 | _,_,_,.nil,h=>by cases h;rfl
 | _,_,_,.cons a r,h=>by
  cases h with
  | cons a' r'=>rw[Den.inj I a a',eM.inj I r r']
end
theorem mH(I:Inv X pins σ H s){A:Around}{x y:V}{d e:D}{u v:Value}(hu:A.units<cLine)(hf:gm x=true)(hd:Den X.K H x d)(he:Den X.K H y e)(ru:RelV x u)(rv:RelV y v):Oz A s u v (D.eq d e):=by
 cases hd with
 | tup=>cases hf
 | lst=>cases hf
 | non  =>
  cases he with
  | tup q r=>cases ru;cases rv;rw[D.eq.eq_def];obtain⟨_,_,p,_⟩:=I.tuple q;exact .none_tuple p hu
  | lst q r=>cases ru;cases rv;rw[D.eq.eq_def];obtain⟨_,_,p,_⟩:=I.list q;exact .none_list p.isList hu
  | non  => exact bK ru rv rfl rfl
  | bl b1=>exact bK ru rv rfl rfl
  | int i1=>exact bK ru rv rfl rfl
  | str x1=>exact bK ru rv rfl rfl
 | bl b0 =>
  cases he with
  | tup q r=>cases ru;cases rv;rw[D.eq.eq_def];obtain⟨_,_,p,_⟩:=I.tuple q;exact .bool_tuple _ p hu
  | lst q r=>cases ru;cases rv;rw[D.eq.eq_def];obtain⟨_,_,p,_⟩:=I.list q;exact .bool_list _ p.isList hu
  | non  => exact bK ru rv rfl rfl
  | bl b1=>exact bK ru rv rfl rfl
  | int i1=>exact bK ru rv rfl rfl
  | str x1=>exact bK ru rv rfl rfl
 | int i0 =>
  cases he with
  | tup q r=>obtain⟨_,rfl⟩:=ru;cases rv;rw[D.eq.eq_def];obtain⟨_,_,p,_⟩:=I.tuple q;exact .int_tuple _ _ p hu
  | lst q r=>obtain⟨_,rfl⟩:=ru;cases rv;rw[D.eq.eq_def];obtain⟨_,_,p,_⟩:=I.list q;exact .int_list _ _ p.isList hu
  | non  => exact bK ru rv rfl rfl
  | bl b1=>exact bK ru rv rfl rfl
  | int i1=>exact bK ru rv rfl rfl
  | str x1=>exact bK ru rv rfl rfl
 | str x0 =>
  cases he with
  | tup q r=>obtain⟨_,rfl⟩:=ru;cases rv;rw[D.eq.eq_def];obtain⟨_,_,p,_⟩:=I.tuple q;exact .str_tuple _ _ p hu
  | lst q r=>obtain⟨_,rfl⟩:=ru;cases rv;rw[D.eq.eq_def];obtain⟨_,_,p,_⟩:=I.list q;exact .str_list _ _ p.isList hu
  | non  => exact bK ru rv rfl rfl
  | bl b1=>exact bK ru rv rfl rfl
  | int i1=>exact bK ru rv rfl rfl
  | str x1=>exact bK ru rv rfl rfl
theorem Vals.Jf{xs:List V}{us:List Value}(r:Vals xs us){j:Nat}(hj:j<us.toArray.size):∃x,xs[j]?=some x/\RelV x us.toArray[j]:=by
 have hl:=r.length
 have hj':j<us.length:=by simpa using hj
 have hx:j<xs.length:=by omega
 obtain⟨u,e,ru⟩:=r.get (L8 hx)
 rw[L8 hj'] at e
 cases e
 exact⟨xs[j],L8 hx,by simpa using ru⟩
theorem eM.getD{K:LD}{H:Hp}{xs:List V}{ds:List D}(r:eM K H xs ds){j:Nat}{x:V}(e:xs[j]?=some x):Den K H x (ds.getD j .non)/\D.depth (ds.getD j .non)<=D.cC ds:=by
 have hj:j<ds.length:=by rw[<- r.len];exact(LI.mp e).1
 have e2:ds[j]?=some ds[j]:=L8 hj
 have e3:ds.getD j .non=ds[j]:=by rw[MR,e2];rfl
 rw[e3]
 exact⟨r.at j e e2,D.mv j e2⟩
theorem jd(I:Inv X pins σ H s){n:Nat}(ih:∀{A:Around}{x y:V}{d e:D}{u v:Value},A.units+n<cLine->D.depth d<=n->Den X.K H x d->Den X.K H y e->RelV x u->RelV y v->Oz A s u v (D.eq d e))
  {A:Around}(hu:A.units+(n+1)<cLine){xs ys:List V}{ds es:List D}{us vs:List Value}(hn:D.cC ds<=n)(r:eM X.K H xs ds)(q:eM X.K H ys es)(ru:Vals xs us)(rv:Vals ys vs) :
  ∀j (h1:j<us.toArray.size) (h2:j<vs.toArray.size),Oz A.in1 s us.toArray[j] vs.toArray[j] (D.eq (ds.getD j .non) (es.getD j .non)):=λj h1 h2=>by
 obtain⟨x,ex,rx⟩:=ru.Jf h1
 obtain⟨y,ey,ry⟩:=rv.Jf h2
 obtain⟨d1,d2⟩:=r.getD ex
 exact ih (by show A.units+1+n<cLine;omega) (Mf d2 hn) d1 (q.getD ey).1 rx ry
theorem gc(I:Inv X pins σ H s):∀(n:Nat){A:Around}{x y:V}{d e:D}{u v:Value},A.units+n<cLine->D.depth d<=n->Den X.K H x d->Den X.K H y e->RelV x u->RelV y v->Oz A s u v (D.eq d e):=by
 intro n
 induction n with
 | zero =>
  intro A x y d e u v hu hn hd he ru rv
  cases id hd with
  | tup=>simp[D.depth] at hn
  | lst=>simp[D.depth] at hn
  | _=>exact mH I hu rfl hd he ru rv
 | succ n ih =>
  intro A x y d e u v hu hn hd he ru rv
  have hu0:A.units<cLine:=by omega
  cases id hd with
  | @tup a xs ds ea r =>
   cases ru
   obtain⟨us,rus,p,_⟩:=I.tuple ea
   cases id he with
   | @tup b ys es eb r2 =>
    cases rv
    obtain⟨vs,rvs,p2,_⟩:=I.tuple eb
    by_cases hab:a=b
    ·subst hab
     rw[hd.inj I he,D.gB]
     exact .same _
    ·refine .of_refs hab ?_
     rw[D.eq.eq_def]
     simp only[]
     rw[D.fq]
     have l1:us.toArray.size=ds.length:=by rw[LM,<- rus.length,r.len]
     have l2:vs.toArray.size=es.length:=by rw[LM,<- rvs.length,r2.len]
     rw[<- l1,<- l2]
     exact .tuples p p2 hu0 (jd I ih hu (by rw[D.depth] at hn;omega) r r2 rus rvs)
   | @lst b ys es eb r2 =>
    cases rv
    obtain⟨vs,rvs,p2,_⟩:=I.list eb
    rw[D.eq.eq_def]
    exact .tuple_list p p2.isList hu0
   | non  => cases rv;rw[D.eq.eq_def];exact .tuple_none p hu0
   | bl b0=>cases rv;rw[D.eq.eq_def];exact .tuple_bool _ p hu0
   | int i0=>obtain⟨_,rfl⟩:=rv;rw[D.eq.eq_def];exact .tuple_int _ _ p hu0
   | str x0=>obtain⟨_,rfl⟩:=rv;rw[D.eq.eq_def];exact .tuple_str _ _ p hu0
  | @lst a xs ds ea r =>
   cases ru
   obtain⟨us,rus,p,_⟩:=I.list ea
   cases id he with
   | @lst b ys es eb r2 =>
    cases rv
    obtain⟨vs,rvs,p2,_⟩:=I.list eb
    by_cases hab:a=b
    ·subst hab
     rw[hd.inj I he,D.gB]
     exact .same _
    ·refine .of_refs hab ?_
     rw[D.eq.eq_def]
     simp only[]
     rw[D.fq]
     have l1:us.toArray.size=ds.length:=by rw[LM,<- rus.length,r.len]
     have l2:vs.toArray.size=es.length:=by rw[LM,<- rvs.length,r2.len]
     rw[<- l1,<- l2]
     by_cases hl:us.toArray.size=vs.toArray.size
     ·have e1:(us.toArray.size==vs.toArray.size)=true:=beq_iff_eq.mpr hl
      rw[e1,O8,<- hl,Qv]
      exact .lists p.isList p2.isList hl hu0 (jd I ih hu (by rw[D.depth] at hn;omega) r r2 rus rvs)
     ·have e1:(us.toArray.size==vs.toArray.size)=false:=beq_eq_false_iff_ne.mpr hl
      rw[e1,N7]
      exact .lists_lengths p.isList p2.isList (by simpa using hl) hu0
   | @tup b ys es eb r2 =>
    cases rv
    obtain⟨vs,rvs,p2,_⟩:=I.tuple eb
    rw[D.eq.eq_def]
    exact .list_tuple p.isList p2 hu0
   | non  => cases rv;rw[D.eq.eq_def];exact .list_none p.isList hu0
   | bl b0=>cases rv;rw[D.eq.eq_def];exact .list_bool _ p.isList hu0
   | int i0=>obtain⟨_,rfl⟩:=rv;rw[D.eq.eq_def];exact .list_int _ _ p.isList hu0
   | str x0=>obtain⟨_,rfl⟩:=rv;rw[D.eq.eq_def];exact .list_str _ _ p.isList hu0
  | _=>exact mH I hu0 rfl hd he ru rv
end
end L2
namespace L2
open PySem PySem.Spec PyProof.Rows
section
variable{X:Cx}{pins:List (Addr×Obj)}{σ:St}{H:Hp}{s:Shared}
theorem wH(I:Inv X pins σ H s){n:Nat}{A:Around}{x y:V}{d e:D}{u v:Value}(hu:A.units+n<cLine)(hn:D.depth d<=n)(hd:Den X.K H x d)(he:Den X.K H y e)(ru:RelV x u)(rv:RelV y v):SeqAt.RcAt A s u v (D.eq d e):=by
 have hu0:A.units<cLine:=by omega
 cases id hd with
 | non  =>
  cases ru
  cases id he with
  | non  => cases rv;rw[D.eq.eq_def];exact .none_none
  | bl y1=>cases rv;rw[D.eq.eq_def];exact .none_bool _
  | int y1=>obtain⟨_,rfl⟩:=rv;rw[D.eq.eq_def];exact .none_int _ _
  | str y1=>obtain⟨_,rfl⟩:=rv;rw[D.eq.eq_def];exact .none_str _ _
  | @tup b ys es eb r2=>cases rv;rw[D.eq.eq_def];obtain⟨_,_,p2,_⟩:=I.tuple eb;exact .none_tuple p2 hu0
  | @lst b ys es eb r2=>cases rv;rw[D.eq.eq_def];obtain⟨_,_,p2,_⟩:=I.list eb;exact .none_list p2.isList hu0
 | bl x1 =>
  cases ru
  cases id he with
  | non  => cases rv;rw[D.eq.eq_def];exact .bool_none _
  | bl y1=>cases rv;rw[D.eq.eq_def];exact .bool_bool _ _
  | int y1=>obtain⟨_,rfl⟩:=rv;rw[D.eq.eq_def];exact .bool_int _ _ _
  | str y1=>obtain⟨_,rfl⟩:=rv;rw[D.eq.eq_def];exact .bool_str _ _ _
  | @tup b ys es eb r2=>cases rv;rw[D.eq.eq_def];obtain⟨_,_,p2,_⟩:=I.tuple eb;exact .bool_tuple _ p2 hu0
  | @lst b ys es eb r2=>cases rv;rw[D.eq.eq_def];obtain⟨_,_,p2,_⟩:=I.list eb;exact .bool_list _ p2.isList hu0
 | int x1 =>
  obtain⟨_,rfl⟩:=ru
  cases id he with
  | non  => cases rv;rw[D.eq.eq_def];exact .int_none _ _
  | bl y1=>cases rv;rw[D.eq.eq_def];exact .int_bool _ _ _
  | int y1=>obtain⟨_,rfl⟩:=rv;rw[D.eq.eq_def];exact .int_int _ _ _ _
  | str y1=>obtain⟨_,rfl⟩:=rv;rw[D.eq.eq_def];exact .int_str _ _ _ _
  | @tup b ys es eb r2=>cases rv;rw[D.eq.eq_def];obtain⟨_,_,p2,_⟩:=I.tuple eb;exact .int_tuple _ _ p2 hu0
  | @lst b ys es eb r2=>cases rv;rw[D.eq.eq_def];obtain⟨_,_,p2,_⟩:=I.list eb;exact .int_list _ _ p2.isList hu0
 | str x1 =>
  obtain⟨_,rfl⟩:=ru
  cases id he with
  | non  => cases rv;rw[D.eq.eq_def];exact .str_none _ _
  | bl y1=>cases rv;rw[D.eq.eq_def];exact .str_bool _ _ _
  | int y1=>obtain⟨_,rfl⟩:=rv;rw[D.eq.eq_def];exact .str_int _ _ _ _
  | str y1=>obtain⟨_,rfl⟩:=rv;rw[D.eq.eq_def];exact .str_str _ _ _ _
  | @tup b ys es eb r2=>cases rv;rw[D.eq.eq_def];obtain⟨_,_,p2,_⟩:=I.tuple eb;exact .str_tuple _ _ p2 hu0
  | @lst b ys es eb r2=>cases rv;rw[D.eq.eq_def];obtain⟨_,_,p2,_⟩:=I.list eb;exact .str_list _ _ p2.isList hu0
 | @tup a xs ds ea r =>
  cases ru
  obtain⟨us,rus,p,_⟩:=I.tuple ea
  cases id he with
  | non  => cases rv;rw[D.eq.eq_def];exact .tuple_none p hu0
  | bl y1=>cases rv;rw[D.eq.eq_def];exact .tuple_bool _ p hu0
  | int y1=>obtain⟨_,rfl⟩:=rv;rw[D.eq.eq_def];exact .tuple_int _ _ p hu0
  | str y1=>obtain⟨_,rfl⟩:=rv;rw[D.eq.eq_def];exact .tuple_str _ _ p hu0
  | @tup b ys es eb r2 =>
   cases rv
   obtain⟨vs,rvs,p2,_⟩:=I.tuple eb
   rw[D.depth] at hn
   obtain⟨n,rfl⟩:∃m,n=m+1:=⟨n-1,by omega⟩
   rw[D.eq.eq_def]
   simp only[]
   rw[D.fq]
   have l1:us.toArray.size=ds.length:=by rw[LM,<- rus.length,r.len]
   have l2:vs.toArray.size=es.length:=by rw[LM,<- rvs.length,r2.len]
   rw[<- l1,<- l2]
   exact .tuples p p2 hu0 (jd I (gc I n) hu (by omega) r r2 rus rvs)
  | @lst b ys es eb r2=>cases rv;rw[D.eq.eq_def];obtain⟨_,_,p2,_⟩:=I.list eb;exact .tuple_list p p2.isList hu0
 | @lst a xs ds ea r =>
  cases ru
  obtain⟨us,rus,p,_⟩:=I.list ea
  cases id he with
  | non  => cases rv;rw[D.eq.eq_def];exact .list_none p.isList hu0
  | bl y1=>cases rv;rw[D.eq.eq_def];exact .list_bool _ p.isList hu0
  | int y1=>obtain⟨_,rfl⟩:=rv;rw[D.eq.eq_def];exact .list_int _ _ p.isList hu0
  | str y1=>obtain⟨_,rfl⟩:=rv;rw[D.eq.eq_def];exact .list_str _ _ p.isList hu0
  | @tup b ys es eb r2=>cases rv;rw[D.eq.eq_def];obtain⟨_,_,p2,_⟩:=I.tuple eb;exact .list_tuple p.isList p2 hu0
  | @lst b ys es eb r2 =>
   cases rv
   obtain⟨vs,rvs,p2,_⟩:=I.list eb
   rw[D.depth] at hn
   obtain⟨n,rfl⟩:∃m,n=m+1:=⟨n-1,by omega⟩
   rw[D.eq.eq_def]
   simp only[]
   rw[D.fq]
   have l1:us.toArray.size=ds.length:=by rw[LM,<- rus.length,r.len]
   have l2:vs.toArray.size=es.length:=by rw[LM,<- rvs.length,r2.len]
   rw[<- l1,<- l2]
   by_cases hl:us.toArray.size=vs.toArray.size
   ·have e1:(us.toArray.size==vs.toArray.size)=true:=beq_iff_eq.mpr hl
    rw[e1,O8,<- hl,Qv]
    exact .lists p.isList p2.isList hl hu0 (jd I (gc I n) hu (by omega) r r2 rus rvs)
   ·have e1:(us.toArray.size==vs.toArray.size)=false:=beq_eq_false_iff_ne.mpr hl
    rw[e1,N7]
    exact .lists_lengths p.isList p2.isList (by simpa using hl) hu0
theorem qv(I:Inv X pins σ H s){n:Nat}{A:Around}{x y:V}{d e:D}{u v:Value}(hu:A.units+n<cLine)(hn:D.depth d<=n)(hd:Den X.K H x d)(he:Den X.K H y e)(ru:RelV x u)(rv:RelV y v):SeqAt.RcNeAt A s u v (!D.eq d e):=by
 have hu0:A.units<cLine:=by omega
 cases id hd with
 | non  =>
  cases ru
  cases id he with
  | non  => cases rv;rw[D.eq.eq_def];exact .none_none
  | bl y1=>cases rv;rw[D.eq.eq_def];exact .none_bool _
  | int y1=>obtain⟨_,rfl⟩:=rv;rw[D.eq.eq_def];exact .none_int _ _
  | str y1=>obtain⟨_,rfl⟩:=rv;rw[D.eq.eq_def];exact .none_str _ _
  | @tup b ys es eb r2=>cases rv;rw[D.eq.eq_def];obtain⟨_,_,p2,_⟩:=I.tuple eb;exact .none_tuple p2 hu0
  | @lst b ys es eb r2=>cases rv;rw[D.eq.eq_def];obtain⟨_,_,p2,_⟩:=I.list eb;exact .none_list p2.isList hu0
 | bl x1 =>
  cases ru
  cases id he with
  | non  => cases rv;rw[D.eq.eq_def];exact .bool_none _
  | bl y1=>cases rv;rw[D.eq.eq_def];exact .bool_bool _ _
  | int y1=>obtain⟨_,rfl⟩:=rv;rw[D.eq.eq_def];exact .bool_int _ _ _
  | str y1=>obtain⟨_,rfl⟩:=rv;rw[D.eq.eq_def];exact .bool_str _ _ _
  | @tup b ys es eb r2=>cases rv;rw[D.eq.eq_def];obtain⟨_,_,p2,_⟩:=I.tuple eb;exact .bool_tuple _ p2 hu0
  | @lst b ys es eb r2=>cases rv;rw[D.eq.eq_def];obtain⟨_,_,p2,_⟩:=I.list eb;exact .bool_list _ p2.isList hu0
 | int x1 =>
  obtain⟨_,rfl⟩:=ru
  cases id he with
  | non  => cases rv;rw[D.eq.eq_def];exact .int_none _ _
  | bl y1=>cases rv;rw[D.eq.eq_def];exact .int_bool _ _ _
  | int y1=>obtain⟨_,rfl⟩:=rv;rw[D.eq.eq_def];exact .int_int _ _ _ _
  | str y1=>obtain⟨_,rfl⟩:=rv;rw[D.eq.eq_def];exact .int_str _ _ _ _
  | @tup b ys es eb r2=>cases rv;rw[D.eq.eq_def];obtain⟨_,_,p2,_⟩:=I.tuple eb;exact .int_tuple _ _ p2 hu0
  | @lst b ys es eb r2=>cases rv;rw[D.eq.eq_def];obtain⟨_,_,p2,_⟩:=I.list eb;exact .int_list _ _ p2.isList hu0
 | str x1 =>
  obtain⟨_,rfl⟩:=ru
  cases id he with
  | non  => cases rv;rw[D.eq.eq_def];exact .str_none _ _
  | bl y1=>cases rv;rw[D.eq.eq_def];exact .str_bool _ _ _
  | int y1=>obtain⟨_,rfl⟩:=rv;rw[D.eq.eq_def];exact .str_int _ _ _ _
  | str y1=>obtain⟨_,rfl⟩:=rv;rw[D.eq.eq_def];exact .str_str _ _ _ _
  | @tup b ys es eb r2=>cases rv;rw[D.eq.eq_def];obtain⟨_,_,p2,_⟩:=I.tuple eb;exact .str_tuple _ _ p2 hu0
  | @lst b ys es eb r2=>cases rv;rw[D.eq.eq_def];obtain⟨_,_,p2,_⟩:=I.list eb;exact .str_list _ _ p2.isList hu0
 | @tup a xs ds ea r =>
  cases ru
  obtain⟨us,rus,p,_⟩:=I.tuple ea
  cases id he with
  | non  => cases rv;rw[D.eq.eq_def];exact .tuple_none p hu0
  | bl y1=>cases rv;rw[D.eq.eq_def];exact .tuple_bool _ p hu0
  | int y1=>obtain⟨_,rfl⟩:=rv;rw[D.eq.eq_def];exact .tuple_int _ _ p hu0
  | str y1=>obtain⟨_,rfl⟩:=rv;rw[D.eq.eq_def];exact .tuple_str _ _ p hu0
  | @tup b ys es eb r2 =>
   cases rv
   obtain⟨vs,rvs,p2,_⟩:=I.tuple eb
   rw[D.depth] at hn
   obtain⟨n,rfl⟩:∃m,n=m+1:=⟨n-1,by omega⟩
   rw[D.eq.eq_def]
   simp only[]
   rw[D.fq]
   have l1:us.toArray.size=ds.length:=by rw[LM,<- rus.length,r.len]
   have l2:vs.toArray.size=es.length:=by rw[LM,<- rvs.length,r2.len]
   rw[<- l1,<- l2]
   exact .tuples p p2 hu0 (jd I (gc I n) hu (by omega) r r2 rus rvs)
  | @lst b ys es eb r2=>cases rv;rw[D.eq.eq_def];obtain⟨_,_,p2,_⟩:=I.list eb;exact .tuple_list p p2.isList hu0
 | @lst a xs ds ea r =>
  cases ru
  obtain⟨us,rus,p,_⟩:=I.list ea
  cases id he with
  | non  => cases rv;rw[D.eq.eq_def];exact .list_none p.isList hu0
  | bl y1=>cases rv;rw[D.eq.eq_def];exact .list_bool _ p.isList hu0
  | int y1=>obtain⟨_,rfl⟩:=rv;rw[D.eq.eq_def];exact .list_int _ _ p.isList hu0
  | str y1=>obtain⟨_,rfl⟩:=rv;rw[D.eq.eq_def];exact .list_str _ _ p.isList hu0
  | @tup b ys es eb r2=>cases rv;rw[D.eq.eq_def];obtain⟨_,_,p2,_⟩:=I.tuple eb;exact .list_tuple p.isList p2 hu0
  | @lst b ys es eb r2 =>
   cases rv
   obtain⟨vs,rvs,p2,_⟩:=I.list eb
   rw[D.depth] at hn
   obtain⟨n,rfl⟩:∃m,n=m+1:=⟨n-1,by omega⟩
   rw[D.eq.eq_def]
   simp only[]
   rw[D.fq]
   have l1:us.toArray.size=ds.length:=by rw[LM,<- rus.length,r.len]
   have l2:vs.toArray.size=es.length:=by rw[LM,<- rvs.length,r2.len]
   rw[<- l1,<- l2]
   by_cases hl:us.toArray.size=vs.toArray.size
   ·have e1:(us.toArray.size==vs.toArray.size)=true:=beq_iff_eq.mpr hl
    rw[e1,O8,<- hl,Qv]
    exact .lists p.isList p2.isList hl hu0 (jd I (gc I n) hu (by omega) r r2 rus rvs)
   ·have e1:(us.toArray.size==vs.toArray.size)=false:=beq_eq_false_iff_ne.mpr hl
    rw[e1,N7]
    exact .lists_lengths p.isList p2.isList (by simpa using hl) hu0
noncomputable def GZ(K:LD):R2:=λx y H Q=>∃d e,Den K H x d/\Den K H y e/\D.depth d<=40/\Q (.bl (D.eq d e)) H
noncomputable def IU(K:LD):R2:=λx y H Q=>∃d e,Den K H x d/\Den K H y e/\D.depth d<=40/\Q (.bl (!D.eq d e)) H
theorem yD(hu:X.A.units+64<cLine):OpR X (compareOp .Eq) (GZ X.K):=by
 intro pins s σ H x y v u Q I rx ry h
 obtain⟨d,e,hd,he,dp,q⟩:=h
 exact wH I (n:=64) hu (by omega) hd he rx ry _ _ _ _ ⟨.bl _,H,I,rfl,q⟩
theorem nM(hu:X.A.units+64<cLine):OpR X (compareOp .NotEq) (IU X.K):=by
 intro pins s σ H x y v u Q I rx ry h
 obtain⟨d,e,hd,he,dp,q⟩:=h
 exact qv I (n:=64) hu (by omega) hd he rx ry _ _ _ _ ⟨.bl _,H,I,rfl,q⟩
inductive TyX (K:LD) (H:Hp):V->Value->Prop where
 | of {v:V} {t:Value} (h:jv K H v t):TyX K H v t
 | tup {a:Addr} {xs:List V} (e:SqT K H a xs):TyX K H (.ref a) (.type "tuple")
 | lst {a:Addr} {xs:List V} (e:SqL K H a xs):TyX K H (.ref a) (.type "list")
 | exc {a C:Addr} (e:H a=some (Fq a C)) (c:kW K C):TyX K H (.ref a) (.ref C)
 | dic {a:Addr} {kvs:List (Key×V)} (e:Rd H a (.dK kvs)):TyX K H (.ref a) (.type "dict")
noncomputable def AA:V->Value
 | .ref a=>.ref a
 | .ty n=>.type n
 | _=>.none
noncomputable def sJ:V->Bool
 | .ref _=>true
 | .ty _=>true
 | _=>false
theorem AD{x:V}{u:Value}(h:sJ x=true)(r:RelV x u):u=AA x:=by
 cases x<;>first|exact r|cases h
theorem qH{pins:List (Addr×Obj)}{σ:St}{H:Hp}{s:Shared}{x:V}{u t:Value}(I:Inv X pins σ H s)(rx:RelV x u)(ty:TyX X.K H x t):∃P,PySem.W.KitX X.K u t P/\P s.heap/\u≠.builtin "__main__.__loader__#opaque" := by
 cases ty with
 | tup e =>
  cases rx
  obtain⟨_,_,⟨o,h1,h2,_⟩,_⟩:=I.tuple e
  exact⟨_,Qw,⟨o,h1,h2⟩,λz=>nomatch z⟩
 | lst e =>
  cases rx
  obtain⟨_,_,⟨o,_,h1,h2,_⟩,_⟩:=I.list e
  exact⟨_,O9,⟨o,h1,h2⟩,λz=>nomatch z⟩
 | dic e =>
  cases rx
  obtain⟨_,_,vs,_,o,es,ep,h1,h2,_⟩:=dy I.hok e
  exact⟨_,Pa,⟨o,h1,h2.1⟩,λz=>nomatch z⟩
 | exc e c =>
  cases rx
  obtain⟨p,_⟩:=(show ba X.prog X.w H s.heap _ (Fq _ _) from I.hok _ _ e)
  exact⟨_,xq c,p,λz=>nomatch z⟩
 | of h =>
  cases h with
  | non=>cases rx;exact⟨_,PySem.W.kitx_none,trivial,λz=>nomatch z⟩
  | bl y=>cases rx;exact⟨_,PySem.W.kitx_bool,trivial,λz=>nomatch z⟩
  | int i=>obtain⟨_,rfl⟩:=rx;exact⟨_,PySem.W.kitx_int,trivial,λz=>nomatch z⟩
  | str i=>obtain⟨_,rfl⟩:=rx;exact⟨_,PySem.W.kitx_str,trivial,λz=>nomatch z⟩
  | flt i=>obtain⟨_,rfl⟩:=rx;exact⟨_,PySem.W.kitx_float,trivial,λz=>nomatch z⟩
  | @lst a xs ea =>
   cases rx
   obtain⟨_,_,n,_,h1⟩:=(show ba X.prog X.w H s.heap a (.lst xs) from I.hok a _ ea)
   exact⟨_,O9,⟨_,h1,rfl⟩,λz=>nomatch z⟩
  | @frz a ob xs ea =>
   cases rx
   obtain⟨_,_,_,n,_,h1⟩:=(show ba X.prog X.w H s.heap a (.frz ob (.lst xs)) from I.hok a _ ea)
   exact⟨_,O9,⟨_,h1,rfl⟩,λz=>nomatch z⟩
  | @tup a xs ea =>
   cases rx
   obtain⟨_,_,_,o,h1,h2,_⟩:=(show ba X.prog X.w H s.heap a (.tup xs) from I.hok a _ ea)
   exact⟨_,Qw,⟨o,h1,h2⟩,λz=>nomatch z⟩
  | @dK a kvs ea =>
   cases rx
   obtain⟨_,_,vs,_,o,es,ep,h1,h2,_⟩:=(show ba X.prog X.w H s.heap a (.dK kvs) from I.hok a _ ea)
   exact⟨_,Pa,⟨o,h1,h2.1⟩,λz=>nomatch z⟩
  | @dT a kvs ea =>
   cases rx
   obtain⟨_,_,xs,_,o,es,ep,h1,h2,_⟩:=(show ba X.prog X.w H s.heap a (.dT kvs) from I.hok a _ ea)
   exact⟨_,Pa,⟨o,h1,h2.1⟩,λz=>nomatch z⟩
  | @ins a C dx fs ea cl ha hn htk hm =>
   cases rx
   obtain⟨mA,O,_⟩:=jK I.hok ea
   obtain⟨od,J,_⟩:=O.look
   exact⟨_,PySem.W.kitx_own (cl.get _) cl.hd ha hn htk hm,J,λz=>nomatch z⟩
theorem vq:bR X (.builtin "isinstance") (λxs H Q=>∃x c t b,xs=[x,c]/\TyX X.K H x t/\sJ c=true/\MW X.K t (AA c)=some b/\Q (.bl b) H):=by
 intro pins s σ H xs us Q I r h
 obtain⟨x,c,t,b,rfl,ty,hc,hk,q⟩:=h
 obtain⟨u,w',rfl,ru,rw'⟩:=vals2 r
 rw[AD hc rw']
 obtain⟨P,Z,p,nb⟩:=qH I ru ty
 exact PySem.W.kia_one Z I.kIn p hk nb λtk=>⟨.bl b,H,I.tok tk,rfl,q⟩
end
end L2
namespace L2
open PySem PySem.Spec PyProof.Rows
theorem EO:bootBuiltins "len" = some (.builtin "len"):=by decide +kernel
theorem ly:bootBuiltins "isinstance" = some (.builtin "isinstance"):=by decide +kernel
theorem Gz:bootBuiltins "abs" = some (.builtin "abs"):=by decide +kernel
theorem E4:bootBuiltins "max" = some (.builtin "max"):=by decide +kernel
theorem C9:bootBuiltins "min" = some (.builtin "min"):=by decide +kernel
theorem uA:bootBuiltins "sorted" = some (.builtin "sorted"):=by decide +kernel
theorem vw:bootBuiltins "all" = some (.builtin "all"):=by decide +kernel
theorem xK:bootBuiltins "int" = some (.type "int"):=by decide +kernel
theorem Ba:bootBuiltins "bool" = some (.type "bool"):=by decide +kernel
theorem DR:bootBuiltins "str" = some (.type "str"):=by decide +kernel
theorem pP:bootBuiltins "tuple" = some (.type "tuple"):=by decide +kernel
theorem tq:bootBuiltins "list" = some (.type "list"):=by decide +kernel
theorem sI:bootBuiltins "dict" = some (.type "dict"):=by decide +kernel
theorem vD:bootBuiltins "set" = some (.type "set"):=by decide +kernel
structure nJ (K:LD) (x qual:Str) (st:Stmt) (f:Addr) (fd:FuncData) (dV:Value):Prop where
 ex:∃(oc:Value) (od:Option Addr) (kV doc pm:Value) (an:Option Addr) (cdv ct:Value) (osl:Array (Option Value)),
  fd=NF x qual (cM st) (bZ st) (aJ st) dV kV doc pm an cdv ct/\K.lookup f=some ⟨oc,od,.func fd,osl⟩/\OG K cdv qual=true
 kp:M0 K (.ref f)=true
end L2
namespace L2
open PySem PySem.Spec PyProof.Rows
@[irreducible] def QS (X:Cx) (s:Stmt) (t:TS):Prop:=PS X s t
@[irreducible] def QT (X:Cx) (s:Expr) (t:TT):Prop:=PT X s t
@[irreducible] def QA (X:Cx) (s:List Expr) (t:TA):Prop:=PA X s t
set_option autoImplicit true
set_option relaxedAutoImplicit true
end L2
namespace L2
open PySem PySem.Spec PyProof.Rows
section
variable{prog:Program}{w:World}{A:Around}{R:Result->Shared->Prop}{s:Shared}
theorem nW{elt target iter:Expr}{ifs:List Expr}{scope:Scope}{pos:Pos}{it acc:Value}{env:Env}(I:Nat->Shared->Prop)
  (turn:∀n s,I n s->wpAny (model prog w) A (pyNext it) (λr s₁=>match r with
   | none=>R (.ok .next) s₁
   | some v=>wpAny (model prog w) A (letOwnedTupleGo target it v) (λ_ s₁'=>wpAny (model prog w) A (assign target env v) (λ_ s₂ =>
     wpAny (model prog w) A (forIn ifs true λc r=>if r=true then do let ok <- isTrue c env (eval c env);pure (Nt ok) else pure (Nt r)) (λok s₃ =>
      if ok=true then wpAny (model prog w) A (eval elt env) (λx s₄ =>
       wpAny (model prog w) A (call (.builtin "list.append") [acc,x]) (λ_ s₅=>∃m,m<n/\I m s₅) (λ_ _=>False) s₄) (λ_ _=>False) s₃
      else ∃m,m<n/\I m s₃) (λ_ _=>False) s₂) (λ_ _=>False) s₁') (λ_ _=>False) s₁) (λ_ _=>False) s)
  (n:Nat) (h:I n s):codeAny (model prog w) A (.compLoop (.ListComp elt [⟨target,iter,ifs,0⟩] scope pos) 0 it acc env) R s:=by
 refine codeAny_loop rfl I (λn s hI=>?_) n h
 show wpAny _ A ((compTurn (.ListComp elt [⟨target,iter,ifs,0⟩] scope pos) 0 it acc env).onRaise (λx=>do noteFrame x env;theTreesLotGoes x)) _ _ s
 refine wpAny_noted ?_
 rw[compTurn_list]
 refine wpAny_bind (wpAny_standAt (wpAny_bind (wpAny_mono (turn n s hI) (λr s₁ h₁=>?_) λ_ _ h'=>h'.elim)))
 cases r with
 | none=>exact wpAny_pure h₁
 | some v =>
  refine wpAny_bind (wpAny_mono h₁ (λ_ s₁' h₁'=>?_) λ_ _ h'=>h'.elim)
  refine wpAny_bind (wpAny_mono h₁' (λ_ s₂ h₂=>wpAny_bind (wpAny_mono h₂ (λok s₃ h₃=>?_) λ_ _ h'=>h'.elim)) λ_ _ h'=>h'.elim)
  cases ok with
  | false=>exact wpAny_pure ⟨rfl,h₃⟩
  | true =>
   exact wpAny_bind (wpAny_bind (wpAny_mono h₃ (λx s₄ h₄=>wpAny_bind (wpAny_mono h₄ (λ_ s₅ h₅=>wpAny_pure (wpAny_pure ⟨rfl,h₅⟩)) λ_ _ h'=>h'.elim)) λ_ _ h'=>h'.elim))
end
theorem j8{env:Env}{f:Str×NameKind->List (Str×Addr)->Sem (ForInStep (List (Str×Addr)))}
  (hf:∀x cs,f x cs=if (x.2==Nu)=true then (do let c <- cellOf env x.1;pure (Nt ((x.1,c)::cs))) else pure (Nt cs)) :
  ∀(l:List (Str×NameKind))(cs:List (Str×Addr)),(∀x∈l,x.2=.free->∃c,env.cells.lookup x.1=some c) ->
   ∃cl,forIn l cs f=(pure cl:Sem _)/\(∀x c,cl.lookup x=some c->cs.lookup x=some c\/env.cells.lookup x=some c) /\
    (∀x,(∃c,cs.lookup x=some c)\/(x,Nu)∈l->∃c,cl.lookup x=some c)
 | [],cs,_=>⟨cs,rfl,λ_ _ h=>.inl h,λx h=>h.elim id (λz=>by cases z)⟩
 | (n,k)::l,cs,h=>by
  rw[List.forIn_cons,hf]
  by_cases hk:k=.free
  ·subst hk
   obtain⟨c,hc⟩:=h (n,.free) LW rfl
   obtain⟨cl,e,h1,h2⟩:=j8 hf l ((n,c)::cs) λx hx=>h x (LX _ hx)
   refine⟨cl,?_,λx c' q=>?_,λx q=>h2 x ?_⟩
   ·have e1:cellOf env n=pure c:=by unfold cellOf;rw[hc]
    simp only[beq_self_eq_true,if_true,e1,pure_bind]
    exact e
   ·rcases h1 x c' q with z|z
    ·rw[Mq] at z
     by_cases hx:(x==n)=true
     ·rw[hx] at z
      have:x=n:=eq_of_beq hx
      subst this
      exact .inr (by rw[hc];exact z)
     ·rw[QX.mpr hx] at z
      exact .inl z
    ·exact .inr z
   ·rcases q with ⟨c',z⟩|z
    ·left
     rw[Mq]
     cases x==n with
     | true=>exact⟨c,rfl⟩
     | false=>exact⟨c',z⟩
    ·rcases Me.mp z with z|z
     ·left
      cases z
      rw[Mq,beq_self_eq_true]
      exact⟨c,rfl⟩
     ·exact .inr z
  ·obtain⟨cl,e,h1,h2⟩:=j8 hf l cs λx hx=>h x (LX _ hx)
   refine⟨cl,?_,h1,λx q=>h2 x ?_⟩
   ·have e1:((n,k).2==Nu)=false:=by
     cases k<;>first|rfl|exact absurd rfl hk
    rw[e1]
    simp only[QL,if_false,pure_bind]
    exact e
   ·rcases q with z|z
    ·exact .inl z
    ·rcases Me.mp z with z|z
     ·cases z;exact absurd rfl hk
     ·exact .inr z
theorem qN{scope:Scope}{env:Env}(h:∀x∈scope.names,x.2=.free->∃c,env.cells.lookup x.1=some c) :
  ∃cl,closureFor scope env=pure cl/\(∀x c,cl.lookup x=some c->env.cells.lookup x=some c)/\(∀x,(x,Nu)∈scope.names->∃c,cl.lookup x=some c):=by
 obtain⟨cl,e,h1,h2⟩:=j8 (env:=env) (λ_ _=>rfl) scope.names [] h
 refine⟨cl,?_,λx c q=>(h1 x c q).elim (λz=>by cases z) id,λx q=>h2 x (.inr q)⟩
 unfold closureFor
 exact(congrArg (λz:Sem (List (Str×Addr))=>z >>= λr=>pure r) e).trans (by rw[pure_bind])
section
variable{env:Env}
noncomputable def pQ(env:Env):Str×NameKind->Str×NameKind:=λ(n,k)=>if (k==.free&&env.scope.kind==.function&&env.kindOf n==some .cell) then (n,.cell) else (n,k)
theorem pA(p:Str×NameKind):(pQ env p).1=p.1:=by
 obtain⟨n,k⟩:=p
 show (if _ then _ else _:Str×NameKind).1=n
 split<;>rfl
theorem oG(p:Str×NameKind):(pQ env p).2=p.2\/(p.2=.free/\(pQ env p).2=.cell):=by
 obtain⟨n,k⟩:=p
 show (if _ then _ else _:Str×NameKind).2=k\/_
 split
 ·rename_i h
  right
  rw[LG,LG] at h
  refine⟨eq_of_beq h.1.1,?_⟩
  show (if _ then _ else _:Str×NameKind).2=_
  rw[if_pos (by rw[LG,LG];exact h)]
 ·left;rfl
theorem dY:∀{names:List (Str×NameKind)}{x:Str}{k:NameKind},names.lookup x=some k->(names.map (pQ env)).lookup x=some k\/(k=.free/\(names.map (pQ env)).lookup x=some .cell)
 | [],_,_,h=>by cases h
 | p::r,x,k,h=>by
  rw[LF]
  obtain⟨n,k0⟩:=p
  have e1:=pA (env:=env) (n,k0)
  have e2:=oG (env:=env) (n,k0)
  generalize pQ env (n,k0)=q at e1 e2 ⊢
  obtain⟨n',k'⟩:=q
  have e1:n'=n:=e1
  subst e1
  rw[Mq] at h ⊢
  cases hx:x==n' with
  | true =>
   rw[hx] at h
   cases h
   rcases e2 with e2|⟨e2,e3⟩
   ·left;exact congrArg some e2
   ·right;exact⟨e2,congrArg some e3⟩
  | false =>
   rw[hx] at h
   exact dY h
theorem bS:∀{names:List (Str×NameKind)}{x:Str}{k:NameKind},(names.map (pQ env)).lookup x=some k->names.lookup x=some k\/(k=.cell/\names.lookup x=some .free)
 | [],_,_,h=>by cases h
 | p::r,x,k,h=>by
  rw[LF] at h
  obtain⟨n,k0⟩:=p
  have e1:=pA (env:=env) (n,k0)
  have e2:=oG (env:=env) (n,k0)
  generalize pQ env (n,k0)=q at e1 e2 h
  obtain⟨n',k'⟩:=q
  have e1:n'=n:=e1
  subst e1
  rw[Mq] at h ⊢
  cases hx:x==n' with
  | true =>
   rw[hx] at h
   cases h
   rcases e2 with e2|⟨e2,e3⟩
   ·left;exact congrArg some e2.symm
   ·right;exact⟨e3,congrArg some e2⟩
  | false =>
   rw[hx] at h
   exact bS h
theorem gx{sc:Scope}{x:Str}(h:sc.names.lookup x=some .local):(relabel sc env).names.lookup x=some .local:=by
 rcases dY (env:=env) h with z|⟨z,_⟩
 ·exact z
 ·cases z
theorem wt{sc:Scope}{x:Str}(h:sc.names.lookup x=some .globalImplicit):(relabel sc env).names.lookup x=some .globalImplicit:=by
 rcases dY (env:=env) h with z|⟨z,_⟩
 ·exact z
 ·cases z
theorem oU{sc:Scope}{x:Str}(h:sc.names.lookup x=some .free):Vis (relabel sc env) x:=by
 rcases dY (env:=env) h with z|⟨_,z⟩
 ·exact .inr (.inr z)
 ·exact .inr (.inl z)
end
structure eJ (N0 N:List Str) (k:Nat) (sc de:Scope):Prop where
 kind:sc.kind=.function
 cell:∀y∈sc.names,y.2≠.cell
 names:∀y∈sc.names,y.2=.local->sc.names.lookup y.1=some .local
 len:N.length=N0.length+k
 nd:N.Nodup
 old:∀p∈(N.take N0.length).zip N0,p.1=p.2\/sc.names.lookup p.1=none
 nl:∀n∈N.take N0.length,sc.names.lookup n≠some .local
 fr:∀y∈sc.names,y.2=.free->de.names.lookup y.1=some .cell\/de.names.lookup y.1=some .free
noncomputable def cxC(X:Cx)(N:List Str)(sc:Scope)(cl:List (Str×Addr))(C:Addr)(s:Shared)(H:Hp)(ex:List Addr):Cx where
 prog:=X.prog
 w:=X.w
 K:=X.K
 mg:=X.mg
 base:=X.base
 A:=X.A
 N:=N
 s₀:=s
 H₀:=H
 env:=compEnvC sc cl C X.env
 outer:=X.stack
 stack:=X.stack
 ex:=ex
 fn:=λ_=>false
 calm:=X.calm
 pn:=[]
 xe:=λ_ _=>False
theorem mem_of_lookupK{names:List (Str×NameKind)}{x:Str}{k:NameKind}(h:names.lookup x=some k):(x,k)∈names:=Na h
section
variable{X:Cx}{pins:List (Addr×Obj)}{σ:St}{H:Hp}{s:Shared}{N:List Str}{k:Nat}{sc:Scope}{cl:List (Str×Addr)}{C:Addr}{fp:List Addr}{h1:Heap}{tk:Nat}
theorem u5(I:Inv X pins σ H s)(S:eJ X.N N k sc X.env.scope)(hcl1:∀x c,cl.lookup x=some c->X.env.cells.lookup x=some c)
  (hcl2:∀x,(x,Nu)∈sc.names->∃c,cl.lookup x=some c)(hC:s.heap.objs.size<=C)(hf:∀b∈fp,kf X pins H b)(hfp:∀b∈fp,b<s.heap.objs.size)
  (hk:∀b o,s.heap.get? b=some o->h1.get? b=some o)(hn:∃m,h1.Ns C m) :
  Inv (cxC X N sc cl C s H fp) (X.pn++pins) (σ++L7 k none) H { s with heap:=h1,toks:=tk }:=by
 have oldlt:∀b o,s.heap.get? b=some o->b≠C:=λb o e=>Md (LP (LV e) hC)
 have kind:∀x,((cxC X N sc cl C s H fp).env.kindOf x=some .cell\/(cxC X N sc cl C s H fp).env.kindOf x=some .free)->sc.names.lookup x=some .free:=λx hx=>by
  rcases hx with hx|hx
  ·rcases bS (env:=X.env) hx with z|⟨_,z⟩
   ·exact absurd rfl (S.cell _ (mem_of_lookupK z))
   ·exact z
  ·rcases bS (env:=X.env) hx with z|⟨z,_⟩
   ·exact z
   ·cases z
 refine⟨⟨I.ok.mod,S.kind,I.ok.glob,I.ok.blt,hC,λx y c h1 h2=>I.ok.inj x y c (hcl1 _ _ h1) (hcl1 _ _ h2),λx hx=>hcl2 x (mem_of_lookupK (kind x hx)),λx c z _=>absurd (show false=true from z) Mz,
  I.ok.hd,I.ok.frames,.inl rfl,λb hb=>⟨Md (LP (hfp b hb) hC),λx c e=>(hf b hb).2.2.2.2.1 x c (hcl1 _ _ e)⟩,I.bs,Mf I.ok.bsz I.sz,λb o e hb=>?_,λb hb hb2=>?_,I.stack,I.sD⟩,
  rfl,I.bare,Un.kept hk,?_,λx c e=>?_,I.hok.fresh hC,λx c e=>I.freeC x c (hcl1 _ _ e),λp hp=>?_,I.hok.kept hk,?_⟩
 ·rcases(hf b hb).2.2.2.1 with z|z
  ·exact I.ok.noex b o e z
  ·exact absurd (LP (LV e) (Mf I.ok.bsz z)) (MG _)
 ·rcases Me.mp (I.iS b hb2) with z|z
  ·exact(hf b hb).2.1 z
  ·exact(hf b hb).2.2.1 z
 ·obtain⟨m,hn⟩:=hn
  refine⟨m,hn,λi x v e1 e2 e3=>?_⟩
  have hi:i<σ.length:=by
   by_cases hi:i<σ.length
   ·exact hi
   ·rw[MQ (by omega),Qh] at e2
    split at e2<;>cases e2
  rw[MK hi] at e2
  have hi0:i<X.N.length:=by rw[<- I.len];exact hi
  have hiN:(N.take X.N.length)[i]?=some x:=by rw[Og hi0];exact e1
  have nloc:=S.nl x (Mc hiN)
  have hfree:sc.names.lookup x=some .free:=by
   rcases e3 with z|z|z
   ·rcases bS (env:=X.env) z with z|⟨z,_⟩
    ·exact absurd z nloc
    ·cases z
   ·exact kind x (.inl z)
   ·exact kind x (.inr z)
  have hX:X.N[i]?=some x:=by
   have hz:((N.take X.N.length).zip X.N)[i]?=some (x,X.N[i]):=by
    rw[List.getElem?_zip_eq_some]
    exact⟨hiN,L8 hi0⟩
   rcases S.old _ (Mc hz) with z|z
   ·have z:x=X.N[i]:=z
    rw[L8 hi0,<- z]
   ·have z:sc.names.lookup x=none:=z
    rw[hfree] at z;cases z
  obtain⟨m0,hn0,hl0⟩:=I.loc
  have vis:Vis X.env.scope x:=by
   rcases S.fr _ (mem_of_lookupK hfree) rfl with z|z
   ·exact .inr (.inl z)
   ·exact .inr (.inr z)
  obtain⟨u,r,l⟩:=hl0 i x v hX e2 vis
  refine⟨u,r,.inr ⟨?_,?_⟩⟩
  ·rcases oU (env:=X.env) hfree with z | z | z
   ·rcases bS (env:=X.env) z with z | ⟨z,_⟩
    ·rw [hfree] at z; cases z
    ·cases z
   ·exact .inl z
   ·exact .inr z
  ·rcases l with ⟨z,_⟩|⟨_,c,ec,ic⟩
   ·have z:X.env.scope.names.lookup x=some .local:=z
    rcases S.fr _ (mem_of_lookupK hfree) rfl with z2|z2
    ·have z2:X.env.scope.names.lookup x=some .cell:=z2
     rw[z] at z2;cases z2
    ·have z2:X.env.scope.names.lookup x=some .free:=z2
     rw[z] at z2;cases z2
   ·obtain⟨c',ec'⟩:=hcl2 x (mem_of_lookupK hfree)
    have:=hcl1 _ _ ec'
    rw[ec] at this
    cases this
    obtain⟨o,ho,hd⟩:=ic
    exact⟨c,ec',o,hk _ _ ho,hd⟩
 ·obtain⟨v,o,ho,hd⟩:=I.cell x c (hcl1 _ _ e)
  exact⟨v,o,hk _ _ ho,hd⟩
 ·have hp:p∈X.pn++pins:=hp
  obtain⟨e,n,ne,nf,d⟩:=I.pin p hp
  refine⟨hk _ _ e,n,oldlt _ _ e,λhb=>?_,d⟩
  rcases Me.mp (I.iS _ hb) with z|z
  ·exact ne z
  ·exact nf z
 ·show (σ++L7 k none).length=N.length
  rw[L4,Qr,I.len,S.len]
theorem yd{H':Hp}{σ':St}{s':Shared}{D:Addr}{ys:List V}{its:List Value}(I:Inv X pins σ H s)(I':Inv (cxC X N sc cl C s H fp) (X.pn++pins) σ' H' s')(hD:s.heap.objs.size<=D)(hDn:H' D=none)
  (pl:s'.heap.PlainList D its.toArray)(rv:Vals ys its)(hl:ys.length<=sizeLine)(hf:∀b∈fp,kf X pins H b):Inv X pins σ (upd H' D (.lst ys)) s':=by
 obtain⟨n,hpl⟩:=pl
 have u:=I'.base
 have ne:∀b o,s.heap.get? b=some o->b≠D:=λb o e=>Md (LP (LV e) hD)
 have nH:∀b o,H' b=some o->b≠D:=λb o e=>aF e hDn
 refine I.G8 I'.os ⟨u.keep,u.slot,λb o e n nx=>?_,u.there,λb xs e=>?_,λb o v e=>?_,λb ps e=>?_⟩ (λb o e=>?_) I'.bare (ch:=fp) λb hb=>?_
 ·rw[aA (ne b o e)];exact u.free b o e n nx
 ·have:=u.tups b xs e
  rw[aA (nH _ _ this)];exact this
 ·have:=u.frzs b o v e
  rw[aA (nH _ _ this)];exact this
 ·obtain⟨more,this⟩:=u.tbls b ps e
  exact⟨more,by rw[aA (nH _ _ this)];exact this⟩
 ·by_cases hb:b=D
  ·subst hb
   rw[bj] at e
   cases e
   exact⟨hl,its,n,rv,hpl⟩
  ·rw[aA hb] at e
   exact(I'.hok b o e).qx (λ_ _ _ q=>q) (λc q=>by rw[aA (nH _ _ q)];exact q) λc xs q=>by rw[aA (nH _ _ q)];exact q
 ·obtain⟨f0,f1,f2,f3,f4,f5⟩:=hf b hb
  exact⟨f3,f1,f4,f5⟩
end
theorem Inv.qW{X:Cx}{pins:List (Addr×Obj)}{σ:St}{H:Hp}{s:Shared}(I:Inv X pins σ H s){a:Addr}(h:s.heap.objs.size<=a):a∉frs X.stack:=λhb=>by
 rcases Me.mp (I.iS a hb) with z|z
 ·exact absurd (LP I.lt (by rw[<- z];exact h)) (MG _)
 ·exact I.F2 h z
def PF(X:Cx)(ifs:List Expr)(t:TT):Prop:=∀(pins:List (Addr×Obj))(s:Shared)(σ:St)(H:Hp)(Q:Bool->Hp->Prop),Inv X pins σ H s->t σ H Q ->
 wpAny (model X.prog X.w) X.A (forIn ifs true λc r=>if r=true then do let ok <- isTrue c X.env (eval c X.env);pure (Nt ok) else pure (Nt r)) (TP X pins σ Q) X.xe s
noncomputable def Hg:TT:=λ_ H Q=>Q true H
theorem F7{X:Cx}:PF X [] Hg:=λ_ _ _ H _ I h=>wpAny_tests_nil ⟨H,I,h⟩
theorem Ga{X:Cx}{c:Expr}{t:TT}(hc:PT X c t):PF X [c] t:=λpins s σ H Q I h=>wpAny_tests_one (hc pins s σ H Q I h)
def wd(J:It)(g:TG)(tt:TT)(te:TE)(Q:VK)(σ:St)(H:Hp):Prop:=∃W:Nat->Nat->St->List V->Hp->Prop,(∃m,W 0 m σ [] H)/\∀i m σ ys H,W i m σ ys H->ys.length<=sizeLine /\
  ((J.stop i H/\∀r,H r=none->Q (.ref r) (upd H r (.lst ys))) \/
   (J.go i H/\∃N:St->List V->Hp->Prop,(∀σ' ys' H',N σ' ys' H'->∃m',m'<m/\W (i+1) m' σ' ys' H') /\
     ∀x H',J.yld i H x H'->g x σ H' λσ2 H2=>tt σ2 H2 λb H3=>if b=true then te σ2 H3 λy H4=>N σ2 (ys++[y]) H4 else N σ2 ys H3))
noncomputable def sj(n:Nat)(wi:TI)(g:TG)(tt:TT)(te:TE):TE:=λσ H Q=>wi σ H λJ H1=>wd J g tt te Q (σ++L7 n none) H1
section
variable{X:Cx}{pins:List (Addr×Obj)}{σ:St}{H:Hp}{s:Shared}{N:List Str}{k:Nat}{sc:Scope}{cl:List (Str×Addr)}{C:Addr}{fp:List Addr}{J:It}{it:Addr}{tn:Nat->Heap->Prop}
 {tg elt iter:Expr} {ifs:List Expr} {pos:Pos} {g:TG} {tt:TT} {te:TE} {Q:VK} {E:Value->Shared->Prop} {RR:Value->Addr->Result->Shared->Prop}
theorem kQ(hc:X.calm=true)(S:eJ X.N N k sc X.env.scope)(hcl1:∀x c,cl.lookup x=some c->X.env.cells.lookup x=some c)
  (hcl2:∀x,(x,Nu)∈sc.names->∃c,cl.lookup x=some c)(I:Inv X pins σ H s)(T:Turn X.prog X.w X.K tg J fp it tn)(st:tn 0 s.heap)(hf:∀b∈fp,kf X pins H b)
  (B:wd J g tt te Q (σ++L7 k none) H)
  (hg:∀C,PG (cxC X N sc cl C s H fp) tg g)(ht:∀C,PF (cxC X N sc cl C s H fp) ifs tt)(he:∀C,PE (cxC X N sc cl C s H fp) elt te)
  (hRR:∀D C s' H' ys,Inv X pins σ (upd H' D (.lst ys)) s'->s.heap.objs.size<=C->upd H' D (.lst ys) C=none->(∃m,s'.heap.Ns C m)->Q (.ref D) (upd H' D (.lst ys))->RR (.ref D) C (.ok .next) s') :
  wpAny (model X.prog X.w) X.A (newList []) (λacc s₃=>wpAny (model X.prog X.w) X.A (newFunctionEnv sc X.env.globals cl [] X.env.qual none .none (some X.env)) (λcenv s₄ =>
   codeAny (model X.prog X.w) X.A (.compStart (.ListComp elt [⟨tg,iter,ifs,0⟩] sc pos) 0 (.ref it) acc { cenv with scope:=relabel sc X.env }) (RR acc cenv.locals) s₄) E s₃) E s:=by
 refine wpAny_newObj_type (wpAny_newFunctionEnv S.cell (by intro y hy;simp at hy) (λh₁ hns₁ hsb₁=>?_) S.kind)
 dsimp only at hns₁ hsb₁ ⊢
 generalize hH2:s.heap.push { cls:=.type "list",dict:=none,data:=.seq ([]:List Value).toArray }=H2 at hns₁ hsb₁ ⊢
 have hC:H2.objs.size=s.heap.objs.size+1:=by rw[<- hH2,OQ]
 have hDC:s.heap.objs.size≠H2.objs.size:=by rw[hC];exact Md (NR _)
 have hCle:s.heap.objs.size<=H2.objs.size:=by rw[hC];exact NG _
 have below:∀b,b<s.heap.objs.size->b≠H2.objs.size/\b≠s.heap.objs.size:=λb hb=>⟨by rw[hC];exact Md (NI hb),Md hb⟩
 have old:∀b o,s.heap.get? b=some o->h₁.get? b=some o:=λb o e=>hsb₁.extBut b o (below b (LV e)).1 (LK _ (hH2▸LK _ e))
 have hacc:h₁.PlainList s.heap.objs.size #[]:=⟨_,hsb₁.extBut _ _ hDC (LK _ (hH2▸L9 _ rfl))⟩
 have hfp:∀b∈fp,b<s.heap.objs.size:=λb hb=>let ⟨o,e,_⟩:=T.obj 0 _ st b hb;LV e
 have st1:tn 0 h₁:=T.keep _ _ _ st λb hb o e=>old b o e
 have I0:=u5 (tk:=s.toks+([]:List (Str×Value)).length) I S hcl1 hcl2 hCle hf hfp old ⟨_,hns₁⟩
 generalize H2.objs.size=C at hns₁ hsb₁ hC hDC hCle below I0 ⊢
 generalize hD:s.heap.objs.size=D at hC hDC hCle below hacc hfp ⊢
 have hDle:s.heap.objs.size<=D:=by rw[hD];exact LU _
 have fpok:∀{H':Hp}{o:Obj},(∀b∈fp,H' b=none)->∀b∈fp,kf (cxC X N sc cl C s H fp) ((X.pn++pins)++[(D,o)]) H' b:=λ{H' o} hn b hb=>by
  obtain⟨f0,f1,f2,f3,f4,f5⟩:=hf b hb
  refine⟨hn b hb,(below b (hfp b hb)).1,λz=>?_,.inl hb,λx c e=>f4 x c (hcl1 _ _ e),λp hp=>?_⟩
  ·rcases Me.mp (I.iS b z) with z|z
   ·exact f1 z
   ·exact f2 z
  ·have hp:p∈(X.pn++pins)++[(D,o)]:=hp
   rcases LS.mp hp with z|z
   ·exact f5 p z
   ·have:p=(D,o):=by simpa using z
    rw[this]
    exact Nd (below b (hfp b hb)).2
 have loop:∀s₃:Shared,s₃={ s with heap:=h₁,toks:=s.toks+([]:List (Str×Value)).length } ->
   codeAny (model X.prog X.w) X.A (.compLoop (.ListComp elt [⟨tg,iter,ifs,0⟩] sc pos) 0 (.ref it) (.ref D) (compEnvC sc cl C X.env)) (RR (.ref D) C) s₃:=by
  rintro s₃ rfl
  obtain⟨W,⟨m0,w0⟩,step⟩:=B
  refine nW (λn s'=>∃i σ' H' ys its,Inv (cxC X N sc cl C s H fp) (X.pn++pins) σ' H' s'/\tn i s'.heap/\(∀b∈fp,H' b=none)/\H' D=none/\s'.heap.PlainList D (its:List Value).toArray/\Vals ys its/\W i n σ' ys H') ?_ m0
   ⟨0,_,H,[],[],I0,st1,λb hb=>(hf b hb).1,I.hok.fresh hDle,hacc,.nil,w0⟩
  rintro n s3 ⟨i,σ3,H3,ys,its,I3,st3,fr3,hD3,⟨nn,pl3⟩,rv3,w3⟩
  obtain⟨hl,cs⟩:=step i n σ3 ys H3 w3
  have pinD:∀{σ':St}{H':Hp}{s':Shared}{o:Obj},Inv (cxC X N sc cl C s H fp) (X.pn++pins) σ' H' s'->H' D=none->s'.heap.get? D=some o->(∀v,o.data≠.cell v)->Inv (cxC X N sc cl C s H fp) ((X.pn++pins)++[(D,o)]) σ' H' s':=λ{σ' H' s' o} I' hn e d =>
   I'.n6 λp hp=>(LS.mp hp).elim (λz=>I'.pin p (LN _ z)) λz=>by
    have:p=(D,o):=by simpa using z
    subst this
    exact⟨e,hn,hDC,λz=>I.qW hDle z,d⟩
  have I3p:=pinD I3 hD3 pl3 λv z=>by cases z
  rcases cs with ⟨stop,q⟩|⟨go,NN,hN,nx⟩
  ·refine thn (T.done (cxC X N sc cl C s H fp) rfl rfl rfl hc i _ s3 σ3 H3 _ I3p (fpok fr3) st3 stop) λr s4 ⟨hr,I4⟩=>?_
   subst hr
   have d4:=I4.pin (D,_) (LN _ (LN _ (Ma.mpr rfl)))
   have I5:=yd I I4.c0 hDle d4.2.1 ⟨nn,d4.1⟩ rv3 hl hf
   refine hRR D C s4 H3 ys I5 (by rw[hD];exact hCle) ?_ (let ⟨m,hm,_⟩:=I4.loc;⟨m,hm⟩) (q D d4.2.1)
   rw[aA (Nd hDC)]
   exact I4.free
  ·refine thn (T.item (cxC X N sc cl C s H fp) rfl rfl rfl hc i _ s3 σ3 H3 _ I3p (fpok fr3) st3 go) λr s4 ⟨u,hr,h4⟩=>?_
   subst hr
   refine thn h4 λ_ s5 ⟨x,H5,I5,r5,y5,st5,fr5⟩=>?_
   have I5':=I5.pinned (fpok fr5) (T.obj _ _ st5)
   refine thn (hg C _ s5 σ3 H5 x u _ I5' r5 (nx x H5 y5)) λ_ s6 ⟨σ6,H6,I6,q6⟩=>?_
   refine thn (ht C _ s6 σ6 H6 _ I6 q6) λb s7 ⟨H7,I7,q7⟩=>?_
   have itK:∀{s8:Shared}{H8:Hp},Inv (cxC X N sc cl C s H fp) (((X.pn++pins)++[(D,({ cls:=.type "list",data:=.seq its.toArray nn }:Obj))])++kG fp s5.heap) σ6 H8 s8->tn (i+1) s8.heap/\∀b∈fp,H8 b=none:=λ{s8 H8} I8=>by
    refine⟨T.keep _ _ _ st5 λb hb o e=>(I8.pin (b,o) (LN _ (LN _ (eW hb e)))).1,λb hb=>?_⟩
    obtain⟨o,e,d⟩:=T.obj _ _ st5 b hb
    exact(I8.pin (b,o) (LN _ (LN _ (eW hb e)))).2.1
   cases b with
   | false =>
    have q7:NN σ6 ys H7:=by simpa using q7
    obtain⟨m',hm,w7⟩:=hN _ _ _ q7
    obtain⟨t7,f7⟩:=itK I7
    have d7:=I7.pin (D,_) (LN _ (Mb _ (LN _ (Ma.mpr rfl))))
    show ∃m,m<n/\_
    exact⟨m',hm,i+1,σ6,H7,ys,its,I7.c0.c0,t7,f7,d7.2.1,⟨nn,d7.1⟩,rv3,w7⟩
   | true =>
    have q7:te σ6 H7 λy H4=>NN σ6 (ys++[y]) H4:=by simpa using q7
    show wpAny _ _ _ _ _ _
    refine thn (he C _ s7 σ6 H7 _ I7 q7) λyv s8 ⟨y,H8,I8,r8,q8⟩=>?_
    obtain⟨m',hm,w9⟩:=hN _ _ _ q8
    obtain⟨t8,f8⟩:=itK I8
    have d8:=I8.pin (D,_) (LN _ (Mb _ (LN _ (Ma.mpr rfl))))
    refine wpAny_list_append_plain (hsz:=by rw[LM,<- rv3.length];exact hl) ⟨nn,d8.1⟩ λh9 pl9 sb9=>?_
    have I9:Inv (cxC X N sc cl C s H fp) (X.pn++pins) σ6 H8 { s8 with heap:=h9 }:=I8.c0.c0.turned (t':=s8.toks) (it:=D) (λb o hb e=>(sb9.2 b hb).trans e) d8.2.1 hDC (.inr hDle) (λx c e z=>?_) (λp hp z=>?_)
    ·refine⟨m',hm,i+1,σ6,H8,ys++[y],its++[yv],I9,T.keep _ _ _ t8 λb hb o e=>(sb9.2 b (below b (hfp b hb)).2).trans e,f8,d8.2.1,?_,rv3.append (.cons r8 .nil),w9⟩
     rw[<- List.push_toArray]
     exact pl9
    ·obtain⟨v,q⟩:=I.cell x c (hcl1 _ _ e)
     exact absurd (LP q.lt (by rw[z];exact hDle)) (MG _)
    ·have hp:p∈X.pn++pins:=hp
     exact absurd (LP (LV (I.pin p hp).1) (by rw[z];exact hDle)) (MG _)
 exact codeAny_compStart_list (loop _ rfl) (T.self _ _ _ _ _ st1 (loop _ rfl))
end
section
variable{X:Cx}{N:List Str}{k:Nat}{sc:Scope}{tg elt iter:Expr}{ifs:List Expr}{pos:Pos}{g:TG}{tt:TT}{te:TE}{wi:TI}
theorem k8{pins:List (Addr×Obj)}{σ:St}{H:Hp}{s:Shared}(I:Inv X pins σ H s)(S:eJ X.N N k sc X.env.scope) :
  ∃cl,closureFor sc X.env=pure cl/\(∀x c,cl.lookup x=some c->X.env.cells.lookup x=some c)/\(∀x,(x,Nu)∈sc.names->∃c,cl.lookup x=some c) :=
 qN λx hx e=>I.ok.has x.1 (S.fr x hx e)
theorem Inv.letGo{pins:List (Addr×Obj)}{σ:St}{H H0:Hp}{s s0:Shared}{h':Heap}{C:Addr}(I0:Inv X pins σ H0 s0){σ':St}(I:Inv X pins σ' H s)(hC:s0.heap.objs.size<=C)(hn:H C=none)(sb:NX C s.heap h'):Inv X pins σ' H { s with heap:=h' } :=
 I.turned (t':=s.toks) (it:=C) (λb o hb e=>(sb.2 b hb).trans e) hn (Pp (LP I0.lt hC)) (.inr (Mf I0.sz hC))
  (λx c e z=>by
   obtain⟨v,q⟩:=I0.cell x c e
   exact absurd (LP q.lt (by rw[z];exact hC)) (MG _))
  (λp hp z=>absurd (LP (LV (I0.pin p hp).1) (by rw[z];exact hC)) (MG _))
theorem rJ(hc:X.calm=true)(S:eJ X.N N k sc X.env.scope)(hi:PI X tg iter wi)(hg:∀cl C s H fp,PG (cxC X N sc cl C s H fp) tg g)(ht:∀cl C s H fp,PF (cxC X N sc cl C s H fp) ifs tt)
  (he:∀cl C s H fp,PE (cxC X N sc cl C s H fp) elt te)(hs:∀x,foldedSetIterable iter X.env x=pure x:=by intro _;rfl):PE X (.ListComp elt [⟨tg,iter,ifs,0⟩] sc pos) (sj k wi g tt te):=by
 intro pins s σ H Q I h
 obtain⟨cl,hclos,h1,h2⟩:=k8 I S
 rw[eval_ListComp]
 refine wpAny_comprehension_free (use:=none) rfl hs hclos S.kind S.names (thn (hi pins s σ H _ I h) λv s1 q1=>thn q1 λitv s2 q2=>?_)
 obtain⟨it,fp,tn,J,H2,rfl,I2,T,st2,f2,B⟩:=q2
 refine kQ (RR:=λacc C=>compPost (model X.prog X.w) X.A X.xe none (EP X pins σ Q) acc C) hc S h1 h2 I2 T st2 f2 B (λC=>hg cl C s2 H2 fp) (λC=>ht cl C s2 H2 fp) (λC=>he cl C s2 H2 fp) ?_
 intro D C s' H' ys I' hC hn hm q
 obtain⟨m,hm⟩:=hm
 exact⟨m,hm,λh' sb=>⟨.ref D,_,I2.letGo I' hC hn sb,rfl,q⟩⟩
theorem Bf{i:Nat}{x:Str}{px spos:Pos}(hc:X.calm=true)(S:eJ X.N N k sc X.env.scope)(hN:X.N.Nodup)(hx:X.N[i]?=some x)(hl:X.env.scope.names.lookup x=some .local)
  (hsw:swapsWith (.ListComp elt [⟨tg,iter,ifs,0⟩] sc pos) (some (.Name x px)) spos.line X.env=pure true)(hi:PI X tg iter wi)(hg:∀cl C s H fp,PG (cxC X N sc cl C s H fp) tg g)(ht:∀cl C s H fp,PF (cxC X N sc cl C s H fp) ifs tt)
  (he:∀cl C s H fp,PE (cxC X N sc cl C s H fp) elt te)(hs:∀x,foldedSetIterable iter X.env x=pure x:=by intro _;rfl):PS X (.Assign [.Name x px] (.ListComp elt [⟨tg,iter,ifs,0⟩] sc pos) spos) (yf (sj k wi g tt te) (wa i)):=by
 intro pins s σ H D0 I h
 obtain⟨cl,hclos,h1,h2⟩:=k8 I S
 rw[exec_Assign_Name_used _ _ _ _ hsw]
 refine wpAny_bind (wpAny_standAt (wpAny_bind ?_))
 show wpAny _ X.A (do let _ <- comprehension (.ListComp elt [⟨tg,iter,ifs,0⟩] sc pos) sc X.env _ (newList []) false (eval iter X.env) (some (assign (.Name x px) X.env))) _ _ s
 refine wpAny_bind (thn (wpAny_comprehension_free (use:=some (assign (.Name x px) X.env)) (Q:=λ_ s'=>SP X pins D0 .next s') rfl hs hclos S.kind S.names
  (thn (hi pins s σ H _ I h) λv s1 q1=>thn q1 λitv s2 q2=>?_)) λ_ s' hq=>wpAny_pure (wpAny_pure hq))
 obtain⟨it,fp,tn,J,H2,rfl,I2,T,st2,f2,B⟩:=q2
 refine kQ (RR:=λacc C=>compPost (model X.prog X.w) X.A X.xe (some (assign (.Name x px) X.env)) (λ_ s'=>SP X pins D0 .next s') acc C) hc S h1 h2 I2 T st2 f2 B (λC=>hg cl C s2 H2 fp) (λC=>ht cl C s2 H2 fp) (λC=>he cl C s2 H2 fp) ?_
 intro D C s' H' ys I' hC hn hm q
 obtain⟨m,hm⟩:=hm
 show wpAny _ X.A (assign (.Name x px) X.env (.ref D)) _ _ _
 refine wpAny_assign_Name (mz I' hN hx (.inl hl) (v:=.ref D) rfl (λs'' I'' ch=>?_) (.inr hl))
 obtain⟨a,sb,ha⟩:=ch
 refine⟨m,hm.sameBut sb ?_,λh' sb'=>⟨_,_,I2.letGo I'' hC hn sb',q⟩⟩
 rintro rfl
 rcases ha with z|z
 ·exact absurd (LP I2.lt (by rw[<- z];exact hC)) (MG _)
 ·obtain⟨v,q⟩:=I2.cell x _ z
  exact absurd (LP q.lt hC) (MG _)
end
end L2
namespace L2
open PySem PySem.Spec PyProof.Rows
theorem qE{env:Env}{elt:Expr}{gs:List Comprehension}{sc:Scope}{pos px:Pos}{x:Str}{line:Nat}(h1:env.blockKind=.function)(h2:env.kindOf x=some .local)(h3:(px.line==pos.line)=true)
  (h4:(sc.names.any λp=>p.1==x&&(p.2==.local || p.2==.cell))=false):swapsWith (.ListComp elt gs sc pos) (some (.Name x px)) line env=pure true:=by
 unfold swapsWith
 show (pure (env.blockKind==.function&&env.kindOf x==some .local&&px.line==pos.line&&!(sc.names.any λp=>p.1==x&&(p.2==.local || p.2==.cell))):Sem Bool)=pure true
 rw[h1,h2,h3,h4]
 rfl
end L2
namespace L2
open PySem PySem.Spec PyProof.Rows PySem.W
section
variable{X:Cx}{tg:Expr}
theorem Inv.nN{pins:List (Addr×Obj)}{σ:St}{H:Hp}{s:Shared}{a:Addr}(I:Inv X pins σ H s)(hf:∀b o,s.heap.get? b=some o->b≠a):H a=none:=by
 cases e:H a with
 | none=>rfl
 | some u =>
  obtain⟨ob,z⟩:=(I.hok a u e).is
  exact absurd rfl (hf a ob z)
theorem Inv.B3{pins:List (Addr×Obj)}{σ:St}{H:Hp}{s:Shared}{a:Addr}{o:HO}{t':Nat}{h':Heap}(I:Inv X pins σ H s)(k:∀b u,s.heap.get? b=some u->h'.get? b=some u)(hf:∀b o,s.heap.get? b=some o->b≠a)
  (new:ba X.prog X.w (upd H a o) h' a o):Inv X pins σ (upd H a o) { s with heap:=h',toks:=t' }:=by
 have hn:=I.nN hf
 refine I.un ⟨λb u e _ _ _=>k b u e,λb u e _ _ _=>⟨u.slots,k b u e⟩,λb u e n _=>by rw[aA (hf b u e)];exact n,λb u e _=>⟨u,k b u e⟩,λb xs e=>by rw[aA (aF e hn)];exact e,λb u v e=>by rw[aA (aF e hn)];exact e,
  λb ps e=>⟨#[],by rw[aA (aF e hn),e];simp⟩⟩ λb u e=>?_
 by_cases hb:b=a
 ·subst hb;rw[bj] at e;cases e;exact new
 ·rw[aA hb] at e
  exact(I.hok b u e).qx (λc v _ q=>k c v q) (λc q=>by rw[aA (aF q hn)];exact q) λc xs q=>by rw[aA (aF q hn)];exact q
theorem jQ{ss:List Str}:∀{us:List Value},Vals (ss.map V.str) us->StrsAre us ss:=by
 induction ss with
 | nil=>intro us r;rw[LJ] at r;cases r;exact .nil
 | cons n ns ih =>
  intro us r
  rw[LF] at r
  cases r with
  | cons r1 r2 =>
   obtain⟨t,e⟩:=r1
   subst e
   exact .cons n t (ih r2)
theorem fo:∀{ss:List Str}{us:List Value},StrsAre us ss->Vals (ss.map V.str) us
 | _,_,.nil=>.nil
 | _,_,.cons y t r=>.cons ⟨t,rfl⟩ (fo r)
noncomputable def jJ(K:LD):List V->Hp->VK->Prop:=λvs H Q=>∃a ss,vs=[.ref a]/\(SqL K H a (ss.map V.str)\/∃kvs,H a=some (.dK kvs)/\kvs.map (·.1)=ss.map Mu)/\ss.length<64 /\
 ∀r ss',H r=none->ss'.Perm ss->sortedS ss'=true->Q (.ref r) (upd H r (.lst (ss'.map V.str)))
theorem g6:64<=sizeLine:=by rw[sizeLine_eq];decide
theorem mN{P:Program}{w:World}{ss:List Str}{vs:List (Key×Value)}{acc:Array Value}(e:vs.map (·.1)=ss.map Mu)
  (h:ItemsOf (λi v=>∃k x,vs[i]?=some (k,x)/\(aw P w).is k v=true) acc vs.length):StrsAre acc.toList ss:=by
 obtain⟨hs,hi⟩:=h
 have hl:ss.length=vs.length:=by have:=congrArg M7 e;simpa using this.symm
 have key:∀(j:Nat)(v:Value),acc.toList[j]?=some v->∃(x:Str) (t:Tok),ss[j]?=some x/\v=OP x t:=λj v hv=>by
  obtain⟨k,x,hx,hk⟩:=hi j v (by rw[<- OI];exact hv)
  have hk:gM k v=true:=hk
  have e2:(vs.map (·.1))[j]?=some k:=by rw[LZ,hx];rfl
  rw[e,LZ] at e2
  cases ez:ss[j]? with
  | none=>rw[ez] at e2;cases e2
  | some z =>
   rw[ez] at e2
   have e3:k=Mu z:=(LY e2).symm
   subst e3
   rcases aL hk with ⟨i,t,q,_⟩|⟨y,t,q,rfl⟩
   ·cases q
   ·cases q
    exact⟨z,t,rfl,rfl⟩
 have hl2:acc.toList.length=ss.length:=by rw[ML,hs,hl]
 clear hs hi e hl
 generalize acc.toList=l at key hl2
 induction l generalizing ss with
 | nil =>
  cases ss with
  | nil=>exact .nil
  | cons a b=>cases hl2
 | cons v l ih =>
  cases ss with
  | nil=>cases hl2
  | cons z ss =>
   obtain⟨x,t,hx,rfl⟩:=key 0 v rfl
   have hx:z=x:=LY hx
   subst hx
   exact .cons z t (ih (λj u hu=>key (j+1) u hu) (by simpa using hl2))
theorem nh(hc:X.calm=true):bR X (.builtin "sorted") (jJ X.K):=by
 intro pins s σ H vs us Q I rv h
 obtain⟨a,ss,rfl,hq,h64,q⟩:=h
 obtain⟨u,rfl,ru⟩:=rv.one
 cases ru
 rcases hq with hq|⟨kvs,hd,ek⟩
 ·obtain⟨its,r,p,hz⟩:=I.list hq
  have hS:=jQ r
  have hlen:its.length=ss.length:=by have:=r.length;simpa using this.symm
  refine sorted_strs p.isList hS (by omega) λout ss' a1 a2 a3=>?_
  obtain⟨e,he⟩:=sortedAll_at s.heap its out
  refine⟨.ref _,_,I.laid (t':=s.toks) (o:=.lst (ss'.map V.str)) (λb o z=>sortedAll_old z) (NG _) ⟨?_,out.toList,e,fo a1,by simpa using he⟩,rfl,q _ ss' (I.hok.fresh (NG _)) a2 a3⟩
  rw[LH,a2.length_eq]
  exact Mf (NY h64) g6
 ·obtain⟨hz,lo,vs,kv,hD⟩:=pJ I.hok hd
  obtain⟨ep,hat⟩:=hD.dictAt
  have ek2:vs.map (·.1)=ss.map Mu:=by rw[<- kv.keys];exact ek
  have hlen:vs.length=ss.length:=by have:=congrArg M7 ek2;simpa using this
  refine PY kind_sorted plain_sorted entry_sorted (args_sorted1 _) ?_
  unfold Builtin.«sorted»
  refine wpAny_bind (m:=checkCount "sorted" 1 1 _) (wpAny_pure ?_)
  refine wpAny_bind (kdu_collect (A:=X.A.in1) (kdl_dict (knd:=aw X.prog X.w) (kvs:=vs) (ep:=ep) lo) (I.ok.hd hc) hat (by have:=g6;omega) λh' tk acc hk hacc=>?_)
  have hS:=mN ek2 hacc
  have hl2:acc.toList.length=ss.length:=by rw[ML,hacc.1,hlen]
  refine wpAny_bind (wpAny_newList ?_ (by have:=g6;omega))
  have hoL:(h'.push (seqObj "list" acc.toList.toArray 0)).get? h'.objs.size=some (seqObj "list" acc.toList.toArray 0):=L9 _ rfl
  refine wpAny_bind (wpAny_holding (wpAny_call_entry slot_list_sort ⟨_,hoL,rfl⟩ entry_list_sort (list_sort_treeK strKind_oneLt hoL hS.keysOf (λv₁ v₂ rest e=>keyKind_strs (by rw[<- e];exact hS)) (by omega) λst' hp hs=>⟨_,rfl,?_⟩) (args_list_sort _)))
  obtain⟨ss',b1,b2,b3⟩:=sorted_out_str hS hp hs
  obtain⟨e,he⟩:=sortedHeap_at (vs:=acc.toList) (n:=0) (out:=(arrOf st').map (·.2)) hoL
  have hf:∀b o,s.heap.get? b=some o->b≠h'.objs.size:=λb o z=>Md (LV (hk b o z))
  refine wpAny_pure ⟨_,rfl,.ref _,_,I.B3 (t':=tk) (a:=h'.objs.size) (o:=.lst (ss'.map V.str)) (λb o z=>?_) hf ⟨?_,((arrOf st').map (·.2)).toList,e,fo b1,?_⟩,rfl,q _ ss' (I.nN hf) b2 b3⟩
  ·rw[sortedHeap_old (hf b o z) (by rw[size_push'];exact NI (LV (hk b o z)))]
   exact LK _ (hk b o z)
  ·rw[LH,b2.length_eq]
   exact Mf (NY h64) g6
  ·rw[Qx]
   exact he
noncomputable def Kv:V->Option Int->Option Int->Hp->VK->Prop:=λx lo hi H Q=>∃z,x=.str z/\z.length<=sizeLine/\Q (.str (MX z lo hi)) H
theorem oN{v:Value}{o:Option Int}(p:IsPart v o):∃l:Option (Int×Tok),v=partValue l/\l.map (·.1)=o:=by
 cases p with
 | none=>exact⟨none,rfl,rfl⟩
 | int i t=>exact⟨some (i,t),rfl,rfl⟩
theorem Dz:SlR X Kv:=by
 intro pins s σ H x v vl vu lo hi sl Q I rx hs pl pu h
 obtain⟨z,rfl,hz,q⟩:=h
 obtain⟨t,rfl⟩:=rx
 obtain⟨l,rfl,rfl⟩:=oN pl
 obtain⟨u,rfl,rfl⟩:=oN pu
 refine⟨"str",_,F.slot_str_getitem.lookup,typeIs_str _ _ _,wpAny_getItem_str_slice (l:=l) (u:=u) (st:=none) hs rfl ?_⟩
 exact post_val_or_str ⟨Mf (Pt z _ _) hz,λt' k=>⟨.str _,H,I.tok _,⟨t',rfl⟩,q⟩⟩
noncomputable def gF(ss:List Str):Nat:=(ss.map (λz=>z.length)).sum
theorem gR:∀{us:List Value}{ss:List Str},StrsAre us ss->∃l:List (Str×Tok),us=strValues l/\l.map (·.1)=ss
 | _,_,.nil=>⟨[],rfl,rfl⟩
 | _,_,.cons y t r=>by
  obtain⟨l,e1,e2⟩:=gR r
  exact⟨(y,t)::l,by rw[e1];rfl,by rw[LF,e2]⟩
end
end L2
namespace L2
open PySem PySem.Spec PyProof.Rows
noncomputable def Its(x:Str):It:=⟨λi _=>i<x.cps.size,λi H v H'=>H'=H/\∃c,x.cps[i]?=some c/\v=.str ⟨#[c]⟩,λi _=>x.cps.size<=i⟩
theorem pV{P:Program}{w:World}{K:LD}{tg:Expr}(it:Addr)(x:Str)(t:Tok):Turn P w K tg (Its x) [it] it (λi h=>h.IsStrIter it "str_ascii_iterator" x t i) where
 mem:=by simp
 obj:=λi h st b hb=>by
  have e:b=it:=by simpa using hb
  subst e
  obtain⟨o,e,c,d⟩:=st
  exact⟨o,e,λv z=>by rw[d] at z;cases z⟩
 keep:=λi h h' st k=>by
  obtain⟨o,e,r⟩:=st
  exact⟨o,k it (by simp) o e,r⟩
 item:=by
  intro X hP hw hK hc i pins s σ H E I hf st hg
  subst hP hw hK
  have hg:i<x.cps.size:=hg
  obtain⟨f0,f1,f2,f3,f4,f5⟩:=hf it (by simp)
  refine wpAny_pyNext_ascii_item st (c:=x.cps[i]) (by simp[hg]) λh' st' sb=>?_
  have I1:Inv X pins σ H { s with heap:=h',toks:=s.toks+1 }:=I.turned (t':=s.toks+1) (λb o hb e=>(sb.2 b hb).trans e) f0 f1 f3 f4 f5
  obtain⟨o,e,c,d⟩:=id st'
  exact⟨_,rfl,pK (s:={ s with heap:=h',toks:=s.toks+1 }) e c d (by decide) ⟨.str ⟨#[x.cps[i]]⟩,H,I1,⟨_,rfl⟩,⟨rfl,_,by simp[hg],rfl⟩,st',λb hb=>(hf b hb).1⟩⟩
 done:=by
  intro X hP hw hK hc i pins s σ H E I hf st hg
  subst hP hw hK
  have hg:x.cps.size<=i:=hg
  obtain⟨f0,f1,f2,f3,f4,f5⟩:=hf it (by simp)
  exact wpAny_pyNext_ascii_end (I.ok.hd hc) st (by simp;omega) λh' eb=>⟨rfl,I.turned (t':=s.toks) (λb o hb e=>eb b o hb e) f0 f1 f3 f4 f5⟩
 self:=λ_ _ _ _ _ st h=>wpAny_pyIter_striter_ascii st h
theorem tY{P:Program}{w:World}{K:LD}{tg:Expr}(it:Addr)(x:Str)(t:Tok):Turn P w K tg (Its x) [it] it (λi h=>h.IsStrIter it "str_iterator" x t i) where
 mem:=by simp
 obj:=λi h st b hb=>by
  have e:b=it:=by simpa using hb
  subst e
  obtain⟨o,e,c,d⟩:=st
  exact⟨o,e,λv z=>by rw[d] at z;cases z⟩
 keep:=λi h h' st k=>by
  obtain⟨o,e,r⟩:=st
  exact⟨o,k it (by simp) o e,r⟩
 item:=by
  intro X hP hw hK hc i pins s σ H E I hf st hg
  subst hP hw hK
  have hg:i<x.cps.size:=hg
  obtain⟨f0,f1,f2,f3,f4,f5⟩:=hf it (by simp)
  refine wpAny_pyNext_wide_item st (c:=x.cps[i]) (by simp[hg]) λh' st' sb=>?_
  have I1:Inv X pins σ H { s with heap:=h',toks:=s.toks+1 }:=I.turned (t':=s.toks+1) (λb o hb e=>(sb.2 b hb).trans e) f0 f1 f3 f4 f5
  obtain⟨o,e,c,d⟩:=id st'
  exact⟨_,rfl,pK (s:={ s with heap:=h',toks:=s.toks+1 }) e c d (by decide) ⟨.str ⟨#[x.cps[i]]⟩,H,I1,⟨_,rfl⟩,⟨rfl,_,by simp[hg],rfl⟩,st',λb hb=>(hf b hb).1⟩⟩
 done:=by
  intro X hP hw hK hc i pins s σ H E I hf st hg
  subst hP hw hK
  have hg:x.cps.size<=i:=hg
  obtain⟨f0,f1,f2,f3,f4,f5⟩:=hf it (by simp)
  exact wpAny_pyNext_wide_end (I.ok.hd hc) st (by simp;omega) λh' eb=>⟨rfl,I.turned (t':=s.toks) (λb o hb e=>eb b o hb e) f0 f1 f3 f4 f5⟩
 self:=λ_ _ _ _ _ st h=>wpAny_pyIter_striter_wide st h
section
variable{X:Cx}{tg:Expr}
noncomputable def JM(K:LD)(tl:TE):TI:=λσ H R=>tl σ H λx H1=>(∃a,x=.ref a/\(((∃xs,SqL K H1 a xs)/\R (Itl K a) H1)\/((∃xs,SqT K H1 a xs)/\R (Itt K a) H1)))\/∃t,x=.str t/\R (Its t) H1
theorem BU{l:Expr}{tl:TE}(hl:PE X l tl):PI X tg l (JM X.K tl):=by
 intro pins s σ H R I h
 refine thn (hl pins s σ H _ I h) λv s1 ⟨x,H1,I1,r1,q1⟩=>?_
 rcases q1 with ⟨a,e,⟨⟨xs,hq⟩,q⟩|⟨⟨xs,hq⟩,q⟩⟩|⟨t,e,q⟩
 ·subst e
  cases r1
  obtain⟨its,rv,p,hz⟩:=I1.list hq
  refine wpAny_pyIter_list p.isList ?_
  refine⟨s1.heap.objs.size,[s1.heap.objs.size],_,_,H1,rfl,I1.kept (t':=s1.toks) λb o e=>LK _ e,md a _,⟨_,L9 _ rfl,rfl,rfl⟩,λb hb=>?_,q⟩
  have e:b=s1.heap.objs.size:=by simpa using hb
  subst e
  exact I1.vI (LU _) (I1.hok.fresh (LU _))
 ·subst e
  cases r1
  obtain⟨its,rv,p,hz⟩:=I1.tuple hq
  refine wpAny_pyIter_tuple (show s1.heap.IsTuple a its.toArray from p) ?_
  refine⟨s1.heap.objs.size,[s1.heap.objs.size],_,_,H1,rfl,I1.kept (t':=s1.toks) λb o e=>LK _ e,qm a _,⟨_,L9 _ rfl,rfl,rfl⟩,λb hb=>?_,q⟩
  have e:b=s1.heap.objs.size:=by simpa using hb
  subst e
  exact I1.vI (LU _) (I1.hok.fresh (LU _))
 ·subst e
  obtain⟨tk,rfl⟩:=r1
  have fin:∀b,b∈[s1.heap.objs.size]->kf X pins H1 b:=λb hb=>by
   have e:b=s1.heap.objs.size:=by simpa using hb
   subst e
   exact I1.vI (LU _) (I1.hok.fresh (LU _))
  cases ha:t.cps.all (·<128)
  ·refine wpAny_pyIter_wide ha ?_
   exact⟨s1.heap.objs.size,[s1.heap.objs.size],_,_,H1,rfl,I1.kept (t':=s1.toks) λb o e=>LK _ e,tY _ t tk,⟨_,L9 _ rfl,rfl,rfl⟩,fin,q⟩
  ·refine wpAny_pyIter_ascii ha ?_
   exact⟨s1.heap.objs.size,[s1.heap.objs.size],_,_,H1,rfl,I1.kept (t':=s1.toks) λb o e=>LK _ e,pV _ t tk,⟨_,L9 _ rfl,rfl,rfl⟩,fin,q⟩
noncomputable def Jy(K:LD)(g:List Bool->Bool):List V->Hp->VK->Prop:=λxs H Q=>∃p ys bs,xs=[.ref p]/\SqL K H p ys/\ys=bs.map V.bl/\Q (.bl (g bs)) H
theorem range_all{bs:List Bool}{tr:Nat->Bool}(h:∀i b,bs[i]?=some b->tr i=b):(Mo bs.length).all tr=bs.all id:=by
 have:(Mo bs.length).map tr=bs:=by
  apply Oe
  intro i
  rw[LZ]
  by_cases hi:i<bs.length
  ·rw[NW hi,L8 hi,Option.map_some,h i _ (L8 hi)]
  ·rw[NO (by simpa using hi),NO (by simpa using hi)];rfl
 calc (Mo bs.length).all tr=((Mo bs.length).map tr).all id:=by rw[Pk];rfl
  _=bs.all id:=by rw[this]
theorem vP(hc:X.calm=true):bR X (.builtin "all") (Jy X.K λbs=>bs.all id):=by
 intro pins s σ H xs us Q I r h
 obtain⟨p,ys,bs,rfl,hq,rfl,q⟩:=h
 obtain⟨u,rfl,rx⟩:=vals1 r
 cases rx
 obtain⟨its,r',pl,hz⟩:=I.list hq
 have hlen:=r'.length
 refine call_all_walk (wpAny_pyIter_list pl.isList ?_)
 refine⟨s.heap.objs.size,_,_,_,_,_,(λi=>bs.getD i false),rfl,RS (A:=X.A.in1) (I.ok.hd hc) _ p (by obtain⟨o,ho,_⟩:=pl.isList;exact Md (LV ho)) its.toArray,⟨⟨_,L9 _ rfl,rfl,rfl⟩,pl.isList.at λo e=>LK _ e⟩,λi v s1 Q1 E1 hP hQ=>?_,λh' tk hk=>?_⟩
 ·have hv:its[i]?=some v:=by simpa using hP
  cases eb:bs[i]? with
  | none =>
   have h1:=P2.mp eb
   have h2:=(LI.mp hv).1
   rw[LH] at hlen
   omega
  | some b =>
   obtain⟨u,hu,ru⟩:=r'.get (i:=i) (x:=.bl b) (by rw[LZ,eb];rfl)
   rw[hv] at hu
   cases hu
   cases ru
   have:bs.getD i false=b:=by rw[MR,eb];rfl
   replace hQ:Q1 (bs.getD i false) s1:=hQ
   rw[this] at hQ
   exact wpAny_pure hQ
 ·have e1:its.toArray.size=bs.length:=by simp at hlen ⊢;omega
  rw[e1,range_all (bs:=bs) λi b e=>by show bs.getD i false=b;rw[MR,e];rfl]
  exact⟨.bl _,H,I.kept (t':=tk) λb o e=>hk b o (λz=>by have:=Ma.mp z;subst this;exact absurd (LV e) (MG _)) (LK _ e),rfl,q⟩
end
end L2
namespace W
theorem fS(p:Int){q:Int}(h:q<0):q<p.fmod q/\p.fmod q<=0:=by
 rw[Int.fmod_eq_emod]
 have h1:=Rp p (show q≠0 by omega)
 have h2:=Int.emod_lt_of_neg p h
 by_cases d:q ∣ p
 ·rw[if_pos (RI d),Int.emod_eq_zero_of_dvd d];omega
 ·rw[if_neg (by intro z;rcases z with z|z;omega;exact d z)]
  have h3:p%q≠0:=λz=>d (Int.dvd_of_emod_eq_zero z)
  omega
theorem oJ(p:Int){q:Int}(h:q≠0):(p.fmod q).natAbs<q.natAbs:=by
 rcases Pg h with z|z
 ·have:=fS p z;omega
 ·have h1:=Ph p z
  have h2:=NJ p z
  omega
theorem jO(p q:Int):ME q (p.fmod q)=ME p q:=by
 have h:p.fmod q=p-p.fdiv q*q:=by rw[Int.fmod_def,RT]
 rw[h,Int.gcd_sub_mul_right_right,Int.gcd_comm]
noncomputable def cd(x y:Int):Int:=if y<0 then -(ME x y:Int) else (ME x y:Int)
theorem zO{p q:Int}(h:q≠0)(z:p.fmod q=0):q=cd p q:=by
 have e:=jO p q
 rw[z,QZ] at e
 unfold cd
 rw[<- e]
 split<;>omega
theorem Bg{p q:Int}(h:q≠0)(z:p.fmod q≠0):cd q (p.fmod q)=cd p q:=by
 unfold cd
 rw[jO]
 rcases Pg h with g|g
 ·have:=fS p g
  rw[if_pos (by omega),if_pos g]
 ·have h2:=NJ p g
  rw[if_neg (by omega),if_neg (by omega)]
theorem oQ(x y:Int):cd x y ∣ x:=by
 unfold cd;split
 ·exact(R5).mpr (Pz x y)
 ·exact Pz x y
theorem nc(x y:Int):cd x y ∣ y:=by
 unfold cd;split
 ·exact(R5).mpr (Oh x y)
 ·exact Oh x y
theorem rC{x y:Int}(h:y≠0):cd x y≠0:=by
 have:=Nk x h
 unfold cd;split<;>omega
theorem yA(x y:Int):(cd x y).natAbs=ME x y:=by unfold cd;split<;>omega
theorem Iv{x y:Int}(h:y≠0):(cd x y).natAbs<=y.natAbs:=by
 rw[yA]
 have h1:ME x y ∣ y.natAbs:=Int.natCast_dvd_natCast.mp (Int.dvd_natAbs.mpr (Oh x y))
 exact Nat.le_of_dvd (by omega) h1
noncomputable abbrev Num:=Int×Int
noncomputable def nrm(t b:Int):Num:=(t.fdiv (cd t b),b.fdiv (cd t b))
noncomputable def A7(t b:Int):Num:=if b<0 then ((-t).fdiv (ME (-t) (-b)),(-b).fdiv (ME (-t) (-b))) else (t.fdiv (ME t b),b.fdiv (ME t b))
theorem iG{t g:Int}(hg:g≠0)(d:g ∣ t):(-t).fdiv g=t.fdiv (-g):=by
 obtain⟨k,rfl⟩:=d
 have e1:-(g*k)=g*(-k):=by rw[R6]
 have e2:g*k=(-g)*(-k):=by rw[Int.neg_mul_neg]
 rw[e1,M9 _ hg,e2,M9 _ (by omega)]
theorem y7{t b:Int}(h:b≠0):A7 t b=nrm t b:=by
 unfold A7 nrm cd
 by_cases z:b<0
 ·rw[if_pos z,if_pos z,Int.gcd_neg,R7]
  have g0:=Nk t h
  rw[iG (by omega) (Pz t b),iG (by omega) (Oh t b)]
 ·rw[if_neg z,if_neg z]
end W
namespace W
open L2
def Ok(q:Num):Prop:=0<q.2/\ME q.1 q.2=1
theorem jG{t b:Int}(h:b≠0):cd t b*(nrm t b).1=t/\cd t b*(nrm t b).2=b:=by
 have h0:=rC (x:=t) h
 obtain⟨k,hk⟩:=oQ t b
 obtain⟨m,hm⟩:=nc t b
 have e1:t.fdiv (cd t b)=k:=by
  have:=M9 k h0
  rwa[<- hk] at this
 have e2:b.fdiv (cd t b)=m:=by
  have:=M9 m h0
  rwa[<- hm] at this
 exact⟨by show cd t b*t.fdiv (cd t b)=t;rw[e1];exact hk.symm,by show cd t b*b.fdiv (cd t b)=b;rw[e2];exact hm.symm⟩
theorem Ar{t b:Int}(h:b≠0):(0<b->0<cd t b)/\(b<0->cd t b<0):=by
 have:=Nk t h
 unfold cd
 constructor
 ·intro z;rw[if_neg (by omega)];omega
 ·intro z;rw[if_pos z];omega
theorem rZ{t b:Int}(h:b≠0):0<(nrm t b).2:=by
 obtain⟨_,e⟩:=jG (t:=t) h
 obtain⟨s1,s2⟩:=Ar (t:=t) h
 rcases Pg h with z|z
 ·have c:=s2 z
  rcases RU 0 (nrm t b).2 with q|q
  ·exact q
  ·have:=Int.mul_nonneg_of_nonpos_of_nonpos (Qy c) q
   omega
 ·have c:=s1 z
  rcases RU 0 (nrm t b).2 with q|q
  ·exact q
  ·have:=Int.mul_nonpos_of_nonneg_of_nonpos (Qy c) q
   omega
theorem nD{t b:Int}(h:b≠0):Ok (nrm t b):=by
 refine⟨rZ h,?_⟩
 obtain⟨e1,e2⟩:=jG (t:=t) h
 have g:ME (cd t b*(nrm t b).1) (cd t b*(nrm t b).2)=(cd t b).natAbs*ME (nrm t b).1 (nrm t b).2:=Int.gcd_mul_left _ _ _
 rw[e1,e2,yA] at g
 have p:=Nk t h
 have:ME t b*1=ME t b*ME (nrm t b).1 (nrm t b).2:=by rw[Nat.mul_one];exact g
 exact(Nat.eq_of_mul_eq_mul_left p this).symm
theorem xt{q:Num}(h:Ok q):nrm q.1 q.2=q:=by
 have e:cd q.1 q.2=1:=by
  unfold cd
  rw[if_neg (by have:=h.1;omega),h.2];rfl
 unfold nrm
 rw[e]
 have h1:∀x:Int,x.fdiv 1=x:=λx=>by
  have:=M9 (a:=1) x (by decide)
  rwa[Int.one_mul] at this
 rw[h1,h1]
theorem Ok.neg{q:Num}(h:Ok q):Ok (-q.1,q.2):=⟨h.1,by show ME (-q.1) q.2=1;rw[R7];exact h.2⟩
theorem jR{c x:Int}(h:c≠0):x.natAbs<=(c*x).natAbs:=by
 rw[RC]
 exact Nat.le_mul_of_pos_left _ (by omega)
theorem vZ{t b:Int}{m n:Nat}(h:b≠0)(h1:Bd m t)(h2:Bd n b):Bd m (nrm t b).1/\Bd n (nrm t b).2:=by
 obtain⟨e1,e2⟩:=jG (t:=t) h
 have a1:=jR (x:=(nrm t b).1) (rC (x:=t) h)
 have a2:=jR (x:=(nrm t b).2) (rC (x:=t) h)
 rw[e1] at a1;rw[e2] at a2
 exact⟨Ng a1 h1,Ng a2 h2⟩
structure NB (n:Nat) (q:Num):Prop where
 ok:Ok q
 b1:Bd n q.1
 b2:Bd n q.2
theorem NB.mono{m n:Nat}{q:Num}(h:NB m q)(k:m<=n):NB n q:=⟨h.ok,h.b1.mono k,h.b2.mono k⟩
theorem NB.nz{n:Nat}{q:Num}(h:NB n q):q.2≠0:=by have:=h.ok.1;omega
theorem NB.nrm{t b:Int}{n:Nat}(h:b≠0)(h1:Bd n t)(h2:Bd n b):NB n (nrm t b):=⟨nD h,(vZ h h1 h2).1,(vZ h h1 h2).2⟩
noncomputable def bH(x y:Num):Num:=nrm (x.1*y.2+y.1*x.2) (x.2*y.2)
noncomputable def dS(x y:Num):Num:=nrm (x.1*y.2-y.1*x.2) (x.2*y.2)
noncomputable def bD(x y:Num):Num:=nrm (x.1*y.1) (x.2*y.2)
theorem NB.add{n:Nat}{x y:Num}(h:NB n x)(k:NB n y):NB (2*n+1) (bH x y) :=
 .nrm (Mw h.nz k.nz) (((h.b1.mul k.b2).add (k.b1.mul h.b2)).mono (by omega)) ((h.b2.mul k.b2).mono (by omega))
theorem NB.sub{n:Nat}{x y:Num}(h:NB n x)(k:NB n y):NB (2*n+1) (dS x y) :=
 .nrm (Mw h.nz k.nz) (((h.b1.mul k.b2).sub (k.b1.mul h.b2)).mono (by omega)) ((h.b2.mul k.b2).mono (by omega))
theorem j5{y:Num}(h:Ok y):bD y (-1,1)=(-y.1,y.2):=by
 have e:=xt h.neg
 unfold bD
 simp only[R6,RZ]
 exact e
theorem iC(x y:Num):bH x (-y.1,y.2)=dS x y:=by
 unfold bH dS
 simp only[QI,QY]
theorem NB.neg{n:Nat}{y:Num}(h:NB n y):NB n (-y.1,y.2):=⟨h.ok.neg,h.b1.neg,h.b2⟩
theorem NB.zero{n:Nat}:NB (n+1) (0,1):=⟨⟨by decide,by decide⟩,LP (by decide) (MO (by decide) (Rq 1 n)),LP (by decide:1<2^1) (MO (by decide) (Rq 1 n))⟩
end W
namespace W
open L2
noncomputable def nv(x:Num):Rat:=SH x.1 x.2
theorem nt{t b:Int}(h:b≠0):nv (nrm t b)=SH t b:=by
 obtain⟨e1,e2⟩:=jG (t:=t) h
 have p:=rZ (t:=t) h
 unfold nv
 rw[Rat.divInt_eq_divInt_iff (by omega) h]
 generalize (nrm t b).1=k at e1 ⊢
 generalize (nrm t b).2=m at e2 p ⊢
 rw[<- e1]
 rw[show k*b=k*(cd t b*m) from by rw[e2]]
 rw[Int.mul_left_comm,Int.mul_assoc]
theorem n8{x y:Num}(h:Ok x)(k:Ok y):nv (bH x y)=nv x+nv y:=by
 have h1:=h.1;have k1:=k.1
 unfold bH
 rw[nt (Mw (by omega) (by omega))]
 exact(Rat.divInt_add_divInt _ _ (by omega) (by omega)).symm
theorem rg{x y:Num}(h:Ok x)(k:Ok y):nv (dS x y)=nv x-nv y:=by
 have h1:=h.1;have k1:=k.1
 unfold dS
 rw[nt (Mw (by omega) (by omega))]
 exact(Rat.divInt_sub_divInt _ _ (by omega) (by omega)).symm
theorem i8{x y:Num}(h:Ok x)(k:Ok y):nv (bD x y)=nv x*nv y:=by
 have h1:=h.1;have k1:=k.1
 unfold bD
 rw[nt (Mw (by omega) (by omega))]
 exact(Rat.divInt_mul_divInt _ _).symm
theorem wY{x y:Num}(h:Ok x)(k:Ok y):Ok (bH x y):=nD (Mw (by have:=h.1;omega) (by have:=k.1;omega))
theorem qA{x y:Num}(h:Ok x)(k:Ok y):Ok (dS x y):=nD (Mw (by have:=h.1;omega) (by have:=k.1;omega))
theorem mY{x y:Num}(h:Ok x)(k:Ok y):Ok (bD x y):=nD (Mw (by have:=h.1;omega) (by have:=k.1;omega))
theorem Ir{x y:Num}(h:Ok x)(k:Ok y):x.1*y.2<y.1*x.2↔nv x<nv y:=by
 have h1:=h.1;have k1:=k.1
 have hx:(x.2:Rat)≠0:=by intro z;have:=PN.mp (show ((x.2:Int):Rat)=((0:Int):Rat) from z);omega
 have hy:(y.2:Rat)≠0:=by intro z;have:=PN.mp (show ((y.2:Int):Rat)=((0:Int):Rat) from z);omega
 have ex:nv x*(x.2:Rat)=x.1:=by unfold nv;rw[Pu];grind
 have ey:nv y*(y.2:Rat)=y.1:=by unfold nv;rw[Pu];grind
 have px:(0:Rat)<(x.2:Rat):=by have:=Nh.mpr h1;simpa using this
 have py:(0:Rat)<(y.2:Rat):=by have:=Nh.mpr k1;simpa using this
 have pp:(0:Rat)<(x.2:Rat)*(y.2:Rat):=Rat.mul_pos px py
 rw[<- Nh,PQ,PQ,<- ex,<- ey]
 rw[show nv x*(x.2:Rat)*(y.2:Rat)=nv x*((x.2:Rat)*(y.2:Rat)) by grind,show nv y*(y.2:Rat)*(x.2:Rat)=nv y*((x.2:Rat)*(y.2:Rat)) by grind]
 exact OV pp
theorem jI:nv (0,1)=0:=by decide +kernel
theorem tm:Ok (0,1):=⟨by decide,by decide⟩
section
variable{x y z:Num}(hx:Ok x)(hy:Ok y)(hz:Ok z)
noncomputable def nlt(x y:Num):Bool:=decide (x.1*y.2<y.1*x.2)
include hx hy in
theorem oh:nlt x y=true↔nv x<nv y:=by unfold nlt;rw[decide_eq_true_eq];exact Ir hx hy
include hx hy hz in
end
end W
set_option maxHeartbeats 1000000
namespace W
open L2 PySem
theorem NB.ui{m n:Nat}{x y:Num}(h:NB m x)(k:NB n y):NB (m+n+1) (bH x y) :=
 .nrm (Mw h.nz k.nz) (((h.b1.mul k.b2).add ((k.b1.mul h.b2).mono (n:=m+n) (by omega))).mono (by omega)) ((h.b2.mul k.b2).mono (by omega))
end W
namespace M
open PySem L2
inductive A where
 | non|bl (b:Bool)|int (i:Int)|str (x:Str)|tup (xs:List A)|lst (xs:List A)|dic (kvs:List (Key×A))|exc (c:Str)|obj (c:Str) (fs:List (Str×A))
structure Kx where
 K:LD
 mg:Str->Option Value
mutual
inductive RA (k:Kx) (G:Hp):V->A->Prop
 | non:RA k G .non .non
 | bl (b:Bool):RA k G (.bl b) (.bl b)
 | int (i:Int):RA k G (.int i) (.int i)
 | str (x:Str):RA k G (.str x) (.str x)
 | tup {p:Addr} {vs:List V} {as:List A} (e:SqT k.K G p vs) (r:RAs k G vs as):RA k G (.ref p) (.tup as)
 | lst {p:Addr} {vs:List V} {as:List A} (e:SqL k.K G p vs) (r:RAs k G vs as):RA k G (.ref p) (.lst as)
 | dic {p:Addr} {vs:List (Key×V)} {as:List (Key×A)} (e:Rd G p (.dK vs)) (r:RKs k G vs as):RA k G (.ref p) (.dic as)
 | exc {p C:Addr} {c:Str} (e:G p=some (Fq p C)) (m:k.mg c=some (.ref C)):RA k G (.ref p) (.exc c)
 | obj {p C dx:Addr} {c:Str} {vs:List (Str×V)} {fs:List (Str×A)} (e:G p=some (.ins C dx vs)) (m:k.mg c=some (.ref C)) (r:RFs k G vs fs):RA k G (.ref p) (.obj c fs)
inductive RAs (k:Kx) (G:Hp):List V->List A->Prop
 | nil:RAs k G [] []
 | cons {v:V} {a:A} {vs:List V} {as:List A} (h:RA k G v a) (r:RAs k G vs as):RAs k G (v::vs) (a::as)
inductive RFs (k:Kx) (G:Hp):List (Str×V)->List (Str×A)->Prop
 | nil:RFs k G [] []
 | cons {y:Str} {v:V} {a:A} {vs:List (Str×V)} {as:List (Str×A)} (h:RA k G v a) (r:RFs k G vs as):RFs k G ((y,v)::vs) ((y,a)::as)
inductive RKs (k:Kx) (G:Hp):List (Key×V)->List (Key×A)->Prop
 | nil:RKs k G [] []
 | cons {y:Key} {v:V} {a:A} {vs:List (Key×V)} {as:List (Key×A)} (h:RA k G v a) (r:RKs k G vs as):RKs k G ((y,v)::vs) ((y,a)::as)
end
noncomputable def uc:HO->Option (List (Key×V))
 | .dK kvs=>some kvs
 | .frz _ (.dK kvs)=>some kvs
 | _=>none
def Oq(o o':HO):Prop:=o'=o\/∃kvs,uc o=some kvs/\uc o'=some kvs
theorem dy{G:Hp}{b:Addr}{o:HO}{kvs:List (Key×V)}(h:G b=some o)(e:uc o=some kvs):Rd G b (.dK kvs):=by
 unfold uc at e
 split at e
 ·cases e;exact .inl h
 ·cases e;exact .inr ⟨_,h⟩
 ·cases e
theorem Cb{G:Hp}{b:Addr}{kvs:List (Key×V)}(h:Rd G b (.dK kvs)):∃o,G b=some o/\uc o=some kvs:=by
 rcases h with h|⟨o,h⟩
 ·exact⟨_,h,rfl⟩
 ·exact⟨_,h,rfl⟩
def Sq(G G':Hp):Prop:=∀b o,G b=some o->∃o',G' b=some o'/\Oq o o'
theorem Sq.of{G G':Hp}(h:K9 G G'):Sq G G':=λb o e=>⟨o,h b o e,.inl rfl⟩
theorem Sq.refl(G:Hp):Sq G G:=λb o e=>⟨o,e,.inl rfl⟩
theorem Sq.keep{G G':Hp}(h:Sq G G'){b:Addr}{o:HO}(e:G b=some o)(n:uc o=none):G' b=some o:=by
 obtain⟨o',h1,h2⟩:=h b o e
 rcases h2 with rfl|⟨kvs,h3,_⟩
 ·exact h1
 ·rw[n] at h3;cases h3
theorem Sq.rdD{G G':Hp}(h:Sq G G'){b:Addr}{kvs:List (Key×V)}(r:Rd G b (.dK kvs)):Rd G' b (.dK kvs):=by
 obtain⟨o,e,d⟩:=Cb r
 obtain⟨o',h1,h2⟩:=h b o e
 rcases h2 with rfl|⟨kvs',h3,h4⟩
 ·exact dy h1 d
 ·rw[d] at h3;cases h3;exact dy h1 h4
theorem eD{K:LD}{G G':Hp}{p:Addr}{vs:List V}(h:Sq G G')(q:SqT K G p vs):SqT K G' p vs:=q.imp (λr=>by
 rcases r with r|⟨o,r⟩
 ·exact .inl (h.keep r rfl)
 ·exact .inr ⟨o,h.keep r rfl⟩) id
theorem jf{K:LD}{G G':Hp}{p:Addr}{vs:List V}(h:Sq G G')(q:SqL K G p vs):SqL K G' p vs:=q.imp (λr=>by
 rcases r with r|⟨o,r⟩
 ·exact .inl (h.keep r rfl)
 ·exact .inr ⟨o,h.keep r rfl⟩) id
section
variable{k:Kx}{G G':Hp}
mutual
theorem RA.sm(s:Sq G G'):∀{v:V}{a:A},RA k G v a->RA k G' v a
 | _,_,.non=>.non
 | _,_,.bl b=>.bl b
 | _,_,.int i=>.int i
 | _,_,.str x=>.str x
 | _,_,.tup e r=>.tup (eD s e) (RAs.sm s r)
 | _,_,.lst e r=>.lst (jf s e) (RAs.sm s r)
 | _,_,.dic e r=>.dic (s.rdD e) (RKs.sm s r)
 | _,_,.exc e m=>.exc (s.keep e rfl) m
 | _,_,.obj e m r=>.obj (s.keep e rfl) m (RFs.sm s r)
theorem RFs.sm(s:Sq G G'):∀{vs:List (Str×V)}{as:List (Str×A)},RFs k G vs as->RFs k G' vs as
 | _,_,.nil=>.nil
 | _,_,.cons h r=>.cons (RA.sm s h) (RFs.sm s r)
theorem RAs.sm(s:Sq G G'):∀{vs:List V}{as:List A},RAs k G vs as->RAs k G' vs as
 | _,_,.nil=>.nil
 | _,_,.cons h r=>.cons (RA.sm s h) (RAs.sm s r)
theorem RKs.sm(s:Sq G G'):∀{vs:List (Key×V)}{as:List (Key×A)},RKs k G vs as->RKs k G' vs as
 | _,_,.nil=>.nil
 | _,_,.cons h r=>.cons (RA.sm s h) (RKs.sm s r)
end
theorem RAs.len:∀{vs:List V}{as:List A},RAs k G vs as->vs.length=as.length
 | _,_,.nil=>rfl
 | _,_,.cons _ r=>by rw[LL,LL,r.len]
theorem RAs.ta:∀{vs:List V}{as:List A}{i:Nat}{a:A},RAs k G vs as->as[i]?=some a->∃v,vs[i]?=some v/\RA k G v a
 | _,_,_,_,.nil,e=>by simp at e
 | _,_,0,_,.cons h _,e=>by cases e;exact⟨_,rfl,h⟩
 | _,_,i+1,_,.cons _ r,e=>r.ta (i:=i) e
theorem RAs.app:∀{vs us:List V}{as bs:List A},RAs k G vs as->RAs k G us bs->RAs k G (vs++us) (as++bs)
 | _,_,_,_,.nil,s=>s
 | _,_,_,_,.cons h r,s=>.cons h (r.app s)
theorem RAs.snoc{vs:List V}{as:List A}{v:V}{a:A}(r:RAs k G vs as)(h:RA k G v a):RAs k G (vs++[v]) (as++[a]):=r.app (.cons h .nil)
theorem RAs.rev:∀{vs:List V}{as:List A},RAs k G vs as->RAs k G vs.reverse as.reverse
 | _,_,.nil=>.nil
 | _,_,.cons h r=>by rw[Of,Of];exact r.rev.snoc h
theorem RAs.take:∀{vs:List V}{as:List A}(n:Nat),RAs k G vs as->RAs k G (vs.take n) (as.take n)
 | _,_,0,_=>.nil
 | _,_,_+1,.nil=>.nil
 | _,_,n+1,.cons h r=>.cons h (r.take n)
theorem RAs.drop:∀{vs:List V}{as:List A}(n:Nat),RAs k G vs as->RAs k G (vs.drop n) (as.drop n)
 | _,_,0,r=>r
 | _,_,_+1,.nil=>.nil
 | _,_,n+1,.cons _ r=>r.drop n
theorem RAs.set{v:V}{a:A}(h:RA k G v a):∀{vs:List V}{as:List A}(i:Nat),RAs k G vs as->RAs k G (vs.set i v) (as.set i a)
 | _,_,_,.nil=>.nil
 | _,_,0,.cons _ r=>.cons h r
 | _,_,i+1,.cons q r=>.cons q (r.set h i)
theorem RAs.strs:∀{vs:List V}{ss:List Str},RAs k G vs (ss.map A.str)->vs=ss.map V.str
 | _,[],.nil=>rfl
 | _,_::ss,.cons h r=>by cases h;rw[r.strs (ss:=ss)];rfl
theorem RAs.ofStrs:∀(ss:List Str),RAs k G (ss.map V.str) (ss.map A.str)
 | []=>.nil
 | s::ss=>.cons (.str s) (RAs.ofStrs ss)
theorem RFs.len:∀{vs:List (Str×V)}{as:List (Str×A)},RFs k G vs as->vs.length=as.length
 | _,_,.nil=>rfl
 | _,_,.cons _ r=>by rw[LL,LL,r.len]
theorem RFs.get:∀{vs:List (Str×V)}{as:List (Str×A)}(y:Str),RFs k G vs as->(∃v a,vs.lookup y=some v/\as.lookup y=some a/\RA k G v a)\/(vs.lookup y=none/\as.lookup y=none)
 | _,_,y,.nil=>.inr ⟨rfl,rfl⟩
 | _,_,y,.cons (y:=z) (v:=v) (a:=a) h r=>by
  rw[Mq,Mq]
  cases c:y==z with
  | true=>exact .inl ⟨v,a,rfl,rfl,h⟩
  | false=>exact r.get y
noncomputable def lI(f:Str)(a:A):List (Str×A)->List (Str×A)
 | []=>[(f,a)]
 | (g,b)::fs=>if g=f then (g,a)::fs else (g,b)::lI f a fs
theorem RFs.put{f:Str}{v:V}{a:A}(h:RA k G v a):∀{vs:List (Str×V)}{as:List (Str×A)},RFs k G vs as->RFs k G (fu f v vs) (lI f a as)
 | _,_,.nil=>.cons h .nil
 | _,_,.cons (y:=z) q r=>by
  unfold fu lI
  split
  ·exact .cons h r
  ·exact .cons q (RFs.put h r)
noncomputable def eP{α:Type}(as:List (Key×α))(y:Key):Option α:=(as.find? λkv=>decide (kv.1=y)).map (·.2)
noncomputable def kE{α:Type}(as:List (Key×α))(y:Key)(a:α):List (Key×α) :=
 if (as.any λkv=>decide (kv.1=y))=true then as.map λkv=>if kv.1=y then (kv.1,a) else kv else as++[(y,a)]
theorem RKs.len:∀{vs:List (Key×V)}{as:List (Key×A)},RKs k G vs as->vs.length=as.length
 | _,_,.nil=>rfl
 | _,_,.cons _ r=>by rw[LL,LL,r.len]
theorem RKs.keys:∀{vs:List (Key×V)}{as:List (Key×A)},RKs k G vs as->vs.map (·.1)=as.map (·.1)
 | _,_,.nil=>rfl
 | _,_,.cons _ r=>by rw[LF,LF,r.keys]
theorem RKs.app:∀{vs us:List (Key×V)}{as bs:List (Key×A)},RKs k G vs as->RKs k G us bs->RKs k G (vs++us) (as++bs)
 | _,_,_,_,.nil,s=>s
 | _,_,_,_,.cons h r,s=>.cons h (r.app s)
theorem RKs.get:∀{vs:List (Key×V)}{as:List (Key×A)}(y:Key),RKs k G vs as->(∃v a,fB vs y=some v/\eP as y=some a/\RA k G v a)\/(fB vs y=none/\eP as y=none)
 | _,_,y,.nil=>.inr ⟨rfl,rfl⟩
 | _,_,y,.cons (y:=z) (v:=v) (a:=a) (vs:=vs) (as:=as) h r=>by
  unfold fB eP
  by_cases c:z=y
  ·left;exact⟨v,a,by simp[MI,c],by simp[MI,c],h⟩
  ·have:=RKs.get y r
   unfold fB eP at this
   simpa[MI,c] using this
theorem RKs.any:∀{vs:List (Key×V)}{as:List (Key×A)}(y:Key),RKs k G vs as->(vs.any λkv=>decide (kv.1=y))=(as.any λkv=>decide (kv.1=y))
 | _,_,y,.nil=>rfl
 | _,_,y,.cons h r=>by rw[NA,NA,RKs.any y r]
theorem RKs.pW{v:V}{a:A}(y:Key)(h:RA k G v a):∀{vs:List (Key×V)}{as:List (Key×A)},RKs k G vs as->RKs k G (vs.map λkv=>if kv.1=y then (kv.1,v) else kv) (as.map λkv=>if kv.1=y then (kv.1,a) else kv)
 | _,_,.nil=>.nil
 | _,_,.cons (y:=z) q r=>by
  rw[LF,LF]
  by_cases c:z=y
  ·simp only[c,if_true];exact .cons h (RKs.pW y h r)
  ·simp only[c,if_false];exact .cons q (RKs.pW y h r)
theorem RKs.put{vs:List (Key×V)}{as:List (Key×A)}{v:V}{a:A}(y:Key)(r:RKs k G vs as)(h:RA k G v a):RKs k G (putK vs y v) (kE as y a):=by
 unfold putK kE
 rw[r.any y]
 split
 ·exact RKs.pW y h r
 ·exact r.app (.cons h .nil)
theorem RKs.filter(y:Key):∀{vs:List (Key×V)}{as:List (Key×A)},RKs k G vs as->RKs k G (fM vs y) (as.filter λkv=>decide (kv.1≠y))
 | _,_,.nil=>.nil
 | _,_,.cons (y:=z) q r=>by
  unfold fM
  rw[Oo,Oo]
  by_cases c:z=y
  ·have:=RKs.filter y r;unfold fM at this;simpa[c] using this
  ·have:=RKs.cons (y:=z) q (RKs.filter y r);unfold fM at this;simpa[c] using this
end
noncomputable def cut(H:Hp)(L:List Addr):Hp:=λa=>if a∈L then none else H a
theorem xF{H:Hp}{L:List Addr}{a:Addr}(h:a∈L):cut H L a=none:=if_pos h
theorem nY{H:Hp}{L:List Addr}{a:Addr}(h:a∉L):cut H L a=H a:=if_neg h
theorem wK(H:Hp)(L:List Addr):Sq (cut H L) H:=Sq.of λb o e=>by
 unfold cut at e
 split at e
 ·cases e
 ·exact e
theorem uU{H:Hp}{L L':List Addr}(h:∀a,a∈L'->a∈L):Sq (cut H L) (cut H L'):=Sq.of λb o e=>by
 by_cases c:b∈L
 ·rw[xF c] at e;cases e
 ·rw[nY c] at e
  rw[nY λz=>c (h b z)];exact e
inductive LO where
 | lst (xs:List A)|dic (kvs:List (Key×A))|obj (c:Str) (fs:List (Str×A))
noncomputable def LO.a:LO->A
 | .lst xs=>.lst xs
 | .dic kvs=>.dic kvs
 | .obj c fs=>.obj c fs
inductive Sl where
 | un|fr (a:A)|lv (o:LO)|pv (o:LO)
inductive LR (k:Kx) (G H:Hp) (p:Addr):LO->Prop
 | lst {vs:List V} {as:List A} (e:H p=some (.lst vs)) (r:RAs k G vs as):LR k G H p (.lst as)
 | dic {vs:List (Key×V)} {as:List (Key×A)} (e:H p=some (.dK vs)) (r:RKs k G vs as):LR k G H p (.dic as)
 | obj {C dx:Addr} {c:Str} {vs:List (Str×V)} {fs:List (Str×A)} (e:H p=some (.ins C dx vs)) (m:k.mg c=some (.ref C)) (r:RFs k G vs fs):LR k G H p (.obj c fs)
inductive SlR (k:Kx) (G H:Hp):Option V->Sl->List Addr->Prop
 | un (x:Option V):SlR k G H x .un []
 | fr {v:V} {a:A} (h:RA k G v a):SlR k G H (some v) (.fr a) []
 | lv {p:Addr} {o:LO} (h:LR k G H p o):SlR k G H (some (.ref p)) (.lv o) [p]
 | pv {p:Addr} {o:LO} (h:LR k G H p o):SlR k G H (some (.ref p)) (.pv o) [p]
inductive ay (k:Kx) (G H:Hp):St->List Sl->List Addr->Prop
 | nil:ay k G H [] [] []
 | cons {x:Option V} {s:Sl} {σ:St} {ρ:List Sl} {L L':List Addr} (h:SlR k G H x s L) (r:ay k G H σ ρ L'):ay k G H (x::σ) (s::ρ) (L++L')
section
variable{k:Kx}{G G' H H':Hp}{L:List Addr}
theorem LR.is{p:Addr}{o:LO}(h:LR k G H p o):∃u,H p=some u:=by cases h with|lst e _=>exact⟨_,e⟩|dic e _=>exact⟨_,e⟩|obj e _ _=>exact⟨_,e⟩
theorem LR.sm(s:Sq G G'){p:Addr}{o:LO}(e:∀u,H p=some u->H' p=some u)(h:LR k G H p o):LR k G' H' p o:=by
 cases h with
 | lst q r=>exact .lst (e _ q) (r.sm s)
 | dic q r=>exact .dic (e _ q) (r.sm s)
 | obj q m r=>exact .obj (e _ q) m (r.sm s)
theorem SlR.is{x:Option V}{t:Sl}(h:SlR k G H x t L):∀p∈L,∃u,H p=some u:=by
 cases h with
 | un=>intro p hp;cases hp
 | fr=>intro p hp;cases hp
 | lv h=>intro p hp;rw[Ma.mp hp];exact h.is
 | pv h=>intro p hp;rw[Ma.mp hp];exact h.is
theorem SlR.sm(s:Sq G G'){x:Option V}{t:Sl}(e:∀p∈L,∀u,H p=some u->H' p=some u)(h:SlR k G H x t L):SlR k G' H' x t L:=by
 cases h with
 | un=>exact .un _
 | fr h=>exact .fr (h.sm s)
 | lv h=>exact .lv (h.sm s (e _ (Ma.mpr rfl)))
 | pv h=>exact .pv (h.sm s (e _ (Ma.mpr rfl)))
theorem ay.is:∀{σ:St}{ρ:List Sl}{L:List Addr},ay k G H σ ρ L->∀p∈L,∃u,H p=some u
 | _,_,_,.nil,p,hp=>by cases hp
 | _,_,_,.cons h r,p,hp=>(LS.mp hp).elim (h.is p) (r.is p)
theorem ay.sm(s:Sq G G'):∀{σ:St}{ρ:List Sl}{L:List Addr},(∀p∈L,∀u,H p=some u->H' p=some u)->ay k G H σ ρ L->ay k G' H' σ ρ L
 | _,_,_,_,.nil=>.nil
 | _,_,_,e,.cons h r=>.cons (h.sm s λp hp=>e p (Mb _ hp)) (r.sm s λp hp=>e p (LN _ hp))
theorem ay.len:∀{σ:St}{ρ:List Sl}{L:List Addr},ay k G H σ ρ L->σ.length=ρ.length
 | _,_,_,.nil=>rfl
 | _,_,_,.cons _ r=>by rw[LL,LL,r.len]
theorem ay.at:∀{σ:St}{ρ:List Sl}{L:List Addr}{i:Nat}{s:Sl},ay k G H σ ρ L->ρ[i]?=some s ->
  ∃x L1 L2 L3,σ[i]?=some x/\SlR k G H x s L2/\L=L1++L2++L3/\∀{G' H':Hp}{y:Option V}{t:Sl}{L':List Addr},Sq G G'->(∀p∈L1++L3,∀u,H p=some u->H' p=some u)->SlR k G' H' y t L'->ay k G' H' (σ.set i y) (ρ.set i t) (L1++L'++L3)
 | _,_,_,_,_,.nil,e=>by simp at e
 | _,_,_,0,_,.cons (x:=x) (L:=L) (L':=L') h r,e=>by
  cases e
  refine⟨x,[],L,L',rfl,h,by simp,λsm e q=>?_⟩
  simp only[QM,MC]
  exact .cons q (r.sm sm (by simpa using e))
 | _,_,_,i+1,_,.cons (L:=L) h r,e=>by
  obtain⟨x,L1,L2,L3,e1,e2,e3,e4⟩:=ay.at (i:=i) r e
  refine⟨x,L++L1,L2,L3,e1,e2,by rw[e3];simp,λsm e q=>?_⟩
  simp only[QN]
  have:=ay.cons (h.sm sm λp hp=>e p (by simp[hp])) (e4 sm (λp hp=>e p (by rcases LS.mp hp with z|z<;>simp[z])) q)
  simpa[LQ] using this
theorem ay.app:∀{σ τ:St}{ρ θ:List Sl}{L L':List Addr},ay k G H σ ρ L->ay k G H τ θ L'->ay k G H (σ++τ) (ρ++θ) (L++L')
 | _,_,_,_,_,_,.nil,s=>s
 | _,_,_,_,_,_,.cons h r,s=>by have:=ay.cons h (r.app s);simpa[LQ] using this
theorem ay.split:∀{σ τ:St}{ρ θ:List Sl}{L:List Addr},σ.length=ρ.length->ay k G H (σ++τ) (ρ++θ) L->∃L1 L2,L=L1++L2/\ay k G H σ ρ L1/\ay k G H τ θ L2
 | [],_,[],_,L,_,h=>⟨[],L,rfl,.nil,h⟩
 | x::σ,τ,s::ρ,θ,_,e,.cons (L:=L) h r=>by
  obtain⟨L1,L2,e1,r1,r2⟩:=ay.split (by simpa using e) r
  exact⟨L++L1,L2,by rw[e1];simp,.cons h r1,r2⟩
 | _::_,_,[],_,_,e,_=>by simp at e
 | [],_,_::_,_,_,e,_=>by simp at e
theorem ay.frs:∀{vs:List V}{as:List A},RAs k G vs as->ay k G H (vs.map some) (as.map Sl.fr) []
 | _,_,.nil=>.nil
 | _,_,.cons h r=>ay.cons (L:=[]) (.fr h) (ay.frs r)
theorem ay.Cs:∀{vs:List V}{as:List A}{L:List Addr},ay k G H (vs.map some) (as.map Sl.fr) L->L=[]/\RAs k G vs as
 | [],[],_,.nil=>⟨rfl,.nil⟩
 | v::vs,a::as,_,.cons h r=>by
  cases h with
  | fr h =>
   obtain⟨e,q⟩:=ay.Cs r
   exact⟨by rw[e];rfl,.cons h q⟩
end
end M
namespace M
open PySem L2
structure Cn extends Kx where
 σ0:St
 H0:Hp
 Lp:List Addr
 Hd:List Addr
 Wk:List (Addr×HO)
noncomputable def Cn.g(c:Cn)(H:Hp)(L:List Addr):Hp:=cut H (L++c.Hd)
structure Fr (c:Cn) (H:Hp):Prop where
 st:∀b o,c.H0 b=some o->∃u,H b=some u/\(b∉c.Lp->(∀w,(b,w)∉c.Wk)->u=o)
 pk:∀p∈c.Wk,H p.1=some p.2/\(∃ob vs,p.2=.frz ob (.dK vs))/\p.1∉c.Hd
theorem Fr.new{c:Cn}{H:Hp}{p:Addr}{o:HO}(f:Fr c H)(h:H p=none):Fr c (upd H p o):=⟨λb u e=>by
 obtain⟨w,h1,h2⟩:=f.st b u e
 exact⟨w,by rw[aA (aF h1 h)];exact h1,h2⟩,λq hq=>by
 obtain⟨h1,h2⟩:=f.pk q hq
 exact⟨by rw[aA (aF h1 h)];exact h1,h2⟩⟩
theorem Fr.fresh{c:Cn}{H:Hp}{p:Addr}(f:Fr c H)(h:H p=none):c.H0 p=none:=by
 cases e:c.H0 p with
 | none=>rfl
 | some o=>obtain⟨u,h1,_⟩:=f.st p o e;rw[h] at h1;cases h1
def eU(σ0 σ:St)(ρ:List Sl):Prop:=∀(i:Nat)(o:LO),ρ[i]?=some (Sl.pv o)->σ[i]?=σ0[i]?
structure BdL (c:Cn) (σ:St) (H:Hp) (ρ:List Sl) (τ:St) (θ:List Sl) (L:List Addr):Prop where
 nd:L.Nodup
 rel:ay c.toKx (c.g H L) H (τ++σ) (θ++ρ) L
 own:∀p∈L,p∈c.Lp\/c.H0 p=none
 fr:Fr c H
 kp:eU c.σ0 σ ρ
 lt:τ.length=θ.length
 hd:∀p∈c.Hd,(∃u,c.H0 p=some u)/\p∉c.Lp
theorem g_same(c:Cn)(H:Hp)(L:List Addr):Sq (c.g H L) H:=wK _ _
theorem cP{c:Cn}{H:Hp}{L L':List Addr}(h:∀a,a∈L'->a∈L):Sq (c.g H L) (c.g H L'):=uU λa ha=>by
 rcases LS.mp ha with z|z
 ·exact Mb _ (h a z)
 ·exact LN _ z
theorem jz{c:Cn}{H:Hp}{L:List Addr}{a:Addr}(h:a∈L\/a∈c.Hd):c.g H L a=none:=xF (by simpa using h)
theorem cc{c:Cn}{H:Hp}{L:List Addr}{a:Addr}(h:a∉L)(h':a∉c.Hd):c.g H L a=H a:=nY (by simp[h,h'])
theorem BdL.nhd{c:Cn}{σ:St}{H:Hp}{ρ:List Sl}{τ:St}{θ:List Sl}{L:List Addr}(b:BdL c σ H ρ τ θ L){p:Addr}(h:p∈L):p∉c.Hd:=λz=>by
 obtain⟨⟨u,e⟩,n⟩:=b.hd p z
 rcases b.own p h with y|y
 ·exact n y
 ·rw[y] at e;cases e
theorem BdL.fhd{c:Cn}{σ:St}{H:Hp}{ρ:List Sl}{τ:St}{θ:List Sl}{L:List Addr}(b:BdL c σ H ρ τ θ L){p:Addr}(h:H p=none):p∉c.Hd:=λz=>by
 obtain⟨⟨u,e⟩,n⟩:=b.hd p z
 rw[b.fr.fresh h] at e;cases e
def Bd(c:Cn)(σ:St)(H:Hp)(ρ:List Sl)(τ:St)(θ:List Sl):Prop:=∃L,BdL c σ H ρ τ θ L
section
variable{c:Cn}{σ:St}{H:Hp}{ρ:List Sl}{τ:St}{θ:List Sl}
theorem Bd.gF(b:Bd c σ H ρ τ θ):σ.length=ρ.length:=by
 obtain⟨L,b⟩:=b
 have:=b.rel.len
 rw[L4,L4,b.lt] at this
 omega
theorem Bd.push{v:V}{a:A}(b:Bd c σ H ρ τ θ)(h:∀G,RA c.toKx G v a):Bd c σ H ρ (some v::τ) (.fr a::θ):=by
 obtain⟨L,b⟩:=b
 exact⟨L,b.nd,ay.cons (L:=[]) (.fr (h _)) b.rel,b.own,b.fr,b.kp,by simp[b.lt],b.hd⟩
theorem Bd.pop{x:Option V}{s:Sl}(b:Bd c σ H ρ (x::τ) (s::θ)):Bd c σ H ρ τ θ:=by
 obtain⟨L,b⟩:=b
 obtain⟨nd,rel,own,fr,kp,lt,hdd⟩:=b
 have rel:ay c.toKx (c.g H L) H (x::(τ++σ)) (s::(θ++ρ)) L:=rel
 cases rel with
 | cons h r =>
  rename_i L1 L2
  exact⟨L2,(L6.mp nd).2.1,r.sm (cP λa ha=>LN _ ha) (λ_ _ _ e=>e),λp hp=>own p (LN _ hp),fr,kp,by simpa using lt,hdd⟩
theorem Bd.BE:∀{xs:St}{ss:List Sl},xs.length=ss.length->Bd c σ H ρ (xs++τ) (ss++θ)->Bd c σ H ρ τ θ
 | [],[],_,b=>b
 | x::xs,s::ss,e,b=>Bd.BE (xs:=xs) (ss:=ss) (by simpa using e) (Bd.pop b)
 | [],_::_,e,_=>by simp at e
 | _::_,[],e,_=>by simp at e
theorem Bd.new{p:Addr}{o:HO}(b:Bd c σ H ρ τ θ)(h:H p=none):Bd c σ (upd H p o) ρ τ θ:=by
 obtain⟨L,b⟩:=b
 have hp:p∉L:=λz=>by obtain⟨u,e⟩:=b.rel.is p z;rw[h] at e;cases e
 refine⟨L,b.nd,b.rel.sm (Sq.of λa u e=>?_) (λq hq u e=>by rw[aA (aF e h)];exact e),b.own,b.fr.new h,b.kp,b.lt,b.hd⟩
 by_cases z:a∈L\/a∈c.Hd
 ·rw[jz z] at e;cases e
 ·rw[cc (λy=>z (.inl y)) (λy=>z (.inr y))] at e
  rw[cc (λy=>z (.inl y)) (λy=>z (.inr y)),aA (aF e h)];exact e
theorem Bd.frs{vs:List V}{as:List A}(b:Bd c σ H ρ (vs.map some++τ) (as.map Sl.fr++θ))(e:vs.length=as.length):∃L,BdL c σ H ρ τ θ L/\RAs c.toKx (c.g H L) vs as:=by
 obtain⟨L,b⟩:=b
 have r:=b.rel
 rw[LQ,LQ] at r
 obtain⟨L1,L2,e1,r1,r2⟩:=ay.split (by simp[e]) r
 obtain⟨z,ra⟩:=ay.Cs r1
 subst z
 have e1:L=L2:=e1
 subst e1
 exact⟨L,⟨b.nd,r2,b.own,b.fr,b.kp,by have:=b.lt;simp at this;omega,b.hd⟩,ra⟩
theorem BdL.push{L:List Addr}{v:V}{a:A}(b:BdL c σ H ρ τ θ L)(h:RA c.toKx (c.g H L) v a):Bd c σ H ρ (some v::τ) (.fr a::θ) :=
 ⟨L,b.nd,ay.cons (L:=[]) (.fr h) b.rel,b.own,b.fr,b.kp,by simp[b.lt],b.hd⟩
theorem BdL.new{L:List Addr}{p:Addr}{o:HO}(b:BdL c σ H ρ τ θ L)(h:H p=none):BdL c σ (upd H p o) ρ τ θ L/\Sq (c.g H L) (c.g (upd H p o) L)/\p∉L:=by
 have hp:p∉L:=λz=>by obtain⟨u,e⟩:=b.rel.is p z;rw[h] at e;cases e
 have sm:Sq (c.g H L) (c.g (upd H p o) L):=Sq.of λa u e=>by
  by_cases z:a∈L\/a∈c.Hd
  ·rw[jz z] at e;cases e
  ·rw[cc (λy=>z (.inl y)) (λy=>z (.inr y))] at e
   rw[cc (λy=>z (.inl y)) (λy=>z (.inr y)),aA (aF e h)];exact e
 exact⟨⟨b.nd,b.rel.sm sm (λq hq u e=>by rw[aA (aF e h)];exact e),b.own,b.fr.new h,b.kp,b.lt,b.hd⟩,sm,hp⟩
theorem Bd.FL{vs:List V}{as:List A}{p:Addr}(b:Bd c σ H ρ (vs.map some++τ) (as.map Sl.fr++θ))(e:vs.length=as.length)(h:H p=none)(ws:List V)(bs:List A)(hw:∀G,RAs c.toKx G vs as->RAs c.toKx G ws bs) :
  Bd c σ (upd H p (.tup ws)) ρ (some (.ref p)::τ) (.fr (.tup bs)::θ):=by
 obtain⟨L,bl,ra⟩:=b.frs e
 obtain⟨b2,sm,hp⟩:=bl.new (o:=.tup ws) h
 exact b2.push (.tup (.inl (.inl (by rw[cc hp (bl.fhd h)];exact bj))) (hw _ (ra.sm sm)))
theorem BdL.gj{L:List Addr}{p:Addr}{u:HO}{o:LO}(b:BdL c σ H ρ τ θ L)(h:H p=none)(hr:∀G H',Sq (c.g H L) G->H' p=some u->LR c.toKx G H' p o):Bd c σ (upd H p u) ρ (some (.ref p)::τ) (.lv o::θ):=by
 have hp:p∉L:=λz=>by obtain⟨u,e⟩:=b.rel.is p z;rw[h] at e;cases e
 have sm:Sq (c.g H L) (c.g (upd H p u) (p::L)):=Sq.of λa w e=>by
  by_cases z:a∈L\/a∈c.Hd
  ·rw[jz z] at e;cases e
  ·rw[cc (λy=>z (.inl y)) (λy=>z (.inr y))] at e
   have na:=aF e h
   rw[cc (λy=>by rcases Me.mp y with y|y;exact na y;exact z (.inl y)) (λy=>z (.inr y)),aA na];exact e
 refine⟨p::L,Mp.mpr ⟨hp,b.nd⟩,ay.cons (L:=[p]) (.lv (hr _ _ sm bj)) (b.rel.sm sm (λq hq w e=>by rw[aA (aF e h)];exact e)),λq hq=>?_,b.fr.new h,b.kp,by simp[b.lt],b.hd⟩
 rcases Me.mp hq with z|z
 ·subst z;exact .inr (b.fr.fresh h)
 ·exact b.own q z
theorem Bd.qI{vs:List V}{as:List A}{p:Addr}(b:Bd c σ H ρ (vs.map some++τ) (as.map Sl.fr++θ))(e:vs.length=as.length)(h:H p=none)(ws:List V)(bs:List A)(hw:∀G,RAs c.toKx G vs as->RAs c.toKx G ws bs) :
  Bd c σ (upd H p (.lst ws)) ρ (some (.ref p)::τ) (.lv (.lst bs)::θ):=by
 obtain⟨L,bl,ra⟩:=b.frs e
 exact bl.gj h λG H' sm q=>.lst q (hw _ (ra.sm sm))
theorem LR.a{k:Kx}{G H:Hp}{p:Addr}{o:LO}(h:LR k G H p o)(sm:Sq G H):RA k H (.ref p) o.a:=by
 cases h with
 | lst e r=>exact .lst (.inl (.inl e)) (r.sm sm)
 | dic e r=>exact .dic (.inl e) (r.sm sm)
 | obj e m r=>exact .obj e m (r.sm sm)
theorem LR.a'{k:Kx}{G G' H:Hp}{p:Addr}{o:LO}(h:LR k G H p o)(sm:Sq G G')(e:∀u,H p=some u->G' p=some u):RA k G' (.ref p) o.a:=by
 cases h with
 | lst q r=>exact .lst (.inl (.inl (e _ q))) (r.sm sm)
 | dic q r=>exact .dic (.inl (e _ q)) (r.sm sm)
 | obj q m r=>exact .obj (e _ q) m (r.sm sm)
noncomputable def Sl.a:Sl->Option A
 | .fr a=>some a
 | .lv o=>some o.a
 | .pv o=>some o.a
 | .un=>none
theorem SlR.read{k:Kx}{G H:Hp}{x:Option V}{s:Sl}{L:List Addr}{a:A}(h:SlR k G H x s L)(sm:Sq G H)(e:s.a=some a):∃v,x=some v/\RA k H v a:=by
 cases h with
 | un=>cases e
 | fr h=>cases e;exact⟨_,rfl,h.sm sm⟩
 | lv h=>cases e;exact⟨_,rfl,h.a sm⟩
 | pv h=>cases e;exact⟨_,rfl,h.a sm⟩
theorem eU.set{σ0 σ:St}{ρ:List Sl}{i:Nat}{t:Sl}{y:Option V}(k:eU σ0 σ ρ)(h:∀o,ρ[i]?≠some (.pv o))(hi:i<ρ.length)(e:∀o,t≠.pv o):eU σ0 (σ.set i y) (ρ.set i t):=λj o q=>by
 by_cases z:j=i
 ·subst z
  rw[Mx hi] at q
  exact absurd (LY q) (e o)
 ·rw[MN (Nd z)] at q ⊢
  exact k j o q
theorem eU.Bl{σ0 σ:St}{ρ:List Sl}{i:Nat}{t:Sl}(k:eU σ0 σ ρ)(h:∀o,t=.pv o->∃o',ρ[i]?=some (.pv o')):eU σ0 σ (ρ.set i t):=λj o q=>by
 by_cases z:j=i
 ·subst z
  by_cases hi:j<ρ.length
  ·rw[Mx hi] at q
   obtain⟨o',e⟩:=h o (LY q)
   exact k j o' e
  ·rw[NO (by simp;omega)] at q;cases q
 ·rw[MN (Nd z)] at q
  exact k j o q
theorem Bd.slot{i:Nat}{s:Sl}{a:A}(b:Bd c σ H ρ τ θ)(e:ρ[i]?=some s)(ea:s.a=some a):∃v,σ[i]?=some (some v)/\RA c.toKx H v a:=by
 obtain⟨L,b⟩:=b
 obtain⟨L1,L2,e1,r1,r2⟩:=ay.split b.lt b.rel
 obtain⟨x,_,_,_,hx,hs,_⟩:=r2.at e
 obtain⟨v,rfl,h⟩:=hs.read (g_same _ _ _) ea
 exact⟨v,hx,h⟩
theorem Bd.load{i:Nat}{a:A}(b:Bd c σ H ρ τ θ)(e:ρ[i]?=some (.fr a)):∃v,σ[i]?=some (some v)/\Bd c σ H ρ (some v::τ) (.fr a::θ):=by
 obtain⟨L,b⟩:=b
 obtain⟨L1,L2,e1,r1,r2⟩:=ay.split b.lt b.rel
 obtain⟨x,_,_,_,hx,hs,_⟩:=r2.at e
 cases hs with
 | fr h=>exact⟨_,hx,b.push h⟩
theorem Bd.sC{i:Nat}{o:LO}(b:Bd c σ H ρ τ θ)(e:ρ[i]?=some (.lv o)):Bd c σ H (ρ.set i (.fr o.a)) τ θ:=by
 obtain⟨L,b⟩:=b
 obtain⟨L1,L2,e1,r1,r2⟩:=ay.split b.lt b.rel
 obtain⟨x,M1,M2,M3,hx,hs,e2,ins⟩:=r2.at e
 cases hs with
 | lv h =>
  rename_i p
  have nd:=b.nd
  have hL:L=(L1++M1)++p::M3:=by rw[e1,e2];simp
  rw[hL] at nd
  have hp:p∉L1++M1++M3:=by
   obtain⟨n1,n2,n3⟩:=L6.mp nd
   obtain⟨m1,m2⟩:=Mp.mp n2
   intro z
   rcases LS.mp z with z|z
   ·exact n3 p z p (by simp) rfl
   ·exact m1 z
  have sub:∀a,a∈L1++M1++M3->a∈L:=λa ha=>by rw[hL];simp only[LS,Me] at ha ⊢;rcases ha with (z|z)|z<;>simp[z]
  have sm:Sq (c.g H L) (c.g H (L1++M1++M3)):=cP sub
  have r3:=ins (y:=some (.ref p)) (t:=.fr o.a) (L':=[]) sm (λ_ _ _ e=>e) (.fr (h.a' sm λu e=>by rw[cc hp (b.nhd (by rw[hL];simp))];exact e))
  have hσ:σ.set i (some (.ref p))=σ:=by
   apply Oe;intro j
   by_cases z:j=i
   ·subst z;rw[Mx (LI.mp hx).1,hx]
   ·rw[MN (Nd z)]
  rw[hσ] at r3
  refine⟨L1++M1++M3,?_,?_,λq hq=>b.own q (sub q hq),b.fr,b.kp.Bl (λo z=>by cases z),b.lt,b.hd⟩
  ·exact(L6.mp nd).1 |> λn=>L6.mpr ⟨n,(Mp.mp (L6.mp nd).2.1).2,λa ha b' hb=>(L6.mp nd).2.2 a ha b' (LX _ hb)⟩
  ·have:=(r1.sm sm (λ_ _ _ e=>e)).app r3
   simpa[LQ] using this
theorem BdL.change{L:List Addr}{i:Nat}{s t:Sl}{o o':LO}{u:HO}(b:BdL c σ H ρ τ θ L)(e:ρ[i]?=some s)(es:s=.lv o/\t=.lv o'\/s=.pv o/\t=.pv o')
  : ∃p,σ[i]?=some (some (.ref p))/\LR c.toKx (c.g H L) H p o/\((∀H',H' p=some u->LR c.toKx (c.g H L) H' p o')->Bd c σ (upd H p u) (ρ.set i t) τ θ):=by
 obtain⟨L1,L2,e1,r1,r2⟩:=ay.split b.lt b.rel
 obtain⟨x,M1,M2,M3,hx,hs,e2,ins⟩:=r2.at e
 have key:∀p,x=some (.ref p)->M2=[p]->LR c.toKx (c.g H L) H p o->(∀G H',LR c.toKx G H' p o'->SlR c.toKx G H' (some (.ref p)) t [p])->(∀o2,t=.pv o2->∃o',ρ[i]?=some (.pv o')) ->
   ∃p,σ[i]?=some (some (.ref p))/\LR c.toKx (c.g H L) H p o/\((∀H',H' p=some u->LR c.toKx (c.g H L) H' p o')->Bd c σ (upd H p u) (ρ.set i t) τ θ):=by
  intro p ex em hr mk pk
  subst ex em
  refine⟨p,hx,hr,λhn=>?_⟩
  have nd:=b.nd
  have hL:L=(L1++M1)++p::M3:=by rw[e1,e2];simp
  have hin:p∈L:=by rw[hL];simp
  have hne:∀q,q∈L1++M1++M3->q≠p:=λq hq z=>by
   subst z
   rw[hL] at nd
   obtain⟨n1,n2,n3⟩:=L6.mp nd
   obtain⟨m1,m2⟩:=Mp.mp n2
   rcases LS.mp hq with z|z
   ·exact n3 q z q (by simp) rfl
   ·exact m1 z
  have ec:c.g (upd H p u) L=c.g H L:=by
   funext a
   by_cases z:a∈L\/a∈c.Hd
   ·rw[jz z,jz z]
   ·rw[cc (λy=>z (.inl y)) (λy=>z (.inr y)),cc (λy=>z (.inl y)) (λy=>z (.inr y)),aA λy=>z (.inl (by rw[y];exact hin))]
  have kpu:∀q,q∈L1++M1++M3->∀w,H q=some w->upd H p u q=some w:=λq hq w e=>by rw[aA (hne q hq)];exact e
  have r3:=ins (G':=c.g (upd H p u) L) (H':=upd H p u) (y:=some (.ref p)) (t:=t) (L':=[p]) (by rw[ec];exact Sq.refl _) (λq hq=>kpu q (by rcases LS.mp hq with z|z<;>simp[z])) (mk _ _ (by rw[ec];exact hn _ bj))
  have hσ:σ.set i (some (.ref p))=σ:=by
   apply Oe;intro j
   by_cases z:j=i
   ·subst z;rw[Mx (LI.mp hx).1,hx]
   ·rw[MN (Nd z)]
  rw[hσ] at r3
  refine⟨L,nd,?_,b.own,⟨λq w e=>?_,λq hq=>?_⟩,b.kp.Bl pk,b.lt,b.hd⟩
  ·have:=(r1.sm (G':=c.g (upd H p u) L) (H':=upd H p u) (by rw[ec];exact Sq.refl _) (λq hq=>kpu q (by simp[hq]))).app r3
   have z:L1++(M1++[p]++M3)=L:=by rw[hL];simp
   rw[z] at this
   exact this
  ·obtain⟨w',h1,h2⟩:=b.fr.st q w e
   by_cases z:q=p
   ·subst z
    refine⟨u,bj,λnq=>?_⟩
    rcases b.own q hin with y|y
    ·exact absurd y nq
    ·rw[y] at e;cases e
   ·exact⟨w',by rw[aA z];exact h1,h2⟩
  ·obtain⟨h1,⟨ob,vs,h2⟩,h3⟩:=b.fr.pk q hq
   refine⟨?_,⟨ob,vs,h2⟩,h3⟩
   rw[aA λy=>?_]
   ·exact h1
   ·rw[y,h2] at h1
    cases hr with
    | lst e _=>rw[e] at h1;cases h1
    | dic e _=>rw[e] at h1;cases h1
    | obj e _ _=>rw[e] at h1;cases h1
 rcases es with ⟨rfl,rfl⟩|⟨rfl,rfl⟩
 ·cases hs with
  | lv h=>exact key _ rfl rfl h (λ_ _ h=>.lv h) (λ_ z=>by cases z)
 ·cases hs with
  | pv h=>exact key _ rfl rfl h (λ_ _ h=>.pv h) (λ_ z=>⟨_,e⟩)
theorem Bd.store{i:Nat}{s t:Sl}{v:V}(b:Bd c σ H ρ (some v::τ) (t::θ))(e:ρ[i]?=some s)(hs:∀o,s≠.pv o)(ht:∀o,t≠.pv o):Bd c (σ.set i (some v)) H (ρ.set i t) τ θ:=by
 obtain⟨L,nd,rel,own,fr,kp,lt,hdd⟩:=b
 have rel:ay c.toKx (c.g H L) H (some v::(τ++σ)) (t::(θ++ρ)) L:=rel
 cases rel with
 | cons h r =>
  rename_i L0 L'
  obtain⟨L1,L2,e1,r1,r2⟩:=ay.split (by simpa using lt) r
  obtain⟨x,M1,M2,M3,hx,hs',e2,ins⟩:=r2.at e
  subst e1 e2
  have sub:∀a,a∈L1++(M1++L0++M3)->a∈L0++(L1++(M1++M2++M3)):=λa ha=>by simp at ha ⊢;rcases ha with z|z|z|z<;>simp[z]
  have sm:Sq (c.g H (L0++(L1++(M1++M2++M3)))) (c.g H (L1++(M1++L0++M3))):=cP sub
  have hi:i<ρ.length:=(LI.mp e).1
  refine⟨L1++(M1++L0++M3),?_,?_,λq hq=>own q (sub q hq),fr,kp.set (λo z=>?_) hi ht,by simpa using lt,hdd⟩
  ·have p1:(L0++(L1++(M1++M2++M3))).Perm (M2++(L1++(M1++L0++M3))):=by
    rw[O0]
    intro a
    simp only[Pl]
    omega
   exact(L6.mp ((p1.nodup_iff).mp nd)).2.1
  ·exact(r1.sm sm (λ_ _ _ e=>e)).app (ins sm (λ_ _ _ e=>e) (h.sm sm (λ_ _ _ e=>e)))
  ·rw[e] at z;exact hs o (LY z)
end
end M
namespace M
open PySem L2
inductive Rr where
 | rf (i:Nat)|fr (a:A)|nw (o:LO)
noncomputable abbrev Mi(α:Type):=List Sl->Option (Except Str α×List Sl)
noncomputable def ax{α β:Type}(m:Mi α)(f:α->Mi β):Mi β:=λρ=>match m ρ with
 | some (.ok x,ρ1)=>f x ρ1
 | some (.error e,ρ1)=>some (.error e,ρ1)
 | none=>none
noncomputable def jh{α:Type}(x:α):Mi α:=λρ=>some (.ok x,ρ)
noncomputable def bJ:Rr->V->St->St
 | .rf _,_,τ=>τ
 | .fr _,v,τ=>some v::τ
 | .nw _,v,τ=>some v::τ
noncomputable def bG:Rr->List Sl->List Sl
 | .rf _,θ=>θ
 | .fr a,θ=>.fr a::θ
 | .nw o,θ=>.lv o::θ
noncomputable def VR(σ:St):Rr->V->Prop
 | .rf i,v=>σ[i]?=some (some v)
 | _,_=>True
noncomputable def res(ρ:List Sl):Rr->Option A
 | .rf i=>match ρ[i]? with
  | some s=>s.a
  | none=>none
 | .fr a=>some a
 | .nw o=>some o.a
noncomputable def Ret(K:Kx)(E:XK)(c:Cn)(σ:St)(ρ:List Sl)(τ:St)(θ:List Sl)(Q:VK):Except Str Rr->Prop
 | .ok r=>∀v H,VR σ r v->Bd c σ H ρ (bJ r v τ) (bG r θ)->Q v H
 | .error x=>∀C H,K.mg x=some (.ref C)->Bd c σ H ρ τ θ->E (.ref C) none H
noncomputable def TEm(K:Kx)(E:XK)(m:Mi Rr):TE:=λσ H Q=>∃(c:Cn) (ρ:List Sl) (τ:St) (θ:List Sl) (o:Except Str Rr) (ρ':List Sl),c.toKx=K/\Bd c σ H ρ τ θ/\m ρ=some (o,ρ')/\Ret K E c σ ρ' τ θ Q o
noncomputable def HE(K:Kx)(E:XK)(c:Cn)(σ:St)(ρ:List Sl)(τ:St)(θ:List Sl)(Q:Bool->Hp->Prop):Except Str Bool->Prop
 | .ok b=>∀H,Bd c σ H ρ τ θ->Q b H
 | .error x=>∀C H,K.mg x=some (.ref C)->Bd c σ H ρ τ θ->E (.ref C) none H
noncomputable def TTm(K:Kx)(E:XK)(m:Mi Bool):TT:=λσ H Q=>∃(c:Cn) (ρ:List Sl) (τ:St) (θ:List Sl) (o:Except Str Bool) (ρ':List Sl),c.toKx=K/\Bd c σ H ρ τ θ/\m ρ=some (o,ρ')/\HE K E c σ ρ' τ θ Q o
noncomputable def cG:List Rr->List V->St->St
 | r::rs,v::vs,τ=>cG rs vs (bJ r v τ)
 | _,_,τ=>τ
noncomputable def cF:List Rr->List Sl->List Sl
 | r::rs,θ=>cF rs (bG r θ)
 | [],θ=>θ
noncomputable def VRs(σ:St):List Rr->List V->Prop
 | [],[]=>True
 | r::rs,v::vs=>VR σ r v/\VRs σ rs vs
 | _,_=>False
noncomputable def Kc(K:Kx)(E:XK)(c:Cn)(σ:St)(ρ:List Sl)(τ:St)(θ:List Sl)(Q:List V->Hp->Prop):Except Str (List Rr)->Prop
 | .ok rs=>∀vs H,VRs σ rs vs->Bd c σ H ρ (cG rs vs τ) (cF rs θ)->Q vs H
 | .error x=>∀C H,K.mg x=some (.ref C)->Bd c σ H ρ τ θ->E (.ref C) none H
noncomputable def TAm(K:Kx)(E:XK)(m:Mi (List Rr)):TA:=λσ H Q=>∃(c:Cn) (ρ:List Sl) (τ:St) (θ:List Sl) (o:Except Str (List Rr)) (ρ':List Sl),c.toKx=K/\Bd c σ H ρ τ θ/\m ρ=some (o,ρ')/\Kc K E c σ ρ' τ θ Q o
noncomputable abbrev kx(X:Cx):Kx:=⟨X.K,X.mg⟩
structure JE (X:Cx) (E:XK) (e:Expr) (m:Mi Rr):Prop where
 p:PE X e (TEm (kx X) E m)
structure JT (X:Cx) (E:XK) (e:Expr) (m:Mi Bool):Prop where
 p:PT X e (TTm (kx X) E m)
structure JW (X:Cx) (E:XK) (e:Expr) (m:Mi Bool):Prop where
 p:PW X e (TTm (kx X) E m)
structure JA (X:Cx) (E:XK) (es:List Expr) (m:Mi (List Rr)):Prop where
 p:PA X es (TAm (kx X) E m)
theorem PE.weaken{X:Cx}{e:Expr}{t t':TE}(h:PE X e t)(f:∀σ H Q,t' σ H Q->t σ H Q):PE X e t':=λpins s σ H Q I q=>h pins s σ H Q I (f σ H Q q)
theorem PT.weaken{X:Cx}{e:Expr}{t t':TT}(h:PT X e t)(f:∀σ H Q,t' σ H Q->t σ H Q):PT X e t':=λpins s σ H Q I q=>h pins s σ H Q I (f σ H Q q)
theorem PW.weaken{X:Cx}{e:Expr}{t t':TT}(h:PW X e t)(f:∀σ H Q,t' σ H Q->t σ H Q):PW X e t':=λwh pins s σ H Q I q=>h wh pins s σ H Q I (f σ H Q q)
theorem PA.weaken{X:Cx}{e:List Expr}{t t':TA}(h:PA X e t)(f:∀σ H Q,t' σ H Q->t σ H Q):PA X e t':=λpos pins s σ H Q I q=>h pos pins s σ H Q I (f σ H Q q)
section
variable{c:Cn}{σ:St}{H:Hp}{ρ:List Sl}{τ:St}{θ:List Sl}
theorem Bd.drop{r:Rr}{v:V}(b:Bd c σ H ρ (bJ r v τ) (bG r θ)):Bd c σ H ρ τ θ:=by
 cases r with
 | rf i=>exact b
 | fr a=>exact Bd.pop b
 | nw o=>exact Bd.pop b
theorem Bd.top{v:V}{s:Sl}{a:A}(b:Bd c σ H ρ (some v::τ) (s::θ))(e:s.a=some a):RA c.toKx H v a:=by
 obtain⟨L,nd,rel,_⟩:=b
 have rel:ay c.toKx (c.g H L) H (some v::(τ++σ)) (s::(θ++ρ)) L:=rel
 cases rel with
 | cons h r =>
  obtain⟨u,z,q⟩:=h.read (g_same _ _ _) e
  cases z;exact q
theorem Bd.rd{r:Rr}{v:V}{a:A}(b:Bd c σ H ρ (bJ r v τ) (bG r θ))(hv:VR σ r v)(e:res ρ r=some a):RA c.toKx H v a:=by
 cases r with
 | rf i =>
  unfold res at e
  cases es:ρ[i]? with
  | none=>simp only[es] at e;cases e
  | some s =>
   simp only[es] at e
   obtain⟨u,h1,h2⟩:=Bd.slot b es e
   have hv:σ[i]?=some (some v):=hv
   rw[hv] at h1;cases h1;exact h2
 | fr a'=>cases e;exact Bd.top b rfl
 | nw o=>cases e;exact Bd.top b rfl
theorem SlR.items{k:Kx}{G H:Hp}{x:Option V}{s:Sl}{L:List Addr}(h:SlR k G H x s L)(sm:Sq G H) :
  (∀as,s.a=some (.lst as)->∃p vs,x=some (.ref p)/\SqL k.K H p vs/\RAs k G vs as)/\(∀as,s.a=some (.tup as)->∃p vs,x=some (.ref p)/\SqT k.K G p vs/\RAs k G vs as) /\
  (∀as,s.a=some (.dic as)->∃p vs,x=some (.ref p)/\Rd H p (.dK vs)/\RKs k G vs as):=by
 have lo:∀p o,LR k G H p o->(∀as,o.a=A.lst as->∃vs,SqL k.K H p vs/\RAs k G vs as)/\(∀as,o.a≠A.tup as)/\(∀as,o.a=A.dic as->∃vs,Rd H p (.dK vs)/\RKs k G vs as):=by
  intro p o h
  cases h with
  | lst e r=>exact⟨λas z=>by cases z;exact⟨_,.inl (.inl e),r⟩,λas z=>(by cases z),λas z=>(by cases z)⟩
  | dic e r=>exact⟨λas z=>(by cases z),λas z=>(by cases z),λas z=>by cases z;exact⟨_,.inl e,r⟩⟩
  | obj e m r=>exact⟨λas z=>(by cases z),λas z=>(by cases z),λas z=>(by cases z)⟩
 cases h with
 | un=>exact⟨λ_ z=>(by cases z),λ_ z=>(by cases z),λ_ z=>(by cases z)⟩
 | fr h =>
  refine⟨λas z=>?_,λas z=>?_,λas z=>?_⟩
  ·cases z;cases h with|lst e r=>exact⟨_,_,rfl,jf sm e,r⟩
  ·cases z;cases h with|tup e r=>exact⟨_,_,rfl,e,r⟩
  ·cases z;cases h with|dic e r=>exact⟨_,_,rfl,sm.rdD e,r⟩
 | lv h =>
  rename_i p o
  obtain⟨l1,l2,l3⟩:=lo p o h
  refine⟨λas z=>?_,λas z=>absurd (LY z) (l2 as),λas z=>?_⟩
  ·obtain⟨vs,h1,h2⟩:=l1 as (LY z);exact⟨p,vs,rfl,h1,h2⟩
  ·obtain⟨vs,h1,h2⟩:=l3 as (LY z);exact⟨p,vs,rfl,h1,h2⟩
 | pv h =>
  rename_i p o
  obtain⟨l1,l2,l3⟩:=lo p o h
  refine⟨λas z=>?_,λas z=>absurd (LY z) (l2 as),λas z=>?_⟩
  ·obtain⟨vs,h1,h2⟩:=l1 as (LY z);exact⟨p,vs,rfl,h1,h2⟩
  ·obtain⟨vs,h1,h2⟩:=l3 as (LY z);exact⟨p,vs,rfl,h1,h2⟩
noncomputable def It3(c:Cn)(H:Hp)(L:List Addr)(v:V)(a:A):Prop :=
  (∀as,a=.lst as->∃p vs,v=.ref p/\SqL c.K H p vs/\RAs c.toKx (c.g H L) vs as)/\(∀as,a=.tup as->∃p vs,v=.ref p/\SqT c.K (c.g H L) p vs/\RAs c.toKx (c.g H L) vs as) /\
  (∀as,a=.dic as->∃p vs,v=.ref p/\Rd H p (.dK vs)/\RKs c.toKx (c.g H L) vs as)
theorem It3.mono{L L':List Addr}{v:V}{a:A}(h:It3 c H L v a)(s:∀a,a∈L'->a∈L):It3 c H L' v a:=by
 obtain⟨h1,h2,h3⟩:=h
 refine⟨λas e=>?_,λas e=>?_,λas e=>?_⟩
 ·obtain⟨p,vs,q1,q2,q3⟩:=h1 as e;exact⟨p,vs,q1,q2,q3.sm (cP s)⟩
 ·obtain⟨p,vs,q1,q2,q3⟩:=h2 as e;exact⟨p,vs,q1,eD (cP s) q2,q3.sm (cP s)⟩
 ·obtain⟨p,vs,q1,q2,q3⟩:=h3 as e;exact⟨p,vs,q1,q2,q3.sm (cP s)⟩
theorem It3.of{L L2:List Addr}{x:Option V}{s:Sl}{v:V}{a:A}(ex:x=some v)(h:SlR c.toKx (c.g H L) H x s L2)(ea:s.a=some a):It3 c H L v a:=by
 subst ex
 obtain⟨l1,l2,l3⟩:=h.items (g_same _ _ _)
 refine⟨λas z=>?_,λas z=>?_,λas z=>?_⟩<;>subst z
 ·obtain⟨p,vs,q,h1,h2⟩:=l1 as ea;exact⟨p,vs,LY q,h1,h2⟩
 ·obtain⟨p,vs,q,h1,h2⟩:=l2 as ea;exact⟨p,vs,LY q,h1,h2⟩
 ·obtain⟨p,vs,q,h1,h2⟩:=l3 as ea;exact⟨p,vs,LY q,h1,h2⟩
theorem BdL.open{r:Rr}{v:V}{a:A}{L0:List Addr}(b:BdL c σ H ρ (bJ r v τ) (bG r θ) L0)(hv:VR σ r v)(e:res ρ r=some a):∃L,(∀a,a∈L->a∈L0)/\BdL c σ H ρ τ θ L/\It3 c H L v a:=by
 have tmp:∀s,BdL c σ H ρ (some v::τ) (s::θ) L0->s.a=some a->∃L,(∀a,a∈L->a∈L0)/\BdL c σ H ρ τ θ L/\It3 c H L v a:=by
  intro s b ea
  obtain⟨nd,rel,own,fr,kp,lt,hdd⟩:=b
  have rel:ay c.toKx (c.g H L0) H (some v::(τ++σ)) (s::(θ++ρ)) L0:=rel
  cases rel with
  | cons h r =>
   rename_i L1 L2
   have sm:Sq (c.g H (L1++L2)) (c.g H L2):=cP λa ha=>LN _ ha
   exact⟨L2,λa ha=>LN _ ha,⟨(L6.mp nd).2.1,r.sm sm (λ_ _ _ e=>e),λp hp=>own p (LN _ hp),fr,kp,by simpa using lt,hdd⟩,It3.of rfl (h.sm sm (λ_ _ _ e=>e)) ea⟩
 cases r with
 | rf i =>
  unfold res at e
  cases es:ρ[i]? with
  | none=>simp only[es] at e;cases e
  | some s =>
   simp only[es] at e
   obtain⟨L1,L2,e1,r1,r2⟩:=ay.split b.lt b.rel
   obtain⟨x,_,_,_,hx,hs,_⟩:=r2.at es
   have hv:σ[i]?=some (some v):=hv
   rw[hv] at hx
   exact⟨L0,λ_ h=>h,b,It3.of (LY hx).symm hs e⟩
 | fr a'=>exact tmp _ b e
 | nw o=>exact tmp _ b e
theorem Bd.open{r:Rr}{v:V}{a:A}(b:Bd c σ H ρ (bJ r v τ) (bG r θ))(hv:VR σ r v)(e:res ρ r=some a):∃L,BdL c σ H ρ τ θ L/\It3 c H L v a:=by
 obtain⟨L,b⟩:=b
 obtain⟨L',_,h⟩:=b.open hv e
 exact⟨L',h⟩
theorem Bd.rL{r r':Rr}{v v':V}{a a':A}(b:Bd c σ H ρ (bJ r' v' (bJ r v τ)) (bG r' (bG r θ)))(hv:VR σ r v)(hv':VR σ r' v')(e:res ρ r=some a)(e':res ρ r'=some a'):∃L,BdL c σ H ρ τ θ L/\It3 c H L v a/\It3 c H L v' a':=by
 obtain⟨L,b⟩:=b
 obtain⟨L1,s1,b1,i1⟩:=b.open hv' e'
 obtain⟨L2,s2,b2,i2⟩:=b1.open hv e
 exact⟨L2,b2,i2,i1.mono s2⟩
end
end M
namespace M
open PySem L2
section
variable{X:Cx}{E:XK}
noncomputable def ae(i:Nat):Mi Rr:=λρ=>match ρ[i]? with
 | some (.fr a)=>some (.ok (.fr a),ρ)
 | some (.lv _)=>some (.ok (.rf i),ρ)
 | some (.pv _)=>some (.ok (.rf i),ρ)
 | _=>none
noncomputable def ai(i:Nat):Mi Rr:=λρ=>match ρ[i]? with
 | some (.fr a)=>some (.ok (.fr a),ρ)
 | some (.lv o)=>some (.ok (.fr o.a),ρ.set i (.fr o.a))
 | _=>none
noncomputable def mC(a:A):Mi Rr:=λρ=>some (.ok (.fr a),ρ)
theorem ES{i:Nat}{x:Str}{pos:Pos}(hN:X.N[i]?=some x)(hv:Vis X.env.scope x)(hd:NDb x)(hcd:NCd x):JE X E (.Name x pos) (ae i) :=
 ⟨PE.weaken (dk hN hv hd hcd) λσ H Q h=>by
  obtain⟨c,ρ,τ,θ,o,ρ',ek,b,em,q⟩:=h
  unfold ae at em
  cases es:ρ[i]? with
  | none=>simp only[es] at em;cases em
  | some s =>
   cases s with
   | un=>simp only[es] at em;cases em
   | fr a =>
    simp only[es] at em;cases em
    obtain⟨v,h1,h2⟩:=b.load es
    exact⟨v,h1,q v H trivial h2⟩
   | lv o =>
    simp only[es] at em;cases em
    obtain⟨v,h1,h2⟩:=b.slot es rfl
    exact⟨v,h1,q v H h1 b⟩
   | pv o =>
    simp only[es] at em;cases em
    obtain⟨v,h1,h2⟩:=b.slot es rfl
    exact⟨v,h1,q v H h1 b⟩⟩
theorem A8{i:Nat}{x:Str}{pos:Pos}(hN:X.N[i]?=some x)(hv:Vis X.env.scope x)(hd:NDb x)(hcd:NCd x):JE X E (.Name x pos) (ai i) :=
 ⟨PE.weaken (dk hN hv hd hcd) λσ H Q h=>by
  obtain⟨c,ρ,τ,θ,o,ρ',ek,b,em,q⟩:=h
  unfold ai at em
  cases es:ρ[i]? with
  | none=>simp only[es] at em;cases em
  | some s =>
   cases s with
   | un=>simp only[es] at em;cases em
   | fr a =>
    simp only[es] at em;cases em
    obtain⟨v,h1,h2⟩:=b.load es
    exact⟨v,h1,q v H trivial h2⟩
   | lv o =>
    simp only[es] at em;cases em
    have b2:=b.sC es
    have hi:i<ρ.length:=(LI.mp es).1
    obtain⟨v,h1,h2⟩:=b2.load (i:=i) (a:=o.a) (Mx hi)
    exact⟨v,h1,q v H trivial h2⟩
   | pv o=>simp only[es] at em;cases em⟩
theorem v8{e:Expr}{v:V}{a:A}(h:PE X e (tC v))(r:∀G,RA (kx X) G v a):JE X E e (mC a):=⟨PE.weaken h λσ H Q h=>by
  obtain⟨c,ρ,τ,θ,o,ρ',ek,b,em,q⟩:=h
  cases em
  exact q v H trivial (b.push (by rw[ek];exact r))⟩
theorem En{i j pos}:JE X E (.Constant (.int i) j pos) (mC (.int i)):=v8 Di λ_=>.int _
theorem Kf{b j pos}:JE X E (.Constant (.bool b) j pos) (mC (.bl b)):=v8 HI λ_=>.bl _
theorem DV{j pos}:JE X E (.Constant .none j pos) (mC .non):=v8 EK λ_=>.non
theorem Ej{x j pos}:JE X E (.Constant (.str x) j pos) (mC (.str x)):=v8 yC λ_=>.str _
theorem Ai{x:Str}{v:V}{u:Value}{pos:Pos}{a:A}(hg:Gl X x)(hm:X.mg x=some u)(r:RelV v u)(ra:∀G,RA (kx X) G v a)(hd:NDb x):JE X E (.Name x pos) (mC a):=v8 (Bk hg hm r hd) ra
noncomputable def mOp(f:A->A->Option Rr)(ma mb:Mi Rr):Mi Rr:=ax ma λx=>ax mb λy=>λρ=>match res ρ x,res ρ y with
 | some a,some b=>match f a b with
  | some r=>some (.ok r,ρ)
  | none=>none
 | _,_=>none
def OpS(K:Kx)(r:R2)(f:A->A->Option Rr):Prop:=∀(c:Cn)(σ:St)(H:Hp)(ρ:List Sl)(τ:St)(θ:List Sl)(x y:Rr)(v w:V)(a b:A)(q:Rr)(Q:VK),c.toKx=K->VR σ x v->VR σ y w ->
 Bd c σ H ρ (bJ y w (bJ x v τ)) (bG y (bG x θ))->res ρ x=some a->res ρ y=some b->f a b=some q->(∀u H',VR σ q u->Bd c σ H' ρ (bJ q u τ) (bG q θ)->Q u H')->r v w H Q
theorem bind_some{α β:Type}{m:Mi α}{f:α->Mi β}{ρ:List Sl}{o:Except Str β}{ρ':List Sl}(h:ax m f ρ=some (o,ρ')):(∃x ρ1,m ρ=some (.ok x,ρ1)/\f x ρ1=some (o,ρ'))\/∃e,m ρ=some (.error e,ρ')/\o=.error e:=by
 unfold ax at h
 cases e:m ρ with
 | none=>simp only[e] at h;cases h
 | some p =>
  obtain⟨r,ρ1⟩:=p
  cases r with
  | ok x=>simp only[e] at h;exact .inl ⟨x,ρ1,rfl,h⟩
  | error x=>simp only[e] at h;cases h;exact .inr ⟨x,rfl,rfl⟩
theorem aR{σ:St}{H:Hp}{c:Cn}{ρ ρ':List Sl}{τ:St}{θ:List Sl}{β:Type}{ma:Mi Rr}{f:Rr->Mi β}{o:Except Str β}{Q:VK}(ek:c.toKx=kx X)(b:Bd c σ H ρ τ θ)(em:ax ma f ρ=some (o,ρ'))
  (h1:∀x v ρ1 H1,VR σ x v->Bd c σ H1 ρ1 (bJ x v τ) (bG x θ)->f x ρ1=some (o,ρ')->Q v H1)
  (h2:∀e,o=.error e->∀C H,X.mg e=some (.ref C)->Bd c σ H ρ' τ θ->E (.ref C) none H):TEm (kx X) E ma σ H Q:=by
 rcases bind_some em with ⟨x,ρ1,e1,e2⟩|⟨e,e1,e2⟩
 ·exact⟨c,ρ,τ,θ,_,ρ1,ek,b,e1,λv H1 hv b1=>h1 x v ρ1 H1 hv b1 e2⟩
 ·exact⟨c,ρ,τ,θ,_,ρ',ek,b,e1,λC H1 hm b1=>h2 e e2 C H1 hm b1⟩
theorem fL{c:Cn}{σ:St}{ρ':List Sl}{τ:St}{θ:List Sl}{x:Rr}{v:V}{β:Type}{o:Except Str β}(h:∀e,o=.error e->∀C H,X.mg e=some (.ref C)->Bd c σ H ρ' τ θ->E (.ref C) none H) :
  ∀e,o=.error e->∀C H,X.mg e=some (.ref C)->Bd c σ H ρ' (bJ x v τ) (bG x θ)->E (.ref C) none H:=λe ee C H hm b=>h e ee C H hm b.drop
theorem aM{c:Cn}{σ:St}{ρ':List Sl}{τ:St}{θ:List Sl}{o:Except Str Rr}{Q:VK}(q:Ret (kx X) E c σ ρ' τ θ Q o):∀e,o=.error e->∀C H,X.mg e=some (.ref C)->Bd c σ H ρ' τ θ->E (.ref C) none H:=λe ee=>by subst ee;exact q
theorem iE{c:Cn}{σ:St}{ρ':List Sl}{τ:St}{θ:List Sl}{o:Except Str Bool}{Q:Bool->Hp->Prop}(q:HE (kx X) E c σ ρ' τ θ Q o):∀e,o=.error e->∀C H,X.mg e=some (.ref C)->Bd c σ H ρ' τ θ->E (.ref C) none H:=λe ee=>by subst ee;exact q
theorem xN{c:Cn}{σ:St}{ρ':List Sl}{τ:St}{θ:List Sl}{o:Except Str (List Rr)}{Q:List V->Hp->Prop}(q:Kc (kx X) E c σ ρ' τ θ Q o):∀e,o=.error e->∀C H,X.mg e=some (.ref C)->Bd c σ H ρ' τ θ->E (.ref C) none H:=λe ee=>by subst ee;exact q
theorem z8{f:A->A->Option Rr}{x y:Rr}{ρ ρ':List Sl}{o:Except Str Rr}(h:(match res ρ x,res ρ y with|some a,some b=>(match f a b with|some r=>some ((.ok r:Except Str Rr),ρ)|none=>none)|_,_=>none)=some (o,ρ')) :
  ∃a b r,res ρ x=some a/\res ρ y=some b/\f a b=some r/\o=.ok r/\ρ'=ρ:=by
 cases e1:res ρ x with
 | none=>simp only[e1] at h;cases h
 | some a =>
  cases e2:res ρ y with
  | none=>simp only[e1,e2] at h;cases h
  | some b =>
   simp only[e1,e2] at h
   cases e3:f a b with
   | none=>simp only[e3] at h;cases h
   | some r=>simp only[e3] at h;cases h;exact⟨a,b,r,rfl,rfl,e3,rfl,rfl⟩
theorem cY{r:R2}{f:A->A->Option Rr}{ma mb:Mi Rr}(hf:OpS (kx X) r f)(σ:St)(H:Hp)(Q:VK)(h:TEm (kx X) E (mOp f ma mb) σ H Q):tOp r (TEm (kx X) E ma) (TEm (kx X) E mb) σ H Q:=by
 obtain⟨c,ρ,τ,θ,o,ρ',ek,b,em,q⟩:=h
 refine aR ek b em (λx v ρ1 H1 hv b1 em1=>?_) (aM q)
 refine aR ek b1 em1 (λy w ρ2 H2 hw b2 em2=>?_) (fL (aM q))
 obtain⟨a,d,r,e1,e2,e3,rfl,rfl⟩:=z8 em2
 exact hf c σ H2 _ τ θ x y v w a d r Q ek hv hw b2 e1 e2 e3 q
theorem mE{op:Operator}{r:R2}{f:A->A->Option Rr}{a b:Expr}{ma mb:Mi Rr}{pos:Pos}(ho:OpR X (binaryOp op) r)(hf:OpS (kx X) r f)(ha:JE X E a ma)(hb:JE X E b mb):JE X E (.BinOp a op b pos) (mOp f ma mb) :=
 ⟨PE.weaken (Je ho ha.p hb.p) (cY hf)⟩
theorem cD{op:CmpOp}{r:R2}{f:A->A->Option Rr}{a b:Expr}{ma mb:Mi Rr}{pos:Pos}(ho:OpR X (compareOp op) r)(hf:OpS (kx X) r f)(ha:JE X E a ma)(hb:JE X E b mb)(hm:behindInMarks op b=false):JE X E (.Compare a [op] [b] pos) (mOp f ma mb) :=
 ⟨PE.weaken (zR ho ha.p hb.p hm) (cY hf)⟩
noncomputable def asB:Rr->Option Bool
 | .fr (.bl b)=>some b
 | _=>none
noncomputable def ah(m:Mi Rr):Mi Bool:=ax m λr ρ=>match asB r with
 | some b=>some (.ok b,ρ)
 | none=>none
theorem cT{m:Mi Rr}(σ:St)(H:Hp)(Q:Bool->Hp->Prop)(h:TTm (kx X) E (ah m) σ H Q):TEm (kx X) E m σ H λx H'=>∃k,x=.bl k/\Q k H':=by
 obtain⟨c,ρ,τ,θ,o,ρ',ek,b,em,q⟩:=h
 refine aR ek b em (λx v ρ1 H1 hv b1 em1=>?_) (iE q)
 cases x with
 | rf i=>cases em1
 | nw o=>cases em1
 | fr a =>
  cases a with
  | bl k =>
   cases em1
   have r:=Bd.top b1 (a:=.bl k) rfl
   cases r
   exact⟨k,rfl,q H1 b1.pop⟩
  | _=>cases em1
theorem cz{op:CmpOp}{r:R2}{f:A->A->Option Rr}{a b:Expr}{ma mb:Mi Rr}{pos:Pos}(ho:OpR X (compareOp op) r)(hf:OpS (kx X) r f)(ha:JE X E a ma)(hb:JE X E b mb)(hm:behindInMarks op b=false):JT X E (.Compare a [op] [b] pos) (ah (mOp f ma mb)) :=
 ⟨PT.weaken (Bv ho ha.p hb.p hm) λσ H Q h=>cY hf σ H _ (cT σ H Q h)⟩
theorem EF{e:Expr}{m:Mi Rr}(h:JE X E e m)(he:∀whole,isTrue e X.env whole=(do let v <- whole;standAt e.pos;holding [v] (truthy v)):=by intro _;rfl):JT X E e (ah m) :=
 ⟨PT.weaken (Gi h.p he) λσ H Q h=>cT σ H Q h⟩
noncomputable def hW(m n:Mi Bool):Mi Bool:=ax m λb=>if b then n else jh false
noncomputable def mOr(m n:Mi Bool):Mi Bool:=ax m λb=>if b then jh true else n
noncomputable def eQ(m:Mi Bool):Mi Bool:=ax m λb=>jh (!b)
theorem ik{σ:St}{H:Hp}{c:Cn}{ρ ρ':List Sl}{τ:St}{θ:List Sl}{β:Type}{m:Mi Bool}{f:Bool->Mi β}{o:Except Str β}{Q:Bool->Hp->Prop}(ek:c.toKx=kx X)(b:Bd c σ H ρ τ θ)(em:ax m f ρ=some (o,ρ'))
  (h1:∀k ρ1 H1,Bd c σ H1 ρ1 τ θ->f k ρ1=some (o,ρ')->Q k H1)
  (h2:∀e,o=.error e->∀C H,X.mg e=some (.ref C)->Bd c σ H ρ' τ θ->E (.ref C) none H):TTm (kx X) E m σ H Q:=by
 rcases bind_some em with ⟨x,ρ1,e1,e2⟩|⟨e,e1,e2⟩
 ·exact⟨c,ρ,τ,θ,_,ρ1,ek,b,e1,λH1 b1=>h1 x ρ1 H1 b1 e2⟩
 ·exact⟨c,ρ,τ,θ,_,ρ',ek,b,e1,λC H1 hm b1=>h2 e e2 C H1 hm b1⟩
theorem Dc{a:Expr}{m:Mi Bool}{pos:Pos}(h:JT X E a m):JT X E (.UnaryOp .Not a pos) (eQ m):=⟨PT.weaken (FA h.p) λσ H Q h=>by
 obtain⟨c,ρ,τ,θ,o,ρ',ek,b,em,q⟩:=h
 refine ik ek b em (λk ρ1 H1 b1 em1=>?_) (iE q)
 cases em1;exact q H1 b1⟩
theorem z6{a:Expr}{m:Mi Bool}{pos:Pos}(h:JT X E a m):JW X E (.BoolOp .And [a] pos) m:=⟨Bi h.p⟩
theorem DD{a:Expr}{m:Mi Bool}{pos:Pos}(h:JT X E a m):JW X E (.BoolOp .Or [a] pos) m:=⟨Dm h.p⟩
theorem DB{a b:Expr}{rest:List Expr}{m n:Mi Bool}{pos:Pos}(h:JT X E a m)(h':JW X E (.BoolOp .And (b::rest) pos) n):JW X E (.BoolOp .And (a::b::rest) pos) (hW m n):=⟨PW.weaken (Fg h.p h'.p) λσ H Q h=>by
 obtain⟨c,ρ,τ,θ,o,ρ',ek,b,em,q⟩:=h
 refine ik ek b em (λk ρ1 H1 b1 em1=>?_) (iE q)
 cases k with
 | true=>rw[if_pos rfl];exact⟨c,ρ1,τ,θ,o,ρ',ek,b1,em1,q⟩
 | false=>rw[if_neg (by decide)];cases em1;exact q H1 b1⟩
theorem Jo{a b:Expr}{rest:List Expr}{m n:Mi Bool}{pos:Pos}(h:JT X E a m)(h':JW X E (.BoolOp .Or (b::rest) pos) n):JW X E (.BoolOp .Or (a::b::rest) pos) (mOr m n):=⟨PW.weaken (JV h.p h'.p) λσ H Q h=>by
 obtain⟨c,ρ,τ,θ,o,ρ',ek,b,em,q⟩:=h
 refine ik ek b em (λk ρ1 H1 b1 em1=>?_) (iE q)
 cases k with
 | true=>rw[if_pos rfl];cases em1;exact q H1 b1
 | false=>rw[if_neg (by decide)];exact⟨c,ρ1,τ,θ,o,ρ',ek,b1,em1,q⟩⟩
theorem HH{e:Expr}{m:Mi Bool}(h:JW X E e m):JT X E e m:=⟨h.p.pt⟩
noncomputable def lR(m n:Mi Rr):Mi Rr:=ax (ah m) λb=>if b then n else mC (.bl false)
noncomputable def Ao(m n:Mi Rr):Mi Rr:=ax (ah m) λb=>if b then mC (.bl true) else n
noncomputable def kX(m:Mi Rr):Mi Rr:=ax (ah m) λb=>mC (.bl (!b))
theorem nT{σ:St}{H:Hp}{c:Cn}{ρ ρ':List Sl}{τ:St}{θ:List Sl}{β:Type}{m:Mi Rr}{f:Bool->Mi β}{o:Except Str β}{Q:Bool->Hp->Prop}(ek:c.toKx=kx X)(b:Bd c σ H ρ τ θ)(em:ax (ah m) f ρ=some (o,ρ'))
  (h1:∀k ρ1 H1,Bd c σ H1 ρ1 τ θ->f k ρ1=some (o,ρ')->Q k H1)
  (h2:∀e,o=.error e->∀C H,X.mg e=some (.ref C)->Bd c σ H ρ' τ θ->E (.ref C) none H):TEm (kx X) E m σ H λx H'=>∃k,x=.bl k/\Q k H' :=
 cT σ H Q (ik ek b em h1 h2)
theorem CL{op}{a:Expr}{m:Mi Rr}{pos:Pos}(h:JE X E a m):JE X E (.BoolOp op [a] pos) m:=⟨Ey h.p⟩
theorem GG{a b:Expr}{rest:List Expr}{m n:Mi Rr}{pos:Pos}(h:JE X E a m)(h':JE X E (.BoolOp .And (b::rest) pos) n):JE X E (.BoolOp .And (a::b::rest) pos) (lR m n):=⟨PE.weaken (Gf h.p h'.p) λσ H Q h=>by
 obtain⟨c,ρ,τ,θ,o,ρ',ek,b,em,q⟩:=h
 refine nT (Q:=λk H1=>if k=true then TEm (kx X) E n σ H1 Q else Q (.bl false) H1) ek b em (λk ρ1 H1 b1 em1=>?_) (aM q)
 cases k with
 | true=>rw[if_pos rfl];exact⟨c,ρ1,τ,θ,o,ρ',ek,b1,em1,q⟩
 | false=>rw[if_neg (by decide)];cases em1;exact q (.bl false) H1 trivial (b1.push λ_=>.bl _)⟩
theorem Jv{a b:Expr}{rest:List Expr}{m n:Mi Rr}{pos:Pos}(h:JE X E a m)(h':JE X E (.BoolOp .Or (b::rest) pos) n):JE X E (.BoolOp .Or (a::b::rest) pos) (Ao m n):=⟨PE.weaken (HU h.p h'.p) λσ H Q h=>by
 obtain⟨c,ρ,τ,θ,o,ρ',ek,b,em,q⟩:=h
 refine nT (Q:=λk H1=>if k=true then Q (.bl true) H1 else TEm (kx X) E n σ H1 Q) ek b em (λk ρ1 H1 b1 em1=>?_) (aM q)
 cases k with
 | true=>rw[if_pos rfl];cases em1;exact q (.bl true) H1 trivial (b1.push λ_=>.bl _)
 | false=>rw[if_neg (by decide)];exact⟨c,ρ1,τ,θ,o,ρ',ek,b1,em1,q⟩⟩
theorem Fj{a:Expr}{m:Mi Rr}{pos:Pos}(h:JE X E a m):JE X E (.UnaryOp .Not a pos) (kX m):=⟨PE.weaken (Es h.p) λσ H Q h=>by
 obtain⟨c,ρ,τ,θ,o,ρ',ek,b,em,q⟩:=h
 refine nT (Q:=λk H1=>Q (.bl (!k)) H1) ek b em (λk ρ1 H1 b1 em1=>?_) (aM q)
 cases em1;exact q (.bl (!k)) H1 trivial (b1.push λ_=>.bl _)⟩
noncomputable def mIf(t:Mi Bool)(m n:Mi Rr):Mi Rr:=ax t λb=>if b then m else n
theorem Jn{t a b:Expr}{mt:Mi Bool}{m n:Mi Rr}{pos:Pos}(ht:JT X E t mt)(ha:JE X E a m)(hb:JE X E b n):JE X E (.IfExp t a b pos) (mIf mt m n):=⟨PE.weaken (vy ht.p ha.p hb.p) λσ H Q h=>by
 obtain⟨c,ρ,τ,θ,o,ρ',ek,b,em,q⟩:=h
 refine ik ek b em (λk ρ1 H1 b1 em1=>?_) (aM q)
 cases k with
 | true=>rw[if_pos rfl];exact⟨c,ρ1,τ,θ,o,ρ',ek,b1,em1,q⟩
 | false=>rw[if_neg (by decide)];exact⟨c,ρ1,τ,θ,o,ρ',ek,b1,em1,q⟩⟩
noncomputable def ag:Mi (List Rr):=jh []
noncomputable def aa(m:Mi Rr)(n:Mi (List Rr)):Mi (List Rr):=ax m λr=>ax n λrs=>jh (r::rs)
theorem wX:JA X E [] ag:=⟨PA.weaken eC λσ H Q h=>by
 obtain⟨c,ρ,τ,θ,o,ρ',ek,b,em,q⟩:=h
 cases em;exact q [] H trivial b⟩
theorem sd{e:Expr}{es:List Expr}{m:Mi Rr}{n:Mi (List Rr)}(h:JE X E e m)(h':JA X E es n)(hs:starEach (e::es) X.env=(false,eval e X.env)::starEach es X.env:=by rfl):JA X E (e::es) (aa m n):=⟨PA.weaken (bX h.p h'.p hs) λσ H Q h=>by
 obtain⟨c,ρ,τ,θ,o,ρ',ek,b,em,q⟩:=h
 refine aR ek b em (λx v ρ1 H1 hv b1 em1=>?_) (xN q)
 rcases bind_some em1 with ⟨rs,ρ2,e1,e2⟩|⟨e,e1,e2⟩
 ·cases e2
  exact⟨c,ρ1,_,_,_,ρ',ek,b1,e1,λvs H2 hvs b2=>q (v::vs) H2 ⟨hv,hvs⟩ b2⟩
 ·subst e2
  exact⟨c,ρ1,_,_,_,ρ',ek,b1,e1,λC H2 hm b2=>q C H2 hm b2.drop⟩⟩
end
end M
namespace M
open PySem L2
section
variable{c:Cn}{σ:St}{H:Hp}{ρ:List Sl}{τ:St}{θ:List Sl}
theorem xi{α:Type}{l:List α}{i:Nat}{x:α}(h:l[i]?=some x):l.set i x=l:=by
 apply Oe;intro j
 by_cases z:j=i
 ·subst z;rw[Mx (LI.mp h).1,h]
 ·rw[MN (Nd z)]
theorem F3{c:Cn}{H:Hp}{L L':List Addr}(h:∀a,a∈L↔a∈L'):c.g H L=c.g H L':=by
 funext a
 by_cases z:a∈L\/a∈c.Hd
 ·rw[jz z,jz (by rwa[<- h a])]
 ·rw[cc (λy=>z (.inl y)) (λy=>z (.inr y)),cc (λy=>z (.inl ((h a).mpr y))) (λy=>z (.inr y))]
theorem BdL.perm{L L':List Addr}(b:BdL c σ H ρ τ θ L){τ':St}{θ':List Sl}{ρ':List Sl}(pm:L'.Perm L)(lt:τ'.length=θ'.length)(r:ay c.toKx (c.g H L) H (τ'++σ) (θ'++ρ') L')(kp:eU c.σ0 σ ρ'):BdL c σ H ρ' τ' θ' L' :=
 ⟨(pm.nodup_iff).mpr b.nd,by rw[F3 (L':=L) λa=>pm.mem_iff];exact r,λp hp=>b.own p (pm.mem_iff.mp hp),b.fr,kp,lt,b.hd⟩
theorem Bd.Ht{xs:St}{ss:List Sl}{v:V}{o:LO}(e:xs.length=ss.length)(b:Bd c σ H ρ (xs++some v::τ) (ss++.lv o::θ)):Bd c σ H ρ (xs++some v::τ) (ss++.fr o.a::θ):=by
 obtain⟨L,b⟩:=b
 have r:ay c.toKx (c.g H L) H (xs++(some v::(τ++σ))) (ss++(.lv o::(θ++ρ))) L:=by have:=b.rel;simpa[LQ] using this
 obtain⟨L1,L2,e1,r1,r2⟩:=ay.split e r
 cases r2 with
 | cons h r3 =>
  rename_i La Lb
  cases h with
  | lv h =>
   rename_i p
   have nd:=b.nd
   rw[e1] at nd
   have hp:p∉L1++Lb:=by
    obtain⟨n1,n2,n3⟩:=L6.mp nd
    obtain⟨m1,m2⟩:=Mp.mp n2
    intro z
    rcases LS.mp z with z|z
    ·exact n3 p z p (by simp) rfl
    ·exact m1 z
   have sub:∀a,a∈L1++Lb->a∈L:=λa ha=>by rw[e1];simp at ha ⊢;rcases ha with z|z<;>simp[z]
   have sm:Sq (c.g H L) (c.g H (L1++Lb)):=cP sub
   have hin:p∈L:=by rw[e1];simp
   refine⟨L1++Lb,?_,?_,λq hq=>b.own q (sub q hq),b.fr,b.kp,by have:=b.lt;simp at this ⊢;omega,b.hd⟩
   ·obtain⟨n1,n2,n3⟩:=L6.mp nd
    exact L6.mpr ⟨n1,(Mp.mp n2).2,λa ha b' hb=>n3 a ha b' (LX _ hb)⟩
   ·have:=(r1.sm sm (λ_ _ _ e=>e)).app (ay.cons (L:=[]) (.fr (h.a' sm λu e=>by rw[cc hp (b.nhd hin)];exact e)) (r3.sm sm (λ_ _ _ e=>e)))
    simpa[LQ] using this
theorem Bd.Gw{xs:St}{ss:List Sl}{v:V}{a:A}{i:Nat}(e:xs.length=ss.length)(b:Bd c σ H ρ (xs++τ) (ss++θ))(hv:σ[i]?=some (some v))(hs:ρ[i]?=some (.fr a)):Bd c σ H ρ (xs++some v::τ) (ss++.fr a::θ):=by
 obtain⟨L,b⟩:=b
 obtain⟨M1,M2,_,_,r2⟩:=ay.split b.lt b.rel
 obtain⟨x,_,_,_,hx,hsl,_⟩:=r2.at hs
 rw[hv] at hx;cases hx
 cases hsl with
 | fr h =>
  have r:ay c.toKx (c.g H L) H (xs++(τ++σ)) (ss++(θ++ρ)) L:=by have:=b.rel;simpa[LQ] using this
  obtain⟨L1,L2,e1,r1,r2⟩:=ay.split e r
  refine⟨L,b.nd,?_,b.own,b.fr,b.kp,by have:=b.lt;simp at this ⊢;omega,b.hd⟩
  have:=r1.app (ay.cons (L:=[]) (.fr h) r2)
  rw[e1] at this ⊢
  simpa[LQ] using this
theorem uT(L1 L2 M1 M3:List Addr)(p:Addr):(L1++p::(L2++(M1++M3))).Perm (L1++(L2++(M1++p::M3))):=by
 rw[O0];intro a;simp only[Pl,Rf];omega
theorem Bd.DN{xs:St}{ss:List Sl}{v:V}{o:LO}{i:Nat}{s:Sl}(e:xs.length=ss.length)(b:Bd c σ H ρ (xs++τ) (ss++θ))(hv:σ[i]?=some (some v))(hs:ρ[i]?=some s)(hk:s=.lv o\/s=.pv o) :
  Bd c σ H (ρ.set i .un) (xs++some v::τ) (ss++.lv o::θ):=by
 obtain⟨L,b⟩:=b
 have r:ay c.toKx (c.g H L) H (xs++(τ++σ)) (ss++(θ++ρ)) L:=by have:=b.rel;simpa[LQ] using this
 obtain⟨L1,L2,e1,r1,r2⟩:=ay.split e r
 obtain⟨N1,N2,e2,r3,r4⟩:=ay.split (by have:=b.lt;simp at this;omega) r2
 obtain⟨x,M1,M2,M3,hx,hsl,e3,ins⟩:=r4.at hs
 rw[hv] at hx;cases hx
 have fin:∀p,v=.ref p->M2=[p]->LR c.toKx (c.g H L) H p o->Bd c σ H (ρ.set i .un) (xs++some v::τ) (ss++.lv o::θ):=by
  intro p ev em h
  subst ev em
  have r5:=ins (y:=some (.ref p)) (t:=.un) (L':=[]) (Sq.refl _) (λ_ _ _ e=>e) (.un _)
  rw[xi hv] at r5
  have r6:=r1.app (ay.cons (SlR.lv h) (r3.app r5))
  have pm:(L1++([p]++(N1++(M1++[]++M3)))).Perm L:=by
   rw[e1,e2,e3]
   simpa using uT L1 N1 M1 M3 p
  exact⟨_,b.perm pm (by have:=b.lt;simp at this ⊢;omega) (by simpa[LQ] using r6) (b.kp.Bl (λo z=>by cases z))⟩
 rcases hk with rfl|rfl
 ·cases hsl with|lv h=>exact fin _ rfl rfl h
 ·cases hsl with|pv h=>exact fin _ rfl rfl h
theorem Bd.putBack{v:V}{o:LO}{i:Nat}{t:Sl}(b:Bd c σ H ρ (some v::τ) (.lv o::θ))(hv:σ[i]?=some (some v))(hs:ρ[i]?=some .un)(hk:t=.lv o\/(t=.pv o/\σ[i]?=c.σ0[i]?)):Bd c σ H (ρ.set i t) τ θ:=by
 obtain⟨L,b⟩:=b
 have r:ay c.toKx (c.g H L) H (some v::(τ++σ)) (.lv o::(θ++ρ)) L:=b.rel
 cases r with
 | cons h r =>
  rename_i L0 L'
  obtain⟨L1,L2,e1,r1,r2⟩:=ay.split (by have:=b.lt;simpa using this) r
  obtain⟨x,M1,M2,M3,hx,hsl,e3,ins⟩:=r2.at hs
  cases hsl with
  | un =>
   cases h with
   | lv h =>
    rename_i p
    have fin:SlR c.toKx (c.g H ([p]++L')) H (some (.ref p)) t [p]->eU c.σ0 σ (ρ.set i t)->Bd c σ H (ρ.set i t) τ θ:=λh kp=>by
     have r5:=ins (Sq.refl _) (λ_ _ _ e=>e) h
     rw[xi hv] at r5
     have pm:(L1++(M1++[p]++M3)).Perm ([p]++L'):=by
      rw[e1,e3];rw[O0];intro a;simp only[Pl,Rf,List.count_nil];omega
     exact⟨_,b.perm pm (by have:=b.lt;simpa using this) (r1.app r5) kp⟩
    rcases hk with rfl|⟨rfl,hk⟩
    ·exact fin (.lv h) (b.kp.Bl (λ_ z=>by cases z))
    ·refine fin (.pv h) λj o' q=>?_
     by_cases z:j=i
     ·subst z;exact hk
     ·rw[MN (Nd z)] at q;exact b.kp j o' q
theorem cW:∀(rs:List Rr)(vs:List V)(τ:St),cG rs vs τ=cG rs vs []++τ
 | [],_,τ=>rfl
 | r::rs,[],τ=>rfl
 | r::rs,v::vs,τ=>by
  show cG rs vs (bJ r v τ)=cG rs vs (bJ r v [])++τ
  rw[cW rs vs (bJ r v τ),cW rs vs (bJ r v []),LQ]
  congr 1
  cases r<;>rfl
theorem cQ:∀(rs:List Rr)(θ:List Sl),cF rs θ=cF rs []++θ
 | [],θ=>rfl
 | r::rs,θ=>by
  show cF rs (bG r θ)=cF rs (bG r [])++θ
  rw[cQ rs (bG r θ),cQ rs (bG r []),LQ]
  congr 1
  cases r<;>rfl
theorem VRs.len:∀{rs:List Rr}{vs:List V},VRs σ rs vs->rs.length=vs.length
 | [],[],_=>rfl
 | _::rs,_::vs,h=>by rw[LL,LL,VRs.len h.2]
 | [],_::_,h=>h.elim
 | _::_,[],h=>h.elim
theorem nj:∀(rs:List Rr)(vs:List V),rs.length=vs.length->(cG rs vs []).length=(cF rs []).length
 | [],[],_=>rfl
 | r::rs,v::vs,h=>by
  show (cG rs vs (bJ r v [])).length=(cF rs (bG r [])).length
  rw[cW,cQ,L4,L4,nj rs vs (by simpa using h)]
  congr 1
  cases r<;>rfl
 | [],_::_,h=>by simp at h
 | _::_,[],h=>by simp at h
noncomputable def aQ:Rr->List Sl->Option (A×List Sl)
 | .fr a,ρ=>some (a,ρ)
 | .nw o,ρ=>some (o.a,ρ)
 | .rf i,ρ=>match ρ[i]? with
  | some (.lv o)=>some (o.a,ρ.set i (.fr o.a))
  | some (.fr a)=>some (a,ρ)
  | _=>none
noncomputable def dP:List Rr->List Sl->Option (List A×List Sl)
 | [],ρ=>some ([],ρ)
 | r::rs,ρ=>match aQ r ρ with
  | some (a,ρ1)=>match dP rs ρ1 with
   | some (as,ρ2)=>some (a::as,ρ2)
   | none=>none
  | none=>none
theorem Bd.aQ{r:Rr}{v:V}{a:A}{ρ':List Sl}{xs:St}{ss:List Sl}(e:xs.length=ss.length)(b:Bd c σ H ρ (xs++bJ r v τ) (ss++bG r θ))(hv:VR σ r v)(h:aQ r ρ=some (a,ρ')):Bd c σ H ρ' (xs++some v::τ) (ss++.fr a::θ):=by
 cases r with
 | fr a'=>cases h;exact b
 | nw o=>cases h;exact Bd.Ht e b
 | rf i =>
  unfold M.aQ at h
  cases es:ρ[i]? with
  | none=>simp only[es] at h;cases h
  | some s =>
   cases s with
   | un=>simp only[es] at h;cases h
   | pv o=>simp only[es] at h;cases h
   | fr a'=>simp only[es] at h;cases h;exact Bd.Gw e b hv es
   | lv o =>
    simp only[es] at h;cases h
    have b2:=Bd.sC b es
    exact Bd.Gw e b2 hv (Mx (LI.mp es).1)
theorem tS{r:Rr}{rs:List Rr}{ρ ρ':List Sl}{as:List A}(h:dP (r::rs) ρ=some (as,ρ')):∃a as' ρ1,aQ r ρ=some (a,ρ1)/\dP rs ρ1=some (as',ρ')/\as=a::as':=by
 unfold dP at h
 cases e1:aQ r ρ with
 | none=>simp only[e1] at h;cases h
 | some p =>
  obtain⟨a,ρ1⟩:=p
  simp only[e1] at h
  cases e2:dP rs ρ1 with
  | none=>simp only[e2] at h;cases h
  | some q=>obtain⟨as',ρ2⟩:=q;simp only[e2] at h;cases h;exact⟨a,as',ρ1,rfl,e2,rfl⟩
theorem Bd.dP:∀{rs:List Rr}{vs:List V}{as:List A}{ρ ρ':List Sl}{τ:St}{θ:List Sl},VRs σ rs vs->Bd c σ H ρ (cG rs vs τ) (cF rs θ)->dP rs ρ=some (as,ρ')->Bd c σ H ρ' (vs.reverse.map some++τ) (as.reverse.map Sl.fr++θ)/\vs.length=as.length
 | [],[],_,_,_,_,_,_,b,h=>by cases h;exact⟨b,rfl⟩
 | r::rs,v::vs,_,ρ,ρ',τ,θ,hv,b,h=>by
  obtain⟨a,as,ρ1,e1,e2,rfl⟩:=tS h
  have b:Bd c σ H ρ (cG rs vs (bJ r v τ)) (cF rs (bG r θ)):=b
  rw[cW,cQ] at b
  have b1:=Bd.aQ (nj rs vs (VRs.len hv.2)) b hv.1 e1
  rw [← cW rs vs (some v :: τ),← cQ rs (.fr a :: θ)] at b1
  obtain ⟨b2,e3⟩:=Bd.dP hv.2 b1 e2
  exact ⟨by simpa using b2,by simp [e3]⟩
 | [],_ :: _,_,_,_,_,_,h,_,_=>h.elim
 | _ :: _,[],_,_,_,_,_,h,_,_=>h.elim
end
section
variable{X:Cx}{E:XK}
theorem rP{σ:St}{H:Hp}{c:Cn}{ρ ρ':List Sl}{τ:St}{θ:List Sl}{β:Type}{m:Mi (List Rr)}{f:List Rr->Mi β}{o:Except Str β}{Q:List V->Hp->Prop}(ek:c.toKx=kx X)(b:Bd c σ H ρ τ θ)(em:ax m f ρ=some (o,ρ'))
  (h1:∀rs vs ρ1 H1,VRs σ rs vs->Bd c σ H1 ρ1 (cG rs vs τ) (cF rs θ)->f rs ρ1=some (o,ρ')->Q vs H1)
  (h2:∀e,o=.error e->∀C H,X.mg e=some (.ref C)->Bd c σ H ρ' τ θ->E (.ref C) none H):TAm (kx X) E m σ H Q:=by
 rcases bind_some em with ⟨x,ρ1,e1,e2⟩|⟨e,e1,e2⟩
 ·exact⟨c,ρ,τ,θ,_,ρ1,ek,b,e1,λvs H1 hv b1=>h1 x vs ρ1 H1 hv b1 e2⟩
 ·exact⟨c,ρ,τ,θ,_,ρ',ek,b,e1,λC H1 hm b1=>h2 e e2 C H1 hm b1⟩
noncomputable def bI(m:Mi (List Rr)):Mi Rr:=ax m λrs ρ=>match dP rs ρ with
 | some (as,ρ')=>if as.length<=1000 then some (.ok (.fr (.tup as)),ρ') else none
 | none=>none
noncomputable def bV(m:Mi (List Rr)):Mi Rr:=ax m λrs ρ=>match dP rs ρ with
 | some (as,ρ')=>if as.length<=1000 then some (.ok (.nw (.lst as)),ρ') else none
 | none=>none
theorem n5{k:Kx}{vs:List V}{as:List A}:∀G,RAs k G vs.reverse as.reverse->RAs k G vs as:=λG h=>by have:=h.rev;simpa using this
theorem pS:1000<=sizeLine:=by rw[sizeLine_eq];decide
theorem ET{es:List Expr}{m:Mi (List Rr)}{x1 pos}(h:JA X E es m):JE X E (.Tuple es x1 pos) (bI m):=⟨PE.weaken (EE h.p) λσ H Q h=>by
 obtain⟨c,ρ,τ,θ,o,ρ',ek,b,em,q⟩:=h
 refine rP ek b em (λrs vs ρ1 H1 hv b1 em1=>?_) (aM q)
 cases e1:dP rs ρ1 with
 | none=>simp only[e1] at em1;cases em1
 | some p =>
  obtain⟨as,ρ2⟩:=p
  simp only[e1] at em1
  obtain⟨b2,e2⟩:=Bd.dP hv b1 e1
  split at em1
  ·rename_i hl
   cases em1
   exact⟨by have:=pS;omega,λp hp=>q (.ref p) _ trivial (Bd.FL b2 (by simp[e2]) hp vs as n5)⟩
  ·cases em1⟩
theorem C8{es:List Expr}{m:Mi (List Rr)}{pos}(h:JA X E es m):JE X E (.List es pos) (bV m):=⟨PE.weaken (Ge h.p) λσ H Q h=>by
 obtain⟨c,ρ,τ,θ,o,ρ',ek,b,em,q⟩:=h
 refine rP ek b em (λrs vs ρ1 H1 hv b1 em1=>?_) (aM q)
 cases e1:dP rs ρ1 with
 | none=>simp only[e1] at em1;cases em1
 | some p =>
  obtain⟨as,ρ2⟩:=p
  simp only[e1] at em1
  obtain⟨b2,e2⟩:=Bd.dP hv b1 e1
  split at em1
  ·rename_i hl
   cases em1
   exact⟨by have:=pS;omega,λp hp=>q (.ref p) _ trivial (Bd.qI b2 (by simp[e2]) hp vs as n5)⟩
  ·cases em1⟩
end
end M
namespace M
open PySem L2
inductive Fl where
 | nx|rt (s:Sl)|bk|ct|ex (c:Str)
noncomputable abbrev Ms:=List Sl->Option (Fl×List Sl)
noncomputable def aT:Nat->List Sl->List Sl
 | 0,_=>[]
 | n+1,[]=>.un::aT n []
 | n+1,.pv o::ρ=>.pv o::aT n ρ
 | n+1,_::ρ=>.un::aT n ρ
noncomputable def SpM(K:Kx)(n:Nat)(m:Ms):Sp:=λvs H Q E=>vs.length=n/\∃(c:Cn) (ρ:List Sl) (f:Fl) (ρ':List Sl),c.toKx=K/\c.σ0=vs.map some/\c.H0=H/\BdL c (vs.map some) H ρ [] [] c.Lp/\m ρ=some (f,ρ') /\
  (match f with
   | .rt s=>∀v H',(∀o,s≠.pv o)->Bd c (vs.map some) H' (aT vs.length ρ') [some v] [s]->Q v H'
   | .ex x=>∀C H',K.mg x=some (.ref C)->Bd c (vs.map some) H' (aT vs.length ρ') [] []->E (.ref C) none H'
   | _=>False)
section
variable{k:Kx}{G H:Hp}
theorem ay.back:∀{σ0 σ:St}{ρ:List Sl}{L:List Addr},ay k G H σ ρ L->(∀(i:Nat)(o:LO),ρ[i]?=some (.pv o)->i<σ0.length->σ[i]?=σ0[i]?)->∃L',L'.Sublist L/\ay k G H σ0 (aT σ0.length ρ) L'
 | [],_,_,_,_,_=>⟨[],List.nil_sublist _,.nil⟩
 | x::σ0,_,_,_,.nil,h=>by
  obtain⟨L',s,r⟩:=ay.back (σ0:=σ0) (σ:=[]) (ρ:=[]) .nil (λi o e=>by simp at e)
  exact⟨L',s,ay.cons (L:=[]) (.un x) r⟩
 | x::σ0,_,_,_,.cons (x:=y) (s:=s) (ρ:=ρ1) (L:=L1) (L':=L2) hs r,h=>by
  obtain⟨L',sl,r'⟩:=ay.back (σ0:=σ0) r (λi o e hi=>by have:=h (i+1) o e (by simpa using hi);simpa using this)
  have fin:aT (x::σ0).length (s::ρ1)=.un::aT σ0.length ρ1->∃L',L'.Sublist (L1++L2)/\ay k G H (x::σ0) (aT (x::σ0).length (s::ρ1)) L':=λe=>by
   rw[e]
   exact⟨L',sl.trans (P4 _ _),ay.cons (L:=[]) (.un x) r'⟩
  cases s with
  | un=>exact fin rfl
  | fr a=>exact fin rfl
  | lv o=>exact fin rfl
  | pv o =>
   have e:=h 0 o rfl (by simp)
   have e:y=x:=by simpa using e
   subst e
   exact⟨L1++L',Ot (OL _) sl,ay.cons hs r'⟩
end
section
variable{c:Cn}{σ:St}{H:Hp}{ρ:List Sl}{τ:St}{θ:List Sl}
theorem Bd.back(b:Bd c σ H ρ τ θ):Bd c c.σ0 H (aT c.σ0.length ρ) τ θ:=by
 obtain⟨L,b⟩:=b
 obtain⟨L1,L2,e1,r1,r2⟩:=ay.split b.lt b.rel
 obtain⟨L',sl,r⟩:=r2.back (σ0:=c.σ0) (λi o e _=>b.kp i o e)
 have sl2:(L1++L').Sublist L:=by rw[e1];exact Ot (OL _) sl
 have sm:Sq (c.g H L) (c.g H (L1++L')):=cP λa ha=>sl2.subset ha
 exact⟨L1++L',b.nd.sublist sl2,(r1.app r).sm sm (λ_ _ _ e=>e),λp hp=>b.own p (sl2.subset hp),b.fr,λi o _=>rfl,b.lt,b.hd⟩
noncomputable def take1:Rr->List Sl->Option (Sl×List Sl)
 | .fr a,ρ=>some (.fr a,ρ)
 | .nw o,ρ=>some (.fr o.a,ρ)
 | .rf i,ρ=>match ρ[i]? with
  | some (.lv o)=>some (.lv o,ρ.set i .un)
  | some (.pv o)=>some (.lv o,ρ.set i .un)
  | some (.fr a)=>some (.fr a,ρ)
  | _=>none
noncomputable def cu:List Rr->List Sl->Option (List Sl×List Sl)
 | [],ρ=>some ([],ρ)
 | r::rs,ρ=>match take1 r ρ with
  | some (a,ρ1)=>match cu rs ρ1 with
   | some (as,ρ2)=>some (a::as,ρ2)
   | none=>none
  | none=>none
noncomputable def toP:Sl->Sl
 | .lv o=>.pv o
 | s=>s
theorem p6{r:Rr}{rs:List Rr}{ρ ρ':List Sl}{as:List Sl}(h:cu (r::rs) ρ=some (as,ρ')):∃a as' ρ1,take1 r ρ=some (a,ρ1)/\cu rs ρ1=some (as',ρ')/\as=a::as':=by
 unfold cu at h
 cases e1:take1 r ρ with
 | none=>simp only[e1] at h;cases h
 | some p =>
  obtain⟨a,ρ1⟩:=p
  simp only[e1] at h
  cases e2:cu rs ρ1 with
  | none=>simp only[e2] at h;cases h
  | some q=>obtain⟨as',ρ2⟩:=q;simp only[e2] at h;cases h;exact⟨a,as',ρ1,rfl,e2,rfl⟩
theorem Bd.take1{r:Rr}{v:V}{a:Sl}{ρ':List Sl}{xs:St}{ss:List Sl}(e:xs.length=ss.length)(b:Bd c σ H ρ (xs++bJ r v τ) (ss++bG r θ))(hv:VR σ r v)(h:take1 r ρ=some (a,ρ')):Bd c σ H ρ' (xs++some v::τ) (ss++a::θ):=by
 cases r with
 | fr a'=>cases h;exact b
 | nw o=>cases h;exact Bd.Ht e b
 | rf i =>
  unfold M.take1 at h
  cases es:ρ[i]? with
  | none=>simp only[es] at h;cases h
  | some s =>
   cases s with
   | un=>simp only[es] at h;cases h
   | fr a'=>simp only[es] at h;cases h;exact Bd.Gw e b hv es
   | lv o=>simp only[es] at h;cases h;exact Bd.DN e b hv es (.inl rfl)
   | pv o=>simp only[es] at h;cases h;exact Bd.DN e b hv es (.inr rfl)
theorem Bd.cu:∀{rs:List Rr}{vs:List V}{as:List Sl}{ρ ρ':List Sl}{τ:St}{θ:List Sl},VRs σ rs vs->Bd c σ H ρ (cG rs vs τ) (cF rs θ)->cu rs ρ=some (as,ρ')->Bd c σ H ρ' (vs.reverse.map some++τ) (as.reverse++θ)/\vs.length=as.length
 | [],[],_,_,_,_,_,_,b,h=>by cases h;exact⟨b,rfl⟩
 | r::rs,v::vs,_,ρ,ρ',τ,θ,hv,b,h=>by
  obtain⟨a,as,ρ1,e1,e2,rfl⟩:=p6 h
  have b:Bd c σ H ρ (cG rs vs (bJ r v τ)) (cF rs (bG r θ)):=b
  rw[cW,cQ] at b
  have b1:=Bd.take1 (nj rs vs (VRs.len hv.2)) b hv.1 e1
  rw[<- cW rs vs (some v::τ),<- cQ rs (a::θ)] at b1
  obtain⟨b2,e3⟩:=Bd.cu hv.2 b1 e2
  exact⟨by simpa using b2,by simp[e3]⟩
 | [],_::_,_,_,_,_,_,h,_,_=>h.elim
 | _::_,[],_,_,_,_,_,h,_,_=>h.elim
noncomputable def pE(ρ0:List Sl):Rr->Sl->List Sl->Option (List Sl)
 | .rf i,s,ρ=>match ρ0[i]?,s,ρ[i]? with
  | some (.lv _),.pv o,some .un=>some (ρ.set i (.lv o))
  | some (.pv _),.pv o,some .un=>some (ρ.set i (.pv o))
  | some (.fr _),_,_=>some ρ
  | _,_,_=>none
 | _,_,ρ=>some ρ
noncomputable def putL(ρ0:List Sl):List Rr->List Sl->List Sl->Option (List Sl)
 | r::rs,s::ss,ρ=>match putL ρ0 rs ss ρ with
  | some ρ1=>pE ρ0 r s ρ1
  | none=>none
 | [],[],ρ=>some ρ
 | _,_,_=>none
end
section
variable{k:Kx}{G H:Hp}
theorem ay.CP:∀{σ:St}{ρ:List Sl}{L:List Addr},ay k G H σ ρ L->∃L',L'.Perm L/\ay k G H σ.reverse ρ.reverse L'
 | _,_,_,.nil=>⟨[],.refl _,.nil⟩
 | _,_,_,.cons (L:=L1) (L':=L2) h r=>by
  obtain⟨L',pm,r'⟩:=ay.CP r
  refine⟨L'++(L1++[]),?_,by rw[Of,Of];exact r'.app (ay.cons h .nil)⟩
  rw[Mr]
  exact(pm.append_right L1).trans Nl
theorem ay.BY:∀{σ:St}{ρ:List Sl}{L:List Addr},ay k G H σ ρ L->∀p∈L,∀ob vs,H p=some (.frz ob (.dK vs))->False
 | _,_,_,.nil,p,hp,_,_,_=>by cases hp
 | _,_,_,.cons h r,p,hp,ob,vs,e=>by
  rcases LS.mp hp with z|z
  ·have lr:∀o,LR k G H p o->False:=λo h=>by cases h with|lst q _=>rw[q] at e;cases e|dic q _=>rw[q] at e;cases e|obj q _ _=>rw[q] at e;cases e
   cases h with
   | un=>cases z
   | fr=>cases z
   | lv h=>rw[Ma.mp z] at lr;exact lr _ h
   | pv h=>rw[Ma.mp z] at lr;exact lr _ h
  ·exact r.BY p z ob vs e
theorem ay.toP:∀{σ:St}{ρ:List Sl}{L:List Addr},ay k G H σ ρ L->ay k G H σ (ρ.map toP) L
 | _,_,_,.nil=>.nil
 | _,_,_,.cons h r=>by
  refine ay.cons ?_ (ay.toP r)
  cases h with
  | un=>exact .un _
  | fr h=>exact .fr h
  | lv h=>exact .pv h
  | pv h=>exact .pv h
noncomputable def toL:Sl->Sl
 | .pv o=>.lv o
 | s=>s
theorem ay.toL:∀{σ:St}{ρ:List Sl}{L:List Addr},ay k G H σ ρ L->ay k G H σ (ρ.map toL) L
 | _,_,_,.nil=>.nil
 | _,_,_,.cons h r=>by
  refine ay.cons ?_ (ay.toL r)
  cases h with
  | un=>exact .un _
  | fr h=>exact .fr h
  | lv h=>exact .lv h
  | pv h=>exact .lv h
end
section
variable{c:Cn}{σ:St}{H:Hp}{ρ:List Sl}{τ:St}{θ:List Sl}
theorem Bd.enter{vs:List V}{as:List Sl}(e:vs.length=as.length)(b:Bd c σ H ρ (vs.reverse.map some++τ) (as.reverse++θ)) :
  ∃c':Cn,c'.toKx=c.toKx/\c'.σ0=vs.map some/\c'.H0=H/\BdL c' (vs.map some) H (as.map toP) [] [] c'.Lp /\
   ∀(H':Hp)(ρ':List Sl)(τ':St)(θ':List Sl),(∀s∈θ',∀o,s≠.pv o)->ρ'.length=vs.length->Bd c' (vs.map some) H' ρ' τ' θ'->Bd c σ H' ρ (vs.reverse.map some++(τ'++τ)) ((ρ'.map toL).reverse++(θ'++θ)):=by
 obtain⟨L,b⟩:=b
 have r:ay c.toKx (c.g H L) H (vs.reverse.map some++(τ++σ)) (as.reverse++(θ++ρ)) L:=by have:=b.rel;simpa[LQ] using this
 obtain⟨La,Lr,e1,r1,r2⟩:=ay.split (by simp[e]) r
 obtain⟨Lp,pm,r3⟩:=r1.CP
 have r3:ay c.toKx (c.g H L) H (vs.map some) as Lp:=by simpa[<- Q8] using r3
 have hmem:∀a,a∈Lp++(Lr++c.Hd)↔a∈L++c.Hd:=λa=>by
  rw[e1,LS,LS,LS,LS,pm.mem_iff]
  constructor
  ·rintro(h|h|h)
   ·exact .inl (.inl h)
   ·exact .inl (.inr h)
   ·exact .inr h
  ·rintro((h|h)|h)
   ·exact .inl h
   ·exact .inr (.inl h)
   ·exact .inr (.inr h)
 have nd:=b.nd
 rw[e1] at nd
 obtain⟨n1,n2,n3⟩:=L6.mp nd
 let c':Cn:={ toKx:=c.toKx,σ0:=vs.map some,H0:=H,Lp:=Lp,Hd:=Lr++c.Hd,Wk:=[] }
 have hg:∀H1 L1 L2,(∀a,a∈L1++(Lr++c.Hd)↔a∈L2++c.Hd)->c'.g H1 L1=c.g H1 L2:=λH1 L1 L2 hm=>by
  funext a
  show (if a∈L1++(Lr++c.Hd) then none else H1 a)=(if a∈L2++c.Hd then none else H1 a)
  by_cases z:a∈L1++(Lr++c.Hd)
  ·rw[if_pos z,if_pos ((hm a).mp z)]
  ·rw[if_neg z,if_neg λy=>z ((hm a).mpr y)]
 refine⟨c',rfl,rfl,rfl,⟨(pm.nodup_iff).mpr n1,?_,λp hp=>.inl hp,⟨λq o h=>⟨o,h,λ_ _=>rfl⟩,λq hq=>by cases hq⟩,λi o _=>rfl,rfl,λp hp=>?_⟩,?_⟩
 ·show ay c.toKx (c'.g H Lp) H (vs.map some) (as.map toP) Lp
  rw[hg H Lp L hmem]
  exact r3.toP
 ·rcases LS.mp hp with z|z
  ·exact⟨r2.is p z,λy=>n3 p (pm.mem_iff.mp y) p z rfl⟩
  ·refine⟨?_,λy=>b.nhd (by rw[e1];exact Mb _ (pm.mem_iff.mp y)) z⟩
   obtain⟨⟨u,h1⟩,h2⟩:=b.hd p z
   obtain⟨u',h3,_⟩:=b.fr.st p u h1
   exact⟨u',h3⟩
 ·intro H' ρ' τ' θ' hθ hl b'
  obtain⟨L',b'⟩:=b'
  obtain⟨Lt,Ls,e2,q1,q2⟩:=ay.split b'.lt b'.rel
  obtain⟨Ls',pm2,q3⟩:=q2.toL.CP
  have lt':τ.length=θ.length:=by have:=b.lt;simp[e] at this;omega
  obtain⟨Lτ,Lσ,e3,s1,s2⟩:=ay.split lt' r2
  have hnew:∀p∈L',p∈Lp\/H p=none:=b'.own
  have hfr:∀p,p∈Lr->∀u,H p=some u->H' p=some u:=λp hp u h=>by
   obtain⟨u',h1,h2⟩:=b'.fr.st p u h
   have:p∉Lp:=λy=>n3 p (pm.mem_iff.mp y) p hp rfl
   rw[h1,h2 this (λw hw=>by cases hw)]
  have hdis:∀p,p∈L'->p∉Lr:=λp hp y=>by
   rcases hnew p hp with z|z
   ·exact n3 p (pm.mem_iff.mp z) p y rfl
   ·obtain⟨u,h⟩:=r2.is p y;rw[z] at h;cases h
  have hsame:Sq (c.g H L) (c'.g H' L'):=λa u h=>by
   by_cases z:a∈L\/a∈c.Hd
   ·rw[jz z] at h;cases h
   ·rw[cc (λy=>z (.inl y)) (λy=>z (.inr y))] at h
    have na:a∉Lp:=λy=>z (.inl (by rw[e1];exact Mb _ (pm.mem_iff.mp y)))
    have nr:a∉Lr:=λy=>z (.inl (by rw[e1];exact LN _ y))
    obtain⟨u',h1,h2⟩:=b'.fr.st a u h
    refine⟨u',?_,.inl (h2 na (λw hw=>by cases hw))⟩
    rw[cc (c:=c') (λy=>?_) (λy=>?_)]
    ·exact h1
    ·rcases hnew a y with w|w
     ·exact na w
     ·rw[w] at h;cases h
    ·rcases LS.mp y with w|w
     ·exact nr w
     ·exact z (.inr w)
  have hgL:c'.g H' L'=c.g H' (L'++Lr):=hg H' L' (L'++Lr) λa=>by simp[LS,or_assoc]
  have s3:ay c.toKx (c'.g H' L') H' (τ++σ) (θ++ρ) Lr:=r2.sm hsame hfr
  have tot:ay c.toKx (c'.g H' L') H' (vs.reverse.map some++(τ'++τ)++σ) ((ρ'.map toL).reverse++(θ'++θ)++ρ) (Ls'++(Lt++Lr)):=by
   have:=q3.app (q1.app s3)
   simpa[LQ,<- Q8] using this
  have pmL:(Ls'++(Lt++Lr)).Perm (L'++Lr):=by
   rw[e2]
   have:=pm2.append_right (Lt++Lr)
   refine this.trans ?_
   rw[<- LQ]
   exact Nl.append_right Lr
  refine⟨Ls'++(Lt++Lr),(pmL.nodup_iff).mpr (L6.mpr ⟨b'.nd,n2,λa ha b2 hb z=>hdis a ha (by rw[z];exact hb)⟩),?_,λp hp=>?_,⟨λq u h=>?_,λq hq=>?_⟩,b.kp,?_,b.hd⟩
  ·rw[F3 (c:=c) (H:=H') (L':=L'++Lr) λa=>pmL.mem_iff,<- hgL]
   exact tot
  ·rcases LS.mp (pmL.mem_iff.mp hp) with z|z
   ·rcases hnew p z with y|y
    ·exact b.own p (by rw[e1];exact Mb _ (pm.mem_iff.mp y))
    ·exact .inr (b.fr.fresh y)
   ·exact b.own p (by rw[e1];exact LN _ z)
  ·obtain⟨u1,h1,h2⟩:=b.fr.st q u h
   obtain⟨u2,h3,h4⟩:=b'.fr.st q u1 h1
   refine⟨u2,h3,λnq nw=>?_⟩
   rw[h4 (λy=>?_) (λw hw=>by cases hw),h2 nq nw]
   rcases b.own q (by rw[e1];exact Mb _ (pm.mem_iff.mp y)) with w|w
   ·exact nq w
   ·rw[w] at h;cases h
  ·obtain⟨h1,⟨ob,ws,h2⟩,h3⟩:=b.fr.pk q hq
   refine⟨?_,⟨ob,ws,h2⟩,h3⟩
   obtain⟨u2,h4,h5⟩:=b'.fr.st q.1 q.2 h1
   rw[h4,h5 (λy=>?_) (λw hw=>by cases hw)]
   exact r3.BY q.1 y ob ws (by rw[h1,h2])
  ·have:=b'.lt
   simp[hl];omega
end
end M
namespace M
open PySem L2
section
variable{c:Cn}{σ:St}{H:Hp}{ρ:List Sl}{τ:St}{θ:List Sl}
theorem Bd.pE{ρ0 ρ':List Sl}{r:Rr}{s:Sl}{v:V}(kp:eU c.σ0 σ ρ0)(hv:VR σ r v)(b:Bd c σ H ρ (some v::τ) (toL s::θ))(h:pE ρ0 r s ρ=some ρ'):Bd c σ H ρ' τ θ:=by
 cases r with
 | fr a=>cases h;exact b.pop
 | nw o=>cases h;exact b.pop
 | rf i =>
  unfold M.pE at h
  cases e0:ρ0[i]? with
  | none=>simp only[e0] at h;cases h
  | some s0 =>
   simp only[e0] at h
   cases s0 with
   | un=>simp at h
   | fr a=>simp at h;subst h;exact b.pop
   | lv o0 =>
    cases s with
    | pv o =>
     cases e1:ρ[i]? with
     | none=>simp[e1] at h
     | some s1 =>
      cases s1 with
      | un=>simp[e1] at h;subst h;exact Bd.putBack b hv e1 (.inl rfl)
      | _=>simp[e1] at h
    | _=>simp at h
   | pv o0 =>
    cases s with
    | pv o =>
     cases e1:ρ[i]? with
     | none=>simp[e1] at h
     | some s1 =>
      cases s1 with
      | un=>simp[e1] at h;subst h;exact Bd.putBack b hv e1 (.inr ⟨rfl,kp i o0 e0⟩)
      | _=>simp[e1] at h
    | _=>simp at h
theorem Bd.putL{ρ0:List Sl}(kp:eU c.σ0 σ ρ0):∀{rs:List Rr}{vs:List V}{ss:List Sl}{ρ ρ':List Sl}{τ:St}{θ:List Sl},VRs σ rs vs->Bd c σ H ρ (vs.reverse.map some++τ) ((ss.map toL).reverse++θ)->M.putL ρ0 rs ss ρ=some ρ'->Bd c σ H ρ' τ θ
 | [],[],[],_,_,_,_,_,b,h=>by cases h;exact b
 | r::rs,v::vs,s::ss,ρ,ρ',τ,θ,hv,b,h=>by
  unfold M.putL at h
  cases e:M.putL ρ0 rs ss ρ with
  | none=>simp only[e] at h;cases h
  | some ρ1 =>
   simp only[e] at h
   have b1:Bd c σ H ρ (vs.reverse.map some++(some v::τ)) ((ss.map toL).reverse++(toL s::θ)):=by simpa[LQ] using b
   exact Bd.pE kp hv.1 (Bd.putL kp hv.2 b1 e) h
 | [],_::_,_,_,_,_,_,h,_,_=>h.elim
 | _::_,[],_,_,_,_,_,h,_,_=>h.elim
 | [],[],_::_,_,_,_,_,_,_,h=>by cases h
 | _::_,_::_,[],_,_,_,_,_,_,h=>by cases h
theorem bC:∀(n:Nat)(ρ:List Sl),(aT n ρ).length=n
 | 0,_=>rfl
 | n+1,[]=>by show (Sl.un::aT n []).length=_;rw[LL,bC n []]
 | n+1,s::ρ=>by cases s<;>(show (_::aT n ρ).length=_;rw[LL,bC n ρ])
theorem VRs.app:∀{rs qs:List Rr}{vs us:List V},VRs σ rs vs->VRs σ qs us->VRs σ (rs++qs) (vs++us)
 | [],_,[],_,_,h=>h
 | _::rs,_,_::vs,_,h1,h2=>⟨h1.1,VRs.app h1.2 h2⟩
 | [],_,_::_,_,h,_=>h.elim
 | _::_,_,[],_,h,_=>h.elim
theorem VRs.frs:∀{das:List A}{dvs:List V},das.length=dvs.length->VRs σ (das.map Rr.fr) dvs
 | [],[],_=>trivial
 | _::das,_::dvs,h=>⟨trivial,VRs.frs (by simpa using h)⟩
 | [],_::_,h=>by simp at h
 | _::_,[],h=>by simp at h
theorem j6:∀{rs:List Rr}{vs:List V}(qs:List Rr)(us:List V)(τ:St),rs.length=vs.length->cG (rs++qs) (vs++us) τ=cG qs us (cG rs vs τ)
 | [],[],_,_,_,_=>rfl
 | r::rs,v::vs,qs,us,τ,h=>j6 (rs:=rs) (vs:=vs) qs us (bJ r v τ) (by simpa using h)
 | [],_::_,_,_,_,h=>by simp at h
 | _::_,[],_,_,_,h=>by simp at h
theorem iX:∀(rs qs:List Rr)(θ:List Sl),cF (rs++qs) θ=cF qs (cF rs θ)
 | [],_,_=>rfl
 | r::rs,qs,θ=>iX rs qs (bG r θ)
theorem Bd.qt:∀{das:List A}{dvs:List V}{τ:St}{θ:List Sl},(∀G,RAs c.toKx G dvs das)->Bd c σ H ρ τ θ->Bd c σ H ρ (cG (das.map Rr.fr) dvs τ) (cF (das.map Rr.fr) θ)
 | [],[],_,_,_,b=>b
 | a::das,v::dvs,_,_,h,b=>Bd.qt (das:=das) (dvs:=dvs) (λG=>by cases h G;assumption) (Bd.push b λG=>by cases h G;assumption)
 | [],_::_,_,_,h,_=>by cases h (λ_=>none)
 | _::_,[],_,_,h,_=>by cases h (λ_=>none)
end
noncomputable def jy:Sl->Option Rr
 | .fr a=>some (.fr a)
 | .lv o=>some (.nw o)
 | _=>none
noncomputable def af(f:Ms)(das:List A)(ma:Mi (List Rr)):Mi Rr:=ax ma λrs ρ=>match cu (rs++das.map Rr.fr) ρ with
 | some (as,ρt)=>match f (as.map toP) with
  | some (.rt s,ρc)=>match jy s,putL ρ (rs++das.map Rr.fr) (aT as.length ρc) ρt with
   | some r,some ρ'=>some (.ok r,ρ')
   | _,_=>none
  | some (.ex x,ρc)=>match putL ρ (rs++das.map Rr.fr) (aT as.length ρc) ρt with
   | some ρ'=>some (.error x,ρ')
   | none=>none
  | _=>none
 | none=>none
section
variable{X:Cx}{E:XK}
theorem l9{m:Ms}{n:Nat}{das:List A}{dvs:List V}(hd:∀G,RAs (kx X) G dvs das){σ:St}{H:Hp}{Q:VK}{rs:List Rr}{c:Cn}{ρ ρ':List Sl}{τ:St}{θ:List Sl}{o:Except Str Rr}{vs:List V}(ek:c.toKx=kx X)(hn:(vs++dvs).length=n)
  (hv:VRs σ rs vs)(b:Bd c σ H ρ (cG rs vs τ) (cF rs θ)) (em:(match cu (rs++das.map Rr.fr) ρ with
 | some (as,ρt)=>match m (as.map toP) with
  | some (.rt s,ρc)=>match jy s,putL ρ (rs++das.map Rr.fr) (aT as.length ρc) ρt with
   | some r,some ρ'=>some (.ok r,ρ')
   | _,_=>none
  | some (.ex x,ρc)=>match putL ρ (rs++das.map Rr.fr) (aT as.length ρc) ρt with
   | some ρ'=>some (.error x,ρ')
   | none=>none
  | _=>none
 | none=>none)=some (o,ρ')) (q1:∀r,o=.ok r->∀v H',VR σ r v->Bd c σ H' ρ' (bJ r v τ) (bG r θ)->Q v H') (q2:∀x,o=.error x->∀C H',X.mg x=some (.ref C)->Bd c σ H' ρ' τ θ->E (.ref C) none H'):SpM (kx X) n m (vs++dvs) H Q E:=by
 refine⟨hn,?_⟩
 cases e1:cu (rs++das.map Rr.fr) ρ with
 | none=>simp only[e1] at em;cases em
 | some p =>
  obtain⟨as,ρt⟩:=p
  simp only[e1] at em
  have ld:das.length=dvs.length:=(hd λ_=>none).len.symm
  have hv2:VRs σ (rs++das.map Rr.fr) (vs++dvs):=hv.app (VRs.frs ld)
  have b2:Bd c σ H ρ (cG (rs++das.map Rr.fr) (vs++dvs) τ) (cF (rs++das.map Rr.fr) θ):=by
   rw[j6 _ _ _ hv.len,iX]
   exact Bd.qt (by rw[ek];exact hd) b
  obtain⟨b3,e3⟩:=Bd.cu hv2 b2 e1
  obtain⟨c',k1,k2,k3,k4,k5⟩:=Bd.enter e3 b3
  have kp:eU c.σ0 σ ρ:=by obtain⟨L,b⟩:=b;exact b.kp
  cases e4:m (as.map toP) with
  | none=>simp only[e4] at em;cases em
  | some p =>
   obtain⟨f,ρc⟩:=p
   simp only[e4] at em
   refine⟨c',_,f,ρc,k1.trans ek,k2,k3,k4,e4,?_⟩
   cases f with
   | nx=>cases em
   | bk=>cases em
   | ct=>cases em
   | rt s =>
    simp only at em
    cases e5:jy s with
    | none=>simp only[e5] at em;cases em
    | some r =>
     cases e6:putL ρ (rs++das.map Rr.fr) (aT as.length ρc) ρt with
     | none=>simp only[e5,e6] at em;cases em
     | some ρ2 =>
      simp only[e5,e6] at em
      cases em
      intro v H' hs b5
      have b6:=k5 H' _ _ _ (λs' hs' o z=>by rw[Ma.mp hs'] at z;exact hs o z) (bC _ _) b5
      rw[e3] at b6
      have b7:=Bd.putL kp hv2 b6 e6
      cases s with
      | fr a=>cases e5;exact q1 _ rfl v H' trivial b7
      | lv o=>cases e5;exact q1 _ rfl v H' trivial b7
      | _=>cases e5
   | ex x =>
    simp only at em
    cases e6:putL ρ (rs++das.map Rr.fr) (aT as.length ρc) ρt with
    | none=>simp only[e6] at em;cases em
    | some ρ2 =>
     simp only[e6] at em
     cases em
     intro C H' hm b5
     have b6:=k5 H' _ _ _ (λs' hs'=>by cases hs') (bC _ _) b5
     rw[e3] at b6
     exact q2 x rfl C H' hm (Bd.putL kp hv2 b6 e6)
theorem zz{CX:CXT}{k n:Nat}{f:Addr}{fd:FuncData}{ps:List Str}{m:Ms}{das:List A}{dvs:List V}{ds:List Value}{x:Str}{p pos:Pos}{e:Expr}{es:List Expr}{ma:Mi (List Rr)}(F:cV X.prog X.w X.K X.mg X.base CX k f fd ps (SpM (kx X) n m))(hr:cj k X.A)(hg:Gl X x)
  (hm:X.mg x=some (.ref f))(hk:M0 X.K (.ref f)=true)(hb:Binds X.K fd ps ds)(hd:Vals dvs ds)(hda:∀G,RAs (kx X) G dvs das)(hx:Passes CX X E)(ha:JA X E (e::es) ma)(hn:∀ρ rs ρ',ma ρ=some (.ok rs,ρ')->rs.length+das.length=n)(hdb:NDb x)
  (he:starEach (e::es) X.env=(false,eval e X.env)::starEach es X.env:=by rfl)(hpl:(backTo pos (starEach es X.env)).any (·.1)=false:=by rfl):JE X E (.Call (.Name x p) (e::es) [] pos) (af m das ma) :=
 ⟨PE.weaken (Bp F hr hg hm hk hb hd hx ha.p hdb he hpl) λσ H Q h=>by
  obtain⟨c,ρ,τ,θ,o,ρ',ek,b,em,q⟩:=h
  rcases bind_some em with ⟨rs,ρ1,e1,e2⟩|⟨e,e1,e2⟩
  ·refine⟨c,ρ,τ,θ,_,ρ1,ek,b,e1,λvs H1 hv b1=>?_⟩
   refine l9 hda ek ?_ hv b1 e2 (λr hr v H' hv b=>by subst hr;exact q v H' hv b) (λx hx=>by subst hx;exact q)
   rw[L4,<- hv.len,<- hn ρ rs ρ1 e1,(hda λ_=>none).len]
  ·subst e2
   exact⟨c,ρ,τ,θ,_,ρ',ek,b,e1,λC H1 hm b1=>q C H1 hm b1⟩⟩
theorem vQ:∀ρ rs ρ',ag ρ=some (.ok rs,ρ')->rs.length=0:=λρ rs ρ' h=>by cases h;rfl
theorem tE{m:Mi Rr}{ma:Mi (List Rr)}{n:Nat}(h:∀ρ rs ρ',ma ρ=some (.ok rs,ρ')->rs.length=n):∀ρ rs ρ',aa m ma ρ=some (.ok rs,ρ')->rs.length=n+1:=λρ rs ρ' e=>by
 rcases bind_some e with ⟨r,ρ1,e1,e2⟩|⟨_,_,e2⟩
 ·rcases bind_some e2 with ⟨rs',ρ2,e3,e4⟩|⟨_,_,e4⟩
  ·cases e4;rw[LL,h _ _ _ e3]
  ·cases e4
 ·cases e2
theorem Gv{ma:Mi (List Rr)}{n d N:Nat}(h:∀ρ rs ρ',ma ρ=some (.ok rs,ρ')->rs.length=n)(e:n+d=N):∀ρ rs ρ',ma ρ=some (.ok rs,ρ')->rs.length+d=N:=λρ rs ρ' q=>by rw[h ρ rs ρ' q];exact e
noncomputable def EC(K:Kx)(E:XK)(c:Cn)(ρ:List Sl)(τ:St)(θ:List A)(D:Ends):Fl->Prop
 | .nx=>∀σ H,Bd c σ H ρ τ (θ.map Sl.fr)->D.nx σ H
 | .rt s=>∀v σ H,(∀o,s≠.pv o)->Bd c σ H ρ (some v::τ) (s::θ.map Sl.fr)->D.rt v H
 | .bk=>∀σ H,Bd c σ H ρ τ (θ.map Sl.fr)->D.bk σ H
 | .ct=>∀σ H,Bd c σ H ρ τ (θ.map Sl.fr)->D.ct σ H
 | .ex x=>∀C σ H,K.mg x=some (.ref C)->Bd c σ H ρ τ (θ.map Sl.fr)->E (.ref C) none H
noncomputable def TSm(K:Kx)(E:XK)(m:Ms):TS:=λD σ H=>∃(c:Cn) (ρ:List Sl) (τ:St) (θ:List A) (f:Fl) (ρ':List Sl),c.toKx=K/\Bd c σ H ρ τ (θ.map Sl.fr)/\m ρ=some (f,ρ')/\EC K E c ρ' τ θ D f
structure JS (X:Cx) (E:XK) (s:Stmt) (m:Ms):Prop where
 p:PS X s (TSm (kx X) E m)
structure JSs (X:Cx) (E:XK) (s:List Stmt) (m:Ms):Prop where
 p:PSs X s (TSm (kx X) E m)
theorem PS.weaken{X:Cx}{e:Stmt}{t t':TS}(h:PS X e t)(f:∀D σ H,t' D σ H->t D σ H):PS X e t':=λpins s σ H D I q=>h pins s σ H D I (f D σ H q)
theorem PSs.weaken{X:Cx}{e:List Stmt}{t t':TS}(h:PSs X e t)(f:∀D σ H,t' D σ H->t D σ H):PSs X e t':=λpins s σ H D I q=>h pins s σ H D I (f D σ H q)
noncomputable def aG:Ms:=λρ=>some (.nx,ρ)
noncomputable def av(m n:Ms):Ms:=λρ=>match m ρ with
 | some (.nx,ρ1)=>n ρ1
 | r=>r
theorem za:JSs X E [] aG:=⟨PSs.weaken Ax λD σ H h=>by
 obtain⟨c,ρ,τ,θ,f,ρ',ek,b,em,q⟩:=h
 cases em;exact q σ H b⟩
theorem Bs{s:Stmt}{m:Ms}(h:JS X E s m):JSs X E [s] m:=⟨AI h.p⟩
theorem yT{s:Stmt}{r:List Stmt}{m n:Ms}(h:JS X E s m)(h':JSs X E r n):JSs X E (s::r) (av m n):=⟨PSs.weaken (yh h.p h'.p) λD σ H h=>by
 obtain⟨c,ρ,τ,θ,f,ρ',ek,b,em,q⟩:=h
 unfold av at em
 cases e:m ρ with
 | none=>simp only[e] at em;cases em
 | some p =>
  obtain⟨f1,ρ1⟩:=p
  simp only[e] at em
  refine⟨c,ρ,τ,θ,f1,ρ1,ek,b,e,?_⟩
  cases f1 with
  | nx=>exact λσ' H' b'=>⟨c,ρ1,τ,θ,f,ρ',ek,b',em,q⟩
  | rt s=>cases em;exact q
  | bk=>cases em;exact q
  | ct=>cases em;exact q
  | ex x=>cases em;exact q⟩
theorem y3{pos}:JS X E (.Pass pos) aG:=⟨PS.weaken Bn λD σ H h=>by
 obtain⟨c,ρ,τ,θ,f,ρ',ek,b,em,q⟩:=h
 cases em;exact q σ H b⟩
noncomputable def vW:Ms:=λρ=>some (.bk,ρ)
noncomputable def CC:Ms:=λρ=>some (.ct,ρ)
theorem vk{pos}:JS X E (.Break pos) vW:=⟨PS.weaken yt λD σ H h=>by
 obtain⟨c,ρ,τ,θ,f,ρ',ek,b,em,q⟩:=h
 cases em;exact q σ H b⟩
theorem zP{pos}:JS X E (.Continue pos) CC:=⟨PS.weaken pd λD σ H h=>by
 obtain⟨c,ρ,τ,θ,f,ρ',ek,b,em,q⟩:=h
 cases em;exact q σ H b⟩
noncomputable def bu{α:Type}(m:Mi α)(f:α->Ms):Ms:=λρ=>match m ρ with
 | some (.ok x,ρ1)=>f x ρ1
 | some (.error e,ρ1)=>some (.ex e,ρ1)
 | none=>none
theorem cS{α:Type}{m:Mi α}{f:α->Ms}{ρ:List Sl}{o:Fl}{ρ':List Sl}(h:bu m f ρ=some (o,ρ')):(∃x ρ1,m ρ=some (.ok x,ρ1)/\f x ρ1=some (o,ρ'))\/∃e,m ρ=some (.error e,ρ')/\o=.ex e:=by
 unfold bu at h
 cases e:m ρ with
 | none=>simp only[e] at h;cases h
 | some p =>
  obtain⟨r,ρ1⟩:=p
  cases r with
  | ok x=>simp only[e] at h;exact .inl ⟨x,ρ1,rfl,h⟩
  | error x=>simp only[e] at h;cases h;exact .inr ⟨x,rfl,rfl⟩
theorem d9{σ:St}{H:Hp}{c:Cn}{ρ ρ':List Sl}{τ:St}{θ:List A}{m:Mi Rr}{f:Rr->Ms}{o:Fl}{Q:VK}{D:Ends}(ek:c.toKx=kx X)(b:Bd c σ H ρ τ (θ.map Sl.fr))(em:bu m f ρ=some (o,ρ'))(q:EC (kx X) E c ρ' τ θ D o)
  (h1:∀x v ρ1 H1,VR σ x v->Bd c σ H1 ρ1 (bJ x v τ) (bG x (θ.map Sl.fr))->f x ρ1=some (o,ρ')->Q v H1):TEm (kx X) E m σ H Q:=by
 rcases cS em with ⟨x,ρ1,e1,e2⟩|⟨e,e1,e2⟩
 ·exact⟨c,ρ,τ,_,_,ρ1,ek,b,e1,λv H1 hv b1=>h1 x v ρ1 H1 hv b1 e2⟩
 ·subst e2;exact⟨c,ρ,τ,_,_,ρ',ek,b,e1,λC H1 hm b1=>q C σ H1 hm b1⟩
theorem zq{σ:St}{H:Hp}{c:Cn}{ρ ρ':List Sl}{τ:St}{θ:List A}{m:Mi Bool}{f:Bool->Ms}{o:Fl}{Q:Bool->Hp->Prop}{D:Ends}(ek:c.toKx=kx X)(b:Bd c σ H ρ τ (θ.map Sl.fr))(em:bu m f ρ=some (o,ρ'))(q:EC (kx X) E c ρ' τ θ D o)
  (h1:∀k ρ1 H1,Bd c σ H1 ρ1 τ (θ.map Sl.fr)->f k ρ1=some (o,ρ')->Q k H1):TTm (kx X) E m σ H Q:=by
 rcases cS em with ⟨x,ρ1,e1,e2⟩|⟨e,e1,e2⟩
 ·exact⟨c,ρ,τ,_,_,ρ1,ek,b,e1,λH1 b1=>h1 x ρ1 H1 b1 e2⟩
 ·subst e2;exact⟨c,ρ,τ,_,_,ρ',ek,b,e1,λC H1 hm b1=>q C σ H1 hm b1⟩
noncomputable def bE(m:Mi Rr):Ms:=bu m λ_ ρ=>some (.nx,ρ)
theorem Ak{e:Expr}{m:Mi Rr}{pos:Pos}(h:JE X E e m)(hs:swapsWith e none pos.line X.env=pure false:=by rfl):JS X E (.Expr e pos) (bE m):=⟨PS.weaken (z9 h.p hs) λD σ H h=>by
 obtain⟨c,ρ,τ,θ,f,ρ',ek,b,em,q⟩:=h
 refine d9 ek b em q λx v ρ1 H1 hv b1 em1=>?_
 cases em1;exact q σ H1 b1.drop⟩
noncomputable def sIf(t:Mi Bool)(m n:Ms):Ms:=bu t λb=>if b then m else n
theorem Jg{t:Expr}{a b:List Stmt}{mt:Mi Bool}{m n:Ms}{pos:Pos}(ht:JT X E t mt)(ha:JSs X E a m)(hb:JSs X E b n):JS X E (.If t a b pos) (sIf mt m n):=⟨PS.weaken (II ht.p ha.p hb.p) λD σ H h=>by
 obtain⟨c,ρ,τ,θ,f,ρ',ek,b,em,q⟩:=h
 refine zq ek b em q λk ρ1 H1 b1 em1=>?_
 cases k with
 | true=>rw[if_pos rfl];exact⟨c,ρ1,τ,θ,f,ρ',ek,b1,em1,q⟩
 | false=>rw[if_neg (by decide)];exact⟨c,ρ1,τ,θ,f,ρ',ek,b1,em1,q⟩⟩
noncomputable def zZ:Rr->List Sl->Option (Sl×List Sl)
 | .fr a,ρ=>some (.fr a,ρ)
 | .nw o,ρ=>some (.lv o,ρ)
 | .rf i,ρ=>match ρ[i]? with
  | some (.lv o)=>some (.lv o,ρ.set i .un)
  | _=>none
noncomputable def aH(m:Mi Rr):Ms:=bu m λr ρ=>match zZ r ρ with
 | some (s,ρ')=>some (.rt s,ρ')
 | none=>none
theorem Gk{e:Expr}{m:Mi Rr}{pos:Pos}(h:JE X E e m):JS X E (.Return (some e) pos) (aH m):=⟨PS.weaken (Ff h.p) λD σ H h=>by
 obtain⟨c,ρ,τ,θ,f,ρ',ek,b,em,q⟩:=h
 refine d9 ek b em q λx v ρ1 H1 hv b1 em1=>?_
 cases x with
 | fr a=>cases em1;exact q v σ H1 (λo z=>by cases z) b1
 | nw o=>cases em1;exact q v σ H1 (λo z=>by cases z) b1
 | rf i =>
  unfold zZ at em1
  cases es:ρ1[i]? with
  | none=>simp only[es] at em1;cases em1
  | some s =>
   cases s with
   | lv o=>simp only[es] at em1;cases em1;exact q v σ H1 (λo z=>by cases z) (Bd.DN (xs:=[]) (ss:=[]) rfl b1 hv es (.inl rfl))
   | _=>simp only[es] at em1;cases em1⟩
noncomputable def xa:Ms:=λρ=>some (.rt (.fr .non),ρ)
theorem BM{pos:Pos}:JS X E (.Return none pos) xa:=⟨PS.weaken zV λD σ H h=>by
 obtain⟨c,ρ,τ,θ,f,ρ',ek,b,em,q⟩:=h
 cases em;exact q .non σ H (λo z=>by cases z) (b.push λ_=>.non)⟩
noncomputable def stT:Rr->List Sl->Option (Sl×List Sl)
 | .fr a,ρ=>some (.fr a,ρ)
 | .nw o,ρ=>some (.lv o,ρ)
 | .rf i,ρ=>match aQ (.rf i) ρ with
  | some (a,ρ')=>some (.fr a,ρ')
  | none=>none
noncomputable def put(i:Nat)(s:Sl)(ρ:List Sl):Option (List Sl):=match ρ[i]? with
 | some (.pv _)=>none
 | some _=>some (ρ.set i s)
 | none=>none
theorem Bd.put{c:Cn}{σ:St}{H:Hp}{ρ ρ':List Sl}{τ:St}{θ:List Sl}{i:Nat}{v:V}{t:Sl}(b:Bd c σ H ρ (some v::τ) (t::θ))(ht:∀o,t≠.pv o)(h:put i t ρ=some ρ'):Bd c (σ.set i (some v)) H ρ' τ θ:=by
 unfold M.put at h
 cases es:ρ[i]? with
 | none=>simp only[es] at h;cases h
 | some s =>
  cases s with
  | pv o=>simp only[es] at h;cases h
  | un=>simp only[es] at h;cases h;exact b.store es (λo z=>by cases z) ht
  | fr a=>simp only[es] at h;cases h;exact b.store es (λo z=>by cases z) ht
  | lv o=>simp only[es] at h;cases h;exact b.store es (λo z=>by cases z) ht
theorem Bd.stT{c:Cn}{σ:St}{H:Hp}{ρ ρ':List Sl}{τ:St}{θ:List Sl}{r:Rr}{v:V}{t:Sl}(hv:VR σ r v)(b:Bd c σ H ρ (bJ r v τ) (bG r θ))(h:stT r ρ=some (t,ρ')):Bd c σ H ρ' (some v::τ) (t::θ)/\∀o,t≠.pv o:=by
 cases r with
 | fr a=>cases h;exact⟨b,λo z=>by cases z⟩
 | nw o=>cases h;exact⟨b,λo z=>by cases z⟩
 | rf i =>
  unfold M.stT at h
  cases e:M.aQ (.rf i) ρ with
  | none=>simp only[e] at h;cases h
  | some p =>
   obtain⟨a,ρ1⟩:=p
   simp only[e] at h;cases h
   exact⟨Bd.aQ (r:=.rf i) (xs:=[]) (ss:=[]) rfl b hv e,λo z=>by cases z⟩
noncomputable def aD(i:Nat)(m:Mi Rr):Ms:=bu m λr ρ=>match stT r ρ with
 | some (t,ρ1)=>match put i t ρ1 with
  | some ρ2=>some (.nx,ρ2)
  | none=>none
 | none=>none
theorem vi{i:Nat}{x:Str}{e:Expr}{m:Mi Rr}{pos pos':Pos}(hN:X.N.Nodup)(hi:X.N[i]?=some x)(hx:Loc X.env.scope x)(he:JE X E e m)(hs:swapsWith e (some (.Name x pos')) pos.line X.env=pure false:=by rfl)
  (hf:X.fn x=true\/X.env.scope.names.lookup x=some .local:=by first|exact .inl rfl|exact .inr rfl|assumption):JS X E (.Assign [.Name x pos'] e pos) (aD i m):=⟨PS.weaken (E0 hN hi hx he.p hs hf) λD σ H h=>by
 obtain⟨c,ρ,τ,θ,f,ρ',ek,b,em,q⟩:=h
 refine d9 ek b em q λr v ρ1 H1 hv b1 em1=>?_
 cases e1:stT r ρ1 with
 | none=>simp only[e1] at em1;cases em1
 | some p =>
  obtain⟨t,ρ2⟩:=p
  simp only[e1] at em1
  obtain⟨b2,ht⟩:=Bd.stT hv b1 e1
  cases e2:put i t ρ2 with
  | none=>simp only[e2] at em1;cases em1
  | some ρ3 =>
   simp only[e2] at em1;cases em1
   exact q _ H1 (Bd.put b2 ht e2)⟩
noncomputable def aX(loc:Nat)(m:Ms):Ms:=λρ=>match m (ρ++L7 loc .un) with
 | some (.nx,ρ')=>some (.rt (.fr .non),ρ')
 | some (.rt s,ρ')=>some (.rt s,ρ')
 | some (.ex x,ρ')=>some (.ex x,ρ')
 | _=>none
theorem kl{k:Kx}{G H:Hp}:∀n,ay k G H (L7 n none) (L7 n Sl.un) []
 | 0=>.nil
 | n+1=>ay.cons (L:=[]) (.un _) (kl n)
theorem BdL.start{c:Cn}{vs:List V}{H:Hp}{ρ:List Sl}(N:List Str)(b:BdL c (vs.map some) H ρ [] [] c.Lp)(e:c.σ0=vs.map some):Bd c (start N vs) H (ρ++L7 (N.length-vs.length) .un) [] []:=by
 have hl:vs.length=ρ.length:=by have:=b.rel.len;simpa using this
 refine⟨c.Lp,b.nd,?_,b.own,b.fr,λi o h=>?_,rfl,b.hd⟩
 ·have:=b.rel.app (kl (k:=c.toKx) (G:=c.g H c.Lp) (H:=H) (N.length-vs.length))
  simpa[L2.start] using this
 ·have hi:i<ρ.length:=by
   by_cases z:i<ρ.length
   ·exact z
   ·rw[MQ (by omega)] at h
    have:=Mc h
    have:=Qf this
    cases this
  unfold L2.start
  rw[MK (by simp;omega),e]
end
end M
namespace M
open PySem L2
section
variable{X:Cx}{E:XK}
theorem OpR.or'{f:Value->Value->Sem Value}{r r':R2}(h:OpR X f r)(h':OpR X f r'):OpR X f (λx y H Q=>r x y H Q\/r' x y H Q):=by
 intro pins s σ H x y v u Q I rx ry q
 rcases q with q|q
 ·exact h pins s σ H x y v u Q I rx ry q
 ·exact h' pins s σ H x y v u Q I rx ry q
theorem bR.or'{f:Value}{r r':List V->Hp->VK->Prop}(h:bR X f r)(h':bR X f r'):bR X f (λxs H Q=>r xs H Q\/r' xs H Q):=by
 intro pins s σ H xs us Q I rx q
 rcases q with q|q
 ·exact h pins s σ H xs us Q I rx q
 ·exact h' pins s σ H xs us Q I rx q
noncomputable def fOr(f g:A->A->Option Rr):A->A->Option Rr:=λa b=>match f a b with
 | some r=>some r
 | none=>g a b
theorem OpS.or{K:Kx}{r r':R2}{f g:A->A->Option Rr}(h:OpS K r f)(h':OpS K r' g):OpS K (λx y H Q=>r x y H Q\/r' x y H Q) (fOr f g):=by
 intro c σ H ρ τ θ x y v w a b q Q ek hv hw bd e1 e2 e3 k
 unfold fOr at e3
 cases e:f a b with
 | some z=>simp only[e] at e3;cases e3;exact .inl (h c σ H ρ τ θ x y v w a b _ Q ek hv hw bd e1 e2 e k)
 | none=>simp only[e] at e3;exact .inr (h' c σ H ρ τ θ x y v w a b _ Q ek hv hw bd e1 e2 e3 k)
theorem Ex{f g:A->A->Option Rr}{ma mb:Mi Rr}{σ:St}{H:Hp}{Q:VK}(h:TEm (kx X) E (mOp (fOr f g) ma mb) σ H Q):TEm (kx X) E (mOp f ma mb) σ H Q\/TEm (kx X) E (mOp g ma mb) σ H Q:=by
 obtain⟨c,ρ,τ,θ,o,ρ',ek,b,em,q⟩:=h
 have key:mOp f ma mb ρ=some (o,ρ')\/mOp g ma mb ρ=some (o,ρ'):=by
  unfold mOp ax at em ⊢
  cases e1:ma ρ with
  | none=>simp only[e1] at em;cases em
  | some p =>
   obtain⟨x,ρ1⟩:=p
   cases x with
   | error e=>simp only[e1] at em ⊢;exact .inl em
   | ok x =>
    simp only[e1] at em ⊢
    cases e2:mb ρ1 with
    | none=>simp only[e2] at em;cases em
    | some p =>
     obtain⟨y,ρ2⟩:=p
     cases y with
     | error e=>simp only[e2] at em ⊢;exact .inl em
     | ok y =>
      simp only[e2] at em ⊢
      cases e3:res ρ2 x with
      | none=>simp only[e3] at em;cases em
      | some a =>
       cases e4:res ρ2 y with
       | none=>simp only[e3,e4] at em;cases em
       | some d =>
        simp only[e3,e4] at em ⊢
        unfold fOr at em
        cases e5:f a d with
        | some z=>simp only[e5] at em ⊢;exact .inl em
        | none=>simp only[e5] at em;exact .inr em
 exact key.imp (λk=>⟨c,ρ,τ,θ,o,ρ',ek,b,k,q⟩) (λk=>⟨c,ρ,τ,θ,o,ρ',ek,b,k,q⟩)
theorem eN{e:Expr}{f g:A->A->Option Rr}{ma mb:Mi Rr}(h:JE X E e (mOp f ma mb))(h':JE X E e (mOp g ma mb)):JE X E e (mOp (fOr f g) ma mb) :=
 ⟨λpins s σ H Q I q=>(Ex q).elim (λq=>h.p pins s σ H Q I q) (λq=>h'.p pins s σ H Q I q)⟩
theorem wc{f g:A->A->Option Rr}{ma mb:Mi Rr}{σ:St}{H:Hp}{Q:Bool->Hp->Prop}(h:TTm (kx X) E (ah (mOp (fOr f g) ma mb)) σ H Q):TTm (kx X) E (ah (mOp f ma mb)) σ H Q\/TTm (kx X) E (ah (mOp g ma mb)) σ H Q:=by
 obtain⟨c,ρ,τ,θ,o,ρ',ek,b,em,q⟩:=h
 have key:ah (mOp f ma mb) ρ=some (o,ρ')\/ah (mOp g ma mb) ρ=some (o,ρ'):=by
  unfold ah mOp ax at em ⊢
  cases e1:ma ρ with
  | none=>simp only[e1] at em;cases em
  | some p =>
   obtain⟨x,ρ1⟩:=p
   cases x with
   | error e=>simp only[e1] at em ⊢;exact .inl em
   | ok x =>
    simp only[e1] at em ⊢
    cases e2:mb ρ1 with
    | none=>simp only[e2] at em;cases em
    | some p =>
     obtain⟨y,ρ2⟩:=p
     cases y with
     | error e=>simp only[e2] at em ⊢;exact .inl em
     | ok y =>
      simp only[e2] at em ⊢
      cases e3:res ρ2 x with
      | none=>simp only[e3] at em;cases em
      | some a =>
       cases e4:res ρ2 y with
       | none=>simp only[e3,e4] at em;cases em
       | some d =>
        simp only[e3,e4] at em ⊢
        unfold fOr at em
        cases e5:f a d with
        | some z=>simp only[e5] at em ⊢;exact .inl em
        | none=>simp only[e5] at em;exact .inr em
 exact key.imp (λk=>⟨c,ρ,τ,θ,o,ρ',ek,b,k,q⟩) (λk=>⟨c,ρ,τ,θ,o,ρ',ek,b,k,q⟩)
theorem gC{e:Expr}{f g:A->A->Option Rr}{ma mb:Mi Rr}(h:JT X E e (ah (mOp f ma mb)))(h':JT X E e (ah (mOp g ma mb))):JT X E e (ah (mOp (fOr f g) ma mb)) :=
 ⟨λpins s σ H Q I q=>(wc q).elim (λq=>h.p pins s σ H Q I q) (λq=>h'.p pins s σ H Q I q)⟩
theorem OpS.scalar{K:Kx}{r:R2}{f:A->A->Option Rr}(h:∀H v w a b q,RA K H v a->RA K H w b->f a b=some q->∃u d,q=.fr d/\(∀G,RA K G u d)/\∀Q:VK,Q u H->r v w H Q):OpS K r f:=by
 intro c σ H ρ τ θ x y v w a b q Q ek hv hw bd e1 e2 e3 k
 have r2:=Bd.rd bd hw e2
 have r1:=Bd.rd bd.drop hv e1
 rw[ek] at r1 r2
 obtain⟨u,d,rfl,hu,hq⟩:=h H v w a b q r1 r2 e3
 exact hq Q (k u H trivial (Bd.push bd.drop.drop (by rw[ek];exact hu)))
noncomputable def fits(n:Nat)(i:Int):Bool:=decide (i.natAbs<2^n)
theorem mW{n:Nat}{i:Int}(h:fits n i=true):L2.Bd n i:=show i.natAbs<2^n from of_decide_eq_true h
theorem aP{n m:Nat}{i:Int}(h:L2.Bd m i)(k:m<=n):fits n i=true:=decide_eq_true (show i.natAbs<2^n from h.mono k)
noncomputable def opI(f:Int->Int->Option Rr):A->A->Option Rr
 | .int i,.int j=>f i j
 | _,_=>none
theorem bA{f:Int->Int->Option Rr}{a b:A}{q:Rr}(h:opI f a b=some q):∃i j,a=.int i/\b=.int j/\f i j=some q:=by
 unfold opI at h
 split at h
 ·exact⟨_,_,rfl,rfl,h⟩
 ·cases h
noncomputable def opS(f:Str->Str->Option Rr):A->A->Option Rr
 | .str i,.str j=>f i j
 | _,_=>none
theorem vU{f:Str->Str->Option Rr}{a b:A}{q:Rr}(h:opS f a b=some q):∃i j,a=.str i/\b=.str j/\f i j=some q:=by
 unfold opS at h
 split at h
 ·exact⟨_,_,rfl,rfl,h⟩
 ·cases h
noncomputable def rE:A->A->Option Rr:=opI λi j=>some (.fr (.int (i+j)))
noncomputable def gJ:A->A->Option Rr:=opI λi j=>some (.fr (.int (i-j)))
noncomputable def wq:A->A->Option Rr:=opI λi j=>if fits 20000 i&&fits 20000 j then some (.fr (.int (i*j))) else none
noncomputable def lF:A->A->Option Rr:=opI λi j=>if j != 0&&fits 9000 j then some (.fr (.int (i.fdiv j))) else none
noncomputable def gL:A->A->Option Rr:=opI λi j=>if j != 0 then some (.fr (.int (i.fmod j))) else none
noncomputable def jA:A->A->Option Rr:=opI λi j=>if 0<=j/\j<=1000000/\i.natAbs<2^64 then some (.fr (.int (i^j.toNat))) else none
noncomputable def fLt:A->A->Option Rr:=opI λi j=>some (.fr (.bl (decide (i<j))))
noncomputable def fLe:A->A->Option Rr:=opI λi j=>some (.fr (.bl (decide (i<=j))))
noncomputable def fGt:A->A->Option Rr:=opI λi j=>some (.fr (.bl (decide (j<i))))
noncomputable def fGe:A->A->Option Rr:=opI λi j=>some (.fr (.bl (decide (j<=i))))
theorem zr{K:Kx}:OpS K (rI0 λi j=>.int (i+j)) rE:=.scalar λH v w a b q r1 r2 h=>by
 replace h:=bA h
 obtain⟨i,j,rfl,rfl,h⟩:=h
 cases r1;cases r2;cases h
 exact⟨_,_,rfl,λ_=>.int _,λQ k=>⟨_,_,rfl,rfl,k⟩⟩
theorem EZ{K:Kx}:OpS K (rI0 λi j=>.int (i-j)) gJ:=.scalar λH v w a b q r1 r2 h=>by
 replace h:=bA h
 obtain⟨i,j,rfl,rfl,h⟩:=h
 cases r1;cases r2;cases h
 exact⟨_,_,rfl,λ_=>.int _,λQ k=>⟨_,_,rfl,rfl,k⟩⟩
theorem A0{K:Kx}:OpS K (rI IntMulOk λi j=>.int (i*j)) wq:=.scalar λH v w a b q r1 r2 h=>by
 replace h:=bA h
 obtain⟨i,j,rfl,rfl,h⟩:=h
 cases r1;cases r2
 split at h
 ·rename_i hc
  rw[LG] at hc
  cases h
  exact⟨_,_,rfl,λ_=>.int _,λQ k=>⟨_,_,rfl,rfl,(mW hc.1).Iy (mW hc.2) (by decide),k⟩⟩
 ·cases h
theorem DG{K:Kx}:OpS K (rI CDv λi j=>.int (i.fdiv j)) lF:=.scalar λH v w a b q r1 r2 h=>by
 replace h:=bA h
 obtain⟨i,j,rfl,rfl,h⟩:=h
 cases r1;cases r2
 split at h
 ·rename_i hc
  rw[LG] at hc
  cases h
  exact⟨_,_,rfl,λ_=>.int _,λQ k=>⟨_,_,rfl,rfl,⟨by simpa using hc.1,mW hc.2⟩,k⟩⟩
 ·cases h
theorem DJ{K:Kx}:OpS K (rI (λ_ j=>j≠0) λi j=>.int (i.fmod j)) gL:=.scalar λH v w a b q r1 r2 h=>by
 replace h:=bA h
 obtain⟨i,j,rfl,rfl,h⟩:=h
 cases r1;cases r2
 split at h
 ·rename_i hc
  cases h
  exact⟨_,_,rfl,λ_=>.int _,λQ k=>⟨_,_,rfl,rfl,by simpa using hc,k⟩⟩
 ·cases h
theorem Ec{K:Kx}:OpS K (rI IJ λi j=>.int (i^j.toNat)) jA:=.scalar λH v w a b q r1 r2 h=>by
 replace h:=bA h
 obtain⟨i,j,rfl,rfl,h⟩:=h
 cases r1;cases r2
 split at h
 ·rename_i hc
  cases h
  exact⟨_,_,rfl,λ_=>.int _,λQ k=>⟨_,_,rfl,rfl,hc,k⟩⟩
 ·cases h
theorem Cd{K:Kx}:OpS K (rI0 λi j=>.bl (decide (i<j))) fLt:=.scalar λH v w a b q r1 r2 h=>by
 replace h:=bA h
 obtain⟨i,j,rfl,rfl,h⟩:=h
 cases r1;cases r2;cases h
 exact⟨_,_,rfl,λ_=>.bl _,λQ k=>⟨_,_,rfl,rfl,k⟩⟩
theorem Cu{K:Kx}:OpS K (rI0 λi j=>.bl (decide (i<=j))) fLe:=.scalar λH v w a b q r1 r2 h=>by
 replace h:=bA h
 obtain⟨i,j,rfl,rfl,h⟩:=h
 cases r1;cases r2;cases h
 exact⟨_,_,rfl,λ_=>.bl _,λQ k=>⟨_,_,rfl,rfl,k⟩⟩
theorem B6{K:Kx}:OpS K (rI0 λi j=>.bl (decide (j<i))) fGt:=.scalar λH v w a b q r1 r2 h=>by
 replace h:=bA h
 obtain⟨i,j,rfl,rfl,h⟩:=h
 cases r1;cases r2;cases h
 exact⟨_,_,rfl,λ_=>.bl _,λQ k=>⟨_,_,rfl,rfl,k⟩⟩
theorem Ct{K:Kx}:OpS K (rI0 λi j=>.bl (decide (j<=i))) fGe:=.scalar λH v w a b q r1 r2 h=>by
 replace h:=bA h
 obtain⟨i,j,rfl,rfl,h⟩:=h
 cases r1;cases r2;cases h
 exact⟨_,_,rfl,λ_=>.bl _,λQ k=>⟨_,_,rfl,rfl,k⟩⟩
mutual
noncomputable def toD:A->Option D
 | .non=>some .non
 | .bl b=>some (.bl b)
 | .int i=>some (.int i)
 | .str x=>some (.str x)
 | .tup xs=>match fD xs with
  | some ds=>some (.tup ds)
  | none=>none
 | .lst xs=>match fD xs with
  | some ds=>some (.lst ds)
  | none=>none
 | .dic _=>none
 | .exc _=>none
 | .obj _ _=>none
noncomputable def fD:List A->Option (List D)
 | []=>some []
 | a::as=>match toD a,fD as with
  | some d,some ds=>some (d::ds)
  | _,_=>none
end
mutual
theorem g9{K:Kx}{H:Hp}:∀{v:V}{a:A}{d:D},RA K H v a->toD a=some d->Den K.K H v d
 | _,_,_,.non,h=>by rw[toD] at h;cases h;exact .non
 | _,_,_,.bl b,h=>by rw[toD] at h;cases h;exact .bl _
 | _,_,_,.int i,h=>by rw[toD] at h;cases h;exact .int _
 | _,_,_,.str x,h=>by rw[toD] at h;cases h;exact .str _
 | _,_,_,.tup (as:=as) e r,h=>by
  rw[toD] at h
  cases q:fD as with
  | none=>simp only[q] at h;cases h
  | some ds=>simp only[q] at h;cases h;exact .tup e (nV r q)
 | _,_,_,.lst (as:=as) e r,h=>by
  rw[toD] at h
  cases q:fD as with
  | none=>simp only[q] at h;cases h
  | some ds=>simp only[q] at h;cases h;exact .lst e (nV r q)
 | _,_,_,.dic e r,h=>by rw[toD] at h;cases h
 | _,_,_,.exc e m,h=>by rw[toD] at h;cases h
 | _,_,_,.obj e m r,h=>by rw[toD] at h;cases h
theorem nV{K:Kx}{H:Hp}:∀{vs:List V}{as:List A}{ds:List D},RAs K H vs as->fD as=some ds->eM K.K H vs ds
 | _,_,_,.nil,h=>by rw[fD] at h;cases h;exact .nil
 | _,_,_,.cons (a:=a) (as:=as) q r,h=>by
  rw[fD] at h
  cases e1:toD a with
  | none=>simp only[e1] at h;cases h
  | some d =>
   cases e2:fD as with
   | none=>simp only[e1,e2] at h;cases h
   | some ds=>simp only[e1,e2] at h;cases h;exact .cons (g9 q e1) (nV r e2)
end
noncomputable def eqA(a b:A):Option Bool:=match toD a,toD b with
 | some d,some e=>if D.depth d<=40 then some (D.eq d e) else none
 | _,_=>none
noncomputable def fEq(a b:A):Option Rr:=match eqA a b with
 | some k=>some (.fr (.bl k))
 | none=>none
noncomputable def fNe(a b:A):Option Rr:=match eqA a b with
 | some k=>some (.fr (.bl (!k)))
 | none=>none
theorem j3{a b:A}{k:Bool}(h:eqA a b=some k):∃d e,toD a=some d/\toD b=some e/\D.depth d<=40/\k=D.eq d e:=by
 unfold eqA at h
 cases e1:toD a with
 | none=>simp only[e1] at h;cases h
 | some d =>
  cases e2:toD b with
  | none=>simp only[e1,e2] at h;cases h
  | some e =>
   simp only[e1,e2] at h
   split at h
   ·rename_i hd;cases h;exact⟨d,e,rfl,rfl,hd,rfl⟩
   ·cases h
theorem os_eq{K:Kx}:OpS K (GZ K.K) fEq:=.scalar λH v w a b q r1 r2 h=>by
 unfold fEq at h
 cases e:eqA a b with
 | none=>simp only[e] at h;cases h
 | some k =>
  simp only[e] at h;cases h
  obtain⟨d,d',h1,h2,h3,rfl⟩:=j3 e
  exact⟨_,_,rfl,λ_=>.bl _,λQ k=>⟨d,d',g9 r1 h1,g9 r2 h2,h3,k⟩⟩
theorem sV{K:Kx}:OpS K (IU K.K) fNe:=.scalar λH v w a b q r1 r2 h=>by
 unfold fNe at h
 cases e:eqA a b with
 | none=>simp only[e] at h;cases h
 | some k =>
  simp only[e] at h;cases h
  obtain⟨d,d',h1,h2,h3,rfl⟩:=j3 e
  exact⟨_,_,rfl,λ_=>.bl _,λQ k=>⟨d,d',g9 r1 h1,g9 r2 h2,h3,k⟩⟩
noncomputable def rR:A->A->Option Rr:=opS λx y=>if x.length+y.length<=100000 then some (.fr (.str (x++y))) else none
theorem hZ:100000<=sizeLine:=by rw[sizeLine_eq];decide
theorem zN{K:Kx}:OpS K (λx y H Q=>∃i j,x=.str i/\y=.str j/\i.length+j.length<=sizeLine/\Q (.str (i++j)) H) rR:=.scalar λH v w a b q r1 r2 h=>by
 replace h:=vU h
 obtain⟨i,j,rfl,rfl,h⟩:=h
 cases r1;cases r2
 split at h
 ·rename_i hc
  cases h
  exact⟨_,_,rfl,λ_=>.str _,λQ k=>⟨_,_,rfl,rfl,Mf hc hZ,k⟩⟩
 ·cases h
noncomputable def CA:R2:=λx y H Q=>∃z n,x=.str z/\y=.int n/\MulOk z n/\Q (.str (Q9 z n)) H
theorem BR:OpR X (binaryOp .Mult) CA:=by
 intro pins s σ H x y v u Q I rx ry h
 obtain⟨z,n,rfl,rfl,hok,q⟩:=h
 obtain⟨t,rfl⟩:=rx
 obtain⟨t',rfl⟩:=ry
 exact SB.mul hok λt'' k=>⟨.str _,H,I.tok _,⟨t'',rfl⟩,q⟩
noncomputable def sX:A->A->Option Rr
 | .str z,.int n=>if 1<=n/\n<=1000/\z.length<=1000 then some (.fr (.str (Q9 z n))) else none
 | _,_=>none
theorem BO{K:Kx}:OpS K CA sX:=.scalar λH v w a b q r1 r2 h=>by
 cases a<;>first|(cases h;done)|(cases b<;>first|(cases h;done)|skip)
 cases r1;cases r2
 rename_i z n
 unfold sX at h
 simp only at h
 split at h
 ·rename_i hc
  cases h
  refine⟨_,_,rfl,λ_=>.str _,λQ k=>⟨_,_,rfl,rfl,⟨?_,λ_ _ z1=>?_,λ_ _=>?_⟩,k⟩⟩
  ·rw[Bool.or_eq_false_iff];exact⟨decide_eq_false (by omega),decide_eq_false (by omega)⟩
  ·have h1:n*(z.length:Int)<=1000*1000:=Int.mul_le_mul hc.2.1 (by omega) (by omega) (by decide)
   have h2:(z.length:Int)<=(2^63-1) / n:=by
    rw[Int.le_ediv_iff_mul_le (by omega)]
    rw[RT];omega
   omega
  ·unfold OB
   refine decide_eq_false ?_
   have h1:z.length*n.toNat<=1000*1000:=Nat.mul_le_mul hc.2.2 (by omega)
   have:=sizeLine_eq
   omega
 ·cases h
noncomputable def pM:A->A->Option Rr
 | .tup xs,.tup ys=>if xs.length+ys.length<=100000 then some (.fr (.tup (xs++ys))) else none
 | _,_=>none
noncomputable def B1(K:LD):R2:=λx y H Q=>∃a b xs ys,x=.ref a/\y=.ref b/\SqT K H a xs/\SqT K H b ys/\xs.length+ys.length<=sizeLine/\(xs=[]->Q (.ref b) H)/\(xs≠[]->ys=[]->Q (.ref a) H) /\
 (xs≠[]->ys≠[]->∀p,H p=none->Q (.ref p) (upd H p (.tup (xs++ys))))
theorem z3:OpR X (binaryOp .Add) (B1 X.K):=by
 intro pins s σ H x y v u Q I rx ry h
 obtain⟨a,b,xs,ys,rfl,rfl,ha,hb,hz,q1,q2,q3⟩:=h
 by_cases hx:xs=[]
 ·subst hx
  cases rx
  cases ry
  obtain⟨its,r1,p1,_⟩:=I.tuple ha
  obtain⟨jts,r2,p2,_⟩:=I.tuple hb
  cases r1
  obtain⟨⟨c1,d1,t1,l1⟩,e1,hc1,n1,hd1⟩:=id p1
  obtain⟨⟨c2,d2,t2,l2⟩,e2,hc2,n2,hd2⟩:=id p2
  simp only at hc1 hd1 hc2 hd2
  subst hc1 hd1 hc2 hd2
  exact concat_meets ⟨_,e1,rfl⟩ ⟨_,e2,rfl⟩ noFill_tuple_add seq_tuple_add Ol Od (N9 _ _) (R8 a b _ _ n1 n2 d1 d2 l1 l2 rfl) ⟨e1,e2,.ref b,H,I,rfl,q1 rfl⟩
 ·exact yW pins s σ H (.ref a) (.ref b) v u Q I rx ry ⟨a,b,xs,ys,rfl,rfl,ha,hb,hx,hz,q2 hx,q3 hx⟩
theorem As{K:Kx}:OpS K (B1 K.K) pM:=by
 intro c σ H ρ τ θ x y v w a b q Q ek hv hw bd e1 e2 e3 k
 cases a<;>first|(cases e3;done)|(cases b<;>first|(cases e3;done)|skip)
 rename_i xs ys
 unfold pM at e3
 simp only at e3
 split at e3
 ·rename_i hc
  cases e3
  obtain⟨L,bl,i1,i2⟩:=Bd.rL bd hv hw e1 e2
  obtain⟨p1,vs1,rfl,s1,r1⟩:=i1.2.1 xs rfl
  obtain⟨p2,vs2,rfl,s2,r2⟩:=i2.2.1 ys rfl
  have l1:=r1.len
  have l2:=r2.len
  subst ek
  refine⟨p1,p2,vs1,vs2,rfl,rfl,eD (g_same _ _ _) s1,eD (g_same _ _ _) s2,by have:=hZ;omega,λz=>?_,λ_ z=>?_,λ_ _ p hp=>?_⟩
  ·subst z
   have:xs=[]:=PB (by rw[<- l1];rfl)
   subst this
   exact k _ H trivial (bl.push (.tup s2 r2))
  ·subst z
   have:ys=[]:=PB (by rw[<- l2];rfl)
   subst this
   rw[Mr] at k
   exact k _ H trivial (bl.push (.tup s1 r1))
  ·obtain⟨b2,sm,np⟩:=bl.new (o:=.tup (vs1++vs2)) hp
   exact k _ _ trivial (b2.push (.tup (.inl (.inl (by rw[cc np (bl.fhd hp)];exact bj))) ((r1.app r2).sm sm)))
 ·cases e3
end
end M
namespace M
open PySem L2
section
variable{X:Cx}{E:XK}
noncomputable def fIx:A->A->Option Rr
 | .lst xs,.int i=>match atI xs i with
  | some a=>some (.fr a)
  | none=>none
 | .tup xs,.int i=>match atI xs i with
  | some a=>some (.fr a)
  | none=>none
 | .str z,.int i=>if z.length<=100000 then match atI z.cps.toList i with
  | some c=>some (.fr (.str ⟨#[c]⟩))
  | none=>none else none
 | _,_=>none
theorem RAs.atI{k:Kx}{G:Hp}{vs:List V}{as:List A}{i:Int}{a:A}(r:RAs k G vs as)(h:atI as i=some a):∃v,atI vs i=some v/\RA k G v a:=by
 unfold L2.atI at h ⊢
 rw[r.len]
 cases e:ixN as.length i with
 | none=>rw[e] at h;cases h
 | some j =>
  rw[e] at h
  obtain⟨v,h1,h2⟩:=r.ta h
  exact⟨v,h1,h2⟩
theorem HP{K:Kx}:OpS K (rIx K.K) fIx:=by
 intro c σ H ρ τ θ x y v w a b q Q ek hv hw bd e1 e2 e3 k
 subst ek
 have r2:=Bd.rd bd hw e2
 obtain⟨L,bl,i1,i2⟩:=Bd.rL bd hv hw e1 e2
 have r1:=Bd.rd bd.drop hv e1
 cases a<;>first|(cases e3;done)|(cases b<;>first|(cases e3;done)|skip)
 ·rename_i z i
  cases r1;cases r2
  unfold fIx at e3
  simp only at e3
  split at e3
  ·rename_i hz
   cases e:atI z.cps.toList i with
   | none=>simp only[e] at e3;cases e3
   | some ch =>
    simp only[e] at e3;cases e3
    exact .inr (.inr ⟨z,i,ch,rfl,rfl,Mf hz hZ,e,k _ H trivial (Bd.push ⟨L,bl⟩ λ_=>.str _)⟩)
  ·cases e3
 ·rename_i xs i
  cases r2
  unfold fIx at e3
  simp only at e3
  cases e:atI xs i with
  | none=>simp only[e] at e3;cases e3
  | some d =>
   simp only[e] at e3;cases e3
   obtain⟨p,vs,rfl,s1,rr⟩:=i1.2.1 xs rfl
   obtain⟨u,h1,h2⟩:=rr.atI e
   exact .inr (.inl ⟨p,vs,i,u,rfl,rfl,eD (g_same _ _ _) s1,h1,k u H trivial (bl.push h2)⟩)
 ·rename_i xs i
  cases r2
  unfold fIx at e3
  simp only at e3
  cases e:atI xs i with
  | none=>simp only[e] at e3;cases e3
  | some d =>
   simp only[e] at e3;cases e3
   obtain⟨p,vs,rfl,s1,rr⟩:=i1.1 xs rfl
   obtain⟨u,h1,h2⟩:=rr.atI e
   exact .inl ⟨p,vs,i,u,rfl,rfl,s1,h1,k u H trivial (bl.push h2)⟩
theorem Ee{a b:Expr}{ma mb:Mi Rr}{pos:Pos}(ha:JE X E a ma)(hb:JE X E b mb)(hs:jE b):JE X E (.Subscript a b pos) (mOp fIx ma mb) :=
 ⟨PE.weaken (IV Df ha.p hb.p hs) (cY HP)⟩
noncomputable def gH:A->Option Key
 | .int i=>some (.inl i)
 | .str x=>some (.inr x)
 | _=>none
theorem iV{K:Kx}{H:Hp}{w:V}{b:A}{y:Key}(r:RA K H w b)(h:gH b=some y):w=kV y:=by
 cases r<;>first|(cases h;rfl)|(cases h;done)
noncomputable def aj:A->A->Option Rr
 | .dic kvs,b=>match gH b with
  | some y=>match eP kvs y with
   | some a=>some (.fr a)
   | none=>none
  | none=>none
 | _,_=>none
theorem Ac{K:Kx}:OpS K (λx y H Q=>∃a v,x=.ref a/\gX H a y (some v)/\Q v H) aj:=by
 intro c σ H ρ τ θ x y v w a b q Q ek hv hw bd e1 e2 e3 k
 subst ek
 have r2:=Bd.rd bd hw e2
 obtain⟨L,bl,i1,i2⟩:=Bd.rL bd hv hw e1 e2
 cases a<;>first|(cases e3;done)|skip
 rename_i kvs
 unfold aj at e3
 simp only at e3
 cases ey:gH b with
 | none=>simp only[ey] at e3;cases e3
 | some ky =>
  simp only[ey] at e3
  obtain⟨p,vs,rfl,s1,rr⟩:=i1.2.2 kvs rfl
  rcases rr.get ky with ⟨u,a,h1,h2,h3⟩|⟨h1,h2⟩
  ·simp only[h2] at e3;cases e3
   exact⟨p,u,rfl,.inl ⟨vs,ky,s1,iV r2 ey,h1.symm⟩,k u H trivial (bl.push h3)⟩
  ·simp only[h2] at e3;cases e3
theorem zc{a b:Expr}{ma mb:Mi Rr}{pos:Pos}(hu:X.A.units+1<cLine)(ha:JE X E a ma)(hb:JE X E b mb)(hs:wu b):JE X E (.Subscript a b pos) (mOp aj ma mb) :=
 ⟨PE.weaken (AK hu ha.p hb.p hs) (cY (r:=λx y H Q=>∃a v,x=.ref a/\gX H a y (some v)/\Q v H) Ac)⟩
theorem HW{a b:Expr}{ma mb:Mi Rr}{pos:Pos}(hu:X.A.units+1<cLine)(ha:JE X E a ma)(hb:JE X E b mb)(hs:jE b)(hs':wu b):JE X E (.Subscript a b pos) (mOp (fOr fIx aj) ma mb):=eN (Ee ha hb hs) (zc hu ha hb hs')
noncomputable def sk:A->Bool
 | .non=>true
 | .bl _=>true
 | .int _=>true
 | .str _=>true
 | _=>false
noncomputable def uO:A->V
 | .non=>.non
 | .bl b=>.bl b
 | .int i=>.int i
 | .str x=>.str x
 | _=>.non
theorem u3{K:Kx}{H:Hp}{w:V}{b:A}(r:RA K H w b)(h:sk b=true):w=uO b/\gm w=true:=by
 cases r<;>first|exact⟨rfl,rfl⟩|(cases h;done)
theorem rK{K:Kx}{H:Hp}:∀{vs:List V}{as:List A},RAs K H vs as->as.all sk=true->vs=as.map uO/\vs.all gm=true
 | _,_,.nil,_=>⟨rfl,rfl⟩
 | _,_,.cons h r,e=>by
  rw[MA,LG] at e
  obtain⟨h1,h2⟩:=u3 h e.1
  obtain⟨h3,h4⟩:=rK r e.2
  exact⟨by rw[h1,h3];rfl,by rw[MA,h2,h4];rfl⟩
noncomputable def inA(neg:Bool)(x:A)(xs:List A):Option Rr:=if sk x&&xs.all sk then some (.fr (.bl (if neg then !inV (uO x) (xs.map uO) else inV (uO x) (xs.map uO)))) else none
noncomputable def fj(neg:Bool):A->A->Option Rr
 | x,.lst xs=>inA neg x xs
 | x,.tup xs=>inA neg x xs
 | _,_=>none
theorem nZ{K:Kx}{neg:Bool}:OpS K (rIn K.K neg) (fj neg):=.scalar λH v w a b q r1 r2 h=>by
 have key:∀(xs:List A)(vs:List V)(p:Addr),RAs K H vs xs->(SqL K.K H p vs\/SqT K.K H p vs)->inA neg a xs=some q->∃u d,q=.fr d/\(∀G,RA K G u d)/\∀Q:VK,Q u H->rIn K.K neg v (.ref p) H Q:=by
  intro xs vs p rr sq h
  unfold inA at h
  split at h
  ·rename_i hc
   rw[LG] at hc
   cases h
   obtain⟨rfl,h2⟩:=u3 r1 hc.1
   obtain⟨rfl,h4⟩:=rK rr hc.2
   exact⟨_,_,rfl,λ_=>.bl _,λQ k=>⟨p,_,rfl,sq,h2,h4,k⟩⟩
  ·cases h
 cases b<;>first|(cases h;done)|skip
 ·cases r2 with|tup e r=>exact key _ _ _ r (.inr e) h
 ·cases r2 with|lst e r=>exact key _ _ _ r (.inl e) h
noncomputable def dj(neg:Bool):A->A->Option Rr
 | x,.dic kvs=>match gH x with
  | some y=>some (.fr (.bl (if neg then !(eP kvs y).isSome else (eP kvs y).isSome)))
  | none=>none
 | _,_=>none
theorem xU{K:Kx}:OpS K (λy x H Q=>∃a o,x=.ref a/\gX H a y o/\Q (.bl o.isSome) H) (dj false):=.scalar λH v w a b q r1 r2 h=>by
 cases b<;>first|(cases h;done)|skip
 cases r2 with
 | dic e r =>
  unfold dj at h
  simp only at h
  cases ey:gH a with
  | none=>simp only[ey] at h;cases h
  | some y =>
   simp only[ey] at h;cases h
   refine⟨_,_,rfl,λ_=>.bl _,λQ k=>⟨_,_,rfl,.inl ⟨_,y,e,iV r1 ey,rfl⟩,?_⟩⟩
   rcases r.get y with ⟨u,a,h1,h2,h3⟩|⟨h1,h2⟩
   ·rw[h1];rw[h2] at k;exact k
   ·rw[h1];rw[h2] at k;exact k
theorem sG{K:Kx}:OpS K (λy x H Q=>∃a o,x=.ref a/\gX H a y o/\Q (.bl (!o.isSome)) H) (dj true):=.scalar λH v w a b q r1 r2 h=>by
 cases b<;>first|(cases h;done)|skip
 cases r2 with
 | dic e r =>
  unfold dj at h
  simp only at h
  cases ey:gH a with
  | none=>simp only[ey] at h;cases h
  | some y =>
   simp only[ey] at h;cases h
   refine⟨_,_,rfl,λ_=>.bl _,λQ k=>⟨_,_,rfl,.inl ⟨_,y,e,iV r1 ey,rfl⟩,?_⟩⟩
   rcases r.get y with ⟨u,a,h1,h2,h3⟩|⟨h1,h2⟩
   ·rw[h1];rw[h2] at k;exact k
   ·rw[h1];rw[h2] at k;exact k
theorem EL{a b:Expr}{ma mb:Mi Rr}{pos:Pos}(hu:X.A.units+1<cLine)(ha:JE X E a ma)(hb:JE X E b mb)(hm:behindInMarks .In b=false):JE X E (.Compare a [.In] [b] pos) (mOp (dj false) ma mb) :=
 ⟨PE.weaken (rh (u0 hu ha.p hb.p) hm) (cY (r:=λy x H Q=>∃a o,x=.ref a/\gX H a y o/\Q (.bl o.isSome) H) xU)⟩
theorem Gj{a b:Expr}{ma mb:Mi Rr}{pos:Pos}(hu:X.A.units+1<cLine)(ha:JE X E a ma)(hb:JE X E b mb)(hm:behindInMarks .In b=false):JT X E (.Compare a [.In] [b] pos) (ah (mOp (dj false) ma mb)) :=
 ⟨PT.weaken (qy (u0 hu ha.p hb.p) hm) λσ H Q h=>cY (r:=λy x H Q=>∃a o,x=.ref a/\gX H a y o/\Q (.bl o.isSome) H) xU σ H _ (cT σ H Q h)⟩
theorem yY{a b:Expr}{ma mb:Mi Rr}{pos:Pos}(hu:X.A.units+1<cLine)(ha:JE X E a ma)(hb:JE X E b mb)(hm:behindInMarks .NotIn b=false):JE X E (.Compare a [.NotIn] [b] pos) (mOp (dj true) ma mb) :=
 ⟨PE.weaken (rh (lN hu ha.p hb.p) hm) (cY (r:=λy x H Q=>∃a o,x=.ref a/\gX H a y o/\Q (.bl (!o.isSome)) H) sG)⟩
theorem zA{a b:Expr}{ma mb:Mi Rr}{pos:Pos}(hu:X.A.units+1<cLine)(ha:JE X E a ma)(hb:JE X E b mb)(hm:behindInMarks .NotIn b=false):JT X E (.Compare a [.NotIn] [b] pos) (ah (mOp (dj true) ma mb)) :=
 ⟨PT.weaken (qy (lN hu ha.p hb.p) hm) λσ H Q h=>cY (r:=λy x H Q=>∃a o,x=.ref a/\gX H a y o/\Q (.bl (!o.isSome)) H) sG σ H _ (cT σ H Q h)⟩
theorem ID{a b:Expr}{ma mb:Mi Rr}{pos:Pos}(hu:X.A.units+1<cLine)(ha:JE X E a ma)(hb:JE X E b mb)(hm:behindInMarks .In b=false):JE X E (.Compare a [.In] [b] pos) (mOp (fOr (fj false) (dj false)) ma mb):=eN (cD mr nZ ha hb hm) (EL hu ha hb hm)
theorem Ka{a b:Expr}{ma mb:Mi Rr}{pos:Pos}(hu:X.A.units+1<cLine)(ha:JE X E a ma)(hb:JE X E b mb)(hm:behindInMarks .In b=false):JT X E (.Compare a [.In] [b] pos) (ah (mOp (fOr (fj false) (dj false)) ma mb)):=gC (cz mr nZ ha hb hm) (Gj hu ha hb hm)
theorem GL{a b:Expr}{ma mb:Mi Rr}{pos:Pos}(hu:X.A.units+1<cLine)(ha:JE X E a ma)(hb:JE X E b mb)(hm:behindInMarks .NotIn b=false):JE X E (.Compare a [.NotIn] [b] pos) (mOp (fOr (fj true) (dj true)) ma mb):=eN (cD iw nZ ha hb hm) (yY hu ha hb hm)
theorem CN{a b:Expr}{ma mb:Mi Rr}{pos:Pos}(hu:X.A.units+1<cLine)(ha:JE X E a ma)(hb:JE X E b mb)(hm:behindInMarks .NotIn b=false):JT X E (.Compare a [.NotIn] [b] pos) (ah (mOp (fOr (fj true) (dj true)) ma mb)):=gC (cz iw nZ ha hb hm) (zA hu ha hb hm)
noncomputable def nX:A->Bool
 | .non=>true
 | _=>false
noncomputable def fIs(neg:Bool):A->A->Option Rr
 | a,.non=>some (.fr (.bl (if neg then !nX a else nX a)))
 | _,_=>none
theorem sT{K:Kx}{H:Hp}{v:V}{a:A}(r:RA K H v a):decide (v=.non)=nX a:=by cases r<;>rfl
theorem r9{K:Kx}:OpS K (λx y H Q=>y=.non/\Q (.bl (decide (x=.non))) H) (fIs false):=.scalar λH v w a b q r1 r2 h=>by
 cases b<;>first|(cases h;done)|skip
 cases r2;cases h
 exact⟨_,_,rfl,λ_=>.bl _,λQ k=>⟨rfl,by rw[sT r1];exact k⟩⟩
theorem jF{K:Kx}:OpS K (λx y H Q=>y=.non/\Q (.bl (!decide (x=.non))) H) (fIs true):=.scalar λH v w a b q r1 r2 h=>by
 cases b<;>first|(cases h;done)|skip
 cases r2;cases h
 exact⟨_,_,rfl,λ_=>.bl _,λQ k=>⟨rfl,by rw[sT r1];exact k⟩⟩
noncomputable def mUn(f:A->Option Rr)(m:Mi Rr):Mi Rr:=ax m λx ρ=>match res ρ x with
 | some a=>match f a with
  | some r=>some (.ok r,ρ)
  | none=>none
 | none=>none
def UnS(K:Kx)(r:V->Hp->VK->Prop)(f:A->Option Rr):Prop:=∀(c:Cn)(σ:St)(H:Hp)(ρ:List Sl)(τ:St)(θ:List Sl)(x:Rr)(v:V)(a:A)(q:Rr)(Q:VK),c.toKx=K->VR σ x v ->
 Bd c σ H ρ (bJ x v τ) (bG x θ)->res ρ x=some a->f a=some q->(∀u H',VR σ q u->Bd c σ H' ρ (bJ q u τ) (bG q θ)->Q u H')->r v H Q
theorem oy{f:A->Option Rr}{x:Rr}{ρ ρ':List Sl}{o:Except Str Rr}(h:(match res ρ x with|some a=>(match f a with|some r=>some ((.ok r:Except Str Rr),ρ)|none=>none)|none=>none)=some (o,ρ')):∃a r,res ρ x=some a/\f a=some r/\o=.ok r/\ρ'=ρ:=by
 cases e1:res ρ x with
 | none=>simp only[e1] at h;cases h
 | some a =>
  simp only[e1] at h
  cases e3:f a with
  | none=>simp only[e3] at h;cases h
  | some r=>simp only[e3] at h;cases h;exact⟨a,r,rfl,e3,rfl,rfl⟩
theorem ix{r:V->Hp->VK->Prop}{f:A->Option Rr}{m:Mi Rr}(hf:UnS (kx X) r f)(σ:St)(H:Hp)(Q:VK)(h:TEm (kx X) E (mUn f m) σ H Q):TEm (kx X) E m σ H λv H'=>r v H' Q:=by
 obtain⟨c,ρ,τ,θ,o,ρ',ek,b,em,q⟩:=h
 refine aR ek b em (λx v ρ1 H1 hv b1 em1=>?_) (aM q)
 obtain⟨a,r,e1,e3,rfl,rfl⟩:=oy em1
 exact hf c σ H1 _ τ θ x v a r Q ek hv b1 e1 e3 q
theorem UnS.scalar{K:Kx}{r:V->Hp->VK->Prop}{f:A->Option Rr}(h:∀H v a q,RA K H v a->f a=some q->∃u d,q=.fr d/\(∀G,RA K G u d)/\∀Q:VK,Q u H->r v H Q):UnS K r f:=by
 intro c σ H ρ τ θ x v a q Q ek hv bd e1 e3 k
 have r1:=Bd.rd bd hv e1
 rw[ek] at r1
 obtain⟨u,d,rfl,hu,hq⟩:=h H v a q r1 e3
 exact hq Q (k u H trivial (Bd.push bd.drop (by rw[ek];exact hu)))
noncomputable def CS:A->Option Rr
 | .int i=>some (.fr (.int (-i)))
 | _=>none
theorem Ep{a:Expr}{m:Mi Rr}{pos:Pos}(h:JE X E a m):JE X E (.UnaryOp .USub a pos) (mUn CS m):=⟨PE.weaken (Kk FH h.p) (ix (.scalar λH v a q r1 h=>by
 cases a<;>first|(cases h;done)|skip
 cases r1;cases h
 exact⟨_,_,rfl,λ_=>.int _,λQ k=>⟨_,rfl,k⟩⟩))⟩
noncomputable def mB1(f:A->Option Rr)(m:Mi Rr):Mi Rr:=mUn f m
noncomputable def mB2(f:A->A->Option Rr)(m n:Mi Rr):Mi Rr:=mOp f m n
theorem rN{id:String}{r:List V->Hp->VK->Prop}{f:A->Option Rr}{x:Str}{p pos:Pos}{e:Expr}{m:Mi Rr}(hc:bR X (.builtin id) r)(hf:UnS (kx X) (λv=>r [v]) f)(hg:Gl X x)(hm:X.mg x=none)(hv:bootBuiltins x=some (.builtin id))(ha:JE X E e m)(hn:x ≠ "__name__")
  (hdb:NDb x)(hs:starEach [e] X.env=(false,eval e X.env)::starEach [] X.env:=by rfl)(hp:(backTo pos (starEach [] X.env)).any (·.1)=false:=by rfl):JE X E (.Call (.Name x p) [e] [] pos) (mB1 f m) :=
 ⟨PE.weaken (j0 hc hg hm hv (bX ha.p eC hs) hn hdb hs hp) λσ H Q h=>ix hf σ H Q h⟩
theorem rB{T:String}{r:List V->Hp->VK->Prop}{f:A->Option Rr}{x:Str}{p pos:Pos}{e:Expr}{m:Mi Rr}(hc:bR X (.type T) r)(hf:UnS (kx X) (λv=>r [v]) f)(hg:Gl X x)(hm:X.mg x=none)(hv:bootBuiltins x=some (.type T))(ha:JE X E e m)(hn:x ≠ "__name__")
  (hdb:NDb x)(hs:starEach [e] X.env=(false,eval e X.env)::starEach [] X.env:=by rfl)(hp:(backTo pos (starEach [] X.env)).any (·.1)=false:=by rfl):JE X E (.Call (.Name x p) [e] [] pos) (mB1 f m) :=
 ⟨PE.weaken (uG hc hg hm hv (bX ha.p eC hs) hn hdb hs hp) λσ H Q h=>ix hf σ H Q h⟩
theorem CJ{id:String}{r:List V->Hp->VK->Prop}{f:A->A->Option Rr}{x:Str}{p pos:Pos}{e1 e2:Expr}{m n:Mi Rr}(hc:bR X (.builtin id) r)(hf:OpS (kx X) (λv w=>r [v,w]) f)(hg:Gl X x)(hm:X.mg x=none)(hv:bootBuiltins x=some (.builtin id))(h1:JE X E e1 m)(h2:JE X E e2 n)(hn:x ≠ "__name__")
  (hdb:NDb x)(hs:starEach [e1,e2] X.env=(false,eval e1 X.env)::starEach [e2] X.env:=by rfl)(hs2:starEach [e2] X.env=(false,eval e2 X.env)::starEach [] X.env:=by rfl)(hp:(backTo pos (starEach [e2] X.env)).any (·.1)=false:=by rfl):JE X E (.Call (.Name x p) [e1,e2] [] pos) (mB2 f m n) :=
 ⟨PE.weaken (j0 hc hg hm hv (bX h1.p (bX h2.p eC hs2) hs) hn hdb hs hp) λσ H Q h=>cY (r:=λv w=>r [v,w]) hf σ H Q h⟩
noncomputable def iu:A->Option Rr
 | .str z=>if z.length<=100000 then some (.fr (.int z.length)) else none
 | .lst xs=>some (.fr (.int xs.length))
 | .tup xs=>some (.fr (.int xs.length))
 | _=>none
theorem Fc{K:Kx}:UnS K (λv H Q=>∃x n,[v]=[x]/\Ke K.K x H n/\Q (.int n) H) iu:=.scalar λH v a q r1 h=>by
 cases a<;>first|(cases h;done)|skip
 ·cases r1
  unfold iu at h
  simp only at h
  split at h
  ·rename_i hz;cases h
   exact⟨_,_,rfl,λ_=>.int _,λQ k=>⟨_,_,rfl,⟨Mf hz hZ,rfl⟩,k⟩⟩
  ·cases h
 ·cases r1 with
  | tup e r=>cases h;exact⟨_,_,rfl,λ_=>.int _,λQ k=>⟨_,_,rfl,.inr ⟨_,e,rfl⟩,by rw[r.len];exact k⟩⟩
 ·cases r1 with
  | lst e r=>cases h;exact⟨_,_,rfl,λ_=>.int _,λQ k=>⟨_,_,rfl,.inl ⟨_,e,rfl⟩,by rw[r.len];exact k⟩⟩
noncomputable def qP:A->Option Rr
 | .int i=>some (.fr (.int (if i<0 then -i else i)))
 | _=>none
theorem CO{K:Kx}:UnS K (λv H Q=>∃i,[v]=[V.int i]/\Q (.int (if i<0 then -i else i)) H) qP:=.scalar λH v a q r1 h=>by
 cases a<;>first|(cases h;done)|skip
 cases r1;cases h
 exact⟨_,_,rfl,λ_=>.int _,λQ k=>⟨_,rfl,k⟩⟩
noncomputable def uL:A->A->Option Rr:=opI λi j=>some (.fr (.int (if j > i then j else i)))
noncomputable def uo:A->A->Option Rr:=opI λi j=>some (.fr (.int (if j<i then j else i)))
theorem E9{K:Kx}:OpS K (λv w H Q=>∃i j,[v,w]=[V.int i,V.int j]/\Q (.int (if j > i then j else i)) H) uL:=.scalar λH v w a b q r1 r2 h=>by
 replace h:=bA h
 obtain⟨i,j,rfl,rfl,h⟩:=h
 cases r1;cases r2;cases h
 exact⟨_,_,rfl,λ_=>.int _,λQ k=>⟨_,_,rfl,k⟩⟩
theorem Eo{K:Kx}:OpS K (λv w H Q=>∃i j,[v,w]=[V.int i,V.int j]/\Q (.int (if j<i then j else i)) H) uo:=.scalar λH v w a b q r1 r2 h=>by
 replace h:=bA h
 obtain⟨i,j,rfl,rfl,h⟩:=h
 cases r1;cases r2;cases h
 exact⟨_,_,rfl,λ_=>.int _,λQ k=>⟨_,_,rfl,k⟩⟩
noncomputable def zv:A->Option Rr
 | .int i=>some (.fr (.int i))
 | .bl k=>some (.fr (.int (if k then 1 else 0)))
 | _=>none
theorem Fp{K:Kx}:UnS K (λv H Q=>(∃i,[v]=[V.int i]/\Q (.int i) H)\/∃k,[v]=[V.bl k]/\Q (.int (if k then 1 else 0)) H) zv:=.scalar λH v a q r1 h=>by
 cases a<;>first|(cases h;done)|skip
 ·cases r1;cases h;exact⟨_,_,rfl,λ_=>.int _,λQ k=>.inr ⟨_,rfl,k⟩⟩
 ·cases r1;cases h;exact⟨_,_,rfl,λ_=>.int _,λQ k=>.inl ⟨_,rfl,k⟩⟩
noncomputable def zE:A->Option (List A)
 | .lst xs=>some xs
 | .tup xs=>some xs
 | _=>none
noncomputable def tu(a:A):Option Rr:=match zE a with
 | some xs=>some (.nw (.lst xs))
 | none=>none
noncomputable def g7(a:A):Option Rr:=match zE a with
 | some xs=>some (.fr (.tup xs))
 | none=>none
theorem By{K:Kx}:UnS K (λv H Q=>∃p ys,[v]=[V.ref p]/\(SqL K.K H p ys\/SqT K.K H p ys)/\∀l,H l=none->Q (.ref l) (upd H l (.lst ys))) tu:=by
 intro c σ H ρ τ θ x v a q Q ek hv bd e1 e3 k
 subst ek
 obtain⟨L,bl,i1⟩:=Bd.open bd hv e1
 cases a<;>first|(cases e3;done)|skip
 ·rename_i xs
  cases e3
  obtain⟨p,vs,rfl,s1,rr⟩:=i1.2.1 xs rfl
  exact⟨p,vs,rfl,.inr (eD (g_same _ _ _) s1),λl hl=>k _ _ trivial (bl.gj hl λG H' sm q=>.lst q (rr.sm sm))⟩
 ·rename_i xs
  cases e3
  obtain⟨p,vs,rfl,s1,rr⟩:=i1.1 xs rfl
  exact⟨p,vs,rfl,.inl s1,λl hl=>k _ _ trivial (bl.gj hl λG H' sm q=>.lst q (rr.sm sm))⟩
theorem yL{K:Kx}:UnS K (λv H Q=>∃p ys,[v]=[V.ref p]/\((SqL K.K H p ys/\∀l,H l=none->Q (.ref l) (upd H l (.tup ys)))\/(SqT K.K H p ys/\Q (.ref p) H))) g7:=by
 intro c σ H ρ τ θ x v a q Q ek hv bd e1 e3 k
 subst ek
 obtain⟨L,bl,i1⟩:=Bd.open bd hv e1
 cases a<;>first|(cases e3;done)|skip
 ·rename_i xs
  cases e3
  obtain⟨p,vs,rfl,s1,rr⟩:=i1.2.1 xs rfl
  exact⟨p,vs,rfl,.inr ⟨eD (g_same _ _ _) s1,k _ _ trivial (bl.push (.tup s1 rr))⟩⟩
 ·rename_i xs
  cases e3
  obtain⟨p,vs,rfl,s1,rr⟩:=i1.1 xs rfl
  refine⟨p,vs,rfl,.inl ⟨s1,λl hl=>?_⟩⟩
  obtain⟨b2,sm,np⟩:=bl.new (o:=.tup vs) hl
  exact k _ _ trivial (b2.push (.tup (.inl (.inl (by rw[cc np (bl.fhd hl)];exact bj))) (rr.sm sm)))
end
end M
namespace M
open PySem L2
section
variable{c:Cn}{σ:St}{H:Hp}{ρ:List Sl}{τ:St}{θ:List Sl}
theorem Bd.qL{x:Option V}{s:Sl}{xs:St}{ss:List Sl}(e:xs.length=ss.length)(b:Bd c σ H ρ (x::(xs++τ)) (s::(ss++θ))):Bd c σ H ρ (x::τ) (s::θ):=by
 obtain⟨L,b⟩:=b
 have r:ay c.toKx (c.g H L) H (x::(xs++(τ++σ))) (s::(ss++(θ++ρ))) L:=by have:=b.rel;simpa[LQ] using this
 cases r with
 | cons h r =>
  rename_i L0 L'
  obtain⟨L1,L2,e1,r1,r2⟩:=ay.split e r
  subst e1
  have sl:(L0++L2).Sublist (L0++(L1++L2)):=Ot (OL _) (P4 _ _)
  have sm:Sq (c.g H (L0++(L1++L2))) (c.g H (L0++L2)):=cP λa ha=>sl.subset ha
  exact⟨L0++L2,b.nd.sublist sl,ay.cons (h.sm sm (λ_ _ _ e=>e)) (r2.sm sm (λ_ _ _ e=>e)),λp hp=>b.own p (sl.subset hp),b.fr,b.kp,by have:=b.lt;simp at this ⊢;omega,b.hd⟩
theorem Bd.Kh{ys:St}(b:Bd c (σ++ys) H ρ τ θ):Bd c σ H (ρ.take σ.length) τ θ:=by
 have hl:=b.gF
 rw[L4] at hl
 obtain⟨L,b⟩:=b
 have r:ay c.toKx (c.g H L) H ((τ++σ)++ys) ((θ++ρ.take σ.length)++ρ.drop σ.length) L:=by
  have:=b.rel
  rw[LQ,LQ,MB];exact this
 obtain⟨L1,L2,e1,r1,r2⟩:=ay.split (by simp[b.lt];omega) r
 subst e1
 have sm:Sq (c.g H (L1++L2)) (c.g H L1):=cP λa ha=>Mb _ ha
 refine⟨L1,(L6.mp b.nd).1,r1.sm sm (λ_ _ _ e=>e),λp hp=>b.own p (Mb _ hp),b.fr,λi o h=>?_,b.lt,b.hd⟩
 have hi:i<(ρ.take σ.length).length:=(LI.mp h).1
 rw[Mm] at hi
 have h':ρ[i]?=some (.pv o):=by rw[List.getElem?_take] at h;split at h;exact h;cases h
 have:=b.kp i o h'
 rwa[MK (by omega)] at this
theorem Bd.Jm{n:Nat}(b:Bd c σ H ρ τ θ):Bd c (σ++L7 n none) H (ρ++L7 n .un) τ θ:=by
 have hl:=b.gF
 obtain⟨L,b⟩:=b
 refine⟨L,b.nd,?_,b.own,b.fr,λi o h=>?_,b.lt,b.hd⟩
 ·have:=b.rel.app (kl (k:=c.toKx) (G:=c.g H L) (H:=H) n)
  simpa[LQ] using this
 ·by_cases z:i<ρ.length
  ·rw[MK z] at h
   rw[MK (by omega)]
   exact b.kp i o h
  ·rw[MQ (by omega)] at h
   have:=Qf (Mc h)
   cases this
end
noncomputable abbrev Mg:=A->List Sl->Option (List Sl)
noncomputable abbrev Mgs:=List A->List Sl->Option (List Sl)
noncomputable def TGm(K:Kx)(lo:Nat)(G:Mg):TG:=λv σ H Q=>∃(c:Cn) (ρ:List Sl) (τ:St) (θ:List Sl) (a:A) (ρ':List Sl),c.toKx=K/\Bd c σ H ρ (some v::τ) (.fr a::θ)/\G a ρ=some ρ'/\∀σ' H',σ'.take lo=σ.take lo->σ'.length=σ.length->Bd c σ' H' ρ' τ θ->Q σ' H'
noncomputable def Ll(K:Kx)(lo:Nat)(G:Mgs):TGs:=λvs σ H Q=>∃(c:Cn) (ρ:List Sl) (τ:St) (θ:List Sl) (as:List A) (ρ':List Sl),c.toKx=K/\vs.length=as.length/\Bd c σ H ρ (vs.map some++τ) (as.map Sl.fr++θ)/\G as ρ=some ρ'/\∀σ' H',σ'.take lo=σ.take lo->σ'.length=σ.length->Bd c σ' H' ρ' τ θ->Q σ' H'
structure JG (X:Cx) (lo:Nat) (tg:Expr) (G:Mg):Prop where
 p:PG X tg (TGm (kx X) lo G)
structure JGs (X:Cx) (lo:Nat) (tg:List Expr) (G:Mgs):Prop where
 p:PGs X tg (Ll (kx X) lo G)
noncomputable def aB(i:Nat):Mg:=λa ρ=>put i (.fr a) ρ
noncomputable def cN:Mgs:=λas ρ=>match as with
 | []=>some ρ
 | _=>none
noncomputable def az(g:Mg)(gs:Mgs):Mgs:=λas ρ=>match as with
 | a::as=>match g a ρ with
  | some ρ1=>gs as ρ1
  | none=>none
 | []=>none
noncomputable def cI(n:Nat)(gs:Mgs):Mg:=λa ρ=>match a with
 | .tup as=>if as.length=n then gs as ρ else none
 | _=>none
section
variable{X:Cx}{E:XK}{lo:Nat}
theorem Ap{i:Nat}{x:Str}{pos:Pos}(hN:X.N.Nodup)(hi:X.N[i]?=some x)(hx:Loc X.env.scope x)(hl:lo<=i)(hf:X.fn x=true\/X.env.scope.names.lookup x=some .local:=by first|exact .inl rfl|exact .inr rfl|assumption):JG X lo (.Name x pos) (aB i):=⟨λpins s σ H v u Q I r h=>by
 refine zX hN hi hx hf pins s σ H v u Q I r ?_
 obtain⟨c,ρ,τ,θ,a,ρ',ek,b,em,q⟩:=h
 exact q _ H (by rw[List.take_set_of_le hl]) (by simp) (Bd.put b (λo z=>by cases z) em)⟩
theorem Am:JGs X lo [] cN:=⟨λpins s σ H v u Q I r h=>by
 refine zx pins s σ H v u Q I r ?_
 obtain⟨c,ρ,τ,θ,as,ρ',ek,hl,b,em,q⟩:=h
 cases as with
 | nil=>cases em;cases v with|nil=>exact⟨rfl,q σ H rfl rfl b⟩|cons _ _=>simp at hl
 | cons _ _=>cases em⟩
theorem yJ{e:Expr}{es:List Expr}{g:Mg}{gs:Mgs}(h1:JG X lo e g)(h2:JGs X lo es gs)(hp:∀{t:TG}{u:TGs},PG X e t->PGs X es u->PGs X (e::es) (B7 t u)):JGs X lo (e::es) (az g gs):=⟨λpins s σ H v u Q I r h=>by
 refine hp h1.p h2.p pins s σ H v u Q I r ?_
 obtain⟨c,ρ,τ,θ,as,ρ',ek,hl,b,em,q⟩:=h
 cases as with
 | nil=>cases em
 | cons a as =>
  cases v with
  | nil=>simp at hl
  | cons v vs =>
   unfold az at em
   simp only at em
   cases e1:g a ρ with
   | none=>simp only[e1] at em;cases em
   | some ρ1 =>
    simp only[e1] at em
    refine⟨v,vs,rfl,c,ρ,_,_,a,ρ1,ek,b,e1,λσ' H' t1 l1 b1=>⟨c,ρ1,τ,θ,as,ρ',ek,by simpa using hl,b1,em,λσ2 H2 t2 l2 b2=>q σ2 H2 (t2.trans t1) (l2.trans l1) b2⟩⟩⟩
theorem GJ{es:List Expr}{k n:Nat}{gs:Mgs}{pos:Pos}(hc:X.calm=true)(h:JGs X lo es gs)(hn:(assignEach es X.env).length=n:=by rfl)(hst:(assignEach es X.env).findIdx? (·.1)=none:=by rfl):JG X lo (.Tuple es k pos) (cI n gs):=⟨λpins s σ H v u Q I r h'=>by
 refine D4 hc h.p hn hst pins s σ H v u Q I r ?_
 obtain⟨c,ρ,τ,θ,a,ρ',ek,b,em,q⟩:=h'
 cases a<;>first|(cases em;done)|skip
 rename_i as
 unfold cI at em
 simp only at em
 split at em
 ·rename_i hl
  obtain⟨L,bl,i1⟩:=Bd.open (r:=.fr (.tup as)) b trivial rfl
  obtain⟨p,vs,rfl,s1,rr⟩:=i1.2.1 as rfl
  have:c.K=X.K:=by have:=congrArg Kx.K ek;exact this
  refine⟨p,vs,rfl,by rw[<- this];exact eD (g_same _ _ _) s1,by rw[rr.len];exact hl,c,ρ,τ,θ,as,ρ',ek,rr.len,?_,em,q⟩
  obtain⟨nd,rel,own,fr,kp,lt,hdd⟩:=bl
  exact⟨L,nd,by have:=(ay.frs (H:=H) rr).app rel;simpa[LQ] using this,own,fr,kp,by simp[lt,rr.len],hdd⟩
 ·cases em⟩
def GY(K:Kx)(J:It)(τi:St)(θi:List A)(as:List A):Prop:=∀(c:Cn)(σ:St)(H:Hp)(ρ:List Sl)(τx:St)(θx:List Sl)(τ:St)(θ:List Sl)(i:Nat),c.toKx=K->τx.length=θx.length->Bd c σ H ρ (τx++(τi++τ)) (θx++(θi.map Sl.fr++θ)) ->
 (as.length<=i->J.stop i H)/\∀a,as[i]?=some a->J.go i H/\∀x H',J.yld i H x H'->Bd c σ H' ρ (some x::(τx++(τi++τ))) (.fr a::(θx++(θi.map Sl.fr++θ)))
noncomputable def Kd(K:Kx)(E:XK)(c:Cn)(σ:St)(ρ:List Sl)(τ:St)(θ:List Sl)(R:It->Hp->Prop):Except Str (List A)->Prop
 | .ok as=>∀J H τi θi,τi.length=θi.length->GY K J τi θi as->Bd c σ H ρ (τi++τ) (θi.map Sl.fr++θ)->R J H
 | .error x=>∀C H,K.mg x=some (.ref C)->Bd c σ H ρ τ θ->E (.ref C) none H
noncomputable def TIm(K:Kx)(E:XK)(m:Mi (List A)):TI:=λσ H R=>∃(c:Cn) (ρ:List Sl) (τ:St) (θ:List Sl) (o:Except Str (List A)) (ρ':List Sl),c.toKx=K/\Bd c σ H ρ τ θ/\m ρ=some (o,ρ')/\Kd K E c σ ρ' τ θ R o
structure JI (X:Cx) (E:XK) (tg iter:Expr) (m:Mi (List A)):Prop where
 p:PI X tg iter (TIm (kx X) E m)
theorem ip{c:Cn}{σ:St}{ρ':List Sl}{τ:St}{θ:List Sl}{o:Except Str (List A)}{R:It->Hp->Prop}(q:Kd (kx X) E c σ ρ' τ θ R o):∀e,o=.error e->∀C H,X.mg e=some (.ref C)->Bd c σ H ρ' τ θ->E (.ref C) none H:=λe ee=>by subst ee;exact q
noncomputable def lj(s:Str):List A:=s.cps.toList.map λc=>.str ⟨#[c]⟩
noncomputable def zg:A->Option (List A)
 | .str s=>some (lj s)
 | a=>zE a
noncomputable def cy(m:Mi Rr):Mi (List A):=ax m λr ρ=>match aQ r ρ with
 | some (a,ρ')=>match zg a with
  | some as=>some (.ok as,ρ')
  | none=>none
 | none=>none
theorem Bd.mid{c:Cn}{σ:St}{H:Hp}{ρ:List Sl}{τ:St}{θ:List Sl}{xs:St}{ss:List Sl}{v:V}{a:A}(e:xs.length=ss.length)(b:Bd c σ H ρ (xs++(some v::τ)) (ss++(.fr a::θ))):∃L,BdL c σ H ρ (xs++(some v::τ)) (ss++(.fr a::θ)) L/\RA c.toKx (c.g H L) v a:=by
 obtain⟨L,b⟩:=b
 have r:ay c.toKx (c.g H L) H (xs++(some v::(τ++σ))) (ss++(.fr a::(θ++ρ))) L:=by have:=b.rel;simpa[LQ] using this
 obtain⟨L1,L2,e1,r1,r2⟩:=ay.split e r
 cases r2 with
 | cons h r3=>cases h with|fr h=>exact⟨L,b,h⟩
theorem qO{tg l:Expr}{m:Mi Rr}(hl:JE X E l m):JI X E tg l (cy m):=⟨λpins s σ H R I h=>by
 refine BU hl.p pins s σ H R I ?_
 obtain⟨c,ρ,τ,θ,o,ρ',ek,b,em,q⟩:=h
 refine aR ek b em (λx v ρ1 H1 hv b1 em1=>?_) (ip q)
 cases e1:aQ x ρ1 with
 | none=>simp only[e1] at em1;cases em1
 | some p =>
  obtain⟨a,ρ2⟩:=p
  simp only[e1] at em1
  have b2:=Bd.aQ (xs:=[]) (ss:=[]) rfl b1 hv e1
  cases e2:zg a with
  | none=>simp only[e2] at em1;cases em1
  | some as =>
   simp only[e2] at em1
   cases em1
   have eK:c.K=X.K:=congrArg Kx.K ek
   cases a<;>first|(cases e2;done)|skip
   ·rename_i t
    cases e2
    have rt:=Bd.top b2 (a:=.str t) rfl
    cases rt
    refine .inr ⟨t,rfl,q _ H1 [some (.str t)] [.str t] rfl (λc' σ' H' ρ' τx θx τ' θ' i ek' lx b'=>?_) b2⟩
    obtain⟨L,bl,h⟩:=Bd.mid lx b'
    have hl:(lj t).length=t.cps.size:=by simp[lj]
    refine⟨λhi=>by rw[hl] at hi;exact hi,λa ha=>?_⟩
    have hi:i<t.cps.size:=by rw[<- hl];exact(LI.mp ha).1
    refine⟨hi,λx H2 y=>?_⟩
    obtain⟨rfl,c,hc,rfl⟩:=y
    have:a=.str ⟨#[c]⟩:=by
     unfold lj at ha
     rw[LZ,OI,hc] at ha
     exact(LY ha).symm
    subst this
    exact bl.push (.str _)
   ·cases e2
    have rt:=Bd.top b2 (a:=.tup as) rfl
    cases rt with
    | tup e0 r0 =>
     rename_i p vs
     refine .inl ⟨p,rfl,.inr ⟨⟨vs,by rw[<- eK];exact e0⟩,q _ H1 [some (.ref p)] [.tup as] rfl (λc' σ' H' ρ' τx θx τ' θ' i ek' lx b'=>?_) b2⟩⟩
     have eK':c'.K=X.K:=congrArg Kx.K ek'
     obtain⟨L,bl,h⟩:=Bd.mid lx b'
     cases h with
     | tup e3 r3 =>
      rename_i us
      have sq:SqT X.K H' p us:=by rw[<- eK'];exact eD (g_same _ _ _) e3
      refine⟨λhi=>⟨us,sq,by rw[r3.len];exact hi⟩,λa ha=>?_⟩
      obtain⟨u,h1,h2⟩:=r3.ta ha
      refine⟨⟨us,u,sq,h1⟩,λx H2 y=>?_⟩
      obtain⟨rfl,y⟩:=y
      have:=y us sq
      rw[h1] at this;cases this
      exact bl.push h2
   ·cases e2
    have rt:=Bd.top b2 (a:=.lst as) rfl
    cases rt with
    | lst e0 r0 =>
     rename_i p vs
     refine .inl ⟨p,rfl,.inl ⟨⟨vs,by rw[<- eK];exact e0⟩,q _ H1 [some (.ref p)] [.lst as] rfl (λc' σ' H' ρ' τx θx τ' θ' i ek' lx b'=>?_) b2⟩⟩
     have eK':c'.K=X.K:=congrArg Kx.K ek'
     obtain⟨L,bl,h⟩:=Bd.mid lx b'
     cases h with
     | lst e3 r3 =>
      rename_i us
      have sq:SqL X.K H' p us:=by rw[<- eK'];exact jf (g_same _ _ _) e3
      refine⟨λhi=>⟨us,sq,by rw[r3.len];exact hi⟩,λa ha=>?_⟩
      obtain⟨u,h1,h2⟩:=r3.ta ha
      refine⟨⟨us,u,sq,h1⟩,λx H2 y=>?_⟩
      obtain⟨rfl,y⟩:=y
      have:=y us sq
      rw[h1] at this;cases this
      exact bl.push h2⟩
noncomputable def bP(lo:Int)(n:Nat):List A:=(Mo n).map λi=>.int (lo+(i:Nat))
theorem yj{K:Kx}{lo:Int}{n:Nat}:GY K (Itr lo n) [] [] (bP lo n):=λc σ H ρ τx θx τ θ i ek lx b=>by
 have hl:(bP lo n).length=n:=by simp[bP]
 refine⟨λh=>by rw[hl] at h;exact h,λa ha=>?_⟩
 have hi:i<n:=by rw[<- hl];exact(LI.mp ha).1
 refine⟨hi,λx H' y=>?_⟩
 obtain⟨rfl,rfl⟩:=y
 have:a=.int (lo+i):=by
  unfold bP at ha
  rw[LZ,NW hi] at ha
  exact(LY ha).symm
 subst this
 exact b.push λ_=>.int _
noncomputable def fH(m:Mi Rr):Mi (List A):=ax m λr ρ=>match res ρ r with
 | some (.int j)=>if -(2^60)<=j/\j<2^60 then some (.ok (bP 0 j.toNat),ρ) else none
 | _=>none
theorem zf{tg a:Expr}{m:Mi Rr}{p pos:Pos}(hg:Gl X "range")(hm:X.mg "range" = none)(ha:JE X E a m)(hs:starEach [a] X.env=[(false,eval a X.env)]:=by rfl)(hs':starEach [a] X.env=(false,eval a X.env)::starEach [] X.env:=by rfl):JI X E tg (.Call (.Name "range" p) [a] [] pos) (fH m):=⟨λpins s σ H R I h=>by
 refine uE hg hm (bX ha.p eC hs') hs pins s σ H R I ?_
 obtain⟨c,ρ,τ,θ,o,ρ',ek,b,em,q⟩:=h
 refine aR ek b em (λx v ρ1 H1 hv b1 em1=>?_) (ip q)
 cases e1:res ρ1 x with
 | none=>simp only[e1] at em1;cases em1
 | some a =>
  have r1:=Bd.rd b1 hv e1
  simp only[e1] at em1
  cases a<;>first|(cases em1;done)|skip
  rename_i j
  simp only at em1
  split at em1
  ·rename_i hj
   cases em1
   cases r1
   exact⟨j,rfl,by omega,by omega,q _ H1 [] [] rfl yj b1.drop⟩
  ·cases em1⟩
noncomputable def pL(m n:Mi Rr):Mi (List A):=ax m λr=>ax n λt=>λρ=>match res ρ r,res ρ t with
 | some (.int i),some (.int j)=>if -(2^60)<=i/\i<2^60 /\ -(2^60)<=j/\j<2^60 then some (.ok (bP i (j-i).toNat),ρ) else none
 | _,_=>none
theorem BJ{tg a b:Expr}{m n:Mi Rr}{p pos:Pos}(hg:Gl X "range")(hm:X.mg "range" = none)(ha:JE X E a m)(hb:JE X E b n)(hs:starEach [a,b] X.env=[(false,eval a X.env),(false,eval b X.env)]:=by rfl)(hs2:starEach [b] X.env=[(false,eval b X.env)]:=by rfl)
  (hs3:starEach [a,b] X.env=(false,eval a X.env)::starEach [b] X.env:=by rfl)(hs4:starEach [b] X.env=(false,eval b X.env)::starEach [] X.env:=by rfl):JI X E tg (.Call (.Name "range" p) [a,b] [] pos) (pL m n):=⟨λpins s σ H R I h=>by
 refine uj hg hm (bX ha.p (bX hb.p eC hs4) hs3) hs hs2 pins s σ H R I ?_
 obtain⟨c,ρ,τ,θ,o,ρ',ek,b,em,q⟩:=h
 refine aR ek b em (λx v ρ1 H1 hv b1 em1=>?_) (ip q)
 refine aR ek b1 em1 (λy w ρ2 H2 hw b2 em2=>?_) (fL (ip q))
 cases e1:res ρ2 x with
 | none=>simp only[e1] at em2;cases em2
 | some a =>
  cases e2:res ρ2 y with
  | none=>cases a<;>(simp only[e1,e2] at em2;cases em2)
  | some d =>
   have r2:=Bd.rd b2 hw e2
   have r1:=Bd.rd b2.drop hv e1
   simp only[e1,e2] at em2
   cases a<;>first|(cases em2;done)|skip
   cases d<;>first|(cases em2;done)|skip
   rename_i i j
   simp only at em2
   split at em2
   ·rename_i hj
    cases em2
    cases r1;cases r2
    exact⟨i,j,rfl,⟨by omega,by omega,by omega,by omega⟩,q _ H2 [] [] rfl yj b2.drop.drop⟩
   ·cases em2⟩
noncomputable def forL(G:Mg)(b:Ms):List A->Ms
 | [],ρ=>some (.nx,ρ)
 | a::as,ρ=>match G a ρ with
  | none=>none
  | some ρ1=>match b ρ1 with
   | some (.nx,ρ2)=>forL G b as ρ2
   | some (.ct,ρ2)=>forL G b as ρ2
   | some (.bk,ρ2)=>some (.nx,ρ2)
   | r=>r
noncomputable def c8(m:Mi (List A))(G:Mg)(b:Ms):Ms:=bu m λas ρ=>forL G b as ρ
theorem Ea{tg iter:Expr}{body:List Stmt}{m:Mi (List A)}{G:Mg}{mb:Ms}{pos:Pos}(hp:PassesOwn (model X.prog X.w) X.A X.env X.xe)(hc:X.calm=true)(hi:JI X E tg iter m)(hg:JG X 0 tg G)(hb:JSs X E body mb)
  (hs:∀x,foldedSetIterable iter X.env x=pure x:=by intro _;rfl):JS X E (.For tg iter body [] pos) (c8 m G mb):=⟨PS.weaken (FG hp hc hi.p hg.p hb.p hs) λD σ H h=>by
 obtain⟨c,ρ,τ,θ,f,ρ',ek,b,em,q⟩:=h
 rcases cS em with ⟨as,ρ1,e1,e2⟩|⟨e,e1,e2⟩
 ·refine⟨c,ρ,τ,_,_,ρ1,ek,b,e1,λJ H1 τi θi li it b1=>?_⟩
  refine⟨λi m σ' H'=>m=as.length-i/\i<=as.length/\∃ρi,Bd c σ' H' ρi (τi++τ) (θi.map Sl.fr++θ.map Sl.fr)/\forL G mb (as.drop i) ρi=some (f,ρ'),⟨_,rfl,MT _,ρ1,b1,by simpa using e2⟩,?_⟩
  rintro i m σ' H' ⟨rfl,hi,ρi,bi,ei⟩
  obtain⟨i1,i2⟩:=it c σ' H' ρi [] [] τ (θ.map Sl.fr) i ek rfl bi
  by_cases hlt:i<as.length
  ·have hd:as.drop i=as[i]::as.drop (i+1):=MF hlt
   rw[hd] at ei
   obtain⟨go,yl⟩:=i2 as[i] (by simp[hlt])
   refine .inr ⟨go,λσ2 H2=>∃ρ2,Bd c σ2 H2 ρ2 (τi++τ) (θi.map Sl.fr++θ.map Sl.fr)/\forL G mb (as.drop (i+1)) ρ2=some (f,ρ'),λσ2 H2 ⟨ρ2,q1,q2⟩=>⟨as.length-(i+1),by omega,rfl,hlt,ρ2,q1,q2⟩,λx H2 y=>?_⟩
   have b2:=yl x H2 y
   unfold forL at ei
   cases eg:G as[i] ρi with
   | none=>simp only[eg] at ei;cases ei
   | some ρ2 =>
    simp only[eg] at ei
    refine⟨c,ρi,_,_,as[i],ρ2,ek,b2,eg,λσ3 H3 _ _ b3=>?_⟩
    cases eb:mb ρ2 with
    | none=>simp only[eb] at ei;cases ei
    | some p =>
     obtain⟨f1,ρ3⟩:=p
     simp only[eb] at ei
     refine⟨c,ρ2,τi++τ,θi++θ,f1,ρ3,ek,by rw[Mh];exact b3,eb,?_⟩
     cases f1 with
     | nx=>intro σ4 H4 b4;rw[Mh] at b4;exact⟨ρ3,b4,ei⟩
     | ct=>intro σ4 H4 b4;rw[Mh] at b4;exact⟨ρ3,b4,ei⟩
     | bk=>cases ei;intro σ4 H4 b4;rw[Mh] at b4;exact q σ4 H4 (Bd.BE (by simp[li]) b4)
     | rt s=>cases ei;intro v σ4 H4 hs b4;rw[Mh] at b4;exact q v σ4 H4 hs (Bd.qL (by simp[li]) b4)
     | ex x=>cases ei;intro C σ4 H4 hm b4;rw[Mh] at b4;exact q C σ4 H4 hm (Bd.BE (by simp[li]) b4)
  ·have e:i=as.length:=by omega
   subst e
   rw[Ou] at ei
   cases ei
   exact .inl ⟨i1 (LU _),q σ' H' (Bd.BE (by simp[li]) bi)⟩
 ·subst e2
  exact⟨c,ρ,τ,_,_,ρ',ek,b,e1,λC H1 hm b1=>q C σ H1 hm b1⟩⟩
noncomputable def dO(t:Mi Bool)(b:Ms):Nat->Ms
 | 0,_=>none
 | n+1,ρ=>match t ρ with
  | some (.ok true,ρ1)=>match b ρ1 with
   | some (.nx,ρ2)=>dO t b n ρ2
   | some (.ct,ρ2)=>dO t b n ρ2
   | some (.bk,ρ2)=>some (.nx,ρ2)
   | r=>r
  | some (.ok false,ρ1)=>some (.nx,ρ1)
  | some (.error e,ρ1)=>some (.ex e,ρ1)
  | none=>none
noncomputable def iO(n:Nat)(t:Mi Bool)(b:Ms):Ms:=dO t b n
theorem yF{n:Nat}{t:Expr}{body:List Stmt}{mt:Mi Bool}{mb:Ms}{pos:Pos}(hp:PassesOwn (model X.prog X.w) X.A X.env X.xe)(ht:JT X E t mt)(hb:JSs X E body mb):JS X E (.While t body [] pos) (iO n mt mb):=⟨PS.weaken (u6 hp ht.p hb.p) λD σ H h=>by
 obtain⟨c,ρ,τ,θ,f,ρ',ek,b,em,q⟩:=h
 refine⟨λm σ' H'=>∃ρi,Bd c σ' H' ρi τ (θ.map Sl.fr)/\dO mt mb m ρi=some (f,ρ'),⟨n,ρ,b,em⟩,?_⟩
 rintro m σ' H' ⟨ρi,bi,ei⟩
 cases m with
 | zero=>cases ei
 | succ m =>
  unfold dO at ei
  cases et:mt ρi with
  | none=>simp only[et] at ei;cases ei
  | some p =>
   obtain⟨o,ρ1⟩:=p
   refine⟨c,ρi,τ,_,o,ρ1,ek,bi,et,?_⟩
   cases o with
   | error e=>simp only[et] at ei;cases ei;exact λC H1 hm b1=>q C σ' H1 hm b1
   | ok k =>
    intro H1 b1
    cases k with
    | false=>simp only[et] at ei;cases ei;rw[if_neg (by decide)];exact q σ' H1 b1
    | true =>
     simp only[et] at ei
     rw[if_pos rfl]
     refine⟨λσ2 H2=>∃ρ2,Bd c σ2 H2 ρ2 τ (θ.map Sl.fr)/\dO mt mb m ρ2=some (f,ρ'),λσ2 H2 w=>⟨m,NR _,w⟩,?_⟩
     cases eb:mb ρ1 with
     | none=>simp only[eb] at ei;cases ei
     | some p =>
      obtain⟨f1,ρ3⟩:=p
      simp only[eb] at ei
      refine⟨c,ρ1,τ,θ,f1,ρ3,ek,b1,eb,?_⟩
      cases f1 with
      | nx=>exact λσ4 H4 b4=>⟨ρ3,b4,ei⟩
      | ct=>exact λσ4 H4 b4=>⟨ρ3,b4,ei⟩
      | bk=>cases ei;exact λσ4 H4 b4=>q σ4 H4 b4
      | rt s=>cases ei;exact λv σ4 H4 hs b4=>q v σ4 H4 hs b4
      | ex x=>cases ei;exact λC σ4 H4 hm b4=>q C σ4 H4 hm b4⟩
end
end M
namespace M
open PySem L2
theorem gn(r:Rr)(v:V)(t:St)(u:List Sl):bJ r v t=bJ r v []++t/\bG r u=bG r []++u/\(bJ r v []).length=(bG r []).length:=by cases r<;>exact⟨rfl,rfl,rfl⟩
theorem nC:100000<sizeLine:=by rw[sizeLine_eq];decide
noncomputable def dA(G:Mg)(t:Mi Bool)(e:Mi Rr):List A->List A->List Sl->Option (List A×List Sl)
 | [],acc,ρ=>some (acc,ρ)
 | a::as,acc,ρ=>match G a ρ with
  | none=>none
  | some ρ1=>match t ρ1 with
   | some (.ok true,ρ2)=>match e ρ2 with
    | some (.ok r,ρ3)=>match aQ r ρ3 with
     | some (d,ρ4)=>dA G t e as (acc++[d]) ρ4
     | none=>none
    | _=>none
   | some (.ok false,ρ2)=>dA G t e as acc ρ2
   | _=>none
noncomputable def aZ:Mi Bool:=jh true
noncomputable def cL(n:Nat)(mi:Mi (List A))(G:Mg)(t:Mi Bool)(e:Mi Rr):Mi Rr:=ax mi λas ρ=>if as.length<=100000 then match dA G t e as [] (ρ++L7 n .un) with
 | some (ys,ρ')=>some (.ok (.nw (.lst ys)),ρ'.take ρ.length)
 | none=>none else none
structure JF (X:Cx) (E:XK) (ifs:List Expr) (m:Mi Bool):Prop where
 p:PF X ifs (TTm (kx X) E m)
section
variable{X:Cx}{E:XK}
theorem Gu:JF X E [] aZ:=⟨λpins s σ H Q I h=>by
 refine F7 pins s σ H Q I ?_
 obtain⟨c,ρ,τ,θ,o,ρ',ek,b,em,q⟩:=h
 cases em;exact q H b⟩
theorem Ez{t:Expr}{m:Mi Bool}(h:JT X E t m):JF X E [t] m:=⟨Ga h.p⟩
noncomputable abbrev E00:XK:=λ_ _ _=>False
theorem ub{n:Nat}{G:Mg}{mt:Mi Bool}{me:Mi Rr}{lo:Nat}{c:Cn}{σ τ τi:St}{H1:Hp}{ρ1 ρ2:List Sl}{θ:List Sl}{θi as ys:List A}{J:It}{Q:VK}(hlo:σ.length=lo)(ek:c.toKx=kx X)(li:τi.length=θi.length)
  (it:∀σ H ρ τx θx i,τx.length=θx.length->Bd c σ H ρ (τx++(τi++τ)) (θx++(θi.map Sl.fr++θ))->(as.length<=i->J.stop i H)/\∀a,as[i]?=some a->J.go i H/\∀x H',J.yld i H x H'->Bd c σ H' ρ (some x::(τx++(τi++τ))) (.fr a::(θx++(θi.map Sl.fr++θ))))
  (b1:Bd c σ H1 ρ1 (τi++τ) (θi.map Sl.fr++θ))(h100:as.length<=100000)(ec:dA G mt me as [] (ρ1++L7 n .un)=some (ys,ρ2))(q:Ret (kx X) E c σ (ρ2.take ρ1.length) τ θ Q (.ok (.nw (.lst ys)))) :
  wd J (TGm (kx X) lo G) (TTm (kx X) E00 mt) (TEm (kx X) E00 me) Q (σ++L7 n none) H1:=by
 have hlen:σ.length=ρ1.length:=b1.gF
 refine⟨λi m σ' vs H'=>m=as.length-i/\i<=as.length/\σ'.take lo=σ/\∃ρi acc,vs.length=acc.length/\acc.length<=i/\Bd c σ' H' ρi (vs.reverse.map some++(τi++τ)) (acc.reverse.map Sl.fr++(θi.map Sl.fr++θ))/\dA G mt me (as.drop i) acc ρi=some (ys,ρ2),
  ⟨_,rfl,MT _,by rw[<- hlo,Rt],_,[],rfl,MT _,b1.Jm,by simpa using ec⟩,?_⟩
 rintro i m σ' vs H' ⟨rfl,hi,htk,ρi,acc,lv,la,bi,ei⟩
 refine⟨by have:=hZ;omega,?_⟩
 obtain⟨i1,i2⟩:=it σ' H' ρi (vs.reverse.map some) (acc.reverse.map Sl.fr) i (by simp[lv]) bi
 by_cases hlt:i<as.length
 ·have hd:as.drop i=as[i]::as.drop (i+1):=MF hlt
  rw[hd] at ei
  obtain⟨go,yl⟩:=i2 as[i] (by simp[hlt])
  refine .inr ⟨go,λσ2 vs2 H2=>σ2.take lo=σ/\∃ρ3 acc2,vs2.length=acc2.length/\acc2.length<=i+1/\Bd c σ2 H2 ρ3 (vs2.reverse.map some++(τi++τ)) (acc2.reverse.map Sl.fr++(θi.map Sl.fr++θ))/\dA G mt me (as.drop (i+1)) acc2 ρ3=some (ys,ρ2),
   λσ2 vs2 H2 ⟨q0,ρ3,acc2,q1,q2,q3,q4⟩=>⟨as.length-(i+1),by omega,rfl,hlt,q0,ρ3,acc2,q1,q2,q3,q4⟩,λx H2 y=>?_⟩
  have b2:=yl x H2 y
  unfold dA at ei
  cases eg:G as[i] ρi with
  | none=>simp only[eg] at ei;cases ei
  | some ρ3 =>
   simp only[eg] at ei
   refine⟨c,ρi,_,_,as[i],ρ3,ek,b2,eg,λσ3 H3 t3 l3 b3=>?_⟩
   cases et:mt ρ3 with
   | none=>simp only[et] at ei;cases ei
   | some p =>
    obtain⟨ot,ρ4⟩:=p
    cases ot with
    | error e=>simp only[et] at ei;cases ei
    | ok k =>
     refine⟨c,ρ3,_,_,.ok k,ρ4,ek,b3,et,λH4 b4=>?_⟩
     cases k with
     | false =>
      simp only[et] at ei
      rw[if_neg (by decide)]
      exact⟨t3.trans htk,ρ4,acc,lv,by omega,b4,ei⟩
     | true =>
      simp only[et] at ei
      rw[if_pos rfl]
      cases ee:me ρ4 with
      | none=>simp only[ee] at ei;cases ei
      | some p =>
       obtain⟨oe,ρ5⟩:=p
       cases oe with
       | error e=>simp only[ee] at ei;cases ei
       | ok r =>
        simp only[ee] at ei
        refine⟨c,ρ4,_,_,.ok r,ρ5,ek,b4,ee,λv H5 hv b5=>?_⟩
        cases ef:aQ r ρ5 with
        | none=>simp only[ef] at ei;cases ei
        | some p =>
         obtain⟨d,ρ6⟩:=p
         simp only[ef] at ei
         have b6:=Bd.aQ (xs:=[]) (ss:=[]) rfl b5 hv ef
         exact⟨t3.trans htk,ρ6,acc++[d],by simp[lv],by simp;omega,by simpa using b6,ei⟩
 ·have e:i=as.length:=by omega
  subst e
  rw[Ou] at ei
  cases ei
  refine .inl ⟨i1 (LU _),λp hp=>?_⟩
  have b7:=Bd.qI bi (by simp[lv]) hp vs ys n5
  have b8:=Bd.qL (by simp[li]) b7
  have es:σ'=σ++σ'.drop lo:=by rw[<- htk];exact(MB _ _).symm
  rw[es] at b8
  have b9:=b8.Kh
  rw[hlen] at b9
  exact q _ _ trivial b9
theorem mx{n:Nat}{mi:Mi (List A)}{G:Mg}{mt:Mi Bool}{me:Mi Rr}{lo:Nat}(σ:St)(H:Hp)(Q:VK)(hlo:σ.length=lo)(h:TEm (kx X) E (cL n mi G mt me) σ H Q) :
  sj n (TIm (kx X) E mi) (TGm (kx X) lo G) (TTm (kx X) E00 mt) (TEm (kx X) E00 me) σ H Q:=by
 obtain⟨c,ρ,τ,θ,o,ρ',ek,b,em,q⟩:=h
 rcases bind_some em with ⟨as,ρ1,e1,e2⟩|⟨e,e1,e2⟩
 ·refine⟨c,ρ,τ,θ,_,ρ1,ek,b,e1,λJ H1 τi θi li it b1=>?_⟩
  split at e2
  ·rename_i h100
   cases ec:dA G mt me as [] (ρ1++L7 n .un) with
   | none=>simp only[ec] at e2;cases e2
   | some p =>
    obtain⟨ys,ρ2⟩:=p
    simp only[ec] at e2
    cases e2
    exact ub hlo ek li (λσ H ρ τx θx i l b=>it c σ H ρ τx θx τ θ i ek l b) b1 h100 ec q
  ·cases e2
 ·subst e2
  exact⟨c,ρ,τ,θ,_,ρ',ek,b,e1,λC H1 hm b1=>q C H1 hm b1⟩
theorem tw{N:List Str}{k:Nat}{sc:Scope}{tg elt iter:Expr}{ifs:List Expr}{pos:Pos}{mi:Mi (List A)}{G:Mg}{mt:Mi Bool}{me:Mi Rr}{lo:Nat}(hc:X.calm=true)(S:eJ X.N N k sc X.env.scope)(hlo:X.N.length=lo)(hi:JI X E tg iter mi)
  (hg:∀cl C s H fp,JG (cxC X N sc cl C s H fp) lo tg G)(ht:∀cl C s H fp,JF (cxC X N sc cl C s H fp) E00 ifs mt)(he:∀cl C s H fp,JE (cxC X N sc cl C s H fp) E00 elt me)(hs:∀x,foldedSetIterable iter X.env x=pure x:=by intro _;rfl) :
  JE X E (.ListComp elt [⟨tg,iter,ifs,0⟩] sc pos) (cL k mi G mt me) :=
 ⟨λpins s σ H Q I h=>rJ hc S hi.p (λcl C s H fp=>(hg cl C s H fp).p) (λcl C s H fp=>(ht cl C s H fp).p) (λcl C s H fp=>(he cl C s H fp).p) hs pins s σ H Q I (mx σ H Q (I.len.trans hlo) h)⟩
theorem Br{i:Nat}{x:Str}{px spos:Pos}{N:List Str}{k:Nat}{sc:Scope}{tg elt iter:Expr}{ifs:List Expr}{pos:Pos}{mi:Mi (List A)}{G:Mg}{mt:Mi Bool}{me:Mi Rr}{lo:Nat}(hc:X.calm=true)(S:eJ X.N N k sc X.env.scope)(hlo:X.N.length=lo)(hN:X.N.Nodup)(hx:X.N[i]?=some x)
  (hl:X.env.scope.names.lookup x=some .local)(hsw:swapsWith (.ListComp elt [⟨tg,iter,ifs,0⟩] sc pos) (some (.Name x px)) spos.line X.env=pure true)(hi:JI X E tg iter mi)
  (hg:∀cl C s H fp,JG (cxC X N sc cl C s H fp) lo tg G)(ht:∀cl C s H fp,JF (cxC X N sc cl C s H fp) E00 ifs mt)(he:∀cl C s H fp,JE (cxC X N sc cl C s H fp) E00 elt me)(hs:∀x,foldedSetIterable iter X.env x=pure x:=by intro _;rfl) :
  JS X E (.Assign [.Name x px] (.ListComp elt [⟨tg,iter,ifs,0⟩] sc pos) spos) (aD i (cL k mi G mt me)) :=
 ⟨λpins s σ H D I h=>Bf hc S hN hx hl hsw hi.p (λcl C s H fp=>(hg cl C s H fp).p) (λcl C s H fp=>(ht cl C s H fp).p) (λcl C s H fp=>(he cl C s H fp).p) hs pins s σ H D I (by
  obtain⟨c,ρ,τ,θ,f,ρ',ek,b,em,q⟩:=h
  refine mx (E:=E) σ H _ (I.len.trans hlo) (d9 ek b em q λr v ρ1 H1 hv b1 em1=>?_)
  cases e1:stT r ρ1 with
  | none=>simp only[e1] at em1;cases em1
  | some p =>
   obtain⟨t,ρ2⟩:=p
   simp only[e1] at em1
   obtain⟨b2,ht⟩:=Bd.stT hv b1 e1
   cases e2:put i t ρ2 with
   | none=>simp only[e2] at em1;cases em1
   | some ρ3 =>
    simp only[e2] at em1;cases em1
    exact q _ H1 (Bd.put b2 ht e2))⟩
noncomputable def aC(ρ:List Sl)(i:Nat):Option LO:=match ρ[i]? with
 | some (.lv o)=>some o
 | some (.pv o)=>some o
 | _=>none
noncomputable def setAt(ρ:List Sl)(i:Nat)(o:LO):List Sl:=match ρ[i]? with
 | some (.pv _)=>ρ.set i (.pv o)
 | _=>ρ.set i (.lv o)
theorem BdL.live{c:Cn}{σ:St}{H:Hp}{ρ:List Sl}{τ:St}{θ:List Sl}{L:List Addr}{i:Nat}{o:LO}(b:BdL c σ H ρ τ θ L)(h:aC ρ i=some o)(o':LO)(u:HO) :
  ∃p,σ[i]?=some (some (.ref p))/\LR c.toKx (c.g H L) H p o/\((∀H',H' p=some u->LR c.toKx (c.g H L) H' p o')->Bd c σ (upd H p u) (setAt ρ i o') τ θ):=by
 unfold aC at h
 unfold setAt
 cases es:ρ[i]? with
 | none=>simp only[es] at h;cases h
 | some s =>
  cases s with
  | un=>simp only[es] at h;cases h
  | fr a=>simp only[es] at h;cases h
  | lv o1=>simp only[es] at h;cases h;exact b.change es (.inl ⟨rfl,rfl⟩)
  | pv o1=>simp only[es] at h;cases h;exact b.change es (.inr ⟨rfl,rfl⟩)
theorem Bd.oq{c:Cn}{σ:St}{H:Hp}{ρ:List Sl}{τ:St}{θ:List Sl}{v:V}{a:A}(b:Bd c σ H ρ (some v::τ) (.fr a::θ)):∃L,BdL c σ H ρ τ θ L/\RA c.toKx (c.g H L) v a:=by
 obtain⟨L,bl,r⟩:=Bd.frs (vs:=[v]) (as:=[a]) b rfl
 cases r with|cons h _=>exact⟨L,bl,h⟩
noncomputable def cJ(i:Nat)(m:Mi Rr):Mi Rr:=ax m λr ρ=>match aQ r ρ with
 | some (a,ρ1)=>match aC ρ1 i with
  | some (.lst xs)=>if xs.length<=100000 then some (.ok (.fr .non),setAt ρ1 i (.lst (xs++[a]))) else none
  | _=>none
 | none=>none
theorem eL{c:Cn}{σ:St}{H:Hp}{ρ:List Sl}{τ:St}{θ:List Sl}{i:Nat}{xs:List A}(b:Bd c σ H ρ τ θ)(h:aC ρ i=some (.lst xs)):∃p vs,σ[i]?=some (some (.ref p))/\H p=some (.lst vs):=by
 obtain⟨L,b⟩:=b
 obtain⟨p,h1,h2,_⟩:=b.live h (.lst xs) (.lst [])
 cases h2 with|lst e r=>exact⟨p,_,h1,e⟩
noncomputable def isL(ρ:List Sl)(i:Nat):Bool:=match aC ρ i with
 | some (.lst _)=>true
 | _=>false
noncomputable def eR(i:Nat)(m:Mi Rr):Mi Rr:=λρ=>if isL ρ i then m ρ else none
theorem kK{ρ:List Sl}{i:Nat}(h:isL ρ i=true):∃xs,aC ρ i=some (.lst xs):=by
 unfold isL at h
 cases e:aC ρ i with
 | none=>rw[e] at h;cases h
 | some o=>cases o with
  | lst xs=>exact⟨xs,rfl⟩
  | dic _=>rw[e] at h;cases h
  | obj _ _=>rw[e] at h;cases h
theorem tU{i:Nat}{x:Str}{px apos cpos:Pos}{e:Expr}{m:Mi Rr}(hN:X.N[i]?=some x)(hv:Vis X.env.scope x)(hd:NDb x)(hcd:NCd x)(he:JE X E e m)
  (hbase:attributeBase (.Name x px) "append" X.env (eval (.Name x px) X.env)=eval (.Name x px) X.env:=by rfl)
  (hfew:((backTo cpos (starEach [e] X.env)).all (λx=>!x.1)&&(backToKw cpos (keywordEach [] X.env)).all (λx=>x.1.isSome)&&decide (([e]:List Expr).length+([]:List Keyword).length+(if ([]:List Keyword).isEmpty then 0 else 1)<30))=true:=by rfl)
  (hline:(apos.endLine==cpos.line)=true:=by rfl)(hs:starEach [e] X.env=(false,eval e X.env)::starEach [] X.env:=by rfl)(hplain:(backTo cpos (starEach [] X.env)).any (·.1)=false:=by rfl) :
  JE X E (.Call (.Attribute (.Name x px) "append" apos) [e] [] cpos) (eR i (cJ i m)) :=
 ⟨PE.weaken (u9 NC PySem.F.slot_list_append PySem.F.type_list_append uS (dk hN hv hd hcd) (bX he.p eC hs) hbase hfew hline hs hplain) λσ H Q h=>by
  obtain⟨c,ρ,τ,θ,o,ρ',ek,b,em,q⟩:=h
  unfold eR at em
  split at em
  ·rename_i hl
   obtain⟨xs0,hl⟩:=kK hl
   obtain⟨p,vs,hp,hH⟩:=eL b hl
   refine⟨_,hp,.inl ⟨rfl,vs,.inl (.inl hH)⟩,?_⟩
   refine aR ek b em (λr v ρ1 H1 hv b1 em1=>?_) (aM q)
   cases e1:aQ r ρ1 with
   | none=>simp only[e1] at em1;cases em1
   | some pr =>
    obtain⟨a,ρ2⟩:=pr
    simp only[e1] at em1
    have b2:=Bd.aQ (xs:=[]) (ss:=[]) rfl b1 hv e1
    cases e2:aC ρ2 i with
    | none=>simp only[e2] at em1;cases em1
    | some lo =>
     cases lo with
     | dic _=>simp only[e2] at em1;cases em1
     | obj _ _=>simp only[e2] at em1;cases em1
     | lst xs =>
      simp only[e2] at em1
      split at em1
      ·rename_i hx
       cases em1
       obtain⟨L,bl,ra⟩:=Bd.oq b2
       obtain⟨p',h1,h2,h3⟩:=bl.live e2 (.lst (xs++[a])) (.lst ((match H1 p with|some (.lst ws)=>ws|_=>[])++[v]))
       rw[hp] at h1;cases h1
       cases h2 with
       | lst e rr =>
        rename_i ws
        simp only[e] at h3
        refine⟨p,ws,v,rfl,rfl,e,by have:=rr.len;have:=nC;omega,q _ _ trivial (Bd.push (h3 λH' hh=>.lst hh (rr.snoc ra)) λ_=>.non)⟩
      ·cases em1
  ·cases em⟩
noncomputable def iQ(i:Nat)(mk m:Mi Rr):Ms:=bu m λr ρ0=>if isL ρ0 i then bu mk (λrk=>λρ=>match aQ r ρ with
 | some (a,ρ1)=>match res ρ1 rk,aC ρ1 i with
  | some (.int k),some (.lst xs)=>match ixN xs.length k with
   | some j=>some (.nx,setAt ρ1 i (.lst (xs.set j a)))
   | none=>none
  | _,_=>none
 | none=>none) ρ0 else none
theorem vh{i:Nat}{x:Str}{px p1 pos:Pos}{ek e:Expr}{mk m:Mi Rr}(hN:X.N[i]?=some x)(hv:Vis X.env.scope x)(hd:NDb x)(hcd:NCd x)(hk:JE X E ek mk)(he:JE X E e m)
  (hp:∀{to ti te:TE},PE X (.Name x px) to->PE X ek ti->PE X e te->PS X (.Assign [.Subscript (.Name x px) ek p1] e pos) (yf te (GX to ti Cv))):JS X E (.Assign [.Subscript (.Name x px) ek p1] e pos) (iQ i mk m) :=
 ⟨PS.weaken (hp (dk hN hv hd hcd) hk.p he.p) λD σ H h=>by
  obtain⟨c,ρ,τ,θ,f,ρ',ek,b,em,q⟩:=h
  refine d9 ek b em q λr v ρ1 H1 hv b1 em1=>?_
  split at em1
  ·rename_i hl
   obtain⟨xs0,hl⟩:=kK hl
   obtain⟨p,vs,hp,hH⟩:=eL b1 hl
   refine⟨_,hp,?_⟩
   rcases cS em1 with ⟨rk,ρ2,e1,e2⟩|⟨ee,e1,e2⟩
   ·refine⟨c,ρ1,_,_,_,ρ2,ek,b1,e1,λw H2 hw b2=>?_⟩
    cases ef:aQ r ρ2 with
    | none=>simp only[ef] at e2;cases e2
    | some pr =>
     obtain⟨a,ρ3⟩:=pr
     simp only[ef] at e2
     have b3:Bd c σ H2 ρ3 (bJ rk w (some v::τ)) (bG rk (.fr a::θ.map Sl.fr)):=by
      obtain⟨g1,g2,g3⟩:=gn rk w (bJ r v τ) (bG r (θ.map Sl.fr))
      obtain⟨g4,g5,_⟩:=gn rk w (some v::τ) (.fr a::θ.map Sl.fr)
      rw[g4,g5]
      rw[g1,g2] at b2
      exact Bd.aQ g3 b2 hv ef
     cases er:res ρ3 rk with
     | none=>simp only[er] at e2;cases e2
     | some ak =>
      cases ak<;>first|(simp only[er] at e2;cases e2;done)|skip
      rename_i k
      have rk':=Bd.rd b3 hw er
      cases rk'
      cases el:aC ρ3 i with
      | none=>simp only[er,el] at e2;cases e2
      | some lo =>
       cases lo with
       | dic _=>simp only[er,el] at e2;cases e2
       | obj _ _=>simp only[er,el] at e2;cases e2
       | lst xs =>
        simp only[er,el] at e2
        cases ej:ixN xs.length k with
        | none=>simp only[ej] at e2;cases e2
        | some j =>
         simp only[ej] at e2;cases e2
         obtain⟨L,bl,ra⟩:=Bd.oq b3.drop
         obtain⟨p',h1,h2,h3⟩:=bl.live el (.lst (xs.set j a)) (.lst ((match H2 p with|some (.lst ws)=>ws|_=>[]).set j v))
         rw[hp] at h1;cases h1
         cases h2 with
         | lst e rr =>
          rename_i ws
          simp only[e] at h3
          exact⟨p,ws,k,j,rfl,rfl,e,by rw[rr.len];exact ej,q σ _ (h3 λH' hh=>.lst hh (rr.set ra j))⟩
   ·subst e2
    exact⟨c,ρ1,_,_,_,ρ',ek,b1,e1,λC H2 hm b2=>q C σ H2 hm b2.drop⟩
  ·cases em1⟩
noncomputable def vL(ρ:List Sl)(i:Nat):Bool:=match aC ρ i with
 | some (.dic _)=>true
 | _=>false
theorem uf{ρ:List Sl}{i:Nat}(h:vL ρ i=true):∃xs,aC ρ i=some (.dic xs):=by
 unfold vL at h
 cases e:aC ρ i with
 | none=>rw[e] at h;cases h
 | some o=>cases o with
  | dic xs=>exact⟨xs,rfl⟩
  | lst _=>rw[e] at h;cases h
  | obj _ _=>rw[e] at h;cases h
theorem ya{c:Cn}{σ:St}{H:Hp}{ρ:List Sl}{τ:St}{θ:List Sl}{i:Nat}{xs:List (Key×A)}(b:Bd c σ H ρ τ θ)(h:aC ρ i=some (.dic xs)):∃p vs,σ[i]?=some (some (.ref p))/\H p=some (.dK vs):=by
 obtain⟨L,b⟩:=b
 obtain⟨p,h1,h2,_⟩:=b.live h (.dic xs) (.lst [])
 cases h2 with|dic e r=>exact⟨p,_,h1,e⟩
noncomputable def ed(i:Nat)(mk m:Mi Rr):Ms:=bu m λr ρ0=>if vL ρ0 i then bu mk (λrk=>λρ=>match aQ r ρ with
 | some (a,ρ1)=>match res ρ1 rk,aC ρ1 i with
  | some ka,some (.dic kvs)=>match gH ka with
   | some y=>if kvs.length<=100000 then some (.nx,setAt ρ1 i (.dic (kE kvs y a))) else none
   | none=>none
  | _,_=>none
 | none=>none) ρ0 else none
theorem Bb{i:Nat}{x:Str}{px p1 pos:Pos}{ek e:Expr}{mk m:Mi Rr}(hu:X.A.units+1<cLine)(hN:X.N[i]?=some x)(hv:Vis X.env.scope x)(hd:NDb x)(hcd:NCd x)(hk:JE X E ek mk)(he:JE X E e m)
  (hs:swapsWith e (some (.Subscript (.Name x px) ek p1)) pos.line X.env=pure false:=by rfl):JS X E (.Assign [.Subscript (.Name x px) ek p1] e pos) (ed i mk m) :=
 ⟨PS.weaken (zJ hu (dk hN hv hd hcd) hk.p he.p hs) λD σ H h=>by
  obtain⟨c,ρ,τ,θ,f,ρ',ek,b,em,q⟩:=h
  refine d9 ek b em q λr v ρ1 H1 hv b1 em1=>?_
  split at em1
  ·rename_i hl
   obtain⟨xs0,hl⟩:=uf hl
   obtain⟨p,vs,hp,hH⟩:=ya b1 hl
   refine⟨_,hp,?_⟩
   rcases cS em1 with ⟨rk,ρ2,e1,e2⟩|⟨ee,e1,e2⟩
   ·refine⟨c,ρ1,_,_,_,ρ2,ek,b1,e1,λw H2 hw b2=>?_⟩
    cases ef:aQ r ρ2 with
    | none=>simp only[ef] at e2;cases e2
    | some pr =>
     obtain⟨a,ρ3⟩:=pr
     simp only[ef] at e2
     have b3:Bd c σ H2 ρ3 (bJ rk w (some v::τ)) (bG rk (.fr a::θ.map Sl.fr)):=by
      obtain⟨g1,g2,g3⟩:=gn rk w (bJ r v τ) (bG r (θ.map Sl.fr))
      obtain⟨g4,g5,_⟩:=gn rk w (some v::τ) (.fr a::θ.map Sl.fr)
      rw[g4,g5]
      rw[g1,g2] at b2
      exact Bd.aQ g3 b2 hv ef
     cases er:res ρ3 rk with
     | none=>simp only[er] at e2;cases e2
     | some ka =>
      have rk':=Bd.rd b3 hw er
      cases el:aC ρ3 i with
      | none=>simp only[er,el] at e2;cases e2
      | some lo =>
       cases lo with
       | lst _=>simp only[er,el] at e2;cases e2
       | obj _ _=>simp only[er,el] at e2;cases e2
       | dic kvs =>
        simp only[er,el] at e2
        cases ej:gH ka with
        | none=>simp only[ej] at e2;cases e2
        | some y =>
         simp only[ej] at e2
         split at e2
         ·rename_i h100
          cases e2
          obtain⟨L,bl,ra⟩:=Bd.oq b3.drop
          obtain⟨p',h1,h2,h3⟩:=bl.live el (.dic (kE kvs y a)) (.dK (putK (match H2 p with|some (.dK ws)=>ws|_=>[]) y v))
          rw[hp] at h1;cases h1
          cases h2 with
          | dic e rr =>
           rename_i ws
           simp only[e] at h3
           exact⟨p,_,rfl,.inl ⟨ws,y,e,iV rk' ej,by have:=rr.len;have:=nC;omega,rfl⟩,q σ _ (h3 λH' hh=>.dic hh (rr.put y ra))⟩
         ·cases e2
   ·subst e2
    exact⟨c,ρ1,_,_,_,ρ',ek,b1,e1,λC H2 hm b2=>q C σ H2 hm b2.drop⟩
  ·cases em1⟩
noncomputable def jg:Mi Rr:=λρ=>some (.ok (.nw (.dic [])),ρ)
theorem A2{pos}:JE X E (.Dict [] [] pos) jg:=⟨PE.weaken yG λσ H Q h=>by
 obtain⟨c,ρ,τ,θ,o,ρ',ek,b,em,q⟩:=h
 cases em
 intro p hp
 obtain⟨L,bl⟩:=b
 exact q _ _ trivial (bl.gj hp λG H' sm hh=>.dic hh .nil)⟩
end
end M
namespace M
open PySem L2
noncomputable def leS(a b:Str):Bool:=!Qm b.cps.toList a.cps.toList
noncomputable def bb(l:List Str):List Str:=l.mergeSort leS
theorem mZ(a b:Str):leS a b=decide (¬ b.cps.toList<a.cps.toList):=by
 unfold leS;rw[R9,decide_not]
theorem lL(a b c:Str)(h1:leS a b=true)(h2:leS b c=true):leS a c=true:=by
 rw[mZ,decide_eq_true_eq] at *
 intro h
 exact(Sa.negTrans c.cps.toList b.cps.toList a.cps.toList (decide_eq_true h)).elim (λh=>h2 (of_decide_eq_true h)) (λh=>h1 (of_decide_eq_true h))
theorem uI(a b:Str):(leS a b || leS b a)=true:=by
 rw[MZ,mZ,mZ,decide_eq_true_eq,decide_eq_true_eq]
 by_cases h:b.cps.toList<a.cps.toList
 ·exact .inr (List.lt_asymm h)
 ·exact .inl h
theorem oZ{a b:Str}(h1:leS a b=true)(h2:leS b a=true):a=b:=by
 rw[mZ,decide_eq_true_eq] at *
 have:a.cps.toList=b.cps.toList:=List.le_antisymm (RV.mp h1) (RV.mp h2)
 cases a;cases b
 simp only[Sb]
 exact Q0.mp this
theorem bp(l:List Str):(bb l).Perm l:=List.mergeSort_perm l leS
theorem j4(l:List Str):(bb l).Pairwise (λa b=>leS a b=true):=List.pairwise_mergeSort lL uI l
theorem qb{ss:List Str}(h:Oi ss=true):ss.Pairwise (λa b=>leS a b=true):=by
 have key:∀(l:List Str)(p:Str),PJ p l=true->(∀q∈l,leS p q=true)/\l.Pairwise (λa b=>leS a b=true):=by
  intro l
  induction l with
  | nil=>intro p _;exact⟨λq hq=>(by cases hq),.nil⟩
  | cons q l ih =>
   intro p hp
   have hp:(!Qm q.cps.toList p.cps.toList&&PJ q l)=true:=hp
   rw[LG] at hp
   obtain⟨i1,i2⟩:=ih q hp.2
   refine⟨λr hr=>?_,QO.mpr ⟨i1,i2⟩⟩
   rcases Me.mp hr with z|z
   ·subst z;exact hp.1
   ·exact lL p q r hp.1 (i1 r z)
 cases ss with
 | nil=>exact .nil
 | cons p l =>
  obtain⟨i1,i2⟩:=key l p h
  exact QO.mpr ⟨i1,i2⟩
theorem ko{ss l:List Str}(h:Oi ss=true)(pm:ss.Perm l):ss=bb l :=
 (pm.trans (bp l).symm).eq_of_pairwise (λa b _ _ h1 h2=>oZ h1 h2) (qb h) (j4 l)
noncomputable def gP:List A->Option (List Str)
 | []=>some []
 | .str x::r=>match gP r with
  | some ss=>some (x::ss)
  | none=>none
 | _=>none
theorem i4:∀{as:List A}{ss:List Str},gP as=some ss->as=ss.map A.str
 | [],_,h=>by cases h;rfl
 | .str x::r,_,h=>by
  unfold gP at h
  cases e:gP r with
  | none=>simp only[e] at h;cases h
  | some ss=>simp only[e] at h;cases h;rw[i4 e];rfl
 | .non::_,_,h=>by cases h
 | .bl _::_,_,h=>by cases h
 | .int _::_,_,h=>by cases h
 | .tup _::_,_,h=>by cases h
 | .lst _::_,_,h=>by cases h
 | .dic _::_,_,h=>by cases h
 | .exc _::_,_,h=>by cases h
theorem oS(ss:List Str):gP (ss.map A.str)=some ss:=by
 induction ss with
 | nil=>rfl
 | cons s ss ih=>rw[LF,gP,ih]
noncomputable def strKeys:List (Key×A)->Option (List Str)
 | []=>some []
 | (.inr x,_)::r=>match strKeys r with
  | some ss=>some (x::ss)
  | none=>none
 | _=>none
theorem jo:∀{as:List (Key×A)}{ss:List Str},strKeys as=some ss->as.map (·.1)=ss.map Mu
 | [],_,h=>by cases h;rfl
 | (.inr x,a)::r,_,h=>by
  unfold strKeys at h
  cases e:strKeys r with
  | none=>simp only[e] at h;cases h
  | some ss=>simp only[e] at h;cases h;rw[LF,jo e];rfl
 | (.inl _,_)::_,_,h=>by cases h
section
variable{X:Cx}{E:XK}
noncomputable def br:A->Option Rr
 | .lst xs=>match gP xs with
  | some ss=>if ss.length<64 then some (.nw (.lst ((bb ss).map A.str))) else none
  | none=>none
 | _=>none
theorem qe{K:Kx}:UnS K (λv=>jJ K.K [v]) br:=by
 intro c σ H ρ τ θ x v a q Q ek hv bd e1 e3 k
 subst ek
 obtain⟨L,bl,i1⟩:=Bd.open bd hv e1
 cases a<;>first|(cases e3;done)|skip
 rename_i xs
 unfold br at e3
 simp only at e3
 cases es:gP xs with
 | none=>simp only[es] at e3;cases e3
 | some ss =>
  simp only[es] at e3
  split at e3
  ·rename_i h64
   cases e3
   obtain⟨p,vs,rfl,s1,rr⟩:=i1.1 xs rfl
   rw[i4 es] at rr
   rw[rr.strs] at s1
   refine⟨p,ss,rfl,.inl s1,h64,λr ss' hr pm srt=>?_⟩
   rw[ko srt pm]
   exact k _ _ trivial (bl.gj hr λG H' sm q=>.lst q (RAs.ofStrs _))
  ·cases e3
noncomputable def il:List V->Hp->VK->Prop:=λxs H Q=>∃(a:Addr) (kvs:List (Key×V)) (ss:List Str),xs=[.ref a]/\Rd H a (.dK kvs)/\kvs.map (·.1)=ss.map Mu/\ss.length<64/\∀r ss',H r=none->ss'.Perm ss->Oi ss'=true->Q (.ref r) (upd H r (.lst (ss'.map V.str)))
open PySem.Spec PyProof.Rows PySem.W in
theorem om(hc:X.calm=true):bR X (.builtin "sorted") il:=by
 intro pins s σ H vs us Q I rv h
 obtain⟨a,kvs,ss,rfl,hd,ek,h64,q⟩:=h
 obtain⟨u,rfl,ru⟩:=rv.one
 cases ru
 obtain⟨hz,lo,vs,kv,hD⟩:=L2.dy I.hok hd
 obtain⟨ep,hat⟩:=hD.dictAt
 have ek2:vs.map (·.1)=ss.map Mu:=by rw[<- kv.keys];exact ek
 have hlen:vs.length=ss.length:=by have:=congrArg M7 ek2;simpa using this
 refine PY kind_sorted plain_sorted entry_sorted (args_sorted1 _) ?_
 unfold Builtin.«sorted»
 refine wpAny_bind (m:=checkCount "sorted" 1 1 _) (wpAny_pure ?_)
 refine wpAny_bind (kdu_collect (A:=X.A.in1) (kdl_dict (knd:=aw X.prog X.w) (kvs:=vs) (ep:=ep) lo) (I.ok.hd hc) hat (by have:=L2.g6;omega) λh' tk acc hk hacc=>?_)
 have hS:=L2.mN ek2 hacc
 have hl2:acc.toList.length=ss.length:=by rw[ML,hacc.1,hlen]
 refine wpAny_bind (wpAny_newList ?_ (by have:=L2.g6;omega))
 have hoL:(h'.push (seqObj "list" acc.toList.toArray 0)).get? h'.objs.size=some (seqObj "list" acc.toList.toArray 0):=L9 _ rfl
 refine wpAny_bind (wpAny_holding (wpAny_call_entry slot_list_sort ⟨_,hoL,rfl⟩ entry_list_sort (list_sort_treeK strKind_oneLt hoL hS.keysOf (λv₁ v₂ rest e=>keyKind_strs (by rw[<- e];exact hS)) (by omega) λst' hp hs=>⟨_,rfl,?_⟩) (args_list_sort _)))
 obtain⟨ss',b1,b2,b3⟩:=sorted_out_str hS hp hs
 obtain⟨e,he⟩:=sortedHeap_at (vs:=acc.toList) (n:=0) (out:=(arrOf st').map (·.2)) hoL
 have hf:∀b o,s.heap.get? b=some o->b≠h'.objs.size:=λb o z=>Md (LV (hk b o z))
 refine wpAny_pure ⟨_,rfl,.ref _,_,I.B3 (t':=tk) (a:=h'.objs.size) (o:=.lst (ss'.map V.str)) (λb o z=>?_) hf ⟨?_,((arrOf st').map (·.2)).toList,e,L2.fo b1,?_⟩,rfl,q _ ss' (I.nN hf) b2 b3⟩
 ·rw[sortedHeap_old (hf b o z) (by rw[size_push'];exact NI (LV (hk b o z)))]
  exact LK _ (hk b o z)
 ·rw[LH,b2.length_eq]
  exact Mf (NY h64) L2.g6
 ·rw[Qx]
  exact he
noncomputable def bU:A->Option Rr
 | .dic kvs=>match strKeys kvs with
  | some ss=>if ss.length<64 then some (.nw (.lst ((bb ss).map A.str))) else none
  | none=>none
 | _=>none
theorem qg{K:Kx}:UnS K (λv=>il [v]) bU:=by
 intro c σ H ρ τ θ x v a q Q ek hv bd e1 e3 k
 subst ek
 obtain⟨L,bl,i1⟩:=Bd.open bd hv e1
 cases a<;>first|(cases e3;done)|skip
 rename_i kvs
 unfold bU at e3
 simp only at e3
 cases es:strKeys kvs with
 | none=>simp only[es] at e3;cases e3
 | some ss =>
  simp only[es] at e3
  split at e3
  ·rename_i h64
   cases e3
   obtain⟨p,vs,rfl,s1,rr⟩:=i1.2.2 kvs rfl
   refine⟨p,vs,ss,rfl,s1,by rw[rr.keys,jo es],h64,λr ss' hr pm srt=>?_⟩
   rw[ko srt pm]
   exact k _ _ trivial (bl.gj hr λG H' sm q=>.lst q (RAs.ofStrs _))
  ·cases e3
noncomputable def gOr(f g:A->Option Rr):A->Option Rr:=λa=>match f a with
 | some r=>some r
 | none=>g a
theorem UnS.or{K:Kx}{r r':V->Hp->VK->Prop}{f g:A->Option Rr}(h:UnS K r f)(h':UnS K r' g):UnS K (λv H Q=>r v H Q\/r' v H Q) (gOr f g):=by
 intro c σ H ρ τ θ x v a q Q ek hv bd e1 e3 k
 unfold gOr at e3
 cases e:f a with
 | some z=>simp only[e] at e3;cases e3;exact .inl (h c σ H ρ τ θ x v a _ Q ek hv bd e1 e k)
 | none=>simp only[e] at e3;exact .inr (h' c σ H ρ τ θ x v a _ Q ek hv bd e1 e3 k)
theorem mU(hc:X.calm=true):bR X (.builtin "sorted") (λxs H Q=>jJ X.K xs H Q\/il xs H Q):=bR.or' (nh hc) (om hc)
theorem uy{K:Kx}:UnS K (λv H Q=>jJ K.K [v] H Q\/il [v] H Q) (gOr br bU):=qe.or qg
open PySem.Spec PyProof.Rows PySem.W in
noncomputable def vt:List V->Hp->VK->Prop:=λvs H Q=>∃(a:Addr) (kvs:List (Key×V)),vs=[.ref a]/\Rd H a (.dK kvs)/\∀r,H r=none->Q (.ref r) (upd H r (.dK kvs))
theorem p3:bR X (.type "dict") vt:=by
 intro pins s σ H vs us Q I rv h
 obtain⟨a,kvs,rfl,hd,q⟩:=h
 obtain⟨u,rfl,ru⟩:=rv.one
 cases ru
 exact vK I hd λp s' hp I'=>⟨.ref p,_,I',rfl,q p hp⟩
noncomputable def fJ:A->Option Rr
 | .dic kvs=>some (.nw (.dic kvs))
 | _=>none
theorem xQ{K:Kx}:UnS K (λv=>vt [v]) fJ:=by
 intro c σ H ρ τ θ x v a q Q ek hv bd e1 e3 k
 subst ek
 obtain⟨L,bl,i1⟩:=Bd.open bd hv e1
 cases a<;>first|(cases e3;done)|skip
 rename_i kvs
 cases e3
 obtain⟨p,vs,rfl,s1,rr⟩:=i1.2.2 kvs rfl
 exact⟨p,vs,rfl,s1,λr hr=>k _ _ trivial (bl.gj hr λG H' sm q=>.dic q (rr.sm sm))⟩
end
end M
namespace M
open PySem L2
theorem BdL.Ij{c:Cn}{σ:St}{H:Hp}{ρ:List Sl}{τ:St}{θ:List Sl}{L:List Addr}{v w:V}{a b:A}(bl:BdL c σ H ρ τ θ L)(h1:RA c.toKx (c.g H L) v a)(h2:RA c.toKx (c.g H L) w b):Bd c σ H ρ (some v::some w::τ) (.fr a::.fr b::θ) :=
 ⟨L,bl.nd,ay.cons (L:=[]) (.fr h1) (ay.cons (L:=[]) (.fr h2) bl.rel),bl.own,bl.fr,bl.kp,by simp[bl.lt],bl.hd⟩
section
variable{X:Cx}{E:XK}
noncomputable def qS(K:LD):V->List V->Hp->VK->Prop:=λx vs H Q=>∃(sep:Str) (l:Addr) (ss:List Str),x=.str sep/\vs=[.ref l]/\SqL K H l (ss.map V.str)/\gF ss+ss.length*sep.length<=100000/\Q (.str (MJ sep ss)) H
theorem jZ(sep:Str):∀(ss:List Str)(n:Nat),ss.foldl (λ(a:Nat) (z:Str)=>a+z.length+sep.length) n=n+gF ss+ss.length*sep.length
 | [],n=>by simp[gF]
 | z::ss,n=>by
  rw[Rg,jZ sep ss]
  have e:gF (z::ss)=z.length+gF ss:=rfl
  rw[e,LL,Nat.add_mul,Nat.one_mul]
  omega
open PySem.Spec PyProof.Rows PySem.W in
theorem wM:MtR X "str.join" (qS X.K):=by
 intro pins s σ H x vs v us Q I rx rv h
 obtain⟨sep,l,ss,rfl,rfl,hq,hl,q⟩:=h
 obtain⟨t,rfl⟩:=rx
 obtain⟨u,rfl,ru⟩:=rv.one
 cases ru
 obtain⟨its,r,p,hz⟩:=I.list hq
 obtain⟨ps,rfl,e2⟩:=L2.gR (L2.jQ r)
 have h1000:=nC
 have hlong:OB ((ps.map (·.1)).toArray.foldl (·+·.length+sep.length) 0)=false:=by
  have e:(ps.map (·.1)).toArray.foldl (λ(a:Nat) (z:Str)=>a+z.length+sep.length) 0=gF ss+ss.length*sep.length:=by
   rw[List.foldl_toArray,jZ,e2,Pw]
  unfold OB
  rw[e]
  exact decide_eq_false (by omega)
 refine call_meets F.slot_str_join (typeIs_str _ _ _) F.entry_str_join (F.args_str_join_2 _ _) (meets_str_join_list sep t l ps hlong) ⟨p.isList,?_⟩
 have hg:(MJ sep ss).length<=gF ss+ss.length*sep.length:=by
  rw[size_glued]
  have:(ss.length-1)*sep.length<=ss.length*sep.length:=Nat.mul_le_mul_right _ (SI _ _)
  have e:gF ss=(ss.map (·.length)).sum:=rfl
  omega
 have key:∀(z:Str)(t':Tok)(k:Nat),z=MJ sep ss->EP X pins σ Q (.str z t') { s with toks:=k }:=λz t' k e=>⟨.str z,H,I.tok _,⟨t',rfl⟩,by rw[e];exact q⟩
 have fin:(Made.str (MJ sep (ps.map (·.1)))).post (λv s'=>EP X pins σ Q v s') s:=⟨by rw[e2];omega,key _ _ _ (by rw[e2])⟩
 cases ps with
 | nil=>exact fin
 | cons a ps =>
  cases ps with
  | nil =>
   subst e2
   exact key a.1 a.2 s.toks rfl
  | cons b ps=>exact fin
noncomputable def mS0(f:Str->Option Rr)(mo:Mi Rr):Mi Rr:=ax mo λx ρ=>match x with
 | .fr (.str z)=>match f z with
  | some r=>some (.ok r,ρ)
  | none=>none
 | _=>none
noncomputable def mS1(f:Str->A->Option Rr)(mo m:Mi Rr):Mi Rr:=ax mo λx ρ0=>match x with
 | .fr (.str z)=>ax m (λy ρ=>match res ρ y with
  | some a=>match f z a with
   | some r=>some (.ok r,ρ)
   | none=>none
  | none=>none) ρ0
 | _=>none
theorem AW{r:V->List V->Hp->VK->Prop}{f:Str->A->Option Rr}{mo m:Mi Rr}(hf:∀z,UnS (kx X) (λw=>r (.str z) [w]) (f z))(σ:St)(H:Hp)(Q:VK)(h:TEm (kx X) E (mS1 f mo m) σ H Q) :
  TEm (kx X) E mo σ H λx H1=>tyV X.K "str" x H1/\TEm (kx X) E m σ H1 λy H2=>r x [y] H2 Q:=by
 obtain⟨c,ρ,τ,θ,o,ρ',ek,b,em,q⟩:=h
 refine aR ek b em (λx v ρ1 H1 hv b1 em1=>?_) (aM q)
 cases x with
 | rf i=>cases em1
 | nw o=>cases em1
 | fr a =>
  cases a<;>first|(cases em1;done)|skip
  rename_i z
  have r1:=Bd.top b1 (a:=.str z) rfl
  cases r1
  refine⟨rfl,?_⟩
  refine aR ek b1.pop em1 (λy w ρ2 H2 hw b2 em2=>?_) (aM q)
  obtain⟨a,r,e1,e3,rfl,rfl⟩:=oy em2
  exact hf z c σ H2 _ τ θ y w a r Q ek hw b2 e1 e3 q
noncomputable def iy(sep:Str):A->Option Rr
 | .lst xs=>match gP xs with
  | some ss=>if gF ss+ss.length*sep.length<=100000 then some (.fr (.str (MJ sep ss))) else none
  | none=>none
 | _=>none
theorem Bq{K:Kx}(sep:Str):UnS K (λw=>qS K.K (.str sep) [w]) (iy sep):=.scalar λH v a q r1 h=>by
 cases a<;>first|(cases h;done)|skip
 rename_i xs
 unfold iy at h
 simp only at h
 cases es:gP xs with
 | none=>simp only[es] at h;cases h
 | some ss =>
  simp only[es] at h
  split at h
  ·rename_i hl
   cases h
   cases r1 with
   | lst e r =>
    rw[i4 es] at r
    rw[r.strs] at e
    exact⟨_,_,rfl,λ_=>.str _,λQ k=>⟨sep,_,ss,rfl,rfl,e,hl,k⟩⟩
  ·cases h
theorem Bz{o e:Expr}{mo m:Mi Rr}{apos cpos:Pos}(ho:JE X E o mo)(he:JE X E e m)(hp:∀{to te:TE},PE X o to->PE X e te->PE X (.Call (.Attribute o "join" apos) [e] [] cpos) (tBM X.K "str" (qS X.K) to (B8 te DO))) :
  JE X E (.Call (.Attribute o "join" apos) [e] [] cpos) (mS1 iy mo m):=⟨PE.weaken (hp ho.p he.p) λσ H Q h=>AW Bq σ H Q h⟩
noncomputable def fC:Mi (Option Int):=jh none
noncomputable def fG(m:Mi Rr):Mi (Option Int):=ax m λr ρ=>match res ρ r with
 | some (.int i)=>some (.ok (some i),ρ)
 | _=>none
noncomputable def JK(K:Kx)(E:XK)(c:Cn)(σ:St)(ρ:List Sl)(τ:St)(θ:List Sl)(Q:Option Int->Hp->Prop):Except Str (Option Int)->Prop
 | .ok i=>∀H,Bd c σ H ρ τ θ->Q i H
 | .error x=>∀C H,K.mg x=some (.ref C)->Bd c σ H ρ τ θ->E (.ref C) none H
noncomputable def TOm(K:Kx)(E:XK)(m:Mi (Option Int)):TO:=λσ H Q=>∃(c:Cn) (ρ:List Sl) (τ:St) (θ:List Sl) (o:Except Str (Option Int)) (ρ':List Sl),c.toKx=K/\Bd c σ H ρ τ θ/\m ρ=some (o,ρ')/\JK K E c σ ρ' τ θ Q o
structure JP (X:Cx) (E:XK) (e:Option Expr) (m:Mi (Option Int)):Prop where
 p:PO X e (TOm (kx X) E m)
theorem PO.weaken{X:Cx}{e:Option Expr}{t t':TO}(h:PO X e t)(f:∀σ H Q,t' σ H Q->t σ H Q):PO X e t':=λpins s σ H Q I q=>h pins s σ H Q I (f σ H Q q)
theorem yU{c:Cn}{σ:St}{ρ':List Sl}{τ:St}{θ:List Sl}{o:Except Str (Option Int)}{Q:Option Int->Hp->Prop}(q:JK (kx X) E c σ ρ' τ θ Q o):∀e,o=.error e->∀C H,X.mg e=some (.ref C)->Bd c σ H ρ' τ θ->E (.ref C) none H:=λe ee=>by subst ee;exact q
theorem zp:JP X E none fC:=⟨PO.weaken y6 λσ H Q h=>by
 obtain⟨c,ρ,τ,θ,o,ρ',ek,b,em,q⟩:=h
 cases em;exact q H b⟩
theorem Bu{e:Expr}{m:Mi Rr}(h:JE X E e m):JP X E (some e) (fG m):=⟨PO.weaken (zI h.p) λσ H Q h=>by
 obtain⟨c,ρ,τ,θ,o,ρ',ek,b,em,q⟩:=h
 refine aR ek b em (λx v ρ1 H1 hv b1 em1=>?_) (yU q)
 cases e1:res ρ1 x with
 | none=>simp only[e1] at em1;cases em1
 | some a =>
  have r1:=Bd.rd b1 hv e1
  cases a<;>first|(simp only[e1] at em1;cases em1;done)|skip
  simp only[e1] at em1;cases em1
  cases r1
  exact⟨_,rfl,q H1 b1.drop⟩⟩
noncomputable def AE(xs:List A)(lo hi:Option Int):List A:=(xs.drop (HT.sIx xs.length 0 lo)).take (HT.sIx xs.length xs.length hi-HT.sIx xs.length 0 lo)
theorem xb{k:Kx}{G:Hp}{vs:List V}{as:List A}(r:RAs k G vs as)(lo hi:Option Int):RAs k G (nU vs lo hi) (AE as lo hi):=by
 unfold nU AE
 rw[r.len]
 exact(r.drop _).take _
noncomputable def fSl(a:A)(lo hi:Option Int):Option Rr:=match a with
 | .lst xs=>some (.nw (.lst (AE xs lo hi)))
 | .tup xs=>if HT.sIx xs.length 0 lo=0/\HT.sIx xs.length xs.length hi=xs.length then none else some (.fr (.tup (AE xs lo hi)))
 | .str z=>if z.length<=100000 then some (.fr (.str (MX z lo hi))) else none
 | _=>none
noncomputable def mSl(m:Mi Rr)(ml mh:Mi (Option Int)):Mi Rr:=ax m λx=>ax ml λlo=>ax mh λhi=>λρ=>match res ρ x with
 | some a=>match fSl a lo hi with
  | some r=>some (.ok r,ρ)
  | none=>none
 | none=>none
theorem sA{σ:St}{H:Hp}{c:Cn}{ρ ρ':List Sl}{τ:St}{θ:List Sl}{β:Type}{m:Mi (Option Int)}{f:Option Int->Mi β}{o:Except Str β}{Q:Option Int->Hp->Prop}(ek:c.toKx=kx X)(b:Bd c σ H ρ τ θ)(em:ax m f ρ=some (o,ρ'))
  (h1:∀k ρ1 H1,Bd c σ H1 ρ1 τ θ->f k ρ1=some (o,ρ')->Q k H1)
  (h2:∀e,o=.error e->∀C H,X.mg e=some (.ref C)->Bd c σ H ρ' τ θ->E (.ref C) none H):TOm (kx X) E m σ H Q:=by
 rcases bind_some em with ⟨x,ρ1,e1,e2⟩|⟨e,e1,e2⟩
 ·exact⟨c,ρ,τ,θ,_,ρ1,ek,b,e1,λH1 b1=>h1 x ρ1 H1 b1 e2⟩
 ·exact⟨c,ρ,τ,θ,_,ρ',ek,b,e1,λC H1 hm b1=>h2 e e2 C H1 hm b1⟩
theorem Ie{e:Expr}{lo hi:Option Expr}{m:Mi Rr}{ml mh:Mi (Option Int)}{p2 pos:Pos}(h:JE X E e m)(hl:JP X E lo ml)(hh:JP X E hi mh):JE X E (.Subscript e (.Slice lo hi none p2) pos) (mSl m ml mh) :=
 ⟨PE.weaken (wD (L2.SlR.or AS (L2.SlR.or C0 Dz)) h.p hl.p hh.p) λσ H Q h=>by
  obtain⟨c,ρ,τ,θ,o,ρ',ek,b,em,q⟩:=h
  refine aR ek b em (λx v ρ1 H1 hv b1 em1=>?_) (aM q)
  refine sA ek b1 em1 (λl ρ2 H2 b2 em2=>?_) (fL (aM q))
  refine sA ek b2 em2 (λu ρ3 H3 b3 em3=>?_) (fL (aM q))
  obtain⟨a,r,e1,e3,rfl,rfl⟩:=oy em3
  have eK:c.K=X.K:=congrArg Kx.K ek
  obtain⟨L,bl,i1⟩:=Bd.open b3 hv e1
  have r1:=Bd.rd b3 hv e1
  cases a<;>first|(cases e3;done)|skip
  ·rename_i z
   unfold fSl at e3
   simp only at e3
   split at e3
   ·rename_i hz
    cases e3;cases r1
    exact .inr (.inr ⟨z,rfl,Mf hz hZ,q _ H3 trivial (Bd.push ⟨L,bl⟩ λ_=>.str _)⟩)
   ·cases e3
  ·rename_i xs
   unfold fSl at e3
   simp only at e3
   split at e3
   ·cases e3
   ·rename_i hn
    cases e3
    obtain⟨p,vs,rfl,s1,rr⟩:=i1.2.1 xs rfl
    refine .inr (.inl ⟨p,vs,rfl,by rw[<- eK];exact eD (g_same _ _ _) s1,by rw[rr.len];exact hn,λp' hp=>?_⟩)
    obtain⟨b2,sm,np⟩:=bl.new (o:=.tup (nU vs l u)) hp
    exact q _ _ trivial (b2.push (.tup (.inl (.inl (by rw[cc np (bl.fhd hp)];exact bj))) ((xb rr l u).sm sm)))
  ·rename_i xs
   cases e3
   obtain⟨p,vs,rfl,s1,rr⟩:=i1.1 xs rfl
   exact .inl ⟨p,vs,rfl,by rw[<- eK];exact s1,λp' hp=>q _ _ trivial (bl.gj hp λG H' sm q=>.lst q ((xb rr l u).sm sm))⟩⟩
noncomputable def IM(n:Nat)(gs:Mgs):Mg:=λa ρ=>match a with
 | .lst as=>if as.length=n then gs as ρ else none
 | _=>none
noncomputable def Le(f g:Mg):Mg:=λa ρ=>match f a ρ with
 | some r=>some r
 | none=>g a ρ
noncomputable def FJ(m:Mi Rr)(G:Mg):Ms:=bu m λr ρ=>match aQ r ρ with
 | some (a,ρ1)=>match G a ρ1 with
  | some ρ2=>some (.nx,ρ2)
  | none=>none
 | none=>none
theorem Dn{tg e:Expr}{m:Mi Rr}{G:Mg}{pos:Pos}(he:JE X E e m)(hg:JG X 0 tg G)(hs:swapsWithSole [tg] e pos.line X.env=pure false:=by rfl)(hw:swappedStores [tg] e X.env=pure none:=by rfl)
  (hp:∀{te:TE}{g:TG},PE X e te->PG X tg g->PS X (.Assign [tg] e pos) (yf te g)):JS X E (.Assign [tg] e pos) (FJ m G):=⟨PS.weaken (hp he.p hg.p) λD σ H h=>by
 obtain⟨c,ρ,τ,θ,f,ρ',ek,b,em,q⟩:=h
 refine d9 ek b em q λr v ρ1 H1 hv b1 em1=>?_
 cases e1:aQ r ρ1 with
 | none=>simp only[e1] at em1;cases em1
 | some p =>
  obtain⟨a,ρ2⟩:=p
  simp only[e1] at em1
  have b2:=Bd.aQ (xs:=[]) (ss:=[]) rfl b1 hv e1
  cases e2:G a ρ2 with
  | none=>simp only[e2] at em1;cases em1
  | some ρ3 =>
   simp only[e2] at em1;cases em1
   exact⟨c,ρ2,τ,_,a,ρ',ek,b2,e2,λσ' H' _ _ b3=>q σ' H' b3⟩⟩
noncomputable def uJ(i j:Nat)(m:Mi (List Rr)):Ms:=bu m λrs ρ=>match dP rs ρ with
 | some ([a,b],ρ1)=>match put i (.fr a) ρ1 with
  | some ρ2=>match put j (.fr b) ρ2 with
   | some ρ3=>some (.nx,ρ3)
   | none=>none
  | none=>none
 | _=>none
theorem E8{s:Stmt}{i j:Nat}{es:List Expr}{m:Mi (List Rr)}(ha:JA X E es m)(hij:i≠j)(hp:∀{ta:TA},PA X es ta->PS X s (Hk i j ta)):JS X E s (uJ i j m):=⟨PS.weaken (hp ha.p) λD σ H h=>by
 obtain⟨c,ρ,τ,θ,f,ρ',ek,b,em,q⟩:=h
 rcases cS em with ⟨rs,ρ1,e1,e2⟩|⟨e,e1,e2⟩
 ·refine⟨c,ρ,τ,_,_,ρ1,ek,b,e1,λvs H1 hv b1=>?_⟩
  cases ef:dP rs ρ1 with
  | none=>simp only[ef] at e2;cases e2
  | some p =>
   obtain⟨as,ρ2⟩:=p
   obtain⟨b2,l2⟩:=Bd.dP hv b1 ef
   match as,ef,e2,b2,l2 with
   | [a,d],ef,e2,b2,l2 =>
    simp only[ef] at e2
    match vs,b2,l2 with
    | [v,w],b2,_ =>
     cases e3:put i (.fr a) ρ2 with
     | none=>simp only[e3] at e2;cases e2
     | some ρ3 =>
      simp only[e3] at e2
      cases e4:put j (.fr d) ρ3 with
      | none=>simp only[e4] at e2;cases e2
      | some ρ4 =>
       simp only[e4] at e2;cases e2
       refine⟨v,w,rfl,q _ H1 ?_⟩
       have b3:Bd c σ H1 ρ2 (some w::some v::τ) (.fr d::.fr a::θ.map Sl.fr):=by simpa using b2
       have b4:Bd c σ H1 ρ2 (some v::some w::τ) (.fr a::.fr d::θ.map Sl.fr):=by
        obtain⟨L,bl,ra⟩:=Bd.frs (vs:=[w,v]) (as:=[d,a]) b3 rfl
        cases ra with|cons h1 ra=>cases ra with|cons h2 _ =>
        have:=bl.push h1
        obtain⟨L',bl',ra'⟩:=Bd.oq this
        exact BdL.Ij bl h2 h1
       exact Bd.put (Bd.put b4 (λo z=>by cases z) e3) (λo z=>by cases z) e4
   | [],ef,e2,_,_=>simp only[ef] at e2;cases e2
   | [_],ef,e2,_,_=>simp only[ef] at e2;cases e2
   | _::_::_::_,ef,e2,_,_=>simp only[ef] at e2;cases e2
 ·subst e2
  exact⟨c,ρ,τ,_,_,ρ',ek,b,e1,λC H1 hm b1=>q C σ H1 hm b1⟩⟩
end
end M
namespace M
open PySem L2
section
variable{X:Cx}{E:XK}{a b:Expr}{ma mb:Mi Rr}{pos:Pos}
noncomputable abbrev Lx:=fOr rE (fOr rR pM)
noncomputable abbrev bL:=fOr wq sX
theorem Gb(ha:JE X E a ma)(hb:JE X E b mb):JE X E (.BinOp a .Sub b pos) (mOp gJ ma mb):=mE E7 EZ ha hb
theorem Eb(ha:JE X E a ma)(hb:JE X E b mb):JE X E (.BinOp a .Mult b pos) (mOp bL ma mb):=mE (OpR.or' AV BR) (A0.or BO) ha hb
theorem EB(ha:JE X E a ma)(hb:JE X E b mb):JE X E (.BinOp a .FloorDiv b pos) (mOp lF ma mb):=mE yu DG ha hb
theorem D7(ha:JE X E a ma)(hb:JE X E b mb):JE X E (.BinOp a .Mod b pos) (mOp gL ma mb):=mE Aa DJ ha hb
theorem EG(ha:JE X E a ma)(hb:JE X E b mb):JE X E (.BinOp a .Pow b pos) (mOp jA ma mb):=mE Em Ec ha hb
theorem Hz(hu:X.A.units+64<cLine)(ha:JE X E a ma)(hb:JE X E b mb):JE X E (.Compare a [.Eq] [b] pos) (mOp fEq ma mb):=cD (yD hu) os_eq ha hb (aY _)
theorem Jx(hu:X.A.units+64<cLine)(ha:JE X E a ma)(hb:JE X E b mb):JE X E (.Compare a [.NotEq] [b] pos) (mOp fNe ma mb):=cD (nM hu) sV ha hb (aY _)
theorem JX(ha:JE X E a ma)(hb:JE X E b mb):JE X E (.Compare a [.Lt] [b] pos) (mOp fLt ma mb):=cD rG Cd ha hb (aY _)
theorem Jz(ha:JE X E a ma)(hb:JE X E b mb):JE X E (.Compare a [.LtE] [b] pos) (mOp fLe ma mb):=cD rA Cu ha hb (aY _)
theorem JY(ha:JE X E a ma)(hb:JE X E b mb):JE X E (.Compare a [.Gt] [b] pos) (mOp fGt ma mb):=cD vH B6 ha hb (aY _)
theorem J9(ha:JE X E a ma)(hb:JE X E b mb):JE X E (.Compare a [.GtE] [b] pos) (mOp fGe ma mb):=cD w8 Ct ha hb (aY _)
theorem IY(ha:JE X E a ma)(hb:JE X E b mb):JE X E (.Compare a [.Is] [b] pos) (mOp (fIs false) ma mb):=cD nQ r9 ha hb (aY _)
theorem BW(ha:JE X E a ma)(hb:JE X E b mb):JE X E (.Compare a [.IsNot] [b] pos) (mOp (fIs true) ma mb):=cD jH jF ha hb (aY _)
theorem Hj(hu:X.A.units+64<cLine)(ha:JE X E a ma)(hb:JE X E b mb):JT X E (.Compare a [.Eq] [b] pos) (ah (mOp fEq ma mb)):=cz (yD hu) os_eq ha hb (aY _)
theorem IP(hu:X.A.units+64<cLine)(ha:JE X E a ma)(hb:JE X E b mb):JT X E (.Compare a [.NotEq] [b] pos) (ah (mOp fNe ma mb)):=cz (nM hu) sV ha hb (aY _)
theorem J0(ha:JE X E a ma)(hb:JE X E b mb):JT X E (.Compare a [.Lt] [b] pos) (ah (mOp fLt ma mb)):=cz rG Cd ha hb (aY _)
theorem G6(ha:JE X E a ma)(hb:JE X E b mb):JT X E (.Compare a [.LtE] [b] pos) (ah (mOp fLe ma mb)):=cz rA Cu ha hb (aY _)
theorem Ko(ha:JE X E a ma)(hb:JE X E b mb):JT X E (.Compare a [.Gt] [b] pos) (ah (mOp fGt ma mb)):=cz vH B6 ha hb (aY _)
theorem JC(ha:JE X E a ma)(hb:JE X E b mb):JT X E (.Compare a [.GtE] [b] pos) (ah (mOp fGe ma mb)):=cz w8 Ct ha hb (aY _)
theorem G9(ha:JE X E a ma)(hb:JE X E b mb):JT X E (.Compare a [.Is] [b] pos) (ah (mOp (fIs false) ma mb)):=cz nQ r9 ha hb (aY _)
theorem z4(ha:JE X E a ma)(hb:JE X E b mb):JT X E (.Compare a [.IsNot] [b] pos) (ah (mOp (fIs true) ma mb)):=cz jH jF ha hb (aY _)
end
noncomputable def BIG:Nat:=2^10000
noncomputable def v7(K:LD):Sp:=λvs H Q _=>∃(p:Addr) (ns:List Int),vs=[.ref p]/\SqL K H p (ns.map V.int)/\ns.length<=63/\∀H',Q (.bl true) H'
theorem rH{k:Kx}{G:Hp}:∀(ns:List Int),RAs k G (ns.map V.int) (ns.map A.int)
 | []=>.nil
 | n::ns=>.cons (.int n) (rH ns)
theorem Eh{P:Program}{w:World}{K:LD}{mg:Str->Option Value}{base:Heap}{CX:CXT}{k:Nat}{f:Addr}{fd:FuncData}{ps:List Str}{m:Ms}(F:cV P w K mg base CX k f fd ps (SpM ⟨K,mg⟩ 1 m))
  (h:∀ns:List Int,ns.length<=63->∃ρ,m [.fr (.lst (ns.map A.int))]=some (.rt (.fr (.bl true)),ρ)):cV P w K mg base CX k f fd ps (v7 K) :=
 F.imp λvs H Q E q=>by
  obtain⟨p,ns,rfl,hs,hl,q⟩:=q
  obtain⟨ρ,e⟩:=h ns hl
  let c:Cn:={ K:=K,mg:=mg,σ0:=[some (.ref p)],H0:=H,Lp:=[],Hd:=[],Wk:=[] }
  refine⟨rfl,c,_,_,ρ,rfl,rfl,rfl,⟨.nil,ay.cons (L:=[]) (.fr (.lst (jf (Sq.of λb o e=>?_) hs) (rH ns))) .nil,λp hp=>(by cases hp),⟨λb o e=>⟨o,e,λ_ _=>rfl⟩,λq hq=>(by cases hq)⟩,λi o _=>rfl,rfl,λq hq=>(by cases hq)⟩,e,λv H' _ b=>?_⟩
  ·rw[cc (c:=c) (λz=>by cases z) (λz=>by cases z)];exact e
  ·have r:=Bd.top b (a:=.bl true) rfl
   cases r
   exact q H'
noncomputable def mFz(m:Mi Rr):Mi Rr:=ax m λr ρ=>match aQ r ρ with
 | some (a,ρ')=>some (.ok (.fr a),ρ')
 | none=>none
theorem vC{X:Cx}{E:XK}{e:Expr}{m:Mi Rr}(he:JE X E e m):JE X E e (mFz m):=⟨PE.weaken he.p λσ H Q h=>by
 obtain⟨c,ρ,τ,θ,o,ρ',ek,b,em,q⟩:=h
 refine aR ek b em (λx v ρ1 H1 hv b1 em1=>?_) (aM q)
 cases e1:aQ x ρ1 with
 | none=>simp only[e1] at em1;cases em1
 | some p =>
  obtain⟨a,ρ2⟩:=p
  simp only[e1] at em1
  cases em1
  exact q v H1 trivial (Bd.aQ (xs:=[]) (ss:=[]) rfl b1 hv e1)⟩
end M
namespace M
open PySem L2
section
variable{X:Cx}{E:XK}
inductive Ty where|bool|int|str|tuple|list|dict
 deriving DecidableEq
noncomputable def Ty.n:Ty->String
 | .bool => "bool" | .int => "int" | .str => "str" | .tuple => "tuple" | .list => "list" | .dict => "dict"
noncomputable def F6(T:Ty):A->Option Bool
 | .non=>some false
 | .bl _=>some (T=.bool || T=.int)
 | .int _=>some (T=.int)
 | .str _=>some (T=.str)
 | .tup _=>some (T=.tuple)
 | .lst _=>some (T=.list)
 | .dic _=>some (T=.dict)
 | _=>none
noncomputable def lG(T:Ty)(a:A):Option Rr:=match F6 T a with
 | some k=>some (.fr (.bl k))
 | none=>none
theorem D5(K:LD)(T:Ty):MW K (.type "NoneType") (.type T.n)=some false:=by cases T<;>kernel_rfl
theorem zb(K:LD)(T:Ty):MW K (.type "bool") (.type T.n)=some (T=.bool || T=.int:Bool):=by cases T<;>kernel_rfl
theorem Gm(K:LD)(T:Ty):MW K (.type "int") (.type T.n)=some (T=.int:Bool):=by cases T<;>kernel_rfl
theorem EH(K:LD)(T:Ty):MW K (.type "str") (.type T.n)=some (T=.str:Bool):=by cases T<;>kernel_rfl
theorem DT(K:LD)(T:Ty):MW K (.type "tuple") (.type T.n)=some (T=.tuple:Bool):=by cases T<;>kernel_rfl
theorem Er(K:LD)(T:Ty):MW K (.type "list") (.type T.n)=some (T=.list:Bool):=by cases T<;>kernel_rfl
theorem GB(K:LD)(T:Ty):MW K (.type "dict") (.type T.n)=some (T=.dict:Bool):=by cases T<;>kernel_rfl
theorem Dh{K:Kx}(T:Ty):UnS K (λv H Q=>∃x c t b,[v,V.ty T.n]=[x,c]/\TyX K.K H x t/\sJ c=true/\MW K.K t (AA c)=some b/\Q (.bl b) H) (lG T):=.scalar λH v a q r1 h=>by
 cases a<;>first|(cases h;done)|skip
 ·cases r1;cases h
  exact⟨_,_,rfl,λ_=>.bl _,λQ k=>⟨_,_,_,_,rfl,.of .non,rfl,D5 _ T,k⟩⟩
 ·cases r1;cases h
  exact⟨_,_,rfl,λ_=>.bl _,λQ k=>⟨_,_,_,_,rfl,.of (.bl _),rfl,zb _ T,k⟩⟩
 ·cases r1;cases h
  exact⟨_,_,rfl,λ_=>.bl _,λQ k=>⟨_,_,_,_,rfl,.of (.int _),rfl,Gm _ T,k⟩⟩
 ·cases r1;cases h
  exact⟨_,_,rfl,λ_=>.bl _,λQ k=>⟨_,_,_,_,rfl,.of (.str _),rfl,EH _ T,k⟩⟩
 ·cases r1 with
  | tup e r=>cases h;exact⟨_,_,rfl,λ_=>.bl _,λQ k=>⟨_,_,_,_,rfl,.tup e,rfl,DT _ T,k⟩⟩
 ·cases r1 with
  | lst e r=>cases h;exact⟨_,_,rfl,λ_=>.bl _,λQ k=>⟨_,_,_,_,rfl,.lst e,rfl,Er _ T,k⟩⟩
 ·cases r1 with
  | dic e r=>cases h;exact⟨_,_,rfl,λ_=>.bl _,λQ k=>⟨_,_,_,_,rfl,.dic e,rfl,GB _ T,k⟩⟩
theorem GD{x y:Str}{p p2 pos:Pos}{e:Expr}{m:Mi Rr}(T:Ty)(hg:Gl X x)(hm:X.mg x=none)(hv:bootBuiltins x=some (.builtin "isinstance"))(hg2:Gl X y)(hm2:X.mg y=none)(hv2:bootBuiltins y=some (.type T.n))(ha:JE X E e m)(hn:x ≠ "__name__")
  (hdb:NDb x)(hn2:y ≠ "__name__")(hdb2:NDb y)(hs:starEach [e,.Name y p2] X.env=(false,eval e X.env)::starEach [.Name y p2] X.env:=by rfl)(hs2:starEach [.Name y p2] X.env=(false,eval (.Name y p2) X.env)::starEach [] X.env:=by rfl)(hp:(backTo pos (starEach [.Name y p2] X.env)).any (·.1)=false:=by rfl):JE X E (.Call (.Name x p) [e,.Name y p2] [] pos) (mB1 (lG T) m) :=
 ⟨PE.weaken (j0 vq hg hm hv (bX ha.p (bX (z7 hg2 hm2 hv2 (v:=.ty T.n) rfl hn2 hdb2) eC hs2) hs) hn hdb hs hp) λσ H Q h=>ix (r:=λv H Q=>∃x c t b,[v,V.ty T.n]=[x,c]/\TyX (kx X).K H x t/\sJ c=true/\MW (kx X).K t (AA c)=some b/\Q (.bl b) H) (Dh T) σ H Q h⟩
end
end M
namespace M
open PySem L2
section
variable{X:Cx}{E:XK}
noncomputable def HS(as bs:List A):List A:=(as.zip bs).map λp=>.tup [p.1,p.2]
noncomputable def IF(ma mb:Mi Rr):Mi (List A):=ax ma λx=>ax mb λy=>λρ=>match dP [x,y] ρ with
 | some ([.tup as,.tup bs],ρ')=>some (.ok (HS as bs),ρ')
 | _=>none
end
end M
namespace M
open PySem L2
section
variable{X:Cx}{E:XK}
noncomputable def dZ(p q:Int->Int->Bool)(ma mb mc:Mi Rr):Mi Rr:=ax ma λx=>ax mb λy=>λρ=>match res ρ x,res ρ y with
 | some (.int i),some (.int j)=>match p i j with
  | true=>ax mc (λz ρ2=>match res ρ2 z with
   | some (.int k)=>some (.ok (.fr (.bl (q j k))),ρ2)
   | _=>none) ρ
  | false=>some (.ok (.fr (.bl false)),ρ)
 | _,_=>none
theorem kD{r r':R2}{p q:Int->Int->Bool}{ma mb mc:Mi Rr}(hr:∀i j H Q,Q (.bl (p i j)) H->r (.int i) (.int j) H Q)(hr':∀i j H Q,Q (.bl (q i j)) H->r' (.int i) (.int j) H Q)(σ:St)(H:Hp)(Q:VK)(h:TEm (kx X) E (dZ p q ma mb mc) σ H Q) :
  qG r r' (TEm (kx X) E ma) (TEm (kx X) E mb) (TEm (kx X) E mc) σ H Q:=by
 obtain⟨c,ρ,τ,θ,o,ρ',ek,b,em,q0⟩:=h
 refine aR ek b em (λx v ρ1 H1 hv b1 em1=>?_) (aM q0)
 refine aR ek b1 em1 (λy w ρ2 H2 hw b2 em2=>?_) (fL (aM q0))
 cases e1:res ρ2 x with
 | none=>simp only[e1] at em2;cases em2
 | some a =>
  cases e2:res ρ2 y with
  | none=>cases a<;>(simp only[e1,e2] at em2;cases em2)
  | some d =>
   cases a<;>first|(simp only[e1,e2] at em2;cases em2;done)|skip
   cases d<;>first|(simp only[e1,e2] at em2;cases em2;done)|skip
   rename_i i j
   have r2:=Bd.rd b2 hw e2
   have r1:=Bd.rd b2.drop hv e1
   cases r1
   cases r2
   simp only[e1,e2] at em2
   refine hr _ _ _ _ ⟨p i j,rfl,?_⟩
   cases ep:p i j with
   | false =>
    simp only[ep] at em2
    cases em2
    rw[if_neg (by decide)]
    exact q0 _ H2 trivial (Bd.push b2.drop.drop (λ_=>.bl _))
   | true =>
    simp only[ep] at em2
    rw[if_pos rfl]
    refine aR ek b2.drop.drop em2 (λz w' ρ3 H3 hz b3 em3=>?_) (aM q0)
    cases e3:res ρ3 z with
    | none=>simp only[e3] at em3;cases em3
    | some d =>
     cases d<;>first|(simp only[e3] at em3;cases em3;done)|skip
     rename_i k
     have r3:=Bd.rd b3 hz e3
     cases r3
     simp only[e3] at em3
     cases em3
     exact hr' _ _ _ _ (q0 _ H3 trivial (Bd.push b3.drop (λ_=>.bl _)))
theorem oO{op op':CmpOp}{r r':R2}{p q:Int->Int->Bool}{a b c:Expr}{ma mb mc:Mi Rr}{pos:Pos}(ho:OpR X (compareOp op) r)(ho':OpR X (compareOp op') r')(hr:∀i j H Q,Q (.bl (p i j)) H->r (.int i) (.int j) H Q)(hr':∀i j H Q,Q (.bl (q i j)) H->r' (.int i) (.int j) H Q)
  (ha:JE X E a ma)(hb:JE X E b mb)(hc:JE X E c mc)(hm:lastMarks [op,op'] [b,c]=false:=by with_unfolding_all rfl):JE X E (.Compare a [op,op'] [b,c] pos) (dZ p q ma mb mc):=⟨PE.weaken (v9 ho ho' ha.p hb.p hc.p hm) (kD hr hr')⟩
theorem yR{op op':CmpOp}{r r':R2}{p q:Int->Int->Bool}{a b c:Expr}{ma mb mc:Mi Rr}{pos:Pos}(ho:OpR X (compareOp op) r)(ho':OpR X (compareOp op') r')(hr:∀i j H Q,Q (.bl (p i j)) H->r (.int i) (.int j) H Q)(hr':∀i j H Q,Q (.bl (q i j)) H->r' (.int i) (.int j) H Q)
  (ha:JE X E a ma)(hb:JE X E b mb)(hc:JE X E c mc)(hm:lastMarks [op,op'] [b,c]=false:=by with_unfolding_all rfl):JT X E (.Compare a [op,op'] [b,c] pos) (ah (dZ p q ma mb mc)):=⟨PT.weaken (yg ho ho' ha.p hb.p hc.p hm) λσ H Q h=>kD hr hr' σ H _ (cT σ H Q h)⟩
noncomputable abbrev cLt(i j:Int):Bool:=decide (i<j)
noncomputable abbrev cLe(i j:Int):Bool:=decide (i<=j)
noncomputable abbrev cGt(i j:Int):Bool:=decide (j<i)
noncomputable abbrev cGe(i j:Int):Bool:=decide (j<=i)
theorem Ci(i j:Int)(H:Hp)(Q:VK)(q:Q (.bl (cLt i j)) H):rI0 (λi j=>.bl (decide (i<j))) (.int i) (.int j) H Q:=⟨_,_,rfl,rfl,q⟩
theorem Ca(i j:Int)(H:Hp)(Q:VK)(q:Q (.bl (cLe i j)) H):rI0 (λi j=>.bl (decide (i<=j))) (.int i) (.int j) H Q:=⟨_,_,rfl,rfl,q⟩
theorem HY(i j:Int)(H:Hp)(Q:VK)(q:Q (.bl (cGt i j)) H):rI0 (λi j=>.bl (decide (j<i))) (.int i) (.int j) H Q:=⟨_,_,rfl,rfl,q⟩
theorem IT(i j:Int)(H:Hp)(Q:VK)(q:Q (.bl (cGe i j)) H):rI0 (λi j=>.bl (decide (j<=i))) (.int i) (.int j) H Q:=⟨_,_,rfl,rfl,q⟩
example {a b c:Expr} {ma mb mc:Mi Rr} {pos:Pos} (ha:JE X E a ma) (hb:JE X E b mb) (hc:JE X E c mc) (hm:lastMarks [.LtE,.Lt] [b,c]=false):JE X E (.Compare a [.LtE,.Lt] [b,c] pos) (dZ cLe cLt ma mb mc):=oO rA rG Ca Ci ha hb hc hm
end
end M
namespace M
open PySem L2
section
variable{X:Cx}{E:XK}
noncomputable def uV(K:LD):R2:=λx y H Q=>∃a b xs ys,x=.ref a/\y=.ref b/\SqL K H a xs/\SqL K H b ys/\xs.length+ys.length<=sizeLine/\∀p,H p=none->Q (.ref p) (upd H p (.lst (xs++ys)))
theorem wg:OpR X (binaryOp .Add) (uV X.K):=by
 intro pins s σ H x y v u Q I rx ry h
 obtain⟨a,b,xs,ys,rfl,rfl,ha,hb,hz,q⟩:=h
 cases rx
 cases ry
 obtain⟨its,r1,p1,_⟩:=I.list ha
 obtain⟨jts,r2,p2,_⟩:=I.list hb
 obtain⟨⟨c1,d1,t1,l1⟩,n1,e1,hc1,hk1,hd1⟩:=id p1
 obtain⟨⟨c2,d2,t2,l2⟩,n2,e2,hc2,hk2,hd2⟩:=id p2
 simp only at hc1 hd1 hc2 hd2 hk1 hk2
 subst hc1 hd1 hc2 hd2 hk1 hk2
 have k1:=r1.length
 have k2:=r2.length
 refine concat_meets ⟨_,e1,rfl⟩ ⟨_,e2,rfl⟩ noFill_list_add seq_list_add PySem.F.slot_list_add PySem.F.entry_list_add (PySem.F.args_list_add_2 _ _) (Sd a b _ _ n1 n2 _ _ l1 l2 (by rw[LM,LM];omega)) ⟨e1,e2,?_⟩
 have ea:its.toArray++jts.toArray=(its++jts).toArray:=by simp
 rw[ea]
 exact⟨.ref _,_,I.Ln (t':=s.toks) (r1.append r2) (by rw[L4];omega),rfl,q _ I.fresh⟩
noncomputable def sF:A->A->Option Rr
 | .lst xs,.lst ys=>if xs.length+ys.length<=100000 then some (.nw (.lst (xs++ys))) else none
 | _,_=>none
theorem Al{K:Kx}:OpS K (uV K.K) sF:=by
 intro c σ H ρ τ θ x y v w a b q Q ek hv hw bd e1 e2 e3 k
 cases a<;>first|(cases e3;done)|(cases b<;>first|(cases e3;done)|skip)
 rename_i xs ys
 unfold sF at e3
 simp only at e3
 split at e3
 ·rename_i hc
  cases e3
  obtain⟨L,bl,i1,i2⟩:=Bd.rL bd hv hw e1 e2
  obtain⟨p1,vs1,rfl,s1,r1⟩:=i1.1 xs rfl
  obtain⟨p2,vs2,rfl,s2,r2⟩:=i2.1 ys rfl
  have l1:=r1.len
  have l2:=r2.len
  subst ek
  exact⟨p1,p2,vs1,vs2,rfl,rfl,s1,s2,by have:=hZ;omega,λp hp=>k _ _ trivial (bl.gj hp λG H' sm q=>.lst q ((r1.app r2).sm sm))⟩
 ·cases e3
noncomputable abbrev aW:=fOr rE (fOr rR (fOr pM sF))
theorem zG{a b:Expr}{ma mb:Mi Rr}{pos:Pos}(ha:JE X E a ma)(hb:JE X E b mb):JE X E (.BinOp a .Add b pos) (mOp aW ma mb):=mE (OpR.or' Ei (OpR.or' qc (OpR.or' z3 wg))) (zr.or (zN.or (As.or Al))) ha hb
end
end M
namespace M
open PySem L2
section
variable{X:Cx}{E:XK}
noncomputable def kA(i:Nat):Mi Rr:=λρ=>match aC ρ i with
 | some (.lst _)=>some (.ok (.fr .non),setAt ρ i (.lst []))
 | _=>none
theorem vg{i:Nat}{x:Str}{px apos cpos:Pos}(hN:X.N[i]?=some x)(hv:Vis X.env.scope x)(hd:NDb x)(hcd:NCd x)
  (hbase:attributeBase (.Name x px) "clear" X.env (eval (.Name x px) X.env)=eval (.Name x px) X.env:=by rfl)(hline:(apos.endLine==cpos.line)=true:=by rfl) :
  JE X E (.Call (.Attribute (.Name x px) "clear" apos) [] [] cpos) (kA i) :=
 ⟨PE.weaken (yO NC PySem.F.slot_list_clear PySem.F.type_list_clear wQ (dk hN hv hd hcd) hbase hline) λσ H Q h=>by
  obtain⟨c,ρ,τ,θ,o,ρ',ek,b,em,q⟩:=h
  unfold kA at em
  cases e2:aC ρ i with
  | none=>simp only[e2] at em;cases em
  | some lo =>
   cases lo with
   | dic _=>simp only[e2] at em;cases em
   | obj _ _=>simp only[e2] at em;cases em
   | lst xs =>
    simp only[e2] at em
    cases em
    obtain⟨p,vs,hp,hH⟩:=eL b e2
    obtain⟨L,bl⟩:=b
    obtain⟨p',h1,h2,h3⟩:=bl.live e2 (.lst []) (.lst [])
    rw[hp] at h1;cases h1
    refine⟨_,hp,.inl ⟨rfl,vs,.inl (.inl hH)⟩,?_⟩
    exact⟨p,vs,rfl,rfl,hH,q _ _ trivial (Bd.push (h3 λH' hh=>.lst hh .nil) λ_=>.non)⟩⟩
theorem RAs.dropLast{K:Kx}{G:Hp}:∀{vs:List V}{as:List A},RAs K G vs as->RAs K G vs.dropLast as.dropLast
 | _,_,.nil=>.nil
 | _,_,.cons h .nil=>.nil
 | _,_,.cons h (.cons h2 r)=>.cons h (RAs.dropLast (.cons h2 r))
noncomputable def lH(i:Nat):Mi Rr:=λρ=>match aC ρ i with
 | some (.lst xs)=>match xs[xs.length-1]? with
  | some a=>some (.ok (.fr a),setAt ρ i (.lst xs.dropLast))
  | none=>none
 | _=>none
theorem DA{i:Nat}{x:Str}{px apos cpos:Pos}(hN:X.N[i]?=some x)(hv:Vis X.env.scope x)(hd:NDb x)(hcd:NCd x)
  (hbase:attributeBase (.Name x px) "pop" X.env (eval (.Name x px) X.env)=eval (.Name x px) X.env:=by rfl)(hline:(apos.endLine==cpos.line)=true:=by rfl) :
  JE X E (.Call (.Attribute (.Name x px) "pop" apos) [] [] cpos) (lH i) :=
 ⟨PE.weaken (yO NC PySem.F.slot_list_pop PySem.F.type_list_pop DL (dk hN hv hd hcd) hbase hline) λσ H Q h=>by
  obtain⟨c,ρ,τ,θ,o,ρ',ek,b,em,q⟩:=h
  unfold lH at em
  cases e2:aC ρ i with
  | none=>simp only[e2] at em;cases em
  | some lo =>
   cases lo with
   | dic _=>simp only[e2] at em;cases em
   | obj _ _=>simp only[e2] at em;cases em
   | lst xs =>
    simp only[e2] at em
    cases e3:xs[xs.length-1]? with
    | none=>simp only[e3] at em;cases em
    | some a =>
     simp only[e3] at em
     cases em
     obtain⟨p,vs,hp,hH⟩:=eL b e2
     obtain⟨L,bl⟩:=b
     obtain⟨p',h1,h2,h3⟩:=bl.live e2 (.lst xs) (.lst [])
     rw[hp] at h1;cases h1
     cases h2 with
     | lst e rr =>
      rename_i ws
      rw[hH] at e;cases e
      obtain⟨v,g1,g2⟩:=rr.ta e3
      obtain⟨L1,bl1⟩:=bl.push g2
      obtain⟨p2,k1,k2,k3⟩:=bl1.live e2 (.lst xs.dropLast) (.lst vs.dropLast)
      rw[hp] at k1;cases k1
      cases k2 with
      | lst e' rr' =>
       rw[hH] at e';cases e'
       refine⟨_,hp,.inl ⟨rfl,vs,.inl (.inl hH)⟩,?_⟩
       exact⟨p,vs,v,rfl,rfl,hH,by rw[rr.len];exact g1,q _ _ trivial (k3 λH' hh=>.lst hh rr'.dropLast)⟩⟩
end
end M
namespace M
open PySem L2
section
variable{X:Cx}{E:XK}
noncomputable def Ki(tab:Str->Option Bool):A->Option Rr
 | .exc c=>match tab c with
  | some k=>some (.fr (.bl k))
  | none=>none
 | _=>none
end
end M
namespace M
open PySem L2
section
variable{c:Cn}{σ:St}{H:Hp}{ρ:List Sl}{τ:St}{θ:List Sl}
theorem BdL.HG{L:List Addr}{p:Addr}{o o':LO}{u:HO}(b:BdL c σ H ρ (some (.ref p)::τ) (.lv o::θ) L) :
  LR c.toKx (c.g H L) H p o/\((∀H',H' p=some u->LR c.toKx (c.g H L) H' p o')->BdL c σ (upd H p u) ρ (some (.ref p)::τ) (.lv o'::θ) L):=by
 obtain⟨nd,rel,own,fr,kp,lt,hdd⟩:=b
 have rel:ay c.toKx (c.g H L) H (some (.ref p)::(τ++σ)) (.lv o::(θ++ρ)) L:=rel
 cases rel with
 | cons h r =>
  rename_i L1 L2
  cases h with
  | lv h =>
   refine⟨h,λhn=>?_⟩
   have hin:p∈[p]++L2:=by simp
   have hne:∀q∈L2,q≠p:=λq hq z=>(Mp.mp nd).1 (by rw[<- z];exact hq)
   have ec:c.g (upd H p u) ([p]++L2)=c.g H ([p]++L2):=by
    funext a
    by_cases z:a∈[p]++L2\/a∈c.Hd
    ·rw[jz z,jz z]
    ·rw[cc (λy=>z (.inl y)) (λy=>z (.inr y)),cc (λy=>z (.inl y)) (λy=>z (.inr y)),aA λy=>z (.inl (by rw[y];exact hin))]
   refine⟨nd,ay.cons (L:=[p]) (.lv (by rw[ec];exact hn _ bj)) (r.sm (by rw[ec];exact Sq.refl _) (λq hq w e=>by rw[aA (hne q hq)];exact e)),own,⟨λq w e=>?_,λq hq=>?_⟩,kp,lt,hdd⟩
   ·obtain⟨w',h1,h2⟩:=fr.st q w e
    by_cases z:q=p
    ·subst z
     refine⟨u,bj,λnq=>?_⟩
     rcases own q hin with y|y
     ·exact absurd y nq
     ·rw[y] at e;cases e
    ·exact⟨w',by rw[aA z];exact h1,h2⟩
   ·obtain⟨h1,⟨ob,vs,h2⟩,h3⟩:=fr.pk q hq
    refine⟨?_,⟨ob,vs,h2⟩,h3⟩
    rw[aA λy=>?_]
    ·exact h1
    ·rw[y,h2] at h1
     cases h with
     | lst e _=>rw[e] at h1;cases h1
     | dic e _=>rw[e] at h1;cases h1
     | obj e _ _=>rw[e] at h1;cases h1
end
section
variable{X:Cx}{E:XK}
noncomputable def i7(k:Str)(m:Mi Rr):Mi Rr:=ax m λr ρ=>match aQ r ρ with
 | some (a,ρ')=>some (.ok (.nw (.dic [(.inr k,a)])),ρ')
 | none=>none
theorem uZ{k:Str}{j:Nat}{p pos:Pos}{e:Expr}{m:Mi Rr}(h:JE X E e m):JE X E (.Dict [some (.Constant (.str k) j p)] [e] pos) (i7 k m) :=
 ⟨PE.weaken (BP (vM yC h.p AH) rfl rfl (by simp) (by simp)) λσ H Q h=>by
  obtain⟨c,ρ,τ,θ,o,ρ',ek,b,em,q⟩:=h
  intro p hp
  show TEm (kx X) E m σ (upd H p (.dK [])) (λy H2=>H2 p=some (.dK [])/\∃kvs:List (Key×V),[(V.str k,y)]=kvs.map (λkv=>(kV kv.1,kv.2))/\kvs.length<=15/\Q (.ref p) (upd H2 p (.dK (iW [] kvs))))
  obtain⟨L,bl⟩:=b
  have b0:Bd c σ (upd H p (.dK [])) ρ (some (.ref p)::τ) (.lv (.dic [])::θ):=bl.gj hp λG H' sm hh=>.dic hh .nil
  refine aR ek b0 em (λr v ρ1 H1 hv b1 em1=>?_) (λe ee C H1 hm b1=>aM q e ee C H1 hm b1.pop)
  cases e1:aQ r ρ1 with
  | none=>simp only[e1] at em1;cases em1
  | some pr =>
   obtain⟨a,ρ2⟩:=pr
   simp only[e1] at em1
   cases em1
   have b2:=Bd.aQ (xs:=[]) (ss:=[]) rfl b1 hv e1
   obtain⟨L',bl',ra⟩:=Bd.oq b2
   obtain⟨h1,h2⟩:=bl'.HG (o':=.dic [(.inr k,a)]) (u:=.dK [(.inr k,v)])
   cases h1 with
   | dic e r0 =>
    cases r0
    exact⟨e,[(.inr k,v)],rfl,by simp,q _ _ trivial ⟨L',h2 λH' hh=>.dic hh (.cons ra .nil)⟩⟩⟩
noncomputable def AG(ρ:List Sl)(i:Nat):Bool:=match aC ρ i with
 | some (.dic _)=>true
 | _=>false
noncomputable def kO(i:Nat)(m:Mi Rr):Mi Rr:=λρ0=>if AG ρ0 i=true then ax m (λr ρ=>match res ρ r,aC ρ i with
 | some ka,some (.dic kvs)=>match gH ka with
  | some y=>match eP kvs y with
   | some a=>some (.ok (.fr a),setAt ρ i (.dic (kvs.filter λkv=>decide (kv.1≠y))))
   | none=>none
  | none=>none
 | _,_=>none) ρ0 else none
theorem Ad{i:Nat}{x:Str}{px apos cpos:Pos}{e:Expr}{m:Mi Rr}(hN:X.N[i]?=some x)(hv:Vis X.env.scope x)(hd:NDb x)(hcd:NCd x)(he:JE X E e m)(hm:M1 X (.Name x px) "pop" apos e cpos) :
  JE X E (.Call (.Attribute (.Name x px) "pop" apos) [e] [] cpos) (kO i m) :=
 ⟨PE.weaken (xB (dk hN hv hd hcd) he.p hm) λσ H Q h=>by
  obtain⟨c,ρ,τ,θ,o,ρ',ek,b,em,q⟩:=h
  unfold kO at em
  split at em
  ·rename_i hl
   obtain⟨xs0,hl⟩:∃kvs,aC ρ i=some (.dic kvs):=by
    unfold AG at hl
    cases e:aC ρ i with
    | none=>rw[e] at hl;cases hl
    | some o=>cases o with
     | dic kvs=>exact⟨kvs,rfl⟩
     | lst _=>rw[e] at hl;cases hl
     | obj _ _=>rw[e] at hl;cases hl
   obtain⟨p,vs,hp,hH⟩:∃p vs,σ[i]?=some (some (.ref p))/\H p=some (.dK vs):=by
    obtain⟨L,b⟩:=b
    obtain⟨p,h1,h2,_⟩:=b.live hl (.dic xs0) (.dK [])
    cases h2 with|dic e r=>exact⟨p,_,h1,e⟩
   refine⟨_,hp,p,rfl,.inl ⟨vs,.inl hH⟩,?_⟩
   refine aR ek b em (λr v ρ1 H1 hv b1 em1=>?_) (aM q)
   cases e1:res ρ1 r with
   | none=>simp only[e1] at em1;cases em1
   | some ka =>
    have r1:=Bd.rd b1 hv e1
    cases e2:aC ρ1 i with
    | none=>simp only[e1,e2] at em1;cases em1
    | some lo =>
     cases lo with
     | lst _=>simp only[e1,e2] at em1;cases em1
     | obj _ _=>simp only[e1,e2] at em1;cases em1
     | dic kvs =>
      simp only[e1,e2] at em1
      cases e3:gH ka with
      | none=>simp only[e3] at em1;cases em1
      | some y =>
       simp only[e3] at em1
       have ev:=iV r1 e3
       cases e4:eP kvs y with
       | none=>simp only[e4] at em1;cases em1
       | some a =>
        simp only[e4] at em1
        cases em1
        obtain⟨L,bl⟩:=b1.drop
        obtain⟨p',h1,h2,_⟩:=bl.live e2 (.dic kvs) (.dK [])
        rw[hp] at h1;cases h1
        cases h2 with
        | dic eH rr =>
         rename_i ws
         rcases rr.get y with ⟨v',a',g1,g2,g3⟩|⟨_,g2⟩
         ·rw[e4] at g2
          cases g2
          have b5:=bl.push g3
          obtain⟨L5,bl5⟩:=b5
          obtain⟨p5,h5,h6,h7⟩:=bl5.live e2 (.dic (kvs.filter λkv=>decide (kv.1≠y))) (.dK (fM ws y))
          rw[hp] at h5;cases h5
          cases h6 with
          | dic eH6 rr6 =>
           rw[eH] at eH6
           cases eH6
           exact⟨ws,y,v',eH,ev,g1,q v' _ trivial (h7 λH' hh=>.dic hh (rr6.filter y))⟩
         ·rw[e4] at g2;cases g2
  ·cases em⟩
end
inductive jM (K:LD) (H:Hp) (kb:List (Key×V)):List (Key×V)->Bool->Prop
 | nil:jM K H kb [] true
 | miss {k:Key} {v:V} {r:List (Key×V)} (h:fB kb k=none):jM K H kb ((k,v)::r) false
 | hit {k:Key} {v y:V} {r:List (Key×V)} {d e:D} {b:Bool} (h:fB kb k=some y) (hd:Den K H v d) (he:Den K H y e) (dp:D.depth d<=40) (t:jM K H kb r b):jM K H kb ((k,v)::r) (D.eq d e&&b)
noncomputable def jl(kb:List (Key×A)):List (Key×A)->Option Bool
 | []=>some true
 | (k,a)::r=>match eP kb k with
  | none=>some false
  | some b=>match eqA a b,jl kb r with
   | some e,some t=>some (e&&t)
   | _,_=>none
theorem sP{K:Kx}{H:Hp}{vb:List (Key×V)}{kb:List (Key×A)}(rb:RKs K H vb kb):∀{va:List (Key×V)}{ka:List (Key×A)}{r:Bool},RKs K H va ka->jl kb ka=some r->jM K.K H vb va r
 | _,_,_,.nil,h=>by cases h;exact .nil
 | _,_,_,.cons (y:=y) (a:=a) (as:=as) h0 r0,h=>by
  unfold jl at h
  rcases rb.get y with ⟨v',a',g1,g2,g3⟩|⟨g1,g2⟩
  ·simp only[g2] at h
   cases e1:eqA a a' with
   | none=>simp only[e1] at h;cases h
   | some e =>
    cases e2:jl kb as with
    | none=>simp only[e1,e2] at h;cases h
    | some t =>
     simp only[e1,e2] at h
     cases h
     obtain⟨d,f,q1,q2,q3,rfl⟩:=j3 e1
     exact .hit g1 (g9 h0 q1) (g9 g3 q2) q3 (sP rb r0 e2)
  ·simp only[g2] at h
   cases h
   exact .miss g1
section
variable{X:Cx}{E:XK}
noncomputable def sv(K:LD):R2:=λx y H Q=>∃a b ka kb r,x=.ref a/\y=.ref b/\Rd H a (.dK ka)/\Rd H b (.dK kb)/\jM K H kb ka r/\Q (.bl (!(ka.length==kb.length&&r))) H
theorem CT{pins:List (Addr×Obj)}{σ:St}{H:Hp}{s:Shared}{A:Around}(I:Inv X pins σ H s)(hu:A.units+40<cLine){kb:List (Key×V)}{vb:List (Key×Value)}(rb:KV kb vb){ka:List (Key×V)}{r:Bool}(h:jM X.K H kb ka r):∀{va:List (Key×Value)},KV ka va->PySem.W.KeqHits A s vb va r:=by
 induction h with
 | nil=>intro va q;cases q;exact .nil
 | @miss k v r h =>
  intro va q
  cases q with
  | @cons _ p _ ps h0 r0 =>
   obtain⟨k',v'⟩:=p
   obtain⟨e,rv⟩:=h0
   have e:k=k':=e
   subst e
   exact .miss (fv.none_of (by rw[<- h];exact rb.val k))
 | @hit k v y r d e b h hd he dp t ih =>
  intro va q
  cases q with
  | @cons _ p _ ps h0 r0 =>
   obtain⟨k',v'⟩:=p
   obtain⟨e,rv⟩:=h0
   have e:k=k':=e
   subst e
   obtain⟨w',hw,rw'⟩:=fv.some_of (v:=y) (o:=PySem.valueAt vb k) (by rw[<- h];exact rb.val k)
   exact .hit hw (gc I 40 hu dp hd he rv rw') (ih r0)
theorem mG(hu:X.A.units+64<cLine):OpR X (compareOp .NotEq) (sv X.K):=by
 intro pins s σ H x y v u Q I rx ry h
 obtain⟨a,b,ka,kb,r,rfl,rfl,da,db,hh,q⟩:=h
 cases rx
 cases ry
 obtain⟨z1,l1,va,r1,d1⟩:=L2.dy I.hok da
 obtain⟨z2,l2,vb,r2,d2⟩:=L2.dy I.hok db
 refine PySem.W.keq_ne l1 l2 d1 d2 (by omega) (λ_=>CT I (A:=X.A.in1) (by show X.A.in1.units+40<cLine;rw[show X.A.in1.units=X.A.units+1 from rfl];omega) r2 hh r1) ?_
 rw[<- r1.length,<- r2.length]
 exact⟨.bl _,H,I,rfl,q⟩
noncomputable def Au(ka kb:List (Key×A)):Option Bool:=match jl kb ka with
 | some r=>some (ka.length==kb.length&&r)
 | none=>none
noncomputable def LB:A->A->Option Rr
 | .dic ka,.dic kb=>match Au ka kb with
  | some r=>some (.fr (.bl r))
  | none=>none
 | _,_=>none
noncomputable def iF:A->A->Option Rr
 | .dic ka,.dic kb=>match Au ka kb with
  | some r=>some (.fr (.bl (!r)))
  | none=>none
 | _,_=>none
theorem lW{K:Kx}:OpS K (sv K.K) iF:=.scalar λH v w a b q r1 r2 h=>by
 cases a<;>first|(cases h;done)|(cases b<;>first|(cases h;done)|skip)
 rename_i ka kb
 unfold iF Au at h
 simp only at h
 cases e:jl kb ka with
 | none=>simp only[e] at h;cases h
 | some r =>
  simp only[e] at h
  cases h
  cases r1 with
  | dic e1 k1 =>
   cases r2 with
   | dic e2 k2=>exact⟨_,_,rfl,λ_=>.bl _,λQ k=>⟨_,_,_,_,_,rfl,rfl,e1,e2,sP k2 k1 e,by rw[k1.len,k2.len];exact k⟩⟩
variable{a b:Expr}{ma mb:Mi Rr}{pos:Pos}
theorem FV(hu:X.A.units+64<cLine)(ha:JE X E a ma)(hb:JE X E b mb):JE X E (.Compare a [.NotEq] [b] pos) (mOp (fOr fNe iF) ma mb):=cD (OpR.or' (nM hu) (mG hu)) (sV.or lW) ha hb (aY _)
theorem DX(hu:X.A.units+64<cLine)(ha:JE X E a ma)(hb:JE X E b mb):JT X E (.Compare a [.NotEq] [b] pos) (ah (mOp (fOr fNe iF) ma mb)):=cz (OpR.or' (nM hu) (mG hu)) (sV.or lW) ha hb (aY _)
end
end M
set_option maxHeartbeats 4000000
set_option maxHeartbeats 1000000
namespace M
open PySem L2
section
variable{c:Cn}{σ:St}{H:Hp}{ρ:List Sl}{τ:St}{θ:List Sl}
theorem SlR.Co{k:Kx}{G H:Hp}{x:Option V}{s:Sl}{L:List Addr}{cn:Str}{fs:List (Str×A)}(h:SlR k G H x s L)(sm:Sq G H)(e:s.a=some (.obj cn fs)):∃p C dx vs,x=some (.ref p)/\H p=some (.ins C dx vs)/\k.mg cn=some (.ref C)/\RFs k G vs fs:=by
 have lo:∀p o,LR k G H p o->o.a=A.obj cn fs->∃C dx vs,H p=some (.ins C dx vs)/\k.mg cn=some (.ref C)/\RFs k G vs fs:=λp o h z=>by
  cases h with
  | lst=>cases z
  | dic=>cases z
  | obj e m r=>cases z;exact⟨_,_,_,e,m,r⟩
 cases h with
 | un=>cases e
 | fr h=>cases e;cases h with|obj e m r=>exact⟨_,_,_,_,rfl,sm.keep e rfl,m,r⟩
 | lv h=>obtain⟨C,dx,vs,h1,h2,h3⟩:=lo _ _ h (LY e);exact⟨_,C,dx,vs,rfl,h1,h2,h3⟩
 | pv h=>obtain⟨C,dx,vs,h1,h2,h3⟩:=lo _ _ h (LY e);exact⟨_,C,dx,vs,rfl,h1,h2,h3⟩
theorem Bd.xG{r:Rr}{v:V}{cn:Str}{fs:List (Str×A)}(b:Bd c σ H ρ (bJ r v τ) (bG r θ))(hv:VR σ r v)(e:res ρ r=some (.obj cn fs)):∃L p C dx vs,BdL c σ H ρ τ θ L/\v=.ref p/\H p=some (.ins C dx vs)/\c.mg cn=some (.ref C)/\RFs c.toKx (c.g H L) vs fs:=by
 obtain⟨L0,b⟩:=b
 have tmp:∀s,BdL c σ H ρ (some v::τ) (s::θ) L0->s.a=some (.obj cn fs)->∃L p C dx vs,BdL c σ H ρ τ θ L/\v=.ref p/\H p=some (.ins C dx vs)/\c.mg cn=some (.ref C)/\RFs c.toKx (c.g H L) vs fs:=by
  intro s b ea
  obtain⟨nd,rel,own,fr,kp,lt,hdd⟩:=b
  have rel:ay c.toKx (c.g H L0) H (some v::(τ++σ)) (s::(θ++ρ)) L0:=rel
  cases rel with
  | cons h r =>
   rename_i L1 L2
   have sm:Sq (c.g H (L1++L2)) (c.g H L2):=cP λa ha=>LN _ ha
   obtain⟨p,C,dx,vs,h1,h2,h3,h4⟩:=(h.sm sm (λ_ _ _ e=>e)).Co (g_same _ _ _) ea
   exact⟨L2,p,C,dx,vs,⟨(L6.mp nd).2.1,r.sm sm (λ_ _ _ e=>e),λp hp=>own p (LN _ hp),fr,kp,by simpa using lt,hdd⟩,LY h1,h2,h3,h4⟩
 cases r with
 | rf i =>
  unfold res at e
  cases es:ρ[i]? with
  | none=>simp only[es] at e;cases e
  | some s =>
   simp only[es] at e
   obtain⟨L1,L2,e1,r1,r2⟩:=ay.split b.lt b.rel
   obtain⟨x,_,_,_,hx,hs,_⟩:=r2.at es
   have hv:σ[i]?=some (some v):=hv
   rw[hv] at hx
   obtain⟨p,C,dx,vs,h1,h2,h3,h4⟩:=hs.Co (g_same _ _ _) e
   rw[<- LY hx] at h1
   exact⟨L0,p,C,dx,vs,b,LY h1,h2,h3,h4⟩
 | fr a'=>exact tmp _ b e
 | nw o=>exact tmp _ b e
theorem Bd.rot{x:Option V}{s:Sl}{ys:St}{ss:List Sl}(e:ys.length=ss.length)(b:Bd c σ H ρ (x::(ys++τ)) (s::(ss++θ))):Bd c σ H ρ (ys++x::τ) (ss++s::θ):=by
 obtain⟨L,b⟩:=b
 have r:ay c.toKx (c.g H L) H (x::(ys++(τ++σ))) (s::(ss++(θ++ρ))) L:=by have:=b.rel;simpa[LQ] using this
 cases r with
 | cons h r =>
  rename_i L1 L2
  obtain⟨La,Lb,e1,r1,r2⟩:=ay.split e r
  subst e1
  have pm:(L1++(La++Lb)).Perm (La++(L1++Lb)):=by
   rw[<- LQ,<- LQ]
   exact Nl.append_right Lb
  refine⟨La++(L1++Lb),(pm.nodup_iff).mp b.nd,?_,λp hp=>b.own p (pm.mem_iff.mpr hp),b.fr,b.kp,by have:=b.lt;simp[e] at this ⊢;omega,b.hd⟩
  have hg:c.g H (La++(L1++Lb))=c.g H (L1++(La++Lb)):=F3 λa=>pm.mem_iff.symm
  rw[hg]
  have:=r1.app (ay.cons h r2)
  simpa[LQ] using this
end
section
variable{X:Cx}{E:XK}
noncomputable def aU(cs:List Str)(f:Str):A->Option Rr
 | .obj c fs=>if cs.contains c then (match fs.lookup f with
  | some a=>some (.fr a)
  | none=>none) else none
 | _=>none
noncomputable def Cp(K:LD)(f:Str):V->Hp->VK->Prop:=λx H1 Q=>∃a C dx fs v,x=.ref a/\H1 a=some (.ins C dx fs)/\Cls K C/\dH K C f/\fs.lookup f=some v/\Q v H1
theorem zo{K:Kx}{cs:List Str}{f:Str}(hc:∀c C,cs.contains c=true->K.mg c=some (.ref C)->Cls K.K C/\dH K.K C f):UnS K (Cp K.K f) (aU cs f):=by
 intro c σ H ρ τ θ x v a q Q ek hv bd e1 e3 k
 cases a<;>first|(cases e3;done)|skip
 rename_i cn fs
 unfold aU at e3
 simp only at e3
 split at e3
 ·rename_i hcn
  cases el:fs.lookup f with
  | none=>simp only[el] at e3;cases e3
  | some w =>
   simp only[el] at e3;cases e3
   obtain⟨L,p,C,dx,vs,bl,rfl,h2,h3,h4⟩:=Bd.xG bd hv e1
   subst ek
   obtain⟨c1,c2⟩:=hc cn C hcn h3
   rcases h4.get f with ⟨u,a,g1,g2,g3⟩|⟨_,g2⟩
   ·rw[el] at g2;cases g2
    exact⟨p,C,dx,vs,u,rfl,h2,c1,c2,g1,k u H trivial (bl.push g3)⟩
   ·rw[el] at g2;cases g2
 ·cases e3
theorem A4{e:Expr}{m:Mi Rr}{f:Str}{cs:List Str}{pos:Pos}(hc:∀c C,cs.contains c=true->X.mg c=some (.ref C)->Cls X.K C/\dH X.K C f)(he:JE X E e m)(hb:attributeBase e f X.env (eval e X.env)=eval e X.env):JE X E (.Attribute e f pos) (mUn (aU cs f) m) :=
 ⟨PE.weaken (E6 he.p hb) λσ H Q h=>ix (r:=Cp X.K f) (zo hc) σ H Q h⟩
noncomputable def dW(cs:List Str)(i:Nat)(f:Str)(m:Mi Rr):Ms:=bu m λr ρ=>match aQ r ρ with
 | some (a,ρ1)=>match aC ρ1 i with
  | some (.obj c fs)=>if cs.contains c&&O1 fs.length 900 then some (.nx,setAt ρ1 i (.obj c (lI f a fs))) else none
  | _=>none
 | none=>none
theorem Be{i:Nat}{x f:Str}{cs:List Str}{px p1 pos:Pos}{e:Expr}{m:Mi Rr}(hN:X.N[i]?=some x)(hv:Vis X.env.scope x)(hd:NDb x)(hcd:NCd x)(hc:∀c C,cs.contains c=true->X.mg c=some (.ref C)->Cls X.K C/\dH X.K C f)(he:JE X E e m)
  (hs:swapsWith e (some (.Attribute (.Name x px) f p1)) pos.line X.env=pure false):JS X E (.Assign [.Attribute (.Name x px) f p1] e pos) (dW cs i f m) :=
 ⟨PS.weaken (Dk (dk hN hv hd hcd) he.p hs) λD σ H h=>by
  obtain⟨c,ρ,τ,θ,fl,ρ',ek,b,em,q⟩:=h
  refine d9 ek b em q λr v ρ1 H1 hv b1 em1=>?_
  cases e1:aQ r ρ1 with
  | none=>simp only[e1] at em1;cases em1
  | some pr =>
   obtain⟨a,ρ2⟩:=pr
   simp only[e1] at em1
   have b2:=Bd.aQ (xs:=[]) (ss:=[]) rfl b1 hv e1
   cases e2:aC ρ2 i with
   | none=>simp only[e2] at em1;cases em1
   | some lo =>
    cases lo with
    | lst _=>simp only[e2] at em1;cases em1
    | dic _=>simp only[e2] at em1;cases em1
    | obj cn fs =>
     simp only[e2] at em1
     split at em1
     ·rename_i hcn
      rw[LG] at hcn
      cases em1
      obtain⟨L,bl,ra⟩:=Bd.oq b2
      obtain⟨p,h1,h2,h3⟩:=bl.live e2 (.obj cn (lI f a fs)) (match H1 (match σ[i]? with|some (some (.ref p))=>p|_=>0) with|some (.ins C dx ws)=>.ins C dx (fu f v ws)|_=>.lst [])
      cases h2 with
      | obj ee mm rr =>
       rename_i C dx ws
       simp only[h1,ee] at h3
       have e3:X.mg cn=some (.ref C):=by have:=congrArg (λk:Kx=>k.mg cn) ek;simp only at this;rw[<- this];exact mm
       obtain⟨c1,c2⟩:=hc cn C hcn.1 e3
       exact⟨_,h1,p,C,dx,ws,rfl,ee,c1,c2,by have:=rr.len;have:=Nn hcn.2;omega,q σ _ (h3 λH' hh=>.obj hh mm (rr.put ra))⟩
     ·cases em1⟩
noncomputable def bc(cn m:Str)(mo:Mi Rr):Mi Rr:=ax mo λr ρ=>match res ρ r with
 | some (.obj c fs)=>if c==cn&&(fs.lookup m).isNone then some (.ok r,ρ) else none
 | _=>none
theorem i5{cn m:Str}{r r':Rr}{ρ ρ':List Sl}{o:Except Str Rr}(h:(match res ρ r with|some (.obj c fs)=>if c==cn&&(fs.lookup m).isNone then some ((.ok r:Except Str Rr),ρ) else none|_=>none)=some (o,ρ')):∃fs,res ρ r=some (.obj cn fs)/\fs.lookup m=none/\o=.ok r/\ρ'=ρ:=by
 split at h
 ·rename_i c fs e
  split at h
  ·rename_i hc
   rw[LG,beq_iff_eq,N8] at hc
   cases h
   exact⟨fs,by rw[e,hc.1],hc.2,rfl,rfl⟩
  ·cases h
 ·cases h
theorem mS{m:Ms}{n:Nat}{cn mn:Str}{C:Addr}{das:List A}{dvs:List V}(hd:∀G,RAs (kx X) G dvs das){mo:Mi Rr}{ma:Mi (List Rr)}(hC:X.mg cn=some (.ref C))(hn:∀ρ rs ρ',ma ρ=some (.ok rs,ρ')->rs.length+1+das.length=n)(σ:St)(H:Hp)(Q:VK)(h:TEm (kx X) E (af m das (aa (bc cn mn mo) ma)) σ H Q) :
  xo C mn (SpM (kx X) n m) dvs E (TEm (kx X) E mo) (TAm (kx X) E ma) σ H Q:=by
 obtain⟨c,ρ,τ,θ,o,ρ',ek,b,em,q⟩:=h
 have fin:∀e,o=.error e->∀C H,X.mg e=some (.ref C)->Bd c σ H ρ' τ θ->E (.ref C) none H:=aM q
 rcases bind_some em with ⟨rs,ρ1,e1,e2⟩|⟨e,e1,e2⟩
 ·rcases bind_some e1 with ⟨r,ρ2,e3,e4⟩|⟨_,_,e4⟩
  ·rcases bind_some e3 with ⟨r0,ρ3,e5,e6⟩|⟨_,_,e6⟩
   ·obtain⟨fs,g1,g2,g3,g4⟩:=i5 (r':=r0) e6
    cases g3;subst g4
    refine⟨c,ρ,τ,θ,_,ρ2,ek,b,e5,λv H1 hv b1=>?_⟩
    obtain⟨L,p,C',dx,vs,bl,rfl,h2,h3,h4⟩:=Bd.xG b1 hv g1
    have h3':X.mg cn=some (.ref C'):=by have:=congrArg (λk:Kx=>k.mg cn) ek;simp only at this;rw[<- this];exact h3
    rw[hC] at h3';cases h3'
    have hl:vs.lookup mn=none:=by
     rcases h4.get mn with ⟨_,_,_,z,_⟩|⟨z,_⟩
     ·rw[g2] at z;cases z
     ·exact z
    refine⟨p,dx,vs,rfl,h2,hl,?_⟩
    rcases bind_some e4 with ⟨rs',ρ4,e7,e8⟩|⟨_,_,e8⟩
    ·cases e8
     refine⟨c,ρ2,_,_,_,_,ek,b1,e7,λws H2 hws b2=>?_⟩
     refine l9 (rs:=r::rs') (vs:=.ref p::ws) hd ek ?_ ⟨hv,hws⟩ b2 e2 (λr hr v H' hv b=>by subst hr;exact q v H' hv b) (λx hx=>by subst hx;exact q)
     rw[MU,LL,L4,<- hws.len,<- hn _ _ _ e7,(hd λ_=>none).len]
     omega
    ·cases e8
   ·cases e6
  ·cases e4
 ·rcases bind_some e1 with ⟨r,ρ2,e3,e4⟩|⟨e',e3,e4⟩
  ·rcases bind_some e3 with ⟨r0,ρ3,e5,e6⟩|⟨_,_,e6⟩
   ·obtain⟨fs,g1,g2,g3,g4⟩:=i5 (r':=r0) e6
    cases g3;subst g4
    refine⟨c,ρ,τ,θ,_,ρ2,ek,b,e5,λv H1 hv b1=>?_⟩
    obtain⟨L,p,C',dx,vs,bl,rfl,h2,h3,h4⟩:=Bd.xG b1 hv g1
    have h3':X.mg cn=some (.ref C'):=by have:=congrArg (λk:Kx=>k.mg cn) ek;simp only at this;rw[<- this];exact h3
    rw[hC] at h3';cases h3'
    have hl:vs.lookup mn=none:=by
     rcases h4.get mn with ⟨_,_,_,z,_⟩|⟨z,_⟩
     ·rw[g2] at z;cases z
     ·exact z
    refine⟨p,dx,vs,rfl,h2,hl,?_⟩
    rcases bind_some e4 with ⟨rs',ρ4,e7,e8⟩|⟨e9,e7,e8⟩
    ·cases e8
    ·cases e8
     refine⟨c,ρ2,_,_,_,_,ek,b1,e7,λC H2 hm b2=>fin e e2 C H2 hm b2.drop⟩
   ·cases e6
  ·rcases bind_some e3 with ⟨r0,ρ3,e5,e6⟩|⟨e9,e5,e6⟩
   ·obtain⟨fs,g1,g2,g3,g4⟩:=i5 (r':=r0) e6
    cases g3
   ·cases e4;cases e6
    exact⟨c,ρ,τ,θ,_,_,ek,b,e5,λC H1 hm b1=>fin _ e2 C H1 hm b1⟩
end
end M
namespace M
open PySem L2
theorem l7{o:Expr}{m:Str}{apos pos:Pos}{args:List Expr}{env:Env}(hbase:attributeBase o m env (eval o env)=eval o env)
  (hfew:methodCallForm (args.length+([]:List Keyword).length) (backTo pos (starEach args env)) (backToKw pos (keywordEach [] env))=true)(hline:(apos.endLine==pos.line)=true) :
  eval (.Call (.Attribute o m apos) args [] pos) env=(do
   let ov <- eval o env
   standAt apos.atName
   let (f,first) <- holding [ov] (getMethod ov m (do return (<- importBound o env).getD true))
   callWith pos f first (backTo pos (starEach args env)) (backToKw pos (keywordEach [] env))):=by
 rw[arm_eval_Call,hbase]
 unfold methodCall calleeOf methodCallPos
 rw[hfew,hline]
 rfl
section
variable{X:Cx}{E:XK}{CX:CXT}{k n:Nat}{f C:Addr}{fd:FuncData}{ps:List Str}{m:Ms}{das:List A}{dvs:List V}{ds:List Value}{cn mn:Str}{apos pos:Pos}{o e:Expr}{es:List Expr}{mo:Mi Rr}{ma:Mi (List Rr)}
theorem Ah(hC:X.mg cn=some (.ref C))(hc:Cls X.K C)(hm:Meth X.K C mn f)(F:cV X.prog X.w X.K X.mg X.base CX k f fd ps (SpM (kx X) n m))(hr:cj k X.A)(hb:Binds X.K fd ps ds)(hd:Vals dvs ds)(hda:∀G,RAs (kx X) G dvs das)(hx:Passes CX X E)
  (ho:JE X E o mo)(ha:JA X E (e::es) ma)(hn:∀ρ rs ρ',ma ρ=some (.ok rs,ρ')->rs.length+1+das.length=n)(hbase:attributeBase o mn X.env (eval o X.env)=eval o X.env)
  (hfew:methodCallForm ((e::es).length+([]:List Keyword).length) (backTo pos (starEach (e::es) X.env)) (backToKw pos (keywordEach [] X.env))=true)(hline:(apos.endLine==pos.line)=true)
  (hst:starEach (e::es) X.env=(false,eval e X.env)::starEach es X.env)(hpl:(backTo pos (starEach es X.env)).any (·.1)=false):JE X E (.Call (.Attribute o mn apos) (e::es) [] pos) (af m das (aa (bc cn mn mo) ma)) :=
 ⟨PE.weaken (yV ho.p hc hm F hr hb hd hx ha.p hst hpl (l7 hbase hfew hline)) (mS hda hC hn)⟩
theorem TEm.mono{K:Kx}{E:XK}{m:Mi Rr}{σ:St}{H:Hp}{Q Q':VK}(h:TEm K E m σ H Q)(f:∀v H,Q v H->Q' v H):TEm K E m σ H Q':=by
 obtain⟨c,ρ,τ,θ,o,ρ',ek,b,em,q⟩:=h
 refine⟨c,ρ,τ,θ,o,ρ',ek,b,em,?_⟩
 cases o with
 | ok r=>exact λv H' hv b'=>f _ _ (q v H' hv b')
 | error x=>exact q
theorem xJ(hC:X.mg cn=some (.ref C))(hc:Cls X.K C)(hm:Meth X.K C mn f)(F:cV X.prog X.w X.K X.mg X.base CX k f fd ps (SpM (kx X) n m))(hr:cj k X.A)(hb:Binds X.K fd ps ds)(hd:Vals dvs ds)(hda:∀G,RAs (kx X) G dvs das)(hx:Passes CX X E)
  (ho:JE X E o mo)(hn:1+das.length=n)(hbase:attributeBase o mn X.env (eval o X.env)=eval o X.env)(hline:(apos.endLine==pos.line)=true):JE X E (.Call (.Attribute o mn apos) [] [] pos) (af m das (aa (bc cn mn mo) ag)) :=
 ⟨PE.weaken (xx ho.p hc hm F hr hb hd hx (l7 hbase rfl hline)) λσ H Q h=>by
  have h1:=mS (X:=X) (E:=E) (C:=C) (n:=n) hda hC (ma:=ag) (λρ rs ρ' q=>by cases q;rw[<- hn];simp) σ H Q h
  refine TEm.mono h1 λv H1 ⟨a,dx,fs,g1,g2,g3,g4⟩=>⟨a,dx,fs,g1,g2,g3,?_⟩
  obtain⟨c,ρ,τ,θ,o,ρ',ek,b,em,q⟩:=g4
  cases em
  exact q [] H1 trivial b⟩
noncomputable def dU(cn:Str)(f:Ms)(das:List A)(ma:Mi (List Rr)):Mi Rr:=ax ma λrs ρ=>match cu (rs++das.map Rr.fr) ρ with
 | some (as,ρt)=>match f (.pv (.obj cn [])::as.map toP) with
  | some (.rt (.fr .non),.pv (.obj c2 fs)::ρr)=>match putL ρ (rs++das.map Rr.fr) (aT as.length ρr) ρt with
   | some ρ'=>some (.ok (.nw (.obj c2 fs)),ρ')
   | none=>none
  | some (.ex x,s::ρr)=>match putL ρ (rs++das.map Rr.fr) (aT as.length ρr) ρt with
   | some ρ'=>some (.error x,ρ')
   | none=>none
  | _=>none
 | none=>none
theorem uC(n:Nat)(s:Sl)(ρ:List Sl):∃t,aT (n+1) (s::ρ)=t::aT n ρ:=by cases s<;>exact⟨_,rfl⟩
theorem uF{C:Addr}(hda:∀G,RAs (kx X) G dvs das)(hC:X.mg cn=some (.ref C))(hn:∀ρ rs ρ',ma ρ=some (.ok rs,ρ')->rs.length+1+das.length=n)(σ:St)(H:Hp)(Q:VK)(h:TEm (kx X) E (dU cn m das ma) σ H Q) :
  B4 C (SpM (kx X) n m) dvs E (TAm (kx X) E ma) σ H Q:=by
 obtain⟨c,ρ,τ,θ,o,ρ',ek,b,em,q⟩:=h
 rcases bind_some em with ⟨rs,ρ1,e1,em⟩|⟨e,e1,e2⟩
 ·refine⟨c,ρ,τ,θ,_,ρ1,ek,b,e1,λvs H1 hv b1 x dx hx hdx hne=>?_⟩
  have ld:das.length=dvs.length:=(hda λ_=>none).len.symm
  refine⟨by rw[LL,L4,<- hv.len,<- hn _ _ _ e1,ld];omega,?_⟩
  cases e2:cu (rs++das.map Rr.fr) ρ1 with
  | none=>simp only[e2] at em;cases em
  | some p =>
   obtain⟨as,ρt⟩:=p
   simp only[e2] at em
   have hv2:VRs σ (rs++das.map Rr.fr) (vs++dvs):=hv.app (VRs.frs ld)
   have b2:Bd c σ H1 ρ1 (cG (rs++das.map Rr.fr) (vs++dvs) τ) (cF (rs++das.map Rr.fr) θ):=by
    rw[j6 _ _ _ hv.len,iX]
    exact Bd.qt (by rw[ek];exact hda) b1
   obtain⟨b3,e3⟩:=Bd.cu hv2 b2 e2
   have b4:=b3.new (o:=.own x) hdx
   have hx2:upd H1 dx (.own x) x=none:=by rw[aA hne.symm];exact hx
   obtain⟨L,b5⟩:=b4
   have hmg:c.mg cn=some (.ref C):=by have:=congrArg (λk:Kx=>k.mg cn) ek;simp only at this;rw[this];exact hC
   have b6:=b5.gj (u:=.ins C dx []) (o:=.obj cn []) hx2 λG H' sm q=>.obj q hmg .nil
   have b7:=Bd.rot (ys:=(vs++dvs).reverse.map some) (ss:=as.reverse) (by simp only[LH,List.length_reverse];exact e3) b6
   have b8:Bd c σ (upd (upd H1 dx (.own x)) x (.ins C dx [])) ρt ((V.ref x::(vs++dvs)).reverse.map some++τ) ((Sl.lv (.obj cn [])::as).reverse++θ):=by simpa[LQ] using b7
   obtain⟨c',k1,k2,k3,k4,k5⟩:=Bd.enter (by rw[LL,LL,e3]) b8
   have kp:eU c.σ0 σ ρ1:=by obtain⟨L,b⟩:=b1;exact b.kp
   cases e4:m (.pv (.obj cn [])::as.map toP) with
   | none=>simp only[e4] at em;cases em
   | some p =>
    obtain⟨f,ρc⟩:=p
    simp only[e4] at em
    refine⟨c',_,f,ρc,k1.trans ek,k2,k3,k4,e4,?_⟩
    have hlen:(V.ref x::(vs++dvs)).length=as.length+1:=by rw[LL,e3]
    cases f with
    | nx=>cases em
    | bk=>cases em
    | ct=>cases em
    | rt s =>
     cases s with
     | un=>cases em
     | lv o=>cases em
     | pv o=>cases em
     | fr a =>
      cases a<;>first|(cases em;done)|skip
      cases ρc with
      | nil=>cases em
      | cons s0 ρr =>
       cases s0 with
       | un=>cases em
       | fr a=>cases em
       | lv o=>cases em
       | pv o =>
        cases o with
        | lst _=>cases em
        | dic _=>cases em
        | obj c2 fs =>
         simp only at em
         cases e6:putL ρ1 (rs++das.map Rr.fr) (aT as.length ρr) ρt with
         | none=>simp only[e6] at em;cases em
         | some ρ2 =>
          simp only[e6] at em
          cases em
          intro v H' hs b9
          have rv:=Bd.top b9 (a:=.non) rfl
          cases rv
          refine⟨rfl,?_⟩
          have b10:=k5 H' _ _ _ (λs' hs' o z=>by rw[Ma.mp hs'] at z;exact hs o z) (bC _ _) b9
          rw[hlen] at b10
          have b11:Bd c σ H' ρt ((vs++dvs).reverse.map some++(some (.ref x)::(some .non::τ))) (((aT as.length ρr).map toL).reverse++(.lv (.obj c2 fs)::(.fr .non::θ))):=by
           simpa[aT,toL,LQ] using b10
          have b12:=Bd.putL kp hv2 b11 e6
          exact q (.ref x) H' trivial (Bd.qL (xs:=[some .non]) (ss:=[.fr .non]) rfl b12)
    | ex y =>
     cases ρc with
     | nil=>cases em
     | cons s0 ρr =>
      simp only at em
      cases e6:putL ρ1 (rs++das.map Rr.fr) (aT as.length ρr) ρt with
      | none=>simp only[e6] at em;cases em
      | some ρ2 =>
       simp only[e6] at em
       cases em
       intro C' H' hm b9
       have b10:=k5 H' _ _ _ (λs' hs'=>by cases hs') (bC _ _) b9
       rw[hlen] at b10
       obtain⟨t,ht⟩:=uC as.length s0 ρr
       rw[ht] at b10
       have b11:Bd c σ H' ρt ((vs++dvs).reverse.map some++(some (.ref x)::τ)) (((aT as.length ρr).map toL).reverse++(toL t::θ)):=by
        simpa[LQ] using b10
       exact q C' H' hm (Bd.putL kp hv2 b11 e6).pop
 ·subst e2
  exact⟨c,ρ,τ,θ,_,ρ',ek,b,e1,λC H1 hm b1=>q C H1 hm b1⟩
theorem zQ{x:Str}{p:Pos}(hM:Mk X.K C f)(F:cV X.prog X.w X.K X.mg X.base CX k f fd ps (SpM (kx X) n m))(hr:cj (k+1) X.A)(hg:Gl X x)(hC:X.mg x=some (.ref C))(hb:Binds X.K fd ps ds)(hd:Vals dvs ds)(hda:∀G,RAs (kx X) G dvs das)(hx:Passes CX X E)
  (ha:JA X E (e::es) ma)(hn:∀ρ rs ρ',ma ρ=some (.ok rs,ρ')->rs.length+1+das.length=n)(hdb:NDb x)(he:starEach (e::es) X.env=(false,eval e X.env)::starEach es X.env)(hpl:(backTo pos (starEach es X.env)).any (·.1)=false) :
  JE X E (.Call (.Name x p) (e::es) [] pos) (dU x m das ma) :=
 ⟨PE.weaken (zW hM F hr hg hC hb hd hx ha.p hdb he hpl) (uF hda hC hn)⟩
noncomputable def i6(m n:Mi Rr):Mi Rr:=λρ=>match m ρ with
 | some x=>some x
 | none=>n ρ
theorem xZ{e:Expr}{m n:Mi Rr}(h:JE X E e m)(h':JE X E e n):JE X E e (i6 m n):=⟨λpins s σ H Q I t=>by
 obtain⟨c,ρ,τ,θ,o,ρ',ek,b,em,q⟩:=t
 unfold i6 at em
 cases e1:m ρ with
 | some x=>simp only[e1] at em;cases em;exact h.p pins s σ H Q I ⟨c,ρ,τ,θ,o,ρ',ek,b,e1,q⟩
 | none=>simp only[e1] at em;exact h'.p pins s σ H Q I ⟨c,ρ,τ,θ,o,ρ',ek,b,em,q⟩⟩
end
end M
namespace M
open PySem L2
noncomputable def tG(i j:Str):Bool:=!(M6 j i 0 j.length 1).isEmpty
noncomputable def iL(neg:Bool):A->A->Option Rr
 | .str i,.str j=>some (.fr (.bl (if neg then !(tG i j) else tG i j)))
 | _,_=>none
noncomputable def eA:List A->Option (List Bool)
 | []=>some []
 | .bl b::r=>match eA r with
  | some bs=>some (b::bs)
  | none=>none
 | _=>none
theorem mj:∀{xs:List A}{bs:List Bool},eA xs=some bs->xs=bs.map A.bl
 | [],bs,h=>by cases h;rfl
 | a::r,bs,h=>by
  cases a<;>first|(cases h;done)|skip
  unfold eA at h
  cases e:eA r with
  | none=>simp only[e] at h;cases h
  | some cs=>simp only[e] at h;cases h;rw[mj e];rfl
noncomputable def mB(g:List Bool->Bool):A->Option Rr
 | .lst xs=>match eA xs with
  | some bs=>some (.fr (.bl (g bs)))
  | none=>none
 | _=>none
theorem pT{K:Kx}{G:Hp}:∀{bs:List Bool}{vs:List V},RAs K G vs (bs.map A.bl)->vs=bs.map V.bl
 | [],vs,h=>by cases h;rfl
 | b::bs,vs,h=>by
  cases h with
  | cons h1 h2=>cases h1;rw[pT h2];rfl
theorem Dg{K:Kx}{g:List Bool->Bool}:UnS K (λv=>Jy K.K g [v]) (mB g):=.scalar λH v a q r1 h=>by
 cases a<;>first|(cases h;done)|skip
 rename_i xs
 unfold mB at h
 simp only at h
 cases e:eA xs with
 | none=>simp only[e] at h;cases h
 | some bs =>
  simp only[e] at h
  cases h
  have:=mj e
  subst this
  cases r1 with
  | lst e0 r0=>exact⟨_,_,rfl,λ_=>.bl _,λQ k=>⟨_,_,bs,rfl,e0,pT r0,k⟩⟩
section
variable{X:Cx}{E:XK}{a b:Expr}{ma mb:Mi Rr}{pos:Pos}
theorem u7{K:Kx}:OpS K (λx y H Q=>∃i j,x=.str i/\y=.str j/\Q (.bl (!(M6 j i 0 j.length 1).isEmpty)) H) (iL false):=.scalar λH v w a b q r1 r2 h=>by
 cases a<;>first|(cases h;done)|skip
 cases b<;>first|(cases h;done)|skip
 cases r1;cases r2;cases h
 exact⟨_,_,rfl,λ_=>.bl _,λQ k=>⟨_,_,rfl,rfl,k⟩⟩
theorem rV{K:Kx}:OpS K (λx y H Q=>∃i j,x=.str i/\y=.str j/\Q (.bl (!(!(M6 j i 0 j.length 1).isEmpty))) H) (iL true):=.scalar λH v w a b q r1 r2 h=>by
 cases a<;>first|(cases h;done)|skip
 cases b<;>first|(cases h;done)|skip
 cases r1;cases r2;cases h
 exact⟨_,_,rfl,λ_=>.bl _,λQ k=>⟨_,_,rfl,rfl,k⟩⟩
theorem EI(hu:X.A.units+1<cLine)(ha:JE X E a ma)(hb:JE X E b mb)(hm:behindInMarks .In b=false):JE X E (.Compare a [.In] [b] pos) (mOp (fOr (fOr (fj false) (dj false)) (iL false)) ma mb):=eN (ID hu ha hb hm) (cD lZ u7 ha hb hm)
theorem CZ(hu:X.A.units+1<cLine)(ha:JE X E a ma)(hb:JE X E b mb)(hm:behindInMarks .In b=false):JT X E (.Compare a [.In] [b] pos) (ah (mOp (fOr (fOr (fj false) (dj false)) (iL false)) ma mb)):=gC (Ka hu ha hb hm) (cz lZ u7 ha hb hm)
theorem Bx(hu:X.A.units+1<cLine)(ha:JE X E a ma)(hb:JE X E b mb)(hm:behindInMarks .NotIn b=false):JE X E (.Compare a [.NotIn] [b] pos) (mOp (fOr (fOr (fj true) (dj true)) (iL true)) ma mb):=eN (GL hu ha hb hm) (cD ib rV ha hb hm)
theorem BG(hu:X.A.units+1<cLine)(ha:JE X E a ma)(hb:JE X E b mb)(hm:behindInMarks .NotIn b=false):JT X E (.Compare a [.NotIn] [b] pos) (ah (mOp (fOr (fOr (fj true) (dj true)) (iL true)) ma mb)):=gC (CN hu ha hb hm) (cz ib rV ha hb hm)
theorem vw:bootBuiltins "all" = some (.builtin "all"):=by decide +kernel
end
end M
namespace M
open PySem L2
def Lq(G G':Hp):Prop:=∀a u,G a=some u->(∀ws,u≠.lst ws)->G' a=some u
end M
namespace M
open PySem L2
theorem nG(l:Addr)(xs:Array Value)(n:Nat)(b:Addr)(ys:Array Value)(n2:Nat)(d2:Option Addr)(sl2:Array (Option Value))(h0:¬ (!xs.isEmpty&&Np (xs.size+ys.size))=true)(h1:xs.size<=sizeLine)(h2:xs.size+ys.size<=sizeLine+1) :
  Meets (Builtin.«list.extend» ⟨[.ref l,.ref b],[]⟩) (λ_ R s=>s.heap.get? l=some { cls:=.type "list",data:=.seq xs n }/\s.heap.get? b=some { cls:=.type "list",dict:=d2,data:=.seq ys n2,slots:=sl2 }/\R (.ok (.ret O3)) { s with heap:=s.heap.update l (OH λx=>x++ys),toks:=s.toks }) :=
 .of_wp λprog w A R s h=>by
  obtain⟨hp,g,d,tk,os⟩:=s
  obtain⟨hl,hb,h⟩:=h
  have f1:=AutoSeq1.idx_int
  have f2:=AutoSeq1.sub_tuple_tuple
  have f3:=AutoSeq1.sub_list_list
  have f4:=AutoSeq1.sub_tuple_list
  have f5:=AutoSeq1.sub_list_tuple
  have hz':(xs++ys).size<=sizeLine+1:=by rw[Array.size_append];exact h2
  wp_walk using (wpAny_updateSeq hl rfl (hz:=h1) (_hz':=hz')),PK hl,PK hb
  exact⟨_,rfl,h⟩
section
variable{X:Cx}{E:XK}
noncomputable def wB(K:LD):V->List V->Hp->VK->Prop:=λx vs H Q=>∃l b xs zs,x=.ref l/\vs=[.ref b]/\H l=some (.lst xs)/\SqL K H b zs/\xs.length+zs.length<=sizeLine/\Q .non (upd H l (.lst (xs++zs)))
theorem p8:MtM X "list.extend" (wB X.K):=by
 intro pins s σ H x vs v us Q I rx rv h
 obtain⟨l,b,xs,zs,rfl,rfl,hH,hB,hz,q⟩:=h
 cases rx
 obtain⟨u,rfl,ru⟩:=rv.one
 cases ru
 obtain⟨z,its,n,r,hl,e⟩:=I.zm hH
 obtain⟨jts,r2,p2,_⟩:=I.list hB
 obtain⟨⟨c2,d2,t2,l2⟩,n2,e2,hc2,hk2,hd2⟩:=id p2
 simp only at hc2 hd2 hk2
 subst hc2 hd2 hk2
 have k2:=r2.length
 have hsz:its.toArray.size+jts.toArray.size<=sizeLine:=by rw[LM,LM];omega
 have hlong:¬ (!its.toArray.isEmpty&&Np (its.toArray.size+jts.toArray.size))=true:=by
  rw[ym hsz,N7]
  exact Mz
 refine call_meets PR ⟨_,e,rfl⟩ PySem.F.entry_list_extend (PySem.F.args_list_extend_2 _ _)
  (nG l its.toArray n b jts.toArray n2 _ _ hlong (by rw[LM];omega) (by omega)) ⟨e,e2,?_⟩
 refine⟨.non,_,I.zi (its':=its++jts) hH e (by simp) (r.append r2) ?_,rfl,q⟩
 rw[L4]
 omega
noncomputable def eY(i:Nat)(m:Mi Rr):Mi Rr:=ax m λr ρ=>match aQ r ρ with
 | some (.lst zs,ρ1)=>match aC ρ1 i with
  | some (.lst xs)=>if xs.length+zs.length<=100000 then some (.ok (.fr .non),setAt ρ1 i (.lst (xs++zs))) else none
  | _=>none
 | _=>none
theorem tK{i:Nat}{x:Str}{px apos cpos:Pos}{e:Expr}{m:Mi Rr}(hN:X.N[i]?=some x)(hv:Vis X.env.scope x)(hd:NDb x)(hcd:NCd x)(he:JE X E e m)
  (hbase:attributeBase (.Name x px) "extend" X.env (eval (.Name x px) X.env)=eval (.Name x px) X.env:=by rfl)
  (hfew:((backTo cpos (starEach [e] X.env)).all (λx=>!x.1)&&(backToKw cpos (keywordEach [] X.env)).all (λx=>x.1.isSome)&&decide (([e]:List Expr).length+([]:List Keyword).length+(if ([]:List Keyword).isEmpty then 0 else 1)<30))=true:=by rfl)
  (hline:(apos.endLine==cpos.line)=true:=by rfl)(hs:starEach [e] X.env=(false,eval e X.env)::starEach [] X.env:=by rfl)(hplain:(backTo cpos (starEach [] X.env)).any (·.1)=false:=by rfl) :
  JE X E (.Call (.Attribute (.Name x px) "extend" apos) [e] [] cpos) (eR i (eY i m)) :=
 ⟨PE.weaken (u9 NC PR PySem.F.type_list_extend p8 (dk hN hv hd hcd) (bX he.p eC hs) hbase hfew hline hs hplain) λσ H Q h=>by
  obtain⟨c,ρ,τ,θ,o,ρ',ek,b,em,q⟩:=h
  unfold eR at em
  split at em
  ·rename_i hl
   obtain⟨xs0,hl⟩:=kK hl
   obtain⟨p,vs,hp,hH⟩:=eL b hl
   refine⟨_,hp,.inl ⟨rfl,vs,.inl (.inl hH)⟩,?_⟩
   refine aR ek b em (λr v ρ1 H1 hv b1 em1=>?_) (aM q)
   cases e1:aQ r ρ1 with
   | none=>simp only[e1] at em1;cases em1
   | some pr =>
    obtain⟨a,ρ2⟩:=pr
    simp only[e1] at em1
    have b2:=Bd.aQ (xs:=[]) (ss:=[]) rfl b1 hv e1
    cases a<;>first|(simp only at em1;cases em1;done)|skip
    rename_i zs
    simp only at em1
    cases e2:aC ρ2 i with
    | none=>simp only[e2] at em1;cases em1
    | some lo =>
     cases lo with
     | dic _=>simp only[e2] at em1;cases em1
     | obj _ _=>simp only[e2] at em1;cases em1
     | lst xs =>
      simp only[e2] at em1
      split at em1
      ·rename_i hx
       cases em1
       obtain⟨L,bl,ra⟩:=Bd.oq b2
       cases ra with
       | lst se sr =>
       rename_i pb us
       obtain⟨p',h1,h2,h3⟩:=bl.live e2 (.lst (xs++zs)) (.lst ((match H1 p with|some (.lst ws)=>ws|_=>[])++us))
       rw[hp] at h1;cases h1
       cases h2 with
       | lst e rr =>
        rename_i ws
        simp only[e] at h3
        have eK:c.K=X.K:=congrArg Kx.K ek
        have n1:=rr.len
        have n2:=sr.len
        refine⟨p,pb,ws,us,rfl,rfl,e,by rw[<- eK];exact jf (g_same _ _ _) se,by have:=nC;omega,q _ _ trivial (Bd.push (h3 λH' hh=>.lst hh (rr.app sr)) λ_=>.non)⟩
      ·cases em1
  ·cases em⟩
end
end M
namespace M
open PySem L2
noncomputable def jn(i:Nat)(G:Mg)(t:Mi Bool)(e:Mi Rr):Nat->Nat->List A->List Sl->Option (List A×List Sl)
 | 0,_,_,_=>none
 | n+1,j,acc,ρ=>match aC ρ i with
  | some (.lst xs)=>match xs[j]? with
   | none=>some (acc,ρ)
   | some a=>match G a ρ with
    | none=>none
    | some ρ1=>match t ρ1 with
     | some (.ok true,ρ2)=>match e ρ2 with
      | some (.ok r,ρ3)=>match aQ r ρ3 with
       | some (d,ρ4)=>jn i G t e n (j+1) (acc++[d]) ρ4
       | none=>none
      | _=>none
     | some (.ok false,ρ2)=>jn i G t e n (j+1) acc ρ2
     | _=>none
  | _=>none
noncomputable def hY(n i:Nat)(G:Mg)(t:Mi Bool)(e:Mi Rr):Mi Rr:=λρ=>match jn i G t e 100001 0 [] (ρ++L7 n .un) with
 | some (ys,ρ')=>some (.ok (.nw (.lst ys)),ρ'.take ρ.length)
 | none=>none
section
variable{X:Cx}{E:XK}
theorem p4{n i:Nat}{G:Mg}{mt:Mi Bool}{me:Mi Rr}{lo:Nat}(σ:St)(H:Hp)(Q:VK)(hlo:σ.length=lo)(hi:i<lo)(h:TEm (kx X) E (hY n i G mt me) σ H Q) :
  sj n (BZ X.K (De i)) (TGm (kx X) lo G) (TTm (kx X) E00 mt) (TEm (kx X) E00 me) σ H Q:=by
 obtain⟨c,ρ,τ,θ,o,ρ',ek,b,em,q⟩:=h
 unfold hY at em
 cases ec:jn i G mt me 100001 0 [] (ρ++L7 n .un) with
 | none=>simp only[ec] at em;cases em
 | some p =>
  obtain⟨ys,ρ2⟩:=p
  simp only[ec] at em
  cases em
  have hlen:σ.length=ρ.length:=b.gF
  have eK:c.K=X.K:=congrArg Kx.K ek
  have b0:=b.Jm (n:=n)
  have at0:∀{σ':St},σ'.take lo=σ->σ'[i]?=σ[i]?:=λ{σ'} h=>by rw[<- h,Og hi]
  have l0:∃xs,aC (ρ++L7 n .un) i=some (.lst xs):=by
   unfold jn at ec
   cases el:aC (ρ++L7 n .un) i with
   | none=>simp only[el] at ec;cases ec
   | some lo=>cases lo with
    | lst xs=>exact⟨xs,rfl⟩
    | dic _=>simp only[el] at ec;cases ec
    | obj _ _=>simp only[el] at ec;cases ec
  obtain⟨xs0,l0⟩:=l0
  obtain⟨p,vs0,hp0,hH0⟩:=eL b0 l0
  have hp:σ[i]?=some (some (.ref p)):=by rw[MK (by omega)] at hp0;exact hp0
  refine⟨.ref p,hp,p,rfl,⟨vs0,.inl (.inl hH0)⟩,?_⟩
  refine⟨λj m σ' vs H'=>σ'.take lo=σ/\m+j<=100001/\∃ρi acc,vs.length=acc.length/\acc.length<=j/\Bd c σ' H' ρi (vs.reverse.map some++τ) (acc.reverse.map Sl.fr++θ)/\jn i G mt me m j acc ρi=some (ys,ρ2),
   ⟨100001,by rw[<- hlo,Rt],LU _,_,[],rfl,MT _,b0,ec⟩,?_⟩
  rintro j m σ' vs H' ⟨htk,hm,ρi,acc,lv,la,bi,ei⟩
  cases m with
  | zero=>cases ei
  | succ m =>
   refine⟨by have:=hZ;omega,?_⟩
   unfold jn at ei
   cases el:aC ρi i with
   | none=>simp only[el] at ei;cases ei
   | some lo' =>
    cases lo' with
    | dic _=>simp only[el] at ei;cases ei
    | obj _ _=>simp only[el] at ei;cases ei
    | lst as =>
     simp only[el] at ei
     have bi':=bi
     obtain⟨L,bl⟩:=bi'
     obtain⟨p',h1,h2,_⟩:=bl.live el (.lst as) (.lst [])
     rw[at0 htk,hp] at h1
     cases h1
     cases h2 with
     | lst eH rr =>
     rename_i ws
     cases ej:as[j]? with
     | none =>
      simp only[ej] at ei
      cases ei
      have hj:as.length<=j:=P2.mp ej
      refine .inl ⟨⟨ws,.inl (.inl eH),by rw[rr.len];exact hj⟩,λr hr=>?_⟩
      have b7:=Bd.qI bi (by simp[lv]) hr vs ys n5
      have es:σ'=σ++σ'.drop lo:=by rw[<- htk];exact(MB _ _).symm
      rw[es] at b7
      have b9:=b7.Kh
      rw[hlen] at b9
      exact q _ _ trivial b9
     | some a =>
      simp only[ej] at ei
      obtain⟨x0,hx0,ra0⟩:=rr.ta ej
      refine .inr ⟨⟨ws,x0,.inl (.inl eH),hx0⟩,λσ2 vs2 H2=>σ2.take lo=σ/\∃ρ3 acc2,vs2.length=acc2.length/\acc2.length<=j+1/\Bd c σ2 H2 ρ3 (vs2.reverse.map some++τ) (acc2.reverse.map Sl.fr++θ)/\jn i G mt me m (j+1) acc2 ρ3=some (ys,ρ2),
       λσ2 vs2 H2 ⟨q0,ρ3,acc2,q1,q2,q3,q4⟩=>⟨m,by omega,q0,by omega,ρ3,acc2,q1,q2,q3,q4⟩,λx H2 y=>?_⟩
      obtain⟨rfl,hy⟩:=y
      have ex:=hy ws (.inl (.inl eH))
      rw[hx0] at ex
      cases ex
      have b2:=bl.push ra0
      cases eg:G a ρi with
      | none=>simp only[eg] at ei;cases ei
      | some ρ3 =>
       simp only[eg] at ei
       refine⟨c,ρi,_,_,a,ρ3,ek,b2,eg,λσ3 H3 t3 l3 b3=>?_⟩
       cases et:mt ρ3 with
       | none=>simp only[et] at ei;cases ei
       | some p =>
        obtain⟨ot,ρ4⟩:=p
        cases ot with
        | error e=>simp only[et] at ei;cases ei
        | ok k =>
         refine⟨c,ρ3,_,_,.ok k,ρ4,ek,b3,et,λH4 b4=>?_⟩
         cases k with
         | false =>
          simp only[et] at ei
          rw[if_neg (by decide)]
          exact⟨t3.trans htk,ρ4,acc,lv,by omega,b4,ei⟩
         | true =>
          simp only[et] at ei
          rw[if_pos rfl]
          cases ee:me ρ4 with
          | none=>simp only[ee] at ei;cases ei
          | some p =>
           obtain⟨oe,ρ5⟩:=p
           cases oe with
           | error e=>simp only[ee] at ei;cases ei
           | ok r =>
            simp only[ee] at ei
            refine⟨c,ρ4,_,_,.ok r,ρ5,ek,b4,ee,λv H5 hv b5=>?_⟩
            cases ef:aQ r ρ5 with
            | none=>simp only[ef] at ei;cases ei
            | some p =>
             obtain⟨d,ρ6⟩:=p
             simp only[ef] at ei
             have b6:=Bd.aQ (xs:=[]) (ss:=[]) rfl b5 hv ef
             exact⟨t3.trans htk,ρ6,acc++[d],by simp[lv],by simp;omega,by simpa using b6,ei⟩
theorem xj{N:List Str}{k i:Nat}{sc:Scope}{x:Str}{px:Pos}{tg elt:Expr}{ifs:List Expr}{pos:Pos}{G:Mg}{mt:Mi Bool}{me:Mi Rr}{lo:Nat}(hc:X.calm=true)(S:eJ X.N N k sc X.env.scope)(hlo:X.N.length=lo)
  (hN:X.N[i]?=some x)(hv:Vis X.env.scope x)(hd:NDb x)(hcd:NCd x)
  (hg:∀cl C s H fp,JG (cxC X N sc cl C s H fp) lo tg G)(ht:∀cl C s H fp,JF (cxC X N sc cl C s H fp) E00 ifs mt)(he:∀cl C s H fp,JE (cxC X N sc cl C s H fp) E00 elt me)(hs:∀y,foldedSetIterable (.Name x px) X.env y=pure y) :
  JE X E (.ListComp elt [⟨tg,.Name x px,ifs,0⟩] sc pos) (hY k i G mt me) :=
 ⟨λpins s σ H Q I h=>rJ hc S (An (dk hN hv hd hcd)) (λcl C s H fp=>(hg cl C s H fp).p) (λcl C s H fp=>(ht cl C s H fp).p) (λcl C s H fp=>(he cl C s H fp).p) hs pins s σ H Q I (p4 σ H Q (I.len.trans hlo) (by rw[<- hlo];exact(LI.mp hN).1) h)⟩
end
end M
set_option maxHeartbeats 4000000
set_option maxHeartbeats 1000000
namespace M
open PySem L2
noncomputable def pvB:Option Sl->Bool
 | some (.pv _)=>true
 | _=>false
noncomputable def Fm(i:Nat)(ρ0 ρ:List Sl):Bool:=(Mo ρ.length).all λj=>j==i || !(pvB ρ[j]?) || pvB ρ0[j]?
noncomputable def KZ(i:Nat)(ρ:List Sl):Option (List Sl):=match ρ[i]? with
 | some (.lv (.lst xs))=>some (ρ.set i (.pv (.lst xs)))
 | _=>none
noncomputable def GK(i:Nat)(ρ0 ρ:List Sl):Option (List Sl):=match ρ[i]? with
 | some (.pv o)=>if Fm i ρ0 ρ then some (ρ.set i (.lv o)) else none
 | _=>none
noncomputable def Fy(i:Nat)(bs:List A)(G:Mg)(b:Ms):Nat->Nat->Ms
 | 0,_,_=>none
 | n+1,j,ρ=>match ρ[i]? with
  | some (.pv (.lst xs))=>match xs[j]?,bs[j]? with
   | some a,some d=>match G (.tup [a,d]) ρ with
    | none=>none
    | some ρ1=>match b ρ1 with
     | some (.nx,ρ2)=>Fy i bs G b n (j+1) ρ2
     | some (.ct,ρ2)=>Fy i bs G b n (j+1) ρ2
     | some (.bk,ρ2)=>some (.nx,ρ2)
     | r=>r
   | _,_=>some (.nx,ρ)
  | _=>none
noncomputable def KP(i:Nat)(bs:List A)(G:Mg)(b:Ms)(ρ2:List Sl):Option (Fl×List Sl):=match KZ i ρ2 with
 | some ρp=>match Fy i bs G b 100001 0 ρp with
  | some (f,ρ')=>match GK i ρ2 ρ' with
   | some ρ3=>some (f,ρ3)
   | none=>none
  | none=>none
 | none=>none
noncomputable def JN(i:Nat)(G:Mg)(b:Ms)(r:Rr)(ρ1:List Sl):Option (Fl×List Sl):=match aQ r ρ1 with
 | some (.lst bs,ρ2)=>KP i bs G b ρ2
 | _=>none
end M
set_option maxHeartbeats 4000000
set_option maxHeartbeats 1000000
set_option maxHeartbeats 4000000
namespace L2
open PySem PySem.Spec PyProof.Rows PySem.W
theorem yr(mask finger moves:Nat)(led plain:Bool):Q2 mask finger moves led plain #[]=some ({ mask:=mask,place:=#[],dummies:=#[],finger:=finger,led:=led,moves:=moves,plain:=plain },#[]):=by
 unfold Q2 SetTable.layClean
 simp
 intro a ha
 rw[Array.getElem?_replicate]
 split<;>rfl
theorem sub_dict_set:isSubtype (.type "dict") (.type "set")=pure false:=by rw[isSubtype_type];kernel_rfl
theorem sub_dict_frozenset:isSubtype (.type "dict") (.type "frozenset")=pure false:=by rw[isSubtype_type];kernel_rfl
section
variable{prog:Program}{w:World}{A:Around}{E:Value->Shared->Prop}{s:Shared}
theorem set_same{a:Addr}{h h':Heap}{S:Key->Bool}{n:Nat}(x:h.SetOf (aw prog w) a S n)(e:∀o,h.get? a=some o->h'.get? a=some o):h'.SetOf (aw prog w) a S n:=let ⟨o,es,ep,t,ho,r⟩:=x;⟨o,es,ep,t,e _ ho,r⟩
theorem gA{a:Addr}{h:Heap}{S S':Key->Bool}{n:Nat}(x:h.SetOf (aw prog w) a S n)(e:∀k,S k=S' k):h.SetOf (aw prog w) a S' n:=by rw[<- funext e];exact x
theorem wN{a:Addr}{ep:Nat}{led:Bool}{n:Nat}{Q:Unit->Shared->Prop}(ho:s.heap.get? a=some { cls:=.type "set",dict:=none,data:=.set #[] ep (.fresh 0 0 led) })(hn:n<=20)
  (h:∀h',NX a s.heap h'->h'.SetOf (aw prog w) a (λ_=>false) 0->Q () { s with heap:=h' }):wpAny (model prog w) A (setRoomFor a n) Q E s:=by
 have hf:(OC 0 0 led).fits (#[]:Array (Int×Value)).size=true:=rfl
 unfold setRoomFor
 refine wpAny_bind (wpAny_setState_of ho rfl hf ?_)
 dsimp only
 cases hr:(OC 0 0 led).roomFor n with
 | none=>exact wpAny_pure (h s.heap ⟨rfl,λ_ _=>rfl⟩ ⟨_,#[],ep,_,ho,⟨rfl,rfl,rfl⟩,rfl,λe he=>by simp at he,λk=>by simp,by decide,hf,rfl⟩)
 | some wanted =>
  have hw:wanted<=40:=by
   unfold SetTable.roomFor at hr
   split at hr
   ·cases hr
    show ((OC 0 0 led).place.size+n)*2<=40
    have:(OC 0 0 led).place.size=0:=rfl
    omega
   ·cases hr
  have hz:∀k,k<=40->SetTable.sizeAbove k<=64:=by decide
  dsimp only
  unfold setRelay
  refine wpAny_bind (wpAny_setState_of ho rfl hf ?_)
  dsimp only
  rw[if_neg (SJ.mpr (Mf (hz wanted hw) (by decide)))]
  unfold SetTable.relaid
  rw[show (#[]:Array (Int×Value)).map (·.1)=#[] by simp,yr]
  refine wpAny_bind (wpAny_of_eq rfl ?_)
  refine wpAny_storeSet_of ho rfl (h _ (Se ..) ?_)
  exact⟨_,#[],ep+1,_,Qs _ ho rfl,⟨rfl,rfl,rfl⟩,rfl,λe he=>by simp at he,λk=>by simp,by decide,by simp[SetTable.fits,SetTable.fill],rfl⟩
theorem lA{d:Addr}{vs:List (Key×Value)}{Q:Value->Shared->Prop}(hdS:(d==sysModules)=false)(hm:s.heap.DictOf (aw prog w) d vs)(hb:vs.length<=20)
  (h:∀(h':Heap)(tk:Nat),h'.SetOf (aw prog w) s.heap.objs.size (λk=>vs.any λkv=>decide (kv.1=k)) vs.length ->
   (∀b o,b<s.heap.objs.size->s.heap.get? b=some o->h'.get? b=some o)->Q (.ref s.heap.objs.size) { s with heap:=h',toks:=tk }) :
  wpAny (model prog w) A (call (.type "set") [.ref d]) Q E s:=by
 obtain⟨c,tl,hmro⟩:=Mj.mro
 have hmade:=Mj.made
 have hsub:=Mj.sub
 refine wpAny_call (codeAny_of_tree ?_)
 show wpAny _ _ (callAny (.type "set") _) _ _ _
 refine wpAny_pure ⟨Pd _ (by decide +kernel),codeAny_builtin PZ ?_⟩
 rw[QE (weight_type_call_type "set" [.ref d] []) rfl]
 have h1:=Mj.notType
 have h2:=Mj.canCreate
 have hct:=P5 (.ref d)
 repeat (any_goals (first|assumption|wp_step))
 refine codeAny_mono (code_set_new_1 (.ref d) (E:=E) (Q₁:=λobj s₁=>∃led:Bool,obj=.ref s.heap.objs.size/\s₁={ s with heap:=s.heap.push { cls:=.type "set",dict:=none,data:=.set #[] 0 (.fresh 0 0 led) } }) λled=>⟨led,rfl,rfl⟩) λr s₁ hr=>?_
 cases r with
 | error e=>exact hr
 | ok fl =>
  cases fl with
  | ret obj =>
   obtain⟨led,rfl,rfl⟩:=hr
   have hS:(s.heap.push { cls:=.type "set",dict:=none,data:=.set #[] 0 (.fresh 0 0 led) }).get? s.heap.objs.size=some { cls:=.type "set",dict:=none,data:=.set #[] 0 (.fresh 0 0 led) }:=L9 _ rfl
   have hT:OW { s with heap:=s.heap.push { cls:=.type "set",dict:=none,data:=.set #[] 0 (.fresh 0 0 led) } } (.ref s.heap.objs.size) "set" := ⟨_,hS,rfl⟩
   have hli:=Mj.init.lookup
   have hbi:=Mj.init.bind (.ref s.heap.objs.size)
   repeat (any_goals (first|assumption|wp_step))
   refine codeAny_mono (codeAny_call_builtin (R:=wants (λr s₂=>r=.none/\∃h' tk,s₂={ s with heap:=h',toks:=tk } /\
     h'.SetOf (aw prog w) s.heap.objs.size (λk=>vs.any λkv=>decide (kv.1=k)) vs.length /\
     (∀b o,b<s.heap.objs.size->s.heap.get? b=some o->h'.get? b=some o)) E) Mj.init.plain P7 (check_set_init_1 hT ?_)) λr₂ s₂ hr₂=>?_
   ·obtain⟨ep,od,es,hod,hcd,hdd,hk,hp,hn⟩:=hm.dictAt
    have hod':(s.heap.push { cls:=.type "set",dict:=none,data:=.set #[] 0 (.fresh 0 0 led) }).get? d=some od:=LK _ hod
    have hTd:OW { s with heap:=s.heap.push { cls:=.type "set",dict:=none,data:=.set #[] 0 (.fresh 0 0 led) } } (.ref d) "dict" := ⟨_,hod',hcd.1⟩
    have hsls:=sub_dict_set
    have hslf:=sub_dict_frozenset
    have hne:(Ox "dict" == Ox "dict")=true:=by decide
    unfold Builtin.«set.__init__» noKeywords OK
    generalize hSR:setRoomFor=SR
    generalize hDE:dictEntries=DE
    generalize hDP:dictEpoch=DP
    wp_walk
    subst hSR
    rw[hdd]
    refine wpAny_pure ?_
    refine wpAny_bind (wpAny_dictEntries (s:={ s with heap:=s.heap.push { cls:=.type "set",dict:=none,data:=.set #[] 0 (.fresh 0 0 led) } }) hod' hdd ?_)
    have hsz:es.size=vs.length:=by rw[<- hp.length];simp
    refine wpAny_bind (wN (s:={ s with heap:=s.heap.push { cls:=.type "set",dict:=none,data:=.set #[] 0 (.fresh 0 0 led) } }) hS (by omega) λh₁ sb₁ hS₁=>?_)
    have ned:d≠s.heap.objs.size:=Md (LV hod)
    have od₁:h₁.get? d=some od:=(sb₁.2 d ned).trans hod'
    refine wpAny_bind (wpAny_dictEntries (s:={ s with heap:=h₁ }) od₁ hdd ?_)
    rw[Ru]
    refine wpAny_bind (wpAny_forIn_list _ (λrest _ s'=>∃i h',rest=List.range' i (vs.length-i)/\i<=vs.length/\s'={ s with heap:=h' }/\(∀b o,b≠s.heap.objs.size->h₁.get? b=some o->h'.get? b=some o) /\
     h'.SetOf (aw prog w) s.heap.objs.size (λk=>(vs.take i).any λkv=>decide (kv.1=k)) i) _ ?_ ?_ _ _ ?_)
    ·rintro x rest b s' ⟨i,h',hr,hi,rfl,keep,hS'⟩
     have hlt:i<vs.length:=by
      rcases RW i vs.length with z|z
      ·exact z
      ·rw[show vs.length-i=0 by omega] at hr;cases hr
     rw[show vs.length-i=(vs.length-(i+1))+1 by omega,Ra] at hr
     obtain⟨e1,e2⟩:=QP hr
     have e1:=e1.symm
     subst e1 e2
     have hle:i<es.size:=by omega
     obtain⟨k,hkk,hhash⟩:=hk es[i] (Array.getElem_mem hle)
     obtain⟨hkey,_⟩:=hp.get? (i:=i) (e:=es[i]) (k:=vs[i].1) (v:=vs[i].2) (by simp[hle]) (by simp[hlt])
     have ek:vs[i].1=k:=by have:=Qi hkk vs[i].1;rw[hkey] at this;exact of_decide_eq_true this.symm
     subst ek
     have hsc:es[i].key.scannable=true:=by
      rcases aL (show gM vs[i].1 es[i].key=true from hkey) with ⟨_,_,_,e⟩|⟨_,_,_,e⟩<;>rw[e]<;>rfl
     have no:((vs.take i).any λkv=>decide (kv.1=vs[i].1))=false:=by
      rw[Oc]
      intro kv hkv z
      have z:=of_decide_eq_true z
      obtain⟨j,hj,e⟩:=Nv hkv
      rw[Mm] at hj
      rw[List.getElem_take] at e
      have:=(P8.mp hn) j i (by simp;omega) (by simpa using hlt) (by omega)
      simp only[List.getElem_map] at this
      exact this (by rw[e];exact z)
     refine wpAny_bind (wpAny_dictEntries (s:={ s with heap:=h' }) (keep _ _ ned od₁) hdd ?_)
     rw[Array.getElem?_eq_getElem hle]
     dsimp only
     refine wpAny_bind (wpAny_holding ?_)
     rw[hhash]
     refine wpAny_setAddHashed_of (s:={ s with heap:=h' }) hkey hsc hS' (by show i+1<4096;omega) λh2 sb2 hS2=>?_
     refine wpAny_bind (wpAny_dictEpoch (s:={ s with heap:=h2 }) ((sb2.2 d ned).trans (keep _ _ ned od₁)) hdd ?_)
     rw[if_neg (by simp)]
     refine wpAny_pure ⟨i+1,h2,rfl,hlt,rfl,λb o hb e=>(sb2.2 b hb).trans (keep b o hb e),?_⟩
     rw[no] at hS2
     refine gA hS2 λk'=>?_
     rw[List.take_succ,Rh,L8 hlt]
     simp[eq_comm]
    ·rintro b s' ⟨i,h',hr,hi,rfl,keep,hS'⟩
     have e:i=vs.length:=by
      rcases RW i vs.length with z|z
      ·rw[show vs.length-i=(vs.length-(i+1))+1 by omega,Ra] at hr;cases hr
      ·omega
     subst e
     rw[M4] at hS'
     refine wpAny_pure (wpAny_pure ⟨rfl,h',s.toks,rfl,hS',λb o hb e=>keep b o (Md hb) ((sb₁.2 b (Md hb)).trans (LK _ e))⟩)
    ·exact⟨0,h₁,by simp[hsz],MT _,rfl,λb o _ e=>e,gA hS₁ λk=>by simp⟩
   ·cases r₂ with
    | error e=>exact hr₂
    | ok fl₂ =>
     cases fl₂ with
     | ret r =>
      obtain⟨rfl,h',tk,rfl,hS',hk'⟩:=hr₂
      repeat (any_goals (first|assumption|wp_step))
      exact h _ _ hS' hk'
     | _=>exact hr₂.elim
  | _=>exact hr.elim
end
end L2
namespace L2
open PySem PySem.Spec PyProof.Rows PySem.W
theorem nR:entryFor table "set.__ne__" = some Builtin.«frozenset.__ne__» :=
 entryFor_alias (id' := "frozenset.__ne__") (by kernel_rfl) rfl (by decide +kernel) (by kernel_rfl)
theorem sub_set_frozenset:isSubtype (.type "set") (.type "frozenset")=pure false:=by rw[isSubtype_type];kernel_rfl
section
variable{prog:Program}{w:World}{A:Around}{E:Value->Shared->Prop}{s:Shared}
theorem size_of{a:Addr}{S:Key->Bool}{n:Nat}{Q:Nat->Shared->Prop}(ha:s.heap.SetOf (aw prog w) a S n)(h:Q n s):wpAny (model prog w) A (OX a) Q E s:=by
 obtain⟨o,es,ep,t,ho,_,hd,_,_,_,hf,hn⟩:=ha
 unfold OX setEntries
 refine wpAny_bind (wpAny_bind (wpAny_setState_of ho hd hf (wpAny_pure ?_)))
 exact wpAny_pure (hn▸h)
theorem xD{k:Key}{x:Value}{Q:Bool->Shared->Prop}(hk:(aw prog w).is k x=true)(h:Q true s):wpAny (model prog w) A (OR x) Q E s:=by
 unfold OR
 rcases aL (show gM k x=true from hk) with ⟨_,_,_,e⟩|⟨_,_,_,e⟩<;>rw[e]<;>exact wpAny_pure h
theorem ux{nm:String}{a b:Addr}{S T:Key->Bool}{n m:Nat}{Q:Bool->Shared->Prop}(ha:s.heap.SetOf (aw prog w) a S n)(hb:s.heap.SetOf (aw prog w) b T m)(hle:n<=m)
  (h:∀r:Bool,(r=true↔∀k,S k=true->T k=true)->Q r s):wpAny (model prog w) A (OO nm a b) Q E s:=by
 unfold OO
 refine wpAny_bind (size_of ha ?_)
 refine wpAny_bind (size_of hb ?_)
 rw[if_neg (SJ.mpr hle)]
 obtain⟨o,es,ep,t,ho,hx,hd,hel,hmem,hbd,hf,hn⟩:=id ha
 obtain⟨o2,es2,ep2,t2,ho2,hx2,hd2,hel2,hmem2,hbd2,hf2,hn2⟩:=id hb
 refine wpAny_bind (wpAny_setEpoch_of ho hd hf ?_)
 unfold Ri setEntries
 refine wpAny_bind (wpAny_bind (wpAny_bind (wpAny_setState_of ho hd hf (wpAny_pure ?_))))
 refine wpAny_bind (wpAny_bind (wpAny_setState_of ho2 hd2 hf2 (wpAny_pure ?_)))
 have key:∀e∈es.toList++es2.toList,∃k,(aw prog w).is k e.2=true:=λe he=>by
  rcases LS.mp he with z|z
  ·obtain⟨⟨k,hk,_⟩,_⟩:=hel e z;exact⟨k,hk⟩
  ·obtain⟨⟨k,hk,_⟩,_⟩:=hel2 e z;exact⟨k,hk⟩
 refine wpAny_bind (wpAny_forIn_list _ (λrest b s'=>s'=s/\b=(none,())/\∀e∈rest,∃k,(aw prog w).is k e.2=true) _ ?_ ?_ _ _ ⟨rfl,rfl,key⟩)
 ·rintro⟨hh,x⟩ rest b s' ⟨rfl,rfl,he⟩
  obtain⟨k,hk⟩:=he _ LW
  dsimp only
  refine wpAny_bind (xD hk ?_)
  rw[if_neg (by decide)]
  exact wpAny_pure ⟨rfl,rfl,λe h=>he e (.tail _ h)⟩
 ·rintro b s' ⟨e0,rfl,_⟩
  rw[e0]
  refine wpAny_pure ?_
  refine wpAny_bind (wpAny_forIn_list _ (λrest b s'=>s'=s/\b=(none,())/\(∃pre,es.toList=pre++rest/\∀e∈pre,∃k,(aw prog w).is k e.2=true/\T k=true)) _ ?_ ?_ _ _ ⟨rfl,rfl,[],rfl,λe he=>by cases he⟩)
  ·rintro⟨hh,x⟩ rest b s' ⟨rfl,rfl,pre,hp,hall⟩
   have hmm:(hh,x)∈es.toList:=by rw[hp];simp
   obtain⟨⟨k,hk,hhash⟩,hsc⟩:=hel _ hmm
   have hhash:hh=(aw prog w).hash k:=hhash
   subst hhash
   dsimp only
   refine wpAny_bind (wpAny_holding (wpAny_setFind_of hk hsc hb λr hr=>?_))
   cases ht:T k with
   | false =>
    rw[ht] at hr
    rw[if_pos (by rw[<- QJ,hr];rfl)]
    refine wpAny_pure (wpAny_pure (h false ⟨λz=>(by cases z),λz=>?_⟩))
    rw[z k ((hmem k).mpr ⟨_,hmm,hk⟩)] at ht
    cases ht
   | true =>
    rw[ht] at hr
    rw[if_neg (by rw[<- QJ,hr];decide)]
    unfold Rj
    refine wpAny_bind (wpAny_bind (wpAny_setEpoch_of ho hd hf ?_))
    rw[if_neg (by simp)]
    refine wpAny_pure (wpAny_pure ⟨rfl,rfl,pre++[((aw prog w).hash k,x)],by rw[hp];simp,λe he=>?_⟩)
    rcases LS.mp he with z|z
    ·exact hall e z
    ·rw[Ma.mp z];exact⟨k,hk,ht⟩
  ·rintro b s' ⟨rfl,rfl,pre,hp,hall⟩
   rw[Mr] at hp
   refine wpAny_pure (h true ⟨λ_ k hS=>?_,λ_=>rfl⟩)
   obtain⟨e,he,hk⟩:=(hmem k).mp hS
   obtain⟨k',hk',ht⟩:=hall e (hp▸he)
   have:k=k':=by have:=Qi hk' k;rw[hk] at this;exact of_decide_eq_true this.symm
   rw[this];exact ht
theorem Ay{a b:Addr}{S T:Key->Bool}{n m:Nat}{Q:Value->Shared->Prop}(hu:A.units<cLine)(ha:s.heap.SetOf (aw prog w) a S n)(hb:s.heap.SetOf (aw prog w) b T m)
  (h:∀r:Bool,(r=false↔n=m/\∀k,S k=true->T k=true)->Q (.bool r) s):wpAny (model prog w) A (compareOp .NotEq (.ref a) (.ref b)) Q E s:=by
 show wpAny _ _ (richCompare .NotEq (.ref a) (.ref b)) Q E s
 refine wpAny_richCompare_same_room ha.typeIs hb.typeIs Qn ?_ hu
 refine wpAny_call_entry Qn ha.typeIs nR ?_ (PySem.F.args_set_ne_2 _ _)
 have hTa:=ha.typeIs
 have hTb:=hb.typeIs
 have hs1:=PySem.sub_set_self
 have hs2:=sub_set_frozenset
 unfold Builtin.«frozenset.__ne__»
 refine wpAny_bind (wpAny_of_eq (a:=(My a,My b)) rfl ?_)
 refine wpAny_bind ?_
 unfold Rk
 refine wpAny_bind (wpAny_isInstance hTb hs1 ?_)
 refine wpAny_pure ?_
 rw[if_neg (by decide)]
 refine wpAny_bind (wpAny_pure ?_)
 refine wpAny_bind (wpAny_pure ?_)
 refine wpAny_bind (size_of ha ?_)
 refine wpAny_bind (size_of hb ?_)
 dsimp only
 refine wpAny_bind ?_
 by_cases hnm:n=m
 ·rw[if_neg (by simp[hnm])]
  refine wpAny_bind ?_
  refine wpAny_bind (wpAny_isInstance hTa hs2 ?_)
  refine wpAny_pure ?_
  rw[if_neg (by decide)]
  refine ux ha hb (Qq hnm) λr hr=>?_
  refine wpAny_pure ⟨_,rfl,λz=>(by cases z),h (!r) ?_⟩
  rw[<- hr]
  cases r<;>simp[hnm]
 ·rw[if_pos (by simp[hnm])]
  refine wpAny_pure ?_
  exact wpAny_pure ⟨_,rfl,λz=>(by cases z),h true ⟨λz=>(by cases z),λz=>absurd z.1 hnm⟩⟩
end
section
variable{X:Cx}
noncomputable def neK{α β:Type}(ks:List (Key×α))(ls:List (Key×β)):Bool:=!(decide (ks.length=ls.length)&&ks.all λkv=>ls.any λlv=>decide (lv.1=kv.1))
theorem CW{α β:Type}{ks:List (Key×α)}{ls:List (Key×β)}{r:Bool}(h:r=false↔ks.length=ls.length/\∀k,(ks.any λkv=>decide (kv.1=k))=true->(ls.any λkv=>decide (kv.1=k))=true):r=neK ks ls:=by
 have e:neK ks ls=false↔ks.length=ls.length/\∀k,(ks.any λkv=>decide (kv.1=k))=true->(ls.any λkv=>decide (kv.1=k))=true:=by
  unfold neK
  rw[Pe,LG,decide_eq_true_eq,Mv]
  refine and_congr_right λ_=>⟨λq k hk=>?_,λq kv hkv=>q kv.1 (MV.mpr ⟨kv,hkv,by simp⟩)⟩
  obtain⟨kv,hkv,e⟩:=MV.mp hk
  rw[<- of_decide_eq_true e]
  exact q kv hkv
 cases r with
 | false=>exact((e.mpr (h.mp rfl))).symm
 | true=>cases z:neK ks ls with
  | true=>rfl
  | false=>exact absurd (h.mpr (e.mp z)) (by decide)
theorem F9{ks:List (Key×V)}{vs:List (Key×Value)}(r:KV ks vs):(λk=>vs.any λkv=>decide (kv.1=k))=λk=>ks.any λkv=>decide (kv.1=k):=funext λk=>(r.any k).symm
theorem Fw{pins:List (Addr×Obj)}{s:Shared}{σ:St}{H:Hp}{E:Value->Shared->Prop}{Q:Value->Shared->Prop}{i:Nat}{x:Str}{pos:Pos}{v:V}(I:Inv X pins σ H s)(hN:X.N[i]?=some x)(hv:Vis X.env.scope x)(hd:NDb x)(hcd:NCd x)(e:σ[i]?=some (some v))(h:∀u,RelV v u->Q u s) :
  wpAny (model X.prog X.w) X.A (eval (.Name x pos) X.env) Q E s:=by
 obtain⟨m,hn,hl⟩:=I.loc
 obtain⟨u,r,l⟩:=hl i x v hN e hv
 have fin:=h u r
 rcases l with ⟨hk,hm⟩|⟨hk,c,hc,hcell⟩
 ·exact wpAny_Name (wpAny_loadName_local I.ok.kind hk hn hm fin) hd
 ·rcases hk with hk|hk
  ·exact wpAny_Name (wpAny_loadName_cell I.ok.kind hk hc hcell fin) hd
  ·exact wpAny_Name (wpAny_loadName_free I.ok.kind hk hc hcell fin hcd) hd
theorem Fu{pins:List (Addr×Obj)}{s:Shared}{σ:St}{H:Hp}{Q:Value->Shared->Prop}{i:Nat}{x:Str}{px p1 q1:Pos}{d:Addr}{ks:List (Key×V)}(I:Inv X pins σ H s)(hg:Gl X "set")(hm:X.mg "set" = none)(hN:X.N[i]?=some x)(hv:Vis X.env.scope x)(hd:NDb x)(hcd:NCd x)(e:σ[i]?=some (some (.ref d)))(rd:Rd H d (.dK ks))(l1:ks.length<=20)
  (h:∀(h':Heap)(tk:Nat),Inv X pins σ H { s with heap:=h',toks:=tk }->h'.SetOf (aw X.prog X.w) s.heap.objs.size (λk=>ks.any λkv=>decide (kv.1=k)) ks.length->s.heap.objs.size<h'.objs.size->(∀b o,s.heap.get? b=some o->h'.get? b=some o)->Q (.ref s.heap.objs.size) { s with heap:=h',toks:=tk }) :
  wpAny (model X.prog X.w) X.A (eval (.Call (.Name "set" p1) [.Name x px] [] q1) X.env) Q X.xe s:=by
 refine Call_ (hV I hg hm vD (MY ?_ rfl rfl))
 refine NZ (Fw I hN hv hd hcd e λu r=>?_)
 cases r
 refine Ob ?_
 obtain⟨z1,lo1,vs1,kv1,hD1⟩:=dy I.hok rd
 refine lA lo1 hD1 (by rw[<- kv1.length];exact l1) λh' tk hS keep=>?_
 rw[<- kv1.length,F9 kv1] at hS
 have keep':∀b o,s.heap.get? b=some o->h'.get? b=some o:=λb o e=>keep b o (LV e) e
 exact h h' tk (I.kept (t':=tk) keep') hS (by obtain⟨o,_,_,_,e,_⟩:=hS;exact LV e) keep'
end
end L2
namespace M
open PySem L2
section
variable{X:Cx}{E:XK}
noncomputable def lY(ρ:List Sl)(i:Nat):Option (List (Key×A)):=match ρ[i]? with
 | some (.fr (.dic ks))=>some ks
 | _=>none
theorem Bd.lY{c:Cn}{σ:St}{H:Hp}{ρ:List Sl}{τ:St}{θ:List Sl}{i:Nat}{ks:List (Key×A)}(b:Bd c σ H ρ τ θ)(e:M.lY ρ i=some ks):∃d vs,σ[i]?=some (some (.ref d))/\Rd H d (.dK vs)/\vs.map (·.1)=ks.map (·.1):=by
 have es:ρ[i]?=some (.fr (.dic ks)):=by
  unfold M.lY at e
  split at e
  ·cases e;assumption
  ·cases e
 obtain⟨v,hσ,b2⟩:=b.load es
 obtain⟨L,bl,ra⟩:=Bd.oq b2
 cases ra with
 | dic e r =>
  rename_i d vs
  obtain⟨o,ho,hdk⟩:=Cb e
  rw[cc (λz=>(by rw[jz (.inl z)] at ho;cases ho)) (λz=>(by rw[jz (.inr z)] at ho;cases ho))] at ho
  exact⟨d,vs,hσ,dy ho hdk,r.keys⟩
variable{x y:Str}{px py p1 p2 q1 q2 pos:Pos}{i j:Nat}(hu:X.A.units<cLine)(hg:Gl X "set")(hm:X.mg "set" = none)(hN:X.N[i]?=some x)(hv:Vis X.env.scope x)(hd:NDb x)(hcd:NCd x)
  (hN':X.N[j]?=some y) (hv':Vis X.env.scope y) (hd':NDb y) (hcd':NCd y)
include hu hg hm hN hv hd hcd hN' hv' hd' hcd'
end
end M
set_option maxHeartbeats 1000000
namespace M
open PySem L2
section
variable{X:Cx}{E:XK}
theorem range_all(rs:List Bool):(Mo rs.length).all (λj=>rs.getD j true)=rs.all id:=by
 rw[OJ,Mv,Mv]
 constructor
 ·intro h x hx
  obtain⟨j,hj,e⟩:=Nv hx
  have:=h j (Nb.mpr hj)
  rw[MR,L8 hj,e] at this
  exact this
 ·intro h j hj
  have hj:=Nb.mp hj
  rw[MR,L8 hj]
  exact h _ (Ov hj)
variable{a b:Expr}{ma mb:Mi Rr}{pos:Pos}
end
end M
set_option maxHeartbeats 4000000
namespace L2
open PySem PySem.Spec PyProof.Rows PySem.W
noncomputable def upTo(val:Nat->Key)(i:Nat)(k:Key):Bool:=(Mo i).any λj=>decide (val j=k)
theorem tN(val:Nat->Key)(i:Nat)(k:Key):upTo val (i+1) k=(upTo val i k || decide (k=val i)):=by
 unfold upTo
 rw[List.range_succ,Rh]
 simp[eq_comm]
theorem wx{prog:Program}{w:World}{k:Key}{x:Value}(h:(aw prog w).is k x=true):x.scannable=true:=by
 rcases aL (show gM k x=true from h) with ⟨_,_,_,e⟩|⟨_,_,_,e⟩<;>rw[e]<;>rfl
section
variable{prog:Program}{w:World}{A:Around}{R:Result->Shared->Prop}{I:Addr}{fp wr:List Addr}{G:Array GenState->Array GenState->Prop}{n:Nat}{P:Nat->Value->Prop}{St:Nat->Shared->Prop}
theorem uQ(W:WalksS prog w A.in1 I fp wr G n P St)(S:Addr)(hSf:S∉fp)(val:Nat->Key)(hval:∀i v,P i v->(aw prog w).is (val i) v=true)(hb:n+1<4096)(nd:∀i j,i<j->j<n->val i≠val j) :
  ∀(m i:Nat)(s:Shared),i+m=n->St i s->s.heap.SetOf (aw prog w) S (upTo val i) i ->
   (∀s',Moved (S::wr) G s s'->s'.heap.SetOf (aw prog w) S (upTo val n) n->R (.ok (.ret .none)) s')->codeAny (model prog w) A (.builtin "set.update.loop" ⟨[.ref S,.ref I],[]⟩) R s:=by
 have hSw:S∉wr:=λh=>hSf (W.sub _ h)
 have more:∀b∈wr,b∈S::wr:=λb h=>.tail _ h
 intro m
 induction m with
 | zero =>
  intro i s hi hst hS fin
  obtain rfl:i=n:=by omega
  refine codeAny_builtin Oj ?_
  rw[Qo Nj _]
  show wpAny _ A.in1 (pyNext (.ref I) >>= _) _ _ s
  exact wpAny_bind (W.done s _ _ hst λs' hm=>wpAny_pure (fin s' (hm.mono more) (set_same hS λo e=>hm.heap S _ hSw e)))
 | succ m ih =>
  intro i s hi hst hS fin
  have hlt:i<n:=by omega
  refine codeAny_builtin Oj ?_
  rw[Qo Nj _]
  show wpAny _ A.in1 (pyNext (.ref I) >>= _) _ _ s
  refine wpAny_bind (W.item i s _ _ hlt hst λv s' hP hst' hm=>?_)
  have hk:=hval i v hP
  have hS':=set_same hS λo e=>hm.heap S _ hSw e
  show wpAny _ A.in1 (holding [v] (setAdd S v) >>= _) _ _ s'
  refine wpAny_bind (wpAny_holding ?_)
  unfold setAdd
  refine wpAny_holding (wpAny_bind ((aw prog w).pyHash hk ?_))
  refine wpAny_setAddHashed_of (knd:=aw prog w) (s:={ s' with toks:=s'.toks+1 }) hk (wx hk) hS' (by show i+1<4096;omega) λh' sb hS2=>?_
  have no:upTo val i (val i)=false:=by
   unfold upTo
   rw[Oc]
   intro j hj z
   exact nd j i (Nb.mp hj) hlt (of_decide_eq_true z)
  rw[no] at hS2
  have hS3:h'.SetOf (aw prog w) S (upTo val (i+1)) (i+1):=gA hS2 λk=>(tN val i k).symm
  refine wpAny_pure ⟨plainId_quiet Nj _,ih (i+1) _ (by omega) (W.frame _ s' _ _ hst' (NG _) λb hb o e=>?_) hS3 λs'' hm2 hS4=>?_⟩
  ·rw[sb.2 b λz=>hSf (z▸hb)];exact e
  ·refine fin s'' (Moved.trans W.gtrans ((hm.mono more).then_heap (NG _) λb o hb e=>?_) hm2) hS4
   rw[sb.2 b λz=>hb (z▸LW)];exact e
end
section
variable{prog:Program}{w:World}{A:Around}{E:Value->Shared->Prop}{s:Shared}
noncomputable abbrev pZ(led:Bool):Obj:={ cls:=.type "set",dict:=none,data:=.set #[] 0 (.fresh 0 0 led) }
theorem wo(ks:List Key)(k:Key):upTo (λi=>ks.getD i (.inl 0)) ks.length k=ks.any λj=>decide (j=k):=by
 rw[OJ]
 unfold upTo
 rw[MV,MV]
 constructor
 ·rintro⟨i,hi,e⟩
  have hi:=Nb.mp hi
  refine⟨ks[i],Ov hi,?_⟩
  simpa[hi] using e
 ·rintro⟨j,hj,e⟩
  obtain⟨i,hi,rfl⟩:=Nv hj
  exact⟨i,Nb.mpr hi,by simpa[hi] using e⟩
theorem lu{l:Addr}{items:Array Value}{ks:List Key}{Q:Value->Shared->Prop}(hh:A.handled=none)(hl:s.heap.IsList l items)(hz:items.size=ks.length)(hi:∀i v,items[i]?=some v->(aw prog w).is (ks.getD i (.inl 0)) v=true)(hn:ks.Nodup)(hb:ks.length<=1000)
  (h:∀(h':Heap)(tk:Nat),h'.SetOf (aw prog w) s.heap.objs.size (λk=>ks.any λj=>decide (j=k)) ks.length ->
   (∀b o,b<s.heap.objs.size->s.heap.get? b=some o->h'.get? b=some o)->Q (.ref s.heap.objs.size) { s with heap:=h',toks:=tk }) :
  wpAny (model prog w) A (call (.type "set") [.ref l]) Q E s:=by
 obtain⟨c,tl,hmro⟩:=Mj.mro
 have hmade:=Mj.made
 have hsub:=Mj.sub
 refine wpAny_call (codeAny_of_tree ?_)
 show wpAny _ _ (callAny (.type "set") _) _ _ _
 refine wpAny_pure ⟨Pd _ (by decide +kernel),codeAny_builtin PZ ?_⟩
 rw[QE (weight_type_call_type "set" [.ref l] []) rfl]
 have h1:=Mj.notType
 have h2:=Mj.canCreate
 have hct:=P5 (.ref l)
 repeat (any_goals (first|assumption|wp_step))
 refine codeAny_mono (code_set_new_1 (.ref l) (E:=E) (Q₁:=λobj s₁=>∃led:Bool,obj=.ref s.heap.objs.size/\s₁={ s with heap:=s.heap.push (pZ led) }) λled=>⟨led,rfl,rfl⟩) λr s₁ hr=>?_
 cases r with
 | error e=>exact hr
 | ok fl =>
  cases fl with
  | ret obj =>
   obtain⟨led,rfl,rfl⟩:=hr
   have hS:(s.heap.push (pZ led)).get? s.heap.objs.size=some (pZ led):=L9 _ rfl
   have hT:OW { s with heap:=s.heap.push (pZ led) } (.ref s.heap.objs.size) "set" := ⟨_,hS,rfl⟩
   have hli:=Mj.init.lookup
   have hbi:=Mj.init.bind (.ref s.heap.objs.size)
   repeat (any_goals (first|assumption|wp_step))
   refine codeAny_mono (codeAny_call_builtin (R:=wants (λr s₂=>r=.none/\∃h' tk,s₂={ s with heap:=h',toks:=tk } /\
     h'.SetOf (aw prog w) s.heap.objs.size (λk=>ks.any λj=>decide (j=k)) ks.length /\
     (∀b o,b<s.heap.objs.size->s.heap.get? b=some o->h'.get? b=some o)) E) Mj.init.plain P7 (check_set_init_1 hT ?_)) λr₂ s₂ hr₂=>?_
   ·have lt:l<s.heap.objs.size:=by obtain⟨o,ho,_⟩:=hl;exact LV ho
    have hl1:(s.heap.push (pZ led)).IsList l items:=hl.push _
    have hTl:OW { s with heap:=s.heap.push (pZ led) } (.ref l) "list" := by obtain⟨o,ho,hc,_⟩:=hl1;exact⟨o,ho,hc⟩
    have hsls:=PySem.F.sub_list_set
    have hslf:=PySem.F.sub_list_frozenset
    have hne:(Ox "list" == Ox "dict")=false:=by decide
    unfold Builtin.«set.__init__» noKeywords OK
    generalize hPI:pyIter=PI
    wp_walk
    subst hPI
    refine wpAny_pyIter_list hl1 ?_
    refine wpAny_bind (wpAny_runValue ?_)
    have hh3:A.in1.in1.in1.handled=none:=by simp[hh]
    have sz:(s.heap.push (pZ led)).objs.size=s.heap.objs.size+1:=OQ ..
    refine uQ ((RS hh3 _ l (by rw[sz];exact Md (NI lt)) items).toS) s.heap.objs.size (by rw[sz];simp only[Me,Px,or_false,not_or];exact⟨Md (NR _),Pp lt⟩) (λi=>ks.getD i (.inl 0)) hi (by omega) (λi j hij hj=>?_) items.size 0 _ (by omega) ⟨⟨_,L9 _ rfl,rfl,rfl⟩,hl1.push _⟩ ?_ λs' hm hS'=>?_
    ·have hj':j<ks.length:=by omega
     have hi':i<ks.length:=by omega
     have:=(P8.mp hn) i j hi' hj' hij
     simpa[hi',hj'] using this
    ·exact⟨_,#[],0,_,LK _ hS,⟨rfl,rfl,rfl⟩,rfl,λe he=>by simp at he,λk=>by simp[upTo],by decide,rfl,rfl⟩
    ·obtain⟨h',g',d',tk',os'⟩:=s'
     obtain rfl:g'=s.gens:=hm.gens
     obtain rfl:d'=s.drawn:=hm.drawn
     obtain rfl:os'=s.os:=hm.os
     rw[hz] at hS'
     refine wpAny_pure (wpAny_pure ⟨rfl,h',tk',rfl,gA hS' λk=>wo ks k,λb o hb e=>?_⟩)
     exact hm.heap b o (by rw[sz];simp only[Me,Px,or_false,not_or];exact⟨Md hb,Md (NI hb)⟩) (LK _ (LK _ e))
   ·cases r₂ with
    | error e=>exact hr₂
    | ok fl₂ =>
     cases fl₂ with
     | ret r =>
      obtain⟨rfl,h',tk,rfl,hS',hk'⟩:=hr₂
      repeat (any_goals (first|assumption|wp_step))
      exact h _ _ hS' hk'
     | _=>exact hr₂.elim
  | _=>exact hr.elim
end
end L2
namespace L2
open PySem PySem.Spec PyProof.Rows PySem.W
section
variable{X:Cx}
noncomputable def neL{α:Type}(ks:List (Key×α))(ls:List Key):Bool:=!(decide (ks.length=ls.length)&&ks.all λkv=>ls.any λl=>decide (l=kv.1))
theorem Dw{α:Type}{ks:List (Key×α)}{ls:List Key}{r:Bool}(h:r=false↔ks.length=ls.length/\∀k,(ks.any λkv=>decide (kv.1=k))=true->(ls.any λl=>decide (l=k))=true):r=neL ks ls:=by
 have e:neL ks ls=neK ks (ls.map λl=>(l,())):=by
  unfold neL neK
  simp[RJ,O2]
 rw[e]
 refine CW (h.trans ?_)
 simp[RJ,O2]
theorem Inv.Lv{pins:List (Addr×Obj)}{σ:St}{H:Hp}{s:Shared}{a:Addr}{o:Obj}(I:Inv X pins σ H s)(ho:s.heap.get? a=some o)(h1:H a=none)(h2:a≠X.env.locals)(h3:a∉X.fs)(h4:∀v,o.data≠.cell v):Inv X ((a,o)::pins) σ H s :=
 { I with pin:=λp hp=>(by
   rcases LS.mp hp with z|z
   ·exact I.pin p (LS.mpr (.inl z))
   ·rcases Me.mp z with rfl|z
    ·exact⟨ho,h1,h2,h3,h4⟩
    ·exact I.pin p (LS.mpr (.inr z))) }
theorem Inv.Jr{pins:List (Addr×Obj)}{σ:St}{H:Hp}{s:Shared}{p:Addr×Obj}(I:Inv X (p::pins) σ H s):Inv X pins σ H s :=
 { I with pin:=λq hq=>(by
   rcases LS.mp hq with z|z
   ·exact I.pin q (LS.mpr (.inl z))
   ·exact I.pin q (LS.mpr (.inr (.tail _ z)))) }
theorem pO{x:Str}{px p1 p2 q1 q2:Pos}{i:Nat}{e:Expr}{t:TE}(hc:X.calm=true)(hu:X.A.units<cLine)(hg:Gl X "set")(hm:X.mg "set" = none)(hN:X.N[i]?=some x)(hv:Vis X.env.scope x)(hd:NDb x)(hcd:NCd x)
  (he:PE X e t)(hs:starEach [e] X.env=(false,eval e X.env)::starEach [] X.env) :
  PC X .NotEq (.Call (.Name "set" p1) [.Name x px] [] q1) (.Call (.Name "set" p2) [e] [] q2) (λσ H Q=>∃d ks,σ[i]?=some (some (.ref d))/\Rd H d (.dK ks)/\ks.length<=20/\t σ H λv H1=>∃a ls,v=.ref a/\SqL X.K H1 a (ls.map kV)/\ls.Nodup/\ls.length<=1000/\Q (.bl (neL ks ls)) H1):=by
 intro pins s σ H Q I h
 obtain⟨d,ks,hd1,rd,l1,ht⟩:=h
 refine Fu I hg hm hN hv hd hcd hd1 rd l1 λh1 tk1 I1 S1 z1 k1=>?_
 obtain⟨o,es,ep,tt,ho,_,hdt,_⟩:=id S1
 have hfree:H s.heap.objs.size=none:=by
  cases q:H s.heap.objs.size with
  | none=>rfl
  | some u=>exact absurd (I.hok.lt q) (MG _)
 have I1p:=I1.Lv ho hfree (Pp I.lt) (I.F2 (LU _)) (λv=>by rw[hdt];intro z;cases z)
 refine Call_ (hV I1p hg hm vD (MY ?_ hs rfl))
 rw[hs]
 refine NZ (thn (he _ _ _ _ _ I1p ht) λu s2 ⟨v,H1,I2,r2,a,ls,ev,sq,nd,l2,q⟩=>?_)
 subst ev
 cases r2
 refine Ob ?_
 obtain⟨its,vs,pl,_⟩:=I2.list sq
 have hlen:its.length=ls.length:=by rw[<- vs.length,LH]
 refine lu (ks:=ls) (I.ok.hd hc) pl.isList (by simpa using hlen) (λj v hj=>?_) nd l2 λh2 tk2 S2 keep=>?_
 ·have hj':its[j]?=some v:=by simpa using hj
  have lt:j<ls.length:=by rw[<- hlen];exact(LI.mp hj').1
  obtain⟨u,hu',ru⟩:=vs.get (i:=j) (x:=kV ls[j]) (by simp[lt])
  rw[hj'] at hu'
  cases hu'
  have:=iJ (P:=X.prog) (w:=X.w) ru
  simpa[lt] using this
 have keep':∀b o,s2.heap.get? b=some o->h2.get? b=some o:=λb o e=>keep b o (LV e) e
 have S1':h2.SetOf (aw X.prog X.w) s.heap.objs.size (λk=>ks.any λkv=>decide (kv.1=k)) ks.length:=set_same S1 λo' e=>by
  rw[ho] at e
  cases e
  exact keep' _ _ (I2.pin (_,o) (LS.mpr (.inr LW))).1
 exact Ay (s:={ s2 with heap:=h2,toks:=tk2 }) hu S1' S2 λr hr=>⟨.bl r,H1,I2.Jr.kept keep',rfl,by rw[Dw hr];exact q⟩
end
end L2
namespace M
open PySem L2
section
variable{X:Cx}{E:XK}
noncomputable def ji:List A->Option (List Key)
 | []=>some []
 | a::as=>match gH a,ji as with
  | some k,some ks=>some (k::ks)
  | _,_=>none
theorem rn{K:Kx}{G:Hp}:∀{vs:List V}{as:List A}{ls:List Key},RAs K G vs as->ji as=some ls->vs=ls.map kV
 | _,_,ls,.nil,h=>by cases h;rfl
 | _,_,ls,.cons (a:=a) (as:=as) r rs,h=>by
  unfold ji at h
  cases e1:gH a with
  | none=>rw[e1] at h;cases h
  | some k =>
   cases e2:ji as with
   | none=>rw[e1,e2] at h;cases h
   | some ks =>
    rw[e1,e2] at h
    cases h
    rw[iV r e1,rn rs e2]
    rfl
noncomputable def dM(i:Nat)(m:Mi Rr):Mi Rr:=λρ=>match lY ρ i with
 | some ks=>if ks.length<=20 then ax (mFz m) (λr ρ'=>match r with
  | .fr (.lst as)=>match ji as with
   | some ls=>if ls.Nodup/\ls.length<=1000 then some (.ok (.fr (.bl (neL ks ls))),ρ') else none
   | none=>none
  | _=>none) ρ else none
 | none=>none
theorem wG{α β:Type}{ks:List (Key×α)}{ks':List (Key×β)}{ls:List Key}(e:ks.map (·.1)=ks'.map (·.1)):neL ks ls=neL ks' ls:=by
 have a:∀{α:Type}(ks:List (Key×α)),neL ks ls=!(decide ((ks.map (·.1)).length=ls.length)&&(ks.map (·.1)).all λk=>ls.any λl=>decide (l=k)):=λks=>by
  unfold neL
  simp[Pk,O2]
 rw[a,a,e]
theorem jT{i:Nat}{m:Mi Rr}(σ:St)(H:Hp)(Q:VK)(h:TEm (kx X) E (dM i m) σ H Q):∃d ks,σ[i]?=some (some (.ref d))/\Rd H d (.dK ks)/\ks.length<=20/\TEm (kx X) E (mFz m) σ H λv H1=>∃a ls,v=.ref a/\SqL X.K H1 a (ls.map kV)/\ls.Nodup/\ls.length<=1000/\Q (.bl (neL ks ls)) H1:=by
 obtain⟨c,ρ,τ,θ,o,ρ',ek,b,em,q⟩:=h
 unfold dM at em
 split at em
 ·rename_i ks h1
  split at em
  ·rename_i hl
   obtain⟨d,vs,s1,r1,k1⟩:=Bd.lY b h1
   refine⟨d,vs,s1,r1,by have:=congrArg M7 k1;simp at this;omega,aR ek b em (λx v ρ1 H1 hv b1 em1=>?_) (aM q)⟩
   split at em1
   ·rename_i as
    cases e2:ji as with
    | none=>simp only[e2] at em1;cases em1
    | some ls =>
     simp only[e2] at em1
     split at em1
     ·rename_i hn
      cases em1
      obtain⟨L,bl,ra⟩:=Bd.oq b1
      have eK:c.K=X.K:=congrArg Kx.K ek
      cases ra with
      | lst e r =>
       rename_i p us
       have sq:=jf (g_same _ _ _) e
       rw[rn r e2] at sq
       refine⟨p,ls,rfl,by rw[<- eK];exact sq,hn.1,hn.2,?_⟩
       rw[wG k1]
       exact q _ H1 trivial (b1.drop.push λ_=>.bl _)
     ·cases em1
   ·cases em1
  ·cases em
 ·cases em
variable{x:Str}{px p1 p2 q1 q2 pos:Pos}{i:Nat}{e:Expr}{m:Mi Rr}(hc:X.calm=true)(hu:X.A.units<cLine)(hg:Gl X "set")(hm:X.mg "set" = none)(hN:X.N[i]?=some x)(hv:Vis X.env.scope x)(hd:NDb x)(hcd:NCd x)
  (he:JE X E e m) (hs:starEach [e] X.env=(false,eval e X.env)::starEach [] X.env)
include hc hu hg hm hN hv hd hcd he hs
theorem xk:JE X E (.Compare (.Call (.Name "set" p1) [.Name x px] [] q1) [.NotEq] [.Call (.Name "set" p2) [e] [] q2] pos) (dM i m):=⟨PE.weaken (rh (pO hc hu hg hm hN hv hd hcd (vC he).p hs) (aY _)) λσ H Q h=>jT σ H Q h⟩
theorem vx:JT X E (.Compare (.Call (.Name "set" p1) [.Name x px] [] q1) [.NotEq] [.Call (.Name "set" p2) [e] [] q2] pos) (ah (dM i m)):=⟨PT.weaken (qy (pO hc hu hg hm hN hv hd hcd (vC he).p hs) (aY _)) λσ H Q h=>jT σ H _ (cT σ H Q h)⟩
end
end M
namespace L2
open PySem PySem.Spec PyProof.Rows PySem.W
section
variable{X:Cx}
theorem yM:OpR X (compareOp .Is) (λx y H Q=>∃a b,x=.bl a/\y=.bl b/\Q (.bl (decide (a=b))) H):=by
 intro pins s σ H x y v u Q I rx ry h
 obtain⟨a,b,rfl,rfl,q⟩:=h
 cases rx
 cases ry
 refine wpAny_of_eq (a:=.bool (decide (a=b))) ?_ (je I q rfl)
 cases a<;>cases b<;>rfl
theorem rp:OpR X (compareOp .IsNot) (λx y H Q=>∃a b,x=.bl a/\y=.bl b/\Q (.bl (!decide (a=b))) H):=by
 intro pins s σ H x y v u Q I rx ry h
 obtain⟨a,b,rfl,rfl,q⟩:=h
 cases rx
 cases ry
 refine wpAny_of_eq (a:=.bool (!decide (a=b))) ?_ (je I q rfl)
 cases a<;>cases b<;>rfl
end
end L2
namespace M
open PySem L2
section
variable{X:Cx}{E:XK}{a b:Expr}{ma mb:Mi Rr}{pos:Pos}
noncomputable def gE(neg:Bool):A->A->Option Rr
 | .bl a,.bl b=>some (.fr (.bl (if neg then !decide (a=b) else decide (a=b))))
 | _,_=>none
theorem vc{K:Kx}:OpS K (λx y H Q=>∃a b,x=.bl a/\y=.bl b/\Q (.bl (decide (a=b))) H) (gE false):=.scalar λH v w a b q r1 r2 h=>by
 cases a<;>first|(cases h;done)|(cases b<;>first|(cases h;done)|skip)
 cases r1;cases r2;cases h
 exact⟨_,_,rfl,λ_=>.bl _,λQ k=>⟨_,_,rfl,rfl,k⟩⟩
theorem oV{K:Kx}:OpS K (λx y H Q=>∃a b,x=.bl a/\y=.bl b/\Q (.bl (!decide (a=b))) H) (gE true):=.scalar λH v w a b q r1 r2 h=>by
 cases a<;>first|(cases h;done)|(cases b<;>first|(cases h;done)|skip)
 cases r1;cases r2;cases h
 exact⟨_,_,rfl,λ_=>.bl _,λQ k=>⟨_,_,rfl,rfl,k⟩⟩
theorem FX(ha:JE X E a ma)(hb:JE X E b mb):JE X E (.Compare a [.Is] [b] pos) (mOp (fOr (fIs false) (gE false)) ma mb):=cD (OpR.or' nQ yM) (r9.or vc) ha hb (aY _)
theorem xM(ha:JE X E a ma)(hb:JE X E b mb):JE X E (.Compare a [.IsNot] [b] pos) (mOp (fOr (fIs true) (gE true)) ma mb):=cD (OpR.or' jH rp) (jF.or oV) ha hb (aY _)
theorem F8(ha:JE X E a ma)(hb:JE X E b mb):JT X E (.Compare a [.Is] [b] pos) (ah (mOp (fOr (fIs false) (gE false)) ma mb)):=cz (OpR.or' nQ yM) (r9.or vc) ha hb (aY _)
theorem wk(ha:JE X E a ma)(hb:JE X E b mb):JT X E (.Compare a [.IsNot] [b] pos) (ah (mOp (fOr (fIs true) (gE true)) ma mb)):=cz (OpR.or' jH rp) (jF.or oV) ha hb (aY _)
end
end M
set_option maxHeartbeats 1000000
namespace M
open PySem L2 W
noncomputable def cK(f:Ms)(das:List A):List Rr->Mi Rr:=λrs ρ=>match cu (rs++das.map Rr.fr) ρ with
 | some (as,ρt)=>match f (as.map toP) with
  | some (.rt s,ρc)=>match jy s,putL ρ (rs++das.map Rr.fr) (aT as.length ρc) ρt with
   | some r,some ρ'=>some (.ok r,ρ')
   | _,_=>none
  | some (.ex x,ρc)=>match putL ρ (rs++das.map Rr.fr) (aT as.length ρc) ρt with
   | some ρ'=>some (.error x,ρ')
   | none=>none
  | _=>none
 | none=>none
def Val(f:Ms)(as:List A)(a:A):Prop:=∃ρ,f (as.map Sl.fr)=some (.rt (.fr a),ρ)
def gG(f:Ms)(as:List A)(o:LO):Prop:=∃ρ,f (as.map Sl.fr)=some (.rt (.lv o),ρ)
def cg(f:Ms)(o:LO)(as:List A)(s:Sl)(o':LO):Prop:=∃ρ,f (.pv o::as.map Sl.fr)=some (.rt s,.pv o'::ρ)
theorem iM(as:List A)(ρ:List Sl):cu (as.map Rr.fr) ρ=some (as.map Sl.fr,ρ):=by
 induction as generalizing ρ with
 | nil=>rfl
 | cons a as ih=>simp only[LF,cu,take1,ih]
theorem mT(as:List A):(as.map Sl.fr).map toP=as.map Sl.fr:=by rw[MM];rfl
theorem iI(ρ0:List Sl):∀(as:List A)(ss:List Sl)(ρ:List Sl),as.length=ss.length->putL ρ0 (as.map Rr.fr) ss ρ=some ρ
 | [],[],ρ,_=>rfl
 | a::as,s::ss,ρ,h=>by rw[LF,putL,iI ρ0 as ss ρ (by simpa using h)];rfl
 | [],_::_,_,h=>by simp at h
 | _::_,[],_,h=>by simp at h
theorem ar{f:Ms}{as:List A}{a:A}(h:Val f as a)(ρ:List Sl):cK f [] (as.map Rr.fr) ρ=some (.ok (.fr a),ρ):=by
 obtain⟨ρc,h⟩:=h
 unfold cK
 rw[LJ,Mr,iM]
 simp only[mT,h,jy]
 rw[iI _ _ _ _ (by rw[bC,LH])]
theorem fh{f:Ms}{as:List A}{o:LO}(h:gG f as o)(ρ:List Sl):cK f [] (as.map Rr.fr) ρ=some (.ok (.nw o),ρ):=by
 obtain⟨ρc,h⟩:=h
 unfold cK
 rw[LJ,Mr,iM]
 simp only[mT,h,jy]
 rw[iI _ _ _ _ (by rw[bC,LH])]
theorem m9{f:Ms}{as:List A}{o o':LO}{s:Sl}{r:Rr}{i:Nat}{ρ:List Sl}(h:cg f o as s o')(hr:jy s=some r)(hl:aC ρ i=some o):cK f [] (.rf i::as.map Rr.fr) ρ=some (.ok r,setAt ρ i o'):=by
 obtain⟨ρc,h⟩:=h
 unfold aC at hl
 unfold setAt
 have hi:∀s,ρ[i]?=some s->(ρ.set i Sl.un)[i]?=some .un:=λs e=>Mx (LI.mp e).1
 have key:∀(s0:Sl)(k:LO->Sl),ρ[i]?=some s0->take1 (.rf i) ρ=some (.lv o,ρ.set i .un)->(∀s ρ',ρ'[i]?=some Sl.un->pE ρ (.rf i) (.pv s) ρ'=some (ρ'.set i (k s)))->cK f [] (.rf i::as.map Rr.fr) ρ=some (.ok r,ρ.set i (k o')):=by
  intro s0 k es ht hp
  unfold cK
  rw[LJ,Mr,cu,ht]
  simp only[iM]
  have h':f (OS toP (Sl.lv o::OS Sl.fr as))=some (.rt s,.pv o'::ρc):=by rw[LF,mT];exact h
  rw[h']
  simp only[hr]
  have hb:aT (Sl.lv o::OS Sl.fr as).length (.pv o'::ρc)=.pv o'::aT as.length ρc:=by rw[LL,LH];rfl
  rw[hb,putL,iI _ _ _ _ (by rw[bC])]
  simp only[hp _ _ (hi s0 es),List.set_set]
 cases es:ρ[i]? with
 | none=>simp only[es] at hl;cases hl
 | some t =>
  cases t with
  | un=>simp only[es] at hl;cases hl
  | fr a=>simp only[es] at hl;cases hl
  | lv o1 =>
   simp only[es] at hl;cases hl
   refine key _ Sl.lv es (by unfold take1;simp only[es]) λs ρ' e=>?_
   unfold pE
   simp only[es,e]
  | pv o1 =>
   simp only[es] at hl;cases hl
   refine key _ Sl.pv es (by unfold take1;simp only[es]) λs ρ' e=>?_
   unfold pE
   simp only[es,e]
theorem fP{G:Mg}{b:Ms}{as:List A}(P:Nat->List Sl->Prop){ρ:List Sl}(h0:P 0 ρ)(hs:∀i a ρ,as[i]?=some a->P i ρ->∃ρ1 ρ2,G a ρ=some ρ1/\(b ρ1=some (.nx,ρ2)\/b ρ1=some (.ct,ρ2))/\P (i+1) ρ2) :
  ∃ρ',forL G b as ρ=some (.nx,ρ')/\P as.length ρ':=by
 have key:∀n i ρ,as.length-i=n->i<=as.length->P i ρ->∃ρ',forL G b (as.drop i) ρ=some (.nx,ρ')/\P as.length ρ':=by
  intro n
  induction n with
  | zero =>
   intro i ρ e hi p
   have:i=as.length:=by omega
   subst this
   exact⟨ρ,by rw[Ou];rfl,p⟩
  | succ n ih =>
   intro i ρ e hi p
   have hlt:i<as.length:=by omega
   obtain⟨ρ1,ρ2,h1,h2,h3⟩:=hs i as[i] ρ (by simp[hlt]) p
   obtain⟨ρ',h4,h5⟩:=ih (i+1) ρ2 (by omega) hlt h3
   refine⟨ρ',?_,h5⟩
   rw[MF hlt,forL,h1]
   rcases h2 with h2|h2
   ·simp only[h2];exact h4
   ·simp only[h2];exact h4
 simpa using key as.length 0 ρ (by simp) (MT _) h0
theorem iT{G:Mg}{t:Mi Bool}{e:Mi Rr}{as:List A}(P:Nat->List A->List Sl->Prop){ρ:List Sl}(h0:P 0 [] ρ)
  (hs:∀i a acc ρ,as[i]?=some a->P i acc ρ->∃ρ1,G a ρ=some ρ1/\((∃ρ2 r ρ3 d ρ4,t ρ1=some (.ok true,ρ2)/\e ρ2=some (.ok r,ρ3)/\aQ r ρ3=some (d,ρ4)/\P (i+1) (acc++[d]) ρ4)\/∃ρ2,t ρ1=some (.ok false,ρ2)/\P (i+1) acc ρ2)) :
  ∃ys ρ',dA G t e as [] ρ=some (ys,ρ')/\P as.length ys ρ':=by
 have key:∀n i acc ρ,as.length-i=n->i<=as.length->P i acc ρ->∃ys ρ',dA G t e (as.drop i) acc ρ=some (ys,ρ')/\P as.length ys ρ':=by
  intro n
  induction n with
  | zero =>
   intro i acc ρ e' hi p
   have:i=as.length:=by omega
   subst this
   exact⟨acc,ρ,by rw[Ou];rfl,p⟩
  | succ n ih =>
   intro i acc ρ e' hi p
   have hlt:i<as.length:=by omega
   obtain⟨ρ1,h1,h2⟩:=hs i as[i] acc ρ (by simp[hlt]) p
   rw[MF hlt,dA,h1]
   rcases h2 with ⟨ρ2,r,ρ3,d,ρ4,q1,q2,q3,q4⟩|⟨ρ2,q1,q2⟩
   ·simp only[q1,q2,q3]
    exact ih (i+1) _ ρ4 (by omega) hlt q4
   ·simp only[q1]
    exact ih (i+1) _ ρ2 (by omega) hlt q2
 simpa using key as.length 0 [] ρ (by simp) (MT _) h0
theorem iZ{t:Mi Bool}{b:Ms}(P:Nat->List Sl->Prop)(Q:List Sl->Prop)(hs:∀k ρ,P k ρ->(∃ρ1,t ρ=some (.ok false,ρ1)/\Q ρ1)\/∃ρ1 ρ2 k',t ρ=some (.ok true,ρ1)/\(b ρ1=some (.nx,ρ2)\/b ρ1=some (.ct,ρ2))/\k'<k/\P k' ρ2) :
  ∀{n k:Nat}{ρ:List Sl},P k ρ->k<n->∃ρ',dO t b n ρ=some (.nx,ρ')/\Q ρ':=by
 intro n
 induction n with
 | zero=>intro k ρ _ h;omega
 | succ n ih =>
  intro k ρ p hk
  rcases hs k ρ p with ⟨ρ1,h1,h2⟩|⟨ρ1,ρ2,k',h1,h2,h3,h4⟩
  ·exact⟨ρ1,by rw[dO,h1],h2⟩
  ·obtain⟨ρ',h5,h6⟩:=ih h4 (by omega)
   refine⟨ρ',?_,h6⟩
   rw[dO,h1]
   rcases h2 with h2|h2
   ·simp only[h2];exact h5
   ·simp only[h2];exact h5
theorem qj{n:Nat}(h:n<2^9500):n<BIG:=LP h (by unfold BIG;exact MO (by decide) (by decide))
noncomputable def nm(x:Num):A:=.tup [.int x.1,.int x.2]
theorem D3(x:Num):toD (nm x)=some (.tup [.int x.1,.int x.2]):=by
 simp[nm,toD,fD]
theorem EM(x y:Num):eqA (nm x) (nm y)=some (decide (x=y)):=by
 unfold eqA
 simp only[D3]
 rw[if_pos (by simp[D.depth,D.cC])]
 obtain⟨x1,x2⟩:=x
 obtain⟨y1,y2⟩:=y
 simp[D.eq,D.eqs,NP]
theorem AF(i j:Int):eqA (.int i) (.int j)=some (decide (i=j)):=by
 unfold eqA
 simp only[toD]
 rw[if_pos (by simp[D.depth])]
 simp[D.eq,NP]
section
variable{α β:Type}{ρ:List Sl}
theorem Fe(m:Mi α)(f:α->Mi β):ax m f ρ=(match m ρ with|some (.ok x,ρ1)=>f x ρ1|some (.error e,ρ1)=>some (.error e,ρ1)|none=>none):=rfl
theorem zH(m:Mi α)(f:α->Ms):bu m f ρ=(match m ρ with|some (.ok x,ρ1)=>f x ρ1|some (.error e,ρ1)=>some (.ex e,ρ1)|none=>none):=rfl
theorem Gs(x:α):(jh x:Mi α) ρ=some (.ok x,ρ):=rfl
theorem HA(i:Nat):ae i ρ=(match ρ[i]? with|some (.fr a)=>some (.ok (.fr a),ρ)|some (.lv _)=>some (.ok (.rf i),ρ)|some (.pv _)=>some (.ok (.rf i),ρ)|_=>none):=rfl
theorem FP(i:Nat):ai i ρ=(match ρ[i]? with|some (.fr a)=>some (.ok (.fr a),ρ)|some (.lv o)=>some (.ok (.fr o.a),ρ.set i (.fr o.a))|_=>none):=rfl
theorem e_C(a:A):mC a ρ=some (.ok (.fr a),ρ):=rfl
noncomputable def opK(f:A->A->Option Rr)(x y:Rr)(ρ:List Sl):Option (Except Str Rr×List Sl):=match res ρ x,res ρ y with
 | some a,some b=>match f a b with
  | some r=>some (.ok r,ρ)
  | none=>none
 | _,_=>none
theorem KL(f:A->A->Option Rr)(ma mb:Mi Rr):mOp f ma mb ρ=(match ma ρ with|some (.ok x,ρ1)=>(match mb ρ1 with|some (.ok y,ρ2)=>opK f x y ρ2|some (.error e,ρ2)=>some (.error e,ρ2)|none=>none)|some (.error e,ρ1)=>some (.error e,ρ1)|none=>none):=by
 unfold mOp ax opK
 cases ma ρ with
 | none=>rfl
 | some p =>
  obtain⟨o,ρ1⟩:=p
  cases o with
  | error e=>rfl
  | ok x =>
   simp only
   cases mb ρ1 with
   | none=>rfl
   | some p =>
    obtain⟨o,ρ2⟩:=p
    cases o with
    | error e=>rfl
    | ok y=>rfl
noncomputable def unK(f:A->Option Rr)(x:Rr)(ρ:List Sl):Option (Except Str Rr×List Sl):=match res ρ x with
 | some a=>match f a with
  | some r=>some (.ok r,ρ)
  | none=>none
 | none=>none
theorem KY(f:A->Option Rr)(m:Mi Rr):mUn f m ρ=(match m ρ with|some (.ok x,ρ1)=>unK f x ρ1|some (.error e,ρ1)=>some (.error e,ρ1)|none=>none):=by
 unfold mUn ax
 cases m ρ with
 | none=>rfl
 | some p =>
  obtain⟨o,ρ1⟩:=p
  cases o with
  | error e=>rfl
  | ok x=>rfl
theorem KA(f:A->Option Rr)(m:Mi Rr):mB1 f m ρ=mUn f m ρ:=rfl
theorem Lw(f:A->A->Option Rr)(m n:Mi Rr):mB2 f m n ρ=mOp f m n ρ:=rfl
noncomputable def xH(r:Rr)(ρ:List Sl):Option (Except Str Bool×List Sl):=match asB r with
 | some b=>some (.ok b,ρ)
 | none=>none
theorem Dv(m:Mi Rr):ah m ρ=(match m ρ with|some (.ok x,ρ1)=>xH x ρ1|some (.error e,ρ1)=>some (.error e,ρ1)|none=>none):=by
 unfold ah ax
 cases m ρ with
 | none=>rfl
 | some p =>
  obtain⟨o,ρ1⟩:=p
  cases o with
  | error e=>rfl
  | ok x=>rfl
theorem zt(k:Bool):xH (.fr (.bl k)) ρ=some (.ok k,ρ):=rfl
theorem Km(m n:Mi Bool):hW m n ρ=(match m ρ with|some (.ok true,ρ1)=>n ρ1|some (.ok false,ρ1)=>some (.ok false,ρ1)|some (.error e,ρ1)=>some (.error e,ρ1)|none=>none):=by
 unfold hW ax
 cases m ρ with
 | none=>rfl
 | some p=>obtain⟨o,ρ1⟩:=p;cases o with|error e=>rfl|ok k=>cases k<;>rfl
theorem KI(m n:Mi Bool):mOr m n ρ=(match m ρ with|some (.ok true,ρ1)=>some (.ok true,ρ1)|some (.ok false,ρ1)=>n ρ1|some (.error e,ρ1)=>some (.error e,ρ1)|none=>none):=by
 unfold mOr ax
 cases m ρ with
 | none=>rfl
 | some p=>obtain⟨o,ρ1⟩:=p;cases o with|error e=>rfl|ok k=>cases k<;>rfl
theorem Hw(m:Mi Bool):eQ m ρ=(match m ρ with|some (.ok k,ρ1)=>some (.ok (!k),ρ1)|some (.error e,ρ1)=>some (.error e,ρ1)|none=>none):=by
 unfold eQ ax
 cases m ρ with
 | none=>rfl
 | some p =>
  obtain⟨o,ρ1⟩:=p
  cases o with
  | error e=>rfl
  | ok x=>rfl
theorem D6(m n:Mi Rr):lR m n ρ=(match ah m ρ with|some (.ok true,ρ1)=>n ρ1|some (.ok false,ρ1)=>some (.ok (.fr (.bl false)),ρ1)|some (.error e,ρ1)=>some (.error e,ρ1)|none=>none):=by
 unfold lR ax
 cases ah m ρ with
 | none=>rfl
 | some p=>obtain⟨o,ρ1⟩:=p;cases o with|error e=>rfl|ok k=>cases k<;>rfl
theorem IQ(m n:Mi Rr):Ao m n ρ=(match ah m ρ with|some (.ok true,ρ1)=>some (.ok (.fr (.bl true)),ρ1)|some (.ok false,ρ1)=>n ρ1|some (.error e,ρ1)=>some (.error e,ρ1)|none=>none):=by
 unfold Ao ax
 cases ah m ρ with
 | none=>rfl
 | some p=>obtain⟨o,ρ1⟩:=p;cases o with|error e=>rfl|ok k=>cases k<;>rfl
theorem Et(m:Mi Rr):kX m ρ=(match ah m ρ with|some (.ok k,ρ1)=>some (.ok (.fr (.bl (!k))),ρ1)|some (.error e,ρ1)=>some (.error e,ρ1)|none=>none):=by
 unfold kX ax
 cases ah m ρ with
 | none=>rfl
 | some p =>
  obtain⟨o,ρ1⟩:=p
  cases o with
  | error e=>rfl
  | ok x=>rfl
theorem Kw(t:Mi Bool)(m n:Mi Rr):mIf t m n ρ=(match t ρ with|some (.ok true,ρ1)=>m ρ1|some (.ok false,ρ1)=>n ρ1|some (.error e,ρ1)=>some (.error e,ρ1)|none=>none):=by
 unfold mIf ax
 cases t ρ with
 | none=>rfl
 | some p=>obtain⟨o,ρ1⟩:=p;cases o with|error e=>rfl|ok k=>cases k<;>rfl
theorem IB:ag ρ=some (.ok [],ρ):=rfl
theorem D9(m:Mi Rr)(n:Mi (List Rr)):aa m n ρ=(match m ρ with|some (.ok x,ρ1)=>(match n ρ1 with|some (.ok xs,ρ2)=>some (.ok (x::xs),ρ2)|some (.error e,ρ2)=>some (.error e,ρ2)|none=>none)|some (.error e,ρ1)=>some (.error e,ρ1)|none=>none):=by
 unfold aa ax
 cases m ρ with
 | none=>rfl
 | some p =>
  obtain⟨o,ρ1⟩:=p
  cases o with
  | error e=>rfl
  | ok x =>
   simp only
   cases n ρ1 with
   | none=>rfl
   | some p =>
    obtain⟨o,ρ2⟩:=p
    cases o with
    | error e=>rfl
    | ok y=>rfl
noncomputable def tupK(rs:List Rr)(ρ:List Sl):Option (Except Str Rr×List Sl):=match dP rs ρ with
 | some (as,ρ')=>if as.length<=1000 then some (.ok (.fr (.tup as)),ρ') else none
 | none=>none
theorem JR(m:Mi (List Rr)):bI m ρ=(match m ρ with|some (.ok x,ρ1)=>tupK x ρ1|some (.error e,ρ1)=>some (.error e,ρ1)|none=>none):=by
 unfold bI ax
 cases m ρ with
 | none=>rfl
 | some p =>
  obtain⟨o,ρ1⟩:=p
  cases o with
  | error e=>rfl
  | ok x=>rfl
noncomputable def lstK(rs:List Rr)(ρ:List Sl):Option (Except Str Rr×List Sl):=match dP rs ρ with
 | some (as,ρ')=>if as.length<=1000 then some (.ok (.nw (.lst as)),ρ') else none
 | none=>none
theorem G0(m:Mi (List Rr)):bV m ρ=(match m ρ with|some (.ok x,ρ1)=>lstK x ρ1|some (.error e,ρ1)=>some (.error e,ρ1)|none=>none):=by
 unfold bV ax
 cases m ρ with
 | none=>rfl
 | some p =>
  obtain⟨o,ρ1⟩:=p
  cases o with
  | error e=>rfl
  | ok x=>rfl
theorem Dd(f:Ms)(das:List A)(m:Mi (List Rr)):af f das m ρ=(match m ρ with|some (.ok x,ρ1)=>cK f das x ρ1|some (.error e,ρ1)=>some (.error e,ρ1)|none=>none):=by
 unfold af ax
 cases m ρ with
 | none=>rfl
 | some p =>
  obtain⟨o,ρ1⟩:=p
  cases o with
  | error e=>rfl
  | ok x=>rfl
theorem bF(m n:Ms):av m n ρ=(match m ρ with|some (.nx,ρ1)=>n ρ1|r=>r):=rfl
theorem ER:aG ρ=some (.nx,ρ):=rfl
noncomputable def tQ(i:Nat)(r:Rr)(ρ:List Sl):Option (Fl×List Sl):=match stT r ρ with
 | some (t,ρ1)=>match put i t ρ1 with
  | some ρ2=>some (.nx,ρ2)
  | none=>none
 | none=>none
theorem yx(i:Nat)(m:Mi Rr):aD i m ρ=(match m ρ with|some (.ok x,ρ1)=>tQ i x ρ1|some (.error e,ρ1)=>some (.ex e,ρ1)|none=>none):=by
 unfold aD bu
 cases m ρ with
 | none=>rfl
 | some p =>
  obtain⟨o,ρ1⟩:=p
  cases o with
  | error e=>rfl
  | ok x=>rfl
noncomputable def IW(r:Rr)(ρ:List Sl):Option (Fl×List Sl):=match zZ r ρ with
 | some (s,ρ')=>some (.rt s,ρ')
 | none=>none
theorem Hx(m:Mi Rr):aH m ρ=(match m ρ with|some (.ok x,ρ1)=>IW x ρ1|some (.error e,ρ1)=>some (.ex e,ρ1)|none=>none):=by
 unfold aH bu
 cases m ρ with
 | none=>rfl
 | some p =>
  obtain⟨o,ρ1⟩:=p
  cases o with
  | error e=>rfl
  | ok x=>rfl
theorem Dp:xa ρ=some (.rt (.fr .non),ρ):=rfl
theorem Gq(m:Mi Rr):bE m ρ=(match m ρ with|some (.ok _,ρ1)=>some (.nx,ρ1)|some (.error e,ρ1)=>some (.ex e,ρ1)|none=>none):=by
 unfold bE bu
 cases m ρ with
 | none=>rfl
 | some p =>
  obtain⟨o,ρ1⟩:=p
  cases o with
  | error e=>rfl
  | ok x=>rfl
theorem lU(t:Mi Bool)(m n:Ms):sIf t m n ρ=(match t ρ with|some (.ok true,ρ1)=>m ρ1|some (.ok false,ρ1)=>n ρ1|some (.error e,ρ1)=>some (.ex e,ρ1)|none=>none):=by
 unfold sIf bu
 cases t ρ with
 | none=>rfl
 | some p=>obtain⟨o,ρ1⟩:=p;cases o with|error e=>rfl|ok k=>cases k<;>rfl
theorem mK(loc:Nat)(m:Ms):aX loc m ρ=(match m (ρ++L7 loc .un) with|some (.nx,ρ')=>some (.rt (.fr .non),ρ')|some (.rt s,ρ')=>some (.rt s,ρ')|some (.ex x,ρ')=>some (.ex x,ρ')|_=>none):=by
 unfold aX
 cases m (ρ++L7 loc .un) with
 | none=>rfl
 | some p=>obtain⟨f,ρ1⟩:=p;cases f<;>rfl
theorem mJ(m:Mi (List A))(G:Mg)(b:Ms):c8 m G b ρ=(match m ρ with|some (.ok as,ρ1)=>forL G b as ρ1|some (.error e,ρ1)=>some (.ex e,ρ1)|none=>none):=by
 unfold c8 bu
 cases m ρ with
 | none=>rfl
 | some p =>
  obtain⟨o,ρ1⟩:=p
  cases o with
  | error e=>rfl
  | ok x=>rfl
theorem zB(n:Nat)(t:Mi Bool)(b:Ms):iO n t b ρ=dO t b n ρ:=rfl
noncomputable def HX(r:Rr)(ρ:List Sl):Option (Except Str (List A)×List Sl):=match aQ r ρ with
 | some (a,ρ')=>match zg a with
  | some as=>some (.ok as,ρ')
  | none=>none
 | none=>none
theorem F5(m:Mi Rr):cy m ρ=(match m ρ with|some (.ok x,ρ1)=>HX x ρ1|some (.error e,ρ1)=>some (.error e,ρ1)|none=>none):=by
 unfold cy ax
 cases m ρ with
 | none=>rfl
 | some p =>
  obtain⟨o,ρ1⟩:=p
  cases o with
  | error e=>rfl
  | ok x=>rfl
noncomputable def Ce(r:Rr)(ρ:List Sl):Option (Except Str (List A)×List Sl):=match res ρ r with
 | some (.int j)=>if -(2^60)<=j/\j<2^60 then some (.ok (bP 0 j.toNat),ρ) else none
 | _=>none
theorem GH(m:Mi Rr):fH m ρ=(match m ρ with|some (.ok x,ρ1)=>Ce x ρ1|some (.error e,ρ1)=>some (.error e,ρ1)|none=>none):=by
 unfold fH ax
 cases m ρ with
 | none=>rfl
 | some p =>
  obtain⟨o,ρ1⟩:=p
  cases o with
  | error e=>rfl
  | ok x=>rfl
noncomputable def eO(n:Nat)(G:Mg)(t:Mi Bool)(e:Mi Rr)(as:List A)(ρ:List Sl):Option (Except Str Rr×List Sl):=if as.length<=100000 then match dA G t e as [] (ρ++L7 n .un) with
 | some (ys,ρ')=>some (.ok (.nw (.lst ys)),ρ'.take ρ.length)
 | none=>none else none
theorem DF(n:Nat)(mi:Mi (List A))(G:Mg)(t:Mi Bool)(e:Mi Rr):cL n mi G t e ρ=(match mi ρ with|some (.ok as,ρ1)=>eO n G t e as ρ1|some (.error x,ρ1)=>some (.error x,ρ1)|none=>none):=by
 unfold cL ax
 cases mi ρ with
 | none=>rfl
 | some p =>
  obtain⟨o,ρ1⟩:=p
  cases o with
  | error e=>rfl
  | ok x=>rfl
theorem xc:aZ ρ=some (.ok true,ρ):=rfl
noncomputable def Ku(G:Mg)(r:Rr)(ρ:List Sl):Option (Fl×List Sl):=match aQ r ρ with
 | some (a,ρ1)=>match G a ρ1 with
  | some ρ2=>some (.nx,ρ2)
  | none=>none
 | none=>none
noncomputable def HC(i j:Nat)(rs:List Rr)(ρ:List Sl):Option (Fl×List Sl):=match dP rs ρ with
 | some ([a,b],ρ1)=>match put i (.fr a) ρ1 with
  | some ρ2=>match put j (.fr b) ρ2 with
   | some ρ3=>some (.nx,ρ3)
   | none=>none
  | none=>none
 | _=>none
theorem IG(i j:Nat)(m:Mi (List Rr)):uJ i j m ρ=(match m ρ with|some (.ok x,ρ1)=>HC i j x ρ1|some (.error e,ρ1)=>some (.ex e,ρ1)|none=>none):=by
 unfold uJ bu
 cases m ρ with
 | none=>rfl
 | some p =>
  obtain⟨o,ρ1⟩:=p
  cases o with
  | error e=>rfl
  | ok x=>rfl
noncomputable def J6(i:Nat)(r:Rr)(ρ:List Sl):Option (Except Str Rr×List Sl):=match aQ r ρ with
 | some (a,ρ1)=>match aC ρ1 i with
  | some (.lst xs)=>if xs.length<=100000 then some (.ok (.fr .non),setAt ρ1 i (.lst (xs++[a]))) else none
  | _=>none
 | none=>none
theorem Hc(i:Nat)(m:Mi Rr):eR i (cJ i m) ρ=(if isL ρ i then (match m ρ with|some (.ok x,ρ1)=>J6 i x ρ1|some (.error e,ρ1)=>some (.error e,ρ1)|none=>none) else none):=by
 unfold eR cJ ax
 split
 ·cases m ρ with
  | none=>rfl
  | some p=>obtain⟨o,ρ1⟩:=p;cases o<;>rfl
 ·rfl
noncomputable def ixK(i:Nat)(r rk:Rr)(ρ:List Sl):Option (Fl×List Sl):=match aQ r ρ with
 | some (a,ρ1)=>match res ρ1 rk,aC ρ1 i with
  | some (.int k),some (.lst xs)=>match ixN xs.length k with
   | some j=>some (.nx,setAt ρ1 i (.lst (xs.set j a)))
   | none=>none
  | _,_=>none
 | none=>none
theorem Ae(i:Nat)(mk m:Mi Rr):iQ i mk m ρ=(match m ρ with|some (.ok r,ρ0)=>(if isL ρ0 i then (match mk ρ0 with|some (.ok rk,ρ1)=>ixK i r rk ρ1|some (.error e,ρ1)=>some (.ex e,ρ1)|none=>none) else none)|some (.error e,ρ1)=>some (.ex e,ρ1)|none=>none):=by
 unfold iQ bu
 cases m ρ with
 | none=>rfl
 | some p =>
  obtain⟨o,ρ1⟩:=p
  cases o with
  | error e=>rfl
  | ok x =>
   simp only
   split
   ·cases mk ρ1 with
    | none=>rfl
    | some p=>obtain⟨o,ρ2⟩:=p;cases o<;>rfl
   ·rfl
noncomputable def dK(i:Nat)(r rk:Rr)(ρ:List Sl):Option (Fl×List Sl):=match aQ r ρ with
 | some (a,ρ1)=>match res ρ1 rk,aC ρ1 i with
  | some ka,some (.dic kvs)=>match gH ka with
   | some y=>if kvs.length<=100000 then some (.nx,setAt ρ1 i (.dic (kE kvs y a))) else none
   | none=>none
  | _,_=>none
 | none=>none
theorem Gn(i:Nat)(mk m:Mi Rr):ed i mk m ρ=(match m ρ with|some (.ok r,ρ0)=>(if vL ρ0 i then (match mk ρ0 with|some (.ok rk,ρ1)=>dK i r rk ρ1|some (.error e,ρ1)=>some (.ex e,ρ1)|none=>none) else none)|some (.error e,ρ1)=>some (.ex e,ρ1)|none=>none):=by
 unfold ed bu
 cases m ρ with
 | none=>rfl
 | some p =>
  obtain⟨o,ρ1⟩:=p
  cases o with
  | error e=>rfl
  | ok x =>
   simp only
   split
   ·cases mk ρ1 with
    | none=>rfl
    | some p=>obtain⟨o,ρ2⟩:=p;cases o<;>rfl
   ·rfl
theorem FT:jg ρ=some (.ok (.nw (.dic [])),ρ):=rfl
noncomputable def Kg(d k x:Rr)(ρ:List Sl):Option (Except Str Rr×List Sl):=match res ρ d,res ρ k with
  | some (.dic kvs),some ka=>match gH ka with
   | some y=>match eP kvs y with
    | some a=>some (.ok (.fr a),ρ)
    | none=>match aQ x ρ with
     | some (a,ρ1)=>some (.ok (.fr a),ρ1)
     | none=>none
   | none=>none
  | _,_=>none
noncomputable def Ho:Option A->Bool
 | some (.dic _)=>true
 | _=>false
noncomputable def s1K(f:Str->A->Option Rr)(z:Str)(y:Rr)(ρ:List Sl):Option (Except Str Rr×List Sl):=match res ρ y with
  | some a=>match f z a with
   | some r=>some (.ok r,ρ)
   | none=>none
  | none=>none
theorem K5(f:Str->A->Option Rr)(mo m:Mi Rr):mS1 f mo m ρ=(match mo ρ with|some (.ok (.fr (.str z)),ρ0)=>(match m ρ0 with|some (.ok y,ρ1)=>s1K f z y ρ1|some (.error e,ρ1)=>some (.error e,ρ1)|none=>none)|some (.ok _,_)=>none|some (.error e,ρ1)=>some (.error e,ρ1)|none=>none):=by
 unfold mS1 ax
 cases mo ρ with
 | none=>rfl
 | some p =>
  obtain⟨o,ρ1⟩:=p
  cases o with
  | error e=>rfl
  | ok d =>
   cases d with
   | rf i=>rfl
   | nw o=>rfl
   | fr a =>
    cases a<;>first|rfl|skip
    simp only
    cases m ρ1 with
    | none=>rfl
    | some p=>obtain⟨o,ρ2⟩:=p;cases o<;>rfl
noncomputable def slK(x:Rr)(lo hi:Option Int)(ρ:List Sl):Option (Except Str Rr×List Sl):=match res ρ x with
 | some a=>match fSl a lo hi with
  | some r=>some (.ok r,ρ)
  | none=>none
 | none=>none
theorem Kz(m:Mi Rr)(ml mh:Mi (Option Int)):mSl m ml mh ρ=(match m ρ with|some (.ok x,ρ0)=>(match ml ρ0 with|some (.ok lo,ρ1)=>(match mh ρ1 with|some (.ok hi,ρ2)=>slK x lo hi ρ2|some (.error e,ρ2)=>some (.error e,ρ2)|none=>none)|some (.error e,ρ1)=>some (.error e,ρ1)|none=>none)|some (.error e,ρ1)=>some (.error e,ρ1)|none=>none):=by
 unfold mSl ax
 cases m ρ with
 | none=>rfl
 | some p =>
  obtain⟨o,ρ1⟩:=p
  cases o with
  | error e=>rfl
  | ok x =>
   simp only
   cases ml ρ1 with
   | none=>rfl
   | some p =>
    obtain⟨o,ρ2⟩:=p
    cases o with
    | error e=>rfl
    | ok y =>
     simp only
     cases mh ρ2 with
     | none=>rfl
     | some p=>obtain⟨o,ρ3⟩:=p;cases o<;>rfl
noncomputable def fzK(r:Rr)(ρ:List Sl):Option (Except Str Rr×List Sl):=match aQ r ρ with
 | some (a,ρ')=>some (.ok (.fr a),ρ')
 | none=>none
theorem Lg(m:Mi Rr):mFz m ρ=(match m ρ with|some (.ok x,ρ1)=>fzK x ρ1|some (.error e,ρ1)=>some (.error e,ρ1)|none=>none):=by
 unfold mFz ax
 cases m ρ with
 | none=>rfl
 | some p =>
  obtain⟨o,ρ1⟩:=p
  cases o with
  | error e=>rfl
  | ok x=>rfl
theorem yz:fC ρ=some (.ok none,ρ):=rfl
noncomputable def BX(r:Rr)(ρ:List Sl):Option (Except Str (Option Int)×List Sl):=match res ρ r with
 | some (.int i)=>some (.ok (some i),ρ)
 | _=>none
theorem Gy(m:Mi Rr):fG m ρ=(match m ρ with|some (.ok x,ρ1)=>BX x ρ1|some (.error e,ρ1)=>some (.error e,ρ1)|none=>none):=by
 unfold fG ax
 cases m ρ with
 | none=>rfl
 | some p =>
  obtain⟨o,ρ1⟩:=p
  cases o with
  | error e=>rfl
  | ok x=>rfl
end
end M
namespace M
open PySem L2 W
section
variable{α β:Type}{ρ:List Sl}
noncomputable def GI(x y:Rr)(ρ:List Sl):Option (Except Str (List A)×List Sl):=match dP [x,y] ρ with
 | some ([.tup as,.tup bs],ρ')=>some (.ok (HS as bs),ρ')
 | _=>none
theorem IH(ma mb:Mi Rr):IF ma mb ρ=(match ma ρ with|some (.ok x,ρ1)=>(match mb ρ1 with|some (.ok y,ρ2)=>GI x y ρ2|some (.error e,ρ2)=>some (.error e,ρ2)|none=>none)|some (.error e,ρ1)=>some (.error e,ρ1)|none=>none):=by
 unfold IF ax GI
 cases ma ρ with
 | none=>rfl
 | some p =>
  obtain⟨o,ρ1⟩:=p
  cases o with
  | error e=>rfl
  | ok x =>
   simp only
   cases mb ρ1 with
   | none=>rfl
   | some p=>obtain⟨o,ρ2⟩:=p;cases o<;>rfl
noncomputable def xr(k:Str)(r:Rr)(ρ:List Sl):Option (Except Str Rr×List Sl):=match aQ r ρ with
 | some (a,ρ')=>some (.ok (.nw (.dic [(.inr k,a)])),ρ')
 | none=>none
theorem zj(k:Str)(m:Mi Rr):i7 k m ρ=(match m ρ with|some (.ok x,ρ1)=>xr k x ρ1|some (.error e,ρ1)=>some (.error e,ρ1)|none=>none):=by
 unfold i7 ax
 cases m ρ with
 | none=>rfl
 | some p=>obtain⟨o,ρ1⟩:=p;cases o<;>rfl
noncomputable def CH(i:Nat)(r:Rr)(ρ:List Sl):Option (Except Str Rr×List Sl):=match res ρ r,aC ρ i with
 | some ka,some (.dic kvs)=>match gH ka with
  | some y=>match eP kvs y with
   | some a=>some (.ok (.fr a),setAt ρ i (.dic (kvs.filter λkv=>decide (kv.1≠y))))
   | none=>none
  | none=>none
 | _,_=>none
theorem Du(i:Nat)(m:Mi Rr):kO i m ρ=(if AG ρ i=true then (match m ρ with|some (.ok x,ρ1)=>CH i x ρ1|some (.error e,ρ1)=>some (.error e,ρ1)|none=>none) else none):=by
 unfold kO ax
 split
 ·cases m ρ with
  | none=>rfl
  | some p=>obtain⟨o,ρ1⟩:=p;cases o<;>rfl
 ·rfl
end
end M
namespace M
open PySem L2 W
section
variable {ρ:List Sl}
noncomputable def B2 (cs:List Str) (i:Nat) (f:Str) (r:Rr) (ρ:List Sl):Option (Fl × List Sl):=match aQ r ρ with
 | some (a,ρ1)=>match aC ρ1 i with
  | some (.obj c fs)=>if cs.contains c && O1 fs.length 900 then some (.nx,setAt ρ1 i (.obj c (lI f a fs))) else none
  | _=>none
 | none=>none
theorem qM (cs:List Str) (i:Nat) (f:Str) (m:Mi Rr):dW cs i f m ρ = (match m ρ with | some (.ok x,ρ1)=>B2 cs i f x ρ1 | some (.error e,ρ1)=>some (.ex e,ρ1) | none=>none):=by
 unfold dW bu
 cases m ρ with
 | none=>rfl
 | some p=>obtain ⟨o,ρ1⟩:=p; cases o <;> rfl
noncomputable def fF (cn:Str) (f:Ms) (das:List A) (rs:List Rr) (ρ:List Sl):Option (Except Str Rr × List Sl):=match cu (rs ++ das.map Rr.fr) ρ with
 | some (as,ρt)=>match f (.pv (.obj cn []) :: as.map toP) with
  | some (.rt (.fr .non),.pv (.obj c2 fs) :: ρr)=>match putL ρ (rs ++ das.map Rr.fr) (aT as.length ρr) ρt with
   | some ρ'=>some (.ok (.nw (.obj c2 fs)),ρ')
   | none=>none
  | some (.ex x,s :: ρr)=>match putL ρ (rs ++ das.map Rr.fr) (aT as.length ρr) ρt with
   | some ρ'=>some (.error x,ρ')
   | none=>none
  | _=>none
 | none=>none
theorem EJ (cn:Str) (f:Ms) (das:List A) (m:Mi (List Rr)):dU cn f das m ρ = (match m ρ with | some (.ok x,ρ1)=>fF cn f das x ρ1 | some (.error e,ρ1)=>some (.error e,ρ1) | none=>none):=by
 unfold dU ax
 cases m ρ with
 | none=>rfl
 | some p=>obtain ⟨o,ρ1⟩:=p; cases o <;> rfl
noncomputable def gO (cn mn:Str) (r:Rr) (ρ:List Sl):Option (Except Str Rr × List Sl):=match res ρ r with
 | some (.obj c fs)=>if c == cn && (fs.lookup mn).isNone then some (.ok r,ρ) else none
 | _=>none
theorem El (cn mn:Str) (m:Mi Rr):bc cn mn m ρ = (match m ρ with | some (.ok x,ρ1)=>gO cn mn x ρ1 | some (.error e,ρ1)=>some (.error e,ρ1) | none=>none):=by
 unfold bc ax
 cases m ρ with
 | none=>rfl
 | some p=>obtain ⟨o,ρ1⟩:=p; cases o <;> rfl
theorem He (i:Nat):lH i ρ = (match aC ρ i with
 | some (.lst xs)=>(match xs[xs.length - 1]? with
  | some a=>some (.ok (.fr a),setAt ρ i (.lst xs.dropLast))
  | none=>none)
 | _=>none):=by
 unfold lH
 cases aC ρ i with
 | none=>rfl
 | some o=>cases o<;>rfl
theorem zD(i:Nat):kA i ρ=(match aC ρ i with
 | some (.lst _)=>some (.ok (.fr .non),setAt ρ i (.lst []))
 | _=>none):=by
 unfold kA
 cases aC ρ i with
 | none=>rfl
 | some o=>cases o<;>rfl
noncomputable def Im(q:Int->Int->Bool)(j:Int)(z:Rr)(ρ:List Sl):Option (Except Str Rr×List Sl):=match res ρ z with
 | some (.int k)=>some (.ok (.fr (.bl (q j k))),ρ)
 | _=>none
noncomputable def chK(p q:Int->Int->Bool)(mc:Mi Rr)(x y:Rr)(ρ:List Sl):Option (Except Str Rr×List Sl):=match res ρ x,res ρ y with
 | some (.int i),some (.int j)=>match p i j with
  | true=>(match mc ρ with|some (.ok z,ρ1)=>Im q j z ρ1|some (.error e,ρ1)=>some (.error e,ρ1)|none=>none)
  | false=>some (.ok (.fr (.bl false)),ρ)
 | _,_=>none
theorem zK(p q:Int->Int->Bool)(ma mb mc:Mi Rr):dZ p q ma mb mc ρ=(match ma ρ with|some (.ok x,ρ1)=>(match mb ρ1 with|some (.ok y,ρ2)=>chK p q mc x y ρ2|some (.error e,ρ2)=>some (.error e,ρ2)|none=>none)|some (.error e,ρ1)=>some (.error e,ρ1)|none=>none):=by
  unfold dZ ax
  cases ma ρ with
  | none=>rfl
  | some pr =>
    obtain⟨o,ρ1⟩:=pr
    cases o with
    | error e=>rfl
    | ok x =>
      simp only
      cases mb ρ1 with
      | none=>rfl
      | some pr =>
        obtain⟨o,ρ2⟩:=pr
        cases o with
        | error e=>rfl
        | ok y =>
          simp only[chK]
          cases res ρ2 x with
          | none=>rfl
          | some a =>
            cases a<;>first
              | (cases res ρ2 y with
                 | none=>rfl
                 | some b=>cases b<;>rfl)
              | (rename_i i
                 cases res ρ2 y with
                 | none=>rfl
                 | some b =>
                   cases b<;>first
                     | rfl
                     | (rename_i j
                        simp only
                        cases p i j with
                        | false=>rfl
                        | true =>
                          simp only
                          cases mc ρ2 with
                          | none=>rfl
                          | some pr=>obtain⟨o,ρ3⟩:=pr;cases o<;>rfl))
theorem Bw(a b:A):rE a b=(opI λi j=>some (.fr (.int (i+j)))) a b:=rfl
theorem C7(a b:A):gJ a b=(opI λi j=>some (.fr (.int (i-j)))) a b:=rfl
theorem zC(a b:A):wq a b=(opI λi j=>if fits 20000 i&&fits 20000 j then some (.fr (.int (i*j))) else none) a b:=rfl
theorem Fi(a b:A):lF a b=(opI λi j=>if j != 0&&fits 9000 j then some (.fr (.int (i.fdiv j))) else none) a b:=rfl
theorem Dy(a b:A):gL a b=(opI λi j=>if j != 0 then some (.fr (.int (i.fmod j))) else none) a b:=rfl
theorem DC(a b:A):jA a b=(opI λi j=>if 0<=j/\j<=1000000/\i.natAbs<2^64 then some (.fr (.int (i^j.toNat))) else none) a b:=rfl
theorem GS(a b:A):fLt a b=(opI λi j=>some (.fr (.bl (decide (i<j))))) a b:=rfl
theorem G7(a b:A):fLe a b=(opI λi j=>some (.fr (.bl (decide (i<=j))))) a b:=rfl
theorem J7(a b:A):fGt a b=(opI λi j=>some (.fr (.bl (decide (j<i))))) a b:=rfl
theorem HR(a b:A):fGe a b=(opI λi j=>some (.fr (.bl (decide (j<=i))))) a b:=rfl
theorem Az(a b:A):rR a b=(opS λx y=>if x.length+y.length<=100000 then some (.fr (.str (x++y))) else none) a b:=rfl
theorem ED(a b:A):uL a b=(opI λi j=>some (.fr (.int (if j > i then j else i)))) a b:=rfl
theorem Fh(a b:A):uo a b=(opI λi j=>some (.fr (.int (if j<i then j else i)))) a b:=rfl
end
end M
namespace M
open PySem L2 W
noncomputable def np:Sl->Bool
 | .pv _=>false
 | _=>true
theorem JO:np .un=true:=rfl
theorem IA(a:A):np (.fr a)=true:=rfl
theorem HL(o:LO):np (.lv o)=true:=rfl
theorem Hf(i:Nat)(s:Sl)(ρ:List Sl):put i s ρ=(match ρ[i]? with|some t=>if np t=true then some (ρ.set i s) else none|none=>none):=by
 unfold put
 cases ρ[i]? with
 | none=>rfl
 | some t=>cases t<;>rfl
def Wp(m:Ms)(ρ:List Sl)(Q:Fl->List Sl->Prop):Prop:=∃f ρ',m ρ=some (f,ρ')/\Q f ρ'
section
variable{m n b:Ms}{ρ ρ1:List Sl}{Q:Fl->List Sl->Prop}
theorem Wp.st(h:m ρ=some (.nx,ρ1))(k:Wp n ρ1 Q):Wp (av m n) ρ Q:=by
 obtain⟨f,ρ',e,q⟩:=k
 exact⟨f,ρ',by rw[bF,h];exact e,q⟩
theorem Wp.sq(k:Wp m ρ λf ρ1=>f=.nx/\Wp n ρ1 Q):Wp (av m n) ρ Q:=by
 obtain⟨f,ρ1,e,rfl,f2,ρ2,e2,q⟩:=k
 exact⟨f2,ρ2,by rw[bF,e];exact e2,q⟩
theorem Wp.en{f:Fl}(h:m ρ=some (f,ρ1))(q:Q f ρ1):Wp m ρ Q:=⟨_,_,h,q⟩
theorem Wp.mono{Q':Fl->List Sl->Prop}(k:Wp m ρ Q)(h:∀f ρ1,Q f ρ1->Q' f ρ1):Wp m ρ Q':=by
 obtain⟨f,ρ1,e,q⟩:=k
 exact⟨f,ρ1,e,h f ρ1 q⟩
theorem Wp.ft{t:Mi Bool}(h:t ρ=some (.ok true,ρ1))(k:Wp m ρ1 Q):Wp (sIf t m n) ρ Q:=by
 obtain⟨f,ρ',e,q⟩:=k
 exact⟨f,ρ',by rw[lU,h];exact e,q⟩
theorem Wp.ff{t:Mi Bool}(h:t ρ=some (.ok false,ρ1))(k:Wp n ρ1 Q):Wp (sIf t m n) ρ Q:=by
 obtain⟨f,ρ',e,q⟩:=k
 exact⟨f,ρ',by rw[lU,h];exact e,q⟩
theorem Wp.fr{mi:Mi (List A)}{G:Mg}{as:List A}(P:Nat->List Sl->Prop)(h:mi ρ=some (.ok as,ρ1))(h0:P 0 ρ1)(hs:∀i a ρ,as[i]?=some a->P i ρ->∃ρ1,G a ρ=some ρ1/\Wp b ρ1 λf ρ2=>(f=.nx\/f=.ct)/\P (i+1) ρ2)(hq:∀ρ',P as.length ρ'->Q .nx ρ'):Wp (c8 mi G b) ρ Q:=by
 obtain⟨ρ',h1,h2⟩:=fP (G:=G) (b:=b) (as:=as) P h0 (λi a ρ ha p=>by
  obtain⟨ρ1,g,f,ρ2,e,hf,p'⟩:=hs i a ρ ha p
  refine⟨ρ1,ρ2,g,?_,p'⟩
  rcases hf with rfl|rfl
  ·exact .inl e
  ·exact .inr e)
 exact⟨_,ρ',by rw[mJ,h];exact h1,hq ρ' h2⟩
theorem Wp.df{loc:Nat}(k:Wp m (ρ++L7 loc .un) λf ρ'=>match f with | .nx=>Q (.rt (.fr .non)) ρ' | .rt s=>Q (.rt s) ρ' | .ex x=>Q (.ex x) ρ'|_=>False):Wp (aX loc m) ρ Q:=by
 obtain⟨f,ρ',e,q⟩:=k
 unfold Wp
 rw[mK,e]
 cases f with
 | nx=>exact⟨_,_,rfl,q⟩
 | rt s=>exact⟨_,_,rfl,q⟩
 | ex x=>exact⟨_,_,rfl,q⟩
 | bk=>exact q.elim
 | ct=>exact q.elim
theorem Val.of{f:Ms}{as:List A}{a:A}(k:Wp f (as.map Sl.fr) λg _=>g=.rt (.fr a)):Val f as a:=by
 obtain⟨g,ρ',e,rfl⟩:=k
 exact⟨ρ',e⟩
theorem gG.of{f:Ms}{as:List A}{o:LO}(k:Wp f (as.map Sl.fr) λg _=>g=.rt (.lv o)):gG f as o:=by
 obtain⟨g,ρ',e,rfl⟩:=k
 exact⟨ρ',e⟩
theorem cg.of{f:Ms}{as:List A}{o:LO}{R:Sl->LO->Prop}(k:Wp f (.pv o::as.map Sl.fr) λg ρ=>∃s o' ρ1,g=.rt s/\ρ=.pv o'::ρ1/\R s o'):∃s o',cg f o as s o'/\R s o':=by
 obtain⟨g,ρ',e,s,o',ρ1,rfl,rfl,r⟩:=k
 exact⟨s,o',⟨ρ1,e⟩,r⟩
end
def Dt(n:Nat)(a:A):Prop:=∃d,toD a=some d/\D.depth d<=n
theorem Dt.bl{n:Nat}(b:Bool):Dt n (.bl b):=⟨.bl b,by rw[toD],by simp[D.depth]⟩
theorem wj{a:A}(h:Dt 40 a):eqA a a=some true:=by
 obtain⟨d,h1,h2⟩:=h
 unfold eqA
 simp only[h1]
 rw[if_pos h2,D.gB]
theorem rz(n:Nat):(bP 0 n).length=n:=by simp[bP]
theorem DM{n i:Nat}{a:A}(h:(bP 0 n)[i]?=some a):i<n/\a=.int i:=by
 have hi:=(LI.mp h).1
 rw[rz] at hi
 unfold bP at h
 rw[LZ,NW hi] at h
 simp at h
 exact⟨hi,h.symm⟩
end M
namespace M
open PySem L2
section
variable{ρ:List Sl}
theorem GV(m n:Mi Rr):i6 m n ρ=(match m ρ with|some x=>some x|none=>n ρ):=rfl
noncomputable def Iq(i:Nat)(r:Rr)(ρ:List Sl):Option (Except Str Rr×List Sl):=match aQ r ρ with
 | some (.lst zs,ρ1)=>match aC ρ1 i with
  | some (.lst xs)=>if xs.length+zs.length<=100000 then some (.ok (.fr .non),setAt ρ1 i (.lst (xs++zs))) else none
  | _=>none
 | _=>none
theorem Ha(i:Nat)(m:Mi Rr):eR i (eY i m) ρ=(if isL ρ i then (match m ρ with|some (.ok x,ρ1)=>Iq i x ρ1|some (.error e,ρ1)=>some (.error e,ρ1)|none=>none) else none):=by
 unfold eR eY ax
 split
 ·cases m ρ with
  | none=>rfl
  | some p =>
   obtain⟨o,ρ1⟩:=p
   cases o with
   | error e=>rfl
   | ok x=>rfl
 ·rfl
noncomputable def K6(x:Rr)(ρ:List Sl):Option (Except Str Rr×List Sl):=match x with
 | .nw (.lst _)=>some (.ok (.fr .non),ρ)
 | _=>none
noncomputable def Kl(xs:List A)(r:Rr)(ρ:List Sl):Option (Except Str Rr×List Sl):=match aQ r ρ with
 | some (_,ρ1)=>if xs.length<=100000 then some (.ok (.fr .non),ρ1) else none
 | none=>none
noncomputable def K0(m:Mi Rr)(x:Rr)(ρ0:List Sl):Option (Except Str Rr×List Sl):=match x with
 | .nw (.lst xs)=>match m ρ0 with
  | some (.ok r,ρ)=>Kl xs r ρ
  | some (.error e,ρ)=>some (.error e,ρ)
  | none=>none
 | _=>none
end
end M
namespace W
open PySem L2
noncomputable def gz(h:Heap):LD:=(Mo h.objs.size).filterMap λa=>(h.get? a).map λo=>(a,o)
theorem mR{o:Obj}{a:Addr}:∀{K:LD},K.lookup a=some o->(a,o)∈K
 | (b,u)::K,e=>by
  rw[Mq] at e
  split at e
  ·rename_i q;cases e;rw[beq_iff_eq.mp q];exact LW
  ·exact LX _ (mR e)
theorem j1(h:Heap):(gz h).In h:=λa o e=>by
 have m:=mR e
 unfold gz at m
 obtain⟨b,_,hb⟩:=N5.mp m
 cases e2:h.get? b with
 | none=>rw[e2] at hb;cases hb
 | some o'=>rw[e2] at hb;cases hb;exact e2
noncomputable def JQ(K:LD)(n:Str):Option (Str×Str×Arguments×FuncBody×Scope×Addr×List (Str×Addr)×Value×Addr×Bool) :=
 match P9 K mainGlobals n with
 | some (some (.ref f))=>(match K.lookup f with
  | some ⟨_,_,.func d,_⟩=>some (d.name,d.qualname,d.params,d.body,d.scope,d.globals,d.closure,d.defaults,d.builtins,OG K d.code n&&M0 K (.ref f))
  | _=>none)
 | _=>none
noncomputable def GQ(n:Str)(st:Stmt):Option (Str×Str×Arguments×FuncBody×Scope×Addr×List (Str×Addr)×Value×Addr×Bool):=some (n,n,cM st,.stmts (bZ st),aJ st,mainGlobals,[],.none,builtinsNs,true)
noncomputable def K3(K:LD)(a:Addr)(i j:Int):Bool:=match K.lookup a with
 | some ⟨.type "tuple",none,.seq its _,_⟩=>(match its.toList with
  | [.int x _,.int y _]=>x==i&&y==j
  | _=>false)
 | _=>false
noncomputable def hkO(ds:List (Str×Stmt))(chk:LD->Bool)(K:LD):=(ds.map λx=>JQ K x.1,chk K)
noncomputable def hkV(ds:List (Str×Stmt)):List (Option (Str×Str×Arguments×FuncBody×Scope×Addr×List (Str×Addr)×Value×Addr×Bool))×Bool:=(ds.map λx=>GQ x.1 x.2,true)
noncomputable def hk(ds:List (Str×Stmt))(chk:LD->Bool):Rl where
 α:=List (Option (Str×Str×Arguments×FuncBody×Scope×Addr×List (Str×Addr)×Value×Addr×Bool))×Bool
 obs:=λs=>hkO ds chk (gz s.heap)
 val:=λ_=>hkV ds
 says:=λ_ h=>∃K:LD,hkO ds chk K=hkV ds/\K.In h
 of:=λ_ s e=>⟨gz s.heap,e,j1 _⟩
 keeps:=λ_ _ _ ⟨K,e,i⟩ k=>⟨K,e,i.keeps k⟩
noncomputable def HK(p:Program):List Stmt:=p.main.body.filter λs=>match s with | .FunctionDef n ..=>n==("law" : Str)|_=>false
noncomputable def H9:Stmt->List Str
 | .FunctionDef n ..=>[n]
 | .ClassDef n ..=>[n]
 | .Assign [.Name n _] _ _=>[n]
 | _=>[]
noncomputable def qOf(p:Program):Program:={ p with main:={ p.main with body:=HK p } }
noncomputable def zw(p:Program):List Str:=(p.main.body.flatMap H9).filter λn=>n != ("law" : Str)
end W
namespace W
open PySem PySem.W PyProof.Rows
noncomputable abbrev CG:=Sg
noncomputable abbrev qV:=Sh
noncomputable abbrev Jp:=Si
noncomputable abbrev yw:=Sj
noncomputable abbrev Cw:=Sk
noncomputable abbrev Cc:=Sm
noncomputable abbrev xO:=Sn
theorem vA:denote=CG:=So
theorem lV:treeTable=qV:=Sr
theorem AO:stepOk=Jp:=Ss
theorem uN:stepT=yw:=Su
theorem vE:importEnds=Cw:=Sv
theorem yE:fenceModules?=Cc:=Sw
theorem tX:openSeen=xO:=Sx
noncomputable def xA(p:Program)(w:World)(n₀:Nat)(ann:Option Value):Nat->SharedT->Thread->Option SharedT
 | 0,_,_=>none
 | m+1,s,t=>match through t with
  | true=>some s
  | false=>match Jp n₀ ann t with
   | false=>none
   | true=>match yw (CG qV) p w s t with
    | some (s',t')=>xA p w n₀ ann m s' t'
    | none=>none
theorem tD{p:Program}{w:World}{n₀:Nat}{ann:Option Value}:∀{m:Nat}{s s2:SharedT}{t:Thread},xA p w n₀ ann m s t=some s2->topRun treeTable p w n₀ ann m s.abs t=some s2.abs
 | 0,_,_,_,e=>by cases e
 | m+1,s,s2,t,e=>by
  unfold xA at e
  rw[<- AO,<- uN,<- vA,<- lV] at e
  unfold topRun
  cases et:through t with
  | true=>rw[et] at e;cases e;rfl
  | false =>
   rw[et] at e
   simp only at e ⊢
   cases eo:stepOk n₀ ann t with
   | false=>rw[eo] at e;cases e
   | true =>
    rw[eo] at e
    simp only at e ⊢
    cases es:stepT (denote treeTable) p w s t with
    | none=>rw[es] at e;cases e
    | some q =>
     obtain⟨s3,t3⟩:=q
     rw[es] at e
     rw[stepT_spec es]
     exact tD e
noncomputable def tOf:List Obj->Nat->BT->Option BT
 | [],_,t=>some t
 | o::os,n,t=>match ((t.ins n o).get n).isSome with
  | true=>tOf os (n+1) (t.ins n o)
  | false=>none
theorem wW(l:Life):∀{os:List Obj}{n:Nat}{t t':BT},tOf os n t=some t'->absHeap t' (n+os.length) l=⟨(absHeap t n l).objs++os.toArray,l⟩
 | [],n,t,t',e=>by
  cases e
  show absHeap t n l=⟨(absHeap t n l).objs++#[],l⟩
  rw[Array.append_empty]
  rfl
 | o::os,n,t,t',e=>by
  unfold tOf at e
  cases eg:((t.ins n o).get n).isSome with
  | false=>rw[eg] at e;cases e
  | true =>
   rw[eg] at e
   have i:=wW l e
   rw[absHeap_ins eg] at i
   have e2:n+1+os.length=n+(o::os).length:=by rw[LL];omega
   rw[<- e2,i]
   show Heap.mk (((absHeap t n l).objs.push o)++os.toArray) l=_
   simp
theorem uW{h:Heap}{t:BT}(e:tOf h.objs.toList 0 .nil=some t):absHeap t h.objs.size h.life=h:=by
 have i:=wW h.life e
 rw[Pw,ML] at i
 rw[i]
 obtain⟨objs,l⟩:=h
 show Heap.mk (#[]++objs.toList.toArray) l=_
 simp
noncomputable def Ds(p:Program)(w:World)(N:Nat)(s₀:Shared):Option Shared:=match s₀.heap.isNs mainGlobals&&s₀.gens.size==0 with
 | true=>match tOf s₀.heap.objs.toList 0 .nil with
  | some t=>(xA p w s₀.heap.objs.size (s₀.heap.nsMap mainGlobals "__annotations__") N ⟨t,s₀.heap.objs.size,s₀.heap.life,s₀.gens,s₀.drawn,s₀.toks,s₀.os⟩ (topStub p)).bind λq=>match staticsOk (importedModules p.main.body) s₀.heap q.abs.heap&&namesBound p q.abs.heap&&gensDone q.abs&&laidKept s₀.heap q.abs.heap with
   | true=>some q.abs
   | false=>none
  | none=>none
 | false=>none
theorem z5{p:Program}{w:World}{N:Nat}{s₀ s:Shared}(e:Ds p w N s₀=some s):topFrom treeTable p w N s₀=some s:=by
 unfold Ds at e
 unfold topFrom
 cases e1:s₀.heap.isNs mainGlobals&&s₀.gens.size==0 with
 | false=>rw[e1] at e;cases e
 | true =>
  rw[e1] at e
  simp only at e ⊢
  cases e2:tOf s₀.heap.objs.toList 0 .nil with
  | none=>rw[e2] at e;cases e
  | some t =>
   rw[e2] at e
   simp only at e
   cases e3:xA p w s₀.heap.objs.size (s₀.heap.nsMap mainGlobals "__annotations__") N ⟨t,s₀.heap.objs.size,s₀.heap.life,s₀.gens,s₀.drawn,s₀.toks,s₀.os⟩ (topStub p) with
   | none=>rw[e3] at e;cases e
   | some q =>
    rw[e3] at e
    have k:=tD e3
    have k0:Rv ⟨t,s₀.heap.objs.size,s₀.heap.life,s₀.gens,s₀.drawn,s₀.toks,s₀.os⟩=s₀:=by
     unfold Rv
     rw[uW e2]
    rw[k0] at k
    rw[k]
    exact e
noncomputable def sW(p:Program)(w:World)(N:Nat):Option Shared:=((Cw qV (opening p) w N (start (opening p)).1 (start (opening p)).2).bind (Cc p)).bind (Ds p w N)
theorem wI{p:Program}{w:World}{N:Nat}{s:Shared}(e:sW p w N=some s):openEnds treeTable p w N=some s:=by
 unfold sW at e
 unfold openEnds fencedOpening
 rw[<- vE,<- lV,<- yE] at e
 cases e1:(importEnds treeTable (opening p) w N (start (opening p)).1 (start (opening p)).2).bind (fenceModules? p) with
 | none=>rw[e1] at e;cases e
 | some s0=>rw[e1] at e;exact z5 e
theorem vj{p q:Program}{loose:List Str}{Xt:Shared->Bool}{α:Type}{Yf:Shared->α}{Ya:World->α}{N:Nat}
  (h:∀w,Option.map (λs=>(xO q loose (importedModules p.main.body) Xt true s,Yf s)) (sW p w N)=some (openGood q loose,Ya w)):LeftO p q loose Xt Yf Ya N:=λw=>by
 have h:=h w
 rw[<- tX] at h
 cases e:sW p w N with
 | none=>rw[e] at h;cases h
 | some s=>rw[e] at h;rw[wI e];exact h
end W
namespace L2
open PySem PySem.Spec PyProof.Rows
section
variable{P:Program}{w:World}{K:LD}{mg:Str->Option Value}{base:Heap}{dV:Value}
theorem nJ.okX{CX:CXT}{x qual:Str}{st:Stmt}{f:Addr}{fd:FuncData}{N ps:List Str}{k:Nat}{sp:Sp}(F:nJ K x qual st f fd dV)(S:iH N ps (aJ st))(len:∀vs H Q E,sp vs H Q E->vs.length=ps.length)
  (hbody:∀(cdv:Value)(A:Around)(outer:List Env)(s:Shared)(H:Hp)(vs:List V)(Q:VK)(E:XK),cj k (A.deeper (envOfC qual (aJ st) s.heap.objs.size f cdv))->sp vs H Q E ->
   ∃t,PSs (qQ CX P w K mg base N qual (aJ st) f cdv A outer s H E) (bZ st) t/\t { nx:=λ_ H'=>Q .non H',rt:=Q } (start N vs) H):cV P w K mg base CX (k+1) f fd ps sp:=by
 obtain⟨oc,od,kV,doc,pm,an,cdv,ct,osl,rfl,lk,hcd⟩:=F.ex
 exact Ip lk hcd S len λA outer s H vs Q E hr hsp=>hbody cdv A outer s H vs Q E hr hsp
end
end L2
namespace M
open PySem L2
section
variable{X:Cx}{E:XK}
theorem AQ{CX:CXT}{P:Program}{w:World}{K:LD}{mg:Str->Option Value}{base:Heap}{dV:Value}{x qual:Str}{st:Stmt}{f:Addr}{fd:FuncData}{N ps:List Str}{k:Nat}{m:Ms}(F:nJ K x qual st f fd dV)(S:iH N ps (aJ st))
  (hb:∀(cdv:Value)(A:Around)(outer:List Env)(s:Shared)(H:Hp)(E:XK),cj k (A.deeper (Sy qual (aJ st) s.heap.objs.size f cdv)) ->
   JSs (qQ CX P w K mg base N qual (aJ st) f cdv A outer s H E) E (bZ st) m):cV P w K mg base CX (k+1) f fd ps (SpM ⟨K,mg⟩ ps.length (aX (N.length-ps.length) m)) :=
 F.okX S (λvs H Q E h=>h.1) λcdv A outer s H vs Q E hr h=>by
  obtain⟨hn,c,ρ,f,ρ',ek,e0,e1,b,em,q⟩:=h
  refine⟨_,(hb cdv A outer s H E hr).p,?_⟩
  have bs:=b.start N e0
  rw[hn] at bs
  unfold aX at em
  cases e:m (ρ++L7 (N.length-ps.length) .un) with
  | none=>simp only[e] at em;cases em
  | some p =>
   obtain⟨f1,ρ1⟩:=p
   simp only[e] at em
   refine⟨c,_,[],[],f1,ρ1,ek,bs,e,?_⟩
   have bk:∀{σ':St}{H':Hp}{τ':St}{θ':List Sl},Bd c σ' H' ρ1 τ' θ'->Bd c (vs.map some) H' (aT vs.length ρ1) τ' θ':=λb'=>by
    have:=b'.back
    rw[e0,LH] at this
    exact this
   cases f1 with
   | nx =>
    cases em
    exact λσ' H' b'=>q .non H' (λo z=>by cases z) ((bk b').push λ_=>.non)
   | rt s=>cases em;exact λv σ' H' hs b'=>q v H' hs (bk b')
   | ex x=>cases em;exact λC σ' H' hm b'=>q C H' hm (bk b')
   | bk=>cases em
   | ct=>cases em
noncomputable def CX0:CXT:=λ_ _ _ _ _ _=>False
noncomputable def fO:Ms:=λ_=>none
theorem A3{s:Stmt}:JS X E s fO:=⟨λpins s σ H D I h=>by
 obtain⟨c,ρ,τ,θ,f,ρ',ek,b,em,q⟩:=h
 cases em⟩
end
end M
namespace W
open PySem L2
theorem uu{CX:CXT}{l:QQ}{n k:Nat}{q:Program}{loose:List Str}{XP:(Str->Option Value)->Heap->Prop}{YP:World->Heap->Prop}{d:DefRec}{x:Str}{sp:LD->Sp}
  (hn:l.most=some n)(hn2:n<=sizeLine)(hdf:d.params.defaults=[])(hr:cj k callerA)
  (F:∀(w:World)(mg:Str->Option Value)(fa:Addr)(h:Heap),YP w h->h.Ns mainGlobals mg->mg d.name=some (.ref fa) ->
   ∃K:LD,K.In h/\∃fd:FuncData,(∀(s:Shared)(u:Value),BindsTo s fd ⟨[u],[]⟩ [(x,u)])/\∀base:Heap,K.In base->base.Ns mainGlobals mg->cV l.prog w K mg base CX k fa fd [x] (sp K))
  (hx:∀l H s e s',CX l H s (λ_ _ _=>False) e s'->False) (hsp:∀(K:LD)(H:Hp)(a:Addr)(ns:List Int),ns.length<=n->CU H->SqL K H a (ns.map V.int)->sp K [.ref a] H (λv _=>v=.bl true) λ_ _ _=>False) :
  Rb q loose XP YP l.row.toRowW d [] (λf vs=>QH f vs):=by
 refine Att.pR hn hdf λw s₀ s₁ mg mb fa o pm cd doc a vs ns G Y ho hd hcd hmg hobj hints hlen hg=>?_
 obtain⟨K,KX,fd,hb,hF⟩:=F w mg fa _ Y G.T.g hmg
 exact vm KX G.T.g G.T.b G.T.builtins G.T.nolimit hg hobj hints (Mf hlen hn2) hr hF hb (λH hO hS=>hsp K H a ns hlen hO hS) λH e s' z=>hx _ _ _ _ _ z
end W
namespace M
open PySem L2
structure FI where
 n:Nat
 m:Ms
 mu:List Bool
 df:List A
structure Tb where
 fns:List (Str×FI)
 cst:List (Str×A)
 exs:List Str
 kit:List (Str×List (Str×Bool))
 exm:List (Str×List Str)
 fld:List (Str×List Str)
 ini:List (Str×FI)
 mts:List (Str×Str×FI)
structure Sc where
 N:List Str
 nm:List (Str×NameKind)
 di:List Str
 ca:List Str
 hd:Bool
 lv:List Str
noncomputable def aq{α β:Type}(x:Option α)(f:α->Option β):Option β:=match x with
 | some a=>f a
 | none=>none
noncomputable def grd{α:Type}(b:Bool)(x:Option α):Option α:=match b with
 | true=>x
 | false=>none
theorem ab{α β:Type}{x:Option α}{f:α->Option β}{y:β}(h:aq x f=some y):∃a,x=some a/\f a=some y:=by
 cases x with
 | none=>cases h
 | some a=>exact⟨a,rfl,h⟩
theorem au{α:Type}{b:Bool}{x:Option α}{y:α}(h:grd b x=some y):b=true/\x=some y:=by
 cases b with
 | false=>cases h
 | true=>exact⟨rfl,h⟩
noncomputable def isK(s:Sc)(x:Str)(k:NameKind):Bool:=s.nm.lookup x==some k
noncomputable def zu(s:Sc)(x:Str):Bool:=isK s x .local || isK s x .cell || isK s x .free
noncomputable def p9(s:Sc)(x:Str):Bool:=isK s x .local || isK s x .cell
noncomputable def okN(x:Str):Bool:=!(x==("__debug__" : Str))&&!(x==("__classdict__" : Str))
noncomputable def glB(s:Sc)(x:Str):Bool:=isK s x .globalImplicit&&okN x
noncomputable def ixN(x:Str):List Str->Nat->Option Nat
 | [],_=>none
 | y::ys,i=>if x==y then some i else ixN x ys (i+1)
theorem kS{x:Str}:∀{N:List Str}{k i:Nat},ixN x N k=some i->∃j,i=k+j/\N[j]?=some x
 | [],_,_,h=>by cases h
 | y::ys,k,i,h=>by
  unfold ixN at h
  split at h
  ·rename_i e;cases h;exact⟨0,rfl,by rw[beq_iff_eq.mp e];rfl⟩
  ·obtain⟨j,e1,e2⟩:=kS h;exact⟨j+1,by omega,by simpa using e2⟩
noncomputable def slot(s:Sc)(x:Str):Option Nat:=grd (zu s x&&okN x) (ixN x s.N 0)
noncomputable def gT(s:Sc)(x:Str):Option Nat:=grd (p9 s x&&okN x) (ixN x s.N 0)
noncomputable def Ab:List Str:=["len", "isinstance", "abs", "max", "min", "int", "bool", "str", "tuple", "list", "dict", "range", "ValueError", "sorted", "all", "zip", "set", "sum", "enumerate", "any", "reversed"]
def j2(K:LD)(mg:Str->Option Value)(fd:FuncData)(ps:List Str)(df:List A):Prop:=∀j,j<=df.length->∃ds dvs,Binds K fd ps ds/\Vals dvs ds/\∀G,RAs ⟨K,mg⟩ G dvs (df.drop j)
noncomputable def tZ(fi:FI)(n:Nat):List A:=fi.df.drop (fi.df.length-(fi.n-n))
theorem j2.of{K:LD}{mg:Str->Option Value}{fd:FuncData}{ps:List Str}{fi:FI}(h:j2 K mg fd ps fi.df)(n:Nat):∃ds dvs,Binds K fd ps ds/\Vals dvs ds/\∀G,RAs ⟨K,mg⟩ G dvs (tZ fi n):=h _ (SI _ _)
noncomputable def wV(tb:Tb)(f:Str):List Str:=(tb.fld.filter λp=>p.2.contains f).map (·.1)
noncomputable def Cf(tb:Tb)(m:Str):List (Str×FI):=tb.mts.filterMap λp=>if p.1==m then some p.2 else none
structure Gd (tb:Tb) (k:Nat) (P:Program) (w:World) (K:LD) (mg:Str->Option Value) (base:Heap):Prop where
 fn:∀x f,tb.fns.lookup x=some f->∃a fd ps,cV P w K mg base CX0 k a fd ps (SpM ⟨K,mg⟩ f.n f.m)/\mg x=some (.ref a)/\M0 K (.ref a)=true/\j2 K mg fd ps f.df
 cs:∀x a,tb.cst.lookup x=some a->∃v u,mg x=some u/\RelV v u/\∀G,RA ⟨K,mg⟩ G v a
 bl:∀x∈Ab,mg x=none
 fl:∀f c C,(wV tb f).contains c=true->mg c=some (.ref C)->Cls K C/\dH K C f
 im:∀c f,tb.ini.lookup c=some f->∃C a fd ps j,j+1<=k/\cV P w K mg base CX0 j a fd ps (SpM ⟨K,mg⟩ f.n f.m)/\mg c=some (.ref C)/\Mk K C a/\j2 K mg fd ps f.df
 mt:∀m c f,(m,c,f)∈tb.mts->∃C a fd ps,cV P w K mg base CX0 k a fd ps (SpM ⟨K,mg⟩ f.n f.m)/\mg c=some (.ref C)/\Cls K C/\Meth K C m a/\j2 K mg fd ps f.df
structure Sit (tb:Tb) (k:Nat) (X:Cx) (E:XK) (s:Sc):Prop where
 n:X.N=s.N
 nd:s.N.Nodup
 gl:∀x,s.nm.lookup x=some .globalImplicit->Gl X x
 vs:∀x,zu s x=true->Vis X.env.scope x
 lo:∀x,p9 s x=true->Loc X.env.scope x
 lc:∀x,s.nm.lookup x=some .local->X.env.scope.names.lookup x=some .local
 ce:∀x,s.nm.lookup x=some .cell->X.env.scope.names.lookup x=some .cell
 fx:∀x,p9 s x=true->X.fn x=true\/X.env.scope.names.lookup x=some .local
 cm:s.hd=false->X.calm=true
 rm:s.hd=false->cj k X.A
 ps:s.hd=false->Passes CX0 X E
 gd:Gd tb k X.prog X.w X.K X.mg X.base
section
variable{tb:Tb}{k:Nat}{X:Cx}{E:XK}{s:Sc}
theorem nF{x:Str}(h:okN x=true):NDb x/\NCd x:=by
 unfold okN at h
 rw[LG] at h
 exact⟨by simpa using h.1,by simpa using h.2⟩
theorem Sit.slot(S:Sit tb k X E s){x:Str}{i:Nat}(h:M.slot s x=some i):X.N[i]?=some x/\Vis X.env.scope x/\NDb x/\NCd x:=by
 obtain⟨h1,h2⟩:=au h
 rw[LG] at h1
 obtain⟨j,e1,e2⟩:=kS h2
 obtain rfl:i=j:=by omega
 exact⟨by rw[S.n];exact e2,S.vs x h1.1,(nF h1.2).1,(nF h1.2).2⟩
theorem Sit.gT(S:Sit tb k X E s){x:Str}{i:Nat}(h:M.gT s x=some i):X.N[i]?=some x/\Loc X.env.scope x/\NDb x/\(X.fn x=true\/X.env.scope.names.lookup x=some .local):=by
 obtain⟨h1,h2⟩:=au h
 rw[LG] at h1
 obtain⟨j,e1,e2⟩:=kS h2
 obtain rfl:i=j:=by omega
 exact⟨by rw[S.n];exact e2,S.lo x h1.1,(nF h1.2).1,S.fx x h1.1⟩
theorem Sit.glob(S:Sit tb k X E s){x:Str}(h:glB s x=true):Gl X x/\NDb x:=by
 unfold glB isK at h
 rw[LG,beq_iff_eq] at h
 exact⟨S.gl x h.1,(nF h.2).1⟩
end
noncomputable def notStar:Expr->Bool
 | .Starred _ _=>false
 | _=>true
theorem aE{e:Expr}(h:notStar e=true)(es:List Expr)(env:Env):starEach (e::es) env=(false,eval e env)::starEach es env:=by cases e<;>first|rfl|cases h
theorem fZ{env:Env}{pos:Pos}:∀{es:List Expr},es.all notStar=true->(backTo pos (starEach es env)).any (·.1)=false
 | [],_=>rfl
 | e::es,h=>by
  rw[MA,LG] at h
  rw[aE h.1]
  show (false || (backTo pos (starEach es env)).any (·.1))=false
  rw[fZ h.2];rfl
noncomputable def iA:Expr->Bool
 | .ListComp _ _ _ _=>false
 | .SetComp _ _ _ _=>false
 | .DictComp _ _ _ _ _=>false
 | _=>true
theorem jc{e:Expr}(h:iA e=true)(t:Option Expr)(l:Nat)(env:Env):swapsWith e t l env=pure false:=by cases e<;>first|rfl|cases h
noncomputable def eV:Expr->Bool
 | .Set _ _ _=>false
 | _=>true
theorem hU{e:Expr}(h:eV e=true)(env:Env)(x:Value):foldedSetIterable e env x=pure x:=by cases e<;>first|rfl|cases h
noncomputable def plainT:Expr->Bool
 | .UnaryOp _ _ _=>false
 | .BoolOp _ _ _=>false
 | .IfExp _ _ _ _=>false
 | .Compare _ _ _ _=>false
 | _=>true
theorem qC{e:Expr}(h:plainT e=true)(env:Env):∀whole,isTrue e env whole=(do let v <- whole;standAt e.pos;holding [v] (truthy v)):=by
 intro whole;cases e<;>first|rfl|cases h
noncomputable def fU:Expr->Bool
 | .Slice _ _ _ _=>false
 | _=>true
theorem pX{e:Expr}(h:fU e=true):jE e:=by intro o i;cases e<;>first|rfl|cases h
theorem zM{e:Expr}(h:fU e=true):wu e:=by intro o i;cases e<;>first|rfl|cases h
theorem fX{op:CmpOp}{e:Expr}(h:eV e=true):behindInMarks op e=false:=by cases e<;>first|rfl|cases h
end M
namespace M
open PySem L2
theorem rT{env:Env}:∀es:List Expr,(assignEach es env).length=es.length
 | []=>rfl
 | e::es=>by cases e<;>(show (_::assignEach es env).length=_;rw[LL,LL,rT es])
theorem oC{env:Env}:∀es:List Expr,es.all notStar=true->(assignEach es env).findIdx? (·.1)=none
 | [],_=>rfl
 | e::es,h=>by
  rw[MA,LG] at h
  have ih:=oC (env:=env) es h.2
  have e1:assignEach (e::es) env=(false,assign e env)::assignEach es env:=by cases e<;>first|rfl|cases h.1
  rw[e1,List.findIdx?_cons]
  simp[ih]
theorem vJ{env:Env}{e:Expr}{es:List Expr}(h:notStar e=true):(assignEach (e::es) env).map (·.2)=assign e env::(assignEach es env).map (·.2):=by cases e<;>first|rfl|cases h
section
variable{tb:Tb}{k:Nat}{X:Cx}{E:XK}{s:Sc}
noncomputable def vz(F:Expr->Option (Mi Rr)):List Expr->Option (Mi (List Rr))
 | []=>some ag
 | e::es=>grd (notStar e) (aq (F e) λm=>aq (vz F es) λn=>some (aa m n))
noncomputable def AM(F G:Expr->Option (Mi Rr)):List Expr->List Bool->Option (Mi (List Rr))
 | [],_=>some ag
 | e::es,b::bs=>grd (notStar e) (aq (match b with|true=>F e|false=>G e) λm=>aq (AM F G es bs) λn=>some (aa m n))
 | _::_,[]=>none
def NL(m:Mi (List Rr))(n:Nat):Prop:=∀ρ rs ρ',m ρ=some (.ok rs,ρ')->rs.length=n
theorem jC{F:Expr->Option (Mi Rr)}(h:∀e m,F e=some m->JE X E e m):∀{es:List Expr}{m:Mi (List Rr)},vz F es=some m->JA X E es m/\NL m es.length/\es.all notStar=true
 | [],m,e=>by cases e;exact⟨wX,vQ,rfl⟩
 | a::es,m,e=>by
  obtain⟨h1,e⟩:=au e
  obtain⟨m1,e1,e⟩:=ab e
  obtain⟨m2,e2,e⟩:=ab e
  cases e
  obtain⟨i1,i2,i3⟩:=jC h e2
  exact⟨sd (h _ _ e1) i1 (aE h1 _ _),tE i2,by rw[MA,h1,i3];rfl⟩
theorem jL{F G:Expr->Option (Mi Rr)}(h:∀e m,F e=some m->JE X E e m)(g:∀e m,G e=some m->JE X E e m):∀{es:List Expr}{bs:List Bool}{m:Mi (List Rr)},AM F G es bs=some m->JA X E es m/\NL m es.length/\es.all notStar=true
 | [],_,m,e=>by cases e;exact⟨wX,vQ,rfl⟩
 | _::_,[],m,e=>by cases e
 | a::es,b::bs,m,e=>by
  obtain⟨h1,e⟩:=au e
  obtain⟨m1,e1,e⟩:=ab e
  obtain⟨m2,e2,e⟩:=ab e
  cases e
  obtain⟨i1,i2,i3⟩:=jL h g e2
  refine⟨sd ?_ i1 (aE h1 _ _),tE i2,by rw[MA,h1,i3];rfl⟩
  cases b
  ·exact g _ _ e1
  ·exact h _ _ e1
noncomputable def trB(op:BoolOp)(F:Expr->Option (Mi Rr)):List Expr->Option (Mi Rr)
 | []=>none
 | [a]=>F a
 | a::b::r=>aq (F a) λm=>aq (trB op F (b::r)) λn=>some (match op with | .And=>lR m n | .Or=>Ao m n)
theorem yp{op:BoolOp}{F:Expr->Option (Mi Rr)}{pos:Pos}(h:∀e m,F e=some m->JE X E e m):∀{es:List Expr}{m:Mi Rr},trB op F es=some m->JE X E (.BoolOp op es pos) m
 | [],m,e=>by cases e
 | [a],m,e=>CL (h _ _ e)
 | a::b::r,m,e=>by
  obtain⟨m1,e1,e⟩:=ab e
  obtain⟨m2,e2,e⟩:=ab e
  have i:=yp (pos:=pos) h e2
  cases op
  ·cases e;exact GG (h _ _ e1) i
  ·cases e;exact Jv (h _ _ e1) i
noncomputable def trW(op:BoolOp)(F:Expr->Option (Mi Bool)):List Expr->Option (Mi Bool)
 | []=>none
 | [a]=>F a
 | a::b::r=>aq (F a) λm=>aq (trW op F (b::r)) λn=>some (match op with | .And=>hW m n | .Or=>mOr m n)
theorem wU{op:BoolOp}{F:Expr->Option (Mi Bool)}{pos:Pos}(h:∀e m,F e=some m->JT X E e m):∀{es:List Expr}{m:Mi Bool},trW op F es=some m->JW X E (.BoolOp op es pos) m
 | [],m,e=>by cases e
 | [a],m,e=>by cases op;exact z6 (h _ _ e);exact DD (h _ _ e)
 | a::b::r,m,e=>by
  obtain⟨m1,e1,e⟩:=ab e
  obtain⟨m2,e2,e⟩:=ab e
  have i:=wU (pos:=pos) h e2
  cases op
  ·cases e;exact DB (h _ _ e1) i
  ·cases e;exact Jo (h _ _ e1) i
noncomputable def Lu(s:Sc):Expr->Bool
 | .Name x _=>s.di.contains x
 | _=>false
noncomputable def sN(s:Sc):Expr->Bool
 | .Name x _=>s.di.contains x
 | .Dict _ _ _=>true
 | .List es _=>es.all (Lu s)
 | _=>false
noncomputable def AU:Expr->Bool
 | .Constant (.bool _) _ _=>true
 | _=>false
noncomputable def trC(s:Sc)(op:CmpOp)(a b:Expr)(m n:Mi Rr):Option (Mi Rr):=match op with
 | .Eq=>grd (!s.hd) (some (mOp fEq m n))
 | .NotEq=>grd (!s.hd) (some (mOp (match sN s a&&sN s b with|true=>fOr fNe iF|false=>fNe) m n))
 | .Lt=>some (mOp fLt m n)
 | .LtE=>some (mOp fLe m n)
 | .Gt=>some (mOp fGt m n)
 | .GtE=>some (mOp fGe m n)
 | .Is=>some (mOp (match AU b with|true=>fOr (fIs false) (gE false)|false=>fIs false) m n)
 | .IsNot=>some (mOp (match AU b with|true=>fOr (fIs true) (gE true)|false=>fIs true) m n)
 | .In=>grd (!s.hd&&eV b) (some (mOp (fOr (fOr (fj false) (dj false)) (iL false)) m n))
 | .NotIn=>grd (!s.hd&&eV b) (some (mOp (fOr (fOr (fj true) (dj true)) (iL true)) m n))
theorem Fb(S:Sit tb k X E s){op:CmpOp}{a b:Expr}{m n q:Mi Rr}{pos:Pos}(h:trC s op a b m n=some q)(ha:JE X E a m)(hb:JE X E b n):JE X E (.Compare a [op] [b] pos) q/\JT X E (.Compare a [op] [b] pos) (ah q):=by
 cases op
 case Eq =>
  obtain⟨h1,h⟩:=au h
  have hu:=(S.rm (by simpa using h1)).units
  cases h
  exact⟨Hz hu ha hb,Hj hu ha hb⟩
 case NotEq =>
  obtain⟨h1,h⟩:=au h
  have hu:=(S.rm (by simpa using h1)).units
  cases e:sN s a&&sN s b<;>simp only[e] at h<;>cases h
  ·exact⟨Jx hu ha hb,IP hu ha hb⟩
  ·exact⟨FV hu ha hb,DX hu ha hb⟩
 case Lt=>cases h;exact⟨JX ha hb,J0 ha hb⟩
 case LtE=>cases h;exact⟨Jz ha hb,G6 ha hb⟩
 case Gt=>cases h;exact⟨JY ha hb,Ko ha hb⟩
 case GtE=>cases h;exact⟨J9 ha hb,JC ha hb⟩
 case Is =>
  unfold trC at h
  cases e:AU b<;>simp only[e] at h<;>cases h
  ·exact⟨IY ha hb,G9 ha hb⟩
  ·exact⟨FX ha hb,F8 ha hb⟩
 case IsNot =>
  unfold trC at h
  cases e:AU b<;>simp only[e] at h<;>cases h
  ·exact⟨BW ha hb,z4 ha hb⟩
  ·exact⟨xM ha hb,wk ha hb⟩
 case In =>
  obtain⟨h1,h⟩:=au h
  rw[LG] at h1
  have hu:=oF (S.rm (by simpa using h1.1))
  cases h
  exact⟨EI hu ha hb (fX h1.2),CZ hu ha hb (fX h1.2)⟩
 case NotIn =>
  obtain⟨h1,h⟩:=au h
  rw[LG] at h1
  have hu:=oF (S.rm (by simpa using h1.1))
  cases h
  exact⟨Bx hu ha hb (fX h1.2),BG hu ha hb (fX h1.2)⟩
noncomputable def chI:CmpOp->Option (Int->Int->Bool)
 | .Lt=>some cLt
 | .LtE=>some cLe
 | .Gt=>some cGt
 | .GtE=>some cGe
 | _=>none
theorem uX{op:CmpOp}{p:Int->Int->Bool}(h:chI op=some p):∃r,OpR X (compareOp op) r/\∀i j H Q,Q (.bl (p i j)) H->r (.int i) (.int j) H Q:=by
 cases op<;>first|(cases h;done)|skip
 ·cases h;exact⟨_,rG,Ci⟩
 ·cases h;exact⟨_,rA,Ca⟩
 ·cases h;exact⟨_,vH,HY⟩
 ·cases h;exact⟨_,w8,IT⟩
noncomputable def bf1(f:Str):Option (A->Option Rr) :=
 if f==("len" : Str) then some iu else if f==("abs" : Str) then some qP else if f==("int" : Str) then some zv else if f==("tuple" : Str) then some g7 else
 if f==("list" : Str) then some tu else if f==("sorted" : Str) then some (gOr br bU) else if f==("dict" : Str) then some fJ else
 if f==("all" : Str) then some (mB λbs=>bs.all id) else none
theorem bq(S:Sit tb k X E s){x:Str}(h:Ab.contains x=true):X.mg x=none:=S.gd.bl x (OM.mp h)
theorem Gp(S:Sit tb k X E s){f:Str}{g:A->Option Rr}{a:Expr}{m:Mi Rr}{p pos:Pos}(h:bf1 f=some g)(hg:glB s f=true)(hh:s.hd=false)(hs:notStar a=true)(ha:JE X E a m):JE X E (.Call (.Name f p) [a] [] pos) (mB1 g m):=by
 obtain⟨g1,g2⟩:=S.glob hg
 have hc:=S.cm hh
 have h1:=aE hs [] X.env
 have h2:(backTo pos (starEach [] X.env)).any (·.1)=false:=rfl
 unfold bf1 at h
 split at h
 ·rename_i z;rw[beq_iff_eq] at z;subst z;cases h;exact rN yK Fc g1 (bq S (by decide +kernel)) EO ha (by decide +kernel) g2 h1 h2
 split at h
 ·rename_i z;rw[beq_iff_eq] at z;subst z;cases h;exact rN xV CO g1 (bq S (by decide +kernel)) Gz ha (by decide +kernel) g2 h1 h2
 split at h
 ·rename_i z;rw[beq_iff_eq] at z;subst z;cases h;exact rB uM Fp g1 (bq S (by decide +kernel)) xK ha (by decide +kernel) g2 h1 h2
 split at h
 ·rename_i z;rw[beq_iff_eq] at z;subst z;cases h;exact rB lD yL g1 (bq S (by decide +kernel)) pP ha (by decide +kernel) g2 h1 h2
 split at h
 ·rename_i z;rw[beq_iff_eq] at z;subst z;cases h;exact rB ow By g1 (bq S (by decide +kernel)) tq ha (by decide +kernel) g2 h1 h2
 split at h
 ·rename_i z;rw[beq_iff_eq] at z;subst z;cases h;exact rN (mU hc) uy g1 (bq S (by decide +kernel)) uA ha (by decide +kernel) g2 h1 h2
 split at h
 ·rename_i z;rw[beq_iff_eq] at z;subst z;cases h;exact rB p3 xQ g1 (bq S (by decide +kernel)) sI ha (by decide +kernel) g2 h1 h2
 split at h
 ·rename_i z;rw[beq_iff_eq] at z;subst z;cases h;exact rN (vP hc) Dg g1 (bq S (by decide +kernel)) vw ha (by decide +kernel) g2 h1 h2
 ·cases h
noncomputable def bf2(f:Str):Option (A->A->Option Rr):=if f==("max" : Str) then some uL else if f==("min" : Str) then some uo else none
theorem wL(S:Sit tb k X E s){f:Str}{g:A->A->Option Rr}{a b:Expr}{m n:Mi Rr}{p pos:Pos}(h:bf2 f=some g)(hg:glB s f=true)(hh:s.hd=false)(hs:notStar a=true)(hs':notStar b=true)(ha:JE X E a m)(hb:JE X E b n):JE X E (.Call (.Name f p) [a,b] [] pos) (mB2 g m n):=by
 obtain⟨g1,g2⟩:=S.glob hg
 have hc:=S.cm hh
 have h1:=aE hs [b] X.env
 have h3:=aE hs' [] X.env
 have h2:(backTo pos (starEach [b] X.env)).any (·.1)=false:=fZ (by rw[MA,hs'];rfl)
 unfold bf2 at h
 split at h
 ·rename_i z;rw[beq_iff_eq] at z;subst z;cases h;exact CJ (uK hc) E9 g1 (bq S (by decide +kernel)) E4 ha hb (by decide +kernel) g2 h1 h3 h2
 split at h
 ·rename_i z;rw[beq_iff_eq] at z;subst z;cases h;exact CJ (t5 hc) Eo g1 (bq S (by decide +kernel)) C9 ha hb (by decide +kernel) g2 h1 h3 h2
 ·cases h
noncomputable def tyN(x:Str):Option Ty:=if x==("int" : Str) then some .int else if x==("bool" : Str) then some .bool else if x==("str" : Str) then some .str else if x==("tuple" : Str) then some .tuple else if x==("list" : Str) then some .list else if x==("dict" : Str) then some .dict else none
theorem FU{x:Str}{T:Ty}(h:tyN x=some T):bootBuiltins x=some (.type T.n)/\Ab.contains x=true/\x ≠ "__name__" := by
 unfold tyN at h
 split at h
 ·rename_i z;rw[beq_iff_eq] at z;subst z;cases h;exact⟨xK,by decide +kernel,by decide +kernel⟩
 split at h
 ·rename_i z;rw[beq_iff_eq] at z;subst z;cases h;exact⟨Ba,by decide +kernel,by decide +kernel⟩
 split at h
 ·rename_i z;rw[beq_iff_eq] at z;subst z;cases h;exact⟨DR,by decide +kernel,by decide +kernel⟩
 split at h
 ·rename_i z;rw[beq_iff_eq] at z;subst z;cases h;exact⟨pP,by decide +kernel,by decide +kernel⟩
 split at h
 ·rename_i z;rw[beq_iff_eq] at z;subst z;cases h;exact⟨tq,by decide +kernel,by decide +kernel⟩
 split at h
 ·rename_i z;rw[beq_iff_eq] at z;subst z;cases h;exact⟨sI,by decide +kernel,by decide +kernel⟩
 ·cases h
end
end M
namespace M
open PySem L2
structure Tr where
 E:Sc->Expr->Option (Mi Rr)
 T:Sc->Expr->Option (Mi Bool)
 I:Sc->Expr->Expr->Option (Mi (List A))
structure cp (tb:Tb) (k:Nat) (r:Tr):Prop where
 E:∀{X E s e m},Sit tb k X E s->r.E s e=some m->JE X E e m
 T:∀{X E s e m},Sit tb k X E s->r.T s e=some m->JT X E e m
 I:∀{X E s tg e m},Sit tb k X E s->r.I s tg e=some m->JI X E tg e m
noncomputable def trG(s:Sc)(lo:Nat):Nat->Expr->Option Mg
 | 0,_=>none
 | d+1,.Name x _=>aq (gT s x) λi=>grd (O1 lo i) (some (aB i))
 | d+1,.Tuple es _ _=>grd (!s.hd) (aq (trGs (trG s lo d) es) λgs=>some (cI es.length gs))
 | _+1,_=>none
where trGs (F:Expr->Option Mg):List Expr->Option Mgs
 | []=>some cN
 | e::es=>grd (notStar e) (aq (F e) λg=>aq (trGs F es) λgs=>some (az g gs))
section
variable{tb:Tb}{k:Nat}{X:Cx}{E:XK}{s:Sc}
theorem si{lo:Nat}{F:Expr->Option Mg}(h:∀e g,F e=some g->JG X lo e g):∀{es:List Expr}{gs:Mgs},trG.trGs F es=some gs->JGs X lo es gs/\es.all notStar=true
 | [],gs,e=>by cases e;exact⟨Am,rfl⟩
 | a::es,gs,e=>by
  obtain⟨h1,e⟩:=au e
  obtain⟨g,e1,e⟩:=ab e
  obtain⟨gs',e2,e⟩:=ab e
  cases e
  obtain⟨i1,i2⟩:=si h e2
  exact⟨yJ (h _ _ e1) i1 (λx y=>wF x y (vJ h1)),by rw[MA,h1,i2];rfl⟩
theorem jY(S:Sit tb k X E s){lo:Nat}:∀{d:Nat}{e:Expr}{g:Mg},trG s lo d e=some g->JG X lo e g
 | 0,e,g,h=>by cases h
 | d+1,e,g,h=>by
  unfold trG at h
  split at h
  ·rename_i heq;cases heq
  ·rename_i heq;cases heq
   obtain⟨i,e1,h⟩:=ab h
   obtain⟨h1,h⟩:=au h
   cases h
   obtain⟨a1,a2,a3,a4⟩:=S.gT e1
   exact Ap (by rw[S.n];exact S.nd) a1 a2 (Nn h1) a4
  ·rename_i heq;cases heq
   obtain⟨h0,h⟩:=au h
   obtain⟨gs,e1,h⟩:=ab h
   cases h
   obtain⟨i1,i2⟩:=si (λe g h=>jY S h) e1
   have hc:=S.cm (by simpa using h0)
   exact GJ hc i1 (rT _) (oC _ i2)
  ·cases h
noncomputable def LA:Expr->Bool
 | .Name _ _=>true
 | _=>false
noncomputable def DQ(r:Tr)(s:Sc)(tg:Expr):Expr->Option (Mi (List A))
 | .Call (.Name f p) [a] [] pos=>match f==("range" : Str) with
  | true=>grd (glB s f&&notStar a) (aq (r.E s a) λm=>some (fH m))
  | false=>aq (r.E s (.Call (.Name f p) [a] [] pos)) λm=>some (cy m)
 | .Call (.Name f p) [a,b] [] pos=>match f==("range" : Str) with
  | true=>grd (glB s f&&notStar a&&notStar b) (aq (r.E s a) λm=>aq (r.E s b) λn=>some (pL m n))
  | false=>aq (r.E s (.Call (.Name f p) [a,b] [] pos)) λm=>some (cy m)
 | e=>aq (r.E s e) λm=>some (cy m)
theorem BI{r:Tr}(R:cp tb k r)(S:Sit tb k X E s){tg e:Expr}{m:Mi (List A)}(h:DQ r s tg e=some m):JI X E tg e m:=by
 unfold DQ at h
 split at h
 ·split at h
  ·rename_i z;rw[beq_iff_eq] at z;subst z
   obtain⟨h1,h⟩:=au h
   rw[LG] at h1
   obtain⟨m1,e1,h⟩:=ab h
   cases h
   exact zf (S.glob h1.1).1 (bq S (by decide +kernel)) (R.E S e1) (aE h1.2 _ _) (aE h1.2 _ _)
  ·obtain⟨m1,e1,h⟩:=ab h
   cases h;exact qO (R.E S e1)
 ·split at h
  ·rename_i z;rw[beq_iff_eq] at z;subst z
   obtain⟨h1,h⟩:=au h
   rw[LG,LG] at h1
   obtain⟨m1,e1,h⟩:=ab h
   obtain⟨m2,e2,h⟩:=ab h
   cases h
   have k1:=aE h1.1.2
   have k2:=aE h1.2
   exact BJ (S.glob h1.1.1).1 (bq S (by decide +kernel)) (R.E S e1) (R.E S e2) (by rw[k1,k2];rfl) (by rw[k2];rfl) (k1 _ _) (k2 _ _)
  ·obtain⟨m1,e1,h⟩:=ab h
   cases h;exact qO (R.E S e1)
 ·obtain⟨m1,e1,h⟩:=ab h
  cases h;exact qO (R.E S e1)
noncomputable def oor{α:Type}(a b:Option α):Option α:=match a with
 | some x=>some x
 | none=>b
theorem cH{α:Type}{a b:Option α}{x:α}(h:oor a b=some x):a=some x\/b=some x:=by
 cases a with
 | none=>exact .inr h
 | some y=>exact .inl h
noncomputable def trI(r:Tr)(s:Sc)(tg e:Expr):Option (Mi (List A)):=oor (r.I s tg e) (DQ r s tg e)
theorem vY{r:Tr}(R:cp tb k r)(S:Sit tb k X E s){tg e:Expr}{m:Mi (List A)}(h:trI r s tg e=some m):JI X E tg e m:=by
 rcases cH h with h|h
 ·exact R.I S h
 ·exact BI R S h
noncomputable def tgN:Nat->Expr->List Str
 | 0,_=>[]
 | _+1,.Name x _=>[x]
 | d+1,.Tuple es _ _=>es.flatMap (tgN d)
 | _+1,_=>[]
noncomputable def Ju(N own:List Str):List Str:=N.map (λn=>if own.contains n then n++(" (of the def)" : Str) else n)++own
noncomputable def rD(s:Sc)(N:List Str)(own:Nat)(sc:Scope):Bool :=
 sc.kind==.function&&sc.names.all (λy=>y.2 != .cell)&&sc.names.all (λy=>y.2 != .local || sc.names.lookup y.1==some .local)&&N.length==s.N.length+own&&decide N.Nodup &&
 ((N.take s.N.length).zip s.N).all (λp=>p.1==p.2 || sc.names.lookup p.1==none)&&(N.take s.N.length).all (λn=>sc.names.lookup n != some .local)&&sc.names.all (λy=>y.2 != .free || s.nm.lookup y.1==some .cell)
noncomputable def uB(s:Sc)(N:List Str)(sc:Scope):Sc:={ N:=N,nm:=sc.names,di:=s.di,ca:=[],hd:=false,lv:=s.lv }
end
end M
namespace M
open PySem L2
section
variable{tb:Tb}{k:Nat}{X:Cx}{E:XK}{s:Sc}
theorem dh{α:Type}{x:Str}{v:α}:∀{l:List (Str×α)},l.lookup x=some v->(x,v)∈l
 | (y,u)::l,h=>by
  rw[Mq] at h
  split at h
  ·rename_i e;cases h;rw[beq_iff_eq.mp e];exact LW
  ·exact LX _ (dh h)
theorem Sit.comp(S:Sit tb k X E s){N:List Str}{sc:Scope}{own:Nat}(h:rD s N own sc=true)(hh:s.hd=false) :
  eJ X.N N own sc X.env.scope/\∀cl C s0 H fp,Sit tb k (cxC X N sc cl C s0 H fp) E00 (uB s N sc):=by
 unfold rD at h
 simp only[LG,beq_iff_eq,decide_eq_true_eq,Mv,MZ,bne_iff_ne,ne_eq] at h
 obtain⟨⟨⟨⟨⟨⟨⟨h1,h2⟩,h3⟩,h4⟩,h5⟩,h6⟩,h7⟩,h8⟩:=h
 refine⟨⟨h1,h2,λy hy e=>?_,by rw[S.n];exact h4,h5,by rw[S.n];exact h6,by rw[S.n];exact h7,λy hy e=>?_⟩,λcl C s0 H fp=>?_⟩
 ·rcases h3 y hy with z|z
  ·exact absurd e z
  ·exact z
 ·rcases h8 y hy with z|z
  ·exact absurd e z
  ·exact .inl (S.ce _ z)
 ·have loc:∀x,p9 (uB s N sc) x=true->sc.names.lookup x=some .local:=λx hx=>by
   unfold p9 isK uB at hx
   simp only[MZ,beq_iff_eq] at hx
   rcases hx with z|z
   ·exact z
   ·exact absurd rfl (h2 _ (dh z))
  refine⟨rfl,h5,λx hx=>wt hx,λx hx=>?_,λx hx=>.inl (gx (loc x hx)),λx hx=>gx hx,λx hx=>absurd rfl (h2 _ (dh hx)),λx hx=>.inr (gx (loc x hx)),λ_=>S.cm hh,λ_=>S.rm hh,λ_=>(λ_ _ _ _ _ _ _ x=>x.elim),S.gd⟩
  unfold zu isK uB at hx
  simp only[MZ,beq_iff_eq] at hx
  rcases hx with (z|z)|z
  ·exact .inl (gx z)
  ·exact absurd rfl (h2 _ (dh z))
  ·exact oU z
noncomputable def AY(r:Tr)(s:Sc):List Expr->Option (Mi Bool)
 | []=>some aZ
 | [t]=>r.T s t
 | _=>none
noncomputable def kB(r:Tr)(s:Sc)(elt:Expr)(gs:List Comprehension)(sc:Scope):Option (Mi Rr):=match gs with
 | [g] =>
  let own:=tgN 9 g.target
  let N:=Ju s.N own
  let s':=uB s N sc
  grd (!s.hd&&g.is_async==0&&eV g.iter&&rD s N own.length sc) (aq (trI r s g.target g.iter) λmi=>aq (trG s' s.N.length 9 g.target) λG=>aq (AY r s' g.ifs) λmt=>aq (r.E s' elt) λme=>some (cL own.length mi G mt me))
 | _=>none
theorem sE{r:Tr}(R:cp tb k r)(S:Sit tb k X E s){ifs:List Expr}{m:Mi Bool}(h:AY r s ifs=some m):JF X E ifs m:=by
 unfold AY at h
 split at h
 ·cases h;exact Gu
 ·exact Ez (R.T S h)
 ·cases h
theorem iY{r:Tr}(R:cp tb k r)(S:Sit tb k X E s){elt:Expr}{gs:List Comprehension}{sc:Scope}{m:Mi Rr}(h:kB r s elt gs sc=some m) :
  s.hd=false/\∃N own tg iter ifs mi G mt me,gs=[⟨tg,iter,ifs,0⟩]/\m=cL own mi G mt me/\eJ X.N N own sc X.env.scope/\JI X E tg iter mi/\(∀cl C s0 H fp,JG (cxC X N sc cl C s0 H fp) X.N.length tg G) /\
   (∀cl C s0 H fp,JF (cxC X N sc cl C s0 H fp) E00 ifs mt)/\(∀cl C s0 H fp,JE (cxC X N sc cl C s0 H fp) E00 elt me)/\∀x,foldedSetIterable iter X.env x=pure x:=by
 unfold kB at h
 split at h
 ·rename_i g
  obtain⟨tg,iter,ifs,ia⟩:=g
  obtain⟨h0,h⟩:=au h
  simp only[LG,beq_iff_eq,Ml] at h0
  obtain⟨⟨⟨h1,rfl⟩,h3⟩,h4⟩:=h0
  obtain⟨mi,e1,h⟩:=ab h
  obtain⟨G,e2,h⟩:=ab h
  obtain⟨mt,e3,h⟩:=ab h
  obtain⟨me,e4,h⟩:=ab h
  cases h
  obtain⟨C1,C2⟩:=S.comp h4 h1
  exact⟨h1,_,_,tg,iter,ifs,mi,G,mt,me,rfl,rfl,C1,vY R S e1,λcl C s0 H fp=>by rw[S.n];exact jY (C2 cl C s0 H fp) e2,λcl C s0 H fp=>sE R (C2 cl C s0 H fp) e3,λcl C s0 H fp=>R.E (C2 cl C s0 H fp) e4,hU h3 _⟩
 ·cases h
noncomputable def trP(F:Expr->Option (Mi Rr)):Option Expr->Option (Mi (Option Int))
 | none=>some fC
 | some e=>aq (F e) λm=>some (fG m)
theorem wZ{F:Expr->Option (Mi Rr)}(h:∀e m,F e=some m->JE X E e m){o:Option Expr}{m:Mi (Option Int)}(e:trP F o=some m):JP X E o m:=by
 cases o with
 | none=>cases e;exact zp
 | some a=>obtain⟨m1,e1,e⟩:=ab e;cases e;exact Bu (h _ _ e1)
noncomputable def yS(r:Tr)(s:Sc)(a:Expr):Expr->Option (Mi Rr)
 | .Slice lo hi none _=>aq (r.E s a) λm=>aq (trP (r.E s) lo) λml=>aq (trP (r.E s) hi) λmh=>some (mSl m ml mh)
 | b=>grd (fU b&&!s.hd) (aq (r.E s a) λm=>aq (r.E s b) λn=>some (mOp (fOr fIx aj) m n))
theorem we{r:Tr}(R:cp tb k r)(S:Sit tb k X E s){a b:Expr}{m:Mi Rr}{pos:Pos}(h:yS r s a b=some m):JE X E (.Subscript a b pos) m:=by
 unfold yS at h
 split at h
 ·obtain⟨m1,e1,h⟩:=ab h
  obtain⟨m2,e2,h⟩:=ab h
  obtain⟨m3,e3,h⟩:=ab h
  cases h
  exact Ie (R.E S e1) (wZ (λ_ _=>R.E S) e2) (wZ (λ_ _=>R.E S) e3)
 ·obtain⟨h0,h⟩:=au h
  simp only[LG,Ml] at h0
  obtain⟨m1,e1,h⟩:=ab h
  obtain⟨m2,e2,h⟩:=ab h
  cases h
  exact HW (oF (S.rm h0.2)) (R.E S e1) (R.E S e2) (pX h0.1) (zM h0.1)
noncomputable def upB(f:Str):Bool:=match f.cps[0]? with
 | some c=>O1 65 c&&O1 c 90
 | none=>false
noncomputable def GA:Expr->Bool
 | .ListComp _ _ _ _=>true
 | .List _ _=>true
 | .Dict _ _ _=>true
 | .BinOp _ .Add _ _=>true
 | .Subscript _ (.Slice _ _ _ _) _=>true
 | .Call (.Name f _) _ _ _=>f==("list" : Str) || f==("sorted" : Str) || f==("dict" : Str) || upB f
 | .Call (.Attribute _ _ _) _ _ _=>true
 | _=>false
noncomputable def trF(r:Tr)(s:Sc)(e:Expr):Option (Mi Rr):=match e with
 | .Name x _=>match s.lv.contains x with
  | true=>r.E s e
  | false=>match slot s x with
   | some i=>some (ai i)
   | none=>r.E s e
 | e=>match GA e with
  | true=>aq (r.E s e) λm=>some (mFz m)
  | false=>r.E s e
theorem nk{r:Tr}(R:cp tb k r)(S:Sit tb k X E s){e:Expr}{m:Mi Rr}(h:trF r s e=some m):JE X E e m:=by
 unfold trF at h
 split at h
 ·split at h
  ·exact R.E S h
  split at h
  ·rename_i e1;cases h
   obtain⟨a1,a2,a3,a4⟩:=S.slot e1
   exact A8 a1 a2 a3 a4
  ·exact R.E S h
 ·split at h
  ·obtain⟨m1,e1,h⟩:=ab h
   cases h;exact vC (R.E S e1)
  ·exact R.E S h
noncomputable def F4(tb:Tb)(r:Tr)(s:Sc)(fi:FI)(args:List Expr):Option (Mi (List Rr)):=grd (args.length+(tZ fi args.length).length==fi.n) (AM (r.E s) (trF r s) args fi.mu)
noncomputable def xC(tb:Tb)(r:Tr)(s:Sc)(fi:FI)(args:List Expr):Option (Mi (List Rr)):=grd (args.length+1+(tZ fi (args.length+1)).length==fi.n) (AM (r.E s) (trF r s) args (fi.mu.drop 1))
noncomputable def wC(tb:Tb)(r:Tr)(s:Sc)(f:Str):List Expr->Option (Mi Rr)
 | []=>none
 | a::as=>aq (tb.ini.lookup f) λfi=>grd (!s.hd) (aq (xC tb r s fi (a::as)) λm=>some (dU f fi.m (tZ fi ((a::as).length+1)) m))
noncomputable def Cq(tb:Tb)(r:Tr)(s:Sc)(a:Expr)(x:Str):Option (Mi Rr):=match tyN x with
 | some T=>aq (r.E s a) λm=>some (mB1 (lG T) m)
 | none=>none
noncomputable def ye(tb:Tb)(r:Tr)(s:Sc)(f:Str)(args:List Expr):Option (Mi Rr):=grd (glB s f) (match tb.fns.lookup f with
 | some fi=>match args with
  | []=>none
  | a::as=>grd (!s.hd) (aq (F4 tb r s fi (a::as)) λm=>some (af fi.m (tZ fi (a::as).length) m))
 | none=>match tb.ini.lookup f with
 | some _=>wC tb r s f args
 | none=>match args with
  | [a]=>grd (notStar a&&!s.hd) (aq (bf1 f) λg=>aq (r.E s a) λm=>some (mB1 g m))
  | [a,.Name x p]=>match f==("isinstance" : Str) with
   | true=>grd (notStar a&&glB s x) (Cq tb r s a x)
   | false=>grd (notStar a&&!s.hd) (aq (bf2 f) λg=>aq (r.E s a) λm=>aq (r.E s (.Name x p)) λn=>some (mB2 g m n))
  | [a,b]=>grd (notStar a&&notStar b&&!s.hd) (aq (bf2 f) λg=>aq (r.E s a) λm=>aq (r.E s b) λn=>some (mB2 g m n))
  | _=>none)
theorem uk{r:Tr}(R:cp tb k r)(S:Sit tb k X E s){f:Str}{args:List Expr}{m:Mi Rr}{p pos:Pos}(h:ye tb r s f args=some m):JE X E (.Call (.Name f p) args [] pos) m:=by
 have h':=au h
 clear h
 obtain⟨hg,h⟩:=h'
 split at h
 ·rename_i fi ef
  split at h
  ·cases h
  ·rename_i a as
   obtain⟨hh,h⟩:=au h
   have hh:s.hd=false:=by simpa using hh
   obtain⟨ma,e1,h⟩:=ab h
   cases h
   obtain⟨h1,e1⟩:=au e1
   obtain⟨i1,i2,i3⟩:=jL (λ_ _=>R.E S) (λ_ _=>nk R S) e1
   obtain⟨fa,fd,ps,F,hm,hk,hb⟩:=S.gd.fn f fi ef
   obtain⟨ds,dvs,hb1,hb2,hb3⟩:=hb.of (a::as).length
   have i3':=i3
   rw[MA,LG] at i3'
   exact zz F (S.rm hh) (S.glob hg).1 hm hk hb1 hb2 hb3 (S.ps hh) i1 (Gv i2 (by rw[beq_iff_eq] at h1;exact h1)) (S.glob hg).2 (aE i3'.1 _ _) (fZ i3'.2)
 split at h
 ·unfold wC at h
  split at h
  ·cases h
  ·rename_i a as
   obtain⟨fi,ef,h⟩:=ab h
   obtain⟨hh,h⟩:=au h
   have hh:s.hd=false:=by simpa using hh
   obtain⟨ma,e1,h⟩:=ab h
   cases h
   obtain⟨h1,e1⟩:=au e1
   rw[beq_iff_eq] at h1
   obtain⟨i1,i2,i3⟩:=jL (λ_ _=>R.E S) (λ_ _=>nk R S) e1
   obtain⟨C,fa,fd,ps,j,hj,F,hm,hk,hb⟩:=S.gd.im f fi ef
   obtain⟨ds,dvs,hb1,hb2,hb3⟩:=hb.of ((a::as).length+1)
   have i3':=i3
   rw[MA,LG] at i3'
   exact zQ hk F ((S.rm hh).mono hj) (S.glob hg).1 hm hb1 hb2 hb3 (S.ps hh) i1 (λρ rs ρ' q=>by rw[i2 ρ rs ρ' q];exact h1) (S.glob hg).2 (aE i3'.1 _ _) (fZ i3'.2)
 ·split at h
  ·obtain⟨h0,h⟩:=au h
   simp only[LG,Ml] at h0
   obtain⟨g,e1,h⟩:=ab h
   obtain⟨m1,e2,h⟩:=ab h
   cases h
   exact Gp S e1 hg h0.2 h0.1 (R.E S e2)
  ·split at h
   ·rename_i z;rw[beq_iff_eq] at z;subst z
    obtain⟨h0,h⟩:=au h
    simp only[LG] at h0
    obtain⟨g1,g2⟩:=S.glob hg
    obtain⟨g3,g4⟩:=S.glob h0.2
    unfold Cq at h
    split at h
    ·rename_i T eT
     obtain⟨m1,e2,h⟩:=ab h
     cases h
     obtain⟨t1,t2,t3⟩:=FU eT
     exact GD T g1 (bq S (by decide +kernel)) ly g3 (bq S t2) t1 (R.E S e2) (by decide +kernel) g2 t3 g4 (aE h0.1 _ _)
    ·cases h
   ·obtain⟨h0,h⟩:=au h
    simp only[LG,Ml] at h0
    obtain⟨g,e1,h⟩:=ab h
    obtain⟨m1,e2,h⟩:=ab h
    obtain⟨m2,e3,h⟩:=ab h
    cases h
    exact wL S e1 hg h0.2 h0.1 rfl (R.E S e2) (R.E S e3)
  ·obtain⟨h0,h⟩:=au h
   simp only[LG,Ml] at h0
   obtain⟨g,e1,h⟩:=ab h
   obtain⟨m1,e2,h⟩:=ab h
   obtain⟨m2,e3,h⟩:=ab h
   cases h
   exact wL S e1 hg h0.2 h0.1.1 h0.1.2 (R.E S e2) (R.E S e3)
  ·cases h
end
end M
namespace M
open PySem L2
section
variable{tb:Tb}{k:Nat}{X:Cx}{E:XK}{s:Sc}
noncomputable def lT(o:Expr):Bool:=match o with
 | .Call f args kw _=>match f with
  | .Name _ _=>!(args.isEmpty&&kw.isEmpty)
  | _=>true
 | _=>true
theorem eh{o:Expr}(h:lT o=true)(m:Str)(env:Env)(w:Sem Value):attributeBase o m env w=w:=by
 cases o with
 | Call f args kw p=>cases f with
  | Name _ _=>cases args with
   | cons _ _=>rfl
   | nil=>cases kw with
    | cons _ _=>rfl
    | nil=>cases h
  | _=>rfl
 | _=>rfl
theorem Af{e:Expr}(h:notStar e=true)(cpos:Pos)(env:Env):((backTo cpos (starEach [e] env)).all (λx=>!x.1)&&(backToKw cpos (keywordEach [] env)).all (λx=>x.1.isSome)&&decide (([e]:List Expr).length+([]:List Keyword).length+(if ([]:List Keyword).isEmpty then 0 else 1)<30))=true:=by rw[aE h];rfl
theorem Iw{o e:Expr}{m:Str}{apos cpos:Pos}(h0:lT o=true)(h:notStar e=true)(hl:(apos.endLine==cpos.line)=true):M1 X o m apos e cpos:=⟨eh h0 _ _ _,Af h _ _,hl,by rw[aE h];rfl⟩
noncomputable def LC(e:Expr):Option (Expr×Str×Pos×Pos):=match e with
 | .Call f args kw cpos=>match f with
  | .Attribute o m apos=>grd (args.isEmpty&&kw.isEmpty) (some (o,m,apos,cpos))
  | _=>none
 | _=>none
noncomputable def Gx(e:Expr):Option (Expr×Str×Pos×Expr×Pos):=match e with
 | .Call f args kw cpos=>match f with
  | .Attribute o m apos=>match args with
   | [a]=>grd (kw.isEmpty&&notStar a) (some (o,m,apos,a,cpos))
   | _=>none
  | _=>none
 | _=>none
theorem tW{e o a:Expr}{m:Str}{apos cpos:Pos}(h:Gx e=some (o,m,apos,a,cpos)):e=.Call (.Attribute o m apos) [a] [] cpos/\notStar a=true:=by
 unfold Gx at h
 split at h
 ·rename_i f args kw c
  split at h
  ·split at h
   ·obtain⟨h0,h⟩:=au h
    rw[LG,Nc] at h0
    cases h
    rw[h0.1]
    exact⟨rfl,h0.2⟩
   ·cases h
  ·cases h
 ·cases h
noncomputable def ur(e:Expr):Option (Str×Pos×Expr×Pos):=match e with
 | .Call f args kw cpos=>match f with
  | .Name x p=>match args with
   | [a]=>grd (kw.isEmpty&&notStar a) (some (x,p,a,cpos))
   | _=>none
  | _=>none
 | _=>none
theorem mD{e a:Expr}{x:Str}{p cpos:Pos}(h:ur e=some (x,p,a,cpos)):e=.Call (.Name x p) [a] [] cpos/\notStar a=true:=by
 unfold ur at h
 split at h
 ·rename_i f args kw c
  split at h
  ·split at h
   ·obtain⟨h0,h⟩:=au h
    rw[LG,Nc] at h0
    cases h
    rw[h0.1]
    exact⟨rfl,h0.2⟩
   ·cases h
  ·cases h
 ·cases h
noncomputable def asN(e:Expr):Option (Str×Pos):=match e with
 | .Name x p=>some (x,p)
 | _=>none
theorem kU{e:Expr}{x:Str}{p:Pos}(h:asN e=some (x,p)):e=.Name x p:=by
 unfold asN at h
 split at h
 ·cases h;rfl
 ·cases h
noncomputable def jX(_:Tb)(r:Tr)(s:Sc)(e:Expr):Option (Mi Rr):=match e with
 | .ListComp elt gs sc _=>match gs with
  | [g]=>aq (asN g.iter) λ(x,_) =>
   let own:=tgN 9 g.target
   let N:=Ju s.N own
   let s':=uB s N sc
   grd (s.lv.contains x&&!s.hd&&g.is_async==0&&rD s N own.length sc) (aq (slot s x) λi=>aq (trG s' s.N.length 9 g.target) λG=>aq (AY r s' g.ifs) λmt=>aq (r.E s' elt) λme=>aq (kB r s elt gs sc) λm0=>some (i6 (hY own.length i G mt me) m0))
  | _=>none
 | _=>none
theorem oM{r:Tr}(R:cp tb k r)(S:Sit tb k X E s){e:Expr}{q:Mi Rr}(h:jX tb r s e=some q):JE X E e q:=by
 unfold jX at h
 split at h
 ·split at h
  ·rename_i g
   obtain⟨tg,iter,ifs,ia⟩:=g
   obtain⟨⟨x,px⟩,h0,g⟩:=ab h
   clear h
   have h0:asN iter=some (x,px):=h0
   obtain rfl:=kU h0
   obtain⟨h1,h⟩:=au g
   simp only[LG,beq_iff_eq,Ml] at h1
   obtain⟨⟨⟨_,hh⟩,rfl⟩,h4⟩:=h1
   obtain⟨i,e1,h⟩:=ab h
   obtain⟨G,e2,h⟩:=ab h
   obtain⟨mt,e3,h⟩:=ab h
   obtain⟨me,e4,h⟩:=ab h
   obtain⟨m0,e5,h⟩:=ab h
   cases h
   obtain⟨C1,C2⟩:=S.comp h4 hh
   obtain⟨a1,a2,a3,a4⟩:=S.slot e1
   refine xZ (xj (S.cm hh) C1 rfl a1 a2 a3 a4 (λcl C s0 H fp=>by rw[S.n];exact jY (C2 cl C s0 H fp) e2) (λcl C s0 H fp=>sE R (C2 cl C s0 H fp) e3) (λcl C s0 H fp=>R.E (C2 cl C s0 H fp) e4) (hU rfl _)) ?_
   obtain⟨hh,N,own,tg,iter,ifs,mi,G,mt,me,hgs,rfl,C1,C2,C3,C4,C5,C6⟩:=iY R S e5
   rw[hgs]
   exact tw (S.cm hh) C1 rfl C2 C3 C4 C5 C6
  ·cases h
 ·cases h
noncomputable def lJ(_:Tb)(r:Tr)(s:Sc)(e:Expr):Option (Mi Rr):=aq (Gx e) λ(o,m,apos,a,cpos)=>grd (m==("extend" : Str)&&apos.endLine==cpos.line) (aq (asN o) λ(x,_)=>aq (slot s x) λi=>aq (r.E s a) λn=>some (eR i (eY i n)))
theorem oi{r:Tr}(R:cp tb k r)(S:Sit tb k X E s){e:Expr}{q:Mi Rr}(h:lJ tb r s e=some q):JE X E e q:=by
 obtain⟨⟨o,m,apos,a,cpos⟩,h1,g⟩:=ab h
 clear h
 obtain⟨rfl,hs⟩:=tW h1
 obtain⟨h2,h⟩:=au g
 rw[LG,beq_iff_eq] at h2
 obtain⟨⟨x,px⟩,h3,g2⟩:=ab h
 clear h
 obtain rfl:=kU h3
 obtain⟨i,e1,h⟩:=ab g2
 obtain⟨n,e2,h⟩:=ab h
 obtain⟨a1,a2,a3,a4⟩:=S.slot e1
 cases h
 obtain⟨rfl,hl⟩:=h2
 exact tK a1 a2 a3 a4 (R.E S e2) rfl (Af hs _ _) hl (aE hs _ _) rfl
noncomputable def nI(s:Sc)(e:Expr):Option (Nat×Expr):=match e with
 | .Compare l ops us _=>match ops with
  | [op]=>match op with
   | .NotEq=>match us with
    | [u]=>aq (ur l) λ(f,_,a,_)=>aq (ur u) λ(g,_,b,_)=>aq (asN a) λ(x,_)=>grd (f==("set" : Str)&&g==("set" : Str)&&glB s f&&!s.hd) (aq (slot s x) λi=>some (i,b))
    | _=>none
   | _=>none
  | _=>none
 | _=>none
theorem jW(S:Sit tb k X E s){e b:Expr}{i:Nat}{m:Mi Rr}(h:nI s e=some (i,b))(hm:JE X E b m):JE X E e (dM i m)/\JT X E e (ah (dM i m)):=by
 cases e<;>first|(cases h;done)|skip
 rename_i l ops us pos
 cases ops with
 | nil=>cases h
 | cons op rest =>
 cases rest with
 | cons _ _=>cases h
 | nil =>
 cases op<;>first|(cases h;done)|skip
 cases us with
 | nil=>cases h
 | cons u rest =>
 cases rest with
 | cons _ _=>cases h
 | nil =>
  have g:(aq (ur l) λ(f,_,a,_)=>aq (ur u) λ(g,_,b,_)=>aq (asN a) λ(x,_)=>grd (f==("set" : Str)&&g==("set" : Str)&&glB s f&&!s.hd) (aq (slot s x) λi=>some (i,b)))=some (i,b):=h
  clear h
  obtain⟨⟨f,p1,a,q1⟩,h1,g⟩:=ab g
  obtain⟨⟨f2,p2,b',q2⟩,h2,g⟩:=ab g
  obtain⟨⟨x,px⟩,h3,g⟩:=ab g
  have g':=au g
  clear g
  obtain⟨h0,g⟩:=g'
  simp only[LG,beq_iff_eq,Ml] at h0
  obtain⟨⟨⟨k1,k2⟩,hg⟩,hh⟩:=h0
  obtain⟨i',e1,g⟩:=ab g
  cases g
  have E1:=(mD h1).1
  obtain⟨E2,st⟩:=mD h2
  have E3:=kU h3
  subst k1 k2 E1 E2 E3
  obtain⟨a1,a2,a3,a4⟩:=S.slot e1
  have hu:X.A.units<cLine:=Ng (Nat.le_add_right _ _) (oF (S.rm hh))
  exact⟨xk (S.cm hh) hu (S.glob hg).1 (bq S (by decide +kernel)) a1 a2 a3 a4 hm (aE st _ _),vx (S.cm hh) hu (S.glob hg).1 (bq S (by decide +kernel)) a1 a2 a3 a4 hm (aE st _ _)⟩
noncomputable def pB(_:Tb)(r:Tr)(s:Sc)(e:Expr):Option (Mi Rr):=aq (nI s e) λ(i,b)=>aq (r.E s b) λm=>some (dM i m)
noncomputable def pw(_:Tb)(r:Tr)(s:Sc)(e:Expr):Option (Mi Bool):=aq (nI s e) λ(i,b)=>aq (r.E s b) λm=>some (ah (dM i m))
theorem o8{r:Tr}(R:cp tb k r)(S:Sit tb k X E s){e:Expr}{q:Mi Rr}(h:pB tb r s e=some q):JE X E e q:=by
 obtain⟨⟨i,b⟩,h1,g⟩:=ab h
 obtain⟨m,h2,g⟩:=ab g
 cases g;exact(jW S h1 (R.E S h2)).1
theorem pf{r:Tr}(R:cp tb k r)(S:Sit tb k X E s){e:Expr}{q:Mi Bool}(h:pw tb r s e=some q):JT X E e q:=by
 obtain⟨⟨i,b⟩,h1,g⟩:=ab h
 obtain⟨m,h2,g⟩:=ab g
 cases g;exact(jW S h1 (R.E S h2)).2
noncomputable def xP(tb:Tb)(r:Tr)(s:Sc)(e:Expr):Option (Mi Rr):=oor (jX tb r s e) (none)
theorem Ic{r:Tr}(R:cp tb k r)(S:Sit tb k X E s){e:Expr}{m:Mi Rr}(h:xP tb r s e=some m):JE X E e m:=by
 rcases cH h with h|h
 ·exact oM R S h
 cases h
noncomputable def xE(tb:Tb)(r:Tr)(s:Sc)(e:Expr):Option (Mi Rr):=oor (lJ tb r s e) (oor (pB tb r s e) (none))
theorem JL{r:Tr}(R:cp tb k r)(S:Sit tb k X E s){e:Expr}{m:Mi Rr}(h:xE tb r s e=some m):JE X E e m:=by
 rcases cH h with h|h
 ·exact oi R S h
 rcases cH h with h|h
 ·exact o8 R S h
 cases h
noncomputable def xT(tb:Tb)(r:Tr)(s:Sc)(e:Expr):Option (Mi Bool):=oor (pw tb r s e) (none)
theorem Hr{r:Tr}(R:cp tb k r)(S:Sit tb k X E s){e:Expr}{m:Mi Bool}(h:xT tb r s e=some m):JT X E e m:=by
 rcases cH h with h|h
 ·exact pf R S h
 cases h
noncomputable def xI(tb:Tb)(r:Tr)(s:Sc)(tg e:Expr):Option (Mi (List A)):=none
theorem Kn{r:Tr}(R:cp tb k r)(S:Sit tb k X E s){tg e:Expr}{m:Mi (List A)}(h:xI tb r s tg e=some m):JI X E tg e m:=by
 cases h
end
end M
namespace M
open PySem L2
section
variable{tb:Tb}{k:Nat}{X:Cx}{E:XK}{s:Sc}
noncomputable def Iu(s:Sc)(o:Expr)(m:Str):Option (Mi Rr):=match o with
 | .Name x _=>aq (slot s x) λi=>if m==("clear" : Str) then some (kA i) else if m==("pop" : Str) then some (lH i) else none
 | _=>none
noncomputable def GU(r:Tr)(s:Sc)(o:Expr)(m:Str)(e:Expr):Option (Mi Rr) :=
 if m==("append" : Str) then (match o with
  | .Name x _=>aq (slot s x) λi=>aq (r.E s e) λn=>some (eR i (cJ i n))
  | _=>none)
 else if m==("join" : Str) then aq (r.E s o) λa=>aq (r.E s e) λn=>some (mS1 iy a n)
 else if m==("pop" : Str) then (match o with
  | .Name x _=>grd (s.di.contains x) (aq (slot s x) λi=>aq (r.E s e) λn=>some (kO i n))
  | _=>none)
 else none
noncomputable def GW:Expr->Bool
 | .Name x _=>x==("self" : Str)
 | _=>false
noncomputable def vp(r:Tr)(s:Sc)(fi:FI)(o:Expr):Option (Mi Rr):=match GW o || fi.mu.headD true with
 | true=>r.E s o
 | false=>trF r s o
noncomputable def qR(tb:Tb)(r:Tr)(s:Sc)(o:Expr)(m:Str)(args:List Expr)(c:Str)(fi:FI):Option (Mi Rr):=grd (!s.hd&&O1 args.length 20) (aq (vp r s fi o) λmo=>aq (xC tb r s fi args) λma=>some (af fi.m (tZ fi (args.length+1)) (aa (bc c m mo) ma)))
noncomputable def vR(tb:Tb)(r:Tr)(s:Sc)(o:Expr)(m:Str)(args:List Expr):List (Str×FI)->Option (Mi Rr)
 | []=>none
 | [p]=>qR tb r s o m args p.1 p.2
 | p::q::ps=>aq (qR tb r s o m args p.1 p.2) λa=>aq (vR tb r s o m args (q::ps)) λb=>some (i6 a b)
theorem Bc{args:List Expr}(h:args.all notStar=true)(hl:args.length<=20)(pos:Pos)(env:Env):methodCallForm (args.length+([]:List Keyword).length) (backTo pos (starEach args env)) (backToKw pos (keywordEach [] env))=true:=by
 have:∀{es:List Expr},es.all notStar=true->(backTo pos (starEach es env)).all (λx=>!x.1)=true:=by
  intro es
  induction es with
  | nil=>intro _;rfl
  | cons e es ih =>
   intro h
   rw[MA,LG] at h
   rw[aE h.1]
   show (true&&(backTo pos (starEach es env)).all (λx=>!x.1))=true
   rw[ih h.2];rfl
 unfold methodCallForm
 rw[this h]
 show (true&&(true&&decide (args.length+0+0<30)))=true
 rw[show decide (args.length+0+0<30)=true from decide_eq_true (by omega)]
 rfl
theorem lO{r:Tr}(R:cp tb k r)(S:Sit tb k X E s){o:Expr}{mn:Str}{args:List Expr}{m:Mi Rr}{apos cpos:Pos}{c:Str}{fi:FI}(hl:(apos.endLine==cpos.line)=true)(hb:lT o=true)(hc:(mn,c,fi)∈tb.mts)(h:qR tb r s o mn args c fi=some m):JE X E (.Call (.Attribute o mn apos) args [] cpos) m:=by
 obtain⟨h0,h⟩:=au h
 simp only[LG,Ml] at h0
 obtain⟨mo,e1,h⟩:=ab h
 obtain⟨ma,e2,h⟩:=ab h
 cases h
 obtain⟨h1,e2⟩:=au e2
 rw[beq_iff_eq] at h1
 obtain⟨i1,i2,i3⟩:=jL (λ_ _=>R.E S) (λ_ _=>nk R S) e2
 obtain⟨C,fa,fd,ps,F,hm,hC,hM,hbd⟩:=S.gd.mt _ _ _ hc
 obtain⟨ds,dvs,hb1,hb2,hb3⟩:=hbd.of (args.length+1)
 have ho:JE X E o mo:=by
  unfold vp at e1
  split at e1
  ·exact R.E S e1
  ·exact nk R S e1
 have len:=Nn h0.2
 cases args with
 | nil =>
  cases e2
  exact xJ hm hC hM F (S.rm h0.1) hb1 hb2 hb3 (S.ps h0.1) ho (by simpa using h1) (eh hb _ _ _) hl
 | cons a as =>
  have i3':=i3
  rw[MA,LG] at i3'
  exact Ah hm hC hM F (S.rm h0.1) hb1 hb2 hb3 (S.ps h0.1) ho i1 (λρ rs ρ' q=>by rw[i2 ρ rs ρ' q];exact h1) (eh hb _ _ _) (Bc i3 len _ _) hl (aE i3'.1 _ _) (fZ i3'.2)
theorem pH{r:Tr}(R:cp tb k r)(S:Sit tb k X E s){o:Expr}{mn:Str}{args:List Expr}{apos cpos:Pos}(hl:(apos.endLine==cpos.line)=true)(hb:lT o=true):∀{cs:List (Str×FI)}{m:Mi Rr},(∀p∈cs,(mn,p.1,p.2)∈tb.mts)->vR tb r s o mn args cs=some m->JE X E (.Call (.Attribute o mn apos) args [] cpos) m
 | [],m,_,h=>by cases h
 | [p],m,hc,h=>lO R S hl hb (hc p LW) h
 | p::q::ps,m,hc,h=>by
  obtain⟨a,e1,h⟩:=ab h
  obtain⟨b,e2,h⟩:=ab h
  cases h
  exact xZ (lO R S hl hb (hc p LW) e1) (pH R S hl hb (λx hx=>hc x (LX _ hx)) e2)
noncomputable def yQ(tb:Tb)(r:Tr)(s:Sc)(o:Expr)(m:Str)(apos:Pos)(args:List Expr)(cpos:Pos):Option (Mi Rr):=grd (apos.endLine==cpos.line&&lT o) (match Cf tb m with
 | p::ps=>vR tb r s o m args (p::ps)
 | []=>match args with
 | []=>Iu s o m
 | [e]=>grd (notStar e) (GU r s o m e)
 | _=>none)
theorem uh{r:Tr}(R:cp tb k r)(S:Sit tb k X E s){o:Expr}{mn:Str}{args:List Expr}{m:Mi Rr}{apos cpos:Pos}(h:yQ tb r s o mn apos args cpos=some m):JE X E (.Call (.Attribute o mn apos) args [] cpos) m:=by
 have h':=au h
 clear h
 obtain⟨h0,h⟩:=h'
 rw[LG] at h0
 split at h
 ·rename_i p ps ep
  refine pH R S h0.1 h0.2 (λx hx=>?_) h
  rw[<- ep] at hx
  unfold Cf at hx
  obtain⟨⟨a,b⟩,h1,h2⟩:=N5.mp hx
  simp only at h2
  split at h2
  ·rename_i z;cases h2;rw[beq_iff_eq] at z;subst z;exact h1
  ·cases h2
 split at h
 ·unfold Iu at h
  split at h
  ·obtain⟨i,e1,h⟩:=ab h
   obtain⟨a1,a2,a3,a4⟩:=S.slot e1
   split at h
   ·rename_i z;rw[beq_iff_eq] at z;cases h;subst z;exact vg a1 a2 a3 a4 rfl h0.1
   ·split at h
    ·rename_i z;rw[beq_iff_eq] at z;cases h;subst z;exact DA a1 a2 a3 a4 rfl h0.1
    ·cases h
  ·cases h
 ·have h':=au h
  clear h
  obtain⟨hs,h⟩:=h'
  unfold GU at h
  split at h
  ·rename_i z;rw[beq_iff_eq] at z
   split at h
   ·obtain⟨i,e1,h⟩:=ab h
    obtain⟨n,e2,h⟩:=ab h
    obtain⟨a1,a2,a3,a4⟩:=S.slot e1
    cases h;subst z
    exact tU a1 a2 a3 a4 (R.E S e2) rfl (Af hs _ _) h0.1 (aE hs _ _) rfl
   ·cases h
  ·split at h
   ·rename_i z;rw[beq_iff_eq] at z
    obtain⟨a,e1,h⟩:=ab h
    obtain⟨n,e2,h⟩:=ab h
    cases h;subst z
    exact Bz (R.E S e1) (R.E S e2) (λx y=>u9 PySem.F.plainAttrs_str PySem.F.slot_str_join PySem.F.type_str_join wM x (bX y eC (aE hs _ _)) (eh h0.2 _ _ _) (Af hs _ _) h0.1 (aE hs _ _) rfl)
   ·split at h
    ·rename_i z;rw[beq_iff_eq] at z
     split at h
     ·obtain⟨_,h⟩:=au h
      obtain⟨i,e1,h⟩:=ab h
      obtain⟨n,e2,h⟩:=ab h
      obtain⟨a1,a2,a3,a4⟩:=S.slot e1
      cases h;subst z
      exact Ad a1 a2 a3 a4 (R.E S e2) (Iw rfl hs h0.1)
     ·cases h
    ·cases h
 ·cases h
noncomputable def stK:Const->Option (Mi Rr)
 | .none=>some (mC .non)
 | .bool b=>some (mC (.bl b))
 | .int i=>some (mC (.int i))
 | .str x=>some (mC (.str x))
 | _=>none
noncomputable def J5(m n:Mi Rr):Operator->Option (Mi Rr)
 | .Add=>some (mOp aW m n)
 | .Sub=>some (mOp gJ m n)
 | .Mult=>some (mOp bL m n)
 | .FloorDiv=>some (mOp lF m n)
 | .Mod=>some (mOp gL m n)
 | .Pow=>some (mOp jA m n)
 | _=>none
theorem yZ{a b:Expr}{m n q:Mi Rr}{op:Operator}{pos:Pos}(h:J5 m n op=some q)(ha:JE X E a m)(hb:JE X E b n):JE X E (.BinOp a op b pos) q:=by
 cases op<;>first|(cases h;done)|skip
 ·cases h;exact zG ha hb
 ·cases h;exact Gb ha hb
 ·cases h;exact Eb ha hb
 ·cases h;exact D7 ha hb
 ·cases h;exact EG ha hb
 ·cases h;exact EB ha hb
theorem Cm{op op':CmpOp}{b c:Expr}(h:eV c=true):lastMarks [op,op'] [b,c]=false:=fX h
noncomputable def rS(r:Tr)(s:Sc)(a:Expr)(ops:List CmpOp)(bs:List Expr):Option (Mi Rr):=match ops,bs with
 | [op],[b]=>aq (r.E s a) λm=>aq (r.E s b) λn=>trC s op a b m n
 | [op,op'],[b,c]=>grd (eV b&&eV c) (aq (chI op) λp=>aq (chI op') λq=>aq (r.E s a) λma=>aq (r.E s b) λmb=>aq (r.E s c) λmc=>some (dZ p q ma mb mc))
 | _,_=>none
theorem pe{r:Tr}(R:cp tb k r)(S:Sit tb k X E s){a:Expr}{ops:List CmpOp}{bs:List Expr}{m:Mi Rr}{pos:Pos}(h:rS r s a ops bs=some m):JE X E (.Compare a ops bs pos) m/\JT X E (.Compare a ops bs pos) (ah m):=by
 unfold rS at h
 split at h
 ·obtain⟨m1,e1,h⟩:=ab h
  obtain⟨m2,e2,h⟩:=ab h
  exact Fb S h (R.E S e1) (R.E S e2)
 ·obtain⟨h0,h⟩:=au h
  rw[LG] at h0
  obtain⟨p,e1,h⟩:=ab h
  obtain⟨q,e2,h⟩:=ab h
  obtain⟨ma,e3,h⟩:=ab h
  obtain⟨mb,e4,h⟩:=ab h
  obtain⟨mc,e5,h⟩:=ab h
  cases h
  obtain⟨r1,o1,q1⟩:=uX (X:=X) e1
  obtain⟨r2,o2,q2⟩:=uX (X:=X) e2
  exact⟨oO o1 o2 q1 q2 (R.E S e3) (R.E S e4) (R.E S e5) (Cm h0.2),yR o1 o2 q1 q2 (R.E S e3) (R.E S e4) (R.E S e5) (Cm h0.2)⟩
 ·cases h
noncomputable def vX(r:Tr)(s:Sc)(ks:List (Option Expr))(vs:List Expr):Option (Mi Rr):=match ks,vs with
 | [],[]=>some jg
 | [some (.Constant (.str y) _ _)],[v]=>aq (r.E s v) λm=>some (i7 y m)
 | _,_=>none
theorem yy{r:Tr}(R:cp tb k r)(S:Sit tb k X E s){ks:List (Option Expr)}{vs:List Expr}{m:Mi Rr}{pos:Pos}(h:vX r s ks vs=some m):JE X E (.Dict ks vs pos) m:=by
 unfold vX at h
 split at h
 ·cases h;exact A2
 ·obtain⟨m1,e1,h⟩:=ab h
  cases h;exact uZ (R.E S e1)
 ·cases h
noncomputable def Ef(tb:Tb)(r:Tr)(s:Sc)(f:Expr)(args:List Expr)(kw:List Keyword)(cpos:Pos):Option (Mi Rr):=match kw with
 | []=>match f with
  | .Name f _=>ye tb r s f args
  | .Attribute o m apos=>yQ tb r s o m apos args cpos
  | _=>none
 | _::_=>none
theorem AR{r:Tr}(R:cp tb k r)(S:Sit tb k X E s){f:Expr}{args:List Expr}{kw:List Keyword}{m:Mi Rr}{pos:Pos}(h:Ef tb r s f args kw pos=some m):JE X E (.Call f args kw pos) m:=by
 unfold Ef at h
 split at h
 ·split at h
  ·exact uk R S h
  ·exact uh R S h
  ·cases h
 ·cases h
noncomputable def stE(tb:Tb)(r:Tr)(s:Sc):Expr->Option (Mi Rr)
 | .Name x _=>match slot s x with
  | some i=>some (ae i)
  | none=>aq (tb.cst.lookup x) λa=>grd (glB s x) (some (mC a))
 | .Constant c _ _=>stK c
 | .BinOp a op b _=>aq (r.E s a) λm=>aq (r.E s b) λn=>J5 m n op
 | .UnaryOp op a _=>match op with
  | .USub=>aq (r.E s a) λm=>some (mUn CS m)
  | .Not=>aq (r.E s a) λm=>some (kX m)
  | _=>none
 | .BoolOp op vs _=>trB op (r.E s) vs
 | .Compare a ops bs _=>rS r s a ops bs
 | .IfExp t a b _=>aq (r.T s t) λmt=>aq (r.E s a) λm=>aq (r.E s b) λn=>some (mIf mt m n)
 | .Tuple es _ _=>aq (vz (r.E s) es) λm=>some (bI m)
 | .List es _=>aq (vz (r.E s) es) λm=>some (bV m)
 | .Dict ks vs _=>vX r s ks vs
 | .Subscript a b _=>yS r s a b
 | .Call f args kw cpos=>Ef tb r s f args kw cpos
 | .Attribute o f _=>grd (lT o) (aq (r.E s o) λm=>some (mUn (aU (wV tb f) f) m))
 | .ListComp elt gs sc _=>kB r s elt gs sc
 | _=>none
theorem Eu{r:Tr}(R:cp tb k r)(S:Sit tb k X E s){e:Expr}{m:Mi Rr}(h:stE tb r s e=some m):JE X E e m:=by
 cases e with
 | Name x _ =>
  have h:(match slot s x with
   | some i=>some (ae i)
   | none=>aq (tb.cst.lookup x) λa=>grd (glB s x) (some (mC a)))=some m:=h
  split at h
  ·rename_i e1;cases h
   obtain⟨a1,a2,a3,a4⟩:=S.slot e1
   exact ES a1 a2 a3 a4
  ·obtain⟨a,e1,h⟩:=ab h
   obtain⟨hg,h⟩:=au h
   cases h
   obtain⟨v,u,h1,h2,h3⟩:=S.gd.cs _ _ e1
   exact Ai (S.glob hg).1 h1 h2 h3 (S.glob hg).2
 | Constant c _ _ =>
  cases c<;>first|(cases h;done)|skip
  ·cases h;exact DV
  ·cases h;exact Kf
  ·cases h;exact En
  ·cases h;exact Ej
 | BinOp a op b _ =>
  obtain⟨m1,e1,h⟩:=ab h
  obtain⟨m2,e2,h⟩:=ab h
  exact yZ h (R.E S e1) (R.E S e2)
 | UnaryOp op a _ =>
  cases op<;>first|(cases h;done)|skip
  ·obtain⟨m1,e1,h⟩:=ab h
   cases h;exact Fj (R.E S e1)
  ·obtain⟨m1,e1,h⟩:=ab h
   cases h;exact Ep (R.E S e1)
 | BoolOp op vs _=>exact yp (λ_ _=>R.E S) h
 | Compare a ops bs _=>exact(pe R S h).1
 | IfExp t a b _ =>
  obtain⟨mt,e1,h⟩:=ab h
  obtain⟨m1,e2,h⟩:=ab h
  obtain⟨m2,e3,h⟩:=ab h
  cases h;exact Jn (R.T S e1) (R.E S e2) (R.E S e3)
 | Tuple es _ _ =>
  obtain⟨m1,e1,h⟩:=ab h
  cases h;exact ET (jC (λ_ _=>R.E S) e1).1
 | List es _ =>
  obtain⟨m1,e1,h⟩:=ab h
  cases h;exact C8 (jC (λ_ _=>R.E S) e1).1
 | Dict ks vs _=>exact yy R S h
 | Subscript a b _=>exact we R S h
 | Call f args kw cpos=>exact AR R S h
 | Attribute o f _ =>
  obtain⟨hb,h⟩:=au h
  obtain⟨m1,e1,h⟩:=ab h
  cases h
  exact A4 (λc C=>S.gd.fl _ c C) (R.E S e1) (eh hb _ _ _)
 | ListComp elt gs sc _ =>
  obtain⟨hh,N,own,tg,iter,ifs,mi,G,mt,me,rfl,rfl,C1,C2,C3,C4,C5,C6⟩:=iY R S h
  exact tw (S.cm hh) C1 rfl C2 C3 C4 C5 C6
 | JoinedStr es _=>cases h
 | _=>cases h
noncomputable def EW(r:Tr)(s:Sc):Expr->Option (Mi Bool)
 | .Compare a ops bs _=>aq (rS r s a ops bs) λq=>some (ah q)
 | .UnaryOp .Not a _=>aq (r.T s a) λm=>some (eQ m)
 | .BoolOp op vs _=>trW op (r.T s) vs
 | e=>grd (plainT e) (aq (r.E s e) λm=>some (ah m))
theorem ze{r:Tr}(R:cp tb k r)(S:Sit tb k X E s){e:Expr}{m:Mi Bool}(h:EW r s e=some m):JT X E e m:=by
 unfold EW at h
 split at h
 ·obtain⟨q,e1,h⟩:=ab h
  cases h
  exact(pe R S e1).2
 ·obtain⟨m1,e1,h⟩:=ab h
  cases h;exact Dc (R.T S e1)
 ·exact HH (wU (λ_ _=>R.T S) h)
 ·obtain⟨h0,h⟩:=au h
  obtain⟨m1,e1,h⟩:=ab h
  cases h;exact EF (R.E S e1) (qC h0 _)
noncomputable def tr(tb:Tb):Nat->Tr
 | 0=>⟨λ_ _=>none,λ_ _=>none,λ_ _ _=>none⟩
 | n+1=>⟨λs e=>oor (xP tb (tr tb n) s e) (oor (stE tb (tr tb n) s e) (xE tb (tr tb n) s e)),λs e=>oor (EW (tr tb n) s e) (xT tb (tr tb n) s e),xI tb (tr tb n)⟩
theorem kM:∀n,cp tb k (tr tb n)
 | 0=>⟨λ_ h=>(by cases h),λ_ h=>(by cases h),λ_ h=>(by cases h)⟩
 | n+1=>⟨λS h=>by
   rcases cH h with h|h
   ·exact Ic (kM n) S h
   rcases cH h with h|h
   ·exact Eu (kM n) S h
   ·exact JL (kM n) S h,λS h=>by
   rcases cH h with h|h
   ·exact ze (kM n) S h
   ·exact Hr (kM n) S h,λS h=>Kn (kM n) S h⟩
end
end M
namespace M
open PySem L2
structure jx (tb:Tb) (k:Nat) (X:Cx) (E:XK) (s:Sc):Prop extends Sit tb k X E s where
 po:s.hd=false->PassesOwn (model X.prog X.w) X.A X.env X.xe
 st:s.hd=false->X.stack=X.env::X.outer/\X.env.frame=some X.env.locals/\X.ex=[]
 bk:X.env.blockKind=.function
noncomputable def Kp:Expr->Bool
 | .Starred ..=>true
 | _=>false
noncomputable def swB(x y:Str)(px py:Pos)(a b:Expr):Bool:=x != y&&px.line==py.line&&notStar a&&notStar b&&!([a,b].all (foldedForSure 8))&&!([a,b].all (constantsAlone 8))
theorem Iz{env:Env}{x y:Str}{px py pt pt2:Pos}{kt k2:Nat}{a b:Expr}(h:swB x y px py a b=true)(hx:env.kindOf x=some .local)(hy:env.kindOf y=some .local)(hb:env.blockKind=.function) :
  swappedStores [.Tuple [.Name x px,.Name y py] kt pt] (.Tuple [a,b] k2 pt2) env=pure (some [x,y]):=by
 unfold swB at h
 simp only[LG,bne_iff_ne,ne_eq,beq_iff_eq,Ml] at h
 obtain⟨⟨⟨⟨⟨h1,h2⟩,h3⟩,h4⟩,h5⟩,h6⟩:=h
 have s1:(([a,b]:List Expr).any fun | .Starred ..=>true|_=>false)=false:=by
  rw[Oc]
  intro e he
  have hn:notStar e=true:=by
   rcases Me.mp he with z|z
   ·rw[z];exact h3
   ·rw[Ma.mp z];exact h4
  cases e<;>first|(cases hn;done)|exact Mz
 have hyx:(y==x)=false:=beq_eq_false_iff_ne.mpr λz=>h1 z.symm
 have hxy:(x==y)=false:=beq_eq_false_iff_ne.mpr h1
 unfold swappedStores
 have pn:∀(n:Str)(p:Pos),(Expr.Name n p).pos=p:=λ_ _=>rfl
 simp[hb,s1,hx,hy,pn,<- h2,h5,h6,List.eraseDups_cons,hyx,hxy]
 intro z
 exfalso
 rcases z with z|z
 ·cases a<;>first|(cases h3;done)|cases z
 ·cases b<;>first|(cases h4;done)|cases z
noncomputable def tF:Expr->Bool
 | .Tuple _ _ _=>false
 | _=>true
theorem kz{tg e:Expr}{env:Env}(h:tF e=true):swappedStores [tg] e env=pure none:=by
 cases tg<;>first|rfl|(cases e<;>first|rfl|cases h)
theorem qh{o i e:Expr}{p:Pos}{env:Env}:swappedStores [.Subscript o i p] e env=pure none:=by cases e<;>rfl
theorem mw{e o i:Expr}{p:Pos}{l:Nat}{env:Env}:swapsWith e (some (.Subscript o i p)) l env=pure false:=by cases e<;>rfl
theorem ql{elt:Expr}{gs:List Comprehension}{sc:Scope}{pos px:Pos}{x:Str}{l:Nat}{env:Env}(h:env.kindOf x=some .cell):swapsWith (.ListComp elt gs sc pos) (some (.Name x px)) l env=pure false:=by
 unfold swapsWith
 show (pure (env.blockKind==.function&&env.kindOf x==some .local&&px.line==pos.line&&!(sc.names.any λp=>p.1==x&&(p.2==.local || p.2==.cell))):Sem Bool)=pure false
 rw[h,show (some (NameKind.cell)==some (NameKind.local))=false from rfl,N7,PV,PV]
theorem oR{t e:Expr}(h:iA e=true)(l:Nat)(env:Env):swapsWithSole [t] e l env=pure false:=jc h (some t) l env
theorem vf{e o i:Expr}{p:Pos}{l:Nat}{env:Env}:swapsWithSole [.Subscript o i p] e l env=pure false:=mw (e:=e) (o:=o) (i:=i) (p:=p) (l:=l) (env:=env)
theorem BH{o i:Expr}{p:Pos}{env:Env}(h:fU i=true)(v:Value):assign (.Subscript o i p) env v=(do
   let ov <- holding [v] (eval o env)
   let iv <- holding [v,ov] (eval i env)
   standAt p
   holding [v,ov,iv] (setItem ov iv v)
   release [v,ov,iv] []):=by cases i<;>first|rfl|cases h
section
variable{tb:Tb}{k:Nat}{X:Cx}{E:XK}{s:Sc}
noncomputable def vB(r:Tr)(s:Sc)(x:Str)(px:Pos)(e:Expr):Option Ms:=aq (gT s x) λi=>match e with
 | .ListComp elt gs sc pos=>match isK s x .local with
  | true=>grd (px.line==pos.line&&!(sc.names.any λp=>p.1==x&&(p.2==.local || p.2==.cell))) (aq (kB r s elt gs sc) λm=>some (aD i m))
  | false=>aq (r.E s e) λm=>some (aD i m)
 | e=>grd (iA e) (aq (r.E s e) λm=>some (aD i m))
theorem ud{r:Tr}(R:cp tb k r)(S:jx tb k X E s){x:Str}{px pos:Pos}{e:Expr}{m:Ms}(h:vB r s x px e=some m):JS X E (.Assign [.Name x px] e pos) m:=by
 obtain⟨i,e1,h⟩:=ab h
 obtain⟨a1,a2,a3,a4⟩:=S.gT e1
 have hN:X.N.Nodup:=by rw[S.n];exact S.nd
 split at h
 ·split at h
  ·rename_i z
   obtain⟨h0,h⟩:=au h
   simp only[LG,Ml] at h0
   obtain⟨m1,e2,h⟩:=ab h
   cases h
   have hl:X.env.scope.names.lookup x=some .local:=S.lc x (by unfold isK at z;simpa using z)
   obtain⟨hh,N,own,tg,iter,ifs,mi,G,mt,me,rfl,rfl,C1,C2,C3,C4,C5,C6⟩:=iY R S.toSit e2
   exact Br (S.cm hh) C1 rfl hN a1 hl (qE S.bk hl h0.1 h0.2) C2 C3 C4 C5 C6
  ·rename_i z
   obtain⟨m1,e2,h⟩:=ab h
   cases h
   refine vi hN a1 a2 (R.E S.toSit e2) (ql ?_) a4
   obtain⟨g,_⟩:=au e1
   simp only[LG,p9,MZ] at g
   rcases g.1 with y|y
   ·rw[y] at z;cases z
   ·exact S.ce x (by unfold isK at y;simpa using y)
 ·obtain⟨h0,h⟩:=au h
  obtain⟨m1,e2,h⟩:=ab h
  cases h
  exact vi hN a1 a2 (R.E S.toSit e2) (jc h0 _ _ _) a4
noncomputable def xR(r:Tr)(s:Sc)(ts:List Expr)(e:Expr):Option Ms:=match ts,e with
 | [.Name x px,.Name y py],.Tuple [a,b] _ _=>grd (!s.hd&&isK s x .local&&isK s y .local&&okN x&&okN y&&swB x y px py a b) (aq (gT s x) λi=>aq (gT s y) λj=>grd (i != j) (aq (vz (r.E s) [a,b]) λm=>some (uJ i j m)))
 | _,_=>grd (tF e&&iA e) (aq (r.E s e) λm=>aq (trG s 0 9 (.Tuple ts 0 default)) λg=>some (FJ m g))
theorem FY{lo d:Nat}{ts:List Expr}{n n':Nat}{p p':Pos}{g:Mg}(h:trG s lo d (.Tuple ts n p)=some g):trG s lo d (.Tuple ts n' p')=some g:=by
 cases d with
 | zero=>cases h
 | succ d=>exact h
theorem v5{r:Tr}(R:cp tb k r)(S:jx tb k X E s){ts:List Expr}{kt:Nat}{pt pos:Pos}{e:Expr}{m:Ms}(h:xR r s ts e=some m):JS X E (.Assign [.Tuple ts kt pt] e pos) m:=by
 have hN:X.N.Nodup:=by rw[S.n];exact S.nd
 unfold xR at h
 split at h
 ·obtain⟨h0,h⟩:=au h
  simp only[LG,Ml] at h0
  obtain⟨⟨⟨⟨⟨h1,h2⟩,h3⟩,_⟩,_⟩,h4⟩:=h0
  obtain⟨i,e1,h⟩:=ab h
  obtain⟨j,e2,h⟩:=ab h
  obtain⟨hij,h⟩:=au h
  obtain⟨ma,e3,h⟩:=ab h
  cases h
  obtain⟨a1,_,_,_⟩:=S.gT e1
  obtain⟨b1,_,_,_⟩:=S.gT e2
  have l1:=S.lc _ (show s.nm.lookup _=_ by unfold isK at h2;simpa using h2)
  have l2:=S.lc _ (show s.nm.lookup _=_ by unfold isK at h3;simpa using h3)
  have ij:i≠j:=by simpa using hij
  exact E8 (jC (λ_ _=>R.E S.toSit) e3).1 ij (λy=>Ed (S.cm h1) hN a1 b1 ij l1 l2 y (Iz h4 l1 l2 S.bk))
 ·obtain⟨h0,h⟩:=au h
  rw[LG] at h0
  obtain⟨m1,e1,h⟩:=ab h
  obtain⟨g,e2,h⟩:=ab h
  cases h
  exact Dn (R.E S.toSit e1) (jY S.toSit (FY e2)) (oR h0.2 _ _) (kz h0.1) (hp:=λx y=>wR x y (oR h0.2 _ _) (kz h0.1))
noncomputable def Hl(r:Tr)(s:Sc)(x:Str)(ek e:Expr):Option Ms:=aq (slot s x) λi=>aq (r.E s ek) λmk=>aq (r.E s e) λm=>grd (!s.hd&&fU ek) (match s.di.contains x with
 | true=>some (ed i mk m)
 | false=>some (iQ i mk m))
theorem yX{r:Tr}(R:cp tb k r)(S:jx tb k X E s){x:Str}{px p1 pos:Pos}{ek e:Expr}{m:Ms}(h:Hl r s x ek e=some m):JS X E (.Assign [.Subscript (.Name x px) ek p1] e pos) m:=by
 obtain⟨i,e1,h⟩:=ab h
 obtain⟨mk,e2,h⟩:=ab h
 obtain⟨m1,e3,h⟩:=ab h
 obtain⟨hh,h⟩:=au h
 simp only[LG,Ml] at hh
 obtain⟨a1,a2,a3,a4⟩:=S.slot e1
 split at h
 ·cases h
  exact Bb (oF (S.rm hh.1)) a1 a2 a3 a4 (R.E S.toSit e2) (R.E S.toSit e3) mw
 ·cases h
  exact vh a1 a2 a3 a4 (R.E S.toSit e2) (R.E S.toSit e3) (λx y z=>wR z (DZ x y set_list (BH hh.2)) vf qh)
theorem ug{e o:Expr}{f:Str}{p:Pos}{l:Nat}{env:Env}:swapsWith e (some (.Attribute o f p)) l env=pure false:=by cases e<;>rfl
noncomputable def Hv(tb:Tb)(r:Tr)(s:Sc)(x f:Str)(e:Expr):Option Ms:=aq (slot s x) λi=>aq (r.E s e) λm=>some (dW (wV tb f) i f m)
theorem AZ{r:Tr}(R:cp tb k r)(S:jx tb k X E s){x f:Str}{px p1 pos:Pos}{e:Expr}{m:Ms}(h:Hv tb r s x f e=some m):JS X E (.Assign [.Attribute (.Name x px) f p1] e pos) m:=by
 obtain⟨i,e1,h⟩:=ab h
 obtain⟨m1,e2,h⟩:=ab h
 cases h
 obtain⟨a1,a2,a3,a4⟩:=S.slot e1
 exact Be a1 a2 a3 a4 (λc C=>S.gd.fl _ c C) (R.E S.toSit e2) ug
noncomputable def vo(tb:Tb)(r:Tr)(s:Sc)(t e:Expr):Option Ms:=match t with
 | .Name x px=>vB r s x px e
 | .Tuple ts _ _=>xR r s ts e
 | .Subscript (.Name x _) ek _=>Hl r s x ek e
 | .Attribute (.Name x _) f _=>Hv tb r s x f e
 | _=>none
theorem xw{r:Tr}(R:cp tb k r)(S:jx tb k X E s){t e:Expr}{m:Ms}{pos:Pos}(h:vo tb r s t e=some m):JS X E (.Assign [t] e pos) m:=by
 unfold vo at h
 split at h
 ·exact ud R S h
 ·exact v5 R S h
 ·exact yX R S h
 ·exact AZ R S h
 ·cases h
end
end M
namespace M
open PySem L2
section
variable{tb:Tb}{k:Nat}{X:Cx}{E:XK}{s:Sc}
noncomputable def k7(F:Stmt->Option Ms):List Stmt->Option Ms
 | []=>some aG
 | [a]=>F a
 | a::b::r=>aq (F a) λm=>aq (k7 F (b::r)) λn=>some (av m n)
theorem gu{F:Stmt->Option Ms}(h:∀a m,F a=some m->JS X E a m):∀{l:List Stmt}{m:Ms},k7 F l=some m->JSs X E l m
 | [],m,e=>by cases e;exact za
 | [a],m,e=>Bs (h _ _ e)
 | a::b::r,m,e=>by
  obtain⟨m1,e1,e⟩:=ab e
  obtain⟨m2,e2,e⟩:=ab e
  cases e;exact yT (h _ _ e1) (gu h e2)
noncomputable def xS(tb:Tb)(r:Tr)(s:Sc)(F:Sc->Stmt->Option Ms)(st:Stmt):Option Ms:=none
theorem Ii{r:Tr}{F:Sc->Stmt->Option Ms}(R:cp tb k r)(S:jx tb k X E s)(HF:∀E1,Passes CX0 X E1->∀a m,F s a=some m->JS X E1 a m){st:Stmt}{m:Ms}(h:xS tb r s F st=some m):JS X E st m:=by
 cases h
end
end M
namespace M
open PySem L2
section
variable{tb:Tb}{k:Nat}{X:Cx}{E:XK}{s:Sc}
noncomputable def CB(r:Tr)(s:Sc)(tg it:Expr)(b:Ms):Option Ms:=grd (eV it) (aq (trI r s tg it) λm=>aq (trG s 0 9 tg) λG=>some (c8 m G b))
theorem xy{r:Tr}(R:cp tb k r)(S:jx tb k X E s)(hh:s.hd=false){tg it:Expr}{body:List Stmt}{b m:Ms}{pos:Pos}(hb:JSs X E body b)(h:CB r s tg it b=some m):JS X E (.For tg it body [] pos) m:=by
 obtain⟨h0,h⟩:=au h
 obtain⟨m1,e1,h⟩:=ab h
 obtain⟨G,e2,h⟩:=ab h
 cases h
 exact Ea (S.po hh) (S.cm hh) (vY R S.toSit e1) (jY S.toSit e2) hb (hU h0 _)
noncomputable def vG(tb:Tb)(r:Tr)(s:Sc)(ts:List Expr)(e:Expr):Option Ms:=match ts with
 | [t]=>vo tb r s t e
 | _=>none
noncomputable def Ks(tb:Tb)(r:Tr)(s:Sc)(ex ca:Option Expr):Option Ms:=some fO
noncomputable def stS(tb:Tb)(r:Tr)(s:Sc)(F:Sc->Stmt->Option Ms):Stmt->Option Ms
 | .Assign ts e _=>vG tb r s ts e
 | .Return none _=>some xa
 | .Return (some e) _=>aq (r.E s e) λm=>some (aH m)
 | .If t a b _=>aq (r.T s t) λmt=>aq (k7 (F s) a) λm=>aq (k7 (F s) b) λn=>some (sIf mt m n)
 | .While t b els _=>grd (!s.hd&&els.isEmpty) (aq (r.T s t) λmt=>aq (k7 (F s) b) λm=>some (iO BIG mt m))
 | .For tg it b els _=>grd (!s.hd&&els.isEmpty) (aq (k7 (F s) b) λm=>CB r s tg it m)
 | .Raise ex ca _=>Ks tb r s ex ca
 | .Expr e _=>grd (iA e) (aq (r.E s e) λm=>some (bE m))
 | .Pass _=>some aG
 | .Break _=>some vW
 | .Continue _=>some CC
 | _=>none
noncomputable def trS(tb:Tb)(r:Tr):Nat->Sc->Stmt->Option Ms
 | 0,_,_=>none
 | d+1,s,st=>oor (xS tb r s (trS tb r d) st) (stS tb r s (trS tb r d) st)
theorem jx.G5{E':XK}(S:jx tb k X E s)(h1:Passes CX0 X E'):jx tb k X E' s:=⟨⟨S.n,S.nd,S.gl,S.vs,S.lo,S.lc,S.ce,S.fx,S.cm,S.rm,λ_=>h1,S.gd⟩,S.po,S.st,S.bk⟩
theorem qF{r:Tr}(R:cp tb k r):∀{d:Nat}{X:Cx}{E:XK}{s:Sc}{st:Stmt}{m:Ms},jx tb k X E s->trS tb r d s st=some m->JS X E st m
 | 0,X,E,s,st,m,S,h=>by cases h
 | d+1,X,E,s,st,m,S,h=>by
  have ih:∀a m,trS tb r d s a=some m->JS X E a m:=λa m e=>qF R S e
  unfold trS at h
  have h':=cH h
  clear h
  rcases h' with h|h
  ·exact Ii R S (λE' h1 a m e=>qF R (S.G5 h1) e) h
  cases st with
  | Assign ts e _ =>
   have h:vG tb r s ts e=some m:=h
   unfold vG at h
   split at h
   ·exact xw R S h
   ·cases h
  | Return v _=>cases v with
   | none=>cases h;exact BM
   | some e =>
    obtain⟨m1,e1,h⟩:=ab h
    cases h;exact Gk (R.E S.toSit e1)
  | If t a b _ =>
   obtain⟨mt,e1,h⟩:=ab h
   obtain⟨m1,e2,h⟩:=ab h
   obtain⟨m2,e3,h⟩:=ab h
   cases h;exact Jg (R.T S.toSit e1) (gu ih e2) (gu ih e3)
  | While t b els _ =>
   have h':=au h
   clear h
   obtain⟨h0,h⟩:=h'
   simp only[LG,Ml,Nc] at h0
   obtain⟨hh,rfl⟩:=h0
   obtain⟨mt,e1,h⟩:=ab h
   obtain⟨m1,e2,h⟩:=ab h
   cases h;exact yF (S.po hh) (R.T S.toSit e1) (gu ih e2)
  | For tg it b els _ =>
   have h':=au h
   clear h
   obtain⟨h0,h⟩:=h'
   simp only[LG,Ml,Nc] at h0
   obtain⟨hh,rfl⟩:=h0
   obtain⟨m1,e2,h⟩:=ab h
   exact xy R S hh (gu ih e2) h
  | Raise ex ca _=>cases h;exact A3
  | Expr e _ =>
   obtain⟨h0,h⟩:=au h
   obtain⟨m1,e1,h⟩:=ab h
   cases h;exact Ak (R.E S.toSit e1) (jc h0 _ _ _)
  | Pass _=>cases h;exact y3
  | Break _=>cases h;exact vk
  | Continue _=>cases h;exact zP
  | _=>cases h
structure DI where
 cl:Option Str
 name:Str
 st:Stmt
 N:List Str
 n:Nat
 di:List Str
 mu:List Bool
 df:List A
 lv:List Str
 m:Ms
noncomputable def DI.sc(d:DI):Sc:={ N:=d.N,nm:=(aJ d.st).names,di:=d.di,ca:=[],hd:=false,lv:=d.lv }
noncomputable def fW(d:DI):Bool:=(aJ d.st).kind==.function&&!(aJ d.st).isCoroutine&&!(aJ d.st).isGenerator&&decide d.N.Nodup&&O1 d.n d.N.length&&(d.N.take d.n).all (λx=>(aJ d.st).names.lookup x==some .local || (aJ d.st).names.lookup x==some .cell)&&(aJ d.st).names.all (λy=>y.2 != .free)
theorem gy{d:DI}(h:fW d=true):iH d.N (d.N.take d.n) (aJ d.st)/\(d.N.take d.n).length=d.n:=by
 unfold fW at h
 simp only[LG,beq_iff_eq,Ml,decide_eq_true_eq,Mv,MZ,bne_iff_ne,ne_eq] at h
 obtain⟨⟨⟨⟨⟨⟨h1,h2⟩,h3⟩,h4⟩,h5⟩,h6⟩,h7⟩:=h
 have hl:(d.N.take d.n).length=d.n:=by rw[Mm];have:=Nn h5;omega
 exact⟨⟨h1,h2,h3,h4,by rw[hl],h6,h7⟩,hl⟩
noncomputable def DI.M(d:DI):Ms:=aX (d.N.length-d.n) d.m
noncomputable def DI.fi(d:DI):FI:=⟨d.n,d.M,d.mu,d.df⟩
noncomputable def DI.qual(d:DI):Str:=match d.cl with
 | none=>d.name
 | some c=>c++(("." : Str)++d.name)
noncomputable def Tb.add(tb:Tb)(d:DI):Tb:=match d.cl with
 | none=>{ tb with fns:=(d.name,d.fi)::tb.fns }
 | some c=>match d.name==("__init__" : Str) with
  | true=>{ tb with ini:=(c,d.fi)::tb.ini }
  | false=>{ tb with mts:=(d.name,c,d.fi)::tb.mts }
noncomputable def jS:Nat:=40
theorem Cr{P:Program}{w:World}{K:LD}{mg:Str->Option Value}{base:Heap}{d:DI}{f:Addr}{fd:FuncData}{dV:Value}{qual:Str}(G:Gd tb k P w K mg base)(F:nJ K d.name qual d.st f fd dV)(hs:fW d=true)
  (h:k7 (trS tb (tr tb jS) jS d.sc) (bZ d.st)=some d.m):cV P w K mg base CX0 (k+1) f fd (d.N.take d.n) (SpM ⟨K,mg⟩ d.n d.M):=by
 obtain⟨S,hl⟩:=gy hs
 have key:=AQ (CX:=CX0) (P:=P) (w:=w) (mg:=mg) (base:=base) (k:=k) (m:=d.m) F S (λcdv A outer s H E hr=>gu (λa m e=>qF (kM jS) (?_:jx tb k _ E d.sc) e) h)
 ·rw[hl] at key;exact key
 ·refine⟨⟨rfl,S.nd,λx hx=>hx,λx hx=>?_,λx hx=>?_,λx hx=>hx,λx hx=>hx,λx hx=>.inl rfl,λ_=>rfl,λ_=>hr,λ_ _ _ _ _ _ _ _ x=>x.elim,G⟩,λ_=>PassesOwn.leaving,λ_=>⟨rfl,rfl,rfl⟩,?_⟩
  ·unfold zu isK DI.sc at hx
   simp only[MZ,beq_iff_eq] at hx
   rcases hx with (z|z)|z
   ·exact .inl z
   ·exact .inr (.inl z)
   ·exact .inr (.inr z)
  ·unfold p9 isK DI.sc at hx
   simp only[MZ,beq_iff_eq] at hx
   exact hx
  ·show (if (aJ d.st).kind.isAnnotationScope then ScopeKind.function else (aJ d.st).kind)=.function
   rw[S.kind];rfl
end
end M
namespace M
open PySem L2
theorem fc{ps:List Str}:∀{us:List Value}{n:Str},us.length=ps.length->n∈ps->((ps.zip us).lookup n).isSome=true:=by
 induction ps with
 | nil=>intro us n _ h;cases h
 | cons p ps ih =>
  intro us n hl h
  cases us with
  | nil=>cases hl
  | cons u us =>
   rw[ND,Mq]
   split
   ·rfl
   ·rename_i z
    rcases Me.mp h with y|y
    ·rw[y,beq_self_eq_true] at z;cases z
    ·exact ih (by simpa using hl) y
theorem kq{ps:List Str}:∀{us:List Value}{pre:List (Str×Value)},us.length=ps.length->ps.Nodup->(∀n∈ps,pre.lookup n=none)->ps.filterMap (λn=>((pre++ps.zip us).lookup n).map (n,·))=ps.zip us:=by
 induction ps with
 | nil=>intro us pre _ _ _;rfl
 | cons p ps ih =>
  intro us pre hl nd hp
  cases us with
  | nil=>cases hl
  | cons u us =>
   obtain⟨n1,n2⟩:=Mp.mp nd
   have e1:(pre++(p,u)::ps.zip us).lookup p=some u:=by
    rw[QR,hp p LW,Mq,beq_self_eq_true];rfl
   rw[ND,NV,e1]
   show (p,u)::_=_
   congr 1
   have:=ih (us:=us) (pre:=pre++[(p,u)]) (by simpa using hl) n2 (λn hn=>by
    rw[QR,hp n (LX _ hn),Mq]
    have:(n==p)=false:=beq_eq_false_iff_ne.mpr λz=>n1 (z▸hn)
    rw[this];rfl)
   simpa[LQ] using this
theorem oW{fd:FuncData}{ps:List Str}{us:List Value}(h1:fd.params.posonlyargs=[])(h2:fd.params.kwonlyargs=[])(h3:fd.params.vararg=none)(h4:fd.params.kwarg=none)(h5:fd.defaults=.none)(h6:fd.params.args.map (·.arg)=ps)(nd:ps.Nodup)(hl:us.length=ps.length) :
  bindArgs fd ⟨us,[]⟩=pure (ps.zip us):=by
 have f1:(ps.filter λn=>((ps.zip us).lookup n).isNone)=[]:=by
  rw[OD]
  intro n hn
  have:=fc hl hn
  cases e:(ps.zip us).lookup n with
  | none=>rw[e] at this;cases this
  | some v=>simp
 have f2:=kq (pre:=[]) hl nd (λn _=>rfl)
 rw[MC] at f2
 unfold bindArgs
 simp only[h1,h2,h3,h4,h5,h6,LJ,MC,Mr]
 have e:(seqItems? O3:Sem (Option (Array Value)))=pure none:=rfl
 simp[e,hl,f1,f2]
theorem yo{ps:List Str}:∀{us:List Value}{z:Str},z∉ps->(ps.zip us).lookup z=none:=by
 induction ps with
 | nil=>intro us z _;rfl
 | cons p ps ih =>
  intro us z hz
  cases us with
  | nil=>rfl
  | cons u us =>
   rw[ND,Mq]
   have:(z==p)=false:=beq_eq_false_iff_ne.mpr λy=>hz (y▸LW)
   rw[this]
   exact ih λy=>hz (LX _ y)
theorem tO{ps qs:List Str}:∀{us:List Value},us.length=ps.length->(ps++qs).zip us=ps.zip us:=by
 induction ps with
 | nil=>intro us h;cases us with
  | nil=>cases qs<;>rfl
  | cons _ _=>cases h
 | cons p ps ih=>intro us h;cases us with
  | nil=>cases h
  | cons u us=>rw[MU,ND,ND,ih (by simpa using h)]
theorem xp{s:Shared}{fd:FuncData}{qs:List Str}{z:Str}{us:List Value}{td:Addr}{o:Obj}{dv:Value}{ep:Nat}(h1:fd.params.posonlyargs=[])(h2:fd.params.kwonlyargs=[])(h3:fd.params.vararg=none)(h4:fd.params.kwarg=none)(h5:fd.defaults=.ref td)(ho:s.heap.get? td=some o)(hs:o.data=.seq #[dv] ep)
  (h6:fd.params.args.map (·.arg)=qs++[z])(nd:(qs++[z]).Nodup) :
  (us.length=(qs++[z]).length->BindsTo s fd ⟨us,[]⟩ ((qs++[z]).zip us))/\(us.length=qs.length->BindsTo s fd ⟨us,[]⟩ ((qs++[z]).zip (us++[dv]))):=by
 have nz:z∉qs:=λy=>(L6.mp nd).2.2 z y z LW rfl
 have e1:List.drop (1-(qs++[z]).length) [dv]=[dv]:=by simp
 have e2:(qs++[z]).take ((qs++[z]).length - [dv].length)=qs:=by simp
 have e3:(qs++[z]).drop ((qs++[z]).length - [dv].length)=[z]:=by simp
 refine⟨λhl=>?_,λhl=>?_⟩
 ·refine .of_defaults h5 ho hs rfl ?_
  have f1:qs.filter (λn=>(((qs++[z]).zip us).lookup n).isNone)=[]:=by
   rw[OD]
   intro n hn
   have:=fc hl (Mb [z] hn)
   cases e:((qs++[z]).zip us).lookup n with
   | none=>rw[e] at this;cases this
   | some v=>simp
  have f2:=kq (pre:=[]) hl nd (λn _=>rfl)
  rw[MC] at f2
  have f3:(((qs++[z]).zip us).lookup z).isNone=false:=by
   have:=fc hl (LN qs (LW (a:=z) (l:=[])))
   cases e:((qs++[z]).zip us).lookup z with
   | none=>rw[e] at this;cases this
   | some v=>rfl
  simp only[h1,h2,h3,h4,h6,LJ,MC,Mr]
  simp only[QU,LL,NU,Pw]
  rw[e1,e2,e3]
  have hl':¬ (us.length > (qs++[z]).length):=by rw[hl];omega
  simp only[hl',f1,f2]
  simp[f3]
  rw[<- Qz,f2]
 ·refine .of_defaults h5 ho hs rfl ?_
  have hz:(qs++[z]).zip us=qs.zip us:=tO hl
  have f1:qs.filter (λn=>((qs.zip us).lookup n).isNone)=[]:=by
   rw[OD]
   intro n hn
   have:=fc hl hn
   cases e:(qs.zip us).lookup n with
   | none=>rw[e] at this;cases this
   | some v=>simp
  have f3:((qs.zip us).lookup z).isNone=true:=by rw[yo nz];rfl
  have hl2:(us++[dv]).length=(qs++[z]).length:=by simp[hl]
  have f2:=kq (pre:=[]) hl2 nd (λn _=>rfl)
  rw[MC] at f2
  have f4:(qs++[z]).zip (us++[dv])=qs.zip us++[(z,dv)]:=by rw[List.zip_append hl.symm];rfl
  rw[f4] at f2 ⊢
  simp only[h1,h2,h3,h4,h6,LJ,MC,Mr]
  simp only[QU,LL,NU,Pw]
  rw[e1,e2,e3,hz]
  have hl':¬ (us.length > (qs++[z]).length):=by rw[hl];simp
  simp only[hl',f1,f2]
  simp[f3]
  rw[<- Qz,f2]
mutual
noncomputable def yN(K:LD):Nat->Value->A->Bool
 | 0,_,_=>false
 | n+1,v,a=>match v,a with
  | .none,.non=>true
  | .bool b,.bl c=>b==c
  | .int i _,.int j=>i==j
  | .str x _,.str y=>x==y
  | .ref p,.tup as=>(match K.lookup p with
   | some ⟨.type "tuple",none,.seq its _,_⟩=>O1 its.size 1000&&sZ K n its.toList as
   | _=>false)
  | _,_=>false
noncomputable def sZ(K:LD):Nat->List Value->List A->Bool
 | 0,_,_=>false
 | _+1,[],[]=>true
 | n+1,v::vs,a::as=>yN K n v a&&sZ K n vs as
 | _+1,_,_=>false
end
mutual
theorem mV{K:LD}{mg:Str->Option Value}:∀{n:Nat}{v:Value}{a:A},yN K n v a=true->∃x,RelV x v/\∀G,RA ⟨K,mg⟩ G x a
 | 0,v,a,h=>by cases h
 | n+1,v,a,h=>by
  unfold yN at h
  split at h
  ·exact⟨.non,rfl,λ_=>.non⟩
  ·rw[beq_iff_eq] at h;subst h;exact⟨.bl _,rfl,λ_=>.bl _⟩
  ·rw[beq_iff_eq] at h;subst h;exact⟨.int _,⟨_,rfl⟩,λ_=>.int _⟩
  ·rw[beq_iff_eq] at h;subst h;exact⟨.str _,⟨_,rfl⟩,λ_=>.str _⟩
  ·split at h
   ·rename_i its ep sl e
    rw[LG] at h
    obtain⟨xs,h1,h2⟩:=ph (mg:=mg) h.2
    refine⟨.ref _,rfl,λG=>.tup (.inr ⟨_,its,_,e,⟨rfl,rfl⟩,rfl,?_,h1⟩) (h2 G)⟩
    have:=Nn h.1
    have:=hZ
    omega
   ·cases h
  ·cases h
theorem ph{K:LD}{mg:Str->Option Value}:∀{n:Nat}{vs:List Value}{as:List A},sZ K n vs as=true->∃xs,Vals xs vs/\∀G,RAs ⟨K,mg⟩ G xs as
 | 0,vs,as,h=>by cases h
 | _+1,[],[],h=>⟨[],.nil,λ_=>.nil⟩
 | n+1,v::vs,a::as,h=>by
  rw[sZ,LG] at h
  obtain⟨x,h1,h2⟩:=mV (mg:=mg) h.1
  obtain⟨xs,h3,h4⟩:=ph (mg:=mg) h.2
  exact⟨x::xs,.cons h1 h3,λG=>.cons (h2 G) (h4 G)⟩
 | _+1,[],_::_,h=>by cases h
 | _+1,_::_,[],h=>by cases h
end
noncomputable def gV(K:LD)(x:Str):Option Value:=match P9 K mainGlobals x with
 | some (some v)=>some v
 | _=>none
theorem rl{K:LD}{h:Heap}{mg:Str->Option Value}(X:K.In h)(G:h.Ns mainGlobals mg){x:Str}{v:Value}(e:gV K x=some v):mg x=some v:=by
 unfold gV at e
 split at e
 ·rename_i q;cases e;exact PySem.W.mg_of X G q
 ·cases e
noncomputable def Jb(K:LD)(p:Str×A):Bool:=match gV K p.1 with
 | some v=>yN K 20 v p.2
 | none=>false
noncomputable def oo(K:LD)(C:Addr):Bool:=NH K C Str.empty&&N6 K C&&O6 K C&&MH K (.ref C) "__setattr__" == some (some (.builtin "object.__setattr__"))
theorem mL{K:LD}{C:Addr}(h:oo K C=true):Cls K C:=by
 unfold oo at h
 simp only[LG,beq_iff_eq] at h
 obtain⟨⟨⟨h1,h2⟩,h3⟩,h4⟩:=h
 exact⟨h1,h2,h3,h4⟩
noncomputable def IC(K:LD)(p:Str×List Str):Bool:=match gV K p.1 with
 | some (.ref C)=>oo K C&&p.2.all λf=>MH K (.ref C) f==some none
 | _=>false
noncomputable def gdB(tb:Tb)(K:LD):Bool:=tb.fns.isEmpty&&tb.cst.all (Jb K)&&Ab.all (λx=>P9 K mainGlobals x==some none)&&tb.fld.all (IC K)&&tb.ini.isEmpty&&tb.mts.isEmpty
theorem Ew{tb:Tb}{K:LD}{h:Heap}{P:Program}{w:World}{mg:Str->Option Value}{base:Heap}(X:K.In h)(G:h.Ns mainGlobals mg)(e:gdB tb K=true):Gd tb 1 P w K mg base:=by
 unfold gdB at e
 simp only[LG,Nc,Mv,beq_iff_eq] at e
 obtain⟨⟨⟨⟨⟨e1,e2⟩,e3⟩,e7⟩,e8⟩,e9⟩:=e
 refine⟨λx f q=>(by rw[e1] at q;cases q),λx a q=>?_,λx q=>PySem.W.mg_none_of X G (e3 x q),λf c C q hm=>?_,λc f q=>(by rw[e8] at q;cases q),λm c f q=>(by rw[e9] at q;cases q)⟩
 ·have:=e2 _ (dh q)
  unfold Jb at this
  split at this
  ·rename_i v ev
   obtain⟨y,y1,y2⟩:=mV (mg:=mg) this
   exact⟨y,v,rl X G ev,y1,y2⟩
  ·cases this
 ·obtain⟨p,q1,q2⟩:=Mn.mp (OM.mp q)
  obtain⟨q3,q4⟩:=OE.mp q1
  have t:=e7 p q3
  subst q2
  unfold IC at t
  split at t
  ·rename_i C' ev
   have:=rl X G ev
   rw[hm] at this
   cases this
   rw[LG,Mv] at t
   have:=t.2 f (OM.mp q4)
   exact⟨mL t.1,by rw[beq_iff_eq] at this;exact this⟩
  ·cases t
noncomputable def qY(d:DI):Bool:=(cM d.st).posonlyargs.isEmpty&&(cM d.st).kwonlyargs.isEmpty&&(cM d.st).vararg.isNone&&(cM d.st).kwarg.isNone&&(cM d.st).args.map (·.arg)==d.N.take d.n
noncomputable def Dr(K:LD)(dV:Value)(a:A):Bool:=match dV with
 | .ref td=>match K.lookup td with
  | some ⟨_,_,.seq its _,_⟩=>(match its.toList with
   | [v]=>yN K 20 v a
   | _=>false)
  | _=>false
 | _=>false
noncomputable def uz(K:LD)(dV:Value):List A->Bool
 | []=>match dV with
  | .none=>true
  | _=>false
 | [a]=>Dr K dV a
 | _=>false
theorem F0{K:LD}{mg:Str->Option Value}{d:DI}{qual:Str}{f:Addr}{fd:FuncData}{dV:Value}(h:qY d=true)(hs:fW d=true)(F:nJ K d.name qual d.st f fd dV)(hd:uz K dV d.df=true):j2 K mg fd (d.N.take d.n) d.df:=by
 unfold qY at h
 simp only[LG,Nc,N8,beq_iff_eq] at h
 obtain⟨⟨⟨⟨h1,h2⟩,h3⟩,h4⟩,h5⟩:=h
 obtain⟨S,hl⟩:=gy hs
 have nd:=S.nd.sublist (Pj d.n d.N)
 obtain⟨oc,od,kV,doc,pm,an,cdv,ct,osl,rfl,lk,hcd⟩:=F.ex
 cases e:d.df with
 | nil =>
  rw[e] at hd
  have hd:dV=.none:=by cases dV<;>first|rfl|cases hd
  subst hd
  ·intro j hj
   refine⟨[],[],Binds.all λus hu=>oW h1 h2 h3 h4 rfl h5 nd hu,.nil,λ_=>?_⟩
   rw[List.drop_nil];exact .nil
 | cons a as =>
  cases as with
  | cons _ _=>rw[e] at hd;cases hd
  | nil =>
   rw[e] at hd
   replace hd:Dr K dV a=true:=hd
   unfold Dr at hd
   split at hd
   ·rename_i td
    split at hd
    ·rename_i x y its ep sl el
     split at hd
     ·rename_i v ev
      obtain⟨xv,r1,r2⟩:=mV (mg:=mg) hd
      have hi:its=#[v]:=by rw[<- Q0,ev]
      subst hi
      have bo:∀(s:Shared)(us:List Value),K.In s.heap->((us.length=(d.N.take d.n).length->BindsTo s _ ⟨us,[]⟩ ((d.N.take d.n).zip us))/\(us.length+1=(d.N.take d.n).length->BindsTo s _ ⟨us,[]⟩ ((d.N.take d.n).zip (us++[v])))):=λs us ki=>by
       rcases List.eq_nil_or_concat (d.N.take d.n) with z|⟨qs,zl,z⟩
       ·rw[z] at h5 ⊢
        refine⟨λhl=>?_,λhl=>by cases hl⟩
        cases us with
        | cons _ _=>cases hl
        | nil =>
         refine .of_defaults (fd:=NF d.name qual (cM d.st) (bZ d.st) (aJ d.st) (.ref td) kV doc pm an cdv ct) rfl (ki _ _ el) rfl rfl ?_
         show _=pure []
         simp only[NF,h1,h2,h3,h4,h5,LJ,MC,Mr]
         simp
       ·rw[List.concat_eq_append] at z
        rw[z] at h5 nd ⊢
        have:=xp (s:=s) (us:=us) (fd:=NF d.name qual (cM d.st) (bZ d.st) (aJ d.st) (.ref td) kV doc pm an cdv ct) h1 h2 h3 h4 rfl (ki _ _ el) rfl h5 nd
        exact⟨this.1,λq=>this.2 (by simpa using q)⟩
      intro j hj
      rcases Nat.le_one_iff_eq_zero_or_eq_one.mp hj with rfl|rfl
      ·exact⟨[v],[xv],λs us ki hu=>(bo s us ki).2 (by simpa using hu),.cons r1 .nil,λG=>.cons (r2 G) .nil⟩
      ·exact⟨[],[],λs us ki hu=>by rw[Mr] at hu ⊢;exact(bo s us ki).1 hu,.nil,λG=>.nil⟩
     ·cases hd
    ·cases hd
   ·cases hd
noncomputable def su:Tb->List DI->List (Option Ms)
 | _,[]=>[]
 | tb,d::ds=>k7 (trS tb (tr tb jS) jS d.sc) (bZ d.st)::su (tb.add d) ds
noncomputable def lM:Tb->List DI->Tb
 | tb,[]=>tb
 | tb,d::ds=>lM (tb.add d) ds
def gU(K:LD)(mg:Str->Option Value)(d:DI)(f:Addr):Prop:=match d.cl with
 | none=>mg d.name=some (.ref f)
 | some c=>∃C,mg c=some (.ref C)/\Cls K C/\Meth K C d.name f/\(d.name=("__init__" : Str)->Mk K C f)
section
variable{P:Program}{w:World}{K:LD}{mg:Str->Option Value}{base:Heap}
theorem Gd.up{tb:Tb}{j k:Nat}(G:Gd tb j P w K mg base)(h:j<=k):Gd tb k P w K mg base:=⟨λx f e=>by
 obtain⟨a,fd,ps,F,r⟩:=G.fn x f e
 exact⟨a,fd,ps,F.mono h,r⟩,G.cs,G.bl,G.fl,λc f e=>by
 obtain⟨C,a,fd,ps,i,hi,r⟩:=G.im c f e
 exact⟨C,a,fd,ps,i,Mf hi h,r⟩,λm c f e=>by
 obtain⟨C,a,fd,ps,F,r⟩:=G.mt m c f e
 exact⟨C,a,fd,ps,F.mono h,r⟩⟩
theorem Gd.add{tb:Tb}{k:Nat}(G:Gd tb k P w K mg base){d:DI}{f:Addr}{fd:FuncData}{dV:Value}(m:gU K mg d f)(F:nJ K d.name d.qual d.st f fd dV)(hd:uz K dV d.df=true)(hs:fW d=true)(hp:qY d=true)
  (h:k7 (trS tb (tr tb jS) jS d.sc) (bZ d.st)=some d.m):Gd (tb.add d) (k+2) P w K mg base:=by
 have G2:=G.up (show k<=k+2 by omega)
 have FO:=Cr G F hs h
 have BD:j2 K mg fd (d.N.take d.n) d.df:=F0 hp hs F hd
 unfold Tb.add
 unfold gU at m
 split
 ·rename_i hc
  rw[hc] at m
  refine⟨λx fi e=>?_,G2.cs,G2.bl,G2.fl,G2.im,G2.mt⟩
  have e:((d.name,d.fi)::tb.fns).lookup x=some fi:=e
  rw[Mq] at e
  cases z:x==d.name with
  | true =>
   rw[z] at e
   cases e
   rw[beq_iff_eq] at z
   subst z
   exact⟨f,fd,_,FO.mono (NG _),m,F.kp,BD⟩
  | false =>
   rw[z] at e
   exact G2.fn x fi e
 ·rename_i c hc
  rw[hc] at m
  obtain⟨C,m1,m2,m3,m4⟩:=m
  split
  ·rename_i z
   rw[beq_iff_eq] at z
   refine⟨G2.fn,G2.cs,G2.bl,G2.fl,λx fi e=>?_,G2.mt⟩
   have e:((c,d.fi)::tb.ini).lookup x=some fi:=e
   rw[Mq] at e
   cases y:x==c with
   | true =>
    rw[y] at e
    cases e
    rw[beq_iff_eq] at y
    subst y
    exact⟨C,f,fd,_,k+1,LU _,FO,m1,m4 z,BD⟩
   | false =>
    rw[y] at e
    exact G2.im x fi e
  ·refine⟨G2.fn,G2.cs,G2.bl,G2.fl,G2.im,λx y fi e=>?_⟩
   rcases Me.mp e with e|e
   ·cases e
    exact⟨C,f,fd,_,FO.mono (NG _),m1,m2,m3,BD⟩
   ·exact G2.mt x y fi e
theorem Gd.all:∀{ds:List DI}{tb:Tb}{k:Nat},Gd tb k P w K mg base->(∀d∈ds,∃f fd dV,gU K mg d f/\nJ K d.name d.qual d.st f fd dV/\uz K dV d.df=true)->ds.all (λd=>fW d&&qY d)=true->su tb ds=ds.map (λd=>some d.m)->Gd (lM tb ds) (k+2*ds.length) P w K mg base
 | [],tb,k,G,_,_,_=>G
 | d::ds,tb,k,G,hf,hs,ht=>by
  rw[MA,LG,LG] at hs
  obtain⟨t1,t2⟩:=QP ht
  obtain⟨f,fd,dV,m,F,hd⟩:=hf d LW
  have:=Gd.all (G.add m F hd hs.1.1 hs.1.2 t1) (λe he=>hf e (LX _ he)) hs.2 t2
  rw[LL,show k+2*(ds.length+1)=k+2+2*ds.length by omega]
  exact this
end
noncomputable abbrev xf:=Str×Str×Arguments×FuncBody×Scope×Addr×List (Str×Addr)×Addr×Bool
noncomputable def Hu(K:LD)(d:DI):Option Addr:=match d.cl with
 | none=>match gV K d.name with
  | some (.ref f)=>some f
  | _=>none
 | some c=>match gV K c with
  | some (.ref C)=>match MH K (.ref C) d.name with
   | some (some (.ref f))=>some f
   | _=>none
  | _=>none
noncomputable def clB(K:LD)(d:DI)(f:Addr):Bool:=match d.cl with
 | none=>true
 | some c=>match gV K c with
  | some (.ref C)=>oo K C&&O5 K (.ref f)&&(!(d.name==("__init__" : Str)) || (Pr K C&&M0 K (.ref C)))
  | _=>false
noncomputable def Dq(K:LD)(d:DI):Option xf:=match Hu K d with
 | some f=>match K.lookup f with
  | some ⟨_,_,.func x,_⟩=>some (x.name,x.qualname,x.params,x.body,x.scope,x.globals,x.closure,x.builtins,OG K x.code d.qual&&M0 K (.ref f)&&uz K x.defaults d.df&&clB K d f)
  | _=>none
 | none=>none
noncomputable def FE(d:DI):Option xf:=some (d.name,d.qual,cM d.st,.stmts (bZ d.st),aJ d.st,mainGlobals,[],builtinsNs,true)
theorem Aw{K:LD}{h:Heap}{mg:Str->Option Value}(X:K.In h)(G:h.Ns mainGlobals mg){d:DI}(e:Dq K d=FE d):∃f fd dV,gU K mg d f/\nJ K d.name d.qual d.st f fd dV/\uz K dV d.df=true:=by
 unfold Dq FE at e
 split at e
 ·rename_i f ef
  split at e
  ·rename_i a1 a2 x a3 el
   obtain⟨b1,b2,b3,b4,b5,b6,b7,b8,b9,b10,b11,b12,b13,b14,b15⟩:=x
   simp only[SK,Prod.mk.injEq] at e
   obtain⟨rfl,rfl,rfl,rfl,rfl,rfl,rfl,rfl,hb⟩:=e
   simp only[LG] at hb
   obtain⟨⟨⟨g1,g2⟩,g3⟩,g4⟩:=hb
   refine⟨f,_,_,?_,⟨⟨_,_,_,_,_,_,_,_,_,rfl,el,g1⟩,g2⟩,g3⟩
   unfold gU
   unfold Hu at ef
   unfold clB at g4
   split
   ·rename_i hc
    rw[hc] at ef
    simp only at ef
    split at ef
    ·rename_i f' ev;cases ef;exact rl X G ev
    ·cases ef
   ·rename_i c hc
    rw[hc] at ef g4
    simp only at ef g4
    split at ef
    ·rename_i C ev
     rw[ev] at g4
     simp only[LG,MZ,Ml,beq_eq_false_iff_ne] at g4
     split at ef
     ·rename_i f' ev2
      cases ef
      refine⟨C,rl X G ev,mL g4.1.1,⟨ev2,g4.1.2,g2⟩,λz=>?_⟩
      rcases g4.2 with y|y
      ·exact absurd z y
      ·rw[z] at ev2
       exact⟨y.1,ev2,g4.1.2,y.2⟩
     ·cases ef
    ·cases ef
  ·cases e
 ·cases e
noncomputable def hkO(ds:List DI)(chk:LD->Bool)(K:LD):List (Option xf)×Bool:=(ds.map (Dq K),chk K)
noncomputable def hkV(ds:List DI):List (Option xf)×Bool:=(ds.map FE,true)
noncomputable def hk(ds:List DI)(chk:LD->Bool):Rl where
 α:=List (Option xf)×Bool
 obs:=λs=>hkO ds chk (W.gz s.heap)
 val:=λ_=>hkV ds
 says:=λ_ h=>∃K:LD,hkO ds chk K=hkV ds/\K.In h
 of:=λ_ s e=>⟨W.gz s.heap,e,W.j1 _⟩
 keeps:=λ_ _ _ ⟨K,e,i⟩ k=>⟨K,e,i.keeps k⟩
theorem zh{ds:List DI}{chk:LD->Bool}{K:LD}{h:Heap}{mg:Str->Option Value}(X:K.In h)(G:h.Ns mainGlobals mg)(e:hkO ds chk K=hkV ds):chk K=true/\∀d∈ds,∃f fd dV,gU K mg d f/\nJ K d.name d.qual d.st f fd dV/\uz K dV d.df=true:=by
 obtain⟨e1,e2⟩:=Prod.mk.inj e
 exact⟨e2,λd hd=>Aw X G (List.map_eq_map_iff.mp e1 d hd)⟩
theorem uY{l:QQ}{q:Program}{loose:List Str}{XP:(Str->Option Value)->Heap->Prop}{d:DefRec}{x:Str}{tb:Tb}{ds:List DI}{di:DI}(hn:l.most=some 63)(hdf:d.params.defaults=[])(dn:d.name = "law")
  (hs:(ds++[di]).all (λd=>fW d&&qY d)=true)(ht:su tb ds=ds.map (λd=>some d.m))(hl:k7 (trS (lM tb ds) (tr (lM tb ds) jS) jS di.sc) (bZ di.st)=some di.m)(hdi:di.name = "law")(hcl:di.cl=none)(hdd:di.df=[])(hx:di.N.take di.n=[x])(hr:cj (2+2*ds.length) callerA)
  (hm:∀ns:List Int,ns.length<=63->∃ρ,di.M [.fr (.lst (ns.map A.int))]=some (.rt (.fr (.bl true)),ρ)) :
  Rb q loose XP (hk (ds++[di]) (gdB tb)).says l.row.toRowW d [] (λf vs=>QH f vs):=by
 refine W.uu (CX:=CX0) (l:=l) (n:=63) (k:=2+2*ds.length) (x:=x) (sp:=v7) hn (by decide) hdf hr (λw mg fa h Y G hfa=>?_) (λ_ _ _ _ _ z=>z) (λ_ _ a ns hl _ hS=>⟨a,ns,rfl,hS,hl,λ_=>rfl⟩)
 obtain⟨K,e,KX⟩:=Y
 obtain⟨e1,e2⟩:=zh KX G e
 refine⟨K,KX,?_⟩
 rw[List.all_append,LG] at hs
 obtain⟨f,fd,dV,m1,F1,hdv⟩:=e2 di (LN _ LW)
 rw[hdd] at hdv
 have hdv:dV=.none:=by cases dV<;>first|rfl|cases hdv
 subst hdv
 unfold gU at m1
 rw[dn] at hfa
 rw[hcl] at m1
 simp only at m1
 rw[hdi,hfa] at m1
 cases m1
 have hsd:=Mv.mp hs.2 di LW
 rw[LG] at hsd
 have h1n:di.n=1:=by have:=(gy hsd.1).2;rw[hx] at this;exact this.symm
 refine⟨fd,λs u=>?_,λbase _ _=>?_⟩
 ·obtain⟨oc,od,kV,doc,pm,an,cdv,ct,osl,rfl,lk,hcd⟩:=F1.ex
  obtain⟨S,hl2⟩:=gy hsd.1
  have hp:=hsd.2
  unfold qY at hp
  simp only[LG,Nc,N8,beq_iff_eq] at hp
  obtain⟨⟨⟨⟨h1,h2⟩,h3⟩,h4⟩,h5⟩:=hp
  have:=oW (fd:=NF di.name di.qual (cM di.st) (bZ di.st) (aJ di.st) .none kV doc pm an cdv ct) (us:=[u]) h1 h2 h3 h4 rfl h5 (S.nd.sublist (Pj _ _)) (by rw[hx];rfl)
  rw[hx] at this
  exact .of_eq this
 ·have G1:=Gd.all (Ew (P:=l.prog) (w:=w) (base:=base) KX G e1) (λd hd=>e2 d (Mb _ hd)) hs.1 ht
  have FF:=Cr G1 F1 hsd.1 hl
  rw[hx,h1n,show 1+2*ds.length+1=2+2*ds.length by omega] at FF
  exact Eh FF hm
end M
set_option maxHeartbeats 4000000
namespace W
open PySem L2 M
noncomputable def top(i:Nat):Stmt:=PySem.Challenge.pw_fitwhatever_k09_what_keeps_a_stock.main.body.getD i (.Pass ⟨0,0,0,0⟩)
noncomputable def topC(i j:Nat):Stmt:=match top i with
 | .ClassDef _ _ _ b _ _ _ _ _ _ _=>b.getD j (.Pass ⟨0,0,0,0⟩)
 | s=>s
noncomputable def dX:Ms:=av (aD 2 (mC (.int 0))) (av (sIf (ah (mOp fLt (ae 1) (mB1 iu (ae 0)))) (aD 2 (mOp (fOr fIx aj) (ae 0) (ae 1))) aG) (aH (bV (aa (mB1 zv (mOp fGe (mB1 qP (ae 2)) (mOp jA (mC (.int 10)) (mC (.int 18))))) (aa (ae 2) (aa (mOp bL (mC (.int 17)) (ae 1)) ag))))))
noncomputable def dc:Ms:=aX 1 dX
noncomputable def fV:Ms:=av (sIf (ah (mOp fEq (mOp (fOr fIx aj) (ae 0) (mC (.int 0))) (mC (.int 1)))) (av (aD 2 (mOp gL (mOp (fOr fIx aj) (ae 0) (mC (.int 1))) (ae 1))) (av (iQ 0 (mC (.int 1)) (mOp lF (mOp (fOr fIx aj) (ae 0) (mC (.int 1))) (ae 1))) (aH (ae 2)))) aG) (av (aD 3 (mOp aW (mOp (fOr fIx aj) (ae 0) (mC (.int 2))) (mC (.int 1)))) (av (iQ 0 (mC (.int 2)) (ae 3)) (av (aD 4 (mOp gL (mOp bL (mOp aW (mOp aW (mOp (fOr fIx aj) (ae 0) (mC (.int 1))) (mOp bL (mOp bL (mC (.int 7919)) (ae 3)) (ae 3))) (ae 3)) (mC (.int 48271))) (mC (.int 2305843009213693951)))) (aH (mOp gL (mOp lF (mOp gL (mOp aW (mOp bL (ae 4) (mC (.int 1442695040888963407))) (mC (.int 4321))) (mC (.int 2305843009213693921))) (mC (.int 64))) (ae 1))))))
noncomputable def ao:Ms:=aX 3 fV
noncomputable def dB:Ms:=av (aD 2 (mC (.str "abcdefghijklmnopqrstuvwxyz0123456789."))) (av (aD 3 (mS1 iy (mC (.str "")) (cL 1 (fH (mC (.int 30))) (aB 8) aZ (mOp (fOr fIx aj) (ae 2) (af ao [] (aa (ae 0) (aa (mC (.int 37)) ag))))))) (av (sIf (ah (mOp fEq (af ao [] (aa (ae 0) (aa (mC (.int 3)) ag))) (mC (.int 1)))) (av (aD 4 (af ao [] (aa (ae 0) (aa (mC (.int 30)) ag)))) (aH (cL 1 (fH (ae 1)) (aB 8) aZ (mSl (ae 3) fC (fG (mOp aW (mC (.int 1)) (mOp gL (mOp aW (ae 4) (mOp bL (mC (.int 7)) (ae 8))) (mC (.int 30))))))))) aG) (av (aD 5 (mOp aW (mC (.int 1)) (af ao [] (aa (ae 0) (aa (mC (.int 30)) ag))))) (av (aD 6 (af ao [] (aa (ae 0) (aa (ai 5) ag)))) (av (aD 7 (af ao [] (aa (ae 0) (aa (mC (.int 37)) ag)))) (aH (cL 1 (fH (ae 1)) (aB 8) aZ (mOp aW (mOp aW (mSl (ae 3) fC (fG (ae 6))) (mOp (fOr fIx aj) (ae 2) (mOp gL (mOp aW (ae 7) (mOp bL (mC (.int 5)) (ae 8))) (mC (.int 37))))) (mSl (ae 3) (fG (mOp aW (ae 6) (mC (.int 1)))) (fG (ae 5)))))))))))
noncomputable def dD:Ms:=aX 6 dB
noncomputable def eB:Ms:=av (iO BIG (ah (mOp fNe (ae 1) (mC (.int 0)))) (uJ 0 1 (aa (ae 1) (aa (mOp gL (ae 0) (ae 1)) ag)))) (aH (mB1 qP (ae 0)))
noncomputable def eI:Ms:=aX 0 eB
noncomputable def hR:Ms:=av (sIf (ah (mOp fLt (ae 1) (mC (.int 0)))) (av (aD 0 (mOp gJ (mC (.int 0)) (ae 0))) (aD 1 (mOp gJ (mC (.int 0)) (ae 1)))) aG) (av (aD 2 (af eI [] (aa (ai 0) (aa (ai 1) ag)))) (aH (bI (aa (mOp lF (ae 0) (ae 2)) (aa (mOp lF (ae 1) (ae 2)) ag)))))
noncomputable def bx:Ms:=aX 1 hR
noncomputable def cE:Ms:=av (sIf (ah (mOp fEq (ae 1) (mC (.int 4)))) (aH (bI (aa (mOp gJ (af ao [] (aa (ae 0) (aa (mFz (mOp aW (mOp bL (mC (.int 2)) (mOp jA (mC (.int 10)) (mC (.int 17)))) (mC (.int 1)))) ag))) (mOp jA (mC (.int 10)) (mC (.int 17)))) (aa (mC (.int 1)) ag)))) aG) (av (sIf (ah (mOp fEq (ae 1) (mC (.int 3)))) (aH (af bx [] (aa (mOp gJ (af ao [] (aa (ae 0) (aa (mFz (mOp aW (mOp bL (mC (.int 2)) (mOp jA (mC (.int 10)) (mC (.int 6)))) (mC (.int 1)))) ag))) (mOp jA (mC (.int 10)) (mC (.int 6)))) (aa (mFz (mOp aW (mC (.int 1)) (af ao [] (aa (ae 0) (aa (mC (.int 1000)) ag))))) ag)))) aG) (av (sIf (ah (mOp fEq (ae 1) (mC (.int 2)))) (aH (bI (aa (mOp gJ (af ao [] (aa (ae 0) (aa (mFz (mOp aW (mOp bL (mC (.int 2)) (mOp jA (mC (.int 10)) (mC (.int 15)))) (mC (.int 1)))) ag))) (mOp jA (mC (.int 10)) (mC (.int 15)))) (aa (mC (.int 1)) ag)))) aG) (aH (af bx [] (aa (mOp gJ (af ao [] (aa (ae 0) (aa (mC (.int 21)) ag))) (mC (.int 10))) (aa (mOp (fOr fIx aj) (bV (aa (mC (.int 1)) (aa (mC (.int 1)) (aa (mC (.int 2)) (aa (mC (.int 3)) (aa (mC (.int 6)) ag)))))) (af ao [] (aa (ae 0) (aa (mC (.int 5)) ag)))) ag))))))
noncomputable def bg:Ms:=aX 0 cE
noncomputable def hG:Ms:=aH (af bx [] (aa (mFz (mOp aW (mOp bL (mOp (fOr fIx aj) (ae 0) (mC (.int 0))) (mOp (fOr fIx aj) (ae 1) (mC (.int 1)))) (mOp bL (mOp (fOr fIx aj) (ae 1) (mC (.int 0))) (mOp (fOr fIx aj) (ae 0) (mC (.int 1)))))) (aa (mOp bL (mOp (fOr fIx aj) (ae 0) (mC (.int 1))) (mOp (fOr fIx aj) (ae 1) (mC (.int 1)))) ag)))
noncomputable def aV:Ms:=aX 0 hG
noncomputable def eu:Ms:=av (aD 2 (af bg [] (aa (ae 0) (aa (ai 1) ag)))) (av (sIf (ah (mOp fEq (af ao [] (aa (ae 0) (aa (mC (.int 8)) ag))) (mC (.int 1)))) (aH (bI (aa (mC (.int 0)) (aa (mC (.int 1)) ag)))) aG) (aH (bI (aa (mB1 qP (mOp (fOr fIx aj) (ae 2) (mC (.int 0)))) (aa (mOp (fOr fIx aj) (ae 2) (mC (.int 1))) ag)))))
noncomputable def bh:Ms:=aX 1 eu
noncomputable def eZ:Ms:=av (aD 4 (af ao [] (aa (ae 0) (aa (ai 3) ag)))) (av (aD 5 (af dD [] (aa (ae 0) (aa (ai 2) ag)))) (av (aD 6 (bV ag)) (av (iO BIG (hW (ah (mOp fNe (ae 5) (bV ag))) (ah (mOp fLt (mB1 iu (ae 6)) (ae 1)))) (av (aD 7 (lH 5)) (av (aD 8 (af bg [] (aa (ae 0) (aa (ai 4) ag)))) (av (aD 9 (af aV [] (aa (ai 8) (aa (af bh [] (aa (ae 0) (aa (ai 4) ag))) ag)))) (av (aD 10 (bV ag)) (av (c8 (fH (mOp (fOr fIx aj) (bV (aa (mC (.int 0)) (aa (mC (.int 0)) (aa (mC (.int 1)) (aa (mC (.int 1)) (aa (mC (.int 2)) (aa (mC (.int 3)) (aa (mC (.int 2)) (aa (mC (.int 5)) ag))))))))) (af ao [] (aa (ae 0) (aa (mC (.int 8)) ag))))) (aB 11) (sIf (ah (mOp fNe (ae 5) (bV ag))) (av (aD 12 (af bh [] (aa (ae 0) (aa (ai 4) ag)))) (bE (eR 10 (cJ 10 (bI (aa (lH 5) (aa (ae 12) (aa (mOp (fOr fIx aj) (bV (aa (mC (.str "fixed")) (aa (mC (.str "big")) (aa (mC (.str "small")) ag)))) (af ao [] (aa (ae 0) (aa (mC (.int 3)) ag)))) ag)))))))) aG)) (bE (eR 6 (cJ 6 (bI (aa (ae 7) (aa (ae 8) (aa (ae 9) (aa (mB1 g7 (ae 10)) ag)))))))))))))) (aH (ae 6)))))
noncomputable def fm:Ms:=aX 9 eZ
noncomputable def dt:Ms:=av (sIf (mOr (eQ (ah (mB1 (lG Ty.str) (ae 0)))) (eQ (ah (dZ cLe cLe (mC (.int 1)) (mB1 iu (ae 0)) (ae 2))))) (aH (mC (.bl false))) aG) (aH (mB1 (mB λbs=>List.all bs id) (cL 1 (cy (ae 0)) (aB 3) aZ (mOp (fOr (fOr (fj false) (dj false)) (iL false)) (ae 3) (ae 1)))))
noncomputable def dw:Ms:=aX 0 dt
noncomputable def iR:Ms:=aH (af dw [] (aa (ai 0) (aa (mC (.str "abcdefghijklmnopqrstuvwxyz0123456789.")) (aa (mC (.int 30)) ag))))
noncomputable def gr:Ms:=aX 0 iR
noncomputable def dN:Ms:=av (aD 1 jg) (c8 (cy (ae 0)) (aB 2) (av (sIf (eQ (ah (af gr [] (aa (ai 2) ag)))) fO aG) (av (sIf (ah (mOp (fOr (fOr (fj false) (dj false)) (iL false)) (ae 2) (ae 1))) fO aG) (ed 1 (ae 2) (mC (.bl true))))))
noncomputable def bQ:Ms:=aX 2 dN
noncomputable def iN:Ms:=aH (mOp fLt (mOp bL (mOp (fOr fIx aj) (ae 0) (mC (.int 0))) (mOp (fOr fIx aj) (ae 1) (mC (.int 1)))) (mOp bL (mOp (fOr fIx aj) (ae 1) (mC (.int 0))) (mOp (fOr fIx aj) (ae 0) (mC (.int 1)))))
noncomputable def dE:Ms:=aX 0 iN
noncomputable def cR:Ms:=av (iO BIG (ah (mOp fNe (ae 1) (mC (.int 0)))) (av (aD 2 (mOp gL (ae 0) (ae 1))) (av (aD 0 (ae 1)) (aD 1 (ae 2))))) (aH (ae 0))
noncomputable def bY:Ms:=aX 1 cR
noncomputable def j9:Ms:=aH (lR (mB1 (lG Ty.int) (ae 0)) (kX (mB1 (lG Ty.bool) (ae 0))))
noncomputable def hE:Ms:=aX 0 j9
noncomputable def fR:Ms:=av (sIf (mOr (eQ (ah (mB1 (lG Ty.tuple) (ae 0)))) (ah (mOp fNe (mB1 iu (ae 0)) (mC (.int 2))))) (aH (mC (.bl false))) aG) (av (sIf (mOr (eQ (ah (af hE [] (aa (mOp (fOr fIx aj) (ae 0) (mC (.int 0))) ag)))) (mOr (eQ (ah (af hE [] (aa (mOp (fOr fIx aj) (ae 0) (mC (.int 1))) ag)))) (ah (mOp fLt (mOp (fOr fIx aj) (ae 0) (mC (.int 1))) (mC (.int 1)))))) (aH (mC (.bl false))) aG) (aH (mOp fEq (af bY [] (aa (mOp (fOr fIx aj) (ae 0) (mC (.int 0))) (aa (mOp (fOr fIx aj) (ae 0) (mC (.int 1))) ag))) (mC (.int 1)))))
noncomputable def c9:Ms:=aX 0 fR
noncomputable def dq:Ms:=av (sIf (mOr (eQ (ah (af c9 [] (aa (ai 0) ag)))) (eQ (ah (af c9 [] (aa (ai 1) ag))))) fO aG) (sIf (ah (af dE [] (aa (ai 1) (aa (ai 0) ag)))) fO aG)
noncomputable def cx:Ms:=aX 0 dq
noncomputable def dQ:Ms:=av (sIf (mOr (eQ (ah (af c9 [] (aa (mOp (fOr fIx aj) (ae 0) (mC (.int 1))) ag)))) (ah (af dE [] (aa (mOp (fOr fIx aj) (ae 0) (mC (.int 1))) (aa (mC (.tup [.int 0,.int 1])) ag))))) fO aG) (sIf (ah (mOp (fOr (fOr (fj true) (dj true)) (iL true)) (mOp (fOr fIx aj) (ae 0) (mC (.int 2))) (mC (.tup [.str "fixed",.str "big",.str "small"])))) fO aG)
noncomputable def bN:Ms:=aX 0 dQ
noncomputable def dC:Ms:=aH (mOp aW (bV (aa (mUn (aU ["Size"] "name") (ae 0)) ag)) (cL 1 (cy (mUn (aU ["Size"] "shifts") (ae 0))) (aB 1) aZ (mOp (fOr fIx aj) (ae 1) (mC (.int 0)))))
noncomputable def aK:Ms:=aX 0 dC
noncomputable def cX:Ms:=av (aD 1 (bV ag)) (av (c8 (cy (mUn (aU ["Stock"] "kept") (ae 0))) (aB 2) (bE (eR 1 (eY 1 (af aK [] (aa (bc "Size" "names" (ai 2)) ag)))))) (aH (ae 1)))
noncomputable def aO:Ms:=aX 2 cX
noncomputable def gh:Ms:=av (dW ["Size"] 0 "name" (ae 1)) (av (dW ["Size"] 0 "least" (ae 2)) (av (dW ["Size"] 0 "most" (ae 3)) (av (dW ["Size"] 0 "shifts" (mIf (ah (mOp (fIs false) (ae 4) (mC .non))) (bI ag) (mB1 g7 (cL 1 (cy (ae 4)) (aB 6) aZ (bI (aa (mOp (fOr fIx aj) (ae 6) (mC (.int 0))) (aa (mOp (fOr fIx aj) (ae 6) (mC (.int 1))) (aa (mOp (fOr fIx aj) (ae 6) (mC (.int 2))) ag)))))))) (av (bE (af cx [] (aa (ai 2) (aa (ai 3) ag)))) (av (c8 (cy (mUn (aU ["Size"] "shifts") (ae 0))) (aB 5) (bE (af bN [] (aa (ai 5) ag)))) (bE (af bQ [] (aa (mFz (i6 (af aO [] (aa (bc "Stock" "names" (ae 0)) ag)) (af aK [] (aa (bc "Size" "names" (ae 0)) ag)))) ag))))))))
noncomputable def bw:Ms:=aX 1 gh
noncomputable def cB:Ms:=aH (dU "Size" bw [] (aa (mUn (aU ["Size"] "name") (ae 0)) (aa (ai 1) (aa (ai 2) (aa (mUn (aU ["Size"] "shifts") (ae 0)) ag)))))
noncomputable def cA:Ms:=aX 0 cB
noncomputable def eE:Ms:=aH (af cA [] (aa (ai 0) (aa (mUn (aU ["Size"] "least") (ae 0)) (aa (mUn (aU ["Size"] "most") (ae 0)) ag))))
noncomputable def cq:Ms:=aX 0 eE
noncomputable def fA:Ms:=av (dW ["Stock"] 0 "kept" (i6 (hY 1 1 (aB 2) aZ (af cq [] (aa (ai 2) ag))) (cL 1 (cy (ae 1)) (aB 2) aZ (af cq [] (aa (ai 2) ag))))) (bE (af bQ [] (aa (mFz (i6 (af aO [] (aa (bc "Stock" "names" (ae 0)) ag)) (af aK [] (aa (bc "Size" "names" (ae 0)) ag)))) ag)))
noncomputable def aI:Ms:=aX 0 fA
noncomputable def jt:Ms:=av (aD 2 (bV ag)) (av (c8 (cy (ae 1)) (cI 4 (az (aB 3) (az (aB 4) (az (aB 5) (az (aB 6) cN))))) (av (aD 7 (af ao [] (aa (ae 0) (aa (mC (.int 2)) ag)))) (sIf (hW (ah (mOp fEq (ae 6) (bI ag))) (ah (mOp fEq (ae 7) (mC (.int 1))))) (bE (eR 2 (cJ 2 (dU "Size" bw [.non] (aa (ai 3) (aa (ai 4) (aa (ai 5) ag))))))) (bE (eR 2 (cJ 2 (dU "Size" bw [] (aa (ai 3) (aa (ai 4) (aa (ai 5) (aa (mOp (fOr fIx aj) (bV (aa (ae 6) (aa (mB1 tu (ae 6)) ag))) (ae 7)) ag))))))))))) (aH (ae 2)))
noncomputable def dg:Ms:=aX 6 jt
noncomputable def fE:Ms:=aH (lR (kX (af dE [] (aa (ai 0) (aa (ai 1) ag)))) (kX (af dE [] (aa (ai 2) (aa (ai 0) ag)))))
noncomputable def bW:Ms:=aX 0 fE
noncomputable def dR:Ms:=av (aD 2 (af bY [] (aa (ai 0) (aa (ai 1) ag)))) (aH (bI (aa (mOp lF (ae 0) (ae 2)) (aa (mOp lF (ae 1) (ae 2)) ag))))
noncomputable def bO:Ms:=aX 1 dR
noncomputable def qu:Ms:=aH (af bO [] (aa (mFz (mOp aW (mOp bL (mOp (fOr fIx aj) (ae 0) (mC (.int 0))) (mOp (fOr fIx aj) (ae 1) (mC (.int 1)))) (mOp bL (mOp (fOr fIx aj) (ae 1) (mC (.int 0))) (mOp (fOr fIx aj) (ae 0) (mC (.int 1)))))) (aa (mOp bL (mOp (fOr fIx aj) (ae 0) (mC (.int 1))) (mOp (fOr fIx aj) (ae 1) (mC (.int 1)))) ag)))
noncomputable def iU:Ms:=aX 0 qu
noncomputable def nK:Ms:=aH (af bO [] (aa (mOp gJ (mOp bL (mOp (fOr fIx aj) (ae 0) (mC (.int 0))) (mOp (fOr fIx aj) (ae 1) (mC (.int 1)))) (mOp bL (mOp (fOr fIx aj) (ae 1) (mC (.int 0))) (mOp (fOr fIx aj) (ae 0) (mC (.int 1))))) (aa (mOp bL (mOp (fOr fIx aj) (ae 0) (mC (.int 1))) (mOp (fOr fIx aj) (ae 1) (mC (.int 1)))) ag)))
noncomputable def gD:Ms:=aX 0 nK
noncomputable def gk:Ms:=av (c8 (cy (mUn (aU ["Size"] "shifts") (ae 0))) (cI 3 (az (aB 3) (az (aB 4) (az (aB 5) cN)))) (av (sIf (hW (ah (mOp fEq (ae 3) (ae 1))) (ah (mOp fEq (ae 5) (mC (.str "big"))))) (aH (af iU [] (aa (ai 4) (aa (af gD [] (aa (ai 2) (aa (mUn (aU ["Size"] "least") (ae 0)) ag))) ag)))) aG) (av (sIf (hW (ah (mOp fEq (ae 3) (ae 1))) (ah (mOp fEq (ae 5) (mC (.str "small"))))) (aH (af iU [] (aa (ai 4) (aa (af gD [] (aa (mUn (aU ["Size"] "most") (ae 0)) (aa (ai 2) ag))) ag)))) aG) (sIf (ah (mOp fEq (ae 3) (ae 1))) (aH (ae 4)) aG)))) fO
noncomputable def cZ:Ms:=aX 3 gk
noncomputable def oj:Ms:=aH (af bO [] (aa (mOp bL (mOp (fOr fIx aj) (ae 0) (mC (.int 0))) (mOp (fOr fIx aj) (ae 1) (mC (.int 0)))) (aa (mOp bL (mOp (fOr fIx aj) (ae 0) (mC (.int 1))) (mOp (fOr fIx aj) (ae 1) (mC (.int 1)))) ag)))
noncomputable def og:Ms:=aX 0 oj
noncomputable def g8:Ms:=aH (af og [] (aa (ai 0) (aa (mC (.tup [.int (SA 0),.int 1])) ag)))
noncomputable def dI:Ms:=aX 0 g8
noncomputable def gi:Ms:=av (aD 2 (mOp (fOr fIx aj) (ae 1) (mUn (aU ["Size"] "name") (ae 0)))) (av (sIf (eQ (ah (af bW [] (aa (ai 2) (aa (mUn (aU ["Size"] "least") (ae 0)) (aa (mUn (aU ["Size"] "most") (ae 0)) ag)))))) (aH (mC (.bl false))) aG) (av (c8 (cy (mUn (aU ["Size"] "shifts") (ae 0))) (aB 3) (av (aD 4 (af cZ [] (aa (bc "Size" "room" (ai 0)) (aa (mOp (fOr fIx aj) (ae 3) (mC (.int 0))) (aa (ai 2) ag))))) (sIf (eQ (ah (af bW [] (aa (mOp (fOr fIx aj) (ae 1) (mOp (fOr fIx aj) (ae 3) (mC (.int 0)))) (aa (af dI [] (aa (ai 4) ag)) (aa (ai 4) ag)))))) (aH (mC (.bl false))) aG))) (aH (mC (.bl true)))))
noncomputable def dJ:Ms:=aX 3 gi
noncomputable def eF:Ms:=av (sIf (ah (dM 1 (i6 (af aO [] (aa (bc "Stock" "names" (ae 0)) ag)) (af aK [] (aa (bc "Size" "names" (ae 0)) ag))))) (aH (mC (.bl false))) aG) (aH (mB1 (mB λbs=>List.all bs id) (cL 1 (cy (mUn (aU ["Stock"] "kept") (ae 0))) (aB 2) aZ (af dJ [] (aa (ai 2) (aa (ai 1) ag))))))
noncomputable def aN:Ms:=aX 0 eF
noncomputable def gZ:Ms:=aH (af bx [] (aa (mOp bL (mOp (fOr fIx aj) (ae 0) (mC (.int 0))) (mOp (fOr fIx aj) (ae 1) (mC (.int 0)))) (aa (mOp bL (mOp (fOr fIx aj) (ae 0) (mC (.int 1))) (mOp (fOr fIx aj) (ae 1) (mC (.int 1)))) ag)))
noncomputable def fz:Ms:=aX 0 gZ
noncomputable def fY:Ms:=aH (af aV [] (aa (ai 0) (aa (bI (aa (mOp gJ (mC (.int 0)) (mOp (fOr fIx aj) (ae 1) (mC (.int 0)))) (aa (mOp (fOr fIx aj) (ae 1) (mC (.int 1))) ag))) ag)))
noncomputable def bM:Ms:=aX 0 fY
noncomputable def jq:Ms:=av (FJ (ae 0) (cI 4 (az (aB 3) (az (aB 4) (az (aB 5) (az (aB 6) cN)))))) (av (c8 (cy (ae 6)) (cI 3 (az (aB 7) (az (aB 8) (az (aB 9) cN)))) (av (sIf (hW (ah (mOp fEq (ae 7) (ae 1))) (ah (mOp fEq (ae 9) (mC (.str "fixed"))))) (aH (ae 8)) aG) (av (sIf (hW (ah (mOp fEq (ae 7) (ae 1))) (ah (mOp fEq (ae 9) (mC (.str "big"))))) (aH (af aV [] (aa (ai 8) (aa (af bM [] (aa (ai 2) (aa (ai 4) ag))) ag)))) aG) (sIf (ah (mOp fEq (ae 7) (ae 1))) (aH (af aV [] (aa (ai 8) (aa (af bM [] (aa (ai 5) (aa (ai 2) ag))) ag)))) aG)))) (aH (mC .non)))
noncomputable def d5:Ms:=aX 7 jq
noncomputable def gQ:Ms:=av (aD 2 jg) (av (c8 (cy (ae 1)) (aB 3) (av (aD 4 (mOp aW (mC (.int 1)) (af ao [] (aa (ae 0) (aa (mC (.int 6)) ag))))) (av (aD 5 (af bx [] (aa (af ao [] (aa (ae 0) (aa (mFz (mOp aW (ae 4) (mC (.int 1)))) ag))) (aa (ai 4) ag)))) (av (ed 2 (mOp (fOr fIx aj) (ae 3) (mC (.int 0))) (af aV [] (aa (mOp (fOr fIx aj) (ae 3) (mC (.int 1))) (aa (af fz [] (aa (ai 5) (aa (af bM [] (aa (mOp (fOr fIx aj) (ae 3) (mC (.int 2))) (aa (mOp (fOr fIx aj) (ae 3) (mC (.int 1))) ag))) ag))) ag)))) (c8 (cy (mOp (fOr fIx aj) (ae 3) (mC (.int 3)))) (cI 3 (az (aB 6) (az (aB 7) (az (aB 8) cN)))) (av (aD 5 (af bx [] (aa (mOp gJ (af ao [] (aa (ae 0) (aa (mFz (mOp aW (mOp bL (mC (.int 2)) (ae 4)) (mC (.int 1)))) ag))) (ae 4)) (aa (ai 4) ag)))) (ed 2 (ae 6) (af fz [] (aa (ai 5) (aa (af d5 [] (aa (ai 3) (aa (ai 6) (aa (mOp (fOr fIx aj) (ae 2) (mOp (fOr fIx aj) (ae 3) (mC (.int 0)))) ag)))) ag)))))))))) (aH (ae 2)))
noncomputable def eG:Ms:=aX 7 gQ
noncomputable def kC:Ms:=av (aD 2 jg) (av (c8 (cy (ae 1)) (aB 3) (av (ed 2 (mOp (fOr fIx aj) (ae 3) (mC (.int 0))) (mOp (fOr fIx aj) (ae 3) (mOp aW (mC (.int 1)) (af ao [] (aa (ae 0) (aa (mC (.int 2)) ag)))))) (c8 (cy (mOp (fOr fIx aj) (ae 3) (mC (.int 3)))) (cI 3 (az (aB 4) (az (aB 5) (az (aB 6) cN)))) (av (aD 7 (af d5 [] (aa (ai 3) (aa (ai 4) (aa (mOp (fOr fIx aj) (ae 2) (mOp (fOr fIx aj) (ae 3) (mC (.int 0)))) ag))))) (ed 2 (ae 4) (mOp (fOr fIx aj) (bV (aa (bI (aa (mOp gJ (mC (.int 0)) (mOp (fOr fIx aj) (ae 7) (mC (.int 0)))) (aa (mOp (fOr fIx aj) (ae 7) (mC (.int 1))) ag))) (aa (ae 7) (aa (bI (aa (mC (.int 0)) (aa (mC (.int 1)) ag))) ag)))) (af ao [] (aa (ae 0) (aa (mC (.int 3)) ag))))))))) (aH (ae 2)))
noncomputable def gY:Ms:=aX 6 kC
noncomputable def jj:Ms:=av (aD 2 (mB1 fJ (ae 1))) (av (aD 3 (mB1 (gOr br bU) (ae 1))) (av (sIf (mOr (ah (mOp fEq (ae 3) (bV ag))) (ah (mOp fEq (af ao [] (aa (ae 0) (aa (mC (.int 8)) ag))) (mC (.int 1))))) (av (ed 2 (mOp bL (mC (.str "zz")) (mOp aW (mC (.int 1)) (af ao [] (aa (ae 0) (aa (mC (.int 15)) ag))))) (bI (aa (mC (.int 0)) (aa (mC (.int 1)) ag)))) (aH (ae 2))) aG) (av (aD 4 (mOp (fOr fIx aj) (ae 3) (af ao [] (aa (ae 0) (aa (mB1 iu (ae 3)) ag))))) (av (aD 5 (af ao [] (aa (ae 0) (aa (mC (.int 8)) ag)))) (av (sIf (ah (mOp fEq (ae 5) (mC (.int 0)))) (bE (kO 2 (ae 4))) (sIf (ah (mOp fEq (ae 5) (mC (.int 1)))) (ed 2 (mOp bL (mC (.str "z")) (mOp aW (mC (.int 1)) (af ao [] (aa (ae 0) (aa (mC (.int 30)) ag))))) (kO 2 (ae 4))) (sIf (ah (mOp fEq (ae 5) (mC (.int 2)))) (ed 2 (ae 4) (mOp (fOr fIx aj) (ae 1) (mOp (fOr fIx aj) (ae 3) (af ao [] (aa (ae 0) (aa (mB1 iu (ae 3)) ag)))))) (av (aD 6 (mOp (fOr fIx aj) (bV (aa (bI (aa (mC (.int 1)) (aa (mOp (fOr fIx aj) (mOp (fOr fIx aj) (ae 1) (ae 4)) (mC (.int 1))) ag))) (aa (bI (aa (mC (.int 1)) (aa (mC (.int 1)) ag))) (aa (bI (aa (mC (.int 1)) (aa (mC (.int 7)) ag))) (aa (bI (aa (af ao [] (aa (ae 0) (aa (mOp jA (mC (.int 10)) (mC (.int 7))) ag))) (aa (mC (.int 1)) ag))) (aa (bI (aa (mC (.int 1)) (aa (mC (.int 2)) ag))) ag)))))) (mOp gJ (ae 5) (mC (.int 3))))) (ed 2 (ae 4) (af aV [] (aa (mOp (fOr fIx aj) (ae 1) (ae 4)) (aa (mOp (fOr fIx aj) (bV (aa (ae 6) (aa (bI (aa (mOp gJ (mC (.int 0)) (mOp (fOr fIx aj) (ae 6) (mC (.int 0)))) (aa (mOp (fOr fIx aj) (ae 6) (mC (.int 1))) ag))) ag))) (af ao [] (aa (ae 0) (aa (mC (.int 2)) ag)))) ag)))))))) (aH (ae 2)))))))
noncomputable def d6:Ms:=aX 5 jj
noncomputable def eS:Ms:=av (aD 1 (bV ag)) (av (c8 (cy (ae 0)) (cI 4 (az (aB 2) (az (aB 3) (az (aB 4) (az (aB 5) cN))))) (av (bE (eR 1 (cJ 1 (ae 2)))) (bE (eR 1 (eY 1 (cL 3 (cy (ae 5)) (cI 3 (az (aB 6) (az (aB 7) (az (aB 8) cN)))) aZ (ae 6))))))) (aH (ae 1)))
noncomputable def cU:Ms:=aX 5 eS
noncomputable def fw:Ms:=aH (mOp fLt (mOp bL (mOp (fOr fIx aj) (ae 0) (mC (.int 0))) (mOp (fOr fIx aj) (ae 1) (mC (.int 1)))) (mOp bL (mOp (fOr fIx aj) (ae 1) (mC (.int 0))) (mOp (fOr fIx aj) (ae 0) (mC (.int 1)))))
noncomputable def bz:Ms:=aX 0 fw
noncomputable def iK:Ms:=av (sIf (ah (mOp fNe (mB1 (gOr br bU) (ae 1)) (mB1 (gOr br bU) (af cU [] (aa (ai 0) ag))))) (aH (mC (.bl false))) aG) (av (c8 (cy (ae 0)) (aB 2) (av (aD 3 (mOp (fOr fIx aj) (ae 1) (mOp (fOr fIx aj) (ae 2) (mC (.int 0))))) (av (sIf (mOr (ah (af bz [] (aa (ai 3) (aa (mOp (fOr fIx aj) (ae 2) (mC (.int 1))) ag)))) (ah (af bz [] (aa (mOp (fOr fIx aj) (ae 2) (mC (.int 2))) (aa (ai 3) ag))))) (aH (mC (.bl false))) aG) (c8 (cy (mOp (fOr fIx aj) (ae 2) (mC (.int 3)))) (cI 3 (az (aB 4) (az (aB 5) (az (aB 6) cN)))) (av (aD 7 (af d5 [] (aa (ai 2) (aa (ai 4) (aa (ai 3) ag))))) (av (aD 8 (mOp (fOr fIx aj) (ae 1) (ae 4))) (sIf (ah (af bz [] (aa (ai 7) (aa (bI (aa (mB1 qP (mOp (fOr fIx aj) (ae 8) (mC (.int 0)))) (aa (mOp (fOr fIx aj) (ae 8) (mC (.int 1))) ag))) ag)))) (aH (mC (.bl false))) aG))))))) (aH (mC (.bl true))))
noncomputable def eX:Ms:=aX 7 iK
noncomputable def Ck:Ms:=av (aD 1 (af dc [] (aa (ai 0) (aa (mC (.int 0)) ag)))) (av (aD 2 (mOp (fOr fIx aj) (bV (aa (mC (.int 0)) (aa (mC (.int 1)) (aa (mC (.int 2)) (aa (mC (.int 3)) (aa (mC (.int 4)) (aa (mC (.int 2)) (aa (mC (.int 3)) (aa (mC (.int 6)) ag))))))))) (af ao [] (aa (ae 1) (aa (mC (.int 8)) ag))))) (av (aD 3 (af fm [] (aa (ae 1) (aa (ai 2) (aa (mC (.int 12)) (aa (mC (.int 4)) ag)))))) (av (aD 4 (dU "Stock" aI [] (aa (af dg [] (aa (ae 1) (aa (ai 3) ag))) ag))) (av (sIf (mOr (ah (mOp (fOr (fIs true) (gE true)) (af aN [] (aa (bc "Stock" "keeps" (mFz (dU "Stock" aI [] (aa (bV ag) ag)))) (aa (mFz jg) ag))) (mC (.bl true)))) (ah (mOp (fOr (fIs true) (gE true)) (af aN [] (aa (bc "Stock" "keeps" (mFz (dU "Stock" aI [] (aa (bI ag) ag)))) (aa (mFz (i7 "a" (bI (aa (mC (.int 0)) (aa (mC (.int 1)) ag))))) ag))) (mC (.bl false))))) (aH (mC (.bl false))) aG) (av (c8 (pL (mC (.int 1)) (mB2 uL (mC (.int 2)) (mB2 uo (mB1 iu (ae 0)) (mC (.int 11))))) (aB 5) (av (aD 1 (af dc [] (aa (ai 0) (aa (ai 5) ag)))) (c8 (cy (bV (aa (af eG [] (aa (ae 1) (aa (ai 3) ag))) (aa (af gY [] (aa (ae 1) (aa (ai 3) ag))) ag)))) (aB 6) (av (sIf (ah (mOp (fOr (fIs true) (gE true)) (af aN [] (aa (bc "Stock" "keeps" (ai 4)) (aa (mFz (mB1 fJ (ae 6))) ag))) (mC (.bl true)))) (aH (mC (.bl false))) aG) (c8 (fH (mC (.int 4))) (aB 7) (av (aD 8 (af d6 [] (aa (ae 1) (aa (ai 6) ag)))) (av (aD 9 (mB1 fJ (ae 8))) (av (aD 10 (af aN [] (aa (bc "Stock" "keeps" (ai 4)) (aa (ai 9) ag)))) (sIf (mOr (eQ (ah (mB1 (lG Ty.bool) (ae 10)))) (mOr (ah (mOp fNe (ae 10) (af eX [] (aa (ai 3) (aa (ai 8) ag))))) (ah (mOp (fOr fNe iF) (ae 9) (ae 8))))) (aH (mC (.bl false))) aG))))))))) (aH (mC (.bl true))))))))
noncomputable def B9:Ms:=aX 10 Ck
noncomputable def tb0:Tb:={ fns:=[],cst:=[("ZERO",(.tup [(.int 0),(.int 1)])),("MINUS_ONE",(.tup [(.int (-1)),(.int 1)])),("NAME_SIGNS",(.str "abcdefghijklmnopqrstuvwxyz0123456789.")),("NAME_LENGTH",(.int 30)),("WAYS",(.tup [(.str "fixed"),(.str "big"),(.str "small")]))],exs:=["NoSize"],kit:=[],exm:=[],fld:=[("Size",["name", "least", "most", "shifts"]),("Stock",["kept"])],ini:=[],mts:=[] }
noncomputable def dsL:List DI:=[
 ⟨none, "_law_well",top 39,["_law_script", "_law_k", "_law_cell"],2,[],[false,false],[],[],dX⟩,
 ⟨none, "_law_take",top 40,["_law_well_here", "_law_many", "_law_digit", "_law_turn", "_law_number_here"],2,[],[true,false],[],[],fV⟩,
 ⟨none, "_law_names",top 48,["_law_well_here", "_law_many", "_law_signs", "_law_base", "_law_start", "_law_long", "_law_spot", "_law_first"],2,[],[true,false],[],[],dB⟩,
 ⟨none, "_law_common",top 41,["_law_one", "_law_other"],2,[],[false,false],[],[],eB⟩,
 ⟨none, "_law_num",top 42,["_law_top", "_law_bottom", "_law_by"],2,[],[false,false],[],[],hR⟩,
 ⟨none, "_law_some",top 49,["_law_well_here", "_law_kind"],2,[],[true,false],[],[],cE⟩,
 ⟨none, "_law_add",top 43,["_law_one", "_law_other"],2,[],[false,false],[],[],hG⟩,
 ⟨none, "_law_wide",top 50,["_law_well_here", "_law_kind", "_law_wide_here"],2,[],[true,false],[],[],eu⟩,
 ⟨none, "_law_sizes",top 51,["_law_well_here", "_law_many", "_law_most", "_law_kinds", "_law_kind", "_law_names_here", "_law_sizes_here", "_law_name", "_law_least", "_law_last", "_law_shifts", "_law_k", "_law_room_here"],4,[],[true,false,false,false],[],[],eZ⟩,
 ⟨none, "is_written_in",top 19,["text", "signs", "most"],3,[],[false,false,false],[],[],dt⟩,
 ⟨none, "is_name",top 20,["text"],1,[],[false],[],[],iR⟩,
 ⟨none, "refuse_names",top 27,["names", "seen", "name"],1,["seen"],[false],[],[],dN⟩,
 ⟨none, "is_less",top 15,["a", "b"],2,[],[false,false],[],[],iN⟩,
 ⟨none, "common_divisor",top 9,["a", "b", "rest"],2,[],[false,false],[],[],cR⟩,
 ⟨none, "is_whole",top 8,["value"],1,[],[false],[],[],j9⟩,
 ⟨none, "is_number",top 11,["value"],1,[],[false],[],[],fR⟩,
 ⟨none, "refuse_bounds",top 25,["least", "most"],2,[],[false,false],[],[],dq⟩,
 ⟨none, "refuse_shift",top 26,["shift"],1,[],[false],[],[],dQ⟩,
 ⟨some "Size", "names",topC 24 1,["self"],1,[],[false],[],[],dC⟩,
 ⟨some "Stock", "names",topC 37 2,["self", "names", "size"],1,[],[false],[],[],cX⟩,
 ⟨some "Size", "__init__",topC 24 0,["self", "name", "least", "most", "shifts", "shift"],5,[],[true,false,false,false,false],[.non],[],gh⟩,
 ⟨none, "size_with_bounds",top 28,["size", "least", "most"],3,[],[false,false,false],[],[],cB⟩,
 ⟨none, "size_copied",top 29,["size"],1,[],[false],[],[],eE⟩,
 ⟨some "Stock", "__init__",topC 37 0,["self", "sizes"],2,[],[true,true],[],["sizes"],fA⟩,
 ⟨none, "_law_made",top 56,["_law_well_here", "_law_sizes_here", "_law_made_here", "_law_name", "_law_least", "_law_last", "_law_shifts", "_law_way"],2,[],[true,false],[],[],jt⟩,
 ⟨none, "is_from_to",top 30,["value", "least", "most"],3,[],[false,false,false],[],[],fE⟩,
 ⟨none, "lowest_terms",top 10,["top", "bottom", "divisor"],2,[],[false,false],[],[],dR⟩,
 ⟨none, "plus",top 12,["a", "b"],2,[],[false,false],[],[],qu⟩,
 ⟨none, "minus",top 13,["a", "b"],2,[],[false,false],[],[],nK⟩,
 ⟨some "Size", "room",topC 24 2,["self", "shift", "value", "name", "allowance", "way"],3,[],[false,false,false],[],[],gk⟩,
 ⟨none, "times",top 14,["a", "b"],2,[],[false,false],[],[],oj⟩,
 ⟨none, "negative",top 31,["number"],1,[],[false],[],[],g8⟩,
 ⟨none, "is_size_kept",top 32,["size", "making", "value", "shift", "room"],2,[],[false,false],[],[],gi⟩,
 ⟨some "Stock", "keeps",topC 37 3,["self", "making"],2,[],[false,false],[],[],eF⟩,
 ⟨none, "_law_mul",top 44,["_law_one", "_law_other"],2,[],[false,false],[],[],gZ⟩,
 ⟨none, "_law_less",top 45,["_law_one", "_law_other"],2,[],[false,false],[],[],fY⟩,
 ⟨none, "_law_room",top 52,["_law_size", "_law_shift", "_law_value", "_law_name", "_law_least", "_law_last", "_law_shifts", "_law_one", "_law_allowance", "_law_way"],3,[],[false,false,false],[],[],jq⟩,
 ⟨none, "_law_making",top 55,["_law_well_here", "_law_sizes_here", "_law_making_here", "_law_size", "_law_parts", "_law_share", "_law_shift", "_law_allowance", "_law_way"],2,["_law_making_here"],[true,false],[],[],gQ⟩,
 ⟨none, "_law_end",top 57,["_law_well_here", "_law_sizes_here", "_law_making_here", "_law_size", "_law_shift", "_law_allowance", "_law_way", "_law_room_here"],2,["_law_making_here"],[true,false],[],[],kC⟩,
 ⟨none, "_law_bent",top 58,["_law_well_here", "_law_making_here", "_law_bent_here", "_law_names_here", "_law_name", "_law_way", "_law_hair"],2,["_law_bent_here", "_law_making_here"],[true,false],[],[],jj⟩,
 ⟨none, "_law_all_names",top 53,["_law_sizes_here", "_law_names_here", "_law_name", "_law_least", "_law_last", "_law_shifts"],1,[],[false],[],[],eS⟩,
 ⟨none, "_law_below",top 46,["_law_one", "_law_other"],2,[],[false,false],[],[],fw⟩,
 ⟨none, "_law_keeps",top 54,["_law_sizes_here", "_law_making_here", "_law_size", "_law_value", "_law_shift", "_law_allowance", "_law_way", "_law_room_here", "_law_there"],2,["_law_making_here"],[false,false],[],[],iK⟩]
noncomputable def oY:DI:=⟨none, "law",top 59,["_law_script", "_law_well_here", "_law_many", "_law_sizes_here", "_law_stock", "_law_k", "_law_making_here", "_law_turn", "_law_bent_here", "_law_handed", "_law_told"],1,["_law_making_here", "_law_bent_here", "_law_handed"],[false],[],[],Ck⟩
end W
set_option maxHeartbeats 1000000
set_option exponentiation.threshold 100000
namespace W
open PySem L2 M
theorem xY{α:Type}(x:α)(xs:List α):atI (x::xs) 0=some x:=by
 unfold atI L2.ixN
 rw[if_pos (by decide),if_pos (by simp only[LL];omega)]
 rfl
theorem GO{α:Type}(x y:α)(xs:List α):atI (x::y::xs) 1=some y:=by
 unfold atI L2.ixN
 rw[if_pos (by decide),if_pos (by simp only[LL];omega)]
 rfl
theorem HZ{α:Type}(x y z:α)(xs:List α):atI (x::y::z::xs) 2=some z:=by
 unfold atI L2.ixN
 rw[if_pos (by decide),if_pos (by simp only[LL];omega)]
 rfl
local macro_rules | `(tactic| walk_at "evh")=>do
 let xs:=("M.Fe M.zH M.Gs M.HA M.FP M.e_C M.KL M.KY M.KA M.Lw M.Dv M.zt M.Km M.KI M.Hw M.D6 M.IQ M.Et M.Kw M.IB M.D9 M.JR M.G0 M.Dd M.bF M.ER M.yx M.Hx M.Dp M.Gq M.lU M.mK M.mJ M.zB M.F5 M.GH M.DF M.xc M.IG M.Hc M.Ae M.Gn M.FT M.K5 M.Kz M.yz M.Gy M.Lg M.fzK M.opK M.unK M.xH M.asB M.tupK M.lstK M.tQ M.IW M.HX M.Ce M.Ku M.HC M.J6 M.ixK M.dK M.Kg M.Ho M.s1K M.slK M.BX M.res M.Sl.a M.LO.a M.dP M.aQ M.stT M.Hf M.JO M.IA M.HL M.zZ M.fOr M.gOr M.fIx M.aj M.Bw M.Az M.pM M.C7 M.zC M.sX M.Fi M.Dy M.DC M.GS M.G7 M.J7 M.HR M.fEq M.fNe M.fIs M.CS M.iu M.qP M.ED M.Fh M.zv M.tu M.g7 M.zE M.aB M.cN M.az M.cI M.IM M.Le M.AF M.aC M.setAt M.isL M.vL M.gH M.nX M.jy Qj List.getElem?_cons_succ QM QN MU MC Mr Nw Nx LF LJ LL NU Nat.reduceAdd Nat.reduceLeDiff Nat.reduceEqDiff Nat.reduceLT if_true if_false ite_true ite_false Bool.not_true Rw QL Pb O8 xY GO HZ decide_true decide_false LU MT M.IH M.GI M.zj M.xr M.Du M.CH M.AG M.lG M.F6 M.Ki M.opI M.opS M.zg M.aW M.Lx M.bL M.qM M.B2 M.EJ M.El M.He M.zD M.zK M.chK M.Im M.cLe M.cLt M.mB M.F6 M.sF M.GV M.Ha M.Iq M.K6 M.K0 M.Kl M.JN".splitOn " ").toArray.map (Lean.mkIdent ·.toName)
 `(tactic| simp only[$[$xs:ident],*, *])
theorem Jc{x y:Int}(h:y≠0)(hb:L2.Bd 9000 y):Val bY [.int x,.int y] (.int (cd x y)):=by
 unfold Val bY cR
 walk_at "evh"
 obtain⟨ρ',h1,q,r,h2⟩:=iZ (t:=ah (mOp fNe (ae 1) (mC (A.int 0)))) (b:=av (aD 2 (mOp gL (ae 0) (ae 1))) (av (aD 0 (ae 1)) (aD 1 (ae 2)))) (n:=BIG)
  (P:=λk ρ=>∃p q r,ρ=[.fr (.int p),.fr (.int q),r]/\k=q.natAbs/\(∀o,r≠Sl.pv o)/\(q=0->p=cd x y)/\(q≠0->cd p q=cd x y))
  (Q:=λρ=>∃q r,ρ=[.fr (.int (cd x y)),q,r]) (by
   rintro k ρ ⟨p,q,r,rfl,rfl,hr,h1,h2⟩
   by_cases z:q=0
   ·left
    subst z
    refine⟨[.fr (.int p),.fr (.int 0),r],?_,.fr (.int 0),r,by rw[<- h1 rfl]⟩
    walk_at "evh"
    try simp
   ·right
    refine⟨[.fr (.int p),.fr (.int q),r],[.fr (.int q),.fr (.int (p.fmod q)),.fr (.int (p.fmod q))],(p.fmod q).natAbs,?_,.inl ?_,oJ p z,q,p.fmod q,_,rfl,rfl,(λo z=>by cases z),λe=>?_,λe=>?_⟩
    ·walk_at "evh"
     try simp[z]
    ·walk_at "evh"
     rw[if_pos (by simpa using z)]
     cases r with
     | pv o=>exact absurd rfl (hr o)
     | un=>rfl
     | fr a=>rfl
     | lv o=>rfl
    ·rw[<- h2 z];exact zO z e
    ·rw[Bg z e];exact h2 z) (k:=y.natAbs) (ρ:=[.fr (.int x),.fr (.int y),.un]) ⟨x,y,.un,rfl,rfl,(λo z=>by cases z),λe=>absurd e h,λ_=>rfl⟩ (qj (LP hb (MO (by decide) (by decide))))
 refine⟨ρ',?_⟩
 rw[h1]
 subst h2
 rfl
theorem vn{t b:Int}(h:b≠0)(hb:L2.Bd 9000 b):Val bO [.int t,.int b] (nm (nrm t b)):=by
 unfold Val bO dR
 walk_at "evh"
 have:=ar (Jc (x:=t) h hb)
 simp only[LF,LJ] at this
 simp only[this]
 walk_at "evh"
 have hc:(cd t b != 0&&fits 9000 (cd t b))=true:=by
  rw[LG]
  exact⟨by simpa using rC h,aP (show L2.Bd 9000 (cd t b) from Ng (Iv h) hb) (LU _)⟩
 rw[if_pos hc]
 walk_at "evh"
 exact⟨_,rfl⟩
theorem fits_of{n m:Nat}{i:Int}(h:L2.Bd m i)(k:m<=n):fits n i=true:=aP h k
theorem yP{x y:Num}{n:Nat}(hx:NB n x)(hy:NB n y)(hn:n<=4000):Val iU [nm x,nm y] (nm (bH x y)):=by
 unfold Val iU qu
 have f1:=fits_of (n:=20000) hx.b1 (by omega)
 have f2:=fits_of (n:=20000) hx.b2 (by omega)
 have f3:=fits_of (n:=20000) hy.b1 (by omega)
 have f4:=fits_of (n:=20000) hy.b2 (by omega)
 have:=ar (vn (t:=x.1*y.2+y.1*x.2) (b:=x.2*y.2) (Mw hx.nz hy.nz) ((hx.b2.mul hy.b2).mono (by omega)))
 simp only[LF,LJ] at this
 clear hx hy hn
 simp only[nm,LF,LJ]
 walk_at "evh"
 exact⟨_,rfl⟩
theorem rW{x y:Num}{n:Nat}(hx:NB n x)(hy:NB n y)(hn:n<=4000):Val gD [nm x,nm y] (nm (nrm (x.1*y.2-y.1*x.2) (x.2*y.2))):=by
 unfold Val gD nK
 have f1:=fits_of (n:=20000) hx.b1 (by omega)
 have f2:=fits_of (n:=20000) hx.b2 (by omega)
 have f3:=fits_of (n:=20000) hy.b1 (by omega)
 have f4:=fits_of (n:=20000) hy.b2 (by omega)
 have:=ar (vn (t:=x.1*y.2-y.1*x.2) (b:=x.2*y.2) (Mw hx.nz hy.nz) ((hx.b2.mul hy.b2).mono (by omega)))
 simp only[LF,LJ] at this
 clear hx hy hn
 simp only[nm,LF,LJ]
 walk_at "evh"
 exact⟨_,rfl⟩
theorem oI{x y:Int}(hb:L2.Bd 9000 y):Val eI [.int x,.int y] (.int (ME x y)):=by
 unfold Val eI eB
 walk_at "evh"
 obtain⟨ρ',h1,q,h2,hg⟩:=iZ (t:=ah (mOp fNe (ae 1) (mC (A.int 0)))) (b:=uJ 0 1 (aa (ae 1) (aa (mOp gL (ae 0) (ae 1)) ag))) (n:=BIG)
  (P:=λk ρ=>∃p q,ρ=[.fr (.int p),.fr (.int q)]/\k=q.natAbs/\ME p q=ME x y)
  (Q:=λρ=>∃p,ρ=[.fr (.int p),.fr (.int 0)]/\ME p 0=ME x y) (by
   rintro k ρ ⟨p,q,rfl,rfl,h1⟩
   by_cases z:q=0
   ·left
    subst z
    refine⟨[.fr (.int p),.fr (.int 0)],?_,p,rfl,h1⟩
    walk_at "evh"
    try simp
   ·right
    refine⟨[.fr (.int p),.fr (.int q)],[.fr (.int q),.fr (.int (p.fmod q))],(p.fmod q).natAbs,?_,.inl ?_,oJ p z,q,p.fmod q,rfl,rfl,?_⟩
    ·walk_at "evh"
     try simp[z]
    ·have hz:(q != 0)=true:=by simpa using z
     walk_at "evh"
    ·rw[jO,h1]) (k:=y.natAbs) (ρ:=[.fr (.int x),.fr (.int y)]) ⟨x,y,rfl,rfl,rfl⟩ (qj (LP hb (MO (by decide) (by decide))))
 refine⟨ρ',?_⟩
 rw[h1]
 subst h2
 walk_at "evh"
 have:(if q<0 then -q else q)=(ME x y:Int):=by
  rw[<- hg,QZ]
  split<;>omega
 rw[this]
theorem jP{t b:Int}(h:b≠0)(hb:L2.Bd 9000 b):Val bx [.int t,.int b] (nm (nrm t b)):=by
 rw[<- y7 h]
 unfold Val bx hR
 walk_at "evh"
 have gp:∀t b:Int,b≠0->L2.Bd 9000 b->((ME t b:Int) != 0&&fits 9000 (ME t b:Int))=true:=λt b h hb=>by
  have h1:ME t b<=b.natAbs:=Int.gcd_le_natAbs_right _ h
  have h0:ME t b≠0:=λz=>h (Int.gcd_eq_zero_iff.mp z).2
  rw[LG]
  exact⟨by simpa using h0,aP (show L2.Bd 9000 (ME t b:Int) from Ng (by simpa using h1) hb) (LU _)⟩
 by_cases c:b<0
 ·simp only[c,decide_true]
  walk_at "evh"
  have e1:(0:Int)-t = -t:=by omega
  have e2:(0:Int)-b = -b:=by omega
  simp only[e1,e2]
  have:=ar (oI (x:=-t) (y:=-b) hb.neg)
  simp only[LF,LJ] at this
  simp only[this]
  have hg:=gp (-t) (-b) (by omega) hb.neg
  have e3:A7 t b=((-t).fdiv (ME (-t) (-b)),(-b).fdiv (ME (-t) (-b))):=if_pos c
  rw[e3]
  simp only[nm]
  walk_at "evh"
  exact⟨_,rfl⟩
 ·simp only[c,decide_false]
  walk_at "evh"
  have:=ar (oI (x:=t) (y:=b) hb)
  simp only[LF,LJ] at this
  simp only[this]
  have hg:=gp t b h hb
  have e3:A7 t b=(t.fdiv (ME t b),b.fdiv (ME t b)):=if_neg c
  rw[e3]
  simp only[nm]
  walk_at "evh"
  exact⟨_,rfl⟩
theorem ja{x y:Num}{n:Nat}(hx:NB n x)(hy:NB n y)(hn:n<=4000):Val aV [nm x,nm y] (nm (bH x y)):=by
 unfold Val aV hG
 have f1:=fits_of (n:=20000) hx.b1 (by omega)
 have f2:=fits_of (n:=20000) hx.b2 (by omega)
 have f3:=fits_of (n:=20000) hy.b1 (by omega)
 have f4:=fits_of (n:=20000) hy.b2 (by omega)
 have:=ar (jP (t:=x.1*y.2+y.1*x.2) (b:=x.2*y.2) (Mw hx.nz hy.nz) ((hx.b2.mul hy.b2).mono (by omega)))
 simp only[LF,LJ] at this
 clear hx hy hn
 simp only[nm,LF,LJ]
 walk_at "evh"
 exact⟨_,rfl⟩
def Wl(n:Int)(o:LO):Prop:=∃f c t:Int,o=.lst [.int f,.int c,.int t]/\(f=0\/f=1)/\(f=0->c.natAbs<10^18)/\0<=t/\t<=n
theorem Wl.mono{n m:Int}{o:LO}(h:Wl n o)(k:n<=m):Wl m o:=by
 obtain⟨f,c,t,h1,h2,h3,h4,h5⟩:=h
 exact⟨f,c,t,h1,h2,h3,h4,by omega⟩
theorem Io:L2.ixN (0+1+1+1) 1=some 1:=by decide
theorem Hn:L2.ixN (0+1+1+1) 2=some 2:=by decide
theorem qk{n:Int}{o:LO}{m:Int}(w:Wl n o)(hn:n<2^40)(m0:0<m)(m1:m<2^64):∃r o',cg ao o [.int m] (.fr (.int r)) o'/\0<=r/\r<m/\Wl (n+1) o':=by
 obtain⟨f,c,t,rfl,hf,hc,t0,t1⟩:=w
 have hm:(m != 0&&fits 9000 m)=true:=by
  rw[LG]
  exact⟨by simp;omega,aP (m:=64) (show m.natAbs<2^64 by omega) (by decide)⟩
 have hm0:(m != 0)=true:=by simp;omega
 unfold cg ao fV
 rcases hf with rfl|rfl
 ·have hc:=hc rfl
  have f1:fits 20000 (t+1)=true:=aP (m:=64) (show (t+1).natAbs<2^64 by omega) (by decide)
  have f2:fits 20000 7919=true:=aP (m:=64) (show (7919:Int).natAbs<2^64 by decide) (by decide)
  have f3:fits 20000 (7919*(t+1))=true:=aP (m:=64) (show (7919*(t+1)).natAbs<2^64 by omega) (by decide)
  have b1:L2.Bd 128 (7919*(t+1)*(t+1)):=(L2.Bd.mul (m:=64) (n:=64) (show (7919*(t+1)).natAbs<2^64 by omega) (show (t+1).natAbs<2^64 by omega))
  have b2:L2.Bd 130 (c+7919*(t+1)*(t+1)+(t+1)):=((L2.Bd.add (m:=128) (n:=128) (show c.natAbs<2^128 by omega) b1).add (n:=128) (show (t+1).natAbs<2^128 by omega)).mono (by decide)
  have f4:fits 20000 (c+7919*(t+1)*(t+1)+(t+1))=true:=aP b2 (by decide)
  have f5:fits 20000 48271=true:=aP (m:=64) (show (48271:Int).natAbs<2^64 by decide) (by decide)
  have hp:(0:Int)<2305843009213693951:=by decide
  have g1:=Rp ((c+7919*(t+1)*(t+1)+(t+1))*48271) (b:=2305843009213693951) (by decide)
  have g2:=Int.emod_lt_of_pos ((c+7919*(t+1)*(t+1)+(t+1))*48271) hp
  have e1:((c+7919*(t+1)*(t+1)+(t+1))*48271).fmod 2305843009213693951=((c+7919*(t+1)*(t+1)+(t+1))*48271)%2305843009213693951:=Oa _ (by decide)
  have f6:fits 20000 (((c+7919*(t+1)*(t+1)+(t+1))*48271).fmod 2305843009213693951)=true:=aP (m:=64) (show Int.natAbs _<2^64 by rw[e1];omega) (by decide)
  have f7:fits 20000 1442695040888963407=true:=aP (m:=64) (show (1442695040888963407:Int).natAbs<2^64 by decide) (by decide)
  have f8:((2305843009213693921:Int) != 0)=true:=by decide
  have f9:((2305843009213693951:Int) != 0)=true:=by decide
  have f10:((64:Int) != 0&&fits 9000 64)=true:=by
   rw[LG]
   exact⟨by decide,aP (m:=64) (show (64:Int).natAbs<2^64 by decide) (by decide)⟩
  refine⟨((((((c+7919*(t+1)*(t+1)+(t+1))*48271).fmod 2305843009213693951*1442695040888963407+4321).fmod 2305843009213693921).fdiv 64).fmod m),.lst [.int 0,.int c,.int (t+1)],?_,NJ _ m0,Ph _ m0,0,c,t+1,rfl,.inl rfl,λ_=>hc,by omega,by omega⟩
  have d0:decide ((0:Int)=1)=false:=by decide
  have i2:=Hn
  clear e1 g1 g2 hp b1 b2 hc m0 m1 hn t0 t1 hm
  walk_at "evh"
  exact⟨_,rfl⟩
 ·refine⟨_,.lst [.int 1,.int (c.fdiv m),.int t],?_,NJ c m0,Ph c m0,1,c.fdiv m,t,rfl,.inr rfl,λz=>by omega,t0,by omega⟩
  have d0:decide ((1:Int)=1)=true:=by decide
  have i1:=Io
  have hf:fits 9000 m=true:=(Bool.and_eq_true_iff.mp hm).2
  clear hc m0 m1 hn t0 t1 hm
  walk_at "evh"
  exact⟨_,rfl⟩
theorem cw0{f:Ms}{as:List A}{o o':LO}{r:Rr}{s:Sl}(h:cg f o as s o')(hr:jy s=some r):∀ρ,cK f [] (.rf 0::as.map Rr.fr) (.pv o::ρ)=some (.ok r,.pv o'::ρ):=λρ=>m9 h hr rfl
theorem cw2{f:Ms}{as:List A}{o o':LO}{r:Rr}{s:Sl}(h:cg f o as s o')(hr:jy s=some r):∀a b ρ,cK f [] (.rf 2::as.map Rr.fr) (a::b::.lv o::ρ)=some (.ok r,a::b::.lv o'::ρ):=λa b ρ=>m9 (i:=2) h hr rfl
theorem tk{n:Int}{o:LO}(m:Int)(w:Wl n o)(hn:n<2^40)(m0:0<m)(m1:m<2^64):∃r o',(∀ρ,cK ao [] [.rf 0,.fr (.int m)] (.pv o::ρ)=some (.ok (.fr (.int r)),.pv o'::ρ))/\0<=r/\r<m/\Wl (n+1) o':=by
 obtain⟨r,o',h,h1,h2,h3⟩:=qk (m:=m) w hn m0 m1
 exact⟨r,o',cw0 h rfl,h1,h2,h3⟩
theorem tk2{n:Int}{o:LO}(m:Int)(w:Wl n o)(hn:n<2^40)(m0:0<m)(m1:m<2^64):∃r o',(∀a b ρ,cK ao [] [.rf 2,.fr (.int m)] (a::b::.lv o::ρ)=some (.ok (.fr (.int r)),a::b::.lv o'::ρ))/\0<=r/\r<m/\Wl (n+1) o':=by
 obtain⟨r,o',h,h1,h2,h3⟩:=qk (m:=m) w hn m0 m1
 exact⟨r,o',cw2 h rfl,h1,h2,h3⟩
theorem Jd:(10:Int)^(18:Int).toNat=1000000000000000000:=by decide
theorem xn(ns:List Int)(k:Int)(k0:0<=k)(k1:k<=1000):∃o,gG dc [.lst (ns.map A.int),.int k] o/\Wl 17000 o:=by
 have p18:((0:Int)<=18/\(18:Int)<=1000000/\(10:Int).natAbs<2^64)=True:=by simp
 have q18:=Jd
 have f1:fits 20000 17=true:=aP (m:=64) (show (17:Int).natAbs<2^64 by decide) (by decide)
 have f2:fits 20000 k=true:=aP (m:=64) (show k.natAbs<2^64 by omega) (by decide)
 have l1000:(0+1+1+1<=1000)=True:=by simp
 have key:∀c:Int,Wl 17000 (.lst [.int (if decide (1000000000000000000<=(if c<0 then -c else c))=true then 1 else 0),.int c,.int (17*k)]):=λc=>by
  refine⟨_,c,17*k,rfl,?_,λz=>?_,by omega,by omega⟩
  ·generalize decide (1000000000000000000<=(if c<0 then -c else c))=d
   cases d
   ·exact .inl rfl
   ·exact .inr rfl
  ·by_cases h:1000000000000000000<=(if c<0 then -c else c)
   ·simp[h] at z
   ·split at h<;>omega
 have hlen:((ns.map A.int).length:Int)=(ns.length:Int):=by rw[LH]
 by_cases hk:k<(ns.length:Int)
 ·obtain⟨j,rfl⟩:∃j:Nat,k=j:=⟨k.toNat,by omega⟩
  have hj:j<ns.length:=by omega
  have ha:atI (ns.map A.int) (j:Int)=some (.int ns[j]):=jB (by rw[LZ,L8 hj];rfl)
  refine⟨_,?_,key ns[j]⟩
  clear key k0 k1
  unfold gG dc dX
  walk_at "evh"
  exact⟨_,rfl⟩
 ·refine⟨_,?_,key 0⟩
  clear key k0 k1
  unfold gG dc dX
  walk_at "evh"
  exact⟨_,rfl⟩
theorem nE{x y:Num}{n:Nat}(hx:NB n x)(hy:NB n y)(hn:n<=4000):Val bM [nm x,nm y] (nm (dS x y)):=by
 have k:=ar (ja hx hy.neg hn)
 rw[iC] at k
 have e1:(0:Int)-y.1 = -y.1:=by omega
 unfold Val bM fY
 simp only[nm,LF,LJ] at k ⊢
 walk_at "evh"
 exact⟨_,rfl⟩
theorem kH(i:Int):Val hE [.int i] (.bl true):=⟨[.fr (.int i)],rfl⟩
theorem fK{x:Num}{n:Nat}(hx:NB n x)(hn:n<=9000):Val c9 [nm x] (.bl true):=by
 have k1:=ar (kH x.1)
 have k2:=ar (kH x.2)
 have k3:=ar (Jc (x:=x.1) (y:=x.2) hx.nz (hx.b2.mono hn))
 have e1:cd x.1 x.2=1:=by
  unfold cd
  rw[if_neg (by have:=hx.ok.1;omega),hx.ok.2];rfl
 rw[e1] at k3
 have d1:decide (x.2<1)=false:=decide_eq_false (by have:=hx.ok.1;omega)
 have l2:decide (((0+1+1:Nat):Int)=2)=true:=by decide
 have d2:decide ((1:Int)=1)=true:=by decide
 unfold Val c9 fR
 simp only[nm,LF,LJ] at k1 k2 k3 ⊢
 walk_at "evh"
 exact⟨_,rfl⟩
theorem gw{x y:Num}{n:Nat}(hx:NB n x)(hy:NB n y)(hn:n<=4000):Val dE [nm x,nm y] (.bl (nlt x y)):=by
 have f1:=fits_of (n:=20000) hx.b1 (by omega)
 have f2:=fits_of (n:=20000) hx.b2 (by omega)
 have f3:=fits_of (n:=20000) hy.b1 (by omega)
 have f4:=fits_of (n:=20000) hy.b2 (by omega)
 unfold Val dE iN nlt
 simp only[nm,LF,LJ]
 walk_at "evh"
 exact⟨_,rfl⟩
theorem ve{x y:Num}{n:Nat}(hx:NB n x)(hy:NB n y)(hn:n<=4000)(h:nlt y x=false):Val cx [nm x,nm y] .non:=by
 have k1:=ar (fK hx (by omega))
 have k2:=ar (fK hy (by omega))
 have k3:=ar (gw hy hx hn)
 rw[h] at k3
 unfold Val cx dq
 simp only[nm,LF,LJ] at k1 k2 k3 ⊢
 walk_at "evh"
 exact⟨_,rfl⟩
structure Sf where
 s:Str
 r:Num
 w:Str
noncomputable def sfA(f:Sf):A:=.tup [.str f.s,nm f.r,.str f.w]
def lP(w:Str):Prop:=w = "fixed" \/ w = "big" \/ w = "small"
structure vN (n:Nat) (f:Sf):Prop where
 nb:NB n f.r
 nn:nlt f.r (0,1)=false
 wy:lP f.w
theorem IK:NB 60 (0,1):=NB.zero
theorem Bm{w:Str}(h:lP w):fj true (.str w) (.tup [.str "fixed",.str "big",.str "small"])=some (.fr (.bl false)):=by
 rcases h with rfl|rfl|rfl<;>kernel_rfl
theorem zL{f:Sf}{n:Nat}(h:vN n f)(h0:60<=n)(hn:n<=4000):Val bN [sfA f] .non:=by
 have k1:=ar (fK h.nb (by omega))
 have k2:=ar (gw h.nb (IK.mono h0) hn)
 rw[h.nn] at k2
 have k3:=Bm h.wy
 unfold Val bN dQ
 simp only[sfA,nm,LF,LJ] at k1 k2 ⊢
 walk_at "evh"
 exact⟨_,rfl⟩
theorem lh{i:Nat}{ρ0:List Sl}{x:Sl}{t:Sl}(hi:ρ0.length=i)(hx:∀o,x≠Sl.pv o):put i t (ρ0++[x])=some (ρ0++[t]):=by
 subst hi
 unfold put
 rw[MQ (LU _),QB]
 simp only[Qj]
 have e:(ρ0++[x]).set ρ0.length t=ρ0++[t]:=by rw[List.set_append_right _ _ (LU _),QB];rfl
 cases x with
 | pv o=>exact absurd rfl (hx o)
 | un=>simp only[e]
 | fr a=>simp only[e]
 | lv o=>simp only[e]
theorem comp_map{i:Nat}{e:Mi Rr}{as:List A}{ρ0:List Sl}(g:A->A)(hi:ρ0.length=i)(hl:as.length<=100000)(h:∀a∈as,∃r,e (ρ0++[.fr a])=some (.ok r,ρ0++[.fr a])/\aQ r (ρ0++[.fr a])=some (g a,ρ0++[.fr a])) :
  eO 1 (aB i) aZ e as ρ0=some (.ok (.nw (.lst (as.map g))),ρ0):=by
 have key:∀(bs acc:List A)(x:Sl),(∀a∈bs,a∈as)->(∀o,x≠Sl.pv o)->∃y,dA (aB i) aZ e bs acc (ρ0++[x])=some (acc++bs.map g,ρ0++[y]):=by
  intro bs
  induction bs with
  | nil=>intro acc x _ _;exact⟨x,by rw[dA,LJ,Mr]⟩
  | cons b bs ih =>
   intro acc x hm hx
   obtain⟨r,h1,h2⟩:=h b (hm b LW)
   obtain⟨y,h3⟩:=ih (acc++[g b]) (.fr b) (λa ha=>hm a (LX _ ha)) (λo z=>by cases z)
   refine⟨y,?_⟩
   rw[dA]
   simp only[aB,lh hi hx,xc,h1,h2,h3,LF,LQ,MU,MC]
 obtain⟨y,h3⟩:=key as [] .un (λa ha=>ha) (λo z=>by cases z)
 unfold eO
 rw[if_pos hl]
 have e1:L7 1 Sl.un=[.un]:=rfl
 rw[e1,h3]
 simp
noncomputable def bT:Str := "abcdefghijklmnopqrstuvwxyz0123456789."
structure kJ (z:Str):Prop where
 lo:1<=z.length
 hi:z.length<=30
 sg:∀c∈z.cps.toList,c∈bT.cps.toList
theorem zF:∀c∈bT.cps.toList,tG ⟨#[c]⟩ bT=true:=by decide +kernel
theorem uH(n:Nat):eA (L7 n (A.bl true))=some (L7 n true):=by
 induction n with
 | zero=>rfl
 | succ n ih=>rw[Nw,eA,ih];rfl
theorem tP{z:Str}(h:kJ z):Val dw [.str z,.str bT,.int 30] (.bl true):=by
 have l1:(z.length<=100000)=True:=by simp only[eq_iff_iff,iff_true];have:=h.hi;omega
 have d1:decide ((1:Int)<=(z.length:Int))=true:=decide_eq_true (by have:=h.lo;omega)
 have d2:decide ((z.length:Int)<=30)=true:=decide_eq_true (by have:=h.hi;omega)
 have k:=comp_map (i:=3) (e:=mOp (fOr (fOr (fj false) (dj false)) (iL false)) (ae 3) (ae 1)) (as:=lj z) (ρ0:=[.fr (.str z),.fr (.str bT),.fr (.int 30)]) (λ_=>.bl true) rfl (by simp[lj];have:=h.hi;unfold QV at this;omega) (by
  intro a ha
  obtain⟨c,hc,rfl⟩:=Mn.mp ha
  have e1:fj false (.str ⟨#[c]⟩) (.str bT)=none:=rfl
  have e2:dj false (.str ⟨#[c]⟩) (.str bT)=none:=rfl
  have e3:iL false (.str ⟨#[c]⟩) (.str bT)=some (.fr (.bl true)):=by
   show some (Rr.fr (A.bl (tG ⟨#[c]⟩ bT)))=_
   rw[zF c (h.sg c hc)]
  refine⟨.fr (.bl true),?_,rfl⟩
  walk_at "evh")
 have e4:(lj z).map (λ_=>A.bl true)=L7 (lj z).length (.bl true):=by
  rw[Rm]
 rw[e4] at k
 have e5:=uH (lj z).length
 have e6:(L7 (lj z).length true).all id=true:=by rw[Mv];intro x hx;exact(List.mem_replicate.mp hx).2
 unfold Val dw dt
 walk_at "evh"
 exact⟨_,rfl⟩
theorem um{z:Str}(h:kJ z):Val gr [.str z] (.bl true):=by
 have k:=ar (tP h)
 unfold bT at k
 unfold Val gr iR
 simp only[LF,LJ] at k ⊢
 walk_at "evh"
 exact⟨_,rfl⟩
noncomputable def dG(ss:List Str):List (Key×A):=ss.map λz=>(.inr z,.bl true)
theorem vS(ss:List Str)(z:Str)(h:z∉ss):eP (dG ss) (.inr z)=none:=by
 unfold eP dG
 rw[Pf.mpr]
 ·rfl
 ·intro x hx
  obtain⟨y,hy,rfl⟩:=Mn.mp hx
  simp only[decide_eq_true_eq]
  intro e
  cases e
  exact h hy
theorem wA(ss:List Str)(z:Str)(h:z∉ss):kE (dG ss) (.inr z) (.bl true)=dG (ss++[z]):=by
 unfold kE
 rw[if_neg]
 ·unfold dG;rw[Mh];rfl
 ·intro e
  rw[MV] at e
  obtain⟨x,hx,e⟩:=e
  unfold dG at hx
  obtain⟨y,hy,rfl⟩:=Mn.mp hx
  rw[decide_eq_true_eq] at e
  cases e
  exact h hy
theorem jU{ss:List Str}(h:∀z∈ss,kJ z)(nd:ss.Nodup)(hl:ss.length<=100):Val bQ [.lst (ss.map A.str)] .non:=by
 obtain⟨ρ1,hf,x2,rfl,_⟩:=fP (G:=aB 2) (b:=av (sIf (eQ (ah (af gr [] (aa (ai 2) ag)))) fO aG) (av (sIf (ah (mOp (fOr (fOr (fj false) (dj false)) (iL false)) (ae 2) (ae 1))) fO aG) (ed 1 (ae 2) (mC (.bl true))))) (as:=ss.map A.str)
  (λi ρ=>∃x2:Sl,ρ=[.fr (.lst (ss.map A.str)),.lv (.dic (dG (ss.take i))),x2]/\∀o,x2≠Sl.pv o) (ρ:=[.fr (.lst (ss.map A.str)),.lv (.dic []),.un]) ⟨.un,rfl,λo z=>by cases z⟩ (by
   rintro i a ρ ha ⟨x2,rfl,hx⟩
   rw[LZ] at ha
   cases ez:ss[i]? with
   | none=>rw[ez] at ha;cases ha
   | some z =>
    rw[ez] at ha
    cases ha
    have hz:=Mc ez
    have hi:=(LI.mp ez).1
    have nz:z∉ss.take i:=λy=>by
     have e:=nd
     rw[<- MB i ss,L6] at e
     refine e.2.2 z y z ?_ rfl
     rw[MF hi,(LI.mp ez).2]
     exact LW
    have k:=ar (um (h z hz))
    have e1:fj false (.str z) (.dic (dG (ss.take i)))=none:=rfl
    have e2:dj false (.str z) (.dic (dG (ss.take i)))=some (.fr (.bl false)):=by
     show some (Rr.fr (A.bl (eP (dG (ss.take i)) (.inr z)).isSome))=_
     rw[vS _ _ nz];rfl
    have e3:=wA (ss.take i) z nz
    have e4:ss.take i++[z]=ss.take (i+1):=by rw[MD,ez];rfl
    have e5:((dG (ss.take i)).length<=100000)=True:=by simp only[eq_iff_iff,iff_true,dG,LH,Mm];omega
    rw[e4] at e3
    simp only[LF,LJ] at k
    refine⟨[.fr (.lst (ss.map A.str)),.lv (.dic (dG (ss.take i))),.fr (.str z)],[.fr (.lst (ss.map A.str)),.lv (.dic (dG (ss.take (i+1)))),.fr (.str z)],?_,.inl ?_,_,rfl,λo z=>by cases z⟩
    ·exact lh (ρ0:=[.fr (.lst (ss.map A.str)),.lv (.dic (dG (ss.take i)))]) rfl hx
    ·walk_at "evh")
 unfold Val bQ dN
 simp only[LF,LJ]
 walk_at "evh"
 exact⟨_,rfl⟩
structure Sz where
 n:Str
 l:Num
 m:Num
 f:List Sf
noncomputable def szF(z:Sz):List (Str×A):=[("name",.str z.n),("least",nm z.l),("most",nm z.m),("shifts",.tup (z.f.map sfA))]
noncomputable def szO(z:Sz):A:=.obj "Size" (szF z)
noncomputable def szT(z:Sz):A:=.tup [.str z.n,nm z.l,nm z.m,.tup (z.f.map sfA)]
noncomputable def szN(z:Sz):List Str:=z.n::z.f.map Sf.s
structure gK (b:Nat) (z:Sz):Prop where
 lb:NB b z.l
 mb:NB b z.m
 le:nlt z.m z.l=false
 fs:∀f∈z.f,vN b f
 ns:∀s∈szN z,kJ s
 nd:(szN z).Nodup
 ln:z.f.length<=50
theorem sf0:∀f:Sf,atI [A.str f.s,nm f.r,.str f.w] 0=some (.str f.s):=λf=>xY _ _
theorem kN{z:Sz}(h:z.f.length<=50)(s0:Sl):eO 1 (aB 1) aZ (mOp (fOr fIx aj) (ae 1) (mC (.int 0))) (z.f.map sfA) [s0]=some (.ok (.nw (.lst ((z.f.map Sf.s).map A.str))),[s0]):=by
 have k:=comp_map (i:=1) (e:=mOp (fOr fIx aj) (ae 1) (mC (.int 0))) (as:=z.f.map sfA) (ρ0:=[s0]) (λa=>match a with | .tup (x::_)=>x|_=>.non) rfl (by rw[LH];omega) (by
  intro a ha
  obtain⟨f,hf,rfl⟩:=Mn.mp ha
  refine⟨.fr (.str f.s),?_,rfl⟩
  unfold sfA nm
  walk_at "evh")
 rw[k]
 congr 5
 rw[MM,MM]
 rfl
theorem iq(z:Sz):aU ["Size"] "name" (szO z)=some (.fr (.str z.n)):=by
 unfold aU szO szF
 simp only
 rw[if_pos (by decide +kernel)]
 rfl
theorem i9(z:Sz):aU ["Size"] "least" (szO z)=some (.fr (nm z.l)):=by
 unfold aU szO szF
 simp only
 rw[if_pos (by decide +kernel)]
 rfl
theorem kF(z:Sz):aU ["Size"] "most" (szO z)=some (.fr (nm z.m)):=by
 unfold aU szO szF
 simp only
 rw[if_pos (by decide +kernel)]
 rfl
theorem cO(z:Sz):aU ["Size"] "shifts" (szO z)=some (.fr (.tup (z.f.map sfA))):=by
 unfold aU szO szF
 simp only
 rw[if_pos (by decide +kernel)]
 rfl
theorem uD{z:Sz}(h:z.f.length<=50):gG aK [szO z] (.lst ((szN z).map A.str)):=by
 have k:=kN h (.fr (szO z))
 have a1:=iq z
 have a2:=cO z
 have l1:(0+1<=1000)=True:=by simp
 have l2:(1+(OS A.str (OS Sf.s z.f)).length<=100000)=True:=by simp only[eq_iff_iff,iff_true,LH];omega
 unfold gG aK dC
 simp only[LF,LJ,szN] at k ⊢
 generalize szO z=o at a1 a2 k ⊢
 walk_at "evh"
 exact⟨_,rfl⟩
theorem tV{z:Sz}(h:z.f.length<=50):∃ρ,aK [.pv (.obj "Size" (szF z))]=some (.rt (.lv (.lst ((szN z).map A.str))),.pv (.obj "Size" (szF z))::ρ):=by
 have k:=kN h (.pv (.obj "Size" (szF z)))
 have a1:=iq z
 have a2:=cO z
 have l1:(0+1<=1000)=True:=by simp
 have l2:(1+(OS A.str (OS Sf.s z.f)).length<=100000)=True:=by simp only[eq_iff_iff,iff_true,LH];omega
 unfold szO at a1 a2
 unfold aK dC
 simp only[LF,LJ,szN] at k ⊢
 generalize szF z=o at a1 a2 k ⊢
 walk_at "evh"
 exact⟨_,rfl⟩
def JJ(sh:A)(f:List Sf):Prop:=(sh=.non/\f=[])\/sh=.lst (f.map sfA)\/sh=.tup (f.map sfA)
theorem AB{f:List Sf}{a0 a1 a2 a3 a4 a5:Sl}(h:f.length<=50):eO 1 (aB 6) aZ (bI (aa (mOp (fOr fIx aj) (ae 6) (mC (.int 0))) (aa (mOp (fOr fIx aj) (ae 6) (mC (.int 1))) (aa (mOp (fOr fIx aj) (ae 6) (mC (.int 2))) ag)))) (f.map sfA) [a0,a1,a2,a3,a4,a5]=some (.ok (.nw (.lst (f.map sfA))),[a0,a1,a2,a3,a4,a5]):=by
 have k:=comp_map (i:=6) (e:=bI (aa (mOp (fOr fIx aj) (ae 6) (mC (.int 0))) (aa (mOp (fOr fIx aj) (ae 6) (mC (.int 1))) (aa (mOp (fOr fIx aj) (ae 6) (mC (.int 2))) ag)))) (as:=f.map sfA) (ρ0:=[a0,a1,a2,a3,a4,a5]) id rfl (by rw[LH];omega) (by
  intro a ha
  obtain⟨g,hg,rfl⟩:=Mn.mp ha
  refine⟨.fr (sfA g),?_,rfl⟩
  have l3:(0+1+1+1<=1000)=True:=by simp
  unfold sfA nm
  walk_at "evh")
 rw[k,RX]
theorem Fz{sh:A}{f:List Sf}(h:f.length<=50)(hs:JJ sh f)(a0 a1 a2 a3 a5:Sl):mIf (ah (mOp (fIs false) (ae 4) (mC .non))) (bI ag) (mB1 g7 (cL 1 (cy (ae 4)) (aB 6) aZ (bI (aa (mOp (fOr fIx aj) (ae 6) (mC (.int 0))) (aa (mOp (fOr fIx aj) (ae 6) (mC (.int 1))) (aa (mOp (fOr fIx aj) (ae 6) (mC (.int 2))) ag)))))) [a0,a1,a2,a3,.fr sh,a5]=some (.ok (.fr (.tup (f.map sfA))),[a0,a1,a2,a3,.fr sh,a5]):=by
 have k:=AB (a0:=a0) (a1:=a1) (a2:=a2) (a3:=a3) (a4:=.fr sh) (a5:=a5) h
 rcases hs with ⟨rfl,rfl⟩|rfl|rfl
 ·rfl
 ·walk_at "evh"
 ·walk_at "evh"
theorem sa1(a:A)(a2 a3 a4 a5:Sl):dW ["Size"] 0 "name" (ae 1) [.pv (.obj "Size" []),.fr a,a2,a3,a4,a5]=some (.nx,[.pv (.obj "Size" [("name",a)]),.fr a,a2,a3,a4,a5]):=by rfl
theorem sa2(a b:A)(a3 a4 a5:Sl):dW ["Size"] 0 "least" (ae 2) [.pv (.obj "Size" [("name",a)]),.fr a,.fr b,a3,a4,a5]=some (.nx,[.pv (.obj "Size" [("name",a),("least",b)]),.fr a,.fr b,a3,a4,a5]):=by rfl
theorem sa3(a b c:A)(a4 a5:Sl):dW ["Size"] 0 "most" (ae 3) [.pv (.obj "Size" [("name",a),("least",b)]),.fr a,.fr b,.fr c,a4,a5]=some (.nx,[.pv (.obj "Size" [("name",a),("least",b),("most",c)]),.fr a,.fr b,.fr c,a4,a5]):=by rfl
theorem sa4(a b c d:A)(a4 a5:Sl)(m:Mi Rr)(h:m [.pv (.obj "Size" [("name",a),("least",b),("most",c)]),.fr a,.fr b,.fr c,a4,a5]=some (.ok (.fr d),[.pv (.obj "Size" [("name",a),("least",b),("most",c)]),.fr a,.fr b,.fr c,a4,a5])):dW ["Size"] 0 "shifts" m [.pv (.obj "Size" [("name",a),("least",b),("most",c)]),.fr a,.fr b,.fr c,a4,a5]=some (.nx,[.pv (.obj "Size" [("name",a),("least",b),("most",c),("shifts",d)]),.fr a,.fr b,.fr c,a4,a5]):=by
 rw[qM,h]
 rfl
theorem cm0{f:Ms}{o o':LO}{s:Sl}{r:Rr}{ρc:List Sl}(h:f [.pv o]=some (.rt s,.pv o'::ρc))(hr:jy s=some r)(ρ:List Sl):cK f [] [.rf 0] (.pv o::ρ)=some (.ok r,.pv o'::ρ):=cw0 (as:=[]) ⟨ρc,h⟩ hr ρ
theorem qp{z:Sz}{b:Nat}(h:gK b z)(b0:60<=b)(b1:b<=4000){sh:A}(hs:JJ sh z.f):∃x5,bw [.pv (.obj "Size" []),.fr (.str z.n),.fr (nm z.l),.fr (nm z.m),.fr sh]=some (.rt (.fr .non),[.pv (.obj "Size" (szF z)),.fr (.str z.n),.fr (nm z.l),.fr (nm z.m),.fr sh,x5]):=by
 have s4:=λa0 a1 a2 a3 a5=>Fz h.ln hs a0 a1 a2 a3 a5
 have kb:=ar (ve h.lb h.mb b1 h.le)
 obtain⟨ρn,kn⟩:=tV h.ln
 have kn2:=cm0 kn rfl
 have kr:=ar (jU h.ns h.nd (by unfold szN;simp;have:=h.ln;omega))
 have rc:∀ρ,gO "Size" "names" (.rf 0) (.pv (.obj "Size" (szF z))::ρ)=some (.ok (.rf 0),.pv (.obj "Size" (szF z))::ρ):=λρ=>rfl
 have rs:∀ρ,gO "Stock" "names" (.rf 0) (.pv (.obj "Size" (szF z))::ρ)=none:=λρ=>rfl
 have a2:=cO z
 obtain⟨ρ1,hf,x5,rfl,hx5⟩:=fP (G:=aB 5) (b:=bE (af bN [] (aa (ai 5) ag))) (as:=z.f.map sfA)
  (λi ρ=>∃x5:Sl,ρ=[.pv (.obj "Size" (szF z)),.fr (.str z.n),.fr (nm z.l),.fr (nm z.m),.fr sh,x5]/\∀o,x5≠Sl.pv o) (ρ:=[.pv (.obj "Size" (szF z)),.fr (.str z.n),.fr (nm z.l),.fr (nm z.m),.fr sh,.un]) ⟨.un,rfl,λo z=>by cases z⟩ (by
   rintro i a ρ ha ⟨x5,rfl,hx⟩
   obtain⟨f,hf,rfl⟩:=Mn.mp (Mc ha)
   have k:=ar (zL (h.fs f hf) b0 b1)
   simp only[LF,LJ] at k
   refine⟨_,_,lh (ρ0:=[.pv (.obj "Size" (szF z)),.fr (.str z.n),.fr (nm z.l),.fr (nm z.m),.fr sh]) rfl hx,.inl ?_,.fr (sfA f),rfl,λo z=>by cases z⟩
   walk_at "evh")
 refine⟨x5,?_⟩
 unfold bw gh
 simp only[LF,LJ] at kb kr
 unfold szO at a2
 rw[mK]
 simp only[MU,MC,Nw,Nx]
 rw[bF,sa1]
 simp only
 rw[bF,sa2]
 simp only
 rw[bF,sa3]
 simp only
 rw[bF,sa4 _ _ _ _ _ _ _ (s4 _ _ _ _ _)]
 simp only
 have e0:([("name",A.str z.n),("least",nm z.l),("most",nm z.m),("shifts",.tup (z.f.map sfA))]:List (Str×A))=szF z:=rfl
 rw[e0]
 have e1:c8 (cy (mUn (aU ["Size"] "shifts") (ae 0))) (aB 5) (bE (af bN [] (aa (ai 5) ag))) [.pv (.obj "Size" (szF z)),.fr (.str z.n),.fr (nm z.l),.fr (nm z.m),.fr sh,.un]=some (.nx,[.pv (.obj "Size" (szF z)),.fr (.str z.n),.fr (nm z.l),.fr (nm z.m),.fr sh,x5]):=by
  clear h kb kn kn2 kr rc rs s4 hs
  generalize szF z=o at a2 hf ⊢
  walk_at "evh"
 have s5:bE (af cx [] (aa (ai 2) (aa (ai 3) ag))) [.pv (.obj "Size" (szF z)),.fr (.str z.n),.fr (nm z.l),.fr (nm z.m),.fr sh,.un]=some (.nx,[.pv (.obj "Size" (szF z)),.fr (.str z.n),.fr (nm z.l),.fr (nm z.m),.fr sh,.un]):=by
  walk_at "evh"
 rw[bF,s5]
 simp only
 rw[bF,e1]
 simp only
 clear h s4 hs a2 e0 kn hf e1 s5 kb
 generalize szF z=o at *
 walk_at "evh"
theorem o9{x:Str}{a b:Nat}(hab:a<=b)(hb:b<=x.length):(MX x (some (a:Int)) (some (b:Int))).cps.toList=(x.cps.toList.drop a).take (b-a):=by
 have e:=StrLaws.sliced_plain x hab hb
 have e2:=StrLaws.strSliceIndices_plain hab hb
 unfold MX
 by_cases hl:(Nf (some (a:Int)) (some (b:Int)) 1 x.length).length=x.length
 ·rw[if_pos (by simpa using hl)]
  rw[e2,LH,Q3] at hl
  have h0:a=0:=by omega
  have h1:b=x.length:=by omega
  subst h0 h1
  rw[Rx,List.take_of_length_le (by rw[ML];exact LU _)]
 ·rw[if_neg (by simpa using hl)]
  show List.filterMap _ _=_
  exact e
theorem oH{x:Str}{b:Nat}(h:b<=x.length):(MX x none (some (b:Int))).cps.toList=x.cps.toList.take b:=by
 have e:MX x none (some (b:Int))=MX x (some ((0:Nat):Int)) (some (b:Int)):=by
  unfold MX
  have:Nf none (some (b:Int)) 1 x.length=Nf (some ((0:Nat):Int)) (some (b:Int)) 1 x.length:=by
   unfold Nf
   have:max (0:Int) (min 0 (x.length:Int))=0:=by omega
   simp[this]
  rw[this]
 rw[e,o9 (MT _) h,Rx,Nat.sub_zero]
theorem tJ(ss:List Str):(MJ ⟨#[]⟩ ss).cps.toList=ss.flatMap (λs=>s.cps.toList):=by
 unfold MJ
 cases ss with
 | nil=>rfl
 | cons a r =>
  show (r.foldl (λacc p=>acc++#[]++p.cps) a.cps).toList=_
  rw[Pm]
  have:∀(acc:Array Nat),(r.foldl (λacc p=>acc++#[]++p.cps) acc).toList=acc.toList++r.flatMap (λs=>s.cps.toList):=by
   induction r with
   | nil=>intro acc;simp
   | cons p r ih=>intro acc;rw[Rg,ih];simp
  exact this _
theorem xW:bT.cps.toList.length=37:=by decide +kernel
theorem sO:(bT.length<=100000)=True:=by simp only[eq_iff_iff,iff_true];decide +kernel
noncomputable abbrev bsE:Mi Rr:=mOp (fOr fIx aj) (ae 2) (af ao [] (aa (ae 0) (aa (mC (.int 37)) ag)))
theorem CV{n:Int}{o:LO}(m:Int)(w:Wl n o)(hn:n<2^38):∃(B:Str) (o':LO),aD 3 (mS1 iy (mC (.str "")) (cL 1 (fH (mC (.int 30))) (aB 8) aZ bsE)) [.pv o,.fr (.int m),.fr (.str bT),.un,.un,.un,.un,.un]=some (.nx,[.pv o',.fr (.int m),.fr (.str bT),.fr (.str B),.un,.un,.un,.un])/\B.cps.toList.length=30/\(∀c∈B.cps.toList,c∈bT.cps.toList)/\Wl (n+30) o':=by
 obtain⟨ys,ρ',hc,cs,oz,e1,e2,e4,e3,wz⟩:=iT (G:=aB 8) (t:=aZ) (e:=bsE) (as:=bP 0 30)
  (λi acc ρ=>∃(cs:List Nat) (oz:LO),acc=(cs.map λc=>(⟨#[c]⟩:Str)).map A.str/\cs.length=i/\(∀c∈cs,c∈bT.cps.toList)/\(∃x,ρ=[.pv oz,.fr (.int m),.fr (.str bT),.un,.un,.un,.un,.un,x]/\∀q,x≠Sl.pv q)/\Wl (n+i) oz)
  (ρ:=[.pv o,.fr (.int m),.fr (.str bT),.un,.un,.un,.un,.un,.un])
  ⟨[],o,rfl,rfl,(λc hc=>by cases hc),⟨.un,rfl,λq z=>by cases z⟩,w.mono (by simp)⟩ (by
   rintro i a acc ρ ha ⟨cs,oz,rfl,ez,ec,⟨x,rfl,hx⟩,wz⟩
   have hi:i<30:=by
    have:=(LI.mp ha).1
    simpa[bP] using this
   obtain⟨r3,o3,c3,a3,b3,w3⟩:=tk 37 wz (by omega) (by decide) (by decide)
   obtain⟨j,rfl⟩:∃j:Nat,r3=j:=⟨r3.toNat,by omega⟩
   have hj:j<bT.cps.toList.length:=by rw[xW];omega
   have hch:=jB (L8 hj)
   have hm:=Ov hj
   generalize bT.cps.toList[j]=ch at hch hm
   have hlen:=sO
   refine⟨[.pv oz,.fr (.int m),.fr (.str bT),.un,.un,.un,.un,.un,.fr a],?_,.inl ⟨_,.fr (.str ⟨#[ch]⟩),[.pv o3,.fr (.int m),.fr (.str bT),.un,.un,.un,.un,.un,.fr a],.str ⟨#[ch]⟩,_,rfl,?_,rfl,cs++[ch],o3,?_,?_,?_,⟨.fr a,rfl,λq z=>by cases z⟩,w3.mono (by omega)⟩⟩
   ·cases x with
    | pv q=>exact absurd rfl (hx q)
    | _=>rfl
   ·clear ha hi a3 b3 w3 wz hx w ec
    unfold bsE
    walk_at "evh"
   ·rw[Mh,Mh];rfl
   ·rw[L4,ez];rfl
   ·intro c hc
    rcases LS.mp hc with h|h
    ·exact ec c h
    ·rw[Ma.mp h];exact hm)
 obtain⟨x,e3,_⟩:=e3
 subst e1 e3
 have hlen:(bP 0 30).length=30:=by simp[bP]
 rw[hlen] at e2 wz
 have fl:(cs.map λc=>(⟨#[c]⟩:Str)).flatMap (λs=>s.cps.toList)=cs:=by
  rw[List.flatMap_map]
  induction cs with
  | nil=>rfl
  | cons c cs ih=>rw[Pm];simp
 have gl:=tJ (cs.map λc=>(⟨#[c]⟩:Str))
 rw[fl] at gl
 refine⟨MJ ⟨#[]⟩ (cs.map λc=>(⟨#[c]⟩:Str)),oz,?_,by rw[gl];exact e2,by rw[gl];exact e4,wz.mono (by simp)⟩
 have k1:((bP 0 (30:Int).toNat).length<=100000)=True:=by simp only[eq_iff_iff,iff_true];simp[bP]
 have k2:(-(2^60)<=(30:Int)/\(30:Int)<2^60)=True:=by simp
 have k3:=oS (cs.map λc=>(⟨#[c]⟩:Str))
 have lz:gF (cs.map λc=>(⟨#[c]⟩:Str))=30:=by
  unfold gF
  rw[MM]
  have:(QV∘λc=>(⟨#[c]⟩:Str))=λ_=>1:=rfl
  rw[this,Rm,List.sum_replicate_nat,e2]
 have k4:iy "" (.lst ((cs.map λc=>(⟨#[c]⟩:Str)).map A.str))=some (.fr (.str (MJ ⟨#[]⟩ (cs.map λc=>(⟨#[c]⟩:Str))))):=by
  show iy ⟨#[]⟩ _=_
  unfold iy
  simp only[k3]
  rw[if_pos (by rw[lz];show 30+_*0<=100000;omega)]
 generalize MJ ⟨#[]⟩ (cs.map λc=>(⟨#[c]⟩:Str))=G at *
 generalize (cs.map λc=>(⟨#[c]⟩:Str)).map A.str=Y at *
 clear k3 lz gl fl wz e2 e4 w hlen
 have kc:eO 1 (aB 8) aZ bsE (bP 0 (30:Int).toNat) [.pv o,.fr (.int m),.fr (.str bT),.un,.un,.un,.un,.un]=some (.ok (.nw (.lst Y)),[.pv oz,.fr (.int m),.fr (.str bT),.un,.un,.un,.un,.un]):=by
  unfold eO
  rw[if_pos (of_eq_true k1)]
  show (match dA (aB 8) aZ bsE (bP 0 30) [] [.pv o,.fr (.int m),.fr (.str bT),.un,.un,.un,.un,.un,.un] with|some (ys,ρ')=>some ((Except.ok (Rr.nw (.lst ys)):Except Str Rr),ρ'.take 8)|none=>none)=_
  rw[hc]
  rfl
 generalize bsE=be at *
 clear hc k1
 walk_at "evh"
theorem Aq(x y:Str):(x++y).length=x.length+y.length:=by
 show (x.cps++y.cps).size=x.cps.size+y.cps.size
 simp
theorem tj(x y:Str):(x++y).cps.toList=x.cps.toList++y.cps.toList:=by
 show (x.cps++y.cps).toList=_
 simp
theorem cv(x:Str):x.length=x.cps.toList.length:=by rw[ML];rfl
theorem iz{α β:Type}(f:α->β){l:List α}(h:(l.map f).Nodup):l.Nodup:=by
 unfold SD at h ⊢
 rw[Q4] at h
 exact h.imp λhab e=>hab (by rw[e])
noncomputable def nA(B:Str)(s k:Nat):Str:=MX B none (some ((1+(s+7*k)%30:Nat):Int))
theorem qU{B:Str}(hB:B.cps.toList.length=30)(s k:Nat):(nA B s k).cps.toList=B.cps.toList.take (1+(s+7*k)%30):=oH (by rw[cv,hB];omega)
theorem Hm:∀s,s<30->((Mo 12).map λk=>1+(s+7*k)%30).Nodup:=by decide +kernel
theorem JZ{B:Str}(hB:B.cps.toList.length=30)(hc:∀c∈B.cps.toList,c∈bT.cps.toList)(s k:Nat):kJ (nA B s k):=by
 have e:=qU hB s k
 refine⟨by rw[cv,e,Mm];omega,by rw[cv,e,Mm];omega,λc h=>?_⟩
 rw[e] at h
 exact hc c (OT h)
theorem EX{B:Str}(hB:B.cps.toList.length=30){s:Nat}(hs:s<30):((Mo 12).map (nA B s)).Nodup:=by
 refine iz (λz:Str=>z.length) ?_
 have:((Mo 12).map (nA B s)).map (λz:Str=>z.length)=(Mo 12).map λk=>1+(s+7*k)%30:=by
  rw[MM]
  refine Ny λk _=>?_
  show (nA B s k).length=_
  rw[cv,qU hB,Mm]
  omega
 rw[this]
 exact Hm s hs
noncomputable def sgn(first k:Nat):Nat:=bT.cps.toList.getD ((first+5*k)%37) 0
noncomputable def nB(B:Str)(spot long first k:Nat):Str:=MX B none (some (spot:Int))++⟨#[sgn first k]⟩++MX B (some ((spot+1:Nat):Int)) (some (long:Int))
theorem qi(first k:Nat):bT.cps.toList[(first+5*k)%37]?=some (sgn first k):=by
 have h:(first+5*k)%37<bT.cps.toList.length:=by rw[xW];omega
 unfold sgn
 rw[MR,L8 h]
 rfl
theorem qJ{B:Str}(hB:B.cps.toList.length=30){spot long:Nat}(h1:spot<long)(h2:long<=30)(first k:Nat):(nB B spot long first k).cps.toList=B.cps.toList.take spot++(sgn first k::(B.cps.toList.drop (spot+1)).take (long-(spot+1))):=by
 unfold nB
 rw[tj,tj,oH (by rw[cv,hB];omega),o9 (by omega) (by rw[cv,hB];omega)]
 simp
theorem IZ:∀f,f<37->((Mo 12).map λk=>(bT.cps.toList[(f+5*k)%37]?)).Nodup:=by decide +kernel
theorem JH{B:Str}(hB:B.cps.toList.length=30)(hc:∀c∈B.cps.toList,c∈bT.cps.toList){spot long:Nat}(h1:spot<long)(h2:long<=30)(first k:Nat):kJ (nB B spot long first k):=by
 have e:=qJ hB h1 h2 first k
 have l:(nB B spot long first k).length=long:=by
  rw[cv,e,L4,LL,Mm,Mm,Om,hB]
  omega
 refine⟨by omega,by omega,λc h=>?_⟩
 rw[e] at h
 rcases LS.mp h with h|h
 ·exact hc c (OT h)
 ·rcases Me.mp h with h|h
  ·rw[h];exact Mc (qi first k)
  ·exact hc c (List.mem_of_mem_drop (OT h))
theorem Dl{B:Str}(hB:B.cps.toList.length=30){spot long first:Nat}(h1:spot<long)(h2:long<=30)(hf:first<37):((Mo 12).map (nB B spot long first)).Nodup:=by
 refine iz (λz:Str=>z.cps.toList[spot]?) ?_
 have:((Mo 12).map (nB B spot long first)).map (λz:Str=>z.cps.toList[spot]?)=(Mo 12).map λk=>(bT.cps.toList[(first+5*k)%37]?):=by
  rw[MM]
  refine Ny λk _=>?_
  show (nB B spot long first k).cps.toList[spot]?=_
  have hl:(B.cps.toList.take spot).length=spot:=by rw[Mm];omega
  rw[qJ hB h1 h2,qi,MQ (by omega),hl,QB]
  rfl
 rw[this]
 exact IZ first hf
noncomputable def gI(f:Nat->Str):A->A:=λa=>match a with | .int i=>.str (f i.toNat)|_=>.non
theorem rq(f:Nat->Str)(n:Nat):(bP 0 n).map (gI f)=((Mo n).map f).map A.str:=by
 unfold bP
 rw[MM,MM]
 refine Ny λk _=>?_
 show A.str (f (0+(k:Int)).toNat)=A.str (f k)
 rw[QC,Nq]
theorem Jj(k:Nat)(h:k<1000):fits 20000 (0+(k:Int))=true:=aP (m:=64) (show (0+(k:Int)).natAbs<2^64 by omega) (by decide)
theorem Cg{f:Nat->Str}{K n:Nat}(h:K<=n)(hn:((Mo n).map f).Nodup):((Mo K).map f).Nodup :=
 Py (SE f (List.range_sublist.mpr h)) hn
theorem Dx{B:Str}(hB:B.cps.toList.length=30)(s k:Nat):(nA B s k).length<=30:=by
 rw[cv,qU hB,Mm];omega
theorem DW{B:Str}(hB:B.cps.toList.length=30){spot long:Nat}(h1:spot<long)(h2:long<=30)(first k:Nat):(nB B spot long first k).length<=30:=by
 rw[cv,qJ hB h1 h2,L4,LL,Mm,Mm,Om,hB]
 omega
theorem tI{K:Nat}(hK:K<=12){n:Int}{o:LO}(w:Wl n o)(hn:n<2^37):∃(ss:List Str) (o':LO),cg dD o [.int (K:Int)] (.lv (.lst (ss.map A.str))) o'/\ss.Nodup/\ss.length=K/\(∀z∈ss,kJ z/\z.length<=30)/\Wl (n+40) o':=by
 obtain⟨B,o1,s3,hB,hc,w1⟩:=CV (K:Int) w (by omega)
 obtain⟨r2,o2,c2,a2,b2,w2⟩:=tk 3 w1 (by omega) (by decide) (by decide)
 have lB:(B.length<=100000)=True:=by simp only[eq_iff_iff,iff_true];rw[cv,hB];omega
 have k2:(-(2^60)<=(K:Int)/\(K:Int)<2^60)=True:=by
  simp only[eq_iff_iff,iff_true]
  omega
 have k9:((bP 0 K).length<=100000)=True:=by
  simp only[eq_iff_iff,iff_true]
  simp[bP]
  omega
 have s2:aD 2 (mC (.str "abcdefghijklmnopqrstuvwxyz0123456789.")) [.pv o,.fr (.int (K:Int)),.un,.un,.un,.un,.un,.un]=some (.nx,[.pv o,.fr (.int (K:Int)),.fr (.str bT),.un,.un,.un,.un,.un]):=rfl
 have f7:fits 20000 7=true:=aP (m:=64) (show (7:Int).natAbs<2^64 by decide) (by decide)
 have f5:fits 20000 5=true:=aP (m:=64) (show (5:Int).natAbs<2^64 by decide) (by decide)
 have n30:((30:Int) != 0)=true:=by decide
 have n37:((37:Int) != 0)=true:=by decide
 by_cases hr:r2=1
 ·obtain⟨r4,o4,c4,a4,b4,w4⟩:=tk 30 w2 (by omega) (by decide) (by decide)
  obtain⟨s,rfl⟩:∃s:Nat,r4=s:=⟨r4.toNat,by omega⟩
  refine⟨(Mo K).map (nA B s),o4,?_,Cg hK (EX hB (by omega)),by simp,?_,w4.mono (by omega)⟩
  ·have k:=comp_map (i:=8) (e:=mSl (ae 3) fC (fG (mOp aW (mC (.int 1)) (mOp gL (mOp aW (ae 4) (mOp bL (mC (.int 7)) (ae 8))) (mC (.int 30)))))) (as:=bP 0 K) (ρ0:=[.pv o4,.fr (.int (K:Int)),.fr (.str bT),.fr (.str B),.fr (.int (s:Int)),.un,.un,.un]) (gI (nA B s)) rfl (of_eq_true k9) (by
    intro a ha
    obtain⟨k,hk,rfl⟩:=Mn.mp ha
    have hk:=Nb.mp hk
    have fk:=Jj k (by omega)
    have ek:1+((s:Int)+7*(0+(k:Int))).fmod 30=((1+(s+7*k)%30:Nat):Int):=by
     rw[Oa _ (by decide)];omega
    refine⟨.fr (gI (nA B s) (.int (0+(k:Int)))),?_,rfl⟩
    have eg:gI (nA B s) (.int (0+(k:Int)))=.str (MX B none (some ((1+(s+7*k)%30:Nat):Int))):=by
     show A.str (nA B s (0+(k:Int)).toNat)=_
     rw[QC,Nq];rfl
    rw[eg]
    walk_at "evh"
    simp only[fSl]
    walk_at "evh")
   rw[rq] at k
   subst hr
   unfold cg dD dB
   rw[mK]
   simp only[LF,LJ,MU,MC,Nw,Nx]
   rw[bF,s2]
   simp only
   unfold bsE at s3
   rw[bF,s3]
   simp only
   have t12:((K:Int)).toNat=K:=Nq K
   generalize ((Mo K).map (nA B s)).map A.str=Y at *
   walk_at "evh"
   exact⟨_,rfl⟩
  ·intro z hz
   obtain⟨k,_,rfl⟩:=Mn.mp hz
   exact⟨JZ hB hc s k,Dx hB s k⟩
 ·have dr:decide (r2=1)=false:=decide_eq_false hr
  obtain⟨r5,o5,c5,a5,b5,w5⟩:=tk 30 w2 (by omega) (by decide) (by decide)
  obtain⟨r6,o6,c6,a6,b6,w6⟩:=tk (1+r5) w5 (by omega) (by omega) (by omega)
  obtain⟨r7,o7,c7,a7,b7,w7⟩:=tk 37 w6 (by omega) (by decide) (by decide)
  obtain⟨lg,hlg⟩:∃s:Nat,1+r5=s:=⟨(1+r5).toNat,by omega⟩
  obtain⟨sp,rfl⟩:∃s:Nat,r6=s:=⟨r6.toNat,by omega⟩
  obtain⟨fi,rfl⟩:∃s:Nat,r7=s:=⟨r7.toNat,by omega⟩
  have h1:sp<lg:=by omega
  have h2:lg<=30:=by omega
  refine⟨(Mo K).map (nB B sp lg fi),o7,?_,Cg hK (Dl hB h1 h2 (by omega)),by simp,?_,w7.mono (by omega)⟩
  ·have k:=comp_map (i:=8) (e:=mOp aW (mOp aW (mSl (ae 3) fC (fG (ae 6))) (mOp (fOr fIx aj) (ae 2) (mOp gL (mOp aW (ae 7) (mOp bL (mC (.int 5)) (ae 8))) (mC (.int 37))))) (mSl (ae 3) (fG (mOp aW (ae 6) (mC (.int 1)))) (fG (ae 5)))) (as:=bP 0 K) (ρ0:=[.pv o7,.fr (.int (K:Int)),.fr (.str bT),.fr (.str B),.un,.fr (.int (lg:Int)),.fr (.int (sp:Int)),.fr (.int (fi:Int))]) (gI (nB B sp lg fi)) rfl (of_eq_true k9) (by
    intro a ha
    obtain⟨k,hk,rfl⟩:=Mn.mp ha
    have hk:=Nb.mp hk
    have fk:=Jj k (by omega)
    have ek:((fi:Int)+5*(0+(k:Int))).fmod 37=(((fi+5*k)%37:Nat):Int):=by
     rw[Oa _ (by decide)];omega
    have ea:=jB (qi fi k)
    have nl:=sO
    have e1:((sp:Int)+1)=((sp+1:Nat):Int):=by omega
    have l1:((MX B none (some (sp:Int))).length+(⟨#[sgn fi k]⟩:Str).length<=100000)=True:=by
     simp only[eq_iff_iff,iff_true]
     have:=Pt B none (some (sp:Int))
     have e:(⟨#[sgn fi k]⟩:Str).length=1:=rfl
     rw[cv B,hB] at this
     omega
    have l2:((MX B none (some (sp:Int))++(⟨#[sgn fi k]⟩:Str)).length+(MX B (some ((sp+1:Nat):Int)) (some (lg:Int))).length<=100000)=True:=by
     simp only[eq_iff_iff,iff_true]
     have:=Pt B none (some (sp:Int))
     have:=Pt B (some ((sp+1:Nat):Int)) (some (lg:Int))
     have e:(⟨#[sgn fi k]⟩:Str).length=1:=rfl
     rw[cv B,hB] at *
     rw[Aq]
     omega
    refine⟨.fr (gI (nB B sp lg fi) (.int (0+(k:Int)))),?_,rfl⟩
    have eg:gI (nB B sp lg fi) (.int (0+(k:Int)))=.str (MX B none (some (sp:Int))++⟨#[sgn fi k]⟩++MX B (some ((sp+1:Nat):Int)) (some (lg:Int))):=by
     show A.str (nB B sp lg fi (0+(k:Int)).toNat)=_
     rw[QC,Nq];rfl
    rw[eg]
    walk_at "evh"
    simp only[fSl]
    walk_at "evh")
   rw[rq] at k
   rw[hlg] at c6
   unfold cg dD dB
   rw[mK]
   simp only[LF,LJ,MU,MC,Nw,Nx]
   rw[bF,s2]
   simp only
   unfold bsE at s3
   rw[bF,s3]
   simp only
   have t12:((K:Int)).toNat=K:=Nq K
   generalize ((Mo K).map (nB B sp lg fi)).map A.str=Y at *
   walk_at "evh"
   exact⟨_,rfl⟩
  ·intro z hz
   obtain⟨k,_,rfl⟩:=Mn.mp hz
   exact⟨JH hB hc h1 h2 fi k,DW hB h1 h2 fi k⟩
theorem KN:(10:Int)^(17:Int).toNat=100000000000000000:=by decide
theorem pw6:(10:Int)^(6:Int).toNat=1000000:=by decide
theorem KS:(10:Int)^(15:Int).toNat=1000000000000000:=by decide
theorem Jh(x:Int):Ok (x,1):=⟨by show (0:Int)<1;decide,by show ME x 1=1;simp⟩
theorem at5:∀r:Nat,r<5->∃t:Int,atI [A.int 1,.int 1,.int 2,.int 3,.int 6] (r:Int)=some (.int t)/\1<=t/\t<=6:=by
 intro r hr
 match r,hr with
 | 0,_=>exact⟨1,rfl,by decide,by decide⟩
 | 1,_=>exact⟨1,rfl,by decide,by decide⟩
 | 2,_=>exact⟨2,rfl,by decide,by decide⟩
 | 3,_=>exact⟨3,rfl,by decide,by decide⟩
 | 4,_=>exact⟨6,rfl,by decide,by decide⟩
theorem sH{n:Int}{o:LO}{k:Int}(w:Wl n o)(hn:n<2^38):∃x o',cg bg o [.int k] (.fr (nm x)) o'/\NB 60 x/\Wl (n+2) o':=by
 have f2:fits 20000 2=true:=aP (m:=64) (show (2:Int).natAbs<2^64 by decide) (by decide)
 have l2:(0+1+1<=1000)=True:=by simp
 have l5:(0+1+1+1+1+1<=1000)=True:=by simp
 by_cases h4:k=4
 ·obtain⟨r2,o2,c2,a2,b2,w2⟩:=tk (2*100000000000000000+1) w (by omega) (by decide) (by decide)
  refine⟨(r2-100000000000000000,1),o2,?_,⟨Jh _,show (r2-100000000000000000).natAbs<2^60 by omega,show (1:Int).natAbs<2^60 by decide⟩,w2.mono (by omega)⟩
  have p:((0:Int)<=17/\(17:Int)<=1000000/\(10:Int).natAbs<2^64)=True:=by simp
  have q:=KN
  have f:fits 20000 100000000000000000=true:=aP (m:=64) (show (100000000000000000:Int).natAbs<2^64 by decide) (by decide)
  subst h4
  have d4:decide ((4:Int)=4)=true:=by decide
  clear a2 b2 w w2 hn
  unfold cg bg cE nm
  walk_at "evh"
  exact⟨_,rfl⟩
 ·have d4:decide (k=4)=false:=decide_eq_false h4
  by_cases h3:k=3
  ·obtain⟨r2,o2,c2,a2,b2,w2⟩:=tk (2*1000000+1) w (by omega) (by decide) (by decide)
   obtain⟨r3,o3,c3,a3,b3,w3⟩:=tk 1000 w2 (by omega) (by decide) (by decide)
   have hb:(1+r3)≠0:=by omega
   have q1:=ar (jP (t:=r2-1000000) (b:=1+r3) hb (L2.Bd.mono (m:=64) (show (1+r3).natAbs<2^64 by omega) (by decide)))
   refine⟨nrm (r2-1000000) (1+r3),o3,?_,NB.nrm hb (show (r2-1000000).natAbs<2^60 by omega) (show (1+r3).natAbs<2^60 by omega),w3.mono (by omega)⟩
   simp only[LF,LJ] at q1
   have p:((0:Int)<=6/\(6:Int)<=1000000/\(10:Int).natAbs<2^64)=True:=by simp
   have q:=pw6
   have f:fits 20000 1000000=true:=aP (m:=64) (show (1000000:Int).natAbs<2^64 by decide) (by decide)
   have d3:decide (k=3)=true:=decide_eq_true h3
   clear a2 b2 a3 b3 w w2 w3 hn hb h4 h3
   unfold cg bg cE
   walk_at "evh"
   exact⟨_,rfl⟩
  ·have d3:decide (k=3)=false:=decide_eq_false h3
   by_cases h2:k=2
   ·obtain⟨r2,o2,c2,a2,b2,w2⟩:=tk (2*1000000000000000+1) w (by omega) (by decide) (by decide)
    refine⟨(r2-1000000000000000,1),o2,?_,⟨Jh _,show (r2-1000000000000000).natAbs<2^60 by omega,show (1:Int).natAbs<2^60 by decide⟩,w2.mono (by omega)⟩
    have p:((0:Int)<=15/\(15:Int)<=1000000/\(10:Int).natAbs<2^64)=True:=by simp
    have q:=KS
    have f:fits 20000 1000000000000000=true:=aP (m:=64) (show (1000000000000000:Int).natAbs<2^64 by decide) (by decide)
    have d2:decide (k=2)=true:=decide_eq_true h2
    clear a2 b2 w w2 hn h4 h3 h2
    unfold cg bg cE nm
    walk_at "evh"
    exact⟨_,rfl⟩
   ·have d2:decide (k=2)=false:=decide_eq_false h2
    obtain⟨r2,o2,c2,a2,b2,w2⟩:=tk 21 w (by omega) (by decide) (by decide)
    obtain⟨r3,o3,c3,a3,b3,w3⟩:=tk 5 w2 (by omega) (by decide) (by decide)
    obtain⟨j,rfl⟩:∃j:Nat,r3=j:=⟨r3.toNat,by omega⟩
    obtain⟨t,ht,t0,t1⟩:=at5 j (by omega)
    have hb:t≠0:=by omega
    have q1:=ar (jP (t:=r2-10) (b:=t) hb (L2.Bd.mono (m:=64) (show t.natAbs<2^64 by omega) (by decide)))
    refine⟨nrm (r2-10) t,o3,?_,NB.nrm hb (show (r2-10).natAbs<2^60 by omega) (show t.natAbs<2^60 by omega),w3.mono (by omega)⟩
    simp only[LF,LJ] at q1
    clear a2 b2 a3 b3 w w2 w3 hn hb h4 h3 h2 t0 t1
    unfold cg bg cE
    walk_at "evh"
    exact⟨_,rfl⟩
theorem sU{n:Int}{o:LO}{k:Int}(w:Wl n o)(hn:n<2^37):∃x o',cg bh o [.int k] (.fr (nm x)) o'/\NB 60 x/\0<=x.1/\Wl (n+3) o':=by
 obtain⟨x,o1,h1,nx,w1⟩:=sH (k:=k) w (by omega)
 have c1:=cw0 h1 rfl
 obtain⟨r2,o2,c2,a2,b2,w2⟩:=tk 8 w1 (by omega) (by decide) (by decide)
 have l2:(0+1+1<=1000)=True:=by simp
 simp only[LF,LJ] at c1
 by_cases h:r2=1
 ·refine⟨(0,1),o2,?_,IK,Int.le_refl _,w2.mono (by omega)⟩
  have d:decide (r2=1)=true:=decide_eq_true h
  clear a2 b2 w w1 w2 hn h nx h1
  unfold cg bh eu nm
  unfold nm at c1
  walk_at "evh"
  exact⟨_,rfl⟩
 ·have d:decide (r2=1)=false:=decide_eq_false h
  refine⟨((if x.1<0 then -x.1 else x.1),x.2),o2,?_,?_,?_,w2.mono (by omega)⟩
  ·clear a2 b2 w w1 w2 hn h nx h1
   unfold cg bh eu nm
   unfold nm at c1
   walk_at "evh"
   exact⟨_,rfl⟩
  ·split
   ·exact nx.neg
   ·exact nx
  ·show 0<=(if x.1<0 then -x.1 else x.1)
   split<;>omega
theorem wm{x:Num}(h:0<=x.1):nlt x (0,1)=false:=by
 unfold nlt
 apply decide_eq_false
 show ¬ (x.1*1<0*x.2)
 omega
theorem BS{x y:Num}(hx:Ok x)(hy:Ok y)(h:0<=y.1):nlt (bH x y) x=false:=by
 cases e:nlt (bH x y) x with
 | false=>rfl
 | true =>
  exfalso
  have h1:=(oh (wY hx hy) hx).mp e
  have h2:=wm h
  rw[n8 hx hy] at h1
  have h3:nlt y (0,1)=true:=(oh hy tm).mpr (by rw[jI];grind)
  rw[h2] at h3
  cases h3
theorem Ag(x:Num):eqA (nm x) (nm x)=some true:=by rw[EM];simp
theorem sL(i j:Str):eqA (.str i) (.str j)=some (decide (i=j)):=by
 unfold eqA
 simp only[toD]
 rw[if_pos (by simp[D.depth])]
 simp[D.eq,NP]
noncomputable def sfD(f:Sf):D:=.tup [.str f.s,.tup [.int f.r.1,.int f.r.2],.str f.w]
theorem tH:∀L:List Sf,fD (L.map sfA)=some (L.map sfD)
 | []=>by simp[fD]
 | p::L=>by rw[LF,fD,tH L];simp[sfA,sfD,nm,toD,fD]
theorem mM:∀L:List Sf,D.cC (L.map sfD)<=5
 | []=>by simp[D.cC]
 | p::L=>by
  rw[LF]
  have:=mM L
  simp[sfD,D.cC,D.depth]
  omega
theorem jN:∀L:List Str,fD (L.map A.str)=some (L.map D.str)
 | []=>by simp[fD]
 | p::L=>by rw[LF,fD,jN L];simp[toD]
theorem gW:∀L:List Str,D.cC (L.map D.str)<=5
 | []=>by simp[D.cC]
 | p::L=>by
  rw[LF]
  have:=gW L
  simp[D.cC,D.depth]
  omega
theorem n4{i:Nat}{ρ:List Sl}{x t:Sl}(hx:ρ[i]?=some x)(np:∀o,x≠Sl.pv o):put i t ρ=some (ρ.set i t):=by
 unfold put
 rw[hx]
 cases x with
 | pv o=>exact absurd rfl (np o)
 | _=>rfl
theorem nL{i:Nat}{m:Mi Rr}{ρ ρ':List Sl}{a:A}{x:Sl}(h:m ρ=some (.ok (.fr a),ρ'))(hx:ρ'[i]?=some x)(np:∀o,x≠Sl.pv o):aD i m ρ=some (.nx,ρ'.set i (.fr a)):=by
 rw[yx,h]
 show tQ i (.fr a) ρ'=_
 unfold tQ stT
 simp only
 rw[n4 hx np]
theorem D8{i:Nat}{m:Mi Rr}{ρ ρ':List Sl}{o:LO}{x:Sl}(h:m ρ=some (.ok (.nw o),ρ'))(hx:ρ'[i]?=some x)(np:∀o,x≠Sl.pv o):aD i m ρ=some (.nx,ρ'.set i (.lv o)):=by
 rw[yx,h]
 show tQ i (.nw o) ρ'=_
 unfold tQ stT
 simp only
 rw[n4 hx np]
theorem kR(L:List Str):eqA (.lst (L.map A.str)) (.lst [])=some (decide (L=[])):=by
 unfold eqA
 simp only[toD,jN,fD]
 rw[if_pos ?_]
 ·cases L with
  | nil=>simp[D.gB]
  | cons f L=>simp[D.eq,D.eqs]
 ·have:=gW L
  simp[D.cC,D.depth]
  omega
theorem at3:∀r:Nat,r<3->∃w:Str,atI [A.str "fixed",.str "big",.str "small"] (r:Int)=some (.str w)/\lP w:=by
 intro r hr
 match r,hr with
 | 0,_=>exact⟨"fixed",rfl,.inl rfl⟩
 | 1,_=>exact⟨"big",rfl,.inr (.inl rfl)⟩
 | 2,_=>exact⟨"small",rfl,.inr (.inr rfl)⟩
theorem at6:∀r:Nat,r<8->∃t:Nat,atI [A.int 0,.int 0,.int 1,.int 1,.int 2,.int 3,.int 2,.int 5] (r:Int)=some (.int (t:Int))/\t<=5:=by
 intro r hr
 match r,hr with
 | 0,_=>exact⟨0,rfl,by decide⟩
 | 1,_=>exact⟨0,rfl,by decide⟩
 | 2,_=>exact⟨1,rfl,by decide⟩
 | 3,_=>exact⟨1,rfl,by decide⟩
 | 4,_=>exact⟨2,rfl,by decide⟩
 | 5,_=>exact⟨3,rfl,by decide⟩
 | 6,_=>exact⟨2,rfl,by decide⟩
 | 7,_=>exact⟨5,rfl,by decide⟩
theorem yc(pre:List Str)(l:Str):((pre++[l]).map A.str)[((pre++[l]).map A.str).length-1]?=some (.str l)/\((pre++[l]).map A.str).dropLast=pre.map A.str:=by
 rw[Mh]
 constructor
 ·simp
 ·simp
noncomputable abbrev shB:Ms:=sIf (ah (mOp fNe (ae 5) (bV ag))) (av (aD 12 (af bh [] (aa (ae 0) (aa (ai 4) ag)))) (bE (eR 10 (cJ 10 (bI (aa (lH 5) (aa (ae 12) (aa (mOp (fOr fIx aj) (bV (aa (mC (.str "fixed")) (aa (mC (.str "big")) (aa (mC (.str "small")) ag)))) (af ao [] (aa (ae 0) (aa (mC (.int 3)) ag)))) ag)))))))) aG
structure Drw (pr:List Str) (nm0:Str) (fs:List Sf) (ss:List Str):Prop where
 nd:(pr++((nm0::fs.map Sf.s)++ss)).Nodup
 ok:∀z∈pr++((nm0::fs.map Sf.s)++ss),kJ z/\z.length<=30
 sf:∀f∈fs,vN 121 f
theorem Drw.next{pr:List Str}{nm0:Str}{fs:List Sf}{pre:List Str}{l:Str}{x:Num}{wy:Str}(d:Drw pr nm0 fs (pre++[l]))(hx:NB 60 x)(h0:0<=x.1)(hw:lP wy):Drw pr nm0 (fs++[⟨l,x,wy⟩]) pre:=by
 have e:pr++((nm0::(fs++[(⟨l,x,wy⟩:Sf)]).map Sf.s)++pre)=pr++((nm0::fs.map Sf.s)++([l]++pre)):=by simp
 have pm:(pr++((nm0::fs.map Sf.s)++([l]++pre))).Perm (pr++((nm0::fs.map Sf.s)++(pre++[l]))):=(Nl.append_left _).append_left _
 refine⟨by rw[e];exact(pm.nodup_iff).mpr d.nd,λz hz=>?_,λf hf=>?_⟩
 ·rw[e] at hz
  exact d.ok z (pm.mem_iff.mp hz)
 ·rcases LS.mp hf with h|h
  ·exact d.sf f h
  ·rw[Ma.mp h];exact⟨hx.mono (by decide),wm h0,hw⟩
theorem AN{n:Int}{o:LO}{pr:List Str}{nm0:Str}{ss:List Str}{t:Nat}{kd:Int}(w:Wl n o)(hn:n<2^36)(d:Drw pr nm0 [] ss)(ht:t<=5)(hs:ss.length<=12)(a1 a2 a3 a6 a7 a8 a9 x11 x12:Sl)(h11:∀o,x11≠Sl.pv o)(h12:∀o,x12≠Sl.pv o) :
  ∃fs ss' o' y11 y12,forL (aB 11) shB (bP 0 t) [.pv o,a1,a2,a3,.fr (.int kd),.lv (.lst (ss.map A.str)),a6,a7,a8,a9,.lv (.lst []),x11,x12]=some (.nx,[.pv o',a1,a2,a3,.fr (.int kd),.lv (.lst (ss'.map A.str)),a6,a7,a8,a9,.lv (.lst (fs.map sfA)),y11,y12])/\Drw pr nm0 fs ss'/\fs.length<=5/\fs.length+ss'.length<=ss.length/\Wl (n+20) o'/\(∀o,y11≠Sl.pv o)/\∀o,y12≠Sl.pv o:=by
 have hl:(bP 0 t).length=t:=by simp[bP]
 obtain⟨ρ1,hf,fs,ss',o',y11,y12,rfl,d',l1,l2,w',g11,g12⟩:=fP (G:=aB 11) (b:=shB) (as:=bP 0 t)
  (λi ρ=>∃fs ss' o' x11 x12,ρ=[.pv o',a1,a2,a3,.fr (.int kd),.lv (.lst (ss'.map A.str)),a6,a7,a8,a9,.lv (.lst (fs.map sfA)),x11,x12]/\Drw pr nm0 fs ss'/\fs.length<=i/\fs.length+ss'.length<=ss.length/\Wl (n+4*i) o'/\(∀o,x11≠Sl.pv o)/\∀o,x12≠Sl.pv o)
  (ρ:=[.pv o,a1,a2,a3,.fr (.int kd),.lv (.lst (ss.map A.str)),a6,a7,a8,a9,.lv (.lst []),x11,x12]) ⟨[],ss,o,x11,x12,rfl,d,LU _,(by simp),w.mono (by simp),h11,h12⟩ (by
   rintro i a ρ ha ⟨fs,ss',o',x11,x12,rfl,d',l1,l2,w',g11,g12⟩
   have hi:i<5:=by have:=(LI.mp ha).1;omega
   have e0:=kR ss'
   by_cases hz:ss'=[]
   ·have dz:decide (ss'=[])=true:=decide_eq_true hz
    rw[dz] at e0
    refine⟨_,[.pv o',a1,a2,a3,.fr (.int kd),.lv (.lst (ss'.map A.str)),a6,a7,a8,a9,.lv (.lst (fs.map sfA)),.fr a,x12],n4 (x:=x11) rfl g11,.inl ?_,fs,ss',o',_,_,rfl,d',by omega,l2,w'.mono (by omega),(λo z=>by cases z),g12⟩
    show shB [.pv o',a1,a2,a3,.fr (.int kd),.lv (.lst (ss'.map A.str)),a6,a7,a8,a9,.lv (.lst (fs.map sfA)),.fr a,x12]=_
    unfold shB
    clear d' w' g11 g12 w d h11 h12 ha hz dz hs
    have z0:(0<=1000)=True:=by simp
    walk_at "evh"
   ·have dz:decide (ss'=[])=false:=decide_eq_false hz
    rw[dz] at e0
    obtain⟨x,o1,v1,nx,x0,w1⟩:=sU (k:=kd) w' (by omega)
    have c1:=cw0 v1 rfl
    obtain⟨r3,o2,c2,a2',b2,w2⟩:=tk 3 w1 (by omega) (by decide) (by decide)
    obtain⟨j,rfl⟩:∃j:Nat,r3=j:=⟨r3.toNat,by omega⟩
    obtain⟨wy,hw1,hw2⟩:=at3 j (by omega)
    obtain⟨pre,l,rfl⟩:∃pre l,ss'=pre++[l]:=⟨ss'.dropLast,ss'.getLast hz,(PL hz).symm⟩
    obtain⟨p1,p2⟩:=yc pre l
    simp only[LF,LJ] at c1
    refine⟨_,[.pv o2,a1,a2,a3,.fr (.int kd),.lv (.lst (pre.map A.str)),a6,a7,a8,a9,.lv (.lst ((fs++[(⟨l,x,wy⟩:Sf)]).map sfA)),.fr a,.fr (nm x)],n4 (x:=x11) rfl g11,.inl ?_,fs++[(⟨l,x,wy⟩:Sf)],pre,o2,_,_,rfl,d'.next nx x0 hw2,by simp;omega,by simp at l2 ⊢;omega,w2.mono (by omega),(λo z=>by cases z),λo z=>by cases z⟩
    show shB [.pv o',a1,a2,a3,.fr (.int kd),.lv (.lst ((pre++[l]).map A.str)),a6,a7,a8,a9,.lv (.lst (fs.map sfA)),.fr a,x12]=_
    have s12:aD 12 (af bh [] (aa (ae 0) (aa (ai 4) ag))) [.pv o',a1,a2,a3,.fr (.int kd),.lv (.lst ((pre++[l]).map A.str)),a6,a7,a8,a9,.lv (.lst (fs.map sfA)),.fr a,x12]=some (.nx,[.pv o1,a1,a2,a3,.fr (.int kd),.lv (.lst ((pre++[l]).map A.str)),a6,a7,a8,a9,.lv (.lst (fs.map sfA)),.fr a,.fr (nm x)]):=by
     refine nL (x:=x12) (ρ':=[.pv o1,a1,a2,a3,.fr (.int kd),.lv (.lst ((pre++[l]).map A.str)),a6,a7,a8,a9,.lv (.lst (fs.map sfA)),.fr a,x12]) ?_ rfl g12
     walk_at "evh"
    have e5:(fs++[(⟨l,x,wy⟩:Sf)]).map sfA=fs.map sfA++[.tup [.str l,nm x,.str wy]]:=by rw[Mh];rfl
    have l3:(0+1+1+1<=1000)=True:=by simp
    have l4:((fs.map sfA).length<=100000)=True:=by simp only[eq_iff_iff,iff_true,LH];omega
    have t1:ah (mOp fNe (ae 5) (bV ag)) [.pv o',a1,a2,a3,.fr (.int kd),.lv (.lst ((pre++[l]).map A.str)),a6,a7,a8,a9,.lv (.lst (fs.map sfA)),.fr a,x12]=some (.ok true,[.pv o',a1,a2,a3,.fr (.int kd),.lv (.lst ((pre++[l]).map A.str)),a6,a7,a8,a9,.lv (.lst (fs.map sfA)),.fr a,x12]):=by
     walk_at "evh"
    unfold shB
    rw[lU,t1]
    simp only
    rw[bF,s12]
    simp only
    rw[e5]
    generalize (pre++[l]).map A.str=Y at *
    walk_at "evh")
 exact⟨fs,ss',o',y11,y12,hf,d',by rw[hl] at l1;omega,l2,w'.mono (by rw[hl];omega),g11,g12⟩
noncomputable abbrev mP:Mi Bool:=hW (ah (mOp fNe (ae 5) (bV ag))) (ah (mOp fLt (mB1 iu (ae 6)) (ae 1)))
noncomputable abbrev sY:Ms:=(av (aD 7 (lH 5)) (av (aD 8 (af bg [] (aa (ae 0) (aa (ai 4) ag)))) (av (aD 9 (af aV [] (aa (ai 8) (aa (af bh [] (aa (ae 0) (aa (ai 4) ag))) ag)))) (av (aD 10 (bV ag)) (av (c8 (fH (mOp (fOr fIx aj) (bV (aa (mC (.int 0)) (aa (mC (.int 0)) (aa (mC (.int 1)) (aa (mC (.int 1)) (aa (mC (.int 2)) (aa (mC (.int 3)) (aa (mC (.int 2)) (aa (mC (.int 5)) ag))))))))) (af ao [] (aa (ae 0) (aa (mC (.int 8)) ag))))) (aB 11) shB) (bE (eR 6 (cJ 6 (bI (aa (ae 7) (aa (ae 8) (aa (ae 9) (aa (mB1 g7 (ae 10)) ag)))))))))))))
theorem Av{K:Nat}(hK:K<=12){n:Int}{o:LO}{many kd:Int}{ss:List Str}(w:Wl n o)(hn:n<2^35)(nd:ss.Nodup)(ok:∀z∈ss,kJ z/\z.length<=30)(hl:ss.length=K):∃(zs:List Sz) (o':LO) (y5 x7 x8 x9 x10 x11 x12:Sl),dO mP sY BIG [.pv o,.fr (.int many),.fr (.int (K:Int)),.fr (.int 4),.fr (.int kd),.lv (.lst (ss.map A.str)),.lv (.lst []),.un,.un,.un,.un,.un,.un]=some (.nx,[.pv o',.fr (.int many),.fr (.int (K:Int)),.fr (.int 4),.fr (.int kd),y5,.lv (.lst (zs.map szT)),x7,x8,x9,x10,x11,x12])/\(∀z∈zs,gK 121 z)/\(zs.flatMap szN).length<=12/\(zs.flatMap szN).Nodup/\(∀x∈zs.flatMap szN,x.length<=30)/\Wl (n+360) o':=by
 obtain⟨ρ',hw,zs,o',y5,x7,x8,x9,x10,x11,x12,rfl,h1,h2,h2b,h2c,h3⟩:=iZ (t:=mP) (b:=sY) (n:=BIG)
  (P:=λk ρ=>∃(ss:List Str) (zs:List Sz) (oz:LO) (x7 x8 x9 x10 x11 x12:Sl),ρ=[.pv oz,.fr (.int many),.fr (.int (K:Int)),.fr (.int 4),.fr (.int kd),.lv (.lst (ss.map A.str)),.lv (.lst (zs.map szT)),x7,x8,x9,x10,x11,x12]/\(zs.flatMap szN++ss).Nodup/\(∀z∈zs.flatMap szN++ss,kJ z/\z.length<=30)/\(∀z∈zs,gK 121 z)/\zs.length+ss.length<=12/\(zs.flatMap szN).length+ss.length<=12/\Wl (n+30*(12-ss.length)) oz/\(∀o,x7≠Sl.pv o)/\(∀o,x8≠Sl.pv o)/\(∀o,x9≠Sl.pv o)/\(∀o,x10≠Sl.pv o)/\(∀o,x11≠Sl.pv o)/\(∀o,x12≠Sl.pv o)/\k=ss.length)
  (Q:=λρ=>∃(zs:List Sz) (oz:LO) (y5 x7 x8 x9 x10 x11 x12:Sl),ρ=[.pv oz,.fr (.int many),.fr (.int (K:Int)),.fr (.int 4),.fr (.int kd),y5,.lv (.lst (zs.map szT)),x7,x8,x9,x10,x11,x12]/\(∀z∈zs,gK 121 z)/\(zs.flatMap szN).length<=12/\(zs.flatMap szN).Nodup/\(∀x∈zs.flatMap szN,x.length<=30)/\Wl (n+360) oz) (by
   rintro k ρ ⟨ss,zs,oz,x7,x8,x9,x10,x11,x12,rfl,nd,ok,zk,le,le2,wz,h7,h8,h9,h10,h11,h12,rfl⟩
   have e0:=kR ss
   have ll:((zs.map szT).length:Int)=(zs.length:Int):=by rw[LH]
   by_cases hz:ss=[]
   ·left
    have dz:decide (ss=[])=true:=decide_eq_true hz
    rw[dz] at e0
    refine⟨_,?_,zs,oz,.lv (.lst (ss.map A.str)),x7,x8,x9,x10,x11,x12,rfl,zk,by omega,(L6.mp nd).1,λx hx=>(ok x (Mb _ hx)).2,wz.mono (by omega)⟩
    unfold mP
    clear nd ok zk wz h7 h8 h9 h10 h11 h12 hz dz w le le2
    walk_at "evh"
   ·have dz:decide (ss=[])=false:=decide_eq_false hz
    rw[dz] at e0
    by_cases hm:(zs.length:Int)<many
    ·right
     have dm:decide ((zs.length:Int)<many)=true:=decide_eq_true hm
     obtain⟨pre,l,rfl⟩:∃pre l,ss=pre++[l]:=⟨ss.dropLast,ss.getLast hz,(PL hz).symm⟩
     obtain⟨p1,p2⟩:=yc pre l
     have lss:(pre++[l]).length=pre.length+1:=by simp
     obtain⟨x,o1,v1,nx,w1⟩:=sH (k:=kd) wz (by omega)
     obtain⟨y,o2,v2,ny,y0,w2⟩:=sU (k:=kd) w1 (by omega)
     obtain⟨r3,o3,c3,a3,b3,w3⟩:=tk 8 w2 (by omega) (by decide) (by decide)
     obtain⟨j,rfl⟩:∃j:Nat,r3=j:=⟨r3.toNat,by omega⟩
     obtain⟨t,ht,t3⟩:=at6 j (by omega)
     have c1:=cw0 v1 rfl
     have c2:=cw0 v2 rfl
     have ca:=ar (ja (n:=60) nx ny (by decide))
     simp only[LF,LJ] at c1 c2 ca
     have pm:(zs.flatMap szN++(pre++[l])).Perm (zs.flatMap szN++([l]++pre)):=Nl.append_left _
     have dr:Drw (zs.flatMap szN) l [] pre:=⟨(pm.nodup_iff).mp nd,λz hz=>ok z (pm.mem_iff.mpr hz),λf hf=>by cases hf⟩
     obtain⟨fs,ss',o4,y11,y12,hf,d4,lf,ls,w4,g11,g12⟩:=AN (kd:=kd) w3 (by omega) dr t3 (by omega) (.fr (.int many)) (.fr (.int (K:Int))) (.fr (.int 4)) (.lv (.lst (zs.map szT))) (.fr (.str l)) (.fr (nm x)) (.fr (nm (bH x y))) x11 x12 h11 h12
     have fe:(zs++[(⟨l,x,bH x y,fs⟩:Sz)]).flatMap szN=zs.flatMap szN++(l::fs.map Sf.s):=by rw[MS];simp[szN]
     refine⟨[.pv oz,.fr (.int many),.fr (.int (K:Int)),.fr (.int 4),.fr (.int kd),.lv (.lst ((pre++[l]).map A.str)),.lv (.lst (zs.map szT)),x7,x8,x9,x10,x11,x12],[.pv o4,.fr (.int many),.fr (.int (K:Int)),.fr (.int 4),.fr (.int kd),.lv (.lst (ss'.map A.str)),.lv (.lst ((zs++[(⟨l,x,bH x y,fs⟩:Sz)]).map szT)),.fr (.str l),.fr (nm x),.fr (nm (bH x y)),.lv (.lst (fs.map sfA)),y11,y12],ss'.length,?_,.inl ?_,by omega,ss',zs++[(⟨l,x,bH x y,fs⟩:Sz)],o4,_,_,_,_,_,_,rfl,?_,?_,?_,?_,?_,w4.mono (by omega),(λo z=>by cases z),(λo z=>by cases z),(λo z=>by cases z),(λo z=>by cases z),g11,g12,rfl⟩
     ·unfold mP
      generalize (pre++[l]).map A.str=Y at *
      clear nd ok zk wz h7 h8 h9 h10 h11 h12 hz dz w le le2 hm w1 w2 w3 w4 c1 c2 c3 ca v1 v2 hf d4 fe dr pm p1 p2 ht
      walk_at "evh"
     ·have s7:aD 7 (lH 5) [.pv oz,.fr (.int many),.fr (.int (K:Int)),.fr (.int 4),.fr (.int kd),.lv (.lst ((pre++[l]).map A.str)),.lv (.lst (zs.map szT)),x7,x8,x9,x10,x11,x12]=some (.nx,[.pv oz,.fr (.int many),.fr (.int (K:Int)),.fr (.int 4),.fr (.int kd),.lv (.lst (pre.map A.str)),.lv (.lst (zs.map szT)),.fr (.str l),x8,x9,x10,x11,x12]):=by
       refine nL (x:=x7) (ρ':=[.pv oz,.fr (.int many),.fr (.int (K:Int)),.fr (.int 4),.fr (.int kd),.lv (.lst (pre.map A.str)),.lv (.lst (zs.map szT)),x7,x8,x9,x10,x11,x12]) ?_ rfl h7
       generalize (pre++[l]).map A.str=Y at *
       clear nd ok zk wz h7 h8 h9 h10 h11 h12 hz dz w le le2 hm w1 w2 w3 w4 c1 c2 c3 ca v1 v2 hf d4 fe dr pm ht e0 dm ll
       walk_at "evh"
      have s8:aD 8 (af bg [] (aa (ae 0) (aa (ai 4) ag))) [.pv oz,.fr (.int many),.fr (.int (K:Int)),.fr (.int 4),.fr (.int kd),.lv (.lst (pre.map A.str)),.lv (.lst (zs.map szT)),.fr (.str l),x8,x9,x10,x11,x12]=some (.nx,[.pv o1,.fr (.int many),.fr (.int (K:Int)),.fr (.int 4),.fr (.int kd),.lv (.lst (pre.map A.str)),.lv (.lst (zs.map szT)),.fr (.str l),.fr (nm x),x9,x10,x11,x12]):=by
       refine nL (x:=x8) (ρ':=[.pv o1,.fr (.int many),.fr (.int (K:Int)),.fr (.int 4),.fr (.int kd),.lv (.lst (pre.map A.str)),.lv (.lst (zs.map szT)),.fr (.str l),x8,x9,x10,x11,x12]) ?_ rfl h8
       clear nd ok zk wz h7 h8 h9 h10 h11 h12 hz dz w le le2 hm w1 w2 w3 w4 c2 c3 ca v1 v2 hf d4 fe dr pm ht e0 dm ll p1 p2 s7
       walk_at "evh"
      have s9:aD 9 (af aV [] (aa (ai 8) (aa (af bh [] (aa (ae 0) (aa (ai 4) ag))) ag))) [.pv o1,.fr (.int many),.fr (.int (K:Int)),.fr (.int 4),.fr (.int kd),.lv (.lst (pre.map A.str)),.lv (.lst (zs.map szT)),.fr (.str l),.fr (nm x),x9,x10,x11,x12]=some (.nx,[.pv o2,.fr (.int many),.fr (.int (K:Int)),.fr (.int 4),.fr (.int kd),.lv (.lst (pre.map A.str)),.lv (.lst (zs.map szT)),.fr (.str l),.fr (nm x),.fr (nm (bH x y)),x10,x11,x12]):=by
       refine nL (x:=x9) (ρ':=[.pv o2,.fr (.int many),.fr (.int (K:Int)),.fr (.int 4),.fr (.int kd),.lv (.lst (pre.map A.str)),.lv (.lst (zs.map szT)),.fr (.str l),.fr (nm x),x9,x10,x11,x12]) ?_ rfl h9
       clear nd ok zk wz h7 h8 h9 h10 h11 h12 hz dz w le le2 hm w1 w2 w3 w4 c1 c3 v1 v2 hf d4 fe dr pm ht e0 dm ll p1 p2 s7 s8
       walk_at "evh"
      have s10:aD 10 (bV ag) [.pv o2,.fr (.int many),.fr (.int (K:Int)),.fr (.int 4),.fr (.int kd),.lv (.lst (pre.map A.str)),.lv (.lst (zs.map szT)),.fr (.str l),.fr (nm x),.fr (nm (bH x y)),x10,x11,x12]=some (.nx,[.pv o2,.fr (.int many),.fr (.int (K:Int)),.fr (.int 4),.fr (.int kd),.lv (.lst (pre.map A.str)),.lv (.lst (zs.map szT)),.fr (.str l),.fr (nm x),.fr (nm (bH x y)),.lv (.lst []),x11,x12]):=D8 (x:=x10) (ρ':=[.pv o2,.fr (.int many),.fr (.int (K:Int)),.fr (.int 4),.fr (.int kd),.lv (.lst (pre.map A.str)),.lv (.lst (zs.map szT)),.fr (.str l),.fr (nm x),.fr (nm (bH x y)),x10,x11,x12]) rfl rfl h10
      have l6:(0+1+1+1+1+1+1+1+1<=1000)=True:=by simp
      have k6:(-(2^60)<=(t:Int)/\(t:Int)<2^60)=True:=by simp only[eq_iff_iff,iff_true];omega
      have t6:((t:Int)).toNat=t:=Nq t
      have s11:fH (mOp (fOr fIx aj) (bV (aa (mC (.int 0)) (aa (mC (.int 0)) (aa (mC (.int 1)) (aa (mC (.int 1)) (aa (mC (.int 2)) (aa (mC (.int 3)) (aa (mC (.int 2)) (aa (mC (.int 5)) ag))))))))) (af ao [] (aa (ae 0) (aa (mC (.int 8)) ag)))) [.pv o2,.fr (.int many),.fr (.int (K:Int)),.fr (.int 4),.fr (.int kd),.lv (.lst (pre.map A.str)),.lv (.lst (zs.map szT)),.fr (.str l),.fr (nm x),.fr (nm (bH x y)),.lv (.lst []),x11,x12]=some (.ok (bP 0 t),[.pv o3,.fr (.int many),.fr (.int (K:Int)),.fr (.int 4),.fr (.int kd),.lv (.lst (pre.map A.str)),.lv (.lst (zs.map szT)),.fr (.str l),.fr (nm x),.fr (nm (bH x y)),.lv (.lst []),x11,x12]):=by
       clear nd ok zk wz h7 h8 h9 h10 h11 h12 hz dz w le le2 hm w1 w2 w3 w4 c1 c2 ca v1 v2 hf d4 fe dr pm e0 dm ll p1 p2 s7 s8 s9 s10
       walk_at "evh"
      have e5:(zs++[(⟨l,x,bH x y,fs⟩:Sz)]).map szT=zs.map szT++[.tup [.str l,nm x,nm (bH x y),.tup (fs.map sfA)]]:=by rw[Mh];rfl
      have l4:(0+1+1+1+1<=1000)=True:=by simp
      have lz:((zs.map szT).length<=100000)=True:=by simp only[eq_iff_iff,iff_true,LH];omega
      unfold sY
      rw[bF,s7]
      simp only
      rw[bF,s8]
      simp only
      rw[bF,s9]
      simp only
      rw[bF,s10]
      simp only
      rw[bF,mJ,s11]
      simp only
      rw[hf]
      simp only
      rw[e5]
      clear nd ok zk wz h7 h8 h9 h10 h11 h12 hz dz w le le2 hm w1 w2 w3 w4 c1 c2 c3 ca v1 v2 hf d4 fe dr pm e0 dm ll p1 p2 s7 s8 s9 s10 s11 e5 ht
      walk_at "evh"
     ·rw[fe,LQ];exact d4.nd
     ·rw[fe,LQ];exact d4.ok
     ·intro z hz
      rcases LS.mp hz with h|h
      ·exact zk z h
      ·rw[Ma.mp h]
       exact⟨nx.mono (by decide),(nx.add ny).mono (by decide),BS nx.ok ny.ok y0,d4.sf,λs hs=>(d4.ok s (LN _ (Mb _ hs))).1,(L6.mp (L6.mp d4.nd).2.1).1,by show fs.length<=50;omega⟩
     ·rw[L4,NM];omega
     ·rw[fe,L4,LL,LH];omega
    ·left
     have dm:decide ((zs.length:Int)<many)=false:=decide_eq_false hm
     refine⟨_,?_,zs,oz,.lv (.lst (ss.map A.str)),x7,x8,x9,x10,x11,x12,rfl,zk,by omega,(L6.mp nd).1,λx hx=>(ok x (Mb _ hx)).2,wz.mono (by omega)⟩
     unfold mP
     clear nd ok zk wz h7 h8 h9 h10 h11 h12 hz dz w le le2 hm
     walk_at "evh") (k:=ss.length) (ρ:=[.pv o,.fr (.int many),.fr (.int (K:Int)),.fr (.int 4),.fr (.int kd),.lv (.lst (ss.map A.str)),.lv (.lst []),.un,.un,.un,.un,.un,.un])
  ⟨ss,[],o,.un,.un,.un,.un,.un,.un,rfl,(by simpa using nd),(by simpa using ok),(λz hz=>by cases hz),by simp;omega,by simp;omega,w.mono (by omega),(λo z=>by cases z),(λo z=>by cases z),(λo z=>by cases z),(λo z=>by cases z),(λo z=>by cases z),(λo z=>by cases z),rfl⟩ (qj (by rw[hl];exact LP (by omega:K<2^4) (MO (by decide) (by decide))))
 exact⟨zs,o',y5,x7,x8,x9,x10,x11,x12,hw,h1,h2,h2b,h2c,h3⟩
theorem vT{K:Nat}(hK:K<=12){n:Int}{o:LO}{many:Int}(w:Wl n o)(hn:n<2^34):∃(zs:List Sz) (o':LO),cg fm o [.int many,.int (K:Int),.int 4] (.lv (.lst (zs.map szT))) o'/\(∀z∈zs,gK 121 z)/\(zs.flatMap szN).length<=12/\(zs.flatMap szN).Nodup/\(∀x∈zs.flatMap szN,x.length<=30)/\Wl (n+420) o':=by
 obtain⟨kd,o1,c1,a1,b1,w1⟩:=tk 4 w (by omega) (by decide) (by decide)
 obtain⟨ss,o2,v2,nd,hl,ok,w2⟩:=tI hK w1 (by omega)
 have c2:=cw0 v2 rfl
 obtain⟨zs,o3,y5,x7,x8,x9,x10,x11,x12,hw,zk,zl,zn,z16,w3⟩:=Av hK (many:=many) (kd:=kd) w2 (by omega) nd ok hl
 refine⟨zs,o3,?_,zk,zl,zn,z16,w3.mono (by omega)⟩
 simp only[LF,LJ] at c2
 unfold cg fm eZ
 unfold mP sY shB at hw
 generalize ss.map A.str=Y at *
 have z0:(0<=1000)=True:=by simp
 walk_at "evh"
 exact⟨_,rfl⟩
theorem sS{G:Mg}{b:Ms}{as:List A}{s:Sl}(P:Nat->List Sl->Prop){ρ:List Sl}(j:Nat)(h0:P 0 ρ)(hs:∀i a ρ,i<j->as[i]?=some a->P i ρ->∃ρ1 ρ2,G a ρ=some ρ1/\(b ρ1=some (.nx,ρ2)\/b ρ1=some (.ct,ρ2))/\P (i+1) ρ2)
  (he:∀ρ,P j ρ->∃a ρ1 ρ2,as[j]?=some a/\G a ρ=some ρ1/\b ρ1=some (.rt s,ρ2))(hj:j<as.length):∃ρ',forL G b as ρ=some (.rt s,ρ'):=by
 have key:∀n i ρ,j-i=n->i<=j->P i ρ->∃ρ',forL G b (as.drop i) ρ=some (.rt s,ρ'):=by
  intro n
  induction n with
  | zero =>
   intro i ρ e hi p
   have:i=j:=by omega
   subst this
   obtain⟨a,ρ1,ρ2,e1,e2,e3⟩:=he ρ p
   refine⟨ρ2,?_⟩
   have e4:=(LI.mp e1).2
   rw[MF hj,forL,e4,e2]
   simp only[e3]
  | succ n ih =>
   intro i ρ e hi p
   have hlt:i<as.length:=by omega
   obtain⟨ρ1,ρ2,h1,h2,h3⟩:=hs i as[i] ρ (by omega) (by simp[hlt]) p
   obtain⟨ρ',h4⟩:=ih (i+1) ρ2 (by omega) (by omega) h3
   refine⟨ρ',?_⟩
   rw[MF hlt,forL,h1]
   rcases h2 with h2|h2
   ·simp only[h2];exact h4
   ·simp only[h2];exact h4
 simpa using key j 0 ρ (by simp) (MT _) h0
noncomputable def aS(z:Sz)(f:Sf)(v:Num):Num:=if f.w = "fixed" then f.r else if f.w = "big" then bH f.r (dS v z.l) else bH f.r (dS z.m v)
theorem IE:decide (("fixed" : Str) = "big")=false:=by decide +kernel
theorem JD:decide (("fixed" : Str) = "small")=false:=by decide +kernel
theorem Il:decide (("big" : Str) = "small")=false:=by decide +kernel
theorem Fs:decide (("big" : Str) = "fixed")=false:=by decide +kernel
theorem Fv:decide (("small" : Str) = "fixed")=false:=by decide +kernel
theorem DH:decide (("small" : Str) = "big")=false:=by decide +kernel
theorem w_s(x:Str):decide (x=x)=true:=by simp
theorem sM{z:Sz}{f:Sf}{v:Num}(h:f.w = "fixed"):aS z f v=f.r:=if_pos h
theorem rY{z:Sz}{f:Sf}{v:Num}(h:f.w = "big"):aS z f v=bH f.r (dS v z.l):=by unfold aS;rw[if_neg (by rw[h];exact of_decide_eq_false Fs),if_pos h]
theorem rM{z:Sz}{f:Sf}{v:Num}(h:f.w = "small"):aS z f v=bH f.r (dS z.m v):=by unfold aS;rw[if_neg (by rw[h];exact of_decide_eq_false Fv),if_neg (by rw[h];exact of_decide_eq_false DH)]
theorem B5{a b c x3 x4 x5:Sl}(f:Sf)(h3:∀o,x3≠Sl.pv o)(h4:∀o,x4≠Sl.pv o)(h5:∀o,x5≠Sl.pv o):cI 3 (az (aB 3) (az (aB 4) (az (aB 5) cN))) (sfA f) [a,b,c,x3,x4,x5]=some [a,b,c,.fr (.str f.s),.fr (nm f.r),.fr (.str f.w)]:=by
 cases x3<;>first|exact absurd rfl (h3 _)|(cases x4<;>first|exact absurd rfl (h4 _)|(cases x5<;>first|exact absurd rfl (h5 _)|rfl))
theorem FN{z:Sz}{f:Sf}{j:Nat}{v:Num}{b:Nat}(hl:NB b z.l)(hm:NB b z.m)(hr:NB b f.r)(hv:NB b v)(hw:lP f.w)(hb:b<=1500)(hj:z.f[j]?=some f)(nd:(szN z).Nodup):Val cZ [szO z,.str f.s,nm v] (nm (aS z f v)):=by
 have q1:=ar (rW hv hl (by omega))
 have q2:=ar (rW hm hv (by omega))
 have q3:=ar (yP (n:=2*b+1) (hr.mono (by omega)) (hv.sub hl) (by omega))
 have q4:=ar (yP (n:=2*b+1) (hr.mono (by omega)) (hm.sub hv) (by omega))
 have a1:=cO z
 have a2:=i9 z
 have a3:=kF z
 have es:=sL
 have fb:=IE;have fs:=JD;have bs:=Il;have bf:=Fs;have sf:=Fv;have sb:=DH;have ss:=w_s
 simp only[LF,LJ] at q1 q2 q3 q4
 have nS:∀i g,i<j->z.f[i]?=some g->decide (g.s=f.s)=false:=λi g hi hg=>by
  apply decide_eq_false
  intro e
  have nd2:(z.f.map Sf.s).Nodup:=(Mp.mp nd).2
  have lt:j<z.f.length:=(LI.mp hj).1
  have hi2:i<(z.f.map Sf.s).length:=by rw[LH];omega
  have:=(Q5 hi2 nd2 (j:=j)).mp (by rw[LZ,LZ,hg,hj];exact congrArg some e)
  omega
 obtain⟨ρ1,hf⟩:=sS (G:=cI 3 (az (aB 3) (az (aB 4) (az (aB 5) cN)))) (b:=av (sIf (hW (ah (mOp fEq (ae 3) (ae 1))) (ah (mOp fEq (ae 5) (mC (.str "big"))))) (aH (af iU [] (aa (ai 4) (aa (af gD [] (aa (ai 2) (aa (mUn (aU ["Size"] "least") (ae 0)) ag))) ag)))) aG) (av (sIf (hW (ah (mOp fEq (ae 3) (ae 1))) (ah (mOp fEq (ae 5) (mC (.str "small"))))) (aH (af iU [] (aa (ai 4) (aa (af gD [] (aa (mUn (aU ["Size"] "most") (ae 0)) (aa (ai 2) ag))) ag)))) aG) (sIf (ah (mOp fEq (ae 3) (ae 1))) (aH (ae 4)) aG))) (as:=z.f.map sfA) (s:=.fr (nm (aS z f v)))
  (λi ρ=>∃x3 x4 x5:Sl,ρ=[.fr (szO z),.fr (.str f.s),.fr (nm v),x3,x4,x5]/\(∀o,x3≠Sl.pv o)/\(∀o,x4≠Sl.pv o)/\∀o,x5≠Sl.pv o) (ρ:=[.fr (szO z),.fr (.str f.s),.fr (nm v),.un,.un,.un]) j ⟨.un,.un,.un,rfl,(λo z=>by cases z),(λo z=>by cases z),λo z=>by cases z⟩ (by
   rintro i a ρ hi ha ⟨x3,x4,x5,rfl,h3,h4,h5⟩
   rw[LZ] at ha
   cases ez:z.f[i]? with
   | none=>rw[ez] at ha;cases ha
   | some g =>
    rw[ez] at ha
    cases ha
    have ne:=nS i g hi ez
    refine⟨_,[.fr (szO z),.fr (.str f.s),.fr (nm v),.fr (.str g.s),.fr (nm g.r),.fr (.str g.w)],B5 g h3 h4 h5,.inl ?_,_,_,_,rfl,(λo z=>by cases z),(λo z=>by cases z),λo z=>by cases z⟩
    generalize szO z=o at *
    clear h3 h4 h5 nS hl hm hr hv hw hb hj nd q1 q2 q3 q4 hi ez
    walk_at "evh") (by
   rintro ρ ⟨x3,x4,x5,rfl,h3,h4,h5⟩
   refine⟨sfA f,_,[.fr (szO z),.fr (.str f.s),.fr (nm v),.fr (.str f.s),.fr (nm f.r),.fr (.str f.w)],by rw[LZ,hj];rfl,B5 f h3 h4 h5,?_⟩
   have hl':=hl
   rcases hw with h|h|h
   ·rw[sM h,h]
    generalize szO z=o at *
    clear h3 h4 h5 nS hl hm hr hv hb hj nd q1 q2 q3 q4 hl'
    walk_at "evh"
   ·rw[rY h,h]
    unfold dS at q3 ⊢
    generalize szO z=o at *
    clear h3 h4 h5 nS hl hm hr hv hb hj nd q2 q4 hl'
    walk_at "evh"
   ·rw[rM h,h]
    unfold dS at q4 ⊢
    generalize szO z=o at *
    clear h3 h4 h5 nS hl hm hr hv hb hj nd q1 q3 hl'
    walk_at "evh") (by rw[LH];exact(LI.mp hj).1)
 unfold Val cZ gk
 simp only[LF,LJ]
 generalize szO z=o at *
 clear nS hl hm hr hv hw hb hj nd q1 q2 q3 q4 fb fs bs bf sf sb ss es
 walk_at "evh"
 exact⟨_,rfl⟩
theorem zy{cn c2:Str}{f:Ms}{das as:List A}{fs:List (Str×A)}{ρr:List Sl}(h:f (.pv (.obj cn [])::(as++das).map Sl.fr)=some (.rt (.fr .non),.pv (.obj c2 fs)::ρr))(ρ:List Sl):fF cn f das (as.map Rr.fr) ρ=some (.ok (.nw (.obj c2 fs)),ρ):=by
 unfold fF
 rw[<- Mh,iM]
 simp only[mT,h]
 rw[iI _ _ _ _ (by rw[bC,LH])]
theorem Fd{z:Sz}{b:Nat}(h:gK b z)(b0:60<=b)(b1:b<=4000)(e:z.f=[])(ρ:List Sl):fF "Size" bw [.non] [.fr (.str z.n),.fr (nm z.l),.fr (nm z.m)] ρ=some (.ok (.nw (.obj "Size" (szF z))),ρ):=by
 obtain⟨x5,hi⟩:=qp h b0 b1 (sh:=.non) (.inl ⟨rfl,e⟩)
 exact zy (as:=[.str z.n,nm z.l,nm z.m]) hi ρ
theorem vd{z:Sz}{b:Nat}(h:gK b z)(b0:60<=b)(b1:b<=4000)(ρ:List Sl):fF "Size" bw [] [.fr (.str z.n),.fr (nm z.l),.fr (nm z.m),.fr (.tup (z.f.map sfA))] ρ=some (.ok (.nw (.obj "Size" (szF z))),ρ):=by
 obtain⟨x5,hi⟩:=qp h b0 b1 (sh:=.tup (z.f.map sfA)) (.inr (.inr rfl))
 exact zy (as:=[.str z.n,nm z.l,nm z.m,.tup (z.f.map sfA)]) hi ρ
theorem BA(L:List Sf):eqA (.tup (L.map sfA)) (.tup [])=some (decide (L=[])):=by
 unfold eqA
 simp only[toD,tH,fD]
 rw[if_pos ?_]
 ·cases L with
  | nil=>simp[D.gB]
  | cons f L=>simp[D.eq,D.eqs]
 ·have:=mM L
  simp[D.cC,D.depth]
  omega
theorem FR{z:Sz}{b:Nat}(h:gK b z)(b0:60<=b)(b1:b<=4000)(ρ:List Sl):fF "Size" bw [] [.fr (.str z.n),.fr (nm z.l),.fr (nm z.m),.fr (.lst (z.f.map sfA))] ρ=some (.ok (.nw (.obj "Size" (szF z))),ρ):=by
 obtain⟨x5,hi⟩:=qp h b0 b1 (sh:=.lst (z.f.map sfA)) (.inr (.inl rfl))
 exact zy (as:=[.str z.n,nm z.l,nm z.m,.lst (z.f.map sfA)]) hi ρ
noncomputable abbrev lrB:Ms:=av (sIf (hW (ah (mOp fEq (ae 7) (ae 1))) (ah (mOp fEq (ae 9) (mC (.str "fixed"))))) (aH (ae 8)) aG) (av (sIf (hW (ah (mOp fEq (ae 7) (ae 1))) (ah (mOp fEq (ae 9) (mC (.str "big"))))) (aH (af aV [] (aa (ai 8) (aa (af bM [] (aa (ai 2) (aa (ai 4) ag))) ag)))) aG) (sIf (ah (mOp fEq (ae 7) (ae 1))) (aH (af aV [] (aa (ai 8) (aa (af bM [] (aa (ai 5) (aa (ai 2) ag))) ag)))) aG))
theorem CF{a b c d e f7 g x3 x4 x5:Sl}(f:Sf)(h3:∀o,x3≠Sl.pv o)(h4:∀o,x4≠Sl.pv o)(h5:∀o,x5≠Sl.pv o):cI 3 (az (aB 7) (az (aB 8) (az (aB 9) cN))) (sfA f) [a,b,c,d,e,f7,g,x3,x4,x5]=some [a,b,c,d,e,f7,g,.fr (.str f.s),.fr (nm f.r),.fr (.str f.w)]:=by
 cases x3<;>first|exact absurd rfl (h3 _)|(cases x4<;>first|exact absurd rfl (h4 _)|(cases x5<;>first|exact absurd rfl (h5 _)|rfl))
theorem m6{z:Sz}{f:Sf}{j:Nat}{v:Num}{b:Nat}(hl:NB b z.l)(hm:NB b z.m)(hr:NB b f.r)(hv:NB b v)(hw:lP f.w)(hb:b<=1500)(hj:z.f[j]?=some f)(nd:(szN z).Nodup):Val d5 [szT z,.str f.s,nm v] (nm (aS z f v)):=by
 have q1:=ar (nE hv hl (by omega))
 have q2:=ar (nE hm hv (by omega))
 have q3:=ar (ja (n:=2*b+1) (hr.mono (by omega)) (hv.sub hl) (by omega))
 have q4:=ar (ja (n:=2*b+1) (hr.mono (by omega)) (hm.sub hv) (by omega))
 have es:=sL
 have fb:=IE;have fs:=JD;have bs:=Il;have bf:=Fs;have sf:=Fv;have sb:=DH;have ss:=w_s
 simp only[LF,LJ] at q1 q2 q3 q4
 have nS:∀i g,i<j->z.f[i]?=some g->decide (g.s=f.s)=false:=λi g hi hg=>by
  apply decide_eq_false
  intro e
  have nd2:(z.f.map Sf.s).Nodup:=(Mp.mp nd).2
  have lt:j<z.f.length:=(LI.mp hj).1
  have hi2:i<(z.f.map Sf.s).length:=by rw[LH];omega
  have:=(Q5 hi2 nd2 (j:=j)).mp (by rw[LZ,LZ,hg,hj];exact congrArg some e)
  omega
 obtain⟨ρ1,hf⟩:=sS (G:=cI 3 (az (aB 7) (az (aB 8) (az (aB 9) cN)))) (b:=lrB) (as:=z.f.map sfA) (s:=.fr (nm (aS z f v)))
  (λi ρ=>∃x3 x4 x5:Sl,ρ=[.fr (szT z),.fr (.str f.s),.fr (nm v),.fr (.str z.n),.fr (nm z.l),.fr (nm z.m),.fr (.tup (z.f.map sfA)),x3,x4,x5]/\(∀o,x3≠Sl.pv o)/\(∀o,x4≠Sl.pv o)/\∀o,x5≠Sl.pv o) (ρ:=[.fr (szT z),.fr (.str f.s),.fr (nm v),.fr (.str z.n),.fr (nm z.l),.fr (nm z.m),.fr (.tup (z.f.map sfA)),.un,.un,.un]) j ⟨.un,.un,.un,rfl,(λo z=>by cases z),(λo z=>by cases z),λo z=>by cases z⟩ (by
   rintro i a ρ hi ha ⟨x3,x4,x5,rfl,h3,h4,h5⟩
   rw[LZ] at ha
   cases ez:z.f[i]? with
   | none=>rw[ez] at ha;cases ha
   | some g =>
    rw[ez] at ha
    cases ha
    have ne:=nS i g hi ez
    refine⟨_,[.fr (szT z),.fr (.str f.s),.fr (nm v),.fr (.str z.n),.fr (nm z.l),.fr (nm z.m),.fr (.tup (z.f.map sfA)),.fr (.str g.s),.fr (nm g.r),.fr (.str g.w)],CF g h3 h4 h5,.inl ?_,_,_,_,rfl,(λo z=>by cases z),(λo z=>by cases z),λo z=>by cases z⟩
    generalize szT z=o at *
    clear h3 h4 h5 nS hl hm hr hv hw hb hj nd q1 q2 q3 q4 hi ez
    unfold lrB
    walk_at "evh") (by
   rintro ρ ⟨x3,x4,x5,rfl,h3,h4,h5⟩
   refine⟨sfA f,_,[.fr (szT z),.fr (.str f.s),.fr (nm v),.fr (.str z.n),.fr (nm z.l),.fr (nm z.m),.fr (.tup (z.f.map sfA)),.fr (.str f.s),.fr (nm f.r),.fr (.str f.w)],by rw[LZ,hj];rfl,CF f h3 h4 h5,?_⟩
   unfold lrB
   rcases hw with h|h|h
   ·rw[sM h,h]
    generalize szT z=o at *
    walk_at "evh"
   ·rw[rY h,h]
    generalize szT z=o at *
    walk_at "evh"
   ·rw[rM h,h]
    generalize szT z=o at *
    walk_at "evh") (by rw[LH];exact(LI.mp hj).1)
 refine Val.of (Wp.df ?_)
 refine Wp.st (ρ1:=[.fr (szT z),.fr (.str f.s),.fr (nm v),.fr (.str z.n),.fr (nm z.l),.fr (nm z.m),.fr (.tup (z.f.map sfA)),.un,.un,.un]) ?_ ?_
 ·unfold szT
  rfl
 ·refine⟨.rt (.fr (nm (aS z f v))),ρ1,?_,rfl⟩
  unfold lrB at hf
  walk_at "evh"
theorem Ia{z:Sz}{l m:Num}{b:Nat}(h:gK b ⟨z.n,l,m,z.f⟩)(b0:60<=b)(b1:b<=4000):gG cA [szO z,nm l,nm m] (.obj "Size" (szF ⟨z.n,l,m,z.f⟩)):=by
 have k:=vd h b0 b1
 have a1:=iq z
 have a4:=cO z
 simp only at k
 unfold gG cA cB
 generalize szF ⟨z.n,l,m,z.f⟩=F at *
 simp only[LF,LJ]
 generalize szO z=o at *
 walk_at "evh"
 exact⟨_,rfl⟩
theorem yH{z:Sz}{b:Nat}(h:gK b z)(b0:60<=b)(b1:b<=4000):gG cq [szO z] (.obj "Size" (szF z)):=by
 have k:=fh (Ia (z:=z) (l:=z.l) (m:=z.m) h b0 b1)
 have a2:=i9 z
 have a3:=kF z
 simp only[LF,LJ] at k
 have e:(⟨z.n,z.l,z.m,z.f⟩:Sz)=z:=rfl
 rw[e] at k
 unfold gG cq eE
 generalize szF z=F at *
 simp only[LF,LJ]
 generalize szO z=o at *
 walk_at "evh"
 exact⟨_,rfl⟩
noncomputable def stF(zs:List Sz):List (Str×A):=[("kept",.lst (zs.map szO))]
noncomputable def stO(zs:List Sz):A:=.obj "Stock" (stF zs)
structure du (b:Nat) (zs:List Sz):Prop where
 sz:∀z∈zs,gK b z
 nd:(zs.flatMap szN).Nodup
 ln:(zs.flatMap szN).length<=60
theorem oB:∀zs:List Sz,zs.length<=(zs.flatMap szN).length
 | []=>by simp
 | z::zs=>by
  have:=oB zs
  have hl:(szN z).length=z.f.length+1:=by unfold szN;simp
  rw[Pm,L4,LL,hl]
  omega
theorem du.len{b:Nat}{zs:List Sz}(h:du b zs):zs.length<=60:=Mf (oB zs) h.ln
theorem du.ns{b:Nat}{zs:List Sz}(h:du b zs):∀x∈zs.flatMap szN,kJ x:=λx hx=>by
 obtain⟨z,hz,hx⟩:=NQ.mp hx
 exact(h.sz z hz).ns x hx
theorem kj(zs:List Sz):aU ["Stock"] "kept" (stO zs)=some (.fr (.lst (zs.map szO))):=by
 unfold aU stO stF
 simp only
 rw[if_pos (by decide +kernel)]
 rfl
noncomputable abbrev snB:Ms:=bE (eR 1 (eY 1 (af aK [] (aa (bc "Size" "names" (ai 2)) ag))))
theorem sy{b:Nat}{zs:List Sz}(h:du b zs)(s0:Sl):∃x2,forL (aB 2) snB (zs.map szO) [s0,.lv (.lst []),.un]=some (.nx,[s0,.lv (.lst ((zs.flatMap szN).map A.str)),x2]):=by
 obtain⟨ρ1,hf,x2,rfl,_⟩:=fP (G:=aB 2) (b:=snB) (as:=zs.map szO)
  (λi ρ=>∃x2:Sl,ρ=[s0,.lv (.lst (((zs.take i).flatMap szN).map A.str)),x2]/\∀o,x2≠Sl.pv o) (ρ:=[s0,.lv (.lst []),.un]) ⟨.un,rfl,λo z=>by cases z⟩ (by
   rintro i a ρ ha ⟨x2,rfl,hx⟩
   rw[LZ] at ha
   cases ez:zs[i]? with
   | none=>rw[ez] at ha;cases ha
   | some z =>
    rw[ez] at ha
    cases ha
    have hz:=(h.sz z (Mc ez)).ln
    have k:=fh (uD hz)
    have r1:∀ρ,gO "Size" "names" (.fr (szO z)) ρ=some (.ok (.fr (szO z)),ρ):=λρ=>rfl
    have e:((zs.take (i+1)).flatMap szN).map A.str=((zs.take i).flatMap szN).map A.str++(szN z).map A.str:=by rw[MD,ez];simp
    have hle:((((zs.take i).flatMap szN).map A.str).length+((szN z).map A.str).length<=100000)=True:=by
     simp only[eq_iff_iff,iff_true]
     have q:=congrArg (λl=>(l.flatMap szN).length) (MB (i+1) zs)
     have q2:=congrArg M7 e
     simp only[MS,L4,LH] at q q2 ⊢
     have:=h.ln
     omega
    refine⟨_,[s0,.lv (.lst (((zs.take (i+1)).flatMap szN).map A.str)),.fr (szO z)],lh (ρ0:=[s0,.lv (.lst (((zs.take i).flatMap szN).map A.str))]) rfl hx,.inl ?_,.fr (szO z),rfl,λo z=>by cases z⟩
    rw[e]
    simp only[LF,LJ] at k
    unfold snB
    show bE _ [s0,.lv (.lst (((zs.take i).flatMap szN).map A.str)),.fr (szO z)]=_
    generalize ((zs.take i).flatMap szN).map A.str=X at *
    generalize (szN z).map A.str=Y at *
    generalize szO z=o at *
    walk_at "evh")
 rw[LH,M4] at hf
 exact⟨x2,hf⟩
theorem wO{b:Nat}{zs:List Sz}(h:du b zs):gG aO [stO zs] (.lst ((zs.flatMap szN).map A.str)):=by
 obtain⟨x2,k⟩:=sy h (.fr (stO zs))
 have a1:=kj zs
 unfold snB at k
 unfold gG aO cX
 simp only[LF,LJ]
 have z0:(0<=1000)=True:=by simp
 generalize (zs.flatMap szN).map A.str=Y at *
 generalize zs.map szO=X at *
 generalize stO zs=o at *
 walk_at "evh"
 exact⟨_,rfl⟩
theorem qT{b:Nat}{zs:List Sz}(h:du b zs):∃ρ,aO [.pv (.obj "Stock" (stF zs))]=some (.rt (.lv (.lst ((zs.flatMap szN).map A.str))),.pv (.obj "Stock" (stF zs))::ρ):=by
 obtain⟨x2,k⟩:=sy h (.pv (.obj "Stock" (stF zs)))
 have a1:=kj zs
 unfold snB at k
 unfold stO at a1
 unfold aO cX
 have z0:(0<=1000)=True:=by simp
 generalize (zs.flatMap szN).map A.str=Y at *
 generalize zs.map szO=X at *
 generalize stF zs=o at *
 walk_at "evh"
 exact⟨_,rfl⟩
noncomputable abbrev cpE:Mi Rr:=af cq [] (aa (ai 2) ag)
theorem Ky{z:Sz}{b:Nat}(h:gK b z)(b0:60<=b)(b1:b<=4000)(a0 a1:Sl):cpE [a0,a1,.fr (szO z)]=some (.ok (.nw (.obj "Size" (szF z))),[a0,a1,.fr (szO z)]):=by
 have k:=fh (yH h b0 b1)
 simp only[LF,LJ] at k
 generalize szF z=F at *
 generalize szO z=o at *
 unfold cpE
 walk_at "evh"
theorem Hy{b:Nat}{zs:List Sz}(h:du b zs)(b0:60<=b)(b1:b<=4000)(a0 a1:Sl):eO 1 (aB 2) aZ cpE (zs.map szO) [a0,a1]=some (.ok (.nw (.lst (zs.map szO))),[a0,a1]):=by
 have k:=comp_map (i:=2) (e:=cpE) (as:=zs.map szO) (ρ0:=[a0,a1]) id rfl (by rw[LH];have:=h.len;omega) (by
  intro a ha
  obtain⟨z,hz,rfl⟩:=Mn.mp ha
  exact⟨.nw (.obj "Size" (szF z)),Ky (h.sz z hz) b0 b1 a0 a1,rfl⟩)
 rw[k,RX]
theorem A6(m:Mi Rr){zs:List Sz}(a1:Sl)(h:m [.pv (.obj "Stock" []),a1]=some (.ok (.nw (.lst (zs.map szO))),[.pv (.obj "Stock" []),a1])):dW ["Stock"] 0 "kept" m [.pv (.obj "Stock" []),a1]=some (.nx,[.pv (.obj "Stock" (stF zs)),a1]):=by
 rw[qM,h]
 rfl
theorem BV{b:Nat}{zs:List Sz}(h:du b zs)(a1:Sl):bE (af bQ [] (aa (mFz (i6 (af aO [] (aa (bc "Stock" "names" (ae 0)) ag)) (af aK [] (aa (bc "Size" "names" (ae 0)) ag)))) ag)) [.pv (.obj "Stock" (stF zs)),a1]=some (.nx,[.pv (.obj "Stock" (stF zs)),a1]):=by
 obtain⟨ρn,kn⟩:=qT h
 have kn2:=cm0 kn rfl
 have kr:=ar (jU h.ns h.nd (by have:=h.ln;omega))
 have rc:∀ρ,gO "Stock" "names" (.rf 0) (.pv (.obj "Stock" (stF zs))::ρ)=some (.ok (.rf 0),.pv (.obj "Stock" (stF zs))::ρ):=λρ=>rfl
 simp only[LF,LJ] at kr
 generalize (zs.flatMap szN).map A.str=Y at *
 generalize stF zs=o at *
 walk_at "evh"
theorem BN{b:Nat}{zs:List Sz}(h:du b zs)(b0:60<=b)(b1:b<=4000):aI [.pv (.obj "Stock" []),.fr (.lst (zs.map szO))]=some (.rt (.fr .non),[.pv (.obj "Stock" (stF zs)),.fr (.lst (zs.map szO))]):=by
 have k:=Hy h b0 b1 (.pv (.obj "Stock" [])) (.fr (.lst (zs.map szO)))
 have t:=BV h (.fr (.lst (zs.map szO)))
 have s:=A6 (i6 (hY 1 1 (aB 2) aZ cpE) (cL 1 (cy (ae 1)) (aB 2) aZ cpE)) (zs:=zs) (.fr (.lst (zs.map szO))) (by
  have n1:hY 1 1 (aB 2) aZ cpE [.pv (.obj "Stock" []),.fr (.lst (zs.map szO))]=none:=rfl
  generalize cpE=e at *
  generalize zs.map szO=Y at *
  walk_at "evh")
 unfold aI fA
 unfold cpE at s
 rw[mK]
 simp only[MU,MC,Mr,Nx]
 rw[bF,s]
 simp only
 rw[t]
theorem pC{b:Nat}{zs:List Sz}(h:du b zs)(b0:60<=b)(b1:b<=4000)(ρ:List Sl):fF "Stock" aI [] [.nw (.lst (zs.map szO))] ρ=some (.ok (.nw (.obj "Stock" (stF zs))),ρ):=by
 have k:=BN h b0 b1
 unfold fF
 simp only[LJ,Mr,cu,take1,LO.a,LF,toP,k]
 rfl
noncomputable abbrev G4(i j k l:Nat):Mg:=cI 4 (az (aB i) (az (aB j) (az (aB k) (az (aB l) cN))))
noncomputable abbrev G3(i j k:Nat):Mg:=cI 3 (az (aB i) (az (aB j) (az (aB k) cN)))
theorem Hi{a b x2 x3 x4 x5:Sl}(z:Sz)(h2:np x2=true)(h3:np x3=true)(h4:np x4=true)(h5:np x5=true):G4 2 3 4 5 (szT z) [a,b,x2,x3,x4,x5]=some [a,b,.fr (.str z.n),.fr (nm z.l),.fr (nm z.m),.fr (.tup (z.f.map sfA))]:=by
 cases x2<;>first|(cases h2;done)|(cases x3<;>first|(cases h3;done)|(cases x4<;>first|(cases h4;done)|(cases x5<;>first|(cases h5;done)|rfl)))
theorem zU{z:Sz}(h:z.f.length<=50)(a b c d e f:Sl):eO 3 (G3 6 7 8) aZ (ae 6) (z.f.map sfA) [a,b,c,d,e,f]=some (.ok (.nw (.lst ((z.f.map Sf.s).map A.str))),[a,b,c,d,e,f]):=by
 obtain⟨ys,ρ',h1,x4,x5,x6,rfl,rfl,_⟩:=iT (G:=G3 6 7 8) (t:=aZ) (e:=ae 6) (as:=z.f.map sfA)
  (λi acc ρ=>∃x4 x5 x6:Sl,ρ=[a,b,c,d,e,f,x4,x5,x6]/\acc=((z.f.take i).map Sf.s).map A.str/\np x4=true/\np x5=true/\np x6=true) (ρ:=[a,b,c,d,e,f,.un,.un,.un]) ⟨.un,.un,.un,rfl,rfl,rfl,rfl,rfl⟩ (by
   rintro i q acc ρ hq ⟨x4,x5,x6,rfl,rfl,h4,h5,h6⟩
   rw[LZ] at hq
   cases ez:z.f[i]? with
   | none=>rw[ez] at hq;cases hq
   | some s =>
    rw[ez] at hq
    cases hq
    refine⟨[a,b,c,d,e,f,.fr (.str s.s),.fr (nm s.r),.fr (.str s.w)],?_,.inl ⟨_,_,_,.str s.s,_,rfl,rfl,rfl,.fr (.str s.s),.fr (nm s.r),.fr (.str s.w),rfl,?_,rfl,rfl,rfl⟩⟩
    ·cases x4<;>first|(cases h4;done)|(cases x5<;>first|(cases h5;done)|(cases x6<;>first|(cases h6;done)|rfl))
    ·rw[MD,ez,Mh,Mh];rfl)
 unfold eO
 rw[if_pos (by rw[LH];omega)]
 have e1:[a,b,c,d,e,f]++L7 3 Sl.un=[a,b,c,d,e,f,.un,.un,.un]:=rfl
 rw[e1,h1]
 simp
theorem vF{b:Nat}{zs:List Sz}(h:du b zs):gG cU [.lst (zs.map szT)] (.lst ((zs.flatMap szN).map A.str)):=by
 refine gG.of (Wp.df ?_)
 refine Wp.st (ρ1:=[.fr (.lst (zs.map szT)),.lv (.lst []),.un,.un,.un,.un]) rfl ?_
 refine Wp.sq (Wp.fr (as:=zs.map szT) (ρ1:=[.fr (.lst (zs.map szT)),.lv (.lst []),.un,.un,.un,.un]) (λi ρ=>∃x2 x3 x4 x5:Sl,ρ=[.fr (.lst (zs.map szT)),.lv (.lst (((zs.take i).flatMap szN).map A.str)),x2,x3,x4,x5]/\np x2=true/\np x3=true/\np x4=true/\np x5=true) rfl ⟨.un,.un,.un,.un,rfl,rfl,rfl,rfl,rfl⟩ ?_ ?_)
 ·rintro i a ρ ha ⟨x2,x3,x4,x5,rfl,h2,h3,h4,h5⟩
  rw[LZ] at ha
  cases ez:zs[i]? with
  | none=>rw[ez] at ha;cases ha
  | some z =>
   rw[ez] at ha
   cases ha
   have hz:=(h.sz z (Mc ez)).ln
   refine⟨_,Hi z h2 h3 h4 h5,?_⟩
   have kc:=zU hz (.fr (.lst (zs.map szT))) (.lv (.lst (((zs.take i).flatMap szN).map A.str++[.str z.n]))) (.fr (.str z.n)) (.fr (nm z.l)) (.fr (nm z.m)) (.fr (.tup (z.f.map sfA)))
   have e:((zs.take (i+1)).flatMap szN).map A.str=(((zs.take i).flatMap szN).map A.str++[.str z.n])++(z.f.map Sf.s).map A.str:=by rw[MD,ez];simp[szN]
   have q:=congrArg (λl=>(l.flatMap szN).length) (MB (i+1) zs)
   have q2:=congrArg M7 e
   have hln:=h.ln
   have l1:((((zs.take i).flatMap szN).map A.str).length<=100000)=True:=by
    simp only[eq_iff_iff,iff_true]
    simp only[MS,L4,LH,NM] at q q2 ⊢
    omega
   have l2:((((zs.take i).flatMap szN).map A.str++[A.str z.n]).length+((z.f.map Sf.s).map A.str).length<=100000)=True:=by
    simp only[eq_iff_iff,iff_true]
    simp only[MS,L4,LH,NM] at q q2 ⊢
    omega
   refine Wp.st (ρ1:=[.fr (.lst (zs.map szT)),.lv (.lst (((zs.take i).flatMap szN).map A.str++[.str z.n])),.fr (.str z.n),.fr (nm z.l),.fr (nm z.m),.fr (.tup (z.f.map sfA))]) ?_ ?_
   ·generalize ((zs.take i).flatMap szN).map A.str=X at *
    walk_at "evh"
   ·refine Wp.en (f:=.nx) (ρ1:=[.fr (.lst (zs.map szT)),.lv (.lst (((zs.take (i+1)).flatMap szN).map A.str)),.fr (.str z.n),.fr (nm z.l),.fr (nm z.m),.fr (.tup (z.f.map sfA))]) ?_ ⟨.inl rfl,_,_,_,_,rfl,rfl,rfl,rfl,rfl⟩
    rw[e]
    generalize ((zs.take i).flatMap szN).map A.str++[.str z.n]=X at *
    generalize (z.f.map Sf.s).map A.str=Y at *
    walk_at "evh"
 ·rintro ρ' ⟨x2,x3,x4,x5,rfl,_⟩
  rw[LH,M4]
  exact⟨rfl,Wp.en (f:=.rt (.lv (.lst ((zs.flatMap szN).map A.str)))) rfl rfl⟩
theorem at2(x y:A):atI [x,y] 0=some x/\atI [x,y] 1=some y:=⟨xY _ _,rfl⟩
theorem HM{a b c x3 x4 x5 x6 y:Sl}(z:Sz)(h3:np x3=true)(h4:np x4=true)(h5:np x5=true)(h6:np x6=true):G4 3 4 5 6 (szT z) [a,b,c,x3,x4,x5,x6,y]=some [a,b,c,.fr (.str z.n),.fr (nm z.l),.fr (nm z.m),.fr (.tup (z.f.map sfA)),y]:=by
 cases x3<;>first|(cases h3;done)|(cases x4<;>first|(cases h4;done)|(cases x5<;>first|(cases h5;done)|(cases x6<;>first|(cases h6;done)|rfl)))
theorem GF{n:Int}{o:LO}{b:Nat}{zs:List Sz}(w:Wl n o)(hn:n<2^38)(h:du b zs)(b0:60<=b)(b1:b<=4000):∃o',cg dg o [.lst (zs.map szT)] (.lv (.lst (zs.map szO))) o'/\Wl (n+60) o':=by
 have hln:=h.len
 suffices ∃s o',cg dg o [.lst (zs.map szT)] s o'/\(s=.lv (.lst (zs.map szO))/\Wl (n+60) o') by
  obtain⟨s,o',k,rfl,w'⟩:=this
  exact⟨o',k,w'⟩
 refine cg.of (Wp.df ?_)
 refine Wp.st (ρ1:=[.pv o,.fr (.lst (zs.map szT)),.lv (.lst []),.un,.un,.un,.un,.un]) rfl ?_
 refine Wp.sq (Wp.fr (as:=zs.map szT) (ρ1:=[.pv o,.fr (.lst (zs.map szT)),.lv (.lst []),.un,.un,.un,.un,.un]) (λi ρ=>∃(o':LO) (x3 x4 x5 x6 x7:Sl),ρ=[.pv o',.fr (.lst (zs.map szT)),.lv (.lst ((zs.take i).map szO)),x3,x4,x5,x6,x7]/\Wl (n+i) o'/\np x3=true/\np x4=true/\np x5=true/\np x6=true/\np x7=true) rfl ⟨o,.un,.un,.un,.un,.un,rfl,w.mono (by omega),rfl,rfl,rfl,rfl,rfl⟩ ?_ ?_)
 ·rintro i a ρ ha ⟨o',x3,x4,x5,x6,x7,rfl,wz,h3,h4,h5,h6,h7⟩
  rw[LZ] at ha
  cases ez:zs[i]? with
  | none=>rw[ez] at ha;cases ha
  | some z =>
   rw[ez] at ha
   cases ha
   have hz:=h.sz z (Mc ez)
   have hi:=(LI.mp ez).1
   obtain⟨r,o2,c2,a2,b2,w2⟩:=tk 2 wz (by omega) (by decide) (by decide)
   refine⟨_,HM z h3 h4 h5 h6,?_⟩
   have e:(zs.take (i+1)).map szO=(zs.take i).map szO++[szO z]:=by rw[MD,ez];simp
   have l1:(((zs.take i).map szO).length<=100000)=True:=by
    simp only[eq_iff_iff,iff_true]
    rw[LH,Mm]
    omega
   refine Wp.st (ρ1:=[.pv o2,.fr (.lst (zs.map szT)),.lv (.lst ((zs.take i).map szO)),.fr (.str z.n),.fr (nm z.l),.fr (nm z.m),.fr (.tup (z.f.map sfA)),.fr (.int r)]) ?_ ?_
   ·clear l1 e hz hi h w wz w2 h3 h4 h5 h6 a2 b2
    walk_at "evh"
   ·have e0:=BA z.f
    have l2:(0+1+1<=1000)=True:=by simp
    have eo:LO.a (.obj "Size" (szF z))=szO z:=rfl
    have fin:∀Q:Prop,Q->Q:=λ_ q=>q
    rcases(show r=0\/r=1 by omega) with rfl|rfl
    ·have km:=vd hz b0 b1
     refine Wp.ff (ρ1:=[.pv o2,.fr (.lst (zs.map szT)),.lv (.lst ((zs.take i).map szO)),.fr (.str z.n),.fr (nm z.l),.fr (nm z.m),.fr (.tup (z.f.map sfA)),.fr (.int 0)]) ?_ (Wp.en (f:=.nx) (ρ1:=[.pv o2,.fr (.lst (zs.map szT)),.lv (.lst ((zs.take (i+1)).map szO)),.fr (.str z.n),.fr (nm z.l),.fr (nm z.m),.fr (.tup (z.f.map sfA)),.fr (.int 0)]) ?_ ⟨.inl rfl,o2,_,_,_,_,_,rfl,w2.mono (by omega),rfl,rfl,rfl,rfl,rfl⟩)
     ·have q:eqA (.int 0) (.int 1)=some false:=by rfl
      generalize decide (z.f=[])=t at e0
      clear l1 e hz hi h w wz w2 h3 h4 h5 h6 h7 a2 b2 km eo c2 fin
      cases t<;>walk_at "evh"
     ·rw[e]
      have t:=(at2 (.tup (z.f.map sfA)) (.lst (z.f.map sfA))).1
      generalize (zs.take i).map szO=X at *
      unfold szO at eo ⊢
      generalize szF z=F at *
      clear e hz hi h w wz w2 h3 h4 h5 h6 h7 a2 b2 c2 fin e0
      walk_at "evh"
    ·by_cases hf:z.f=[]
     ·have km:=Fd hz b0 b1 hf
      have dz:decide (z.f=[])=true:=decide_eq_true hf
      rw[dz] at e0
      refine Wp.ft (ρ1:=[.pv o2,.fr (.lst (zs.map szT)),.lv (.lst ((zs.take i).map szO)),.fr (.str z.n),.fr (nm z.l),.fr (nm z.m),.fr (.tup (z.f.map sfA)),.fr (.int 1)]) ?_ (Wp.en (f:=.nx) (ρ1:=[.pv o2,.fr (.lst (zs.map szT)),.lv (.lst ((zs.take (i+1)).map szO)),.fr (.str z.n),.fr (nm z.l),.fr (nm z.m),.fr (.tup (z.f.map sfA)),.fr (.int 1)]) ?_ ⟨.inl rfl,o2,_,_,_,_,_,rfl,w2.mono (by omega),rfl,rfl,rfl,rfl,rfl⟩)
      ·have q:eqA (.int 1) (.int 1)=some true:=by rfl
       clear l1 e hz hi h w wz w2 h3 h4 h5 h6 h7 a2 b2 km eo c2 fin dz hf
       walk_at "evh"
      ·rw[e]
       generalize (zs.take i).map szO=X at *
       unfold szO at eo ⊢
       generalize szF z=F at *
       clear e hz hi h w wz w2 h3 h4 h5 h6 h7 a2 b2 c2 fin e0 dz hf
       walk_at "evh"
     ·have km:=FR hz b0 b1
      have dz:decide (z.f=[])=false:=decide_eq_false hf
      rw[dz] at e0
      refine Wp.ff (ρ1:=[.pv o2,.fr (.lst (zs.map szT)),.lv (.lst ((zs.take i).map szO)),.fr (.str z.n),.fr (nm z.l),.fr (nm z.m),.fr (.tup (z.f.map sfA)),.fr (.int 1)]) ?_ (Wp.en (f:=.nx) (ρ1:=[.pv o2,.fr (.lst (zs.map szT)),.lv (.lst ((zs.take (i+1)).map szO)),.fr (.str z.n),.fr (nm z.l),.fr (nm z.m),.fr (.tup (z.f.map sfA)),.fr (.int 1)]) ?_ ⟨.inl rfl,o2,_,_,_,_,_,rfl,w2.mono (by omega),rfl,rfl,rfl,rfl,rfl⟩)
      ·clear l1 e hz hi h w wz w2 h3 h4 h5 h6 h7 a2 b2 km eo c2 fin dz hf
       walk_at "evh"
      ·rw[e]
       have t:=(at2 (.tup (z.f.map sfA)) (.lst (z.f.map sfA))).2
       generalize (zs.take i).map szO=X at *
       unfold szO at eo ⊢
       generalize szF z=F at *
       clear e hz hi h w wz w2 h3 h4 h5 h6 h7 a2 b2 c2 fin e0 dz hf
       walk_at "evh"
 ·rintro ρ' ⟨o',x3,x4,x5,x6,x7,rfl,wz,_⟩
  rw[LH] at wz ⊢
  rw[M4]
  exact⟨rfl,Wp.en (f:=.rt (.lv (.lst (zs.map szO)))) rfl ⟨_,o',_,rfl,rfl,rfl,wz.mono (by omega)⟩⟩
theorem J1{v l m:Num}{n:Nat}(hv:NB n v)(hl:NB n l)(hm:NB n m)(hn:n<=4000):Val bW [nm v,nm l,nm m] (.bl (!nlt v l&&!nlt m v)):=by
 have c1:=ar (gw hv hl hn)
 have c2:=ar (gw hm hv hn)
 simp only[LF,LJ] at c1 c2
 generalize nlt v l=p at *
 generalize nlt m v=q at *
 generalize nm v=V at *
 generalize nm l=L at *
 generalize nm m=U at *
 refine⟨[.fr V,.fr L,.fr U],?_⟩
 unfold bW fE
 cases p<;>cases q<;>(walk_at "evh")<;>rfl
theorem m5{x y:Num}{n:Nat}(hx:NB n x)(hy:NB n y)(hn:n<=4000):Val bz [nm x,nm y] (.bl (nlt x y)):=by
 have f1:=fits_of (n:=20000) hx.b1 (by omega)
 have f2:=fits_of (n:=20000) hx.b2 (by omega)
 have f3:=fits_of (n:=20000) hy.b1 (by omega)
 have f4:=fits_of (n:=20000) hy.b2 (by omega)
 unfold Val bz fw nlt
 simp only[nm,LF,LJ]
 walk_at "evh"
 exact⟨_,rfl⟩
theorem zY{x y:Num}{n:Nat}(hx:NB n x)(hy:NB n y)(hn:n<=4000):Val og [nm x,nm y] (nm (bD x y)):=by
 unfold Val og oj
 have f1:=fits_of (n:=20000) hx.b1 (by omega)
 have f2:=fits_of (n:=20000) hx.b2 (by omega)
 have f3:=fits_of (n:=20000) hy.b1 (by omega)
 have f4:=fits_of (n:=20000) hy.b2 (by omega)
 have:=ar (vn (t:=x.1*y.1) (b:=x.2*y.2) (Mw hx.nz hy.nz) ((hx.b2.mul hy.b2).mono (by omega)))
 simp only[LF,LJ] at this
 clear hx hy hn
 simp only[nm,LF,LJ]
 walk_at "evh"
 exact⟨_,rfl⟩
noncomputable def NEG:Num:=(-1,1)
theorem qa:NB 1 NEG:=⟨⟨by decide,by decide⟩,by unfold L2.Bd;decide,by unfold L2.Bd;decide⟩
theorem Js{x:Num}{n:Nat}(hx:NB n x)(h1:1<=n)(hn:n<=4000):Val dI [nm x] (nm (bD x NEG)):=by
 have c:=ar (zY hx (qa.mono h1) hn)
 simp only[LF,LJ] at c
 rw[show nm NEG=A.tup [.int (SA 0),.int 1] from rfl] at c
 generalize nm x=V at *
 generalize nm (bD x NEG)=W at *
 refine⟨[.fr V],?_⟩
 unfold dI g8
 walk_at "evh"
theorem u4{x y:Num}{n:Nat}(hx:NB n x)(hy:NB n y)(hn:n<=4000):Val fz [nm x,nm y] (nm (bD x y)):=by
 have f1:=fits_of (n:=20000) hx.b1 (by omega)
 have f2:=fits_of (n:=20000) hx.b2 (by omega)
 have f3:=fits_of (n:=20000) hy.b1 (by omega)
 have f4:=fits_of (n:=20000) hy.b2 (by omega)
 have:=ar (jP (t:=x.1*y.1) (b:=x.2*y.2) (Mw hx.nz hy.nz) ((hx.b2.mul hy.b2).mono (by omega)))
 simp only[LF,LJ] at this
 unfold Val fz gZ
 clear hx hy hn
 simp only[nm,LF,LJ]
 walk_at "evh"
 exact⟨_,rfl⟩
noncomputable abbrev Mk:=Str×Num
noncomputable def mkK(p:Mk):Key×A:=(.inr p.1,nm p.2)
noncomputable def mkD(p:List Mk):A:=.dic (p.map mkK)
noncomputable def gN(p:List Mk)(x:Str):Num:=((p.find? λq=>decide (q.1=x)).map (·.2)).getD (0,1)
theorem fT:∀(p:List Mk)(x:Str),(∃q∈p,q.1=x)->eP (p.map mkK) (.inr x)=some (nm (gN p x)):=by
 intro p
 induction p with
 | nil=>rintro x ⟨q,hq,_⟩;cases hq
 | cons q p ih =>
  intro x hx
  unfold eP gN
  rw[LF,MI,MI]
  by_cases e:q.1=x
  ·rw[decide_eq_true e,show decide ((mkK q).1=.inr x)=true from decide_eq_true (by rw[<- e];rfl)]
   rfl
  ·have e':(mkK q).1≠.inr x:=λz=>e (NK z)
   rw[decide_eq_false e,decide_eq_false e']
   obtain⟨q',hq',rfl⟩:=hx
   have:=ih q'.1 ⟨q',(Me.mp hq').resolve_left (λz=>e (z▸rfl)),rfl⟩
   unfold eP gN at this
   exact this
theorem ku{T:Type}{ts:List T}{G:Mg}{b:Ms}(f:T->A)(s:Sl)(good:T->Bool)(P:List Sl->Prop)(hs:∀t∈ts,∀ρ,P ρ->∃ρ1 ρ2,G (f t) ρ=some ρ1/\P ρ2/\b ρ1=some (if good t then .nx else .rt s,ρ2)) :
  ∀{ρ:List Sl},P ρ->∃ρ',forL G b (ts.map f) ρ=some (if ts.all good then .nx else .rt s,ρ')/\P ρ':=by
 induction ts with
 | nil=>intro ρ h;exact⟨ρ,rfl,h⟩
 | cons t ts ih =>
  intro ρ h
  obtain⟨ρ1,ρ2,e1,p2,e2⟩:=hs t LW ρ h
  rw[LF]
  unfold forL
  rw[e1]
  dsimp only
  rw[e2,MA]
  cases good t with
  | true=>simpa using ih (λt h=>hs t (LX _ h)) p2
  | false=>exact⟨ρ2,rfl,p2⟩
noncomputable def bB(z:Sz)(g:Str->Num):Bool:=(!nlt (g z.n) z.l&&!nlt z.m (g z.n))&&z.f.all λf=>!nlt (g f.s) (bD (aS z f (g z.n)) NEG)&&!nlt (aS z f (g z.n)) (g f.s)
theorem m8{z:Sz}{f:Sf}{v:Num}{a b:Nat}(h:gK a z)(so:vN a f)(hv:NB b v):NB (2*a+b+2) (aS z f v):=by
 rcases so.wy with e|e|e
 ·rw[sM e];exact so.nb.mono (by omega)
 ·rw[rY e,<- iC];exact(so.nb.ui (hv.ui h.lb.neg)).mono (by omega)
 ·rw[rM e,<- iC];exact(so.nb.ui (h.mb.ui hv.neg)).mono (by omega)
theorem rO{n:Nat}{x:Num}(h:NB n x):NB n (bD x NEG):=by
 rw[show bD x NEG=(-x.1,x.2) from j5 h.ok];exact h.neg
theorem vO{z:Sz}{p:List Mk}{a b:Nat}(h:gK a z)(hb:2*a+b<=1500)(hp:∀x,NB b (gN p x))(hall:∀x∈szN z,∃q∈p,q.1=x){j:Nat}{f:Sf}(hj:z.f[j]?=some f)(x4:Sl)(h4:np x4=true):∃y4,np y4=true/\(av (aD 4 (af cZ [] (aa (bc "Size" "room" (ai 0)) (aa (mOp (fOr fIx aj) (ae 3) (mC (.int 0))) (aa (ai 2) ag))))) (sIf (eQ (ah (af bW [] (aa (mOp (fOr fIx aj) (ae 1) (mOp (fOr fIx aj) (ae 3) (mC (.int 0)))) (aa (af dI [] (aa (ai 4) ag)) (aa (ai 4) ag)))))) (aH (mC (.bl false))) aG)) [.fr (szO z),.fr (mkD p),.fr (nm (gN p z.n)),.fr (sfA f),x4]=some (if !nlt (gN p f.s) (bD (aS z f (gN p z.n)) NEG)&&!nlt (aS z f (gN p z.n)) (gN p f.s) then .nx else .rt (.fr (.bl false)),[.fr (szO z),.fr (mkD p),.fr (nm (gN p z.n)),.fr (sfA f),y4]):=by
 have hf:=Mc hj
 have so:=h.fs f hf
 have nd:=m8 h so (hp z.n)
 have cr:=ar (FN (b:=a+b) (h.lb.mono (by omega)) (h.mb.mono (by omega)) (so.nb.mono (by omega)) ((hp z.n).mono (by omega)) so.wy (by omega) hj h.nd)
 have cn:=ar (Js nd (by omega) (by omega))
 have cf:=ar (J1 ((hp f.s).mono (by omega)) (rO nd) nd (by omega))
 have g:=fT p f.s (hall _ (LX _ (Mt hf)))
 have a0:atI [A.str f.s,nm f.r,.str f.w] 0=some (.str f.s):=sf0 f
 simp only[LF,LJ] at cr cn cf
 have rc:∀ρ,gO "Size" "room" (.fr (szO z)) ρ=some (.ok (.fr (szO z)),ρ):=λρ=>rfl
 refine⟨.fr (nm (aS z f (gN p z.n))),rfl,?_⟩
 unfold mkD sfA
 generalize p.map mkK=K at *
 generalize (!nlt (gN p f.s) (bD (aS z f (gN p z.n)) NEG)&&!nlt (aS z f (gN p z.n)) (gN p f.s))=r at *
 generalize nm (bD (aS z f (gN p z.n)) NEG)=N0 at *
 generalize nm (aS z f (gN p z.n))=N1 at *
 generalize nm (gN p f.s)=N2 at *
 generalize nm (gN p z.n)=N3 at *
 generalize nm f.r=N4 at *
 generalize szO z=O at *
 clear h hp hall so nd hf hj
 cases r<;>cases x4<;>first|(cases h4;done)|(walk_at "evh")
theorem Ib{z:Sz}{p:List Mk}{a b:Nat}(h:gK a z)(hb:2*a+b<=1500)(hp:∀x,NB b (gN p x))(hall:∀x∈szN z,∃q∈p,q.1=x):Val dJ [szO z,mkD p] (.bl (bB z (gN p))):=by
 have g:=fT p z.n (hall _ LW)
 have cf:=ar (J1 (n:=a+b) ((hp z.n).mono (by omega)) (h.lb.mono (by omega)) (h.mb.mono (by omega)) (by omega))
 have a1:=iq z
 have a2:=i9 z
 have a3:=kF z
 have a4:=cO z
 simp only[LF,LJ] at cf
 obtain⟨ρ',hf,x3,x4,_,_,rfl⟩:=ku (ts:=z.f) (G:=aB 3) (b:=(av (aD 4 (af cZ [] (aa (bc "Size" "room" (ai 0)) (aa (mOp (fOr fIx aj) (ae 3) (mC (.int 0))) (aa (ai 2) ag))))) (sIf (eQ (ah (af bW [] (aa (mOp (fOr fIx aj) (ae 1) (mOp (fOr fIx aj) (ae 3) (mC (.int 0)))) (aa (af dI [] (aa (ai 4) ag)) (aa (ai 4) ag)))))) (aH (mC (.bl false))) aG))) sfA (.fr (.bl false)) (λf=>!nlt (gN p f.s) (bD (aS z f (gN p z.n)) NEG)&&!nlt (aS z f (gN p z.n)) (gN p f.s)) (λρ=>∃x3 x4,np x3=true/\np x4=true/\ρ=[.fr (szO z),.fr (mkD p),.fr (nm (gN p z.n)),x3,x4]) (by
  rintro f hf ρ ⟨x3,x4,h3,h4,rfl⟩
  obtain⟨j,hj,rfl⟩:=Nv hf
  obtain⟨y4,hy,e⟩:=vO h hb hp hall (L8 hj) x4 h4
  refine⟨_,_,?_,⟨_,y4,rfl,hy,rfl⟩,e⟩
  cases x3<;>first|(cases h3;done)|rfl) (ρ:=[.fr (szO z),.fr (mkD p),.fr (nm (gN p z.n)),.un,.un]) ⟨_,_,rfl,rfl,rfl⟩
 refine Val.of (Wp.df ?_)
 refine Wp.st (ρ1:=[.fr (szO z),.fr (mkD p),.fr (nm (gN p z.n)),.un,.un]) ?_ ?_
 ·unfold mkD
  clear cf hf a2 a3 a4 h hp hall
  generalize p.map mkK=K at *
  generalize nm (gN p z.n)=N3 at *
  generalize szO z=O at *
  walk_at "evh"
 unfold bB
 generalize z.f.all (λf=>!nlt (gN p f.s) (bD (aS z f (gN p z.n)) NEG)&&!nlt (aS z f (gN p z.n)) (gN p f.s))=r at *
 generalize (!nlt (gN p z.n) z.l&&!nlt z.m (gN p z.n))=r0 at *
 generalize mkD p=D at *
 generalize nm (gN p z.n)=N3 at *
 generalize z.f.map sfA=FS at *
 cases r0 with
 | false =>
  refine Wp.en (f:=.rt (.fr (.bl false))) (ρ1:=[.fr (szO z),.fr D,.fr N3,.un,.un]) ?_ rfl
  clear hf a1 a4 g h hp hall
  generalize szO z=O at *
  generalize nm z.l=N1 at *
  generalize nm z.m=N2 at *
  walk_at "evh"
 | true =>
  refine Wp.st (ρ1:=[.fr (szO z),.fr D,.fr N3,.un,.un]) ?_ ?_
  ·clear hf a1 a4 g h hp hall
   generalize szO z=O at *
   generalize nm z.l=N1 at *
   generalize nm z.m=N2 at *
   walk_at "evh"
  have hm:cy (mUn (aU ["Size"] "shifts") (ae 0)) [.fr (szO z),.fr D,.fr N3,.un,.un]=some (.ok FS,[.fr (szO z),.fr D,.fr N3,.un,.un]):=by
   clear hf cf a1 a2 a3 g h hp hall
   generalize szO z=O at *
   walk_at "evh"
  cases r with
  | true=>exact Wp.st (ρ1:=[.fr (szO z),.fr D,.fr N3,x3,x4]) (by rw[mJ,hm];exact hf) (Wp.en (f:=.rt (.fr (.bl true))) rfl rfl)
  | false=>exact Wp.en (f:=.rt (.fr (.bl false))) (ρ1:=[.fr (szO z),.fr D,.fr N3,x3,x4]) (by rw[bF,mJ,hm];dsimp only;rw[hf];rfl) rfl
theorem rQ{α:Type}[DecidableEq α]:∀{xs ys:List α},xs.Nodup->(∀x∈xs,x∈ys)->xs.length=ys.length->xs.Perm ys
 | [],ys,_,_,hl=>by rw[Ow.mp hl.symm]
 | x::xs,ys,nd,hs,hl=>by
  have hx:=hs x LW
  obtain⟨n1,n2⟩:=Mp.mp nd
  refine(List.Perm.cons x (rQ (ys:=ys.erase x) n2 (λu hu=>?_) ?_)).trans (List.perm_cons_erase hx).symm
  ·exact(List.mem_erase_of_ne (λz=>n1 (by rw[<- z];exact hu))).mpr (hs u (LX _ hu))
  ·rw[List.length_erase_of_mem hx,<- hl]
   simp
theorem jV{ks:List (Key×A)}{ps ns:List Str}(e:ks.map (·.1)=ps.map Mu)(nd:ps.Nodup):neL ks (ns.map Mu)=!decide (ps.Perm ns):=by
 have l:ks.length=ps.length:=by have:=congrArg M7 e;simpa using this
 have:(neL ks (ns.map Mu)=false)↔ps.Perm ns:=by
  unfold neL
  rw[Pe,LG,decide_eq_true_eq,Mv,LH]
  constructor
  ·rintro⟨e1,e2⟩
   refine rQ nd (λu hu=>?_) (by omega)
   have:Mu u∈ks.map (·.1):=by rw[e];exact Mt hu
   obtain⟨kv,hkv,e3⟩:=Mn.mp this
   obtain⟨l,hl,e4⟩:=MV.mp (e2 kv hkv)
   obtain⟨w,hw,rfl⟩:=Mn.mp hl
   have e4:=of_decide_eq_true e4
   rw[e3] at e4
   rw[<- NK e4];exact hw
  ·intro pm
   refine⟨by rw[l,pm.length_eq],λkv hkv=>MV.mpr ⟨kv.1,?_,by simp⟩⟩
   have:kv.1∈ps.map Mu:=by rw[<- e];exact Mt hkv
   obtain⟨w,hw,e3⟩:=Mn.mp this
   rw[<- e3];exact Mt (pm.mem_iff.mp hw)
 cases h:neL ks (ns.map Mu) with
 | false=>rw[decide_eq_true (this.mp h)];rfl
 | true=>rw[decide_eq_false (λq=>by rw[this.mpr q] at h;cases h)];rfl
theorem n9(p:List Mk):(p.map mkK).map (·.1)=(p.map (·.1)).map Mu:=by rw[MM,MM];rfl
theorem sQ{zs:List Sz}{p:List Mk}(nd:(p.map (·.1)).Nodup)(e:neL (p.map mkK) ((zs.flatMap szN).map Mu)=false):∀x∈zs.flatMap szN,∃q∈p,q.1=x:=by
 rw[jV (n9 p) nd,Pe,decide_eq_true_eq] at e
 intro x hx
 obtain⟨q,hq,rfl⟩:=Mn.mp (e.mem_iff.mpr hx)
 exact⟨q,hq,rfl⟩
theorem keys_str:∀ns:List Str,ji (ns.map A.str)=some (ns.map Mu)
 | []=>rfl
 | n::ns=>by
  rw[LF]
  unfold ji
  rw[keys_str ns]
  rfl
theorem FW{ns:List Str}(h:ns.Nodup):(ns.map (Mu:Str->Key)).Nodup:=by
 rw[SD,Q4]
 exact h.imp λa e=>a (NK e)
theorem J3{zs:List Sz}{p:List Mk}{b:Nat}(h:du b zs)(lp:p.length<=20):dM 1 (i6 (af aO [] (aa (bc "Stock" "names" (ae 0)) ag)) (af aK [] (aa (bc "Size" "names" (ae 0)) ag))) [.fr (stO zs),.fr (mkD p)]=some (.ok (.fr (.bl (neL (p.map mkK) ((zs.flatMap szN).map Mu)))),[.fr (stO zs),.fr (mkD p)]):=by
 have c:=fh (wO h)
 have l6:=h.ln
 simp only[LF,LJ] at c
 have hm:mFz (i6 (af aO [] (aa (bc "Stock" "names" (ae 0)) ag)) (af aK [] (aa (bc "Size" "names" (ae 0)) ag))) [.fr (stO zs),.fr (mkD p)]=some (.ok (.fr (.lst ((zs.flatMap szN).map A.str))),[.fr (stO zs),.fr (mkD p)]):=by
  have rd:∀ρ,gO "Stock" "names" (.fr (stO zs)) (.fr (stO zs)::ρ)=some (.ok (.fr (stO zs)),.fr (stO zs)::ρ):=λρ=>rfl
  generalize mkD p=D at *
  generalize stO zs=O at *
  generalize (zs.flatMap szN).map A.str=L at *
  unfold mFz
  walk_at "evh"
 unfold dM
 rw[show lY [.fr (stO zs),.fr (mkD p)] 1=some (p.map mkK) from rfl]
 dsimp only
 rw[if_pos (by rw[LH];exact lp)]
 unfold ax
 rw[hm]
 dsimp only
 rw[keys_str]
 dsimp only
 rw[if_pos ⟨FW h.nd,by rw[LH];have:=h.ln;omega⟩]
theorem tT{T:Type}{i:Nat}{e:Mi Rr}{ts:List T}{ρ0:List Sl}(k g:T->A)(hi:ρ0.length=i)(hl:ts.length<=100000)(h:∀t∈ts,∃r,e (ρ0++[.fr (k t)])=some (.ok r,ρ0++[.fr (k t)])/\aQ r (ρ0++[.fr (k t)])=some (g t,ρ0++[.fr (k t)])) :
  eO 1 (aB i) aZ e (ts.map k) ρ0=some (.ok (.nw (.lst (ts.map g))),ρ0):=by
 obtain⟨ys,ρ',h1,x,rfl,_,rfl⟩:=iT (G:=aB i) (t:=aZ) (e:=e) (as:=ts.map k)
  (λj acc ρ=>∃x:Sl,ρ=ρ0++[x]/\(∀o,x≠Sl.pv o)/\acc=(ts.take j).map g) (ρ:=ρ0++[.un]) ⟨.un,rfl,(λo z=>by cases z),rfl⟩ (by
   rintro j q acc ρ hq ⟨x,rfl,hx,rfl⟩
   rw[LZ] at hq
   cases ez:ts[j]? with
   | none=>rw[ez] at hq;cases hq
   | some t =>
    rw[ez] at hq
    cases hq
    obtain⟨r,k1,k2⟩:=h t (Mc ez)
    refine⟨ρ0++[Sl.fr (k t)],(show put i (.fr (k t)) (ρ0++[x])=some (ρ0++[.fr (k t)]) from lh hi hx),.inl ⟨_,r,_,g t,_,rfl,k1,k2,.fr (k t),rfl,(λo z=>by cases z),?_⟩⟩
    rw[MD,ez,Mh];rfl)
 unfold eO
 rw[if_pos (by rw[LH];exact hl)]
 have e1:ρ0++L7 1 Sl.un=ρ0++[.un]:=rfl
 rw[e1,h1]
 simp
theorem mO:∀l:List Bool,eA (l.map A.bl)=some l
 | []=>rfl
 | b::l=>by rw[LF];unfold eA;rw[mO l]
theorem jD{zs:List Sz}{p:List Mk}{a b:Nat}(h:du a zs)(hb:2*a+b<=1500)(nd:(p.map (·.1)).Nodup)(lp:p.length<=20)(hp:∀x,NB b (gN p x)):Val aN [stO zs,mkD p] (.bl (!neL (p.map mkK) ((zs.flatMap szN).map Mu)&&zs.all λz=>bB z (gN p))):=by
 have kp:=J3 (p:=p) h lp
 refine Val.of (Wp.df ?_)
 cases e:neL (p.map mkK) ((zs.flatMap szN).map Mu) with
 | true =>
  rw[e] at kp
  refine Wp.en (f:=.rt (.fr (.bl false))) (ρ1:=[.fr (stO zs),.fr (mkD p)]) ?_ rfl
  unfold eF
  show av _ _ [.fr (stO zs),.fr (mkD p)]=_
  rw[bF,lU]
  unfold ah ax
  rw[kp]
  rfl
 | false =>
  rw[e] at kp
  have hall:=sQ nd e
  refine Wp.st (ρ1:=[.fr (stO zs),.fr (mkD p)]) ?_ ?_
  ·show sIf _ _ _ [.fr (stO zs),.fr (mkD p)]=_
   rw[lU]
   unfold ah ax
   rw[kp]
   rfl
  have hc:eO 1 (aB 2) aZ (af dJ [] (aa (ai 2) (aa (ai 1) ag))) (zs.map szO) [.fr (stO zs),.fr (mkD p)]=some (.ok (.nw (.lst ((zs.map λz=>bB z (gN p)).map A.bl))),[.fr (stO zs),.fr (mkD p)]):=by
   rw[MM]
   refine tT (ρ0:=[.fr (stO zs),.fr (mkD p)]) szO (λz=>.bl (bB z (gN p))) rfl (by have:=h.len;omega) λz hz=>⟨.fr (.bl (bB z (gN p))),?_,rfl⟩
   have c:=ar (Ib (h.sz z hz) hb hp (λx hx=>hall x (NQ.mpr ⟨z,hz,hx⟩)))
   simp only[LF,LJ] at c
   generalize szO z=O at *
   generalize mkD p=D at *
   generalize stO zs=S at *
   clear kp
   walk_at "evh"
  have hbm:=mO (zs.map λz=>bB z (gN p))
  have ha:(zs.map λz=>bB z (gN p)).all id=zs.all λz=>bB z (gN p):=by rw[Pk];rfl
  have a1:=kj zs
  refine Wp.en (f:=.rt (.fr (.bl (zs.all λz=>bB z (gN p))))) (ρ1:=[.fr (stO zs),.fr (mkD p)]) ?_ rfl
  rw[<- ha]
  clear kp hall e nd ha
  generalize (zs.map λz=>bB z (gN p)).map A.bl=BL at *
  generalize (zs.map λz=>bB z (gN p))=B at *
  generalize zs.map szO=L at *
  generalize mkD p=D at *
  generalize stO zs=S at *
  walk_at "evh"
theorem Wp.sr{m n:Ms}{ρ:List Sl}{Q:Fl->List Sl->Prop}(k:Wp m ρ λf ρ1=>match f with | .nx=>Wp n ρ1 Q|f=>Q f ρ1):Wp (av m n) ρ Q:=by
 obtain⟨f,ρ1,e,q⟩:=k
 cases f with
 | nx=>obtain⟨f2,ρ2,e2,q⟩:=q;exact⟨f2,ρ2,by rw[bF,e];exact e2,q⟩
 | _=>exact⟨_,ρ1,by rw[bF,e],q⟩
theorem Wp.fg{T:Type}{ts:List T}{mi:Mi (List A)}{G:Mg}{b:Ms}{ρ ρ1:List Sl}{Q:Fl->List Sl->Prop}(f:T->A)(s:Sl)(good:T->Bool)(P:List Sl->Prop)(h:mi ρ=some (.ok (ts.map f),ρ1))(h0:P ρ1)(hs:∀t∈ts,∀ρ,P ρ->∃ρ1,G (f t) ρ=some ρ1/\Wp b ρ1 λg ρ2=>g=(if good t then .nx else .rt s)/\P ρ2)(hq:∀ρ',P ρ'->Q (if ts.all good then .nx else .rt s) ρ'):Wp (c8 mi G b) ρ Q:=by
 obtain⟨ρ',e,p⟩:=ku (G:=G) (b:=b) (ts:=ts) f s good P (λt ht ρ p=>by
  obtain⟨ρ1,e1,g,ρ2,e2,rfl,p2⟩:=hs t ht ρ p
  exact⟨ρ1,ρ2,e1,p2,e2⟩) h0
 exact⟨_,ρ',by rw[mJ,h];exact e,hq ρ' p⟩
theorem ue{xs ys:List Str}:bb xs=bb ys↔xs.Perm ys :=
 ⟨λh=>(bp xs).symm.trans (h▸bp ys),λp=>((bp xs).trans (p.trans (bp ys).symm)).eq_of_pairwise (λa b _ _ h1 h2=>oZ h1 h2) (j4 xs) (j4 ys)⟩
theorem rF:∀L R:List Str,D.eqs (L.map D.str) (R.map D.str)=decide (L=R)
 | [],[]=>by simp[D.eqs]
 | [],r::R=>by simp[D.eqs]
 | l::L,[]=>by simp[D.eqs]
 | l::L,r::R=>by rw[LF,LF,D.eqs,rF L R];simp[D.eq,NP]
theorem xg(L R:List Str):eqA (.lst (L.map A.str)) (.lst (R.map A.str))=some (decide (L=R)):=by
 unfold eqA
 simp only[toD,jN]
 rw[if_pos ?_,D.eq,rF]
 have:=gW L
 simp[D.depth]
 omega
theorem oA:∀p:List Mk,strKeys (p.map mkK)=some (p.map (·.1))
 | []=>rfl
 | q::p=>by
  rw[LF]
  unfold mkK strKeys
  rw[show (λp:Mk=>((Mu p.1:Key),nm p.2))=mkK from rfl,oA p]
  rfl
theorem Cj{p:List Mk}(l:p.length<=20):bU (mkD p)=some (.nw (.lst ((bb (p.map (·.1))).map A.str))):=by
 unfold mkD bU
 dsimp only
 rw[oA]
 dsimp only
 rw[if_pos (by rw[LH];omega)]
theorem Hb{ss:List Str}(l:ss.length<64):br (.lst (ss.map A.str))=some (.nw (.lst ((bb ss).map A.str))):=by
 unfold br
 dsimp only
 rw[oS]
 dsimp only
 rw[if_pos l]
theorem BK{r u:Num}(hr:Ok r)(hu:Ok u):nlt r (if u.1<0 then -u.1 else u.1,u.2)=!(!nlt u (bD r NEG)&&!nlt r u):=by
 rw[show bD r NEG=(-r.1,r.2) from j5 hr]
 unfold nlt
 simp only[QI]
 have p:=hr.1
 split
 ·rename_i h
  have:=Int.mul_neg_of_neg_of_pos h p
  rw[QI]
  generalize u.1*r.2=a at *
  generalize r.1*u.2=b at *
  by_cases h1:b < -a<;>by_cases h2:a < -b<;>by_cases h3:b<a<;>simp[h1,h2,h3]<;>omega
 ·rename_i h
  have:=Int.mul_nonneg (Int.not_lt.mp h) (Qy p)
  generalize u.1*r.2=a at *
  generalize r.1*u.2=b at *
  by_cases h2:a < -b<;>by_cases h3:b<a<;>simp[h2,h3]<;>omega
theorem FD{b:Nat}{u:Num}(h:NB b u):NB b (if u.1<0 then -u.1 else u.1,u.2):=by
 split
 ·exact h.neg
 ·exact h
theorem Lk{a b c d x4 x5 x6 e g:Sl}(f:Sf)(h4:np x4=true)(h5:np x5=true)(h6:np x6=true):G3 4 5 6 (sfA f) [a,b,c,d,x4,x5,x6,e,g]=some [a,b,c,d,.fr (.str f.s),.fr (nm f.r),.fr (.str f.w),e,g]:=by
 cases x4<;>first|(cases h4;done)|(cases x5<;>first|(cases h5;done)|(cases x6<;>first|(cases h6;done)|rfl))
theorem xX{zs:List Sz}{p:List Mk}{a b:Nat}(h:du a zs)(hb:2*a+b<=1500)(nd:(p.map (·.1)).Nodup)(lp:p.length<=20)(hp:∀x,NB b (gN p x)):Val eX [.lst (zs.map szT),mkD p] (.bl (!neL (p.map mkK) ((zs.flatMap szN).map Mu)&&zs.all λz=>bB z (gN p))):=by
 have ca:=fh (vF h)
 have hs1:br (mkD p)=none:=rfl
 have hs2:=Cj lp
 have hs3:=Hb (ss:=zs.flatMap szN) (by have:=h.ln;omega)
 have he:=xg (bb (p.map (·.1))) (bb (zs.flatMap szN))
 have dp:decide (bb (p.map (·.1))=bb (zs.flatMap szN))=!neL (p.map mkK) ((zs.flatMap szN).map Mu):=by
  rw[jV (n9 p) nd,Qp]
  exact decide_eq_decide.mpr ue
 rw[dp] at he
 have hall:=sQ (zs:=zs) nd
 refine Val.of (Wp.df ?_)
 simp only[LF,LJ] at ca
 have hif:ah (mOp fNe (mB1 (gOr br bU) (ae 1)) (mB1 (gOr br bU) (af cU [] (aa (ai 0) ag)))) [.fr (.lst (zs.map szT)),.fr (mkD p),.un,.un,.un,.un,.un,.un,.un]=some (.ok (neL (p.map mkK) ((zs.flatMap szN).map Mu)),[.fr (.lst (zs.map szT)),.fr (mkD p),.un,.un,.un,.un,.un,.un,.un]):=by
  clear hall dp nd hp
  generalize neL (p.map mkK) ((zs.flatMap szN).map Mu)=r at *
  generalize (bb (p.map (·.1))).map A.str=S1 at *
  generalize (bb (zs.flatMap szN)).map A.str=S2 at *
  generalize (zs.flatMap szN).map A.str=S3 at *
  generalize mkD p=D at *
  generalize zs.map szT=Z at *
  walk_at "evh"
  rw[Qp]
 cases e:neL (p.map mkK) ((zs.flatMap szN).map Mu) with
 | true =>
  rw[e] at hif
  exact Wp.sr (Wp.ft hif (Wp.en (f:=.rt (.fr (.bl false))) rfl rfl))
 | false =>
  rw[e] at hif
  have hall:=hall e
  refine Wp.sq (Wp.ff hif (Wp.en (f:=.nx) rfl ⟨rfl,?_⟩))
  clear hif e he dp hs1 hs2 hs3 ca
  refine Wp.sr (Wp.fg (ts:=zs) szT (.fr (.bl false)) (λz=>bB z (gN p)) (λρ=>∃x2 x3 x4 x5 x6 x7 x8:Sl,ρ=[.fr (.lst (zs.map szT)),.fr (mkD p),x2,x3,x4,x5,x6,x7,x8]/\np x2=true/\np x3=true/\np x4=true/\np x5=true/\np x6=true/\np x7=true/\np x8=true) rfl ⟨_,_,_,_,_,_,_,rfl,rfl,rfl,rfl,rfl,rfl,rfl,rfl⟩ ?_ ?_)
  ·rintro z hz ρ ⟨x2,x3,x4,x5,x6,x7,x8,rfl,h2,h3,h4,h5,h6,h7,h8⟩
   have sz:=h.sz z hz
   have hx:∀x∈szN z,∃q∈p,q.1=x:=λx hx=>hall x (NQ.mpr ⟨z,hz,hx⟩)
   have g:=fT p z.n (hx _ LW)
   have c1:=ar (m5 (n:=a+b) ((hp z.n).mono (by omega)) (sz.lb.mono (by omega)) (by omega))
   have c2:=ar (m5 (n:=a+b) (sz.mb.mono (by omega)) ((hp z.n).mono (by omega)) (by omega))
   refine⟨[.fr (.lst (zs.map szT)),.fr (mkD p),.fr (szT z),x3,x4,x5,x6,x7,x8],by cases x2<;>first|(cases h2;done)|rfl,?_⟩
   simp only[LF,LJ] at c1 c2
   refine Wp.st (ρ1:=[.fr (.lst (zs.map szT)),.fr (mkD p),.fr (szT z),.fr (nm (gN p z.n)),x4,x5,x6,x7,x8]) ?_ ?_
   ·clear c1 c2 hx hall sz hp h nd
    unfold mkD szT
    generalize p.map mkK=K at *
    generalize nm (gN p z.n)=V at *
    walk_at "evh"
   have hif:mOr (ah (af bz [] (aa (ai 3) (aa (mOp (fOr fIx aj) (ae 2) (mC (.int 1))) ag)))) (ah (af bz [] (aa (mOp (fOr fIx aj) (ae 2) (mC (.int 2))) (aa (ai 3) ag)))) [.fr (.lst (zs.map szT)),.fr (mkD p),.fr (szT z),.fr (nm (gN p z.n)),x4,x5,x6,x7,x8]=some (.ok (nlt (gN p z.n) z.l || nlt z.m (gN p z.n)),[.fr (.lst (zs.map szT)),.fr (mkD p),.fr (szT z),.fr (nm (gN p z.n)),x4,x5,x6,x7,x8]):=by
    clear g hx hall sz hp h nd
    unfold szT
    generalize nlt (gN p z.n) z.l=r at *
    generalize nlt z.m (gN p z.n)=s at *
    generalize nm (gN p z.n)=V at *
    generalize nm z.l=V1 at *
    generalize nm z.m=V2 at *
    cases r<;>(walk_at "evh")<;>rfl
   show Wp _ _ λg ρ2=>g=(if bB z (gN p)=true then .nx else .rt (.fr (.bl false)))/\_
   unfold bB
   rw[show (!nlt (gN p z.n) z.l&&!nlt z.m (gN p z.n))=!(nlt (gN p z.n) z.l || nlt z.m (gN p z.n)) by rw[Bool.not_or]]
   cases e:(nlt (gN p z.n) z.l || nlt z.m (gN p z.n)) with
   | true =>
    rw[e] at hif
    exact Wp.sr (Wp.ft hif (Wp.en (f:=.rt (.fr (.bl false))) rfl ⟨rfl,_,_,_,_,_,_,_,rfl,rfl,rfl,h4,h5,h6,h7,h8⟩))
   | false =>
    rw[e] at hif
    refine Wp.sq (Wp.ff hif (Wp.en (f:=.nx) rfl ⟨rfl,?_⟩))
    rw[Rw,Pb]
    refine Wp.fg (ts:=z.f) sfA (.fr (.bl false)) (λf=>!nlt (gN p f.s) (bD (aS z f (gN p z.n)) NEG)&&!nlt (aS z f (gN p z.n)) (gN p f.s)) (λρ=>∃x4 x5 x6 x7 x8:Sl,ρ=[.fr (.lst (zs.map szT)),.fr (mkD p),.fr (szT z),.fr (nm (gN p z.n)),x4,x5,x6,x7,x8]/\np x4=true/\np x5=true/\np x6=true/\np x7=true/\np x8=true) rfl ⟨_,_,_,_,_,rfl,h4,h5,h6,h7,h8⟩ ?_ ?_
    ·rintro f hf ρ ⟨x4,x5,x6,x7,x8,rfl,h4,h5,h6,h7,h8⟩
     refine⟨_,Lk f h4 h5 h6,?_⟩
     obtain⟨j,hj,rfl⟩:=Nv hf
     have so:=sz.fs _ hf
     have hl:=L8 hj
     generalize z.f[j]=f at *
     have nd:=m8 sz so (hp z.n)
     have cr:=ar (m6 (b:=a+b) (sz.lb.mono (by omega)) (sz.mb.mono (by omega)) (so.nb.mono (by omega)) ((hp z.n).mono (by omega)) so.wy (by omega) hl sz.nd)
     have cb:=ar (m5 nd (FD ((hp f.s).mono (by omega))) (by omega))
     rw[BK nd.ok (hp f.s).ok] at cb
     have gf:=fT p f.s (hx _ (LX _ (Mt hf)))
     simp only[LF,LJ] at cr cb
     refine Wp.mono (Q:=λg ρ=>g=(if (!nlt (gN p f.s) (bD (aS z f (gN p z.n)) NEG)&&!nlt (aS z f (gN p z.n)) (gN p f.s))=true then .nx else .rt (.fr (.bl false)))/\ρ=[.fr (.lst (zs.map szT)),.fr (mkD p),.fr (szT z),.fr (nm (gN p z.n)),.fr (.str f.s),.fr (nm f.r),.fr (.str f.w),.fr (nm (aS z f (gN p z.n))),.fr (nm (gN p f.s))]) ?_ ?_
     ·clear hif e hall hx sz so g hp nd c1 c2 hf hj hl
      unfold mkD
      rw[show nm ((if (gN p f.s).1<0 then -(gN p f.s).1 else (gN p f.s).1),(gN p f.s).2)=.tup [.int (if (gN p f.s).1<0 then -(gN p f.s).1 else (gN p f.s).1),.int (gN p f.s).2] from rfl] at cb
      rw[show nm (gN p f.s)=.tup [.int (gN p f.s).1,.int (gN p f.s).2] from rfl] at gf ⊢
      generalize (!nlt (gN p f.s) (bD (aS z f (gN p z.n)) NEG)&&!nlt (aS z f (gN p z.n)) (gN p f.s))=r at *
      generalize (gN p f.s).1=u1 at *
      generalize (gN p f.s).2=u2 at *
      generalize p.map mkK=K at *
      generalize nm (aS z f (gN p z.n))=N1 at *
      generalize nm (gN p z.n)=N3 at *
      generalize nm f.r=N4 at *
      generalize szT z=O at *
      refine⟨_,_,?_,rfl,rfl⟩
      cases r<;>(walk_at "evh")<;>rfl
     ·rintro g ρ ⟨rfl,rfl⟩
      exact⟨rfl,_,_,_,_,_,rfl,rfl,rfl,rfl,rfl,rfl⟩
    ·rintro ρ' ⟨x4,x5,x6,x7,x8,rfl,h4,h5,h6,h7,h8⟩
     exact⟨rfl,_,_,_,_,_,_,_,rfl,rfl,rfl,h4,h5,h6,h7,h8⟩
  ·rintro ρ' ⟨x2,x3,x4,x5,x6,x7,x8,rfl,_⟩
   cases e:zs.all λz=>bB z (gN p) with
   | true=>exact Wp.en (f:=.rt (.fr (.bl true))) rfl rfl
   | false=>rfl
theorem ox{p:List Mk}{x y:Str}{u:Num}(h:y∈p.map (·.1)):gN (p++[(x,u)]) y=gN p y:=by
 unfold gN
 rw[Q6]
 cases e:p.find? (λq=>decide (q.1=y)) with
 | some q=>rfl
 | none =>
  obtain⟨q,hq,rfl⟩:=Mn.mp h
  exact absurd (Pf.mp e q hq) (by simp)
theorem yn{p:List Mk}{x:Str}{u:Num}(h:x∉p.map (·.1)):gN (p++[(x,u)]) x=u:=by
 have e:p.find? (λq=>decide (q.1=x))=none:=Pf.mpr λq hq e=>h (of_decide_eq_true e▸Mt hq)
 unfold gN
 rw[Q6,e]
 simp
theorem ke{p:List Mk}{x:Str}{u:Num}(h:x∉p.map (·.1)):kE (p.map mkK) (.inr x) (nm u)=(p++[(x,u)]).map mkK:=by
 unfold kE
 rw[if_neg,Mh]
 ·rfl
 ·intro e
  obtain⟨kv,hkv,e⟩:=MV.mp e
  obtain⟨q,hq,rfl⟩:=Mn.mp hkv
  have e:q.1=x:=NK (of_decide_eq_true e)
  exact h (e▸Mt hq)
theorem jk{z:Sz}{g g':Str->Num}(h:∀x∈szN z,g x=g' x):bB z g=bB z g':=by
 unfold bB
 rw[h z.n LW]
 congr 1
 rw[OJ,Mv,Mv]
 constructor
 ·intro q f hf
  rw[<- h f.s (LX _ (Mt hf))];exact q f hf
 ·intro q f hf
  rw[h f.s (LX _ (Mt hf))];exact q f hf
noncomputable def inR(z:Sz)(f:Sf)(v u:Num):Bool:=!nlt u (bD (aS z f v) NEG)&&!nlt (aS z f v) u
structure Mkg (b:Nat) (ds:List Sz) (p:List Mk):Prop where
 nm:p.map (·.1)=ds.flatMap szN
 nb:∀q∈p,NB b q.2
 kp:∀z∈ds,bB z (gN p)=true
structure Mks (b:Nat) (ds:List Sz) (z:Sz) (fs:List Sf) (v:Num) (p:List Mk):Prop where
 nm:p.map (·.1)=ds.flatMap szN++z.n::fs.map Sf.s
 nb:∀q∈p,NB b q.2
 kp:∀z∈ds,bB z (gN p)=true
 gv:gN p z.n=v
 lo:(!nlt v z.l&&!nlt z.m v)=true
 rs:∀f∈fs,inR z f v (gN p f.s)=true
theorem qK{b:Nat}{p:List Mk}{x:Str}{u:Num}(h:∀q∈p,NB b q.2)(hu:NB b u):∀q∈p++[(x,u)],NB b q.2:=λq hq=>by
 rcases LS.mp hq with k|k
 ·exact h q k
 ·rw[Ma.mp k];exact hu
theorem Mkg.start{b:Nat}{ds:List Sz}{p:List Mk}{z:Sz}{v:Num}(k:Mkg b ds p)(hx:z.n∉ds.flatMap szN)(hv:NB b v)(lo:(!nlt v z.l&&!nlt z.m v)=true):Mks b ds z [] v (p++[(z.n,v)]):=by
 refine⟨by rw[Mh,k.nm];rfl,qK k.nb hv,λy hy=>?_,yn (by rw[k.nm];exact hx),lo,λf hf=>(by cases hf)⟩
 rw[<- k.kp y hy]
 exact jk λx hx=>ox (by rw[k.nm];exact NQ.mpr ⟨y,hy,hx⟩)
theorem Mks.step{b:Nat}{ds:List Sz}{p:List Mk}{z:Sz}{fs:List Sf}{f:Sf}{v u:Num}(k:Mks b ds z fs v p)(hx:f.s∉ds.flatMap szN++z.n::fs.map Sf.s)(hu:NB b u)(hr:inR z f v u=true):Mks b ds z (fs++[f]) v (p++[(f.s,u)]):=by
 refine⟨by rw[Mh,k.nm];simp,qK k.nb hu,λy hy=>?_,?_,k.lo,λg hg=>?_⟩
 ·rw[<- k.kp y hy]
  exact jk λx hx=>ox (by rw[k.nm];exact Mb _ (NQ.mpr ⟨y,hy,hx⟩))
 ·rw[ox (by rw[k.nm];simp)];exact k.gv
 ·rcases LS.mp hg with q|q
  ·rw[ox (by rw[k.nm];exact LN _ (LX _ (Mt q)))];exact k.rs g q
  ·rw[Ma.mp q,yn (by rw[k.nm];exact hx)];exact hr
theorem Mks.fin{b:Nat}{ds:List Sz}{p:List Mk}{z:Sz}{v:Num}(k:Mks b ds z z.f v p):Mkg b (ds++[z]) p:=by
 refine⟨by rw[k.nm,MS];simp[szN],k.nb,λy hy=>?_⟩
 rcases LS.mp hy with q|q
 ·exact k.kp y q
 ·rw[Ma.mp q]
  unfold bB
  rw[k.gv,k.lo,Pb,Mv]
  exact k.rs
theorem fresh{zs:List Sz}{i:Nat}{z:Sz}(nd:(zs.flatMap szN).Nodup)(hz:zs[i]?=some z):((zs.take i).flatMap szN++szN z).Nodup:=by
 rw[<- MB (i+1) zs,MS] at nd
 have:=(L6.mp nd).1
 rw[MD,hz] at this
 simpa using this
theorem xh{zs:List Sz}{i:Nat}{z:Sz}(nd:(zs.flatMap szN).Nodup)(hz:zs[i]?=some z):z.n∉(zs.take i).flatMap szN:=λh =>
 (L6.mp (fresh nd hz)).2.2 z.n h z.n LW rfl
theorem xl{zs:List Sz}{i j:Nat}{z:Sz}{f:Sf}(nd:(zs.flatMap szN).Nodup)(hz:zs[i]?=some z)(hf:z.f[j]?=some f):f.s∉(zs.take i).flatMap szN++z.n::(z.f.take j).map Sf.s:=by
 have h:=fresh nd hz
 have e:szN z=(z.n::(z.f.take j).map Sf.s)++(f.s::(z.f.drop (j+1)).map Sf.s):=by
  have hj:=(LI.mp hf)
  unfold szN
  rw[<- LF,<- hj.2,<- MF hj.1,MU,<- Mh,MB]
 rw[e,<- LQ] at h
 exact λq=>(L6.mp h).2.2 f.s q f.s LW rfl
theorem Mks.ln{b:Nat}{zs:List Sz}{a i j:Nat}{z:Sz}{v:Num}{p:List Mk}(k:Mks b (zs.take i) z (z.f.take j) v p)(h:du a zs)(hz:zs[i]?=some z):((p.map mkK).length<=100000)=True:=by
 have e:=congrArg M7 k.nm
 have q:=congrArg (λl=>(l.flatMap szN).length) (MB (i+1) zs)
 have hln:=h.ln
 have hl:(szN z).length=z.f.length+1:=by unfold szN;simp
 rw[MD,hz] at q
 simp only[MS,L4,LH,LL,Mm,Option.toList_some,List.flatMap_singleton] at e q
 simp only[eq_iff_iff,iff_true,LH]
 omega
theorem Mkg.ln{b:Nat}{zs:List Sz}{a i:Nat}{p:List Mk}(k:Mkg b (zs.take i) p)(h:du a zs):((p.map mkK).length<=100000)=True:=by
 have e:=congrArg M7 k.nm
 have q:=congrArg (λl=>(l.flatMap szN).length) (MB i zs)
 have hln:=h.ln
 simp only[MS,L4,LH] at e q
 simp only[eq_iff_iff,iff_true,LH]
 omega
theorem jr{x y:Num}(hx:Ok x)(hy:Ok y):nlt x y=false↔nv y<=nv x:=by
 have:=oh hx hy
 rw[<- Bool.not_eq_true,this]
 grind
theorem NB.Hs{m n:Nat}{x y:Num}(h:NB m x)(k:NB n y):NB (m+n) (bD x y) :=
 .nrm (Mw h.nz k.nz) (h.b1.mul k.b1) (h.b2.mul k.b2)
theorem pF{k P:Int}(hP:0<P):nv (nrm k P)*(P:Rat)=k:=by
 rw[nt (by omega),Pu]
 have:(P:Rat)≠0:=by intro z;have:=PN.mp (show ((P:Int):Rat)=((0:Int):Rat) from z);omega
 grind
theorem oP{k P:Int}(hP:0<P)(h:k<=P):nv (nrm k P)<=1:=by
 have e:=pF (k:=k) hP
 have p:(0:Rat)<(P:Rat):=by have:=Nh.mpr hP;simpa using this
 have q:(k:Rat)<=(P:Rat):=QD.mpr h
 refine SM.mp λz=>?_
 have:=(OV p).mpr z
 grind
theorem pz{k P c:Int}(hP:0<P)(h:c*P<=k):(c:Rat)<=nv (nrm k P):=by
 have e:=pF (k:=k) hP
 have p:(0:Rat)<(P:Rat):=by have:=Nh.mpr hP;simpa using this
 have q:((c*P:Int):Rat)<=(k:Rat):=QD.mpr h
 rw[PQ] at q
 refine SM.mp λz=>?_
 have:=(OV p).mpr z
 grind
theorem Ft{l m s:Num}(hl:Ok l)(hm:Ok m)(hs:Ok s)(le:nlt m l=false)(s0:0<=nv s)(s1:nv s<=1):(!nlt (bH l (bD s (dS m l))) l&&!nlt m (bH l (bD s (dS m l))))=true:=by
 have od:=qA hm hl
 have ov:=wY hl (mY hs od)
 have e:nv (bH l (bD s (dS m l)))=nv l+nv s*(nv m-nv l):=by rw[n8 hl (mY hs od),i8 hs od,rg hm hl]
 have d:=(jr hm hl).mp le
 have p1:0<=nv s*(nv m-nv l):=OY s0 (by grind)
 have p2:0<=(1-nv s)*(nv m-nv l):=OY (by grind) (by grind)
 rw[(jr ov hl).mpr (by rw[e];grind),(jr hm ov).mpr (by rw[e];grind)]
 rfl
theorem yB{z:Sz}{f:Sf}{v:Num}{a b:Nat}(h:gK a z)(so:vN a f)(hv:NB b v)(lo:(!nlt v z.l&&!nlt z.m v)=true):0<=nv (aS z f v):=by
 simp only[LG,Ml] at lo
 have l1:=(jr hv.ok h.lb.ok).mp lo.1
 have l2:=(jr h.mb.ok hv.ok).mp lo.2
 have r:=(jr so.nb.ok tm).mp so.nn
 rw[jI] at r
 rcases so.wy with e|e|e
 ·rw[sM e];exact r
 ·rw[rY e,n8 so.nb.ok (qA hv.ok h.lb.ok),rg hv.ok h.lb.ok];grind
 ·rw[rM e,n8 so.nb.ok (qA h.mb.ok hv.ok),rg h.mb.ok hv.ok];grind
theorem vV{z:Sz}{f:Sf}{v u:Num}(hd:Ok (aS z f v))(hu:Ok u)(h1:-nv (aS z f v)<=nv u)(h2:nv u<=nv (aS z f v)):inR z f v u=true:=by
 have on:Ok NEG:=qa.ok
 have e:nv NEG = -1:=by decide +kernel
 unfold inR
 rw[(jr hu (mY hd on)).mpr (by rw[i8 hd on,e];grind),(jr hd hu).mpr h2]
 rfl
theorem E5{z:Sz}{f:Sf}{v s:Num}(hd:Ok (aS z f v))(hs:Ok s)(d0:0<=nv (aS z f v))(s0:-1<=nv s)(s1:nv s<=1):inR z f v (bD s (aS z f v))=true:=by
 have p1:0<=(1+nv s)*nv (aS z f v):=OY (by grind) d0
 have p2:0<=(1-nv s)*nv (aS z f v):=OY (by grind) d0
 exact vV hd (mY hs hd) (by rw[i8 hs hd];grind) (by rw[i8 hs hd];grind)
theorem K4{a b c d e x5 x6 x7 x8:Sl}(f:Sf)(h6:np x6=true)(h7:np x7=true)(h8:np x8=true):G3 6 7 8 (sfA f) [a,b,c,d,e,x5,x6,x7,x8]=some [a,b,c,d,e,x5,.fr (.str f.s),.fr (nm f.r),.fr (.str f.w)]:=by
 cases x6<;>first|(cases h6;done)|(cases x7<;>first|(cases h7;done)|(cases x8<;>first|(cases h8;done)|rfl))
theorem CD{p:List Mk}{x:Str}(h:x∈p.map (·.1)):eP (p.map mkK) (.inr x)=some (nm (gN p x)):=fT p x (by obtain⟨q,hq,e⟩:=Mn.mp h;exact⟨q,hq,e⟩)
theorem wb{zs:List Sz}{n:Int}{o:LO}(w:Wl n o)(hn:n<2^38)(h:du 121 zs):∃p o',cg eG o [.lst (zs.map szT)] (.lv (.dic (p.map mkK))) o'/\Mkg 620 zs p/\Wl (n+4000) o':=by
 have hln:=h.len
 suffices ∃s o',cg eG o [.lst (zs.map szT)] s o'/\∃p,s=.lv (.dic (p.map mkK))/\Mkg 620 zs p/\Wl (n+4000) o' by
  obtain⟨s,o',k,p,rfl,m,w'⟩:=this
  exact⟨p,o',k,m,w'⟩
 refine cg.of (Wp.df (Wp.st rfl ?_))
 refine Wp.sq (Wp.fr (as:=zs.map szT) (λi ρ=>∃(o':LO) (p:List Mk) (x3 x4 x5 x6 x7 x8:Sl),ρ=[.pv o',.fr (.lst (zs.map szT)),.lv (.dic (p.map mkK)),x3,x4,x5,x6,x7,x8]/\Mkg 620 (zs.take i) p/\Wl (n+60*i) o'/\np x3=true/\np x4=true/\np x5=true/\np x6=true/\np x7=true/\np x8=true) rfl ⟨o,[],_,_,_,_,_,_,rfl,⟨rfl,(λq hq=>by cases hq),λz hz=>(by cases hz)⟩,w.mono (by omega),rfl,rfl,rfl,rfl,rfl,rfl⟩ ?_ ?_)
 ·rintro i a ρ ha ⟨o',p,x3,x4,x5,x6,x7,x8,rfl,mk,wz,h3,h4,h5,h6,h7,h8⟩
  rw[LZ] at ha
  cases ez:zs[i]? with
  | none=>rw[ez] at ha;cases ha
  | some z =>
   rw[ez] at ha
   cases ha
   have sz:=h.sz z (Mc ez)
   have hi:=(LI.mp ez).1
   obtain⟨r1,o1,c1,a1,b1,w1⟩:=tk 6 wz (by omega) (by decide) (by decide)
   obtain⟨P,hP⟩:∃P:Int,P=1+r1:=⟨_,rfl⟩
   obtain⟨r2,o2,c2,a2,b2,w2⟩:=tk (P+1) w1 (by omega) (by omega) (by omega)
   have nP:∀k:Int,k.natAbs<2^3->NB 3 (nrm k P):=λk hk=>NB.nrm (by omega) hk (show P.natAbs<2^3 by omega)
   have n2:=nP r2 (by omega)
   have cn:∀k:Int,∀ρ,cK bx [] [.fr (.int k),.fr (.int P)] ρ=some (.ok (.fr (nm (nrm k P))),ρ):=λk=>ar (jP (t:=k) (b:=P) (by omega) (show P.natAbs<2^9000 from LP (by omega:P.natAbs<2^3) (MO (by decide) (by decide))))
   have nd:NB 243 (dS z.m z.l):=by rw[<- iC];exact sz.mb.ui sz.lb.neg
   have cl:=ar (nE sz.mb sz.lb (by decide))
   have cm:=ar (u4 (n:=243) (n2.mono (by decide)) nd (by decide))
   have nx:NB 246 (bD (nrm r2 P) (dS z.m z.l)):=n2.Hs nd
   have ca:=ar (ja (n:=246) (sz.lb.mono (by decide)) nx (by decide))
   have nv:NB 368 (bH z.l (bD (nrm r2 P) (dS z.m z.l))):=sz.lb.ui nx
   have lo:=Ft sz.lb.ok sz.mb.ok n2.ok sz.le (by have:=pz (c:=0) (k:=r2) (P:=P) (by omega) (by omega);simpa using this) (oP (by omega) (by omega))
   have fr:=xh h.nd ez
   have m1:=mk.start fr (nv.mono (by decide)) lo
   have pk:=ke (p:=p) (x:=z.n) (u:=bH z.l (bD (nrm r2 P) (dS z.m z.l))) (by rw[mk.nm];exact fr)
   have lp:=mk.ln h
   refine⟨[.pv o',.fr (.lst (zs.map szT)),.lv (.dic (p.map mkK)),.fr (szT z),x4,x5,x6,x7,x8],by cases x3<;>first|(cases h3;done)|rfl,?_⟩
   generalize bH z.l (bD (nrm r2 P) (dS z.m z.l))=v at *
   generalize bD (nrm r2 P) (dS z.m z.l)=v1 at *
   generalize dS z.m z.l=v2 at *
   generalize p++[(z.n,v)]=p1 at *
   simp only[LF,LJ] at cl cm ca
   refine Wp.st (ρ1:=[.pv o1,.fr (.lst (zs.map szT)),.lv (.dic (p.map mkK)),.fr (szT z),.fr (.int P),x5,x6,x7,x8]) ?_ ?_
   ·rw[hP]
    clear c2 cn cl cm ca pk lp lo mk m1
    walk_at "evh"
   have P1:1<=P:=by omega
   have P6:P<=6:=by omega
   clear hP
   refine Wp.st (ρ1:=[.pv o2,.fr (.lst (zs.map szT)),.lv (.dic (p.map mkK)),.fr (szT z),.fr (.int P),.fr (nm (nrm r2 P)),x6,x7,x8]) ?_ ?_
   ·clear c1 cl cm ca pk lp lo mk m1
    walk_at "evh"
   refine Wp.st (ρ1:=[.pv o2,.fr (.lst (zs.map szT)),.lv (.dic (p1.map mkK)),.fr (szT z),.fr (.int P),.fr (nm (nrm r2 P)),x6,x7,x8]) ?_ ?_
   ·clear c1 c2 cn lo mk m1 sz h nd nx nv n2 nP
    unfold szT
    generalize nm v=V at *
    generalize nm v1=V1 at *
    generalize nm v2=V2 at *
    generalize nm z.l=V3 at *
    generalize nm z.m=V4 at *
    generalize nm (nrm r2 P)=V5 at *
    generalize p.map mkK=K at *
    generalize p1.map mkK=K1 at *
    walk_at "evh"
   clear c1 c2 cl cm ca pk lp
   refine Wp.fr (as:=z.f.map sfA) (λj ρ=>∃(o':LO) (p:List Mk) (x5 x6 x7 x8:Sl),ρ=[.pv o',.fr (.lst (zs.map szT)),.lv (.dic (p.map mkK)),.fr (szT z),.fr (.int P),x5,x6,x7,x8]/\Mks 620 (zs.take i) z (z.f.take j) v p/\Wl (n+60*i+2+j) o'/\np x5=true/\np x6=true/\np x7=true/\np x8=true) rfl ⟨_,_,_,_,_,_,rfl,m1,w2.mono (by omega),rfl,h6,h7,h8⟩ ?_ ?_
   ·rintro j a ρ ha ⟨o',p,x5,x6,x7,x8,rfl,mk,wz,h5,h6,h7,h8⟩
    rw[LZ] at ha
    cases ef:z.f[j]? with
    | none=>rw[ef] at ha;cases ha
    | some f =>
     rw[ef] at ha
     cases ha
     have so:=sz.fs f (Mc ef)
     have hj:=(LI.mp ef).1
     have hl:=sz.ln
     obtain⟨r1,o1,c1,a3,b3,w1⟩:=tk (2*P+1) wz (by omega) (by omega) (by omega)
     have n3:=nP (r1-P) (by omega)
     have nd:=m8 sz so nv
     have od:=nd.ok
     have cr:=ar (m6 (b:=368) (sz.lb.mono (by decide)) (sz.mb.mono (by decide)) (so.nb.mono (by decide)) nv so.wy (by decide) ef sz.nd)
     have cm:=ar (u4 (n:=612) (n3.mono (by decide)) (nd.mono (by decide)) (by decide))
     have ir:=E5 od n3.ok (yB sz so nv lo) (by have:=pz (c:=-1) (k:=r1-P) (P:=P) (by omega) (by omega);simpa using this) (oP (by omega) (by omega))
     have fr:=xl h.nd ez ef
     have m2:=mk.step fr ((n3.Hs nd).mono (by decide)) ir
     have pk:=ke (p:=p) (x:=f.s) (u:=bD (nrm (r1-P) P) (aS z f v)) (by rw[mk.nm];exact fr)
     have lp:=mk.ln h ez
     have gt:=CD (p:=p) (x:=z.n) (by rw[mk.nm];simp)
     rw[mk.gv] at gt
     have et:z.f.take j++[f]=z.f.take (j+1):=by rw[MD,ef];rfl
     rw[et] at m2
     refine⟨_,K4 f h6 h7 h8,?_⟩
     simp only[LF,LJ] at cr cm
     generalize bD (nrm (r1-P) P) (aS z f v)=u at *
     generalize p++[(f.s,u)]=p1 at *
     have f1:fits 20000 2=true:=aP (m:=64) (show (2:Int).natAbs<2^64 by decide) (by decide)
     have f2:fits 20000 P=true:=aP (m:=64) (show P.natAbs<2^64 by omega) (by decide)
     refine Wp.st (ρ1:=[.pv o1,.fr (.lst (zs.map szT)),.lv (.dic (p.map mkK)),.fr (szT z),.fr (.int P),.fr (nm (nrm (r1-P) P)),.fr (.str f.s),.fr (nm f.r),.fr (.str f.w)]) ?_ ?_
     ·have:=cn (r1-P)
      clear cr cm pk lp gt ir m2 mk m1 n3 nd nv so sz et cn h lo n2 nP
      walk_at "evh"
     refine Wp.en (f:=.nx) (ρ1:=[.pv o1,.fr (.lst (zs.map szT)),.lv (.dic (p1.map mkK)),.fr (szT z),.fr (.int P),.fr (nm (nrm (r1-P) P)),.fr (.str f.s),.fr (nm f.r),.fr (.str f.w)]) ?_ ⟨.inl rfl,_,_,_,_,_,_,rfl,m2,w1.mono (by omega),rfl,rfl,rfl,rfl⟩
     clear c1 ir m2 mk m1 n3 nd nv so sz et cn f1 f2 h lo n2 nP
     unfold szT at cr ⊢
     generalize nm v=V at *
     generalize nm u=U at *
     generalize nm (aS z f v)=V1 at *
     generalize nm (nrm (r1-P) P)=V2 at *
     generalize nm z.l=V3 at *
     generalize nm z.m=V4 at *
     generalize p.map mkK=K at *
     generalize p1.map mkK=K1 at *
     walk_at "evh"
   ·rintro ρ' ⟨o',p,x5,x6,x7,x8,rfl,mk,wz,h5,h6,h7,h8⟩
    rw[LH,M4] at mk
    rw[LH] at wz
    have hl:=sz.ln
    have m2:=mk.fin
    have et:zs.take i++[z]=zs.take (i+1):=by rw[MD,ez];rfl
    rw[et] at m2
    exact⟨.inl rfl,_,_,_,_,_,_,_,_,rfl,m2,wz.mono (by omega),rfl,rfl,h5,h6,h7,h8⟩
 ·rintro ρ' ⟨o',p,x3,x4,x5,x6,x7,x8,rfl,mk,wz,_⟩
  rw[LH,M4] at mk
  rw[LH] at wz
  exact⟨rfl,Wp.en (f:=.rt (.lv (.dic (p.map mkK)))) rfl ⟨_,o',_,rfl,rfl,p,rfl,mk,wz.mono (by omega)⟩⟩
theorem J2{a b c d x4 x5 x6 e:Sl}(f:Sf)(h4:np x4=true)(h5:np x5=true)(h6:np x6=true):G3 4 5 6 (sfA f) [a,b,c,d,x4,x5,x6,e]=some [a,b,c,d,.fr (.str f.s),.fr (nm f.r),.fr (.str f.w),e]:=by
 cases x4<;>first|(cases h4;done)|(cases x5<;>first|(cases h5;done)|(cases x6<;>first|(cases h6;done)|rfl))
theorem FQ{d:Num}{r:Int}{b:Nat}(h:NB b d)(h0:0<=nv d)(r0:0<=r)(r3:r<3):∃u,atI [A.tup [.int (0-d.1),.int d.2],.tup [.int d.1,.int d.2],.tup [.int 0,.int 1]] r=some (nm u)/\NB (b+1) u /\ -nv d<=nv u/\nv u<=nv d:=by
 have on:Ok NEG:=qa.ok
 have e:nv NEG = -1:=by decide +kernel
 rcases(show r=0\/r=1\/r=2 by omega) with rfl|rfl|rfl
 ·refine⟨bD d NEG,?_,(rO h).mono (by omega),?_,?_⟩
  ·rw[show bD d NEG=(-d.1,d.2) from j5 h.ok,RY];rfl
  ·rw[i8 h.ok on,e];grind
  ·rw[i8 h.ok on,e];grind
 ·exact⟨d,rfl,h.mono (by omega),by grind,by grind⟩
 ·exact⟨(0,1),rfl,NB.zero,by rw[jI];grind,by rw[jI];exact h0⟩
theorem Ji{zs:List Sz}{n:Int}{o:LO}(w:Wl n o)(hn:n<2^38)(h:du 121 zs):∃p o',cg gY o [.lst (zs.map szT)] (.lv (.dic (p.map mkK))) o'/\Mkg 620 zs p/\Wl (n+4000) o':=by
 have hln:=h.len
 suffices ∃s o',cg gY o [.lst (zs.map szT)] s o'/\∃p,s=.lv (.dic (p.map mkK))/\Mkg 620 zs p/\Wl (n+4000) o' by
  obtain⟨s,o',k,p,rfl,m,w'⟩:=this
  exact⟨p,o',k,m,w'⟩
 refine cg.of (Wp.df (Wp.st rfl ?_))
 refine Wp.sq (Wp.fr (as:=zs.map szT) (λi ρ=>∃(o':LO) (p:List Mk) (x3 x4 x5 x6 x7:Sl),ρ=[.pv o',.fr (.lst (zs.map szT)),.lv (.dic (p.map mkK)),x3,x4,x5,x6,x7]/\Mkg 620 (zs.take i) p/\Wl (n+60*i) o'/\np x3=true/\np x4=true/\np x5=true/\np x6=true/\np x7=true) rfl ⟨o,[],_,_,_,_,_,rfl,⟨rfl,(λq hq=>by cases hq),λz hz=>(by cases hz)⟩,w.mono (by omega),rfl,rfl,rfl,rfl,rfl⟩ ?_ ?_)
 ·rintro i a ρ ha ⟨o',p,x3,x4,x5,x6,x7,rfl,mk,wz,h3,h4,h5,h6,h7⟩
  rw[LZ] at ha
  cases ez:zs[i]? with
  | none=>rw[ez] at ha;cases ha
  | some z =>
   rw[ez] at ha
   cases ha
   have sz:=h.sz z (Mc ez)
   have hi:=(LI.mp ez).1
   obtain⟨r1,o1,c1,a1,b1,w1⟩:=tk 2 wz (by omega) (by decide) (by decide)
   obtain⟨v,hv,nv,lo⟩:∃v,atI [A.str z.n,nm z.l,nm z.m,.tup (z.f.map sfA)] (1+r1)=some (nm v)/\NB 121 v/\(!nlt v z.l&&!nlt z.m v)=true:=by
    have q:∀x:Num,nlt x x=false:=λx=>decide_eq_false (by omega)
    rcases(show r1=0\/r1=1 by omega) with rfl|rfl
    ·exact⟨z.l,rfl,sz.lb,by rw[q,sz.le];rfl⟩
    ·exact⟨z.m,rfl,sz.mb,by rw[q,sz.le];rfl⟩
   have fr:=xh h.nd ez
   have m1:=mk.start fr (nv.mono (by decide)) lo
   have pk:=ke (p:=p) (x:=z.n) (u:=v) (by rw[mk.nm];exact fr)
   have lp:=mk.ln h
   refine⟨[.pv o',.fr (.lst (zs.map szT)),.lv (.dic (p.map mkK)),.fr (szT z),x4,x5,x6,x7],by cases x3<;>first|(cases h3;done)|rfl,?_⟩
   generalize p++[(z.n,v)]=p1 at *
   refine Wp.st (ρ1:=[.pv o1,.fr (.lst (zs.map szT)),.lv (.dic (p1.map mkK)),.fr (szT z),x4,x5,x6,x7]) ?_ ?_
   ·clear lo mk m1 sz h nv
    unfold szT
    generalize nm v=V at *
    generalize p.map mkK=K at *
    generalize p1.map mkK=K1 at *
    walk_at "evh"
   clear c1 pk lp hv
   refine Wp.fr (as:=z.f.map sfA) (λj ρ=>∃(o':LO) (p:List Mk) (x4 x5 x6 x7:Sl),ρ=[.pv o',.fr (.lst (zs.map szT)),.lv (.dic (p.map mkK)),.fr (szT z),x4,x5,x6,x7]/\Mks 620 (zs.take i) z (z.f.take j) v p/\Wl (n+60*i+1+j) o'/\np x4=true/\np x5=true/\np x6=true/\np x7=true) rfl ⟨_,_,_,_,_,_,rfl,m1,w1.mono (by omega),h4,h5,h6,h7⟩ ?_ ?_
   ·rintro j a ρ ha ⟨o',p,x4,x5,x6,x7,rfl,mk,wz,h4,h5,h6,h7⟩
    rw[LZ] at ha
    cases ef:z.f[j]? with
    | none=>rw[ef] at ha;cases ha
    | some f =>
     rw[ef] at ha
     cases ha
     have so:=sz.fs f (Mc ef)
     have hj:=(LI.mp ef).1
     have hl:=sz.ln
     obtain⟨r1,o1,c1,a3,b3,w1⟩:=tk 3 wz (by omega) (by decide) (by decide)
     have nd:=m8 sz so nv
     have cr:=ar (m6 sz.lb sz.mb so.nb nv so.wy (by decide) ef sz.nd)
     obtain⟨u,hu,nu,u1,u2⟩:=FQ nd (yB sz so nv lo) a3 b3
     have fr:=xl h.nd ez ef
     have m2:=mk.step fr (nu.mono (by decide)) (vV nd.ok nu.ok u1 u2)
     have pk:=ke (p:=p) (x:=f.s) (u:=u) (by rw[mk.nm];exact fr)
     have lp:=mk.ln h ez
     have gt:=CD (p:=p) (x:=z.n) (by rw[mk.nm];simp)
     rw[mk.gv] at gt
     have et:z.f.take j++[f]=z.f.take (j+1):=by rw[MD,ef];rfl
     rw[et] at m2
     refine⟨_,J2 f h4 h5 h6,?_⟩
     simp only[LF,LJ] at cr
     generalize p++[(f.s,u)]=p1 at *
     have l3:(0+1+1+1<=1000)=True:=by simp
     have l2:(0+1+1<=1000)=True:=by simp
     refine Wp.st (ρ1:=[.pv o',.fr (.lst (zs.map szT)),.lv (.dic (p.map mkK)),.fr (szT z),.fr (.str f.s),.fr (nm f.r),.fr (.str f.w),.fr (nm (aS z f v))]) ?_ ?_
     ·clear c1 pk m2 mk m1 nd nv so sz et h lo u1 u2 nu hu
      unfold szT at cr ⊢
      generalize nm v=V at *
      generalize nm (aS z f v)=V1 at *
      generalize nm z.l=V3 at *
      generalize nm z.m=V4 at *
      generalize p.map mkK=K at *
      walk_at "evh"
     refine Wp.en (f:=.nx) (ρ1:=[.pv o1,.fr (.lst (zs.map szT)),.lv (.dic (p1.map mkK)),.fr (szT z),.fr (.str f.s),.fr (nm f.r),.fr (.str f.w),.fr (nm (aS z f v))]) ?_ ⟨.inl rfl,_,_,_,_,_,_,rfl,m2,w1.mono (by omega),rfl,rfl,rfl,rfl⟩
     clear cr gt m2 mk m1 nd nv so sz et h lo u1 u2 nu
     rw[show nm (aS z f v)=.tup [.int (aS z f v).1,.int (aS z f v).2] from rfl]
     generalize (aS z f v).1=d1 at *
     generalize (aS z f v).2=d2 at *
     generalize nm u=U at *
     generalize szT z=Z at *
     generalize p.map mkK=K at *
     generalize p1.map mkK=K1 at *
     walk_at "evh"
   ·rintro ρ' ⟨o',p,x4,x5,x6,x7,rfl,mk,wz,h4,h5,h6,h7⟩
    rw[LH,M4] at mk
    rw[LH] at wz
    have hl:=sz.ln
    have m2:=mk.fin
    have et:zs.take i++[z]=zs.take (i+1):=by rw[MD,ez];rfl
    rw[et] at m2
    exact⟨.inl rfl,_,_,_,_,_,_,_,rfl,m2,wz.mono (by omega),rfl,h4,h5,h6,h7⟩
 ·rintro ρ' ⟨o',p,x3,x4,x5,x6,x7,rfl,mk,wz,_⟩
  rw[LH,M4] at mk
  rw[LH] at wz
  exact⟨rfl,Wp.en (f:=.rt (.lv (.dic (p.map mkK)))) rfl ⟨_,o',_,rfl,rfl,p,rfl,mk,wz.mono (by omega)⟩⟩
structure MkW (b k:Nat) (p:List Mk):Prop where
 nd:(p.map (·.1)).Nodup
 ln:p.length<=k
 nb:∀q∈p,NB b q.2
theorem MkW.gb{b k:Nat}{p:List Mk}(h:MkW (b+1) k p)(x:Str):NB (b+1) (gN p x):=by
 unfold gN
 cases e:p.find? λq=>decide (q.1=x) with
 | none=>exact NB.zero
 | some q=>exact h.nb q (List.mem_of_find?_eq_some e)
theorem MkW.put{b k:Nat}{p:List Mk}{x:Str}{u:Num}(h:MkW b k p)(hu:NB b u):∃p',kE (p.map mkK) (.inr x) (nm u)=p'.map mkK/\MkW b (k+1) p':=by
 by_cases hx:x∈p.map (·.1)
 ·refine⟨p.map λq=>if q.1=x then (q.1,u) else q,?_,?_,by rw[LH];have:=h.ln;omega,λq hq=>?_⟩
  ·obtain⟨q,hq,e⟩:=Mn.mp hx
   unfold kE
   rw[if_pos (MV.mpr ⟨mkK q,Mt hq,decide_eq_true (by show (Mu q.1:Key)=_;rw[e])⟩),MM,MM]
   refine Ny λr _=>?_
   show (if (mkK r).1=.inr x then ((mkK r).1,nm u) else mkK r)=mkK (if r.1=x then (r.1,u) else r)
   by_cases c:r.1=x
   ·rw[if_pos (by show (Mu r.1:Key)=_;rw[c]),if_pos c];rfl
   ·rw[if_neg (show ¬(mkK r).1=.inr x from λz=>c (NK z)),if_neg c]
  ·have:(p.map λq=>if q.1=x then (q.1,u) else q).map (·.1)=p.map (·.1):=by
    rw[MM]
    refine Ny λr _=>?_
    show (if r.1=x then (r.1,u) else r).1=r.1
    split<;>rfl
   rw[this];exact h.nd
  ·obtain⟨r,hr,rfl⟩:=Mn.mp hq
   split
   ·exact hu
   ·exact h.nb r hr
 ·refine⟨p++[(x,u)],ke hx,?_,by simp;exact h.ln,qK h.nb hu⟩
  rw[Mh,L6]
  refine⟨h.nd,by simp,λa ha b hb e=>hx ?_⟩
  have:b=x:=by simpa using hb
  rw[<- this,<- e];exact ha
theorem MkW.pop{b k:Nat}{p:List Mk}(x:Str)(h:MkW b k p):∃p',((p.map mkK).filter λkv=>decide (kv.1≠.inr x))=p'.map mkK/\MkW b k p':=by
 refine⟨p.filter λq=>decide (q.1≠x),?_,Py (List.filter_sublist.map _) h.nd,Mf (Qu _ _) h.ln,λq hq=>h.nb q (OE.mp hq).1⟩
 rw[List.filter_map]
 congr 2
 funext q
 show decide (¬(Mu q.1:Key)=.inr x)=_
 exact decide_eq_decide.mpr ⟨λz e=>z (by rw[e]),λz e=>z (NK e)⟩
theorem Cy{p:List Mk}{r:Int}(r0:0<=r)(h:r<p.length):∃q∈p,atI ((bb (p.map (·.1))).map A.str) r=some (.str q.1):=by
 obtain⟨j,rfl⟩:∃j:Nat,r=j:=⟨r.toNat,by omega⟩
 have hr:j<(bb (p.map (·.1))).length:=by rw[(bp _).length_eq,LH];omega
 obtain⟨m,hm,e⟩:=Mn.mp ((bp _).mem_iff.mp (Ov hr))
 exact⟨m,hm,jB (by rw[LZ,L8 hr,<- e];rfl)⟩
theorem zS{d t r:Int}(hd:0<d)(bd:L2.Bd 620 d)(t0:0<=t)(t1:t<10000000)(r0:0<=r)(r5:r<5):∃u,atI [A.tup [.int 1,.int d],.tup [.int 1,.int 1],.tup [.int 1,.int 7],.tup [.int t,.int 1],.tup [.int 1,.int 2]] r=some (nm u)/\NB 620 u:=by
 have q:∀a b:Int,0<b->ME a b=1->a.natAbs<2^64->L2.Bd 620 b->NB 620 (a,b):=λa b h1 h2 h3 h4=>⟨⟨h1,h2⟩,L2.Bd.mono (m:=64) h3 (by decide),h4⟩
 have s:∀b:Int,b.natAbs<2^64->L2.Bd 620 b:=λb h=>L2.Bd.mono (m:=64) h (by decide)
 rcases(show r=0\/r=1\/r=2\/r=3\/r=4 by omega) with rfl|rfl|rfl|rfl|rfl
 ·exact⟨(1,d),rfl,q _ _ hd (Int.one_gcd) (by decide) bd⟩
 ·exact⟨(1,1),rfl,q _ _ (by decide) (by decide) (by decide) (s _ (by decide))⟩
 ·exact⟨(1,7),rfl,q _ _ (by decide) (by decide) (by decide) (s _ (by decide))⟩
 ·exact⟨(t,1),rfl,q _ _ (by decide) (Int.gcd_one) (by omega) (s _ (by decide))⟩
 ·exact⟨(1,2),rfl,q _ _ (by decide) (by decide) (by decide) (s _ (by decide))⟩
theorem EU{u:Num}{r:Int}{b:Nat}(h:NB b u)(r0:0<=r)(r2:r<2):∃y,atI [A.tup [.int u.1,.int u.2],.tup [.int (0-u.1),.int u.2]] r=some (nm y)/\NB b y:=by
 rcases(show r=0\/r=1 by omega) with rfl|rfl
 ·exact⟨u,rfl,h⟩
 ·exact⟨(-u.1,u.2),by rw[RY];rfl,h.neg⟩
noncomputable abbrev BtS(o:LO)(p:List Mk)(x2 x4 x5 x6:Sl):List Sl:=[.pv o,.fr (mkD p),x2,.lv (.lst ((bb (p.map (·.1))).map A.str)),x4,x5,x6]
noncomputable abbrev BtQ(n:Int):Fl->List Sl->Prop:=λg ρ=>∃s o' ρ1,g=.rt s/\ρ=.pv o'::ρ1/\∃p',s=.lv (.dic (p'.map mkK))/\MkW 1250 14 p'/\Wl (n+8) o'
theorem kg{n:Int}{o:LO}{p:List Mk}{x1 x3 x4 x5 x6:Sl}(h:MkW 1250 14 p)(w:Wl (n+8) o):Wp (aH (ae 2)) [.pv o,x1,.lv (.dic (p.map mkK)),x3,x4,x5,x6] (BtQ n) :=
 Wp.en (f:=.rt (.lv (.dic (p.map mkK)))) rfl ⟨_,_,_,rfl,rfl,p,rfl,h,w⟩
theorem MkW.mono{b k b' k':Nat}{p:List Mk}(h:MkW b k p)(hb:b<=b')(hk:k<=k'):MkW b' k' p:=⟨h.nd,Mf h.ln hk,λq hq=>(h.nb q hq).mono hb⟩
theorem Gr{p:List Mk}{n:Int}{o:LO}(w:Wl n o)(hn:n<2^38)(h:MkW 620 12 p):∃p' o',cg d6 o [mkD p] (.lv (.dic (p'.map mkK))) o'/\MkW 1250 14 p'/\Wl (n+8) o':=by
 suffices ∃s o',cg d6 o [mkD p] s o'/\∃p',s=.lv (.dic (p'.map mkK))/\MkW 1250 14 p'/\Wl (n+8) o' by
  obtain⟨s,o',k,p',rfl,m,w'⟩:=this
  exact⟨p',o',k,m,w'⟩
 have h12:=h.ln
 have hs1:br (mkD p)=none:=rfl
 have hs2:=Cj (p:=p) (by omega)
 have lp:((p.map mkK).length<=100000)=True:=by simp only[eq_iff_iff,iff_true,LH];omega
 refine cg.of (Wp.df (Wp.st (ρ1:=[.pv o,.fr (mkD p),.lv (.dic (p.map mkK)),.un,.un,.un,.un]) rfl ?_))
 refine Wp.st (ρ1:=BtS o p (.lv (.dic (p.map mkK))) .un .un .un) ?_ ?_
 ·clear lp h
  unfold BtS
  generalize (bb (p.map (·.1))).map A.str=L at *
  generalize mkD p=D at *
  walk_at "evh"
 have hl:(((bb (p.map (·.1))).map A.str).length:Int)=p.length:=by rw[LH,(bp _).length_eq,LH]
 have he:=kR (bb (p.map (·.1)))
 have e0:decide (bb (p.map (·.1))=[])=decide (p=[]):=decide_eq_decide.mpr ⟨λe=>by
  have:=(bp (p.map (·.1))).length_eq
  rw[e,LH] at this
  exact Ow.mp this.symm,λe=>by subst e;exact Ow.mp (bp []).length_eq⟩
 rw[e0] at he
 obtain⟨r1,o1,c1,a1,b1,w1⟩:=tk 8 w (by omega) (by decide) (by decide)
 obtain⟨t,o2,tst,w2,tf⟩:∃t o2,mOr (ah (mOp fEq (ae 3) (bV ag))) (ah (mOp fEq (af ao [] (aa (ae 0) (aa (mC (.int 8)) ag))) (mC (.int 1)))) (BtS o p (.lv (.dic (p.map mkK))) .un .un .un)=some (.ok t,BtS o2 p (.lv (.dic (p.map mkK))) .un .un .un)/\Wl (n+1) o2/\(t=false->0<p.length):=by
  by_cases hp:p=[]
  ·refine⟨true,o,?_,w.mono (by omega),λz=>by cases z⟩
   rw[decide_eq_true hp] at he
   clear c1 hp e0 lp h
   unfold BtS
   generalize (bb (p.map (·.1))).map A.str=L at *
   generalize mkD p=D at *
   generalize p.map mkK=K at *
   walk_at "evh"
  ·refine⟨decide (r1=1),o1,?_,w1,λ_=>List.length_pos_iff.mpr hp⟩
   rw[decide_eq_false hp] at he
   clear hp e0 lp h
   unfold BtS
   generalize (bb (p.map (·.1))).map A.str=L at *
   generalize mkD p=D at *
   generalize p.map mkK=K at *
   walk_at "evh"
 clear c1 w1 he e0 hs1 hs2
 cases t with
 | true =>
  refine Wp.sr (Wp.ft tst ?_)
  clear tst
  obtain⟨r,o3,c3,a3,b3,w3⟩:=tk 15 w2 (by omega) (by decide) (by decide)
  have hc:(1<=1+r/\1+r<=1000/\("zz" : Str).length<=1000)=True:=by simp only[eq_iff_iff,iff_true];exact⟨by omega,by omega,by decide +kernel⟩
  obtain⟨p',e1,m1⟩:=h.put (x:=Q9 "zz" (1+r)) (u:=(0,1)) NB.zero
  rw[show nm (0,1)=.tup [.int 0,.int 1] from rfl] at e1
  refine Wp.mono (Q:=BtQ n) ?_ (by rintro f ρ ⟨s,o',ρ1,rfl,rfl,q⟩;exact⟨s,o',ρ1,rfl,rfl,q⟩)
  refine Wp.st (ρ1:=BtS o3 p (.lv (.dic (p'.map mkK))) .un .un .un) ?_ (kg (m1.mono (by decide) (by decide)) (w3.mono (by omega)))
  clear h m1 hl
  unfold BtS
  generalize (bb (p.map (·.1))).map A.str=L at *
  generalize mkD p=D at *
  generalize p.map mkK=K at *
  generalize p'.map mkK=K' at *
  have l2:(0+1+1<=1000)=True:=by simp
  walk_at "evh"
 | false =>
  refine Wp.sq (Wp.ff tst (Wp.en (f:=.nx) rfl ⟨rfl,?_⟩))
  clear tst
  have p0:=tf rfl
  obtain⟨r3,o3,c3,a3,b3,w3⟩:=tk (p.length:Int) w2 (by omega) (by omega) (by omega)
  obtain⟨q,hq,eq⟩:=Cy a3 b3
  obtain⟨r4,o4,c4,a4,b4,w4⟩:=tk 8 w3 (by omega) (by decide) (by decide)
  have gq:=fT p q.1 ⟨q,hq,rfl⟩
  have lq:((p.map mkK).length<=100000)=True:=lp
  refine Wp.mono (Q:=BtQ n) ?_ (by rintro f ρ ⟨s,o',ρ1,rfl,rfl,q⟩;exact⟨s,o',ρ1,rfl,rfl,q⟩)
  refine Wp.st (ρ1:=BtS o3 p (.lv (.dic (p.map mkK))) (.fr (.str q.1)) .un .un) ?_ ?_
  ·clear h gq c4
   unfold BtS
   generalize (bb (p.map (·.1))).map A.str=L at *
   generalize mkD p=D at *
   generalize p.map mkK=K at *
   generalize (p.length:Int)=k at *
   walk_at "evh"
  refine Wp.st (ρ1:=BtS o4 p (.lv (.dic (p.map mkK))) (.fr (.str q.1)) (.fr (.int r4)) .un) ?_ ?_
  ·clear h gq c3
   unfold BtS
   generalize (bb (p.map (·.1))).map A.str=L at *
   generalize mkD p=D at *
   generalize p.map mkK=K at *
   walk_at "evh"
  clear c3 c4
  rcases(show r4=0\/r4=1\/r4=2\/3<=r4 by omega) with rfl|rfl|rfl|h3
  ·obtain⟨p',e1,m1⟩:=h.pop q.1
   refine Wp.st (ρ1:=BtS o4 p (.lv (.dic (p'.map mkK))) (.fr (.str q.1)) (.fr (.int 0)) .un) ?_ (kg (m1.mono (by decide) (by decide)) (w4.mono (by omega)))
   clear h m1 hl eq
   unfold BtS
   generalize (bb (p.map (·.1))).map A.str=L at *
   generalize mkD p=D at *
   generalize p.map mkK=K at *
   generalize p'.map mkK=K' at *
   walk_at "evh"
  ·obtain⟨p1,e1,m1⟩:=h.pop q.1
   obtain⟨r,o5,c5,a5,b5,w5⟩:=tk 30 w4 (by omega) (by decide) (by decide)
   have hc:(1<=1+r/\1+r<=1000/\("z" : Str).length<=1000)=True:=by simp only[eq_iff_iff,iff_true];exact⟨by omega,by omega,by decide +kernel⟩
   obtain⟨p',e2,m2⟩:=m1.put (x:=Q9 "z" (1+r)) (u:=gN p q.1) (MkW.gb (b:=619) h _)
   have l1:((p1.map mkK).length<=100000)=True:=by simp only[eq_iff_iff,iff_true,LH];have:=m1.ln;omega
   have n1:decide ((1:Int)=0)=false:=by decide
   refine Wp.st (ρ1:=BtS o5 p (.lv (.dic (p'.map mkK))) (.fr (.str q.1)) (.fr (.int 1)) .un) ?_ (kg (m2.mono (by decide) (by decide)) (w5.mono (by omega)))
   clear h m1 hl eq m2
   unfold BtS
   generalize (bb (p.map (·.1))).map A.str=L at *
   generalize mkD p=D at *
   generalize p.map mkK=K at *
   generalize p1.map mkK=K1 at *
   generalize p'.map mkK=K' at *
   walk_at "evh"
  ·obtain⟨r,o5,c5,a5,b5,w5⟩:=tk (p.length:Int) w4 (by omega) (by omega) (by omega)
   obtain⟨q2,hq2,eq2⟩:=Cy a5 b5
   have gq2:=fT p q2.1 ⟨q2,hq2,rfl⟩
   obtain⟨p',e2,m2⟩:=h.put (x:=q.1) (u:=gN p q2.1) (MkW.gb (b:=619) h _)
   have n1:decide ((2:Int)=0)=false:=by decide
   have n2:decide ((2:Int)=1)=false:=by decide
   refine Wp.st (ρ1:=BtS o5 p (.lv (.dic (p'.map mkK))) (.fr (.str q.1)) (.fr (.int 2)) .un) ?_ (kg (m2.mono (by decide) (by decide)) (w5.mono (by omega)))
   clear h eq m2
   unfold BtS mkD
   generalize (bb (p.map (·.1))).map A.str=L at *
   generalize p.map mkK=K at *
   generalize p'.map mkK=K' at *
   generalize (p.length:Int)=k at *
   generalize nm (gN p q2.1)=V at *
   walk_at "evh"
  ·have ng:=MkW.gb (b:=619) h q.1
   obtain⟨r5,o5,c5,a5,b5,w5⟩:=tk 10000000 w4 (by omega) (by decide) (by decide)
   obtain⟨r6,o6,c6,a6,b6,w6⟩:=tk 2 w5 (by omega) (by decide) (by decide)
   obtain⟨u,hu,nu⟩:=zS (d:=(gN p q.1).2) (t:=r5) (r:=r4-3) ng.ok.1 ng.b2 a5 b5 (by omega) (by omega)
   obtain⟨y,hy,ny⟩:=EU nu a6 b6
   have ca:=ar (ja ng ny (by decide))
   obtain⟨p',e2,m2⟩:=(h.mono (b':=1250) (k':=12) (by decide) (by decide)).put (x:=q.1) (u:=bH (gN p q.1) y) ((ng.add ny).mono (by decide))
   have n0:decide (r4=0)=false:=decide_eq_false (by omega)
   have n1:decide (r4=1)=false:=decide_eq_false (by omega)
   have n2:decide (r4=2)=false:=decide_eq_false (by omega)
   have p7:((0:Int)<=7/\(7:Int)<=1000000/\(10:Int).natAbs<2^64)=True:=by simp
   have q7:(10:Int)^(7:Int).toNat=10000000:=by decide
   have l2:(0+1+1<=1000)=True:=by simp
   have l5:(0+1+1+1+1+1<=1000)=True:=by simp
   have e11:(0:Int)-u.1=0-u.1:=rfl
   simp only[LF,LJ] at ca
   refine Wp.st (ρ1:=BtS o6 p (.lv (.dic (p'.map mkK))) (.fr (.str q.1)) (.fr (.int r4)) (.fr (nm u))) ?_ (kg (m2.mono (by decide) (by decide)) (w6.mono (by omega)))
   clear h eq m2 nu ny ng hl e11
   unfold BtS mkD
   rw[show nm (gN p q.1)=.tup [.int (gN p q.1).1,.int (gN p q.1).2] from rfl] at gq ca
   generalize (gN p q.1).1=g1 at *
   generalize (gN p q.1).2=g2 at *
   rw[show nm u=.tup [.int u.1,.int u.2] from rfl] at hu ⊢
   generalize u.1=u1 at *
   generalize u.2=u2 at *
   generalize nm y=Y at *
   generalize nm (bH (gN p q.1) y)=W at *
   generalize (bb (p.map (·.1))).map A.str=L at *
   generalize p.map mkK=K at *
   generalize p'.map mkK=K' at *
   walk_at "evh"
theorem cw1{f:Ms}{as:List A}{o o':LO}{r:Rr}{s:Sl}(h:cg f o as s o')(hr:jy s=some r):∀a ρ,cK f [] (.rf 1::as.map Rr.fr) (a::.lv o::ρ)=some (.ok r,a::.lv o'::ρ):=λa ρ=>m9 (i:=1) h hr rfl
theorem mf{K:List (Key×A)}:∀{L:List (Key×A)},(∀kv∈L,eP K kv.1=some kv.2/\eqA kv.2 kv.2=some true)->jl K L=some true
 | [],_=>rfl
 | (y,a)::L,h=>by
  unfold jl
  obtain⟨h1,h2⟩:=h (y,a) LW
  rw[h1]
  dsimp only
  rw[h2,mf λkv hkv=>h kv (LX _ hkv)]
  rfl
theorem xm:∀{p:List Mk}{q:Mk},(p.map (·.1)).Nodup->q∈p->gN p q.1=q.2
 | r::p,q,nd,hq=>by
  unfold gN
  rw[MI]
  by_cases e:r.1=q.1
  ·rw[decide_eq_true e]
   rcases Me.mp hq with rfl|hq
   ·rfl
   ·exact absurd (show r.1∈p.map (·.1) by rw[e];exact Mt hq) (Mp.mp nd).1
  ·rw[decide_eq_false e]
   exact xm (Mp.mp nd).2 ((Me.mp hq).resolve_left λz=>e (by rw[z]))
theorem A9{p:List Mk}(nd:(p.map (·.1)).Nodup):iF (mkD p) (mkD p)=some (.fr (.bl false)):=by
 unfold mkD iF Au
 dsimp only
 rw[mf λkv hkv=>?_]
 ·simp
 ·obtain⟨q,hq,rfl⟩:=Mn.mp hkv
  refine⟨?_,Ag _⟩
  have:=fT p q.1 ⟨q,hq,rfl⟩
  rw[xm nd hq] at this
  exact this
theorem Hh{zs:List Sz}{p:List Mk}(h:du 121 zs)(l:(zs.flatMap szN).length<=12)(k:Mkg 620 zs p):MkW 620 12 p:=⟨by rw[k.nm];exact h.nd,by have:=congrArg M7 k.nm;rw[LH] at this;omega,k.nb⟩
theorem BB{zs:List Sz}{p:List Mk}(h:du 121 zs)(k:Mkg 620 zs p):(!neL (p.map mkK) ((zs.flatMap szN).map Mu)&&zs.all λz=>bB z (gN p))=true:=by
 rw[jV (n9 p) (by rw[k.nm];exact h.nd),Qp,decide_eq_true (by rw[k.nm]),Pb,Mv]
 exact k.kp
theorem qz:du 121 []:=⟨(λz hz=>by cases hz),Ry,by decide⟩
theorem yk(ρ:List Sl):fF "Stock" aI [] [.fr (.tup [])] ρ=some (.ok (.nw (.obj "Stock" (stF []))),ρ):=zy (as:=[.tup []]) (ρr:=[.fr (.tup [])]) rfl ρ
theorem tk1{n:Int}{o:LO}(m:Int)(w:Wl n o)(hn:n<2^40)(m0:0<m)(m1:m<2^64):∃r o',(∀a ρ,cK ao [] [.rf 1,.fr (.int m)] (a::.lv o::ρ)=some (.ok (.fr (.int r)),a::.lv o'::ρ))/\0<=r/\r<m/\Wl (n+1) o':=by
 obtain⟨r,o',h,h1,h2,h3⟩:=qk (m:=m) w hn m0 m1
 exact⟨r,o',cw1 h rfl,h1,h2,h3⟩
theorem at8{r:Int}(h0:0<=r)(h8:r<8):∃m:Int,atI [A.int 0,.int 1,.int 2,.int 3,.int 4,.int 2,.int 3,.int 6] r=some (.int m):=by
 rcases(show r=0\/r=1\/r=2\/r=3\/r=4\/r=5\/r=6\/r=7 by omega) with rfl|rfl|rfl|rfl|rfl|rfl|rfl|rfl<;>exact⟨_,rfl⟩
section
variable{sc st:A}{o o':LO}{x0 x1 x2 x3 x4 x5 x6 x7 x8 x9 x10:Sl}
theorem Bh{X Y:List A}{F:List (Str×A)}(c:∀a ρ,cK dg [] [.rf 1,.fr (.lst Y)] (a::.lv o::ρ)=some (.ok (.nw (.lst X)),a::.lv o'::ρ))(d:∀ρ,fF "Stock" aI [] [.nw (.lst X)] ρ=some (.ok (.nw (.obj "Stock" F)),ρ)):aD 4 (dU "Stock" aI [] (aa (af dg [] (aa (ae 1) (aa (ai 3) ag))) ag)) [x0,.lv o,x2,.lv (.lst Y),.un,x5,x6,x7,x8,x9,x10]=some (.nx,[x0,.lv o',x2,.fr (.lst Y),.lv (.obj "Stock" F),x5,x6,x7,x8,x9,x10]):=by
 walk_at "evh"
theorem KW{F:List (Str×A)}{s0:A}(e0:A.obj "Stock" F=s0)(rc:∀ρ,gO "Stock" "keeps" (.fr s0) ρ=some (.ok (.fr s0),ρ))(c1:∀ρ,fF "Stock" aI [] [.nw (.lst [])] ρ=some (.ok (.nw (.obj "Stock" F)),ρ))(c2:∀ρ,fF "Stock" aI [] [.fr (.tup [])] ρ=some (.ok (.nw (.obj "Stock" F)),ρ))(d1:∀ρ,cK aN [] [.fr s0,.fr (.dic [])] ρ=some (.ok (.fr (.bl true)),ρ))(d2:∀ρ,cK aN [] [.fr s0,.fr (.dic [(.inr "a",.tup [.int 0,.int 1])])] ρ=some (.ok (.fr (.bl false)),ρ)):sIf (mOr (ah (mOp (fOr (fIs true) (gE true)) (af aN [] (aa (bc "Stock" "keeps" (mFz (dU "Stock" aI [] (aa (bV ag) ag)))) (aa (mFz jg) ag))) (mC (.bl true)))) (ah (mOp (fOr (fIs true) (gE true)) (af aN [] (aa (bc "Stock" "keeps" (mFz (dU "Stock" aI [] (aa (bI ag) ag)))) (aa (mFz (i7 "a" (bI (aa (mC (.int 0)) (aa (mC (.int 1)) ag))))) ag))) (mC (.bl false))))) (aH (mC (.bl false))) aG [x0,x1,x2,x3,x4,x5,x6,x7,x8,x9,x10]=some (.nx,[x0,x1,x2,x3,x4,x5,x6,x7,x8,x9,x10]):=by
 have z0:(0<=1000)=True:=by simp
 have l2:(0+1+1<=1000)=True:=by simp
 have b1:gE true (.bl true) (.bl true)=some (.fr (.bl false)):=rfl
 have b2:gE true (.bl false) (.bl false)=some (.fr (.bl false)):=rfl
 walk_at "evh"
end
theorem KQ{c i:Nat}{a:A}(h:(bP 1 c)[i]?=some a):i<c/\a=.int (1+(i:Int)):=by
 unfold bP at h
 rw[LZ] at h
 by_cases hi:i<c
 ·rw[NW hi] at h
  exact⟨hi,(LY h).symm⟩
 ·rw[NO (by rw[Q3];omega)] at h
  cases h
noncomputable abbrev LwS(sc Z s4:Sl)(o:LO)(x2 x5 x6 x7 x8 x9 x10:Sl):List Sl:=[sc,.lv o,x2,Z,s4,x5,x6,x7,x8,x9,x10]
theorem BF{zs:List Sz}{p:List Mk}{n:Int}{o:LO}(h:du 121 zs)(hp:MkW 620 12 p)(w:Wl n o)(hn:n<2^38)(sc x2 x5 x7 x8 x9 x10:Sl)(h8:np x8=true)(h9:np x9=true)(h10:np x10=true):Wp (av (aD 8 (af d6 [] (aa (ae 1) (aa (ai 6) ag)))) (av (aD 9 (mB1 fJ (ae 8))) (av (aD 10 (af aN [] (aa (bc "Stock" "keeps" (ai 4)) (aa (ai 9) ag)))) (sIf (mOr (eQ (ah (mB1 (lG Ty.bool) (ae 10)))) (mOr (ah (mOp fNe (ae 10) (af eX [] (aa (ai 3) (aa (ai 8) ag))))) (ah (mOp (fOr fNe iF) (ae 9) (ae 8))))) (aH (mC (.bl false))) aG)))) (LwS sc (.fr (.lst (zs.map szT))) (.fr (stO zs)) o x2 x5 (.fr (mkD p)) x7 x8 x9 x10) λf ρ=>f=.nx/\∃o' y8 y9 y10,ρ=LwS sc (.fr (.lst (zs.map szT))) (.fr (stO zs)) o' x2 x5 (.fr (mkD p)) x7 y8 y9 y10/\Wl (n+8) o'/\np y8=true/\np y9=true/\np y10=true:=by
 obtain⟨q,o1,vb,mq,w1⟩:=Gr w hn hp
 have cb:=cw1 vb rfl
 have gq:=λx=>MkW.gb (b:=1249) mq x
 have ck:=ar (jD h (by decide) mq.nd (by have:=mq.ln;omega) gq)
 have cl:=ar (xX h (by decide) mq.nd (by have:=mq.ln;omega) gq)
 have sf:=A9 mq.nd
 have rc:∀ρ,gO "Stock" "keeps" (.fr (stO zs)) ρ=some (.ok (.fr (stO zs)),ρ):=λ_=>rfl
 have ne:eqA (mkD q) (mkD q)=none:=rfl
 simp only[LF,LJ] at cb ck cl
 generalize (!neL (q.map mkK) ((zs.flatMap szN).map Mu)&&zs.all λz=>bB z (gN q))=r at *
 have er:eqA (.bl r) (.bl r)=some true:=wj (.bl r)
 refine⟨.nx,LwS sc (.fr (.lst (zs.map szT))) (.fr (stO zs)) o1 x2 x5 (.fr (mkD p)) x7 (.fr (mkD q)) (.fr (mkD q)) (.fr (.bl r)),?_,rfl,o1,_,_,_,rfl,w1,rfl,rfl,rfl⟩
 have d1:A.dic (q.map mkK)=mkD q:=rfl
 have d2:fJ (mkD q)=some (.nw (.dic (q.map mkK))):=rfl
 have bt:∀b:Bool,(true || b)=true:=λ_=>rfl
 clear gq hp w w1 mq vb h
 unfold LwS
 generalize mkD p=D at *
 generalize mkD q=E at *
 generalize q.map mkK=K at *
 generalize stO zs=S at *
 generalize zs.map szT=Z at *
 walk_at "evh"
theorem law_true:∀ns:List Int,ns.length<=63->∃ρ,oY.M [.fr (.lst (ns.map A.int))]=some (.rt (.fr (.bl true)),ρ):=by
 intro ns hns
 show ∃ρ,B9 [.fr (.lst (ns.map A.int))]=some (.rt (.fr (.bl true)),ρ)
 generalize hsc:A.lst (ns.map A.int)=sc
 obtain⟨t,et,t1,t2⟩:∃t:Int,(∀ρ,mB2 uL (mC (.int 2)) (mB2 uo (mB1 iu (ae 0)) (mC (.int 11))) (.fr sc::ρ)=some (.ok (.fr (.int t)),.fr sc::ρ))/\2<=t/\t<=11:=by
  subst hsc
  refine⟨if (if (11:Int)<((ns.map A.int).length:Int) then 11 else ((ns.map A.int).length:Int)) > 2 then (if (11:Int)<((ns.map A.int).length:Int) then 11 else ((ns.map A.int).length:Int)) else 2,λρ=>?_,?_,?_⟩
  ·walk_at "evh"
  ·(repeat' split)<;>omega
  ·(repeat' split)<;>omega
 have er:∀ρ,pL (mC (.int 1)) (mB2 uL (mC (.int 2)) (mB2 uo (mB1 iu (ae 0)) (mC (.int 11)))) (.fr sc::ρ)=some (.ok (bP 1 (t-1).toNat),.fr sc::ρ):=λρ=>by
  unfold pL ax
  simp only[M.e_C,et,res]
  rw[if_pos (by omega)]
 suffices Wp B9 [.fr sc] λg _=>g=.rt (.fr (.bl true)) by
  obtain⟨f,ρ,e,rfl⟩:=this
  exact⟨ρ,e⟩
 obtain⟨o,v1,w1⟩:=xn ns 0 (by decide) (by decide)
 rw[hsc] at v1
 obtain⟨r,o1,c2,a2,b2,w2⟩:=tk1 8 w1 (by decide) (by decide) (by decide)
 obtain⟨m,hm⟩:=at8 a2 b2
 obtain⟨zs,o2,v2,zk,z12,znd,z30,w3⟩:=vT (K:=12) (by decide) (many:=m) w2 (by decide)
 have h:du 121 zs:=⟨zk,znd,by omega⟩
 obtain⟨o3,v3,w4⟩:=GF w3 (by decide) h (by decide) (by decide)
 have cw:=fh v1
 have cs:=cw1 v2 rfl
 have l8:(0+1+1+1+1+1+1+1+1<=1000)=True:=by simp
 simp only[LF,LJ] at cw cs
 rw[show ((12:Nat):Int)=12 from rfl] at cs
 refine Wp.df ?_
 refine Wp.st (ρ1:=LwS (.fr sc) .un .un o .un .un .un .un .un .un .un) (by clear er et;unfold LwS;walk_at "evh") ?_
 refine Wp.st (ρ1:=LwS (.fr sc) .un .un o1 (.fr (.int m)) .un .un .un .un .un .un) (by clear er et cs cw;unfold LwS;walk_at "evh") ?_
 refine Wp.st (ρ1:=LwS (.fr sc) (.lv (.lst (zs.map szT))) .un o2 (.fr (.int m)) .un .un .un .un .un .un) (by clear er et c2 cw hm;unfold LwS;walk_at "evh") ?_
 refine Wp.st (Bh (cw1 v3 rfl) (pC h (by decide) (by decide))) ?_
 have k0:=ar (jD (p:=[]) (b:=1) qz (by decide) Ry (by decide) (λx=>NB.zero (n:=0)))
 have k1:=ar (jD (p:=[("a",(0,1))]) (b:=1) qz (by decide) (by simp) (by decide) (λx=>MkW.gb (b:=0) (k:=1) ⟨by simp,by decide,λq hq=>by rw[Ma.mp hq];exact NB.zero⟩ x))
 refine Wp.st (KW (s0:=stO []) rfl (λ_=>rfl) (pC qz (by decide) (by decide)) yk k0 k1) ?_
 clear cw cs c2 hm k0 k1 v1 v2 v3
 refine Wp.sq (Wp.fr (as:=bP 1 (t-1).toNat) (λ_ ρ=>∃(o:LO) (x4 x5 x6 x7 x8 x9 x10:Sl),ρ=LwS (.fr sc) (.fr (.lst (zs.map szT))) x4 o (.fr (.int m)) x5 x6 x7 x8 x9 x10/\(x4=.lv (.obj "Stock" (stF zs))\/x4=.fr (stO zs))/\np x5=true/\np x6=true/\np x7=true/\np x8=true/\np x9=true/\np x10=true) (er _) ⟨_,_,_,_,_,_,_,_,rfl,.inl rfl,rfl,rfl,rfl,rfl,rfl,rfl⟩ ?_ ?_)
 ·rintro i a ρ ha ⟨o,x4,x5,x6,x7,x8,x9,x10,rfl,h4,h5,h6,h7,h8,h9,h10⟩
  obtain⟨hi,rfl⟩:=KQ ha
  refine⟨LwS (.fr sc) (.fr (.lst (zs.map szT))) x4 o (.fr (.int m)) (.fr (.int (1+(i:Int)))) x6 x7 x8 x9 x10,by cases x5<;>first|(cases h5;done)|rfl,?_⟩
  obtain⟨o1,v1,w1⟩:=xn ns (1+(i:Int)) (by omega) (by omega)
  rw[hsc] at v1
  obtain⟨p1,o2,v2,g1,w2⟩:=wb w1 (by decide) h
  obtain⟨p2,o3,v3,g2,w3⟩:=Ji w2 (by decide) h
  have cw:=fh v1
  have cm:=cw1 v2 rfl
  have ce:=cw1 v3 rfl
  have d1:A.dic (p1.map mkK)=mkD p1:=rfl
  have d2:A.dic (p2.map mkK)=mkD p2:=rfl
  have l2:(0+1+1<=1000)=True:=by simp
  simp only[LF,LJ] at cw cm ce
  refine Wp.st (ρ1:=LwS (.fr sc) (.fr (.lst (zs.map szT))) x4 o1 (.fr (.int m)) (.fr (.int (1+(i:Int)))) x6 x7 x8 x9 x10) (by clear er et cm ce h4 v1 v2 v3 g1 g2 h d1 d2;unfold LwS;walk_at "evh") ?_
  refine Wp.fr (as:=[mkD p1,mkD p2]) (ρ1:=LwS (.fr sc) (.fr (.lst (zs.map szT))) x4 o3 (.fr (.int m)) (.fr (.int (1+(i:Int)))) x6 x7 x8 x9 x10) (λj ρ=>∃(o:LO) (x4 x6 x7 x8 x9 x10:Sl),ρ=LwS (.fr sc) (.fr (.lst (zs.map szT))) x4 o (.fr (.int m)) (.fr (.int (1+(i:Int)))) x6 x7 x8 x9 x10/\(x4=.lv (.obj "Stock" (stF zs))\/x4=.fr (stO zs))/\Wl (17000+8000+40*j) o/\np x6=true/\np x7=true/\np x8=true/\np x9=true/\np x10=true) ?_ ⟨_,_,_,_,_,_,_,rfl,h4,w3.mono (by omega),h6,h7,h8,h9,h10⟩ ?_ ?_
  ·clear er et cw h4 v1 v2 v3 g1 g2 h w1 w2 w3
   unfold LwS
   generalize mkD p1=D1 at *
   generalize mkD p2=D2 at *
   generalize p1.map mkK=K1 at *
   generalize p2.map mkK=K2 at *
   walk_at "evh"
  ·rintro j a ρ ha ⟨o,x4,x6,x7,x8,x9,x10,rfl,h4,wz,h6,h7,h8,h9,h10⟩
   have hj:=(LI.mp ha).1
   obtain⟨p,g,rfl⟩:∃p,Mkg 620 zs p/\a=mkD p:=by
    have:=Mc ha
    simp only[Me,Px,or_false] at this
    rcases this with rfl|rfl
    ·exact⟨p1,g1,rfl⟩
    ·exact⟨p2,g2,rfl⟩
   have mp:=Hh h z12 g
   have ck:=ar (jD h (b:=620) (by decide) mp.nd (by have:=mp.ln;omega) (λx=>MkW.gb (b:=619) mp x))
   rw[BB h g] at ck
   have eo:A.obj "Stock" (stF zs)=stO zs:=rfl
   have rc:∀ρ,gO "Stock" "keeps" (.fr (stO zs)) ρ=some (.ok (.fr (stO zs)),ρ):=λ_=>rfl
   have b1:gE true (.bl true) (.bl true)=some (.fr (.bl false)):=rfl
   have d1:A.dic (p.map mkK)=mkD p:=rfl
   have d2:fJ (mkD p)=some (.nw (.dic (p.map mkK))):=rfl
   refine⟨LwS (.fr sc) (.fr (.lst (zs.map szT))) x4 o (.fr (.int m)) (.fr (.int (1+(i:Int)))) (.fr (mkD p)) x7 x8 x9 x10,by cases x6<;>first|(cases h6;done)|rfl,?_⟩
   simp only[LF,LJ] at ck
   refine Wp.st (ρ1:=LwS (.fr sc) (.fr (.lst (zs.map szT))) (.fr (stO zs)) o (.fr (.int m)) (.fr (.int (1+(i:Int)))) (.fr (mkD p)) x7 x8 x9 x10) ?_ ?_
   ·clear er et cw cm ce v1 v2 v3 g1 g2 h w1 w2 w3 wz g mp hj ha
    unfold LwS
    generalize mkD p=D at *
    generalize p.map mkK=K at *
    generalize stO zs=S at *
    generalize stF zs=F at *
    generalize zs.map szT=Z at *
    rcases h4 with rfl|rfl<;>walk_at "evh"
   refine Wp.fr (as:=bP 0 4) (λk ρ=>∃(o:LO) (x7 x8 x9 x10:Sl),ρ=LwS (.fr sc) (.fr (.lst (zs.map szT))) (.fr (stO zs)) o (.fr (.int m)) (.fr (.int (1+(i:Int)))) (.fr (mkD p)) x7 x8 x9 x10/\Wl (17000+8000+40*j+8*k) o/\np x7=true/\np x8=true/\np x9=true/\np x10=true) rfl ⟨_,_,_,_,_,rfl,wz.mono (by omega),h7,h8,h9,h10⟩ ?_ ?_
   ·rintro k a ρ ha ⟨o,x7,x8,x9,x10,rfl,wz,h7,h8,h9,h10⟩
    have hk:=(DM ha).1
    refine⟨LwS (.fr sc) (.fr (.lst (zs.map szT))) (.fr (stO zs)) o (.fr (.int m)) (.fr (.int (1+(i:Int)))) (.fr (mkD p)) (.fr a) x8 x9 x10,by cases x7<;>first|(cases h7;done)|rfl,?_⟩
    refine Wp.mono (BF h mp wz (by have:j<2:=hj;omega) _ _ _ _ _ _ _ h8 h9 h10) ?_
    rintro f ρ ⟨rfl,o',y8,y9,y10,rfl,w',q8,q9,q10⟩
    exact⟨.inl rfl,_,_,_,_,_,rfl,w'.mono (by omega),rfl,q8,q9,q10⟩
   ·rintro ρ' ⟨o,x7,x8,x9,x10,rfl,wz,h7,h8,h9,h10⟩
    rw[rz] at wz
    exact⟨.inl rfl,_,_,_,_,_,_,_,rfl,.inr rfl,wz.mono (by omega),rfl,h7,h8,h9,h10⟩
  ·rintro ρ' ⟨o,x4,x6,x7,x8,x9,x10,rfl,h4,wz,h6,h7,h8,h9,h10⟩
   exact⟨.inl rfl,_,_,_,_,_,_,_,_,rfl,h4,rfl,h6,h7,h8,h9,h10⟩
 ·rintro ρ' ⟨o,x4,x5,x6,x7,x8,x9,x10,rfl,_⟩
  exact⟨rfl,Wp.en (f:=.rt (.fr (.bl true))) rfl rfl⟩
end W
set_option maxHeartbeats 4000000
namespace W
open PySem L2 M
theorem FK:su tb0 dsL=dsL.map (λd=>some d.m):=by kernel_rfl
theorem DY:k7 (trS (lM tb0 dsL) (tr (lM tb0 dsL) jS) jS oY.sc) (bZ oY.st)=some oY.m:=by kernel_rfl
theorem CY:(dsL++[oY]).all (λd=>fW d&&qY d)=true:=by decide +kernel
end W
open PySem PySem.W PyProof.Rows L2
set_option maxRecDepth 100000 in
set_option maxHeartbeats 0 in
theorem PySem.Challenge.cw_fitwhatever_k09_what_keeps_a_stock_holds : PySem.Challenge.rw_fitwhatever_k09_what_keeps_a_stock.Holds := by
 w_on
 refine holds_law (by decide +kernel) fun said=>?_
 refine holds_open (q:=W.qOf PySem.Challenge.pw_fitwhatever_k09_what_keeps_a_stock) (loose:=W.zw PySem.Challenge.pw_fitwhatever_k09_what_keeps_a_stock) (Xt:=fun s=>xlAt (W.qOf PySem.Challenge.pw_fitwhatever_k09_what_keeps_a_stock) [] s && recOk (RowW.records _) s) (XP:=XL (W.qOf PySem.Challenge.pw_fitwhatever_k09_what_keeps_a_stock) []) (Yf:=Hook.obs (M.hk (W.dsL ++ [W.oY]) (M.gdB W.tb0))) (Ya:=Hook.val (M.hk (W.dsL ++ [W.oY]) (M.gdB W.tb0))) (YP:=Hook.says (M.hk (W.dsL ++ [W.oY]) (M.gdB W.tb0))) (N:=20000) (W.vj fun w=>by kernel_rfl) (Hook.of _) (Hook.keeps _) (fun s e=>xl_of s (Bool.and_eq_true_iff.mp e).1) XL.keeps (by rfl) (by rfl) (by rfl) (fun s e=>recFacts_of (Bool.and_eq_true_iff.mp e).2) (by rfl) said (by decide +kernel) ⟨rfl,rfl,rfl,rfl,rfl,by decide +kernel⟩ ?hw ?hc
 case hw=>w_witness2
 case hc=>exact M.uY rfl rfl rfl W.CY W.FK W.DY rfl rfl rfl rfl ⟨rfl,by decide,by decide⟩ W.law_true
#print axioms PySem.Challenge.cw_fitwhatever_k09_what_keeps_a_stock_holds
