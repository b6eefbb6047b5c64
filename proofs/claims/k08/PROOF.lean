import PyProof.Rows.All
import Wide.All
import OpenK.AllK
import Wide.FinOn
import Lean
import PyProof.EqAt
import PyProof.EqKinds
import PyProof.TupleCall
import PyProof.StrLaws
import PySem.Challenge.RW_fitwhatever_k08_no_sizes
set_option genSizeOf false
set_option genInjectivity false
set_option bootstrap.genMatcherCode false
set_option compiler.extract_closed false
open PySem.W renaming Frag->LU,kitOne->MG,findIn->MH,keepIn->ML,emptyDict->M0,callWith_K->Nh,instObj->Nk,kitAny->Nq,fnOf->Nv,methodCall_KW->N4,plainGet->N6,excIn->N8,codeIn->Of,hasDictIn->Ol,cellsFrom_some->OE,hideAll->OG,lookIn->OP,exmOne->OT,plainGet_of->OW,methodObj->O4,isFn->O6,plainOver->O7,kitx_list->Pb,kitx_dict->Pc,nsIn->Pd,takerIn->Pm,makesIn->Pn,mroIn->Pz,hideAll_get->P6,of_hideAll->Qc,codeRec_of->Qf,kitx_tuple->Qi,mg_none_of->Ql,specialIn->Qo,handedIn->Qr,takesIn->Qt,OpenLaw->Qw,WalkO->QN,Hook->QV
open Bool renaming and_eq_true->LV,not_eq_true'->Mq,false_ne_true->Mt,or_eq_true->M9,and_false->N5,eq_false_iff->OA,eq_iff_iff->OU,and_eq_true_iff->OZ,and_true->Pa,false_and->PH,beq_eq_decide_eq->Qj,false_eq_true->Qv,not_true->Rb,true_and->Rc
open List renaming mem_append_right->LW,length_cons->LX,length_map->LY,size_toArray->LZ,map_cons->L5,mem_cons_of_mem->L6,append_assoc->L7,mem_cons_self->L8,length_append->Ma,getElem?_eq_some_iff->Mb,mem_append->Me,map_nil->Mh,mem_singleton->Mj,mem_cons->Ml,mem_append_left->Mm,replicate->Mn,getElem?_eq_getElem->Mo,nodup_append->Mp,all_cons->Mu,length_take->Mv,map_append->Mw,mem_map->Mx,getElem?_map->MA,append_nil->MB,lookup_cons->MC,range->MD,getElem?_set_self->MF,nodup_cons->MI,nil_append->MJ,all_eq_true->MK,take_append_drop->MQ,getElem?_set_ne->MR,getElem?_append_right->MS,mem_of_getElem?->MT,length_singleton->MW,isEmpty_iff->MY,getElem?_cons_zero->MZ,getD_eq_getElem?_getD->M4,map_map->M5,filterMap_cons->M6,flatMap_append->M7,getElem?_append_left->Na,cons_append->Nb,getElem?_cons_succ->Nf,find?_cons->Ng,length_drop->Ni,drop_eq_getElem_cons->Nm,perm_append_comm->NG,contains_iff_mem->NH,flatMap_cons->NJ,mem_of_mem_take->NM,drop_length->NP,getElem_mem->NQ,getElem?_range->NS,replicate_zero->NT,any_cons->NU,mem_filter->NX,mem_filterMap->NZ,zip_cons_cons->N3,getElem?_eq_none->Oa,lookup->Oc,length_nil->Oe,replicate_succ->Og,length_pos_iff->Oh,mem_range->Oj,set_cons_zero->Om,set_cons_succ->Oo,ext_getElem?->OB,reverse_cons->OC,take_add_one->OD,take_length->OI,mem_flatMap->OJ,filter_eq_nil_iff->ON,flatMap_singleton->OO,of_mem_zip->OQ,map->OY,mem_of_mem_drop->O0,perm_iff_count->O2,map_congr_left->O3,take_sublist->Pf,count_append->Ph,length_range->Pj,eq_nil_of_length_eq_zero->Pu,dropLast_concat_getLast->Px,drop_zero->PL,sublist_append_right->PM,getElem?_take_of_lt->PZ,eq_of_mem_replicate->P0,getElem?_replicate->P2,all_map->Qa,take_of_length_le->Qb,length_replicate->Qe,filterMap_append->Qk,map_id->Qp,lookup_append->Qx,any_eq_false->Qz,push_toArray->QF,nil_sublist->QL,map_reverse->QM,any_eq_true->QO,not_mem_nil->QP,count_cons->QR,foldl_cons->QU,all_append->QW,take_left->Q5,map_take->Rf,map_drop->Rg,length->Rv
open Nat renaming lt_of_lt_of_le->L4,le_refl->Md,le_trans->Mr,ne_of_lt->My,lt_irrefl->MM,pow_le_pow_right->MU,le_of_ble_eq_true->MX,zero_le->Nd,lt_succ_self->NR,le_succ->Od,ble->Oi,lt_of_le_of_lt->Ow,zero_add->Pq,sub_self->Pr,le_of_lt->Qd,min_self->Qh,lt_succ_of_lt->QJ,le_max_right->QQ,le_max_left->QZ,le_add_left->Q2,min_eq_left->Q7,ne_of_gt->Ro,le_of_eq->Rt,sub_zero->RF,log2_lt->RK,sub_le->R9
open PySem.Heap renaming get?_push_of_some->L9,lt_size->Mf,get?_push_size->Mz,get?_update_other->Nz,SameBut->NO,get?_update_self->N9,size_push->OX,FlyingW->Pg,get?_none_of_le->Qn,MadeExcOf->QY
open Option.some renaming inj->Mc,injEq->Sa
open PySem.Value renaming ref->ME,none->NW,builtin->O1,int->PQ,str->PR,bool->Qq,isStrOf->QX,isInt->Rh,bytes->Ri,float->Rj,type->Rn
open False renaming elim->MN
open Int renaming gcd->MO,toNat_natCast->Np,fmod_nonneg_of_pos->NA,gcd_pos_of_ne_zero_right->ND,mul_ne_zero->NF,mul_fdiv_cancel_left->NY,fmod_lt_of_pos->Ox,fmod_eq_emod_of_nonneg->Oy,lt_or_gt_of_ne->Pe,gcd_dvd_right->Pp,gcd_dvd_left->Pt,zero_add->Qm,sub_eq_add_neg->QE,gcd_zero_right->QG,emod_nonneg->Q0,natAbs_mul->Ra,mul_comm->RB,lt_or_le->RC,le_of_lt->RD,neg_dvd->RL,neg_gcd->RM
open PyProof.Rows renaming slot_tuple_getitem->MP,callWith_type1->N7,envOfC->OH,callWith_builtin1->RI,tuple_addW0->RN,list_addW->RO
open PySem.Builtin.Str renaming glued->MV,occurrences->Nn,strSliceIndices->Nx,tooLong->OL
open Ne renaming symm->M8
open PySem.Txt renaming slice->Nc,mul->Nu,slice_le->Po
open ForInStep renaming yield->Nj
open List.Sublist renaming append->Nl,refl->Nw,map->R5
open Array renaming length_toList->Nr,getElem?_toList->OS,append_assoc->O5,toList->Q8
open PySem renaming mem_of_lookup->Nt,Str->PN,Within->P1,call->Qs
open PySem.NameKind renaming free->Ny
open PySem.Builtin.Slice renaming slicePlaces->NC,sliceAdjust->Ob,sliceApplied->O8,slicePartIndex->Rw,sliceFields->Rx
open PySem.Builtin.Tuple renaming tupleExact->NI,tupleItemsOf->O9,tupleIsExact->RE
open PySem.Builtin.List renaming listTooLong->NK
open PySem.F renaming plainAttrs_list->NV,args_tuple_add_2->Ou,entry_tuple_add->Oz,slot_tuple_add->OF,slot_list_extend->PB,excAttr_ValueError->QC,excBase_ValueError->QD
open Option renaming isNone_iff_eq_none->Ot,isSome_map->Ov,getD_none->Qu,getD_some->Qy
open PySem.SeqAt renaming EqAt->OK
open True renaming intro->OM
open PySem.Obj renaming mapSeq->OR,data_mapFields->QH
open Rat renaming intCast_lt_intCast->OV,divInt_eq_div->QK,intCast_inj->Q3,intCast_mul->Q4,divInt->R8
open Sum renaming inl->Pk,inr->Pl
open PySem.AutoSeq1 renaming wpAny_loadPart'->Pw
open PySem.Calls renaming Name_function_global->Py,callWith_builtin->P4,evalArgs_plain->Qg
open PySem.Paired renaming length->PD,snoc->Q9
open PySem.Builtin.Int renaming intBits->PK
open PySem.SeqAt.EqAt renaming int_str->PU,str_int->PV
open PySem.Around renaming under->PY,frames_deeper->P9
open PySem.ScopeKind renaming function->P5
open PySem.Str renaming empty->P7,length->QB,ofString->Ry
open PySem.Code renaming isFrame->P8,frames->Ru
open PySem.Builtin.ObjectAttr renaming bindTo->QI
open PySem.W.SharedT renaming abs->Q6
open PySem.Heap.IsSliceOf renaming new->Rk
open PySem.W.WShape renaming has->Rl
open Or renaming inr->Rm
open PySem.Builtin.Range renaming rangeSize->Rp
open PySem.W.Looks renaming here->Rq
open List.Pairwise renaming nil->Rz,sublist->RG
open PySem.Within renaming cons->RH
open PySem.W.WData renaming int->RJ
open PySem.W.Fast renaming tw11892475500146522536->RP,tw14364793385576792824->RQ,tw6613529449190102663->RS,tw10156331382660048174->RT,tw10274390034422433532->RU,tw14289696077712309145->RV,tw4187177175401517315->RW,te11892475500146522536->RX,te14364793385576792824->RY,te6613529449190102663->RZ,te10156331382660048174->R0,te10274390034422433532->R1,te14289696077712309145->R3,te4187177175401517315->R4
open PySem.Flow renaming next->R6
open PySem.Heap.DictOf renaming new->R7
set_option Elab.async false
set_option linter.all false
set_option maxRecDepth 100000
abbrev NDb(x:PN):Prop:=(x==("__debug__" : PN))=false
abbrev NCd(x:PN):Prop:=(x==("__classdict__" : PN))=false
namespace L2
open PySem PySem.Spec PyProof.Rows
noncomputable abbrev Key:=Sum Int Str
noncomputable def lZ:Key->Value->Bool
 | .inl k,v=>Rh k v
 | .inr x,v=>QX x v
noncomputable def LJ(w:World):Key->Int
 | .inl k=>hashInt k
 | .inr x=>hashStr w x
theorem bx:∀{k:Key}{v:Value},lZ k v=true->(∃i t,k=Pk i/\v=PQ i t)\/(∃x t,k=Pl x/\v=PR x t)
 | .inl i,v,h=>by
  obtain⟨t,e⟩:=Value.isInt_shape (k:=i) (v:=v) h
  exact .inl ⟨i,t,rfl,e⟩
 | .inr x,v,h=>by
  obtain⟨t,e⟩:=Value.isStrOf_shape (x:=x) (v:=v) h
  exact .inr ⟨x,t,rfl,e⟩
theorem tK(i:Int)(t:Tok):lZ (.inl i) (.int i t)=true:=by simp[lZ,Rh]
theorem uM(x:Str)(t:Tok):lZ (.inr x) (.str x t)=true:=by simp[lZ,QX]
theorem Gy(a b:Int):decide ((Pk a:Key)=Pk b)=(a==b):=by
 by_cases e:a=b
 ·subst e;simp
 ·have h:¬ (Pk a:Key)=Pk b:=λq=>e (Pk.inj q)
  rw[decide_eq_false h]
  exact(beq_eq_false_iff_ne.mpr e).symm
theorem Fb(a b:Str):decide ((Pl a:Key)=Pl b)=decide (a=b):=by
 by_cases e:a=b
 ·subst e;simp
 ·have h:¬ (Pl a:Key)=Pl b:=λq=>e (Pl.inj q)
  rw[decide_eq_false h,decide_eq_false e]
theorem DH(a:Int)(b:Str):decide ((Pk a:Key)=Pl b)=false:=decide_eq_false (λq=>nomatch q)
theorem Ea(a:Str)(b:Int):decide ((Pl a:Key)=Pk b)=false:=decide_eq_false (λq=>nomatch q)
noncomputable def cq(prog:Program)(w:World):PySem.KeyKind prog w Key where
 is:=lZ
 hash:=LJ w
 inj:=λv a b ha hb=>by
  rcases bx ha with ⟨i,t,rfl,rfl⟩|⟨x,t,rfl,rfl⟩
  ·rcases bx hb with ⟨j,u,rfl,e⟩|⟨y,u,rfl,e⟩
   ·injection e with e1 _;rw[e1]
   ·exact nomatch e
  ·rcases bx hb with ⟨j,u,rfl,e⟩|⟨y,u,rfl,e⟩
   ·exact nomatch e
   ·injection e with e1 _;rw[e1]
 byValue:=λk v h=>by
  rcases bx h with ⟨i,t,rfl,rfl⟩|⟨x,t,rfl,rfl⟩<;>rfl
 pyHash:=λhv h=>by
  rcases bx hv with ⟨i,t,rfl,rfl⟩|⟨x,t,rfl,rfl⟩
  ·exact wpAny_pyHash_int h
  ·exact wpAny_pyHash_str h
 eqBool:=λhu hv h=>by
  rcases bx hu with ⟨i,t,rfl,rfl⟩|⟨x,t,rfl,rfl⟩
  ·rcases bx hv with ⟨j,u,rfl,rfl⟩|⟨y,u,rfl,rfl⟩
   ·rw[Gy] at h;exact wpAny_eqBool_int h
   ·rw[DH] at h;exact PU i t y u _ _ _ _ h
  ·rcases bx hv with ⟨j,u,rfl,rfl⟩|⟨y,u,rfl,rfl⟩
   ·rw[Ea] at h;exact PV x t j u _ _ _ _ h
   ·rw[Fb] at h;exact wpAny_eqBool_str h
 «strs»:=λk x t v h=>by
  rcases bx h with ⟨i,u,rfl,e⟩|⟨y,u,rfl,e⟩
  ·exact nomatch e
  ·injection e with e1 _
   subst e1
   cases v<;>rfl
theorem pJ(prog:Program)(w:World)(i:Int)(t:Tok):(cq prog w).is (.inl i) (.int i t)=true:=tK i t
theorem pD(prog:Program)(w:World)(x:Str)(t:Tok):(cq prog w).is (.inr x) (.str x t)=true:=uM x t
inductive V where
 | non|bl (b:Bool)|int (i:Int)|str (x:Str)|byt (b:Array UInt8)|flt (b:UInt64)|ref (a:Addr)|ty (n:String)
 deriving DecidableEq
noncomputable def RelV:V->Value->Prop
 | .non,u=>u=NW
 | .bl b,u=>u=Qq b
 | .int i,u=>∃t,u=PQ i t
 | .str x,u=>∃t,u=PR x t
 | .byt b,u=>∃t,u=Ri b t
 | .flt b,u=>∃t,u=Rj b t
 | .ref a,u=>u=ME a
 | .ty n,u=>u=Rn n
noncomputable abbrev Vals:List V->List Value->Prop:=Paired RelV
theorem Vals.length{xs:List V}{us:List Value}(r:Vals xs us):xs.length=us.length:=PD r
theorem Vals.get:∀{xs:List V}{us:List Value}{i:Nat}{x:V},Vals xs us->xs[i]?=some x->∃u,us[i]?=some u/\RelV x u
 | _,_,_,_,.nil,e=>by simp at e
 | _,_,0,_,.cons r _,e=>by simp at e;subst e;exact⟨_,rfl,r⟩
 | _,_,i+1,x,.cons _ t,e=>by
  obtain⟨u,h1,h2⟩:=Vals.get (i:=i) (x:=x) t (by simpa using e)
  exact⟨u,by simpa using h1,h2⟩
theorem Vals.set{x:V}{u:Value}(r:RelV x u):∀{xs:List V}{us:List Value}(i:Nat),Vals xs us->Vals (xs.set i x) (us.set i u)
 | _,_,_,.nil=>.nil
 | _,_,0,.cons _ t=>.cons r t
 | _,_,i+1,.cons q t=>.cons q (Vals.set r i t)
theorem Vals.append:∀{xs ys:List V}{us ws:List Value},Vals xs us->Vals ys ws->Vals (xs++ys) (us++ws)
 | _,_,_,_,.nil,s=>s
 | _,_,_,_,.cons r t,s=>.cons r (Vals.append t s)
theorem Vals.take:∀{xs:List V}{us:List Value}(n:Nat),Vals xs us->Vals (xs.take n) (us.take n)
 | _,_,0,_=>.nil
 | _,_,_+1,.nil=>.nil
 | _,_,n+1,.cons r t=>.cons r (Vals.take n t)
theorem Vals.drop:∀{xs:List V}{us:List Value}(n:Nat),Vals xs us->Vals (xs.drop n) (us.drop n)
 | _,_,0,r=>r
 | _,_,_+1,.nil=>.nil
 | _,_,n+1,.cons _ t=>Vals.drop n t
noncomputable def hU:Option V->Option Value->Prop
 | some v,some u=>RelV v u
 | none,none=>True
 | _,_=>False
noncomputable def KV{κ:Type}:List (κ×V)->List (κ×Value)->Prop:=Paired λ(p:κ×V) (q:κ×Value)=>p.1=q.1/\RelV p.2 q.2
noncomputable def kV:Key->V
 | .inl i=>.int i
 | .inr x=>.str x
inductive HO where
  | lst (xs:List V)
  | tup (xs:List V)
  | dK (kvs:List (Key×V))|dT (kvs:List (List Key×V))
  | set (S:Int->Bool) (n:Nat)
  | ins (C dx:Addr) (fs:List (Str×V))
  | own (x:Addr)
  | xd (fs:List (Str×V))
  | met (f x:Addr)
  | rng (lo hi:Int)
  | frz (o:Obj) (u:HO)
  | tbl (ps:Array Value)
  | ext (φ:Heap->Prop)
noncomputable abbrev Hp:=Addr->Option HO
noncomputable def upd(H:Hp)(a:Addr)(o:HO):Hp:=λb=>if b=a then some o else H b
variable{H:Hp}
theorem bw{a:Addr}{o:HO}:upd H a o a=some o:=by unfold upd;rw[if_pos rfl]
theorem aC{a b:Addr}{o:HO}(h:b≠a):upd H a o b=H b:=by unfold upd;rw[if_neg h]
theorem Kb{a b:Addr}{o u:HO}(h:H a=some o)(h':H b=some u)(d:o≠u):a≠b:=by
 intro e;subst e;rw[h] at h';exact d (Mc h')
theorem aT{a b:Addr}{o:HO}(h:H a=some o)(h':H b=none):a≠b:=by
 intro e;subst e;rw[h] at h';cases h'
section
variable(P:Program)(w:World)
def gL(h:Heap)(a:Addr)(items:Array Value):Prop:=∃o,h.get? a=some o/\o.cls=.type "tuple" /\ ∃n,o.data=.seq items n/\o.dict=none
theorem gL.t{h:Heap}{a:Addr}{items:Array Value}(x:gL h a items):IsTup h a items:=let ⟨o,e,c,n,d,_⟩:=x;⟨o,e,c,n,d⟩
theorem gL.new(h:Heap)(items:Array Value):gL (h.push { cls:=.type "tuple",data:=.seq items }) h.objs.size items:=⟨_,Mz _ rfl,rfl,_,rfl,rfl⟩
noncomputable def bb(H:Hp)(h:Heap)(a:Addr):HO->Prop
 | .lst xs=>xs.length<=sizeLine/\∃(its:List Value) (n:Nat),Vals xs its/\h.get? a=some { cls:=.type "list",data:=.seq its.toArray n }
 | .tup xs=>xs.length<=sizeLine/\∃its:List Value,Vals xs its/\gL h a its.toArray
 | .dK kvs=>kvs.length<=sizeLine/\(a==sysModules)=false/\∃vs,KV kvs vs/\h.DictOf (cq P w) a vs
 | .dT kvs=>kvs.length<=sizeLine/\(a==sysModules)=false/\∃xs:List (List Key×Addr×Value),
   Paired (λ(p:List Key×V) (q:List Key×Addr×Value)=>p.1=q.1/\H q.2.1=some (.tup (p.1.map kV))/\RelV p.2 q.2.2) kvs xs /\
   ∃o es ep,h.get? a=some o/\o.ExactDict/\o.data=.dict es ep/\es.toList=xs.map (entryOfKey (tupleKind (cq P w)))/\(xs.map (·.1)).Nodup
 | .set S n=>h.SetOf (intKind P w) a S n
 | .ins C dx fs=>H dx=some (.own a)/\fs.length<=1000/\dx≠a/\h.get? a=some (Nk C dx) /\
   ∃mA,h.Ns1 dx mA/\(∀f,hU (fs.lookup f) (mA f))/\P1 mA (fs.map (·.1))
 | .own _=>∃o,h.get? a=some o
 | .xd fs=>∃mA,h.Ns1 a mA/\∀f,hU (fs.lookup f) (mA f)
 | .rng lo hi=>∃t u v,h.get? a=some { cls:=.type "range",data:=.fields #[.int lo t,.int hi u,.int 1 v] }
 | .frz o u=>h.get? a=some o/\bb H h a u
 | .tbl ps=>h.get? a=some { cls:=.none,data:=.fields ps }
 | .met f x=>h.get? a=some (O4 (.ref f) (.ref x))
 | .ext φ=>φ h/\(∃o,h.get? a=some o)/\∀h1 h2:Heap,φ h1->(∀o,h1.get? a=some o->h2.get? a=some o)->φ h2
def HOk(H:Hp)(h:Heap):Prop:=∀a o,H a=some o->bb P w H h a o
end
section
variable{P:Program}{w:World}{H H':Hp}{h h':Heap}{a:Addr}{o:HO}
theorem bb.lt(x:bb P w H h a o):a<h.objs.size:=by
 cases o with
 | lst xs=>obtain⟨_,_,_,_,e⟩:=x;exact Mf e
 | tup xs=>obtain⟨_,_,_,p⟩:=x;exact p.t.lt
 | dK kvs=>obtain⟨_,_,_,_,o,_,_,e,_⟩:=x;exact Mf e
 | dT kvs=>obtain⟨_,_,_,_,o,_,_,e,_⟩:=x;exact Mf e
 | set S n=>obtain⟨o,_,_,_,e,_⟩:=x;exact Mf e
 | ins C dx fs=>obtain⟨_,_,_,e,_⟩:=x;exact Mf e
 | own y=>obtain⟨_,e⟩:=x;exact Mf e
 | xd fs=>obtain⟨_,⟨_,_,_,e,_⟩,_⟩:=x;exact Mf e
 | rng lo hi=>obtain⟨_,_,_,e⟩:=x;exact Mf e
 | frz ob u=>obtain⟨e,_⟩:=x;exact Mf e
 | tbl ps=>exact Mf (show h.get? a=some _ from x)
 | met f y=>exact Mf (show h.get? a=some _ from x)
 | ext φ=>obtain⟨_,⟨_,e⟩,_⟩:=x;exact Mf e
theorem Paired.GK{α β:Type}{F G:α->β->Prop}:∀{l₁:List α}{l₂:List β},Paired F l₁ l₂->(∀a b,F a b->G a b)->Paired G l₁ l₂
 | _,_,.nil,_=>.nil
 | _,_,.cons r t,f=>.cons (f _ _ r) (Paired.GK t f)
theorem bb.jn(x:bb P w H h a o)(k:∀b u,(b=a\/H b=some (.own a))->h.get? b=some u->h'.get? b=some u)
  (ho:∀b,H b=some (.own a)->H' b=some (.own a))(ht:∀b xs,H b=some (.tup xs)->H' b=some (.tup xs)):bb P w H' h' a o:=by
 induction o with
 | lst xs=>obtain⟨z,its,n,r,e⟩:=x;exact⟨z,its,n,r,k _ _ (.inl rfl) e⟩
 | tup xs=>obtain⟨z,its,r,ob,e,c⟩:=x;exact⟨z,its,r,ob,k _ _ (.inl rfl) e,c⟩
 | dK kvs=>obtain⟨z,y,vs,r,ob,es,ep,e,c⟩:=x;exact⟨z,y,vs,r,ob,es,ep,k _ _ (.inl rfl) e,c⟩
 | dT kvs =>
  obtain⟨z,y,xs,r,ob,es,ep,e,c⟩:=x
  exact⟨z,y,xs,Paired.GK r λp q z=>⟨z.1,ht _ _ z.2.1,z.2.2⟩,ob,es,ep,k _ _ (.inl rfl) e,c⟩
 | set S n=>obtain⟨ob,es,ep,t,e,c⟩:=x;exact⟨ob,es,ep,t,k _ _ (.inl rfl) e,c⟩
 | ins C dx fs =>
  obtain⟨d,z,ne,e,mA,⟨od,es,ep,e2,c⟩,r⟩:=x
  exact⟨ho _ d,z,ne,k _ _ (.inl rfl) e,mA,⟨od,es,ep,k _ _ (.inr d) e2,c⟩,r⟩
 | own y=>obtain⟨ob,e⟩:=x;exact⟨ob,k _ _ (.inl rfl) e⟩
 | xd fs=>obtain⟨mA,⟨od,es,ep,e,c⟩,r⟩:=x;exact⟨mA,⟨od,es,ep,k _ _ (.inl rfl) e,c⟩,r⟩
 | rng lo hi=>obtain⟨t,u,v,e⟩:=x;exact⟨t,u,v,k _ _ (.inl rfl) e⟩
 | frz ob u ih=>obtain⟨e,q⟩:=x;exact⟨k _ _ (.inl rfl) e,ih q⟩
 | tbl ps =>
  have e:h.get? a=some { cls:=.none,data:=.fields ps }:=x
  show h'.get? a=some { cls:=.none,data:=.fields ps }
  exact k a _ (.inl rfl) e
 | met f y =>
  have e:h.get? a=some (O4 (.ref f) (.ref y)):=x
  show h'.get? a=some (O4 (.ref f) (.ref y))
  exact k a _ (.inl rfl) e
 | ext φ=>obtain⟨p,⟨o,e⟩,st⟩:=x;exact⟨st _ _ p λo q=>k _ _ (.inl rfl) q,⟨o,k _ _ (.inl rfl) e⟩,st⟩
theorem HOk.lt(x:HOk P w H h)(e:H a=some o):a<h.objs.size:=(x a o e).lt
theorem HOk.fresh(x:HOk P w H h)(e:h.objs.size<=a):H a=none:=by
 cases q:H a with
 | none=>rfl
 | some u=>exact absurd (L4 (x.lt q) e) (MM _)
theorem HOk.kept(x:HOk P w H h)(k:∀b u,h.get? b=some u->h'.get? b=some u):HOk P w H h':=λa o e =>
 (x a o e).jn (λb u _ q=>k b u q) (λ_ q=>q) λ_ _ q=>q
theorem HOk.laid(x:HOk P w H h)(k:∀b u,h.get? b=some u->h'.get? b=some u)(hp:h.objs.size<=a)(new:bb P w (upd H a o) h' a o):HOk P w (upd H a o) h':=λb u e=>by
 have hn:=x.fresh hp
 by_cases hb:b=a
 ·subst hb;rw[bw] at e;cases e;exact new
 ·rw[aC hb] at e
  exact(x b u e).jn (λc v _ q=>k c v q) (λc q=>by rw[aC (aT q hn)];exact q) λc xs q=>by rw[aC (aT q hn)];exact q
end
def Rd(H:Hp)(a:Addr)(u:HO):Prop:=H a=some u\/∃o,H a=some (.frz o u)
variable{P:Program}{w:World}
theorem Rd.ok{h:Heap}{a:Addr}{u:HO}(r:Rd H a u)(x:HOk P w H h):bb P w H h a u:=by
 rcases r with r|⟨o,r⟩
 ·exact x a u r
 ·obtain⟨_,q⟩:=x a _ r
  exact q
noncomputable def Mut:Option HO->Prop
 | some (.lst _)=>True
 | some (.dK _)=>True
 | some (.dT _)=>True
 | some (.set _ _)=>True
 | some (.ins _ _ _)=>True
 | some (.ext _)=>True
 | _=>False
section
variable{P:Program}{w:World}{H:Hp}{h h':Heap}{x e:Addr}{o':HO}
theorem HOk.write(ok:HOk P w H h)(mu:Mut (H x))(he:e=x\/H e=some (.own x))(k:∀b u,b≠e->h.get? b=some u->h'.get? b=some u)(heo:∃u,h'.get? e=some u)
  (new:bb P w (upd H x o') h' x o'):HOk P w (upd H x o') h':=λb u q=>by
 have nown:∀c y,H c=some (.own y)->c≠x:=λc y r z=>by subst z;rw[r] at mu;exact mu
 have ntup:∀c xs,H c=some (.tup xs)->c≠x:=λc xs r z=>by subst z;rw[r] at mu;exact mu
 by_cases hb:b=x
 ·subst hb;rw[bw] at q;cases q;exact new
 ·rw[aC hb] at q
  by_cases hbe:b=e
  ·have q':H b=some (.own x):=by
    rcases he with z|z
    ·exact absurd (hbe.trans z) hb
    ·rw[hbe];exact z
   rw[q] at q';cases q'
   obtain⟨v,hv⟩:=heo
   exact⟨v,by rw[hbe];exact hv⟩
  ·refine(ok b u q).jn (λc v hc r=>k c v ?_ r) (λc r=>by rw[aC (nown c b r)];exact r) λc xs r=>by rw[aC (ntup c xs r)];exact r
   rcases hc with rfl|hc
   ·exact hbe
   ·rintro rfl
    rcases he with z|z
    ·exact nown c b hc z
    ·rw[hc] at z;cases z;exact hb rfl
end
structure Un (fs ex:List Addr) (H H':Hp) (h h':Heap):Prop where
 keep:∀b o,h.get? b=some o->H b=none->b∉fs->b∉ex->h'.get? b=some o
 slot:∀b o,h.get? b=some o->H b=none->b∈fs->b∉ex->∃sl,h'.get? b=some { o with slots:=sl }
 free:∀b o,h.get? b=some o->H b=none->b∉ex->H' b=none
 there:∀b o,h.get? b=some o->b∉ex->∃o',h'.get? b=some o'
 tups:∀b xs,H b=some (.tup xs)->H' b=some (.tup xs)
 frzs:∀b o u,H b=some (.frz o u)->H' b=some (.frz o u)
 tbls:∀b ps,H b=some (.tbl ps)->∃more,H' b=some (.tbl (ps++more))
section
variable{fs fs' ex ex':List Addr}{H H1 H2:Hp}{h h1 h2 h':Heap}{a x e:Addr}{o:HO}
theorem Un.any(u:Un fs ex H H1 h h1){b:Addr}{ob:Obj}(q:h.get? b=some ob)(n:H b=none)(hx:b∉ex):∃sl,h1.get? b=some { ob with slots:=sl }:=by
 by_cases hb:b∈fs
 ·exact u.slot b ob q n hb hx
 ·exact⟨ob.slots,u.keep b ob q n hb hx⟩
theorem Un.kept(k:∀b u,h.get? b=some u->h'.get? b=some u):Un fs ex H H h h' :=
 ⟨λb ob q _ _ _=>k b ob q,λb ob q _ _ _=>⟨ob.slots,k b ob q⟩,λ_ _ _ n _=>n,λb ob q _=>⟨ob,k b ob q⟩,λ_ _ q=>q,λ_ _ _ q=>q,λ_ ps q=>⟨#[],by rw[q];simp⟩⟩
theorem Un.refl:Un fs ex H H h h:=Un.kept λ_ _ q=>q
theorem Un.laid(k:∀b u,h.get? b=some u->h'.get? b=some u)(hp:h.objs.size<=a)(hn:H a=none):Un fs ex H (upd H a o) h h' where
 keep:=λb u q _ _ _=>k b u q
 slot:=λb u q _ _ _=>⟨u.slots,k b u q⟩
 free:=λb u q n _=>by rw[aC (My (L4 (Mf q) hp))];exact n
 there:=λb u q _=>⟨u,k b u q⟩
 tups:=λb xs q=>by rw[aC (aT q hn)];exact q
 frzs:=λb u xs q=>by rw[aC (aT q hn)];exact q
 tbls:=λb ps q=>⟨#[],by rw[aC (aT q hn),q];simp⟩
theorem Un.write(mu:Mut (H x))(he:e=x\/H e=some (.own x))(k:∀b u,b≠e->h.get? b=some u->h'.get? b=some u)(heo:∃u,h'.get? e=some u):Un fs ex H (upd H x o) h h':=by
 have hx:∀b,H b=none->b≠x:=λb n z=>by subst z;rw[n] at mu;exact mu
 have hb:∀b,H b=none->b≠e:=λb n z=>by
  subst z
  rcases he with r|r
  ·exact hx b n r
  ·rw[n] at r;cases r
 have hm:∀b u,H b=some u->¬ Mut (some u)->b≠x:=λb u q nm z=>by subst z;rw[q] at mu;exact nm mu
 refine⟨λb u q n _ _=>k b u (hb b n) q,λb u q n _ _=>⟨u.slots,k b u (hb b n) q⟩,λb u q n _=>by rw[aC (hx b n)];exact n,λb u q _=>?_,
  λb xs q=>by rw[aC (hm b _ q λz=>z)];exact q,λb u xs q=>by rw[aC (hm b _ q λz=>z)];exact q,λb ps q=>⟨#[],by rw[aC (hm b _ q λz=>z),q];simp⟩⟩
 by_cases hbe:b=e
 ·subst hbe;exact heo
 ·exact⟨u,k b u hbe q⟩
end
noncomputable def trk(h:Heap)(H:Hp):List Addr:=(MD h.objs.size).filter λa=>(H a).isSome
noncomputable def nI(h:Heap)(H:Hp):Heap:=OG h (trk h H)
theorem tU(h:Heap)(H:Hp):(nI h H).objs.size=h.objs.size:=PySem.W.hideAll_size _ _
variable{o:Obj}
theorem vM{h:Heap}{b:Addr}(e:h.get? b=some o)(n:H b=none):(nI h H).get? b=some o :=
 P6 _ e λhm=>by
  have q:(H b).isSome=true:=(NX.mp hm).2
  rw[n] at q;simp at q
theorem zi{h:Heap}{b:Addr}(e:(nI h H).get? b=some o):h.get? b=some o/\H b=none:=by
 have e':h.get? b=some o:=Qc (trk h H) e
 refine⟨e',?_⟩
 cases q:H b with
 | none=>rfl
 | some x =>
  have hm:b∈trk h H:=NX.mpr ⟨Oj.mpr (Mf e'),by simp[q]⟩
  have z:(nI h H).get? b=none:=PySem.W.hideAll_none (trk h H) hm
  rw[z] at e;cases e
noncomputable def Bo(g h:Heap)(L:Addr):List (Addr×Obj):=(MD h.objs.size).filterMap λa=>if a=L\/(g.get? a).isSome=true then none else (h.get? a).map λo=>(a,o)
noncomputable def rest(g h:Heap)(L d:Addr):List (Addr×Obj):=(Bo g h L).filter λp=>decide (p.1≠d)
structure Mod (K:LU) (mg:Str->Option Value) (base:Heap):Prop where
 kin:K.In base
 glob:base.Ns mainGlobals mg
 blt:∃mb,base.Ns builtinsNs mb/\∀x:Str,x ≠ "__name__" -> mb x=bootBuiltins x
 nolimit:base.NoLimit
structure Cx where
 prog:Program
 w:World
 K:LU
 mg:Str->Option Value
 base:Heap
 A:Around
 N:List Str
 s₀:Shared
 H₀:Hp
 env:Env
 outer:List Env
 stack:List Env
 ex:List Addr
 fn:Str->Bool
 calm:Bool
 pn:List (Addr×Obj)
 xe:Value->Shared->Prop
noncomputable def frs(l:List Env):List Addr:=l.filterMap (·.frame)
noncomputable abbrev Cx.fs(X:Cx):List Addr:=frs X.outer
def Vis(sc:Scope)(x:Str):Prop:=sc.names.lookup x=some .local\/sc.names.lookup x=some .cell\/sc.names.lookup x=some .free
def Loc(sc:Scope)(x:Str):Prop:=sc.names.lookup x=some .local\/sc.names.lookup x=some .cell
noncomputable def Look(env:Env)(h:Heap)(m:Str->Option Value)(x:Str)(u:Value):Prop :=
 (env.kindOf x=some .local/\m x=some u)\/((env.kindOf x=some .cell\/env.kindOf x=some .free)/\∃c,env.cells.lookup x=some c/\h.IsCell c (some u))
structure Cx.Ok (X:Cx):Prop where
 mod:Mod X.K X.mg X.base
 kind:X.env.scope.kind=.function
 glob:X.env.globals=mainGlobals
 blt:X.env.builtins=builtinsNs
 above:X.s₀.heap.objs.size<=X.env.locals
 inj:∀x y c,X.env.cells.lookup x=some c->X.env.cells.lookup y=some c->x=y
 has:∀x,(X.env.kindOf x=some .cell\/X.env.kindOf x=some .free)->∃c,X.env.cells.lookup x=some c
 cab:∀x c,X.fn x=true->X.env.cells.lookup x=some c->X.s₀.heap.objs.size<=c
 hd:X.calm=true->X.A.handled=none
 frames:X.A.frames=some X.stack
 stk:X.stack=X.outer\/(X.stack=X.env::X.outer/\X.env.frame=some X.env.locals)
 exf:∀b∈X.ex,b≠X.env.locals/\∀x c,X.env.cells.lookup x=some c->c≠b
 bs:∀b o,X.base.get? b=some o->X.s₀.heap.get? b=some o/\X.H₀ b=none
 bsz:X.base.objs.size<=X.s₀.heap.objs.size
 noex:∀b o,X.base.get? b=some o->b∉X.ex
 exfs:∀b∈X.ex,b∉X.fs
 gu:X.s₀.heap.FunFrames X.base X.outer
 frf:∀b∈X.fs,X.H₀ b=none
structure Inv (X:Cx) (pins:List (Addr×Obj)) (σ:List (Option V)) (H:Hp) (s:Shared):Prop where
 ok:X.Ok
 os:s.os=X.s₀.os
 bare:AllBare s.gens
 base:Un X.fs X.ex X.H₀ H X.s₀.heap s.heap
 loc:∃m,s.heap.Ns X.env.locals m/\∀(i:Nat)(x:Str)(v:V),X.N[i]?=some x->σ[i]?=some (some v)->Vis X.env.scope x->∃u,RelV v u/\Look X.env s.heap m x u
 cell:∀x c,X.env.cells.lookup x=some c->∃v,s.heap.IsCell c v
 free:H X.env.locals=none
 freeC:∀x c,X.env.cells.lookup x=some c->H c=none
 pin:∀p∈X.pn++pins,s.heap.get? p.1=some p.2/\H p.1=none/\p.1≠X.env.locals/\p.1∉X.fs/\∀v,p.2.data≠.cell v
 hok:HOk X.prog X.w H s.heap
 len:σ.length=X.N.length
variable{g':Array GenState}{t' i j:Nat}{d':Drawn}{ch:List Addr}{it:Addr}{N:List Str}{x:Str}{E:Value->Shared->Prop}{u:Value}
section
variable{X:Cx}{pins:List (Addr×Obj)}{σ:List (Option V)}{H H':Hp}{s:Shared}{h':Heap}
theorem Cx.Ok.Lu(ok:X.Ok){b:Addr}(e:X.base.get? b=some o):b∉X.fs:=λhb=>by
 have:=(ok.gu.mem hb).1
 rw[e] at this;cases this
theorem Inv.bs(I:Inv X pins σ H s):∀b o,X.base.get? b=some o->s.heap.get? b=some o/\H b=none:=λb o e =>
 ⟨I.base.keep b o (I.ok.bs b o e).1 (I.ok.bs b o e).2 (I.ok.Lu e) (I.ok.noex b o e),I.base.free b o (I.ok.bs b o e).1 (I.ok.bs b o e).2 (I.ok.noex b o e)⟩
theorem Inv.bk(I:Inv X pins σ H s):∀b o,X.base.get? b=some o->s.heap.get? b=some o:=λb o e=>(I.bs b o e).1
theorem Inv.mod(I:Inv X pins σ H s):Mod X.K X.mg X.base:=I.ok.mod
theorem Inv.kIn(I:Inv X pins σ H s):X.K.In s.heap:=I.ok.mod.kin.keeps I.bk
theorem Inv.lt(I:Inv X pins σ H s):X.env.locals<s.heap.objs.size:=let ⟨_,hn,_⟩:=I.loc;hn.lt
theorem Inv.sz(I:Inv X pins σ H s):X.s₀.heap.objs.size<=s.heap.objs.size:=Mr I.ok.above (Qd I.lt)
theorem Inv.HG(I:Inv X pins σ H s){a:Addr}(h:s.heap.objs.size<=a):a∉X.fs:=λhb=>by
 obtain⟨_,o,ho,_⟩:=I.ok.gu.mem hb
 exact absurd (L4 (Mf ho) (Mr I.sz h)) (MM _)
theorem Inv.cne(I:Inv X pins σ H s):∀x c,X.env.cells.lookup x=some c->c≠X.env.locals:=λx c e z=>by
 obtain⟨v,o,ho,hd⟩:=I.cell x c e
 obtain⟨m,⟨o',es,ep,ho',hd',_⟩,_⟩:=I.loc
 rw[z,ho'] at ho;cases ho;rw[hd'] at hd;cases hd
theorem Inv.gu(I:Inv X pins σ H s):s.heap.FunFrames X.base X.outer:=by
 have all:∀(l:List Env),(∀b∈frs l,b∈X.fs)->X.s₀.heap.FunFrames X.base l->s.heap.FunFrames X.base l:=by
  intro l
  induction l with
  | nil=>intro _ _;trivial
  | cons env r ih =>
   intro hs hl
   obtain⟨hk,⟨L,o,hf,hn,ho,hd⟩,hr⟩:=hl
   have hL:L∈X.fs:=hs L (by unfold frs;rw[M6,hf];exact L8)
   obtain⟨sl,e⟩:=I.base.slot L o ho (I.ok.frf L hL) hL λz=>I.ok.exfs L z hL
   exact⟨hk,⟨L,_,hf,hn,e,hd⟩,ih (λb hb=>hs b (by unfold frs;rw[M6,hf];exact L6 _ hb)) hr⟩
 exact all X.outer (λ_ hb=>hb) I.ok.gu
theorem Inv.stack(I:Inv X pins σ H s):s.heap.FunFrames X.base X.stack:=by
 rcases I.ok.stk with e|⟨e,hf⟩
 ·rw[e];exact I.gu
 ·rw[e]
  obtain⟨m,hn,_⟩:=I.loc
  refine .cons (by rw[I.ok.kind];decide) hf hn ?_ I.gu
  exact Qn (Mr I.ok.bsz I.ok.above)
theorem Inv.iu(I:Inv X pins σ H s):∀b∈frs X.stack,b∈X.env.locals::X.fs:=λb hb=>by
 rcases I.ok.stk with e|⟨e,hf⟩
 ·rw[e] at hb;exact L6 _ hb
 ·rw[e] at hb
  unfold frs at hb
  rw[M6,hf] at hb
  exact hb
theorem Inv.mF(I:Inv X pins σ H s):∀b∈frs X.stack,H b=none:=λb hb=>by
 rcases Ml.mp (I.iu b hb) with e|hb
 ·rw[e];exact I.free
 ·obtain⟨_,o,ho,_⟩:=I.ok.gu.mem hb
  exact I.base.free b o ho (I.ok.frf b hb) λz=>I.ok.exfs b z hb
theorem Inv.step(I:Inv X pins σ H s)
  (hch:∀b∈ch,(b∈X.ex\/X.s₀.heap.objs.size<=b)/\b≠X.env.locals/\(∀x c,X.env.cells.lookup x=some c->c≠b)/\∀p∈X.pn++pins,p.1≠b)
  (keep:∀b o,b≠X.env.locals->b∉X.fs->b∉ch->s.heap.get? b=some o->H b=none->h'.get? b=some o)
  (slot:∀b o,b≠X.env.locals->b∈X.fs->b∉ch->s.heap.get? b=some o->H b=none->∃sl,h'.get? b=some { o with slots:=sl })(free:∀b o,b∉ch->s.heap.get? b=some o->H b=none->H' b=none)
  (there:∀b o,b∉ch->s.heap.get? b=some o->∃o',h'.get? b=some o')
  (tups:∀b xs,H b=some (.tup xs)->H' b=some (.tup xs))(frzs:∀b o u,H b=some (.frz o u)->H' b=some (.frz o u))(tbls:∀b ps,H b=some (.tbl ps)->∃more,H' b=some (.tbl (ps++more)))
  (ns:∀m,s.heap.Ns X.env.locals m->h'.Ns X.env.locals m)(hok:HOk X.prog X.w H' h')(hg:AllBare g') :
  Inv X pins σ H' { s with heap:=h',gens:=g',drawn:=d',toks:=t' }:=by
 have neL:∀b o,X.s₀.heap.get? b=some o->b≠X.env.locals:=λb o e=>My (L4 (Mf e) I.ok.above)
 have neC:∀b o,X.s₀.heap.get? b=some o->b∉X.ex->b∉ch:=λb o e hx hb=>by
  rcases(hch b hb).1 with z|z
  ·exact hx z
  ·exact absurd (L4 (Mf e) z) (MM _)
 have cellK:∀x c,X.env.cells.lookup x=some c->∀v,s.heap.IsCell c v->h'.IsCell c v:=λx c e v ⟨o,ho,hd⟩=>by
  have nch:c∉ch:=λz=>(hch c z).2.2.1 x c e rfl
  by_cases hc:c∈X.fs
  ·obtain⟨sl,q⟩:=slot c o (I.cne x c e) hc nch ho (I.freeC x c e)
   exact⟨_,q,hd⟩
  ·exact⟨o,keep c o (I.cne x c e) hc nch ho (I.freeC x c e),hd⟩
 refine⟨I.ok,I.os,hg,⟨λb o e n hb hx=>?_,λb o e n hb hx=>?_,λb o e n hx=>?_,λb o e hx=>?_,λb xs e=>tups b xs (I.base.tups b xs e),λb o xs e=>frzs b o xs (I.base.frzs b o xs e),λb ps e=>?_⟩,?_,λx c e=>?_,?_,λx c e=>?_,λp hp=>?_,hok,I.len⟩
 ·exact keep b o (neL b o e) hb (neC b o e hx) (I.base.keep b o e n hb hx) (I.base.free b o e n hx)
 ·obtain⟨sl,e1⟩:=I.base.slot b o e n hb hx
  obtain⟨sl',e2⟩:=slot b _ (neL b o e) hb (neC b o e hx) e1 (I.base.free b o e n hx)
  exact⟨sl',e2⟩
 ·obtain⟨o',e1⟩:=I.base.there b o e hx
  exact free b o' (neC b o e hx) e1 (I.base.free b o e n hx)
 ·obtain⟨o',e1⟩:=I.base.there b o e hx
  exact there b o' (neC b o e hx) e1
 ·obtain⟨m1,e1⟩:=I.base.tbls b ps e
  obtain⟨m2,e2⟩:=tbls b _ e1
  exact⟨m1++m2,by rw[e2,O5]⟩
 ·obtain⟨m,hn,hl⟩:=I.loc
  refine⟨m,ns m hn,λi x v e1 e2 e3=>?_⟩
  obtain⟨u,r,l⟩:=hl i x v e1 e2 e3
  refine⟨u,r,?_⟩
  rcases l with l|⟨k,c,e,z⟩
  ·exact .inl l
  ·exact .inr ⟨k,c,e,cellK x c e _ z⟩
 ·obtain⟨v,z⟩:=I.cell x c e
  exact⟨v,cellK x c e v z⟩
 ·obtain⟨m,⟨o,_,_,ho,_⟩,_⟩:=I.loc
  exact free _ o (λz=>(hch _ z).2.1 rfl) ho I.free
 ·obtain⟨v,o,ho,hd⟩:=I.cell x c e
  exact free c o (λz=>(hch c z).2.2.1 x c e rfl) ho (I.freeC x c e)
 ·obtain⟨e,n,ne,nf,d⟩:=I.pin p hp
  have nch:p.1∉ch:=λz=>(hch p.1 z).2.2.2 p hp rfl
  exact⟨keep p.1 p.2 ne nf nch e n,free p.1 p.2 nch e n,ne,nf,d⟩
theorem Inv.un(I:Inv X pins σ H s)(u:Un X.fs [] H H' s.heap h')(hok:HOk X.prog X.w H' h'):Inv X pins σ H' { s with heap:=h',toks:=t' }:=by
 obtain⟨m,⟨o,es,ep,ho,r⟩,_⟩:=id I.loc
 obtain⟨sl,hL⟩:=u.any ho I.free (by simp)
 exact I.step (g':=s.gens) (d':=s.drawn) (ch:=[]) (λ_ z=>nomatch z) (λb o _ hb _ e n=>u.keep b o e n hb (by simp)) (λb o _ hb _ e n=>u.slot b o e n hb (by simp)) (λb o _ e n=>u.free b o e n (by simp)) (λb o _ e=>u.there b o e (by simp)) u.tups u.frzs u.tbls (λm' hm=>by
  obtain⟨o',es',ep',ho',r'⟩:=hm
  rw[ho] at ho';cases ho'
  exact⟨_,es',ep',hL,r'⟩) hok I.bare
theorem Inv.call(I:Inv X pins σ H s)(u:Un (frs X.stack) ch H H' s.heap h')(hok:HOk X.prog X.w H' h')(hg:AllBare g')
  (hch:∀b∈ch,(b∈X.ex\/X.s₀.heap.objs.size<=b)/\b≠X.env.locals/\(∀x c,X.env.cells.lookup x=some c->c≠b)/\∀p∈X.pn++pins,p.1≠b) :
  Inv X pins σ H' { s with heap:=h',gens:=g',drawn:=d',toks:=t' }:=by
 obtain⟨m,⟨o,es,ep,ho,r⟩,_⟩:=id I.loc
 obtain⟨sl,hL⟩:=u.any ho I.free λz=>(hch _ z).2.1 rfl
 exact I.step (ch:=ch) hch (λb o hL hb hc e n=>u.keep b o e n (λz=>(Ml.mp (I.iu b z)).elim hL hb) hc) (λb o _ _ hc e n=>u.any e n hc) (λb o hc e n=>u.free b o e n hc) (λb o hc e=>u.there b o e hc) u.tups u.frzs u.tbls (λm' hm=>by
  obtain⟨o',es',ep',ho',r'⟩:=hm
  rw[ho] at ho';cases ho'
  exact⟨_,es',ep',hL,r'⟩) hok hg
theorem Inv.turned(I:Inv X pins σ H s)(k:∀b o,b≠it->s.heap.get? b=some o->h'.get? b=some o)(hn:H it=none)(hL:it≠X.env.locals)
  (h1:it∈X.ex\/X.s₀.heap.objs.size<=it)(h2:∀x c,X.env.cells.lookup x=some c->c≠it)(h3:∀p∈X.pn++pins,p.1≠it):Inv X pins σ H { s with heap:=h',toks:=t' }:=by
 have nit:∀b u,H b=some u->b≠it:=λb u e z=>by rw[z,hn] at e;cases e
 refine I.step (g':=s.gens) (d':=s.drawn) (ch:=[it]) (λb hb=>?_) (λb o _ _ hc e _=>k b o (λz=>hc (by simp[z])) e) (λb o _ _ hc e _=>⟨o.slots,k b o (λz=>hc (by simp[z])) e⟩) (λ_ _ _ _ n=>n)
  (λb o hc e=>⟨o,k b o (λz=>hc (by simp[z])) e⟩) (λ_ _ e=>e) (λ_ _ _ e=>e) (λb ps e=>⟨#[],by rw[e];simp⟩) (λm hm=>?_) (λb u e=>?_) I.bare
 ·have e:b=it:=by simpa using hb
  subst e
  exact⟨h1,hL,h2,h3⟩
 ·obtain⟨o,es,ep,ho,r⟩:=hm
  exact⟨o,es,ep,k _ o (M8 hL) ho,r⟩
 ·refine(I.hok b u e).jn (λc v hc q=>k c v ?_ q) (λ_ q=>q) λ_ _ q=>q
  rcases hc with z|z
  ·rw[z];exact nit b u e
  ·exact nit c _ z
theorem Inv.tok(I:Inv X pins σ H s)(t:Nat):Inv X pins σ H { s with toks:=t }:=I.un (h':=s.heap) (t':=t) Un.refl I.hok
theorem Inv.kept{t':Nat}(I:Inv X pins σ H s)(k:∀b u,s.heap.get? b=some u->h'.get? b=some u):Inv X pins σ H { s with heap:=h',toks:=t' }:=I.un (Un.kept k) (I.hok.kept k)
theorem Inv.laid{a:Addr}{o:HO}{t':Nat}(I:Inv X pins σ H s)(k:∀b u,s.heap.get? b=some u->h'.get? b=some u)(hp:s.heap.objs.size<=a)(new:bb X.prog X.w (upd H a o) h' a o) :
  Inv X pins σ (upd H a o) { s with heap:=h',toks:=t' }:=I.un (Un.laid k hp (I.hok.fresh hp)) (I.hok.laid k hp new)
theorem Inv.write{x e:Addr}{o:HO}{t':Nat}(I:Inv X pins σ H s)(mu:Mut (H x))(he:e=x\/H e=some (.own x))(k:∀b u,b≠e->s.heap.get? b=some u->h'.get? b=some u)(heo:∃u,h'.get? e=some u)
  (new:bb X.prog X.w (upd H x o) h' x o):Inv X pins σ (upd H x o) { s with heap:=h',toks:=t' }:=I.un (Un.write mu he k heo) (I.hok.write mu he k heo new)
theorem Inv.jN{pins':List (Addr×Obj)}(I:Inv X pins σ H s)(h:∀p∈pins',s.heap.get? p.1=some p.2/\H p.1=none/\p.1≠X.env.locals/\p.1∉X.fs/\∀v,p.2.data≠.cell v):Inv X pins' σ H s :=
 ⟨I.ok,I.os,I.bare,I.base,I.loc,I.cell,I.free,I.freeC,λp hp=>(Me.mp hp).elim (λz=>I.pin p (Mm _ z)) (h p),I.hok,I.len⟩
theorem kl(hN:N.Nodup)(a:N[i]?=some x)(b:N[j]?=some x):i=j:=by
 obtain⟨h1,e1⟩:=Mb.mp a
 obtain⟨h2,e2⟩:=Mb.mp b
 exact(List.getElem_inj hN).mp (e1.trans e2.symm)
theorem k6{M:Model}{A:Around}{v:V}{Q:Unit->Shared->Prop}(I:Inv X pins σ H s)(hN:X.N.Nodup)(hi:X.N[i]?=some x)(hx:Loc X.env.scope x)(r:RelV v u)
  (h:∀s',Inv X pins (σ.set i (some v)) H s'->(∃a,NO a s.heap s'.heap/\(a=X.env.locals\/X.env.cells.lookup x=some a))->Q () s')(hf:X.fn x=true\/X.env.scope.names.lookup x=some .local:=by first|exact .inl rfl|exact .inr rfl|assumption):wpAny M A (storeName X.env x u) Q E s:=by
 obtain⟨m,hn,hl⟩:=id I.loc
 have hcls:(X.env.scope.kind==.class || (X.env.scope.kind==.module&&X.env.locals != X.env.globals))=false:=by rw[I.ok.kind];rfl
 have hiσ:i<σ.length:=by rw[I.len];exact(Mb.mp hi).1
 have cne:=I.cne
 have tracked:∀{a:Addr}{h':Heap},(∃o,s.heap.get? a=some o/\H a=none)->NO a s.heap h'->HOk X.prog X.w H h':=λ{a h'} ha hs b ob e=>by
  obtain⟨_,_,hfree⟩:=ha
  refine(I.hok b ob e).jn (λc w' hc q=>(hs.2 c ?_).trans q) (λ_ q=>q) λ_ _ q=>q
  rintro rfl
  rcases hc with rfl|hc
  ·rw[hfree] at e;cases e
  ·rw[hfree] at hc;cases hc
 rcases hx with hk|hk
 ·refine wpAny_storeName_local hk hn (λh' hn' hs=>?_) hcls
  obtain⟨oL,_,_,hoL,_⟩:=id hn
  refine h _ ⟨I.ok,I.os,I.bare,⟨λb o e n hb hx=>?_,λb o e n hb hx=>?_,I.base.free,λb o e hx=>?_,I.base.tups,I.base.frzs,I.base.tbls⟩,⟨_,hn',λj y v' e1 e2 e3=>?_⟩,λy c e=>?_,I.free,I.freeC,λp hp=>?_,tracked ⟨oL,hoL,I.free⟩ hs,by simpa using I.len⟩ ⟨_,hs,.inl rfl⟩
  ·exact(hs.2 b (My (L4 (Mf e) I.ok.above))).trans (I.base.keep b o e n hb hx)
  ·obtain⟨sl,e1⟩:=I.base.slot b o e n hb hx
   exact⟨sl,(hs.2 b (My (L4 (Mf e) I.ok.above))).trans e1⟩
  ·obtain⟨o',e1⟩:=I.base.there b o e hx
   exact⟨o',(hs.2 b (My (L4 (Mf e) I.ok.above))).trans e1⟩
  ·by_cases hj:j=i
   ·subst hj
    rw[hi] at e1;cases e1
    rw[MF hiσ] at e2
    cases e2
    exact⟨u,r,.inl ⟨hk,by simp⟩⟩
   ·rw[MR (M8 hj)] at e2
    obtain⟨u',r',q⟩:=hl j y v' e1 e2 e3
    refine⟨u',r',?_⟩
    rcases q with ⟨k,e⟩|⟨k,c,e,z⟩
    ·refine .inl ⟨k,?_⟩
     have:y≠x:=λe=>hj (kl hN e1 (e▸hi))
     simp[this,e]
    ·exact .inr ⟨k,c,e,z.sameBut hs (cne y c e)⟩
  ·obtain⟨w',z⟩:=I.cell y c e
   exact⟨w',z.sameBut hs (cne y c e)⟩
  ·obtain⟨e,n,ne,nf,d⟩:=I.pin p hp
   exact⟨(hs.2 p.1 ne).trans e,n,ne,nf,d⟩
 ·have hfn:X.fn x=true:=by
   rcases hf with z|z
   ·exact z
   ·rw[z] at hk;cases hk
  obtain⟨c,hc⟩:=I.ok.has x (.inl hk)
  obtain⟨w',z⟩:=I.cell x c hc
  refine wpAny_storeName_cell I.ok.kind hk hc z (λh' hc' hs=>?_)
  obtain⟨oc,hoc,hocd⟩:=id z
  refine h { s with heap:=h' } ⟨I.ok,I.os,I.bare,⟨λb o e n hb hx=>?_,λb o e n hb hx=>?_,I.base.free,λb o e hx=>?_,I.base.tups,I.base.frzs,I.base.tbls⟩,⟨m,hn.sameBut hs (M8 (cne x c hc)),λj y v' e1 e2 e3=>?_⟩,λy c' e=>?_,I.free,I.freeC,λp hp=>?_,tracked ⟨oc,hoc,I.freeC x c hc⟩ hs,by simpa using I.len⟩ ⟨c,hs,.inr hc⟩
  ·exact(hs.2 b (My (L4 (Mf e) (I.ok.cab x c hfn hc)))).trans (I.base.keep b o e n hb hx)
  ·obtain⟨sl,e1⟩:=I.base.slot b o e n hb hx
   exact⟨sl,(hs.2 b (My (L4 (Mf e) (I.ok.cab x c hfn hc)))).trans e1⟩
  ·obtain⟨o',e1⟩:=I.base.there b o e hx
   exact⟨o',(hs.2 b (My (L4 (Mf e) (I.ok.cab x c hfn hc)))).trans e1⟩
  ·by_cases hj:j=i
   ·subst hj
    rw[hi] at e1;cases e1
    rw[MF hiσ] at e2
    cases e2
    exact⟨u,r,.inr ⟨.inl hk,c,hc,hc'⟩⟩
   ·rw[MR (M8 hj)] at e2
    obtain⟨u',r',q⟩:=hl j y v' e1 e2 e3
    refine⟨u',r',?_⟩
    rcases q with q|⟨k,c',e,z'⟩
    ·exact .inl q
    ·refine .inr ⟨k,c',e,z'.sameBut hs ?_⟩
     rintro rfl
     exact hj (kl hN e1 (I.ok.inj _ _ _ e hc▸hi))
  ·by_cases hcc:c'=c
   ·subst hcc;exact⟨_,hc'⟩
   ·obtain⟨w2,z2⟩:=I.cell y c' e
    exact⟨w2,z2.sameBut hs hcc⟩
  ·obtain⟨e,n,ne,nf,d⟩:=I.pin p hp
   refine⟨(hs.2 p.1 ?_).trans e,n,ne,nf,d⟩
   intro q
   rw[q,hoc] at e
   have q':oc=p.2:=Mc e
   exact d w' (by rw[<- q'];exact hocd)
theorem fw{M:Model}{A:Around}{v:V}{Q:Unit->Shared->Prop}(I:Inv X pins σ H s)(hN:X.N.Nodup)(hi:X.N[i]?=some x)(hx:Loc X.env.scope x)(r:RelV v u)
  (h:∀s',Inv X pins (σ.set i (some v)) H s'->Q () s')(hf:X.fn x=true\/X.env.scope.names.lookup x=some .local:=by first|exact .inl rfl|exact .inr rfl|assumption):wpAny M A (storeName X.env x u) Q E s :=
 k6 I hN hi hx r (λs' I' _=>h s' I') hf
theorem Inv.y4{s':Shared}(I:Inv X pins σ H s)(ho:s'.os=s.os)(u:Un (frs X.stack) ch H H' s.heap s'.heap)(hok:HOk X.prog X.w H' s'.heap)(hg:AllBare s'.gens)
  (hch:∀b∈ch,(b∈X.ex\/X.s₀.heap.objs.size<=b)/\b≠X.env.locals/\(∀x c,X.env.cells.lookup x=some c->c≠b)/\∀p∈X.pn++pins,p.1≠b):Inv X pins σ H' s':=by
 obtain⟨h',g',d',t',o'⟩:=s'
 have e:o'=s.os:=ho
 subst e
 exact I.call (g':=g') (t':=t') (d':=d') u hok hg hch
end
noncomputable abbrev XK:=Value->Option Addr->Hp->Prop
noncomputable abbrev St:=List (Option V)
noncomputable abbrev VK:=V->Hp->Prop
noncomputable abbrev TE:=St->Hp->VK->Prop
noncomputable abbrev TT:=St->Hp->(Bool->Hp->Prop)->Prop
noncomputable abbrev TA:=St->Hp->(List V->Hp->Prop)->Prop
structure Ends where
 nx:St->Hp->Prop
 rt:VK
 bk:St->Hp->Prop:=λ_ _=>False
 ct:St->Hp->Prop:=λ_ _=>False
noncomputable abbrev TS:=Ends->St->Hp->Prop
def EP(X:Cx)(pins:List (Addr×Obj))(σ:St)(Q:VK)(u:Value)(s':Shared):Prop:=∃v H',Inv X pins σ H' s'/\RelV v u/\Q v H'
def TP(X:Cx)(pins:List (Addr×Obj))(σ:St)(Q:Bool->Hp->Prop)(b:Bool)(s':Shared):Prop:=∃H',Inv X pins σ H' s'/\Q b H'
def AP(X:Cx)(pins:List (Addr×Obj))(σ:St)(Q:List V->Hp->Prop)(us:List Value)(s':Shared):Prop:=∃vs H',Inv X pins σ H' s'/\Vals vs us/\Q vs H'
noncomputable def SP(X:Cx)(pins:List (Addr×Obj))(D:Ends)(f:Flow)(s':Shared):Prop :=
 match f with
 | .next=>∃σ' H',Inv X pins σ' H' s'/\D.nx σ' H'
 | .brk=>∃σ' H',Inv X pins σ' H' s'/\D.bk σ' H'
 | .cont=>∃σ' H',Inv X pins σ' H' s'/\D.ct σ' H'
 | .ret u=>∃v σ' H',Inv X pins σ' H' s'/\RelV v u/\D.rt v H'
noncomputable def PE(X:Cx)(e:Expr)(t:TE):Prop :=
 ∀(pins:List (Addr×Obj))(s:Shared)(σ:St)(H:Hp)(Q:VK),Inv X pins σ H s->t σ H Q->wpAny (model X.prog X.w) X.A (eval e X.env) (EP X pins σ Q) X.xe s
noncomputable def PT(X:Cx)(e:Expr)(t:TT):Prop :=
 ∀(pins:List (Addr×Obj))(s:Shared)(σ:St)(H:Hp)(Q:Bool->Hp->Prop),Inv X pins σ H s->t σ H Q->wpAny (model X.prog X.w) X.A (isTrue e X.env (eval e X.env)) (TP X pins σ Q) X.xe s
noncomputable def PW(X:Cx)(e:Expr)(t:TT):Prop :=
 ∀(whole:Sem Value)(pins:List (Addr×Obj))(s:Shared)(σ:St)(H:Hp)(Q:Bool->Hp->Prop),Inv X pins σ H s->t σ H Q->wpAny (model X.prog X.w) X.A (isTrue e X.env whole) (TP X pins σ Q) X.xe s
variable{X:Cx}{e:Expr}
theorem PW.pt{t:TT}(h:PW X e t):PT X e t:=h _
noncomputable def PA(X:Cx)(es:List Expr)(t:TA):Prop :=
 ∀(pos:Pos)(pins:List (Addr×Obj))(s:Shared)(σ:St)(H:Hp)(Q:List V->Hp->Prop),Inv X pins σ H s->t σ H Q->wpAny (model X.prog X.w) X.A (spliced (backTo pos (starEach es X.env))) (AP X pins σ Q) X.xe s
noncomputable def PS(X:Cx)(st:Stmt)(t:TS):Prop :=
 ∀(pins:List (Addr×Obj))(s:Shared)(σ:St)(H:Hp)(D:Ends),Inv X pins σ H s->t D σ H->wpAny (model X.prog X.w) X.A (exec st X.env) (SP X pins D) X.xe s
noncomputable def PSs(X:Cx)(st:List Stmt)(t:TS):Prop :=
 ∀(pins:List (Addr×Obj))(s:Shared)(σ:St)(H:Hp)(D:Ends),Inv X pins σ H s->t D σ H->wpAny (model X.prog X.w) X.A (execs st X.env) (SP X pins D) X.xe s
variable{α:Type}{s:Shared}
theorem thn{t:Sem α}{Q Q':α->Shared->Prop}{M:Model}{A:Around}(h:wpAny M A t Q E s)(hQ:∀a s,Q a s->Q' a s):wpAny M A t Q' E s:=wpAny_mono h hQ λ_ _ x=>x
variable{pins:List (Addr×Obj)}{σ:St}{R:V->V->Hp->Prop}{pos:Pos}{Q:Value->Shared->Prop}{op:CmpOp}{c:Expr}
section
variable{X:Cx}
theorem bin{a b:Expr}{ta tb:TE}(ha:PE X a ta)(hb:PE X b tb)(I:Inv X pins σ H s)(h:ta σ H λx H1=>tb σ H1 λy H2=>R x y H2)
  {Q:α->Shared->Prop}{f:Value->Value->Sem α}
  (hf:∀v u s2 x y H2,Inv X pins σ H2 s2->RelV x v->RelV y u->R x y H2->wpAny (model X.prog X.w) X.A (f v u) Q X.xe s2) :
  wpAny (model X.prog X.w) X.A (eval a X.env) (λv s₁=>wpAny (model X.prog X.w) X.A (eval b X.env) (λu s₂=>wpAny (model X.prog X.w) X.A (f v u) Q X.xe s₂) X.xe s₁) X.xe s:=by
 refine thn (ha pins s σ H _ I h) λv s1 ⟨x,H1,I1,r1,q1⟩=>?_
 refine thn (hb pins s1 σ H1 _ I1 q1) λu s2 ⟨y,H2,I2,r2,q2⟩=>?_
 exact hf v u s2 x y H2 I2 r1 r2 q2
noncomputable def ID(i:Nat):TE:=λσ H Q=>∃v,σ[i]?=some (some v)/\Q v H
noncomputable def tC(v:V):TE:=λ_ H Q=>Q v H
theorem eY(hN:X.N[i]?=some x)(hv:Vis X.env.scope x)(hd:NDb x:=by decide)(hcd:NCd x:=by decide):PE X (.Name x pos) (ID i):=by
 intro pins s σ H Q I h
 obtain⟨v,e,h⟩:=h
 obtain⟨m,hn,hl⟩:=I.loc
 obtain⟨u,r,l⟩:=hl i x v hN e hv
 have fin:EP X pins σ Q u s:=⟨v,H,I,r,h⟩
 rcases l with ⟨hk,hm⟩|⟨hk,c,hc,hcell⟩
 ·exact wpAny_Name (wpAny_loadName_local I.ok.kind hk hn hm fin) hd
 ·rcases hk with hk|hk
  ·exact wpAny_Name (wpAny_loadName_cell I.ok.kind hk hc hcell fin) hd
  ·exact wpAny_Name (wpAny_loadName_free I.ok.kind hk hc hcell fin hcd) hd
theorem E5{i j pos}:PE X (.Constant (.int i) j pos) (tC (.int i)):=λ_ _ _ H _ I h=>wpAny_Constant_int ⟨.int i,H,I.tok _,⟨_,rfl⟩,h⟩
theorem Jj{b j pos}:PE X (.Constant (.bool b) j pos) (tC (.bl b)):=λ_ _ _ H _ I h=>Constant_bool ⟨.bl b,H,I,rfl,h⟩
theorem GS{j pos}:PE X (.Constant .none j pos) (tC .non):=λ_ _ _ H _ I h=>Constant_none ⟨.non,H,I,rfl,h⟩
theorem Dr{x j pos}:PE X (.Constant (.str x) j pos) (tC (.str x)):=λ_ _ _ H _ I h=>Calls.Constant_str ⟨.str x,H,I.tok _,⟨_,rfl⟩,h⟩
def Gl(X:Cx)(x:Str):Prop:=X.env.kindOf x=some .globalImplicit
theorem eP(I:Inv X pins σ H s)(hg:Gl X x)(hm:X.mg x=some u)(h:Q u s)
  (hd:NDb x:=by decide):wpAny (model X.prog X.w) X.A (eval (.Name x pos) X.env) Q E s :=
 Py I.ok.kind hg (Calls.loadGlobal_global (by rw[I.ok.glob];exact I.mod.glob.keeps I.bk) hm h) hd
theorem kF(I:Inv X pins σ H s)(hg:Gl X x)(hm:X.mg x=none)(hv:bootBuiltins x=some u)(h:Q u s)
  (hn:x ≠ "__name__" := by decide)(hd:NDb x:=by decide):wpAny (model X.prog X.w) X.A (eval (.Name x pos) X.env) Q E s:=by
 obtain⟨mb,h1,h2⟩:=I.mod.blt
 exact Py I.ok.kind hg (Calls.loadGlobal_builtin (by rw[I.ok.glob];exact I.mod.glob.keeps I.bk) hm (by rw[I.ok.blt];exact h1.keeps I.bk) ((h2 x hn).trans hv) h) hd
theorem ng{v:V}(hg:Gl X x)(hm:X.mg x=some u)(r:RelV v u)(hd:NDb x:=by decide):PE X (.Name x pos) (tC v) :=
 λ_ _ _ H _ I h=>eP I hg hm ⟨v,H,I,r,h⟩ hd
theorem m9{v:V}(hg:Gl X x)(hm:X.mg x=none)(hv:bootBuiltins x=some u)(r:RelV v u)(hn:x ≠ "__name__" := by decide)(hd:NDb x:=by decide):PE X (.Name x pos) (tC v) :=
 λ_ _ _ H _ I h=>kF I hg hm hv ⟨v,H,I,r,h⟩ hn hd
variable{a b:Expr}{ta tb:TE}{pos:Pos}
noncomputable def PC(X:Cx)(op:CmpOp)(a b:Expr)(t:TE):Prop :=
 ∀(pins:List (Addr×Obj))(s:Shared)(σ:St)(H:Hp)(Q:VK),Inv X pins σ H s->t σ H Q ->
  wpAny (model X.prog X.w) X.A (eval a X.env) (λv s₁=>wpAny (model X.prog X.w) X.A (eval b X.env) (λu s₂=>wpAny (model X.prog X.w) X.A (compareOp op v u) (EP X pins σ Q) X.xe s₂) X.xe s₁) X.xe s
noncomputable def tB(t:TE):TT:=λσ H Q=>t σ H λx H1=>∃c,x=.bl c/\Q c H1
theorem uV{t:TE}(h:PC X op a b t)(h1:behindInMarks op b=false:=by first|exact nobehind _ (by decide) (by decide)|rfl):PE X (.Compare a [op] [b] pos) t:=λpins s σ H Q I hw=>wpAny_Compare1 (h pins s σ H Q I hw) h1
theorem xi{t:TE}(h:PC X op a b t)(h1:behindInMarks op b=false:=by first|exact nobehind _ (by decide) (by decide)|rfl):PT X (.Compare a [op] [b] pos) (tB t):=by
 intro pins s σ H Q I hw
 refine wpAny_isTrue_Compare1 (thn (h pins s σ H _ I hw) λv s1 h1=>thn h1 λu s2 h2=>thn h2 λc s3 ⟨x,H1,I1,r1,q1⟩=>?_) h1
 obtain⟨d,rfl,q⟩:=q1
 cases r1
 exact wpAny_truthy_bool ⟨H1,I1,q⟩
theorem EM{t:TE}(h:PE X e t)(he:∀whole,isTrue e X.env whole=(do let v <- whole;standAt e.pos;holding [v] (truthy v)):=by intro _;rfl):PT X e (tB t):=by
 intro pins s σ H Q I hw
 refine isTrue_plain (thn (h pins s σ H _ I hw) λv s1 ⟨x,H1,I1,r1,q1⟩=>?_) (he _)
 obtain⟨d,rfl,q⟩:=q1
 cases r1
 exact wpAny_truthy_bool ⟨H1,I1,q⟩
variable{tA tB':TT}{rest:List Expr}
noncomputable def Lw(t u:TT):TT:=λσ H Q=>t σ H λc H1=>if c=true then u σ H1 Q else Q false H1
noncomputable def tOr(t u:TT):TT:=λσ H Q=>t σ H λc H1=>if c=true then Q true H1 else u σ H1 Q
noncomputable def KO(t:TT):TT:=λσ H Q=>t σ H λc H1=>Q (!c) H1
theorem zq(ha:PT X a tA):PW X (.BoolOp .And [a] pos) tA:=by
 intro wh pins s σ H Q I h
 refine isTrue_and (thn (ha pins s σ H Q I h) λc s1 e=>?_)
 cases c with
 | true=>exact isTrue_and_nil e
 | false=>exact e
theorem Ff(ha:PT X a tA):PW X (.BoolOp .Or [a] pos) tA:=by
 intro wh pins s σ H Q I h
 refine isTrue_or (thn (ha pins s σ H Q I h) λc s1 e=>?_)
 cases c with
 | false=>exact isTrue_or_nil e
 | true=>exact e
theorem GA(ha:PT X a tA)(hb:PW X (.BoolOp .And (b::rest) pos) tB'):PW X (.BoolOp .And (a::b::rest) pos) (Lw tA tB'):=by
 intro wh pins s σ H Q I h
 refine isTrue_and (thn (ha pins s σ H _ I h) λc s1 ⟨H1,I1,q1⟩=>?_)
 cases c with
 | true=>exact hb wh pins s1 σ H1 Q I1 q1
 | false=>exact⟨H1,I1,q1⟩
theorem IZ(ha:PT X a tA)(hb:PW X (.BoolOp .Or (b::rest) pos) tB'):PW X (.BoolOp .Or (a::b::rest) pos) (tOr tA tB'):=by
 intro wh pins s σ H Q I h
 refine isTrue_or (thn (ha pins s σ H _ I h) λc s1 ⟨H1,I1,q1⟩=>?_)
 cases c with
 | true=>exact⟨H1,I1,q1⟩
 | false=>exact hb wh pins s1 σ H1 Q I1 q1
theorem GZ(ha:PT X a tA):PT X (.UnaryOp .Not a pos) (KO tA):=by
 intro pins s σ H Q I h
 exact isTrue_not (ha pins s σ H (λc H1=>Q (!c) H1) I h)
noncomputable def KA(ta tb:TE):TE:=λσ H Q=>ta σ H λx H1=>∃c,x=.bl c/\if c=true then tb σ H1 Q else Q (.bl false) H1
noncomputable def LL(ta tb:TE):TE:=λσ H Q=>ta σ H λx H1=>∃c,x=.bl c/\if c=true then Q (.bl true) H1 else tb σ H1 Q
noncomputable def Hy(ta:TE):TE:=λσ H Q=>ta σ H λx H1=>∃c,x=.bl c/\Q (.bl (!c)) H1
theorem Eb{op}{t:TE}(h:PE X a t):PE X (.BoolOp op [a] pos) t:=λpins s σ H Q I hw=>BoolOp_one (h pins s σ H Q I hw)
theorem Fv(ha:PE X a ta)(hb:PE X (.BoolOp .And (b::rest) pos) tb):PE X (.BoolOp .And (a::b::rest) pos) (KA ta tb):=by
 intro pins s σ H Q I h
 refine BoolOp_and (thn (ha pins s σ H _ I h) λv s1 ⟨x,H1,I1,r1,q1⟩=>?_)
 obtain⟨c,rfl,q1⟩:=q1
 cases r1
 refine wpAny_truthy_bool ?_
 cases c with
 | true=>exact hb pins s1 σ H1 Q I1 q1
 | false=>exact⟨.bl false,H1,I1,rfl,q1⟩
theorem Ij(ha:PE X a ta)(hb:PE X (.BoolOp .Or (b::rest) pos) tb):PE X (.BoolOp .Or (a::b::rest) pos) (LL ta tb):=by
 intro pins s σ H Q I h
 refine BoolOp_or (thn (ha pins s σ H _ I h) λv s1 ⟨x,H1,I1,r1,q1⟩=>?_)
 obtain⟨c,rfl,q1⟩:=q1
 cases r1
 refine wpAny_truthy_bool ?_
 cases c with
 | false=>exact hb pins s1 σ H1 Q I1 q1
 | true=>exact⟨.bl true,H1,I1,rfl,q1⟩
theorem ES(ha:PE X a ta):PE X (.UnaryOp .Not a pos) (Hy ta):=by
 intro pins s σ H Q I h
 refine UnaryOp_ (thn (ha pins s σ H _ I h) λv s1 ⟨x,H1,I1,r1,q1⟩=>?_)
 obtain⟨c,rfl,q1⟩:=q1
 cases r1
 exact not_of (wpAny_truthy_bool ⟨.bl (!c),H1,I1,rfl,q1⟩)
noncomputable def tIf(t:TT)(ta tb:TE):TE:=λσ H Q=>t σ H λc H1=>if c=true then ta σ H1 Q else tb σ H1 Q
theorem wA(hc:PT X c tA)(ha:PE X a ta)(hb:PE X b tb):PE X (.IfExp c a b pos) (tIf tA ta tb):=by
 intro pins s σ H Q I h
 refine wpAny_IfExp (thn (hc pins s σ H _ I h) λd s1 ⟨H1,I1,q1⟩=>?_)
 cases d with
 | true=>exact ha pins s1 σ H1 Q I1 q1
 | false=>exact hb pins s1 σ H1 Q I1 q1
end
noncomputable def SqL(K:LU)(H:Hp)(a:Addr)(xs:List V):Prop :=
 Rd H a (.lst xs) \/
  ∃(o:Obj) (its:Array Value) (n:Nat),K.lookup a=some o/\o.cls=.type "list" /\ o.dict=none/\o.data=.seq its n/\its.size<=sizeLine/\Vals xs its.toList
noncomputable def SqT(K:LU)(H:Hp)(a:Addr)(xs:List V):Prop :=
 Rd H a (.tup xs) \/
  ∃(o:Obj) (its:Array Value) (n:Nat),K.lookup a=some o/\(o.cls=.type "tuple" /\ o.dict=none)/\o.data=.seq its n/\its.size<=sizeLine/\Vals xs its.toList
noncomputable def Ld:Value->Option V
 | .none=>some .non
 | .bool b=>some (.bl b)
 | .int i _=>some (.int i)
 | .str x _=>some (.str x)
 | .bytes b _=>some (.byt b)
 | .float b _=>some (.flt b)
 | .ref a=>some (.ref a)
 | .type n=>some (.ty n)
 | _=>none
theorem RelV.abs{x:V}(r:RelV x u):Ld u=some x:=by
 cases x with
 | non=>cases r;rfl
 | bl _=>cases r;rfl
 | int _=>obtain⟨t,rfl⟩:=r;rfl
 | str _=>obtain⟨t,rfl⟩:=r;rfl
 | byt _=>obtain⟨t,rfl⟩:=r;rfl
 | flt _=>obtain⟨t,rfl⟩:=r;rfl
 | ref _=>cases r;rfl
 | ty _=>cases r;rfl
variable{y:V}
theorem RelV.inj{x:V}(r:RelV x u)(q:RelV y u):x=y:=Mc (r.abs.symm.trans q.abs)
theorem Vals.inj:∀{xs ys:List V}{us:List Value},Vals xs us->Vals ys us->xs=ys
 | _,_,_,.nil,.nil=>rfl
 | _,_,_,.cons r t,.cons r' t'=>by rw[r.inj r',Vals.inj t t']
section
variable{X:Cx}{pins:List (Addr×Obj)}{σ:St}{H:Hp}{s:Shared}{a:Addr}{xs ys:List V}
theorem Inv.list(I:Inv X pins σ H s)(h:SqL X.K H a xs):∃its:List Value,Vals xs its/\PlainL s.heap a its.toArray/\xs.length<=sizeLine:=by
 rcases h with h|⟨o,its,n,hk,hc,hd,hs,hz,r⟩
 ·obtain⟨z,its,n,r,e⟩:=h.ok I.hok
  exact⟨its,r,⟨_,n,e,rfl,rfl,rfl⟩,z⟩
 ·refine⟨its.toList,r,⟨o,n,I.kIn a o hk,hc,hd,by simpa using hs⟩,?_⟩
  have e:=r.length
  simp only[Nr] at e
  omega
theorem Inv.tuple(I:Inv X pins σ H s)(h:SqT X.K H a xs):∃its:List Value,Vals xs its/\IsTup s.heap a its.toArray/\xs.length<=sizeLine:=by
 rcases h with h|⟨o,its,n,hk,hc,hs,hz,r⟩
 ·obtain⟨z,its,r,p⟩:=h.ok I.hok
  exact⟨its,r,p.t,z⟩
 ·refine⟨its.toList,r,⟨o,I.kIn a o hk,hc.1,n,by simpa using hs⟩,?_⟩
  have e:=r.length
  simp only[Nr] at e
  omega
theorem Inv.nY(I:Inv X pins σ H s)(h:SqL X.K H a xs)(h':SqL X.K H a ys):xs=ys:=by
 obtain⟨its,r,⟨o,n,e,_,_,d⟩,_⟩:=I.list h
 obtain⟨its',r',⟨o',n',e',_,_,d'⟩,_⟩:=I.list h'
 rw[e] at e';cases e'
 rw[d] at d'
 injection d' with d1 _
 have:its=its':=by simpa using congrArg Q8 d1
 subst this
 exact r.inj r'
theorem Inv.lA(I:Inv X pins σ H s)(h:SqT X.K H a xs)(h':SqT X.K H a ys):xs=ys:=by
 obtain⟨its,r,⟨o,e,_,n,d⟩,_⟩:=I.tuple h
 obtain⟨its',r',⟨o',e',_,n',d'⟩,_⟩:=I.tuple h'
 rw[e] at e';cases e'
 rw[d] at d'
 injection d' with d1 _
 have:its=its':=by simpa using congrArg Q8 d1
 subst this
 exact r.inj r'
end
noncomputable abbrev Cx.ig(X:Cx)(E:Value->Shared->Prop):Cx:={ X with xe:=E }
noncomputable abbrev Cx.nox(X:Cx):Cx:=X.ig λ_ _=>False
theorem Cx.Ok.ig{X:Cx}(ok:X.Ok)(E:Value->Shared->Prop):(X.ig E).Ok :=
 ⟨ok.mod,ok.kind,ok.glob,ok.blt,ok.above,ok.inj,ok.has,ok.cab,ok.hd,ok.frames,ok.stk,ok.exf,ok.bs,ok.bsz,ok.noex,ok.exfs,ok.gu,ok.frf⟩
theorem Cx.Ok.cO(ok:(X.ig E).Ok):X.Ok :=
 ⟨ok.mod,ok.kind,ok.glob,ok.blt,ok.above,ok.inj,ok.has,ok.cab,ok.hd,ok.frames,ok.stk,ok.exf,ok.bs,ok.bsz,ok.noex,ok.exfs,ok.gu,ok.frf⟩
section
variable{X:Cx}{pins:List (Addr×Obj)}{σ:St}{H:Hp}{s:Shared}{E:Value->Shared->Prop}
theorem Inv.ig(I:Inv X pins σ H s)(E:Value->Shared->Prop):Inv (X.ig E) pins σ H s:=⟨I.ok.ig E,I.os,I.bare,I.base,I.loc,I.cell,I.free,I.freeC,I.pin,I.hok,I.len⟩
theorem Inv.cO(I:Inv (X.ig E) pins σ H s):Inv X pins σ H s:=⟨I.ok.cO,I.os,I.bare,I.base,I.loc,I.cell,I.free,I.freeC,I.pin,I.hok,I.len⟩
end
variable{tc:TT}
section
variable{X:Cx}{st:Stmt}{rest:List Stmt}{t u:TS}{e:Expr}{te:TE}{pos:Pos}
noncomputable def De:TS:=λD σ H=>D.nx σ H
noncomputable def LF(t u:TS):TS:=λD σ H=>t { D with nx:=u D } σ H
theorem BU:PSs X [] De:=λ_ _ σ H _ I h=>wpAny_execs_nil ⟨σ,H,I,h⟩
theorem wt(h1:PS X st t)(h2:PSs X rest u):PSs X (st::rest) (LF t u):=by
 intro pins s σ H D I h
 refine wpAny_execs_cons (thn (h1 pins s σ H { D with nx:=u D } I h) λf s1 q=>?_)
 cases f with
 | next =>
  obtain⟨σ',H',I',q⟩:=q
  exact h2 pins s1 σ' H' D I' q
 | ret v=>exact q
 | brk=>exact q
 | cont=>exact q
theorem Ai(h1:PS X st t):PSs X [st] t:=by
 intro pins s σ H D I h
 refine wpAny_execs_cons (thn (h1 pins s σ H D I h) λf s1 q=>?_)
 cases f with
 | next=>exact wpAny_execs_nil q
 | ret v=>exact q
 | brk=>exact q
 | cont=>exact q
noncomputable def Fd:TS:=λD σ H=>D.bk σ H
noncomputable def Ki:TS:=λD σ H=>D.ct σ H
theorem zg:PS X (.Pass pos) De:=λ_ _ σ H _ I h=>wpAny_Pass ⟨σ,H,I,h⟩
theorem yG:PS X (.Break pos) Fd:=λ_ _ σ H _ I h=>wpAny_Break ⟨σ,H,I,h⟩
theorem ph:PS X (.Continue pos) Ki:=λ_ _ σ H _ I h=>wpAny_Continue ⟨σ,H,I,h⟩
theorem Inv.quiet(I:Inv X pins σ H s):interactive X.env=false:=by simp[interactive,I.ok.kind]
noncomputable def IQ(te:TE):TS:=λD σ H=>te σ H λ_ H1=>D.nx σ H1
theorem AV(he:PE X e te)(hs:swapsWith e none pos.line X.env=pure false:=by rfl):PS X (.Expr e pos) (IQ te):=by
 intro pins s σ H D I h
 exact wpAny_Expr_any (thn (he pins s σ H _ I h) λv s1 ⟨x,H1,I1,r1,q1⟩=>⟨σ,H1,I1,q1⟩) I.quiet hs
noncomputable def KY(te:TE):TS:=λD σ H=>te σ H D.rt
theorem Dy(he:PE X e te):PS X (.Return (some e) pos) (KY te):=by
 intro pins s σ H D I h
 exact wpAny_Return_some (thn (he pins s σ H _ I h) λv s1 ⟨x,H1,I1,r1,q1⟩=>⟨x,σ,H1,I1,r1,q1⟩)
noncomputable def HD:TS:=λD _ H=>D.rt .non H
theorem zm:PS X (.Return none pos) HD:=λ_ _ σ H _ I h=>wpAny_Return_none ⟨.non,σ,H,I,rfl,h⟩
noncomputable def Le(c:TT)(t u:TS):TS:=λD σ H=>c σ H λb H1=>if b=true then t D σ H1 else u D σ H1
theorem Ht{a b:List Stmt}(hc:PT X c tc)(ha:PSs X a t)(hb:PSs X b u):PS X (.If c a b pos) (Le tc t u):=by
 intro pins s σ H D I h
 refine wpAny_If (thn (hc pins s σ H _ I h) λd s1 ⟨H1,I1,q1⟩=>?_)
 cases d with
 | true=>exact ha pins s1 σ H1 D I1 q1
 | false=>exact hb pins s1 σ H1 D I1 q1
end
noncomputable abbrev TG:=V->St->Hp->(St->Hp->Prop)->Prop
noncomputable abbrev TGs:=List V->St->Hp->(St->Hp->Prop)->Prop
noncomputable def PG(X:Cx)(target:Expr)(t:TG):Prop :=
 ∀(pins:List (Addr×Obj))(s:Shared)(σ:St)(H:Hp)(v:V)(u:Value)(Q:St->Hp->Prop),Inv X pins σ H s->RelV v u->t v σ H Q ->
  wpAny (model X.prog X.w) X.A (assign target X.env u) (λ_ s'=>∃σ' H',Inv X pins σ' H' s'/\Q σ' H') X.xe s
noncomputable def PGs(X:Cx)(ts:List Expr)(t:TGs):Prop :=
 ∀(pins:List (Addr×Obj))(s:Shared)(σ:St)(H:Hp)(vs:List V)(us:List Value)(Q:St->Hp->Prop),Inv X pins σ H s->Vals vs us->t vs σ H Q ->
  wpAny (model X.prog X.w) X.A (assignInOrder ((assignEach ts X.env).map (·.2)) us) (λ_ s'=>∃σ' H',Inv X pins σ' H' s'/\Q σ' H') X.xe s
noncomputable abbrev Gz:=V->V->V->Hp->(Hp->Prop)->Prop
noncomputable def Kv(X:Cx)(t:Gz):Prop :=
 ∀(pins:List (Addr×Obj))(s:Shared)(σ:St)(H:Hp)(o i v:V)(ov iv u:Value)(Q:Hp->Prop),Inv X pins σ H s->RelV o ov->RelV i iv->RelV v u->t o i v H Q ->
  wpAny (model X.prog X.w) X.A (setItem ov iv u) (λ_ s'=>∃H',Inv X pins σ H' s'/\Q H') X.xe s
variable{es:List Expr}{k:Nat}{tg:Expr}{te:TE}
section
variable{X:Cx}{pos:Pos}
noncomputable def yE(i:Nat):TG:=λv σ H Q=>Q (σ.set i (some v)) H
theorem zZ(hN:X.N.Nodup)(hi:X.N[i]?=some x)(hx:Loc X.env.scope x)(hf:X.fn x=true\/X.env.scope.names.lookup x=some .local:=by first|exact .inl rfl|exact .inr rfl|assumption):PG X (.Name x pos) (yE i):=by
 intro pins s σ H v u Q I r h
 exact wpAny_assign_Name (fw I hN hi hx r (λs' I'=>⟨_,H,I',h⟩) hf)
noncomputable def LH:TGs:=λvs σ H Q=>vs=[]/\Q σ H
noncomputable def Cu(t:TG)(u:TGs):TGs:=λvs σ H Q=>∃v r,vs=v::r/\t v σ H λσ' H'=>u r σ' H' Q
theorem BL:PGs X [] LH:=by
 intro pins s σ H vs us Q I r h
 obtain⟨e,h⟩:=h
 subst e
 cases r
 exact assignInOrder_nil ⟨σ,H,I,h⟩
theorem vd{t:TG}{u:TGs}(h1:PG X e t)(h2:PGs X es u)
  (hs:(assignEach (e::es) X.env).map (·.2)=assign e X.env::(assignEach es X.env).map (·.2):=by rfl):PGs X (e::es) (Cu t u):=by
 intro pins s σ H vs us Q I r h
 obtain⟨v,vr,e1,h⟩:=h
 subst e1
 cases r with
 | cons r rr =>
  rw[hs]
  refine assignInOrder_cons (thn (h1 pins s σ H _ _ _ I r h) λ_ s1 ⟨σ1,H1,I1,q1⟩=>?_)
  exact h2 pins s1 σ1 H1 _ _ Q I1 rr q1
noncomputable def Lk(K:LU)(n:Nat)(t:TGs):TG:=λv σ H Q=>∃a xs,v=.ref a/\SqT K H a xs/\xs.length=n/\t xs σ H Q
theorem D2{t:TGs}{n:Nat}(hc:X.calm=true)(h:PGs X es t)
  (hn:(assignEach es X.env).length=n:=by rfl)(hst:(assignEach es X.env).findIdx? (·.1)=none:=by rfl):PG X (.Tuple es k pos) (Lk X.K n t):=by
 intro pins s σ H v u Q I r hw
 obtain⟨a,xs,e1,hq,hl,hw⟩:=hw
 subst e1
 cases r
 obtain⟨its,rv,ht,hz⟩:=I.tuple hq
 refine assign_Tuple_tuple (I.ok.hd hc) ht (by simp[hn,<- hl,rv.length]) hst λh' hx=>?_
 have I1:Inv X pins σ H { s with heap:=h' }:=I.kept (t':=s.toks) λb o e=>hx b o (My (Mf e)) e
 exact h pins _ σ H xs _ Q I1 (by simpa using rv) hw
noncomputable def Jf(to ti:TE)(t:Gz):TG:=λv σ H Q=>to σ H λo H1=>ti σ H1 λi H2=>t o i v H2 λH3=>Q σ H3
theorem DF{o i:Expr}{to ti:TE}{t:Gz}(ho:PE X o to)(hi:PE X i ti)(hs:Kv X t)
  (ha:∀v,assign (.Subscript o i pos) X.env v=(do
   let ov <- holding [v] (eval o X.env)
   let iv <- holding [v,ov] (eval i X.env)
   standAt pos
   holding [v,ov,iv] (setItem ov iv v)
   release [v,ov,iv] []):=by intro _;rfl):PG X (.Subscript o i pos) (Jf to ti t):=by
 intro pins s σ H v u Q I r h
 rw[ha]
 refine wpAny_bind (wpAny_holding (thn (ho pins s σ H _ I h) λov s1 ⟨x,H1,I1,r1,q1⟩=>?_))
 refine wpAny_bind (wpAny_holding (thn (hi pins s1 σ H1 _ I1 q1) λiv s2 ⟨y,H2,I2,r2,q2⟩=>?_))
 refine wpAny_bind (wpAny_standAt (wpAny_bind (wpAny_holding (thn (hs pins s2 σ H2 x y v ov iv u _ I2 r1 r2 r q2) λ_ s3 ⟨H3,I3,q3⟩=>?_))))
 exact wpAny_release ⟨σ,H3,I3,q3⟩
noncomputable def wF(te:TE)(g:TG):TS:=λD σ H=>te σ H λx H1=>g x σ H1 D.nx
theorem yu{g:TG}(he:PE X e te)(hg:PG X tg g)(hs:swapsWithSole [tg] e pos.line X.env=pure false:=by rfl)(hw:swappedStores [tg] e X.env=pure none:=by rfl)
  (h1:(assignEach [tg] X.env).map (·.2)=[assign tg X.env]:=by rfl):PS X (.Assign [tg] e pos) (wF te g):=by
 intro pins s σ H D I h
 refine wpAny_Assign_stores (thn (he pins s σ H _ I h) λv s1 ⟨x,H1,I1,r1,q1⟩=>?_) hs hw
 rw[h1]
 exact thn (hg pins s1 σ H1 x v _ I1 r1 q1) λ_ s2 q=>q
theorem FH{pos':Pos}(hN:X.N.Nodup)(hi:X.N[i]?=some x)(hx:Loc X.env.scope x)(he:PE X e te)(hs:swapsWith e (some (.Name x pos')) pos.line X.env=pure false:=by rfl)(hf:X.fn x=true\/X.env.scope.names.lookup x=some .local:=by first|exact .inl rfl|exact .inr rfl|assumption) :
  PS X (.Assign [.Name x pos'] e pos) (wF te (yE i)):=by
 intro pins s σ H D I h
 refine wpAny_Assign_Name (thn (he pins s σ H _ I h) λv s1 ⟨y,H1,I1,r1,q1⟩=>?_) hs
 exact fw I1 hN hi hx r1 (λs2 I2=>⟨_,H1,I2,q1⟩) hf
noncomputable def Kt(i j:Nat)(ta:TA):TS:=λD σ H=>ta σ H λvs H1=>∃v w,vs=[v,w]/\D.nx ((σ.set i (some v)).set j (some w)) H1
theorem FJ{y:Str}{a b:Expr}{ta:TA}{px py pt:Pos}{kt k2 pt2}(hc:X.calm=true)(hN:X.N.Nodup)(hi:X.N[i]?=some x)(hj:X.N[j]?=some y)(hij:i≠j)
  (hx:X.env.scope.names.lookup x=some .local)(hy:X.env.scope.names.lookup y=some .local)(ha:PA X [a,b] ta)
  (hw:swappedStores [.Tuple [.Name x px,.Name y py] kt pt] (.Tuple [a,b] k2 pt2) X.env=pure (some [x,y]))
  (hs:swapsWithSole [.Tuple [.Name x px,.Name y py] kt pt] (.Tuple [a,b] k2 pt2) pos.line X.env=pure false:=by rfl) :
  PS X (.Assign [.Tuple [.Name x px,.Name y py] kt pt] (.Tuple [a,b] k2 pt2) pos) (Kt i j ta):=by
 intro pins s σ H D I h
 rw[exec_Assign_arm]
 refine wpAny_bind (wpAny_standAt ?_)
 rw[hs]
 refine wpAny_bind (wpAny_pure ?_)
 rw[if_neg (by decide)]
 refine wpAny_bind (Tuple_ (thn (ha _ pins s σ H _ I h) λus s1 ⟨vs,H1,I1,r1,q1⟩=>?_))
 obtain⟨v,w,e1,q1⟩:=q1
 subst e1
 obtain⟨u1,u2,rfl,rv,rw'⟩:∃u1 u2,us=[u1,u2]/\RelV v u1/\RelV w u2:=by
  cases r1 with
  | cons p q =>
   cases q with
   | cons p' q' =>
    cases q'
    exact⟨_,_,rfl,p,p'⟩
 refine wpAny_newObj_type ?_ (by show 2<=sizeLine;decide)
 have I2:Inv X pins σ H1 { s1 with heap:=s1.heap.push { cls:=.type "tuple",data:=.seq [u1,u2].toArray } }:=I1.kept (t':=s1.toks) λb o e=>L9 _ e
 rw[hw]
 refine wpAny_bind (wpAny_pure ?_)
 show wpAny (model X.prog X.w) X.A (do rule "assign.swapped-stores";let items <- unpackItems (.ref s1.heap.objs.size) 2 none;assignInOrder [λv=>bindName X.env y v,λv=>bindName X.env x v] items.reverse;pure R6) _ _ _
 refine wpAny_bind (wpAny_rule (wpAny_bind (unpackItems_tuple (items:=#[u1,u2]) (I.ok.hd hc) (IsTup.new s1.heap _) λh' hx'=>?_)))
 have I3:=I2.kept (h':=h') (t':=s1.toks) λb o e=>hx' b o (My (Mf e)) e
 show wpAny _ _ (assignInOrder [λv=>bindName X.env y v,λv=>bindName X.env x v] [u2,u1] >>= λ_=>pure R6) _ _ _
 refine wpAny_bind (assignInOrder_cons (wpAny_bindName (fw I3 hN hj (.inl hy) rw' (λs2 I4=>?_) (.inr hy))))
 refine assignInOrder_cons (wpAny_bindName (fw I4 hN hi (.inl hx) rv (λs3 I5=>assignInOrder_nil (wpAny_pure ?_)) (.inr hx)))
 rw[List.set_comm _ _ (M8 hij)] at I5
 exact⟨_,H1,I5,q1⟩
end
variable{body:List Stmt}{tb:TS}
section
variable{X:Cx}{pos:Pos}
noncomputable def FW(c:TT)(tb:TS):TS:=λD σ H=>∃W:Nat->St->Hp->Prop,(∃m,W m σ H)/\∀m σ H,W m σ H ->
 c σ H λb H1=>if b=true then ∃N:St->Hp->Prop,(∀σ' H',N σ' H'->∃m',m'<m/\W m' σ' H')/\tb { D with nx:=N,ct:=N,bk:=D.nx } σ H1 else D.nx σ H1
theorem yx(hp:PassesOwn (model X.prog X.w) X.A X.env X.xe)(hc:PT X c tc)(hb:PSs X body tb):PS X (.While c body [] pos) (FW tc tb):=by
 intro pins s σ H D I h
 obtain⟨W,⟨m0,w0⟩,turn⟩:=h
 refine wpAny_While (codeAny_whileLoop (fun n s'=>∃ σ' H',Inv X pins σ' H' s' ∧ W n σ' H') ?_ m0 ⟨σ,H,I,w0⟩)
 rintro n s1 ⟨σ1,H1,I1,w1⟩
 refine wpAny_passesOwn hp (thn (hc pins s1 σ1 H1 _ I1 (turn n σ1 H1 w1)) fun b s2 ⟨H2,I2,q2⟩=>?_)
 cases b with
 | true =>
  obtain ⟨N,hN,q2⟩:=q2
  rw [if_pos rfl]
  refine wpAny_passesOwn hp (thn (hb pins s2 σ1 H2 _ I2 q2) fun f s3 q3=>?_)
  cases f with
  | next =>
   obtain ⟨σ3,H3,I3,n3⟩:=q3
   obtain ⟨m',hm,w3⟩:=hN σ3 H3 n3
   exact⟨m',hm,σ3,H3,I3,w3⟩
  | cont =>
   obtain⟨σ3,H3,I3,n3⟩:=q3
   obtain⟨m',hm,w3⟩:=hN σ3 H3 n3
   exact⟨m',hm,σ3,H3,I3,w3⟩
  | brk=>exact q3
  | ret v=>exact q3
 | false =>
  rw[if_neg Mt]
  exact wpAny_execs_nil ⟨σ1,H2,I2,q2⟩
end
structure It where
 go:Nat->Hp->Prop
 yld:Nat->Hp->V->Hp->Prop
 stop:Nat->Hp->Prop
noncomputable def il(X:Cx)(pins:List (Addr×Obj))(H:Hp)(b:Addr):Prop :=
 H b=none/\b≠X.env.locals/\b∉X.fs/\(b∈X.ex\/X.s₀.heap.objs.size<=b)/\(∀x c,X.env.cells.lookup x=some c->c≠b)/\∀p∈X.pn++pins,p.1≠b
theorem Inv.A5{H':Hp}{b:Addr}(I:Inv X pins σ H s)(hb:s.heap.objs.size<=b)(hn:H' b=none):il X pins H' b:=by
 refine⟨hn,Ro (L4 I.lt hb),I.HG hb,.inr (Mr I.sz hb),λx c e z=>?_,λp hp z=>?_⟩
 ·obtain⟨v,q⟩:=I.cell x c e
  exact absurd (L4 q.lt (by rw[z];exact hb)) (MM _)
 ·exact absurd (L4 (Mf (I.pin p hp).1) (by rw[z];exact hb)) (MM _)
structure Turn (P:Program) (w:World) (K:LU) (tg:Expr) (J:It) (fp:List Addr) (it:Addr) (tn:Nat->Heap->Prop):Prop where
 mem:it∈fp
 obj:∀i h,tn i h->∀b∈fp,∃o,h.get? b=some o/\∀v,o.data≠.cell v
 keep:∀i h h',tn i h->(∀b∈fp,∀o,h.get? b=some o->h'.get? b=some o)->tn i h'
 item:∀(X:Cx),X.prog=P->X.w=w->X.K=K->X.calm=true->∀(i:Nat)(pins:List (Addr×Obj))(s:Shared)(σ:St)(H:Hp)(E:Value->Shared->Prop),Inv X pins σ H s->(∀b∈fp,il X pins H b)->tn i s.heap->J.go i H ->
  wpAny (model P w) X.A (pyNext (.ref it)) (λr s1=>∃u,r=some u /\
   wpAny (model P w) X.A (letOwnedTupleGo tg (.ref it) u) (λ_ s2=>∃x H',Inv X pins σ H' s2/\RelV x u/\J.yld i H x H'/\tn (i+1) s2.heap/\∀b∈fp,H' b=none) E s1) E s
 done:∀(X:Cx),X.prog=P->X.w=w->X.K=K->X.calm=true->∀(i:Nat)(pins:List (Addr×Obj))(s:Shared)(σ:St)(H:Hp)(E:Value->Shared->Prop),Inv X pins σ H s->(∀b∈fp,il X pins H b)->tn i s.heap->J.stop i H ->
  wpAny (model P w) X.A (pyNext (.ref it)) (λr s1=>r=none/\Inv X pins σ H s1) E s
 self:∀(A:Around)(i:Nat)(s:Shared)(Q:Value->Shared->Prop)(E:Value->Shared->Prop),tn i s.heap->Q (.ref it) s->wpAny (model P w) A (pyIter (.ref it)) Q E s
noncomputable abbrev TI:=St->Hp->(It->Hp->Prop)->Prop
noncomputable def PIE(X:Cx)(pins:List (Addr×Obj))(σ:St)(tg:Expr)(R:It->Hp->Prop)(itv:Value)(s2:Shared):Prop :=
 ∃(it:Addr) (fp:List Addr) (tn:Nat->Heap->Prop) (J:It) (H':Hp),itv=.ref it/\Inv X pins σ H' s2/\Turn X.prog X.w X.K tg J fp it tn/\tn 0 s2.heap/\(∀b∈fp,il X pins H' b)/\R J H'
noncomputable def PI(X:Cx)(tg iter:Expr)(wi:TI):Prop :=
 ∀(pins:List (Addr×Obj))(s:Shared)(σ:St)(H:Hp)(R:It->Hp->Prop),Inv X pins σ H s->wi σ H R ->
  wpAny (model X.prog X.w) X.A (eval iter X.env) (λv s1=>wpAny (model X.prog X.w) X.A (pyIter v) (PIE X pins σ tg R) X.xe s1) X.xe s
theorem oq{M:Model}{A:Around}{n:String}{vs:Array Value}{Q:Unit->Shared->Prop}(ho:s.heap.get? it=some o)(hc:o.cls=.type n)(hd:o.data=.fields vs)
    (hn:["enumerate", "zip", "dict_itemiterator", "dict_reverseitemiterator", "odict_iterator", "itertools.zip_longest", "itertools.pairwise"].contains n=false)(hQ:Q () s):wpAny M A (letOwnedTupleGo tg (.ref it) u) Q E s:=by
  unfold letOwnedTupleGo
  cases tg<;>first
    | exact wpAny_pure hQ
    | (cases u<;>first
        | exact wpAny_pure hQ
        | (refine wpAny_bind (wpAny_load ho ?_)
           rw[hc,hd]
           show wpAny M A (if (["enumerate", "zip", "dict_itemiterator", "dict_reverseitemiterator", "odict_iterator", "itertools.zip_longest", "itertools.pairwise"].contains n&&vs[0]?==some (rawInt _))=true then _ else _) Q E s
           rw[if_neg (by intro h;rw[hn,PH] at h;cases h)]
           exact wpAny_pure hQ))
noncomputable def Itl(K:LU)(a:Addr):It :=
 ⟨λi H=>∃xs x,SqL K H a xs/\xs[i]?=some x,λi H x H'=>H'=H/\∀xs,SqL K H a xs->xs[i]?=some x,λi H=>∃xs,SqL K H a xs/\xs.length<=i⟩
noncomputable def Itt(K:LU)(a:Addr):It :=
 ⟨λi H=>∃xs x,SqT K H a xs/\xs[i]?=some x,λi H x H'=>H'=H/\∀xs,SqT K H a xs->xs[i]?=some x,λi H=>∃xs,SqT K H a xs/\xs.length<=i⟩
noncomputable def Itr(lo:Int)(n:Nat):It:=⟨λi _=>i<n,λi H x H'=>H'=H/\x=.int (lo+i),λi _=>n<=i⟩
variable{K:LU}
theorem tP(a it:Addr):Turn P w K tg (Itl K a) [it] it (λi h=>h.IsListIter it a i) where
 mem:=by simp
 obj:=λi h st b hb=>by
  have e:b=it:=by simpa using hb
  subst e
  obtain⟨o,e,c,d⟩:=st
  exact⟨o,e,λv z=>by rw[d] at z;cases z⟩
 keep:=λi h h' st k=>st.at λo e=>k it (by simp) o e
 item:=by
  intro X hP hw hK hc i pins s σ H E I hf st hg
  subst hP hw hK
  obtain⟨xs,x,hq,hx⟩:=hg
  obtain⟨its,rv,p,hz⟩:=I.list hq
  obtain⟨u,hu,ru⟩:=rv.get hx
  obtain⟨f0,f1,f2,f3,f4,f5⟩:=hf it (by simp)
  refine wpAny_pyNext_list_item st p.isList (x:=u) (by simpa using hu) λh' st' sb=>?_
  have I1:Inv X pins σ H { s with heap:=h' }:=I.turned (t':=s.toks) (λb o hb e=>(sb.2 b hb).trans e) f0 f1 f3 f4 f5
  obtain⟨o,e,c,d⟩:=id st'
  exact⟨u,rfl,oq (s:={ s with heap:=h' }) e c d (by decide) ⟨x,H,I1,ru,⟨rfl,λys hy=>by rw[I.nY hy hq];exact hx⟩,st',λb hb=>(hf b hb).1⟩⟩
 done:=by
  intro X hP hw hK hc i pins s σ H E I hf st hg
  subst hP hw hK
  obtain⟨xs,hq,hx⟩:=hg
  obtain⟨its,rv,p,hz⟩:=I.list hq
  obtain⟨f0,f1,f2,f3,f4,f5⟩:=hf it (by simp)
  have hl:=rv.length
  exact wpAny_pyNext_list_end (I.ok.hd hc) st p.isList (by simp;omega) λh' eb=>⟨rfl,I.turned (t':=s.toks) (λb o hb e=>eb b o hb e) f0 f1 f3 f4 f5⟩
 self:=λ_ _ _ _ _ st h=>wpAny_pyIter_listiter st h
theorem qF(a it:Addr):Turn P w K tg (Itt K a) [it] it (λi h=>h.IsTupleIter it a i) where
 mem:=by simp
 obj:=λi h st b hb=>by
  have e:b=it:=by simpa using hb
  subst e
  obtain⟨o,e,c,d⟩:=st
  exact⟨o,e,λv z=>by rw[d] at z;cases z⟩
 keep:=λi h h' st k=>st.at λo e=>k it (by simp) o e
 item:=by
  intro X hP hw hK hc i pins s σ H E I hf st hg
  subst hP hw hK
  obtain⟨xs,x,hq,hx⟩:=hg
  obtain⟨its,rv,p,hz⟩:=I.tuple hq
  obtain⟨u,hu,ru⟩:=rv.get hx
  obtain⟨f0,f1,f2,f3,f4,f5⟩:=hf it (by simp)
  refine wpAny_pyNext_tuple_item st (show s.heap.IsTuple a its.toArray from p) (x:=u) (by simpa using hu) λh' st' sb=>?_
  have I1:Inv X pins σ H { s with heap:=h' }:=I.turned (t':=s.toks) (λb o hb e=>(sb.2 b hb).trans e) f0 f1 f3 f4 f5
  obtain⟨o,e,c,d⟩:=id st'
  exact⟨u,rfl,oq (s:={ s with heap:=h' }) e c d (by decide) ⟨x,H,I1,ru,⟨rfl,λys hy=>by rw[I.lA hy hq];exact hx⟩,st',λb hb=>(hf b hb).1⟩⟩
 done:=by
  intro X hP hw hK hc i pins s σ H E I hf st hg
  subst hP hw hK
  obtain⟨xs,hq,hx⟩:=hg
  obtain⟨its,rv,p,hz⟩:=I.tuple hq
  obtain⟨f0,f1,f2,f3,f4,f5⟩:=hf it (by simp)
  have hl:=rv.length
  exact wpAny_pyNext_tuple_end (I.ok.hd hc) st (show s.heap.IsTuple a its.toArray from p) (by simp;omega) λh' eb=>⟨rfl,I.turned (t':=s.toks) (λb o hb e=>eb b o hb e) f0 f1 f3 f4 f5⟩
 self:=λ_ _ _ _ _ st h=>wpAny_pyIter_tupleiter st h
theorem qz(it:Addr)(lo:Int)(n:Nat):Turn P w K tg (Itr lo n) [it] it (λi h=>IsRangeIter h it (lo+(i:Nat)*1) ((n:Int)-(i:Nat)) 1) where
 mem:=by simp
 obj:=λi h st b hb=>by
  have e:b=it:=by simpa using hb
  subst e
  exact⟨_,st,λv z=>by
   have z':Data.fields _=Data.cell v:=z
   cases z'⟩
 keep:=λi h h' st k=>k it (by simp) _ st
 item:=by
  intro X hP hw hK hc i pins s σ H E I hf st hg
  subst hP hw hK
  obtain⟨f0,f1,f2,f3,f4,f5⟩:=hf it (by simp)
  have W:=Walks.range (prog:=X.prog) (w:=X.w) (I.ok.hd hc) it lo 1 n
  refine W.item i s _ _ hg st λv h' tk hv st' kk=>?_
  obtain⟨t,rfl⟩:=hv
  have I1:Inv X pins σ H { s with heap:=h',toks:=tk }:=I.turned (λb o hb e=>kk b o (by simpa using hb) e) f0 f1 f3 f4 f5
  refine⟨_,rfl,oq (s:={ s with heap:=h',toks:=tk }) (n := "range_iterator") st' rfl rfl (by decide) ⟨.int (lo+i),H,I1,⟨t,?_⟩,⟨rfl,rfl⟩,st',λb hb=>(hf b hb).1⟩⟩
  rw[Int.mul_one]
 done:=by
  intro X hP hw hK hc i pins s σ H E I hf st hg
  subst hP hw hK
  obtain⟨f0,f1,f2,f3,f4,f5⟩:=hf it (by simp)
  exact wpAny_pyNext_range_end (I.ok.hd hc) st (by have:n<=i:=hg;omega) λh' eb=>⟨rfl,I.turned (t':=s.toks) (λb o hb e=>eb b o hb e) f0 f1 f3 f4 f5⟩
 self:=λ_ _ _ _ _ st h=>wpAny_pyIter_rangeiter st h
variable{p:Pos}{fp:List Addr}
section
variable{X:Cx}{tg:Expr}
theorem pH{R:It->Hp->Prop}{lo hi:Int}{t u v:Tok}{tk:Nat}(I:Inv X pins σ H s)(h1:-(2^62)<=lo)(h2:lo<2^62)(h3:-(2^62)<=hi)(h4:hi<2^62)
  (q:R (Itr lo (hi-lo).toNat) H):wpAny (model X.prog X.w) X.A (pyIter (.ref s.heap.objs.size)) (PIE X pins σ tg R) E { s with heap:=s.heap.push { cls:=.type "range",data:=.fields #[.int lo t,.int hi u,.int 1 v] },toks:=tk }:=by
 refine wpAny_pyIter_range (IsRange.new ..) (small_one h1 h2 h3 h4) ?_
 have I1:Inv X pins σ H { s with heap:=s.heap.push { cls:=.type "range",data:=.fields #[.int lo t,.int hi u,.int 1 v] },toks:=tk }:=I.kept λb o e=>L9 _ e
 refine⟨(s.heap.push { cls:=.type "range",data:=.fields #[.int lo t,.int hi u,.int 1 v] }).objs.size,[(s.heap.push { cls:=.type "range",data:=.fields #[.int lo t,.int hi u,.int 1 v] }).objs.size],_,_,H,rfl,
  I1.kept (t':=tk) λb o e=>L9 _ e,qz _ lo (hi-lo).toNat,?_,λb hb=>?_,q⟩
 ·have e1:lo+((0:Nat):Int)*1=lo:=by simp
  have e2:(((hi-lo).toNat:Nat):Int)-((0:Nat):Int)=Rp lo hi 1:=by rw[rangeSize_one];split<;>omega
  show IsRangeIter _ _ (lo+((0:Nat):Int)*1) ((((hi-lo).toNat:Nat):Int)-((0:Nat):Int)) 1
  rw[e1,e2]
  exact Mz _ rfl
 ·have e:b=(s.heap.push { cls:=.type "range",data:=.fields #[.int lo t,.int hi u,.int 1 v] }).objs.size:=by simpa using hb
  subst e
  exact I1.A5 (Md _) (I1.hok.fresh (Md _))
noncomputable def Jc(ta:TA):TI:=λσ H R=>ta σ H λvs H1=>∃j:Int,vs=[.int j] /\ -(2^62)<=j/\j<2^62/\R (Itr 0 j.toNat) H1
noncomputable def JR(ta:TA):TI:=λσ H R=>ta σ H λvs H1=>∃i j:Int,vs=[.int i,.int j]/\(-(2^62)<=i/\i<2^62 /\ -(2^62)<=j/\j<2^62)/\R (Itr i (j-i).toNat) H1
theorem ua{a:Expr}{ta:TA}(hg:Gl X "range")(hm:X.mg "range" = none)(ha:PA X [a] ta)(hs:starEach [a] X.env=[(false,eval a X.env)]:=by rfl):PI X tg (.Call (.Name "range" p) [a] [] pos) (Jc ta):=by
 intro pins s σ H R I h
 refine Call_ (kF I hg hm boot_range (N7 (thn (ha pos pins s σ H _ I h) λus s1 ⟨vs,H1,I1,r1,q1⟩=>?_) hs rfl))
 obtain⟨j,e,q1,q2,q⟩:=q1
 subst e
 cases r1 with
 | cons r rr =>
  cases rr
  obtain⟨t,rfl⟩:=r
  exact call_range_1 (pH I1 (by omega) (by omega) q1 q2 (by simpa using q))
theorem uL{a b:Expr}{ta:TA}(hg:Gl X "range")(hm:X.mg "range" = none)(ha:PA X [a,b] ta)(hs:starEach [a,b] X.env=[(false,eval a X.env),(false,eval b X.env)]:=by rfl)(hs2:starEach [b] X.env=[(false,eval b X.env)]:=by rfl) :
  PI X tg (.Call (.Name "range" p) [a,b] [] pos) (JR ta):=by
 intro pins s σ H R I h
 refine Call_ (kF I hg hm boot_range (N7 (thn (ha pos pins s σ H _ I h) λus s1 ⟨vs,H1,I1,r1,q1⟩=>?_) (by rw[hs,hs2]) (by rw[hs2];rfl)))
 obtain⟨i,j,e,⟨q1,q2,q3,q4⟩,q⟩:=q1
 subst e
 cases r1 with
 | cons r rr =>
  cases rr with
  | cons r' rr =>
   cases rr
   obtain⟨t,rfl⟩:=r
   obtain⟨t',rfl⟩:=r'
   exact call_range_2 (pH I1 q1 q2 q3 q4 q)
noncomputable def LI(wi:TI)(g:TG)(tb:TS):TS:=λD σ H=>wi σ H λJ H1=>∃W:Nat->Nat->St->Hp->Prop,(∃m,W 0 m σ H1)/\∀i m σ H,W i m σ H ->
 (J.stop i H/\D.nx σ H)\/(J.go i H/\∃N:St->Hp->Prop,(∀σ' H',N σ' H'->∃m',m'<m/\W (i+1) m' σ' H')/\∀x H',J.yld i H x H'->g x σ H' λσ2 H2=>tb { D with nx:=N,ct:=N,bk:=D.nx } σ2 H2)
noncomputable def jr(fp:List Addr)(h:Heap):List (Addr×Obj):=fp.filterMap λb=>(h.get? b).map λo=>(b,o)
theorem dj{h:Heap}{b:Addr}(hb:b∈fp)(e:h.get? b=some o):(b,o)∈jr fp h:=NZ.mpr ⟨b,hb,by rw[e];rfl⟩
theorem ud{h:Heap}{p:Addr×Obj}(hp:p∈jr fp h):p.1∈fp/\h.get? p.1=some p.2:=by
 obtain⟨b,hb,e⟩:=NZ.mp hp
 cases q:h.get? b with
 | none=>rw[q] at e;cases e
 | some o =>
  rw[q] at e
  have e':(b,o)=p:=Mc e
  subst e'
  exact⟨hb,q⟩
theorem Inv.pinned(I:Inv X pins σ H s)(hf:∀b∈fp,il X pins H b)(ho:∀b∈fp,∃o,s.heap.get? b=some o/\∀v,o.data≠.cell v):Inv X (pins++jr fp s.heap) σ H s :=
 I.jN λp hp=>(Me.mp hp).elim (λz=>I.pin p (LW _ z)) λz=>by
  obtain⟨hb,e⟩:=ud z
  obtain⟨f0,f1,f2,_⟩:=hf p.1 hb
  obtain⟨o,e',d⟩:=ho p.1 hb
  rw[e] at e';cases e'
  exact⟨e,f0,f1,f2,d⟩
theorem Inv.bE{pl:List (Addr×Obj)}(I:Inv X (pins++pl) σ H s):Inv X pins σ H s:=I.jN λp hp=>I.pin p (LW _ (Mm _ hp))
theorem Et{iter:Expr}{wi:TI}{g:TG}(hp:PassesOwn (model X.prog X.w) X.A X.env X.xe)(hc:X.calm=true)(hi:PI X tg iter wi)(hg:PG X tg g)(hb:PSs X body tb)
  (hs:∀x,foldedSetIterable iter X.env x=pure x:=by intro _;rfl):PS X (.For tg iter body [] pos) (LI wi g tb):=by
 intro pins s σ H D I h
 refine wpAny_For (thn (hi pins s σ H _ I h) λv s1 h1=>thn h1 λitv s2 h2=>?_) hs
 obtain⟨it,fp,tn,J,H2,e,I2,T,st2,f2,W,⟨m0,w0⟩,turn⟩:=h2
 subst e
 have stat:∀{H':Hp},(∀b∈fp,H' b=none)->∀b∈fp,il X pins H' b:=λhn b hb=>⟨hn b hb,(f2 b hb).2⟩
 refine codeAny_forLoop_any (λn s'=>∃i σ' H',Inv X pins σ' H' s'/\tn i s'.heap/\(∀b∈fp,H' b=none)/\W i n σ' H') ?_ m0 ⟨0,σ,H2,I2,st2,λb hb=>(f2 b hb).1,w0⟩
 rintro n s3 ⟨i,σ3,H3,I3,st3,fr3,w3⟩
 rcases turn i n σ3 H3 w3 with ⟨stop,qn⟩|⟨go,N,hN,step⟩
 ·refine wpAny_passesOwn hp (thn (T.done X rfl rfl rfl hc i pins s3 σ3 H3 X.xe I3 (stat fr3) st3 stop) λr s4 ⟨hr,I4⟩=>?_)
  subst hr
  exact wpAny_execs_nil ⟨σ3,H3,I4,qn⟩
 ·refine wpAny_passesOwn hp (thn (T.item X rfl rfl rfl hc i pins s3 σ3 H3 X.xe I3 (stat fr3) st3 go) λr s4 ⟨u,hr,h4⟩=>?_)
  subst hr
  refine wpAny_passesOwn hp (thn h4 λ_ s5 ⟨x,H5,I5,r5,y5,st5,fr5⟩=>?_)
  have I5':=I5.pinned (stat fr5) (T.obj _ _ st5)
  refine wpAny_passesOwn hp (thn (hg _ s5 σ3 H5 x u _ I5' r5 (step x H5 y5)) λ_ s6 ⟨σ6,H6,I6,q6⟩=>?_)
  refine wpAny_passesOwn hp (thn (hb _ s6 σ6 H6 _ I6 q6) λf s7 q7=>?_)
  have again:∀{σ7:St}{H7:Hp},Inv X (pins++jr fp s5.heap) σ7 H7 s7->N σ7 H7->∃m,m<n/\∃i σ' H',Inv X pins σ' H' s7/\tn i s7.heap/\(∀b∈fp,H' b=none)/\W i m σ' H':=λ{σ7 H7} I7 n7=>by
   obtain⟨m',hm,w7⟩:=hN σ7 H7 n7
   refine⟨m',hm,i+1,σ7,H7,I7.bE,T.keep _ _ _ st5 λb hb o e=>(I7.pin (b,o) (LW _ (LW _ (dj hb e)))).1,λb hb=>?_,w7⟩
   obtain⟨o,e,d⟩:=T.obj _ _ st5 b hb
   exact(I7.pin (b,o) (LW _ (LW _ (dj hb e)))).2.1
  cases f with
  | next=>obtain⟨σ7,H7,I7,n7⟩:=q7;exact again I7 n7
  | cont=>obtain⟨σ7,H7,I7,n7⟩:=q7;exact again I7 n7
  | brk=>obtain⟨σ7,H7,I7,q7⟩:=q7;exact⟨σ7,H7,I7.bE,q7⟩
  | ret v=>obtain⟨x7,σ7,H7,I7,r7,q7⟩:=q7;exact⟨x7,σ7,H7,I7.bE,r7,q7⟩
end
noncomputable abbrev R2:=V->V->Hp->VK->Prop
noncomputable def OpR(X:Cx)(f:Value->Value->Sem Value)(r:R2):Prop :=
 ∀(pins:List (Addr×Obj))(s:Shared)(σ:St)(H:Hp)(x y:V)(v u:Value)(Q:VK),Inv X pins σ H s->RelV x v->RelV y u->r x y H Q ->
  wpAny (model X.prog X.w) X.A (f v u) (EP X pins σ Q) X.xe s
noncomputable def UnR(X:Cx)(f:Value->Sem Value)(r:V->Hp->VK->Prop):Prop :=
 ∀(pins:List (Addr×Obj))(s:Shared)(σ:St)(H:Hp)(x:V)(v:Value)(Q:VK),Inv X pins σ H s->RelV x v->r x H Q ->
  wpAny (model X.prog X.w) X.A (f v) (EP X pins σ Q) X.xe s
noncomputable def eA(X:Cx)(f:Value)(r:List V->Hp->VK->Prop):Prop :=
 ∀(pins:List (Addr×Obj))(s:Shared)(σ:St)(H:Hp)(xs:List V)(us:List Value)(Q:VK),Inv X pins σ H s->Vals xs us->r xs H Q ->
  wpAny (model X.prog X.w) X.A (call f us) (EP X pins σ Q) X.xe s
noncomputable def tOp(r:R2)(ta tb:TE):TE:=λσ H Q=>ta σ H λx H1=>tb σ H1 λy H2=>r x y H2 Q
noncomputable def tUn(r:V->Hp->VK->Prop)(ta:TE):TE:=λσ H Q=>ta σ H λx H1=>r x H1 Q
noncomputable def rI(C:Int->Int->Prop)(g:Int->Int->V):R2:=λx y H Q=>∃i j,x=.int i/\y=.int j/\C i j/\Q (g i j) H
noncomputable def rI0(g:Int->Int->V):R2:=λx y H Q=>∃i j,x=.int i/\y=.int j/\Q (g i j) H
noncomputable def rU(g:Int->V):V->Hp->VK->Prop:=λx H Q=>∃i,x=.int i/\Q (g i) H
variable{f:Value->Value->Sem Value}{r:R2}
section
variable{X:Cx}{a b c:Expr}{ta tb tc:TE}{pos:Pos}
theorem GG(ha:PE X a ta)(hb:PE X b tb)(I:Inv X pins σ H s)
  (h:ta σ H λx H1=>tb σ H1 λy H2=>R x y H2)
  (hf:∀v u s2 x y H2,Inv X pins σ H2 s2->RelV x v->RelV y u->R x y H2->wpAny (model X.prog X.w) X.A (f v u) Q X.xe s2) :
  wpAny (model X.prog X.w) X.A (eval a X.env) (λv s₁=>wpAny (model X.prog X.w) X.A (eval b X.env) (λu s₂=>wpAny (model X.prog X.w) X.A (f v u) Q X.xe s₂) X.xe s₁) X.xe s:=by
 refine thn (ha pins s σ H _ I h) λv s1 ⟨x,H1,I1,r1,q1⟩=>?_
 refine thn (hb pins s1 σ H1 _ I1 q1) λu s2 ⟨y,H2,I2,r2,q2⟩=>?_
 exact hf v u s2 x y H2 I2 r1 r2 q2
theorem Io{op:Operator}(ho:OpR X (binaryOp op) r)(ha:PE X a ta)(hb:PE X b tb):PE X (.BinOp a op b pos) (tOp r ta tb):=by
 intro pins s σ H Q I h
 exact wpAny_BinOp (GG ha hb I h λv u s2 x y H2 I2 rx ry q=>ho pins s2 σ H2 x y v u Q I2 rx ry q)
theorem IC{op:UnaryOp}{r:V->Hp->VK->Prop}(ho:UnR X (unaryOp op) r)(ha:PE X a ta):PE X (.UnaryOp op a pos) (tUn r ta):=by
 intro pins s σ H Q I h
 exact UnaryOp_ (thn (ha pins s σ H _ I h) λv s1 ⟨x,H1,I1,r1,q1⟩=>ho pins s1 σ H1 x v Q I1 r1 q1)
theorem opI{C:Int->Int->Prop}{g:Int->Int->Int}
  (rule:∀(i j:Int)(t u:Tok)(s:Shared)(Q:Value->Shared->Prop)(E:Value->Shared->Prop),C i j->Q (.int (g i j) s.toks) { s with toks:=s.toks+1 }->wpAny (model X.prog X.w) X.A (f (.int i t) (.int j u)) Q E s) :
  OpR X f (rI C λi j=>.int (g i j)):=by
 intro pins s σ H x y v u Q I rx ry h
 obtain⟨i,j,rfl,rfl,hc,q⟩:=h
 obtain⟨t,rfl⟩:=rx
 obtain⟨t',rfl⟩:=ry
 exact rule i j t t' s _ _ hc ⟨.int (g i j),H,I.tok _,⟨_,rfl⟩,q⟩
theorem Kq{g:Int->Int->Int}
  (rule:∀(i j:Int)(t u:Tok)(s:Shared)(Q:Value->Shared->Prop)(E:Value->Shared->Prop),Q (.int (g i j) s.toks) { s with toks:=s.toks+1 }->wpAny (model X.prog X.w) X.A (f (.int i t) (.int j u)) Q E s) :
  OpR X f (rI0 λi j=>.int (g i j)):=by
 intro pins s σ H x y v u Q I rx ry h
 obtain⟨i,j,rfl,rfl,q⟩:=h
 obtain⟨t,rfl⟩:=rx
 obtain⟨t',rfl⟩:=ry
 exact rule i j t t' s _ _ ⟨.int (g i j),H,I.tok _,⟨_,rfl⟩,q⟩
theorem BZ{g:Int->Int->Bool}
  (rule:∀(i j:Int)(t u:Tok)(s:Shared)(Q:Value->Shared->Prop)(E:Value->Shared->Prop),Q (.bool (g i j)) s->wpAny (model X.prog X.w) X.A (f (.int i t) (.int j u)) Q E s) :
  OpR X f (rI0 λi j=>.bl (g i j)):=by
 intro pins s σ H x y v u Q I rx ry h
 obtain⟨i,j,rfl,rfl,q⟩:=h
 obtain⟨t,rfl⟩:=rx
 obtain⟨t',rfl⟩:=ry
 exact rule i j t t' s _ _ ⟨.bl (g i j),H,I,rfl,q⟩
def Kn(i j:Int):Prop:=0<=j/\j<=1000000/\i.natAbs<2^64
theorem FC:OpR X (binaryOp .Add) (rI0 λi j=>.int (i+j)):=Kq λ_ _ _ _ _ _ _ q=>add_int q
theorem EV:OpR X (binaryOp .Sub) (rI0 λi j=>.int (i-j)):=Kq λ_ _ _ _ _ _ _ q=>sub_int q
theorem Ca:OpR X (binaryOp .Mod) (rI (λ_ j=>j≠0) λi j=>.int (i.fmod j)):=opI λ_ _ _ _ _ _ _ hc q=>mod_int' hc q
theorem Gu:OpR X (binaryOp .Pow) (rI Kn λi j=>.int (i^j.toNat)):=opI λ_ _ _ _ _ _ _ hc q=>pow_int_small hc.1 hc.2.1 hc.2.2 q
theorem unI{f:Value->Sem Value}{g:Int->Int}
  (rule:∀(i:Int)(t:Tok)(s:Shared)(Q:Value->Shared->Prop)(E:Value->Shared->Prop),Q (.int (g i) s.toks) { s with toks:=s.toks+1 }->wpAny (model X.prog X.w) X.A (f (.int i t)) Q E s) :
  UnR X f (rU λi=>.int (g i)):=by
 intro pins s σ H x v Q I rx h
 obtain⟨i,rfl,q⟩:=h
 obtain⟨t,rfl⟩:=rx
 exact rule i t s _ _ ⟨.int (g i),H,I.tok _,⟨_,rfl⟩,q⟩
theorem Gs:UnR X (unaryOp .USub) (rU λi=>.int (-i)):=unI λ_ _ _ _ _ q=>neg_int q
end
variable{op':CmpOp}{r':R2}{us:List Value}
section
variable{X:Cx}{a b c:Expr}{ta tb tc:TE}{pos:Pos}
theorem m6{Q:VK}{k k':Bool}(I:Inv X pins σ H s)(q:Q (.bl k) H)(e:k=k'):EP X pins σ Q (.bool k') s:=by
 subst e
 exact⟨.bl k,H,I,rfl,q⟩
theorem rE:OpR X (compareOp .Lt) (rI0 λi j=>.bl (decide (i<j))):=BZ λ_ _ _ _ _ _ _ q=>lt_int q
theorem rz:OpR X (compareOp .LtE) (rI0 λi j=>.bl (decide (i<=j))):=BZ λ_ _ _ _ _ _ _ q=>le_int q
theorem we:OpR X (compareOp .Gt) (rI0 λi j=>.bl (decide (j<i))):=BZ λ_ _ _ _ _ _ _ q=>gt_int q
theorem uZ:OpR X (compareOp .GtE) (rI0 λi j=>.bl (decide (j<=i))):=BZ λ_ _ _ _ _ _ _ q=>ge_int q
theorem lh:OpR X (compareOp .In) (λx y H Q=>∃i j,x=.str i/\y=.str j/\Q (.bl (!(Nn j i 0 j.length 1).isEmpty)) H):=by
 intro pins s σ H x y v u Q I rx ry h
 obtain⟨i,j,rfl,rfl,q⟩:=h
 obtain⟨t,rfl⟩:=rx
 obtain⟨t',rfl⟩:=ry
 exact in_str (m6 I q rfl)
theorem ya:OpR X (compareOp .Is) (λx y H Q=>y=.non/\Q (.bl (decide (x=.non))) H):=by
 intro pins s σ H x y v u Q I rx ry h
 obtain⟨rfl,q⟩:=h
 cases ry
 refine is_none_gen (m6 I q ?_)
 cases x<;>first
  | (cases rx;rfl)
  | (obtain⟨t,rfl⟩:=rx;rfl)
theorem sN:OpR X (compareOp .IsNot) (λx y H Q=>y=.non/\Q (.bl (!decide (x=.non))) H):=by
 intro pins s σ H x y v u Q I rx ry h
 obtain⟨rfl,q⟩:=h
 cases ry
 refine isnot_none_gen (m6 I q ?_)
 cases x<;>first
  | (cases rx;rfl)
  | (obtain⟨t,rfl⟩:=rx;rfl)
theorem iP:OpR X (compareOp .NotIn) (λx y H Q=>∃i j,x=.str i/\y=.str j/\Q (.bl (!(!(Nn j i 0 j.length 1).isEmpty))) H):=by
 intro pins s σ H x y v u Q I rx ry h
 obtain⟨i,j,rfl,rfl,q⟩:=h
 obtain⟨t,rfl⟩:=rx
 obtain⟨t',rfl⟩:=ry
 exact notIn_str (m6 I q rfl)
theorem cy(b:Expr)(h:op≠.In:=by decide)(h2:op≠.NotIn:=by decide):behindInMarks op b=false:=by
 have e1:(op==CmpOp.In)=false:=by cases op<;>first|rfl|exact absurd rfl h
 have e2:(op==CmpOp.NotIn)=false:=by cases op<;>first|rfl|exact absurd rfl h2
 cases b<;>simp[behindInMarks,e1,e2]
theorem Bb(ho:OpR X (compareOp op) r)(ha:PE X a ta)(hb:PE X b tb)(hm:behindInMarks op b=false):PE X (.Compare a [op] [b] pos) (tOp r ta tb):=by
 intro pins s σ H Q I h
 exact wpAny_Compare1 (GG ha hb I h λv u s2 x y H2 I2 rx ry q=>ho pins s2 σ H2 x y v u Q I2 rx ry q) hm
noncomputable def CV(t:TE):TT:=λσ H Q=>t σ H λx H'=>∃k,x=.bl k/\Q k H'
theorem zw(ho:OpR X (compareOp op) r)(ha:PE X a ta)(hb:PE X b tb)(hm:behindInMarks op b=false):PT X (.Compare a [op] [b] pos) (CV (tOp r ta tb)):=by
 intro pins s σ H Q I h
 refine wpAny_isTrue_Compare1 (thn (ha pins s σ H _ I h) λv s1 ⟨x,H1,I1,r1,q1⟩=>thn (hb pins s1 σ H1 _ I1 q1) λu s2 ⟨y,H2,I2,r2,q2⟩ =>
  thn (ho pins s2 σ H2 x y v u _ I2 r1 r2 q2) λc s3 ⟨z,H3,I3,r3,k,e,q3⟩=>?_) hm
 subst e
 cases r3
 exact wpAny_truthy_bool ⟨H3,I3,q3⟩
noncomputable def qR(r r':R2)(ta tb tc:TE):TE:=λσ H Q=>ta σ H λx H1=>tb σ H1 λy H2=>r x y H2 λz H3=>∃k,z=.bl k /\
 (if k=true then tc σ H3 λw' H4=>r' y w' H4 Q else Q (.bl false) H3)
theorem ym(ho:OpR X (compareOp op) r)(ho':OpR X (compareOp op') r')(ha:PE X a ta)(hb:PE X b tb)(hc:PE X c tc)
  (hm:lastMarks [op,op'] [b,c]=false:=by with_unfolding_all rfl):PE X (.Compare a [op,op'] [b,c] pos) (qR r r' ta tb tc):=by
 intro pins s σ H Q I h
 refine Compare_chain (thn (ha pins s σ H _ I h) λv s1 ⟨x,H1,I1,r1,q1⟩=>chain_link (thn (hb pins s1 σ H1 _ I1 q1) λu s2 ⟨y,H2,I2,r2,q2⟩ =>
  thn (ho pins s2 σ H2 x y v u _ I2 r1 r2 q2) λd s3 ⟨z,H3,I3,r3,k,e,q3⟩=>?_)) hm
 subst e
 cases r3
 refine wpAny_truthy_bool ?_
 cases k with
 | false=>exact ite_ff ⟨.bl false,H3,I3,rfl,q3⟩
 | true=>exact ite_tt (chain_last (thn (hc pins s3 σ H3 _ I3 q3) λw' s4 ⟨z',H4,I4,r4,q4⟩=>ho' pins s4 σ H4 y z' u w' Q I4 r2 r4 q4))
theorem yU(ho:OpR X (compareOp op) r)(ho':OpR X (compareOp op') r')(ha:PE X a ta)(hb:PE X b tb)(hc:PE X c tc)
  (hm:lastMarks [op,op'] [b,c]=false:=by with_unfolding_all rfl):PT X (.Compare a [op,op'] [b,c] pos) (CV (qR r r' ta tb tc)):=by
 intro pins s σ H Q I h
 refine isTrue_chain (thn (ha pins s σ H _ I h) λv s1 ⟨x,H1,I1,r1,q1⟩=>test_link (thn (hb pins s1 σ H1 _ I1 q1) λu s2 ⟨y,H2,I2,r2,q2⟩ =>
  thn (ho pins s2 σ H2 x y v u _ I2 r1 r2 q2) λd s3 ⟨z,H3,I3,r3,k,e,q3⟩=>?_)) hm
 subst e
 cases r3
 refine wpAny_truthy_bool ?_
 cases k with
 | false =>
  obtain⟨k',e',q'⟩:=q3
  cases e'
  exact ite_ff ⟨H3,I3,q'⟩
 | true =>
  refine ite_tt (test_last (thn (hc pins s3 σ H3 _ I3 q3) λw' s4 ⟨z',H4,I4,r4,q4⟩=>thn (ho' pins s4 σ H4 y z' u w' _ I4 r2 r4 q4) λd' s5 ⟨z2,H5,I5,r5,k2,e2,q5⟩=>?_))
  subst e2
  cases r5
  exact wpAny_truthy_bool ⟨H5,I5,q5⟩
theorem kQ:(sizeLine:Nat)<2^63:=by rw[sizeLine_eq];decide
theorem qk:OpR X (binaryOp .Add) (λx y H Q=>∃i j,x=.str i/\y=.str j/\i.length+j.length<=sizeLine/\Q (.str (i++j)) H):=by
 intro pins s σ H x y v u Q I rx ry h
 obtain⟨i,j,rfl,rfl,hz,q⟩:=h
 obtain⟨t,rfl⟩:=rx
 obtain⟨t',rfl⟩:=ry
 exact add_str (λt' tk=>⟨.str (i++j),H,I.tok _,⟨_,rfl⟩,q⟩) hz
theorem vals1{x:V}(r:Vals [x] us):∃u,us=[u]/\RelV x u:=by
 cases r with
 | cons r1 r2=>cases r2;exact⟨_,rfl,r1⟩
theorem vals2{x:V}(r:Vals [x,y] us):∃u w',us=[u,w']/\RelV x u/\RelV y w':=by
 cases r with
 | cons r1 r2 =>
  cases r2 with
  | cons r3 r4=>cases r4;exact⟨_,_,rfl,r1,r3⟩
theorem u3:eA X (.builtin "abs") (λxs H Q=>∃i,xs=[.int i]/\Q (.int (if i<0 then -i else i)) H):=by
 intro pins s σ H xs us Q I r h
 obtain⟨i,rfl,q⟩:=h
 obtain⟨u,rfl,t,rfl⟩:=vals1 r
 exact call_abs_int λu tk=>⟨.int (if i<0 then -i else i),H,I.tok _,⟨_,rfl⟩,q⟩
theorem uq(hc:X.calm=true):eA X (.builtin "max") (λxs H Q=>∃i j,xs=[.int i,.int j]/\Q (.int (if j > i then j else i)) H):=by
 intro pins s σ H xs us Q I r h
 obtain⟨i,j,rfl,q⟩:=h
 obtain⟨u,w',rfl,⟨t,rfl⟩,⟨t',rfl⟩⟩:=vals2 r
 refine max_two_ints (I.ok.hd hc) λh' tk k=>⟨_,H,I.kept k,?_,q⟩
 by_cases hj:j > i
 ·rw[if_pos hj,if_pos hj];exact⟨_,rfl⟩
 ·rw[if_neg hj,if_neg hj];exact⟨_,rfl⟩
theorem ue(hc:X.calm=true):eA X (.builtin "min") (λxs H Q=>∃i j,xs=[.int i,.int j]/\Q (.int (if j<i then j else i)) H):=by
 intro pins s σ H xs us Q I r h
 obtain⟨i,j,rfl,q⟩:=h
 obtain⟨u,w',rfl,⟨t,rfl⟩,⟨t',rfl⟩⟩:=vals2 r
 refine min_two_ints (I.ok.hd hc) λh' tk k=>⟨_,H,I.kept k,?_,q⟩
 by_cases hj:j<i
 ·rw[if_pos hj,if_pos hj];exact⟨_,rfl⟩
 ·rw[if_neg hj,if_neg hj];exact⟨_,rfl⟩
theorem uE:eA X (.type "int") (λxs H Q=>(∃i,xs=[.int i]/\Q (.int i) H)\/∃k,xs=[.bl k]/\Q (.int (if k then 1 else 0)) H):=by
 intro pins s σ H xs us Q I r h
 rcases h with ⟨i,rfl,q⟩|⟨k,rfl,q⟩
 ·obtain⟨u,rfl,t,rfl⟩:=vals1 r
  exact call_int_int ⟨.int i,H,I,⟨_,rfl⟩,q⟩
 ·obtain⟨u,rfl,r1⟩:=vals1 r
  cases r1
  exact call_int_bool ⟨.int (if k then 1 else 0),H,I.tok _,⟨_,rfl⟩,q⟩
noncomputable def IE(K:LU)(x:V)(H:Hp)(n:Nat):Prop :=
 match x with
 | .str y=>y.length<=sizeLine/\n=y.length
 | .byt y=>y.size<=sizeLine/\n=y.size
 | .ref p=>(∃xs,SqL K H p xs/\n=xs.length)\/∃xs,SqT K H p xs/\n=xs.length
 | _=>False
theorem yY:eA X (.builtin "len") (λxs H Q=>∃x n,xs=[x]/\IE X.K x H n/\Q (.int n) H):=by
 intro pins s σ H xs us Q I r h
 obtain⟨x,n,rfl,e,q⟩:=h
 obtain⟨u,rfl,rx⟩:=vals1 r
 have hl:=kQ
 have hs:sizeLine=16777216:=sizeLine_eq
 cases x with
 | str y =>
  obtain⟨t,rfl⟩:=rx
  obtain⟨hy,e'⟩:y.length<=sizeLine/\n=y.length:=e
  subst e'
  exact len_str (by omega) ⟨.int _,H,I.tok _,⟨_,rfl⟩,q⟩
 | byt y =>
  obtain⟨t,rfl⟩:=rx
  obtain⟨hy,e'⟩:y.size<=sizeLine/\n=y.size:=e
  subst e'
  exact PySem.W.len_bytes (by omega) ⟨.int _,H,I.tok _,⟨_,rfl⟩,q⟩
 | ref p =>
  cases rx
  have e':(∃xs,SqL X.K H p xs/\n=xs.length)\/∃xs,SqT X.K H p xs/\n=xs.length:=e
  rcases e' with ⟨xs,hx,e'⟩|⟨xs,hx,e'⟩
  ·subst e'
   obtain⟨its,r',pl,hz⟩:=I.list hx
   have hlen:=r'.length
   exact Calls.call_len_list pl.isList (by simp only[LZ];omega) ⟨.int xs.length,H,I.tok _,⟨_,by simp only[LZ];rw[hlen]⟩,q⟩
  ·subst e'
   obtain⟨its,r',pl,hz⟩:=I.tuple hx
   have hlen:=r'.length
   exact len_tuple pl (by simp only[LZ];omega) ⟨.int xs.length,H,I.tok _,⟨_,by simp only[LZ];rw[hlen]⟩,q⟩
 | _=>exact(show False from e).elim
end
structure qG (h:Heap) (x dx C:Addr) (mA:Str->Option Value):Prop where
 obj:h.get? x=some (Nk C dx)
 ns:h.Ns1 dx mA
 ne:dx≠x
variable{dx:Addr}{mA:Str->Option Value}
theorem tH{h:Heap}(n:h.Ns1 dx mA):∃od,h.get? dx=some od/\∀name,OP name od=some (mA name):=by
 obtain⟨o,es,ep,ho,hd,hk,_,hm⟩:=n
 refine⟨o,ho,λname=>?_⟩
 have e:=hm name
 unfold nsFind findBy at e
 rw[<- Array.find?_toList] at e
 unfold OP
 rw[hd]
 dsimp only
 split
 ·rename_i y q
  rw[q] at e
  exact congrArg some e
 ·rename_i q
  rw[q] at e
  have a:es.toList.any (·.refKey)=false:=by
   rw[Qz]
   intro y hy
   obtain⟨z,t,hkey⟩:=hk y (Array.mem_toList_iff.mp hy)
   simp[DictEntry.refKey,hkey]
  have a':¬ es.toList.any (·.refKey)=true:=by rw[a];exact Mt
  rw[if_neg a']
  exact congrArg some e
variable{C:Addr}
theorem qG.look{h:Heap}{x:Addr}(I:qG h x dx C mA):∃od,PySem.W.InstAt h x (Nk C dx) C (some od)/\∀name,OP name od=some (mA name) :=
 let ⟨od,ho,hl⟩:=tH I.ns
 ⟨od,⟨I.obj,rfl,rfl,ho⟩,hl⟩
variable{pl:Sem Bool}{kw:List (Str×Value)}
section
variable{prog:Program}{w:World}{A:Around}{E:Value->Shared->Prop}{s:Shared}{K:LU}{x dx C f:Addr}{mA:Str->Option Value}{name:Str}{v:Value}
theorem get_map{expr:Bool}(X:K.In s.heap)(I:qG s.heap x dx C mA)(hg:N6 K C name=true)(hh:Ol K C=true)
  (ha:MH K (.ref C) name=some none)(hv:mA name=some v)(hv':Qr v=true)(h:Q v { s with toks:=s.toks+1 }) :
  wpAny (model prog w) A (getAttr (.ref x) name expr) Q E s:=by
 obtain⟨od,J,hl⟩:=I.look
 exact PySem.W.get_value X J (OW hg).1 (PySem.W.findObj_own hh ha rfl (by rw[hl,hv])) hv' h
theorem yz{Q:Value×List Value->Shared->Prop}(X:K.In s.heap)(I:qG s.heap x dx C mA)(hg:N6 K C name=true)
  (hf:MH K (.ref C) name=some (some (.ref f)))(ht:O6 K (.ref f)=true)(hv:mA name=none)(h:Q (.ref f,[.ref x]) s) :
  wpAny (model prog w) A (getMethod (.ref x) name pl) Q E s:=by
 obtain⟨od,J,hl⟩:=I.look
 exact PySem.W.method_fn X J (OW hg).1 (OW hg).2 hf (beq_iff_eq.mp ht) (by show (OP name od).map (·.isSome)=some false;rw[hl,hv];rfl) h
theorem B8{ns:List Str}{Q:Unit->Shared->Prop}(X:K.In s.heap)(I:qG s.heap x dx C mA)
  (hs:MH K (.ref C) "__setattr__" = some (some (.builtin "object.__setattr__")))(hp:O7 K C=true)(ht:Pm K C name=some none)(hh:Ol K C=true)
  (hw:P1 mA ns)(hsz:ns.length<=sizeLine)
  (h:∀h',qG h' x dx C (λy=>if y=name then some v else mA y)->NO dx s.heap h'->Q () { s with heap:=h',toks:=s.toks+2 }) :
  wpAny (model prog w) A (setAttr (.ref x) name v) Q E s:=by
 obtain⟨od,J,hl⟩:=I.look
 refine PySem.W.set_plain X J hs (PySem.W.osa_open (s:={ s with toks:=s.toks+1 }) (r:=none) X J hp ht λb=>?_)
 obtain⟨cd,hc,hd'⟩:=PySem.W.any_some hh
 have hx:s.heap.get? x=some ⟨.ref C,some dx,.plain,#[]⟩:=I.obj
 refine wpAny_bind (wpAny_pure (wpAny_bind (wpAny_bind (wpAny_loadPart hx (wpAny_bind (Rq (s:={ s with toks:=s.toks+1 }) (PySem.W.looks_clsIn X hc) ?_))))))
 rw[hd']
 refine wpAny_pure (a:=some dx) (wpAny_bind (wpAny_pure (wpAny_bind ?_)))
 refine wpAny_nsSet1 (s:={ s with toks:=s.toks+1 }) I.ns λh' hn2 hs2=>?_
 obtain⟨oD,esD,epD,hoD,hdD,hcD⟩:=hn2.count (RH name v hw)
 refine wpAny_bind (wpAny_lookBehind hoD (by rw[hdD];exact pastItsLine_dict (Mr hcD (by rw[LX];omega))) ?_)
 exact wpAny_pure (h _ ⟨(hs2.2 _ (M8 I.ne)).trans I.obj,hn2,I.ne⟩ hs2)
theorem oX{R:Result->Shared->Prop}{vs:List Value}(X:K.In s.heap)(hm:Pn K C=true)
  (hi:MH K (.ref C) "__init__" = some (some (.ref f)))(hf:PySem.W.typeIn K (.ref f)=some (.type "function"))
  (h:codeAny (model prog w) (A.under (.builtin "type.__call__" ⟨.ref C::vs,kw⟩)) (.call (.ref f) ⟨.ref (s.heap.objs.size+1)::vs,kw⟩) (PySem.W.InitBack (s.heap.objs.size+1) R)
   { s with heap:=(s.heap.push M0).push (Nk C s.heap.objs.size) }) :
  codeAny (model prog w) A (.call (.ref C) ⟨vs,kw⟩) R s:=by
 obtain⟨hh,g,d,t,os⟩:=s
 exact PySem.W.make_core (PySem.W.makes_of X hm) (PySem.W.looks_findIn X hi) (λself=>PySem.W.bind_fn X self hf) (.inl rfl) h
end
noncomputable def fY(f:Str)(v:V):List (Str×V)->List (Str×V)
 | []=>[(f,v)]
 | (g,x)::r=>if g=f then (g,v)::r else (g,x)::fY f v r
theorem jy(f g:Str)(v:V):∀fs:List (Str×V),(fY f v fs).lookup g=if g=f then some v else fs.lookup g
 | []=>by
  show Oc g [(f,v)]=_
  by_cases h:g=f
  ·have hb:(g==f)=true:=beq_iff_eq.mpr h
   simp only[Oc,hb,if_pos h]
  ·have hb:(g==f)=false:=beq_eq_false_iff_ne.mpr h
   simp only[Oc,hb,if_neg h]
 | (k,x)::r=>by
  have ih:=jy f g v r
  rw[show fY f v ((k,x)::r)=(if k=f then (k,v)::r else (k,x)::fY f v r) from rfl]
  by_cases hk:k=f
  ·rw[if_pos hk]
   by_cases h:g=k
   ·have hb:(g==k)=true:=beq_iff_eq.mpr h
    simp only[Oc,hb,if_pos (h.trans hk)]
   ·have hb:(g==k)=false:=beq_eq_false_iff_ne.mpr h
    simp only[Oc,hb,if_neg (λe:g=f=>h (e.trans hk.symm))]
  ·rw[if_neg hk]
   by_cases h:g=k
   ·have hb:(g==k)=true:=beq_iff_eq.mpr h
    simp only[Oc,hb,if_neg (λe:g=f=>hk (h.symm.trans e))]
   ·have hb:(g==k)=false:=beq_eq_false_iff_ne.mpr h
    simp only[Oc,hb]
    exact ih
theorem jd(f:Str)(v:V):∀fs:List (Str×V),f∈(fY f v fs).map (·.1)/\∀g,g∈fs.map (·.1)->g∈(fY f v fs).map (·.1)
 | []=>⟨by simp[fY],λg h=>by simp at h⟩
 | (k,x)::r=>by
  obtain⟨i1,i2⟩:=jd f v r
  rw[show fY f v ((k,x)::r)=(if k=f then (k,v)::r else (k,x)::fY f v r) from rfl]
  by_cases hk:k=f
  ·rw[if_pos hk]
   subst hk
   exact⟨by simp,λg h=>by simpa using h⟩
  ·rw[if_neg hk]
   refine⟨?_,λg h=>?_⟩
   ·rw[L5]
    exact L6 _ i1
   ·rw[L5] at h ⊢
    rcases Ml.mp h with e|e
    ·exact Ml.mpr (.inl e)
    ·exact L6 _ (i2 g e)
theorem jF(f:Str)(v:V):∀fs:List (Str×V),(fY f v fs).length<=fs.length+1
 | []=>by simp[fY]
 | (k,x)::r=>by
  have ih:=jF f v r
  rw[show fY f v ((k,x)::r)=(if k=f then (k,v)::r else (k,x)::fY f v r) from rfl]
  by_cases hk:k=f
  ·rw[if_pos hk,LX,LX];omega
  ·rw[if_neg hk,LX,LX];omega
theorem hU.some_of{v:V}{o:Option Value}(r:hU (some v) o):∃u,o=some u/\RelV v u:=by
 cases o with
 | none=>exact(show False from r).elim
 | some u=>exact⟨u,rfl,r⟩
theorem hU.none_of{o:Option Value}(r:hU none o):o=none:=by
 cases o with
 | none=>rfl
 | some u=>exact(show False from r).elim
theorem tX{v:V}(r:RelV v u):Qr u=true:=by
 cases v with
 | non=>cases (show u=NW from r);rfl
 | bl b=>cases (show u=Qq b from r);rfl
 | int i=>obtain⟨t,e⟩:=(show ∃t,u=PQ i t from r);cases e;rfl
 | str x=>obtain⟨t,e⟩:=(show ∃t,u=PR x t from r);cases e;rfl
 | byt b=>obtain⟨t,e⟩:=(show ∃t,u=Ri b t from r);cases e;rfl
 | flt b=>obtain⟨t,e⟩:=(show ∃t,u=Rj b t from r);cases e;rfl
 | ref a=>cases (show u=ME a from r);rfl
 | ty n=>cases (show u=Rn n from r);rfl
section
variable{P:Program}{w:World}{H H':Hp}{h h':Heap}{a C dx:Addr}{fs fs':List (Str×V)}
theorem jR(hok:HOk P w H h)(e:H a=some (.ins C dx fs)):∃mA,qG h a dx C mA/\(∀f,hU (fs.lookup f) (mA f))/\P1 mA (fs.map (·.1))/\fs.length<=1000/\H dx=some (.own a):=by
 obtain⟨d,z,ne,ob,mA,n,r,q⟩:=(show bb P w H h a (.ins C dx fs) from hok a _ e)
 exact⟨mA,⟨ob,n,ne⟩,r,q,z,d⟩
end
structure Cls (K:LU) (C:Addr):Prop where
 pg:N6 K C P7=true
 hd:Ol K C=true
 po:O7 K C=true
 sa:MH K (.ref C) "__setattr__" = some (some (.builtin "object.__setattr__"))
theorem Cls.get(c:Cls K C)(f:Str):N6 K C f=true:=c.pg
def dZ(K:LU)(C:Addr)(f:Str):Prop:=MH K (.ref C) f=some none
theorem dZ.IK{f:Str}(n:dZ K C f):Pm K C f=some none:=by
 unfold Pm
 rw[show MH K (.ref C) f=some none from n]
 rfl
structure Meth (K:LU) (C:Addr) (m:Str) (f:Addr):Prop where
 at_:MH K (.ref C) m=some (some (.ref f))
 fn:O6 K (.ref f)=true
 kp:ML K (.ref f)=true
variable{m:Str}
section
variable{X:Cx}{pins:List (Addr×Obj)}{σ:St}{H:Hp}{s:Shared}{a C dx:Addr}{fs:List (Str×V)}{f:Str}{v:V}{A:Around}{E:Value->Shared->Prop}
theorem qL{b:Bool}(I:Inv X pins σ H s)(e:H a=some (.ins C dx fs))(c:Cls X.K C)(n:dZ X.K C f)(l:fs.lookup f=some v)
  (h:∀u s',Inv X pins σ H s'->RelV v u->Q u s'):wpAny (model X.prog X.w) A (getAttr (.ref a) f b) Q E s:=by
 obtain⟨mA,O,r,_,_,_⟩:=jR I.hok e
 obtain⟨u,hu,ru⟩:=hU.some_of (v:=v) (o:=mA f) (by rw[<- l];exact r f)
 exact get_map I.kIn O (c.get f) c.hd n hu (tX ru) (h u _ (I.tok _) ru)
theorem fV{g:Addr}{Q:Value×List Value->Shared->Prop}(I:Inv X pins σ H s)(e:H a=some (.ins C dx fs))(c:Cls X.K C)(k:Meth X.K C m g)(l:fs.lookup m=none)
  (h:Q (.ref g,[.ref a]) s):wpAny (model X.prog X.w) A (getMethod (.ref a) m pl) Q E s:=by
 obtain⟨mA,O,r,_,_,_⟩:=jR I.hok e
 have hn:mA m=none:=hU.none_of (by rw[<- l];exact r m)
 exact yz I.kIn O (c.get m) k.at_ k.fn hn h
theorem pO{Q:Unit->Shared->Prop}(I:Inv X pins σ H s)(e:H a=some (.ins C dx fs))(c:Cls X.K C)(n:dZ X.K C f)(hl:fs.length<1000)(ry:RelV y u)
  (h:∀s',Inv X pins σ (upd H a (.ins C dx (fY f y fs))) s'->Q () s'):wpAny (model X.prog X.w) A (setAttr (.ref a) f u) Q E s:=by
 obtain⟨mA,O,r,wi,_,ho⟩:=jR I.hok e
 have hz:(fs.map (·.1)).length<=sizeLine:=by rw[LY,sizeLine_eq];omega
 refine B8 I.kIn O c.sa c.po n.IK c.hd wi hz λh' O' sb=>h _ ?_
 have hd:∃o,h'.get? dx=some o:=let ⟨o,_,_,e',_⟩:=O'.ns;⟨o,e'⟩
 refine I.write (x:=a) (e:=dx) (by rw[e];exact OM) (.inr ho) (λb q hb z=>(sb.2 b hb).trans z) hd ?_
 refine⟨by rw[aC O.ne];exact ho,?_,O.ne,O'.obj,_,O'.ns,λg=>?_,λg hg=>?_⟩
 ·have:=jF f y fs;omega
 ·show hU ((fY f y fs).lookup g) (if g=f then some u else mA g)
  rw[jy]
  by_cases q:g=f
  ·rw[if_pos q,if_pos q];exact ry
  ·rw[if_neg q,if_neg q];exact r g
 ·by_cases q:g=f
  ·rw[q];exact(jd f y fs).1
  ·refine(jd f y fs).2 g (wi g λz=>hg ?_)
   show (if g=f then some u else mA g)=none
   rw[if_neg q];exact z
theorem Inv.made(I:Inv X pins σ H s):Inv X pins σ (upd (upd H s.heap.objs.size (.own (s.heap.objs.size+1))) (s.heap.objs.size+1) (.ins C s.heap.objs.size []))
  { s with heap:=(s.heap.push M0).push (Nk C s.heap.objs.size) }:=by
 have e1:(s.heap.push M0).get? s.heap.objs.size=some M0:=Mz s.heap rfl
 have e2:((s.heap.push M0).push (Nk C s.heap.objs.size)).get? (s.heap.objs.size+1)=some (Nk C s.heap.objs.size):=by
  have:=Mz (s.heap.push M0) (o:=Nk C s.heap.objs.size) rfl
  rwa[OX] at this
 have e3:(s.heap.push M0).Ns s.heap.objs.size (λ_=>none):=⟨M0,#[],_,e1,rfl,(λe he=>absurd he (by simp)),λ_=>rfl⟩
 have I1:=I.laid (a:=s.heap.objs.size) (o:=.own (s.heap.objs.size+1)) (h':=s.heap.push M0) (t':=s.toks) (λb u q=>L9 _ q) (Md _) ⟨_,e1⟩
 refine I1.laid (a:=s.heap.objs.size+1) (o:=.ins C s.heap.objs.size []) (t':=s.toks) (λb u q=>L9 _ q) (Rt (OX _ _)) ?_
 have ne:s.heap.objs.size≠s.heap.objs.size+1:=My (NR _)
 refine⟨by rw[aC ne,bw],Nd _,ne,e2,λ_=>none,(Heap.Ns1.of_empty e3).at λo q=>L9 _ q,λ_=>OM,λy hy=>absurd rfl hy⟩
theorem zW{prog:Program}{env:Env}{f:Str}(hb:attributeBase e f env (eval e env)=eval e env)
  (h:wpAny (model prog w) A (eval e env) (λo s₁=>wpAny (model prog w) A (getAttr o f true) Q E s₁) E s):wpAny (model prog w) A (eval (.Attribute e f pos) env) Q E s :=
 Attribute_any_ h (by rw[arm_eval_Attribute,hb])
end
noncomputable def Lv(K:LU)(ta:TE)(f:Str):TE:=λσ H Q=>ta σ H λx H1=>∃a C dx fs v,x=.ref a/\H1 a=some (.ins C dx fs)/\Cls K C/\dZ K C f/\fs.lookup f=some v/\Q v H1
noncomputable def KJ(K:LU)(ta tv:TE)(f:Str):TS:=λD σ H=>tv σ H λy H1=>ta σ H1 λx H2=>∃a C dx fs,x=.ref a/\H2 a=some (.ins C dx fs)/\Cls K C/\dZ K C f/\fs.length<1000 /\
 D.nx σ (upd H2 a (.ins C dx (fY f y fs)))
section
variable{X:Cx}{o e value:Expr}{f:Str}{pos pos' tpos:Pos}{ta tv:TE}
theorem D3(he:PE X e ta)(hb:attributeBase e f X.env (eval e X.env)=eval e X.env):PE X (.Attribute e f pos) (Lv X.K ta f):=by
 intro pins s σ H Q I h
 refine zW hb (thn (he pins s σ H _ I h) λu s1 ⟨x,H1,I1,rx,a,C,dx,fs,v,ex,ea,c,n,l,q⟩=>?_)
 subst ex
 obtain rfl:u=ME a:=rx
 exact qL I1 ea c n l λu' s2 I2 ru=>⟨v,H1,I2,ru,q⟩
theorem E7(ha:PE X o ta)(hv:PE X value tv)(hs:swapsWith value (some (.Attribute o f pos')) pos.line X.env=pure false):PS X (.Assign [.Attribute o f pos'] value pos) (KJ X.K ta tv f):=by
 intro pins s σ H D I h
 refine plainObj_wpAny_Assign_Attribute (thn (hv pins s σ H _ I h) λu s1 ⟨y,H1,I1,ry,q⟩=>thn (ha pins s1 σ H1 _ I1 q) λov s2 ⟨x,H2,I2,rx,a,C,dx,fs,ex,ea,c,n,l,q2⟩=>?_) hs
 subst ex
 obtain rfl:ov=ME a:=rx
 exact pO I2 ea c n l ry λs3 I3=>⟨σ,_,I3,q2⟩
theorem Dg{apos:Pos}{args:List Expr}(he:PE X e te)(I:Inv X pins σ H s)
  (h:te σ H λx H1=>∃a C dx fs g,x=.ref a/\H1 a=some (.ins C dx fs)/\Cls X.K C/\Meth X.K C m g/\fs.lookup m=none /\
   ∀s1,Inv X pins σ H1 s1->wpAny (model X.prog X.w) X.A (callWith pos (.ref g) [.ref a] (backTo pos (starEach args X.env)) (backToKw pos (keywordEach [] X.env))) Q X.xe s1)
  (ht:eval (.Call (.Attribute e m apos) args [] pos) X.env=(do
   let ov <- eval e X.env
   standAt apos.atName
   let (f,first) <- holding [ov] (getMethod ov m pl)
   callWith pos f first (backTo pos (starEach args X.env)) (backToKw pos (keywordEach [] X.env)))) :
  wpAny (model X.prog X.w) X.A (eval (.Call (.Attribute e m apos) args [] pos) X.env) Q X.xe s:=by
 refine N4 (pl:=pl) (thn (he pins s σ H _ I h) λu s1 ⟨x,H1,I1,rx,a,C,dx,fs,g,ex,ea,c,k,l,q⟩=>?_) ht
 subst ex
 obtain rfl:u=ME a:=rx
 exact fV I1 ea c k l (q s1 I1)
end
section
variable{X:Cx}{pins:List (Addr×Obj)}{σ:St}{H:Hp}{s:Shared}{A:Around}{E:Value->Shared->Prop}{Q:Value->Shared->Prop}{c:Value}{b:Bool}
inductive jM (K:LU) (H:Hp):V->Value->Prop where
 | non:jM K H .non (.type "NoneType")
 | bl (x:Bool):jM K H (.bl x) (.type "bool")
 | int (i:Int):jM K H (.int i) (.type "int")
 | str (x:Str):jM K H (.str x) (.type "str")
 | flt (x:UInt64):jM K H (.flt x) (.type "float")
 | lst {a:Addr} {xs:List V} (e:H a=some (.lst xs)):jM K H (.ref a) (.type "list")
 | frz {a:Addr} {o:Obj} {xs:List V} (e:H a=some (.frz o (.lst xs))):jM K H (.ref a) (.type "list")
 | tup {a:Addr} {xs:List V} (e:H a=some (.tup xs)):jM K H (.ref a) (.type "tuple")
 | dK {a:Addr} {kvs:List (Key×V)} (e:H a=some (.dK kvs)):jM K H (.ref a) (.type "dict")
 | dT {a:Addr} {kvs:List (List Key×V)} (e:H a=some (.dT kvs)):jM K H (.ref a) (.type "dict")
 | ins {a C dx:Addr} {fs:List (Str×V)} (e:H a=some (.ins C dx fs)) (cl:Cls K C) (ha:MH K (.ref C) "__class__" = some (some (.builtin "object.__class__")))
   (hn:Qo K (.builtin "object.__class__") "__get__" = some (some (.builtin "getset_descriptor.__get__"))) (htk:Qt K (.builtin "object.__class__")=some true)
   (hm:Pz K C (.type "object")=some true):jM K H (.ref a) (.ref C)
end
structure bz (k:Nat) (A:Around):Prop where
 hd:A.handled=none
 dp:A.depth+3*k+5<recursionLimit
 un:A.units+16*k+200<cLine
theorem bz.mono{A:Around}(r:bz k A)(h:j<=k):bz j A:=⟨r.hd,by have:=r.dp;omega,by have:=r.un;omega⟩
theorem bz.deeper{k:Nat}{A:Around}(r:bz (k+1) A)(env:Env):bz k (A.deeper env) :=
 ⟨r.hd,by have:=r.dp;show A.depth+1+3*k+5<_;omega,by have:=r.un;show A.units+3+16*k+200<_;omega⟩
theorem qP{A:Around}:(A.under (.builtin "type.__call__" ⟨.ref C::us,kw⟩)).depth=A.depth+1:=by
 first|rfl|simp[PY,Code.weight,Code.isCreation,Code.isGuard,Code.isCaller,Ru,P8,guardIds]
theorem qN{A:Around}:(A.under (.builtin "type.__call__" ⟨.ref C::us,kw⟩)).units=A.units+1:=by
 first|rfl|simp[PY,Code.cUnits,Ru,P8]
theorem bz.make{A:Around}(r:bz (k+1) A)(C:Addr)(us:List Value)(kw:List (Str×Value)):bz k (A.under (.builtin "type.__call__" ⟨.ref C::us,kw⟩)) :=
 ⟨r.hd,by have:=r.dp;rw[qP];omega,by have:=r.un;rw[qN];omega⟩
theorem bz.depth{k:Nat}{A:Around}(r:bz k A):A.depth<recursionLimit:=by have:=r.dp;omega
theorem bz.units{k:Nat}{A:Around}(r:bz k A):A.units+64<cLine:=by have:=r.un;omega
noncomputable def EO:TA:=λ_ H Q=>Q [] H
noncomputable def CI(ta:TE)(tr:TA):TA:=λσ H Q=>ta σ H λx H1=>tr σ H1 λxs H2=>Q (x::xs) H2
section
variable{X:Cx}{e:Expr}{es:List Expr}{te:TE}{t:TA}{pos:Pos}
theorem dh:PA X [] EO:=λ_ _ _ _ H Q I h=>Calls.spliced_nil ⟨[],H,I,.nil,h⟩
theorem br(ha:PE X e te)(hr:PA X es t)(hs:starEach (e::es) X.env=(false,eval e X.env)::starEach es X.env:=by rfl):PA X (e::es) (CI te t):=by
 intro pos pins s σ H Q I h
 rw[hs]
 show wpAny _ _ (spliced ((false,eval e X.env)::backTo pos (starEach es X.env))) _ _ s
 refine Calls.spliced_cons (thn (ha pins s σ H _ I h) λu s1 ⟨x,H1,I1,r1,q1⟩=>?_)
 exact thn (hr pos pins s1 σ H1 _ I1 q1) λus s2 ⟨xs,H2,I2,r2,q2⟩=>⟨x::xs,H2,I2,.cons r1 r2,q2⟩
noncomputable def Lg(t:TA):TE:=λσ H Q=>t σ H λxs H1=>xs.length<=sizeLine/\∀p,H1 p=none->Q (.ref p) (upd H1 p (.tup xs))
noncomputable def KR(t:TA):TE:=λσ H Q=>t σ H λxs H1=>xs.length<=sizeLine/\∀p,H1 p=none->Q (.ref p) (upd H1 p (.lst xs))
theorem ye{x1}(h:PA X es t):PE X (.Tuple es x1 pos) (Lg t):=by
 intro pins s σ H Q I hq
 refine wpAny_Tuple_spliced (thn (h pos pins s σ H _ I hq) λus s1 ⟨xs,H1,I1,r,z,q⟩=>⟨by rw[<- r.length];exact z,?_⟩)
 have hf:H1 s1.heap.objs.size=none:=I1.hok.fresh (Md _)
 refine⟨.ref s1.heap.objs.size,upd H1 s1.heap.objs.size (.tup xs),I1.laid (t':=s1.toks) (λb u e=>L9 _ e) (Md _) ?_,rfl,q _ hf⟩
 exact⟨z,us,r,⟨_,Mz _ rfl,rfl,_,rfl,rfl⟩⟩
theorem Gi(h:PA X es t):PE X (.List es pos) (KR t):=by
 intro pins s σ H Q I hq
 refine wpAny_List_spliced (thn (h pos pins s σ H _ I hq) λus s1 ⟨xs,H1,I1,r,z,q⟩=>⟨by rw[<- r.length];exact z,?_⟩)
 have hf:H1 s1.heap.objs.size=none:=I1.hok.fresh (Md _)
 refine⟨.ref s1.heap.objs.size,upd H1 s1.heap.objs.size (.lst xs),I1.laid (t':=s1.toks) (λb u e=>L9 _ e) (Md _) ?_,rfl,q _ hf⟩
 exact⟨z,us,0,r,Mz _ rfl⟩
end
noncomputable abbrev Sp:=List V->Hp->VK->XK->Prop
noncomputable abbrev CXT:=List Env->Hp->Shared->XK->Value->Shared->Prop
structure kR (P:Program) (w:World) (K:LU) (mg:Str->Option Value) (base:Heap) (A:Around) (outer:List Env) (s:Shared) (H:Hp):Prop where
 frames:A.frames=some outer
 mod:Mod K mg base
 bs:∀b o,base.get? b=some o->s.heap.get? b=some o/\H b=none
 bsz:base.objs.size<=s.heap.objs.size
 gu:s.heap.FunFrames base outer
 frf:∀b∈frs outer,H b=none
 hok:HOk P w H s.heap
 bare:AllBare s.gens
noncomputable def CE(outer:List Env)(P:Program)(w:World)(H:Hp)(s:Shared)(Q:VK)(u:Value)(s':Shared):Prop :=
 ∃v H',s'.os=s.os/\AllBare s'.gens/\Un (frs outer) [] H H' s.heap s'.heap/\HOk P w H' s'.heap/\RelV v u/\Q v H'
noncomputable def CR(CX:CXT)(outer:List Env)(P:Program)(w:World)(H:Hp)(s:Shared)(Q:VK)(E:XK)(r:Result)(s':Shared):Prop :=
 match r with
 | .ok (.ret u)=>CE outer P w H s Q u s'
 | .ok _=>False
 | .error e=>CX outer H s E e s'
structure bW (P:Program) (w:World) (K:LU) (mg:Str->Option Value) (base:Heap) (CX:CXT) (k:Nat) (f:Addr) (fd:FuncData) (ps:List Str) (sp:Sp):Prop where
 len:∀vs H Q E,sp vs H Q E->vs.length=ps.length
 run:∀(A:Around)(outer:List Env)(s:Shared)(H:Hp)(args:Args)(us:List Value)(vs:List V)(Q:VK)(E:XK),bz k A->kR P w K mg base A outer s H->BindsTo s fd args (ps.zip us)->Vals vs us->sp vs H Q E ->
  codeAny (model P w) A (.call (.ref f) args) (CR CX outer P w H s Q E) s
theorem bW.mono{P:Program}{w:World}{K:LU}{mg:Str->Option Value}{base:Heap}{CX:CXT}{j k:Nat}{f:Addr}{fd:FuncData}{ps:List Str}{sp:Sp}(F:bW P w K mg base CX j f fd ps sp)(h:j<=k) :
  bW P w K mg base CX k f fd ps sp:=⟨F.len,λA outer s H args us vs Q E hr=>F.run A outer s H args us vs Q E (hr.mono h)⟩
variable{mg:Str->Option Value}{base:Heap}{CX:CXT}{fd:FuncData}{ps:List Str}{sp:Sp}
theorem bW.imp{f:Addr}{sp':Sp}(F:bW P w K mg base CX k f fd ps sp)
  (h:∀vs H Q E,sp' vs H Q E->sp vs H Q E):bW P w K mg base CX k f fd ps sp' :=
 ⟨λvs H Q E q=>F.len vs H Q E (h _ _ _ _ q),λA outer s H args us vs Q E hr he hb hv hs=>F.run A outer s H args us vs Q E hr he hb hv (h _ _ _ _ hs)⟩
variable{outer:List Env}
theorem kR.make{A:Around}(e:kR P w K mg base A outer s H)(C:Addr)(us:List Value)(kw:List (Str×Value)) :
  kR P w K mg base (A.under (.builtin "type.__call__" ⟨.ref C::us,kw⟩)) outer s H:=⟨by first|exact e.frames|(simpa[PY,Code.envs,P8,pushEnvs] using e.frames),e.mod,e.bs,e.bsz,e.gu,e.frf,e.hok,e.bare⟩
section
variable{X:Cx}{pins:List (Addr×Obj)}{σ:St}{H:Hp}{s s':Shared}
theorem Inv.wb(I:Inv X pins σ H s):kR X.prog X.w X.K X.mg X.base X.A X.stack s H :=
 ⟨I.ok.frames,I.ok.mod,I.bs,Mr I.ok.bsz I.sz,I.stack,I.mF,I.hok,I.bare⟩
theorem Inv.after{Q:VK}(I:Inv X pins σ H s)(h:CE X.stack X.prog X.w H s Q u s'):EP X pins σ Q u s':=by
 obtain⟨v,H',os,bare,un,hok,r,q⟩:=h
 obtain⟨hh,g,d,t,os'⟩:=s'
 obtain rfl:os'=s.os:=os
 exact⟨v,H',I.call (h':=hh) (g':=g) (d':=d) (t':=t) (ch:=[]) un hok bare (λb z=>absurd z (by simp)),r,q⟩
end
noncomputable def C7(sp:Sp)(dvs:List V)(E:XK)(t:TA):TE:=λσ H Q=>t σ H λvs H1=>sp (vs++dvs) H1 Q E
noncomputable def sU(C:Addr)(m:Str)(sp:Sp)(dvs:List V)(E:XK)(ta:TE)(t:TA):TE:=λσ H Q=>ta σ H λx H1=>∃a dx fs,x=.ref a/\H1 a=some (.ins C dx fs)/\fs.lookup m=none /\
 t σ H1 λvs H2=>sp (x::(vs++dvs)) H2 Q E
noncomputable def yg(C:Addr)(sp:Sp)(dvs:List V)(E:XK)(t:TA):TE:=λσ H Q=>t σ H λvs H1=>∀x dx,H1 x=none->H1 dx=none->dx≠x ->
 sp (.ref x::(vs++dvs)) (upd (upd H1 dx (.own x)) x (.ins C dx [])) (λv H2=>v=.non/\Q (.ref x) H2) E
noncomputable def Binds(K:LU)(fd:FuncData)(ps:List Str)(ds:List Value):Prop :=
 ∀(s:Shared)(us:List Value),K.In s.heap->(us++ds).length=ps.length->BindsTo s fd ⟨us,[]⟩ (ps.zip (us++ds))
theorem Binds.all(h:∀us:List Value,us.length=ps.length->bindArgs fd ⟨us,[]⟩=pure (ps.zip us)):Binds K fd ps []:=λs us _ hl=>by
 rw[MB] at hl ⊢
 exact .of_eq (h us hl)
def Passes(CX:CXT)(X:Cx)(E:XK):Prop:=∀(pins:List (Addr×Obj))(σ:St)(H:Hp)(s:Shared)(e:Value)(s':Shared),Inv X pins σ H s->CX X.stack H s E e s'->X.xe e s'
variable{vs:List V}
section
variable{X:Cx}{CX:CXT}{k:Nat}{f C:Addr}{fd:FuncData}{ps:List Str}{sp:Sp}{dvs:List V}{ds:List Value}{E:XK}{x m:Str}{p pos apos:Pos}{e o:Expr}{es:List Expr}{ta:TE}{t:TA}
theorem qu{Q:VK}(F:bW X.prog X.w X.K X.mg X.base CX k f fd ps sp)(hr:bz k X.A)(hb:Binds X.K fd ps ds)(hd:Vals dvs ds)(hx:Passes CX X E)
  (I:Inv X pins σ H s)(r:Vals vs us)(h:sp (vs++dvs) H Q E):wpAny (model X.prog X.w) X.A (call (.ref f) us) (EP X pins σ Q) X.xe s:=by
 have r2:Vals (vs++dvs) (us++ds):=r.append hd
 have hl:(us++ds).length=ps.length:=by rw[<- r2.length];exact F.len _ _ _ _ h
 refine wpAny_call (codeAny_mono (F.run X.A X.stack s H ⟨us,[]⟩ (us++ds) (vs++dvs) Q E hr I.wb (hb s us I.kIn hl) r2 h) λr s' hq=>?_)
 cases r with
 | error e=>exact hx pins σ H s e s' I hq
 | ok fl =>
  cases fl with
  | ret u=>exact I.after hq
  | next=>exact MN hq
  | brk=>exact MN hq
  | cont=>exact MN hq
theorem Bh(F:bW X.prog X.w X.K X.mg X.base CX k f fd ps sp)(hr:bz k X.A)(hg:Gl X x)(hm:X.mg x=some (.ref f))(hk:ML X.K (.ref f)=true)(hb:Binds X.K fd ps ds)(hd:Vals dvs ds)(hx:Passes CX X E)
  (ha:PA X (e::es) t)(hdb:NDb x:=by decide)(he:starEach (e::es) X.env=(false,eval e X.env)::starEach es X.env:=by rfl)(hpl:(backTo pos (starEach es X.env)).any (·.1)=false:=by rfl) :
  PE X (.Call (.Name x p) (e::es) [] pos) (C7 sp dvs E t):=by
 intro pins s σ H Q I h
 refine wpAny_Call_Name_kw (eP I hg hm ?_ hdb)
 refine Nh (h₀:=X.base) I.ok.mod.kin hk (thn (ha pos pins s σ H _ I h) λus s1 ⟨vs,H1,I1,r,q⟩=>⟨I1.kIn,?_⟩) he hpl
 exact qu F hr hb hd hx I1 r q
theorem AZ(he:PE X o ta)(c:Cls X.K C)(hm:Meth X.K C m f)(F:bW X.prog X.w X.K X.mg X.base CX k f fd ps sp)(hr:bz k X.A)(hb:Binds X.K fd ps ds)(hd:Vals dvs ds)(hx:Passes CX X E)(ha:PA X (e::es) t)
  (hst:starEach (e::es) X.env=(false,eval e X.env)::starEach es X.env:=by rfl)(hpl:(backTo pos (starEach es X.env)).any (·.1)=false:=by rfl)
  (ht:eval (.Call (.Attribute o m apos) (e::es) [] pos) X.env=(do
   let ov <- eval o X.env
   standAt apos.atName
   let (f,first) <- holding [ov] (getMethod ov m pl)
   callWith pos f first (backTo pos (starEach (e::es) X.env)) (backToKw pos (keywordEach [] X.env))):=by rfl) :
  PE X (.Call (.Attribute o m apos) (e::es) [] pos) (sU C m sp dvs E ta t):=by
 intro pins s σ H Q I h
 refine N4 (pl:=pl) (thn (he pins s σ H _ I h) λu s1 ⟨x,H1,I1,rx,a,dx,fs,ex,ea,l,q⟩=>?_) ht
 subst ex
 obtain rfl:u=ME a:=rx
 refine fV I1 ea c hm l ?_
 refine Nh (first:=[.ref a]) (h₀:=X.base) I.ok.mod.kin hm.kp (thn (ha pos pins s1 σ H1 _ I1 q) λus s2 ⟨vs,H2,I2,r,q2⟩=>⟨I2.kIn,?_⟩) hst hpl
 exact qu (us:=.ref a::us) (vs:=.ref a::vs) F hr hb hd hx I2 (.cons rfl r) q2
theorem yq(he:PE X o ta)(c:Cls X.K C)(hm:Meth X.K C m f)(F:bW X.prog X.w X.K X.mg X.base CX k f fd ps sp)(hr:bz k X.A)(hb:Binds X.K fd ps ds)(hd:Vals dvs ds)(hx:Passes CX X E)
  (ht:eval (.Call (.Attribute o m apos) [] [] pos) X.env=(do
   let ov <- eval o X.env
   standAt apos.atName
   let (f,first) <- holding [ov] (getMethod ov m pl)
   callWith pos f first (backTo pos (starEach [] X.env)) (backToKw pos (keywordEach [] X.env))):=by rfl) :
  PE X (.Call (.Attribute o m apos) [] [] pos) (sU C m sp dvs E ta EO):=by
 intro pins s σ H Q I h
 refine N4 (pl:=pl) (thn (he pins s σ H _ I h) λu s1 ⟨x,H1,I1,rx,a,dx,fs,ex,ea,l,q⟩=>?_) ht
 subst ex
 obtain rfl:u=ME a:=rx
 refine fV I1 ea c hm l ?_
 exact PySem.W.callWith_K0 (first:=[.ref a]) I1.kIn hm.kp (qu (us:=[.ref a]) (vs:=[.ref a]) F hr hb hd hx I1 (.cons rfl .nil) q)
structure Mk (K:LU) (C f:Addr):Prop where
 makes:Pn K C=true
 init:MH K (.ref C) "__init__" = some (some (.ref f))
 fn:O6 K (.ref f)=true
 kp:ML K (.ref C)=true
theorem v7{Q:VK}(M:Mk X.K C f)(F:bW X.prog X.w X.K X.mg X.base CX k f fd ps sp)(hr:bz (k+1) X.A)(hb:Binds X.K fd ps ds)(hd:Vals dvs ds)
  (hx:Passes CX X E)(I:Inv X pins σ H s)(r:Vals vs us)
  (h:∀x dx,H x=none->H dx=none->dx≠x->sp (.ref x::(vs++dvs)) (upd (upd H dx (.own x)) x (.ins C dx [])) (λv H2=>v=.non/\Q (.ref x) H2) E) :
  wpAny (model X.prog X.w) X.A (call (.ref C) us) (EP X pins σ Q) X.xe s:=by
 have hq:=h (s.heap.objs.size+1) s.heap.objs.size (I.hok.fresh (Od _)) (I.hok.fresh (Md _)) (My (NR _))
 have I2:=Inv.made (C:=C) I
 have r2:Vals (V.ref (s.heap.objs.size+1)::(vs++dvs)) (ME (s.heap.objs.size+1)::(us++ds)):=.cons rfl (r.append hd)
 have hl:(ME (s.heap.objs.size+1)::us++ds).length=ps.length:=by
  have e:=r2.length
  rw[F.len _ _ _ _ hq] at e
  exact e.symm
 refine wpAny_call (oX (f:=f) I.kIn M.makes M.init (beq_iff_eq.mp M.fn) (codeAny_mono (F.run _ X.stack _ _ ⟨ME (s.heap.objs.size+1)::us,[]⟩ (ME (s.heap.objs.size+1)::(us++ds)) _ _ E (hr.make C us [])
  (I2.wb.make C us []) (hb _ (ME (s.heap.objs.size+1)::us) I2.kIn hl) r2 hq) λr s' hq'=>?_))
 cases r with
 | error e=>exact hx pins σ _ _ e s' I2 hq'
 | ok fl =>
  cases fl with
  | ret u =>
   obtain⟨v,H',I3,rv,ev,q3⟩:=I2.after hq'
   subst ev
   exact⟨rv,⟨V.ref (s.heap.objs.size+1),H',I3,rfl,q3⟩⟩
  | next=>exact MN hq'
  | brk=>exact MN hq'
  | cont=>exact MN hq'
theorem BY(M:Mk X.K C f)(F:bW X.prog X.w X.K X.mg X.base CX k f fd ps sp)(hr:bz (k+1) X.A)(hg:Gl X x)(hm:X.mg x=some (.ref C))(hb:Binds X.K fd ps ds)(hd:Vals dvs ds)(hx:Passes CX X E)
  (ha:PA X (e::es) t)(hdb:NDb x:=by decide)(he:starEach (e::es) X.env=(false,eval e X.env)::starEach es X.env:=by rfl)(hpl:(backTo pos (starEach es X.env)).any (·.1)=false:=by rfl) :
  PE X (.Call (.Name x p) (e::es) [] pos) (yg C sp dvs E t):=by
 intro pins s σ H Q I h
 refine wpAny_Call_Name_kw (eP I hg hm ?_ hdb)
 refine Nh (h₀:=X.base) I.ok.mod.kin M.kp (thn (ha pos pins s σ H _ I h) λus s1 ⟨vs,H1,I1,r,q⟩=>⟨I1.kIn,?_⟩) he hpl
 exact v7 M F hr hb hd hx I1 r q
end
structure eG (N P:List Str) (sc:Scope):Prop where
 kind:sc.kind=.function
 co:sc.isCoroutine=false
 gen:sc.isGenerator=false
 nd:N.Nodup
 pre:N.take P.length=P
 par:∀x∈P,sc.names.lookup x=some .local\/sc.names.lookup x=some .cell
 nofree:∀y∈sc.names,y.2≠.free
theorem l5{kindOf:Str->Option NameKind}{x:Str}:∀{binds:List (Str×Value)}{m:Str->Option Value},(∀v,(x,v)∉binds)->bindL kindOf binds m x=m x
 | [],_,_=>rfl
 | (n,v)::r,m,h=>by
  unfold bindL
  rw[l5 λw hw=>h w (L6 _ hw)]
  split
  ·have:x≠n:=by rintro rfl;exact h v L8
   simp[this]
  ·rfl
theorem lK{kindOf:Str->Option NameKind}{x:Str}:∀{binds:List (Str×Value)}{m:Str->Option Value},(∀v,(x,v)∉binds)->bindC kindOf binds m x=m x
 | [],_,_=>rfl
 | (n,v)::r,m,h=>by
  unfold bindC
  rw[lK λw hw=>h w (L6 _ hw)]
  split
  ·rfl
  ·have:x≠n:=by rintro rfl;exact h v L8
   simp[this]
theorem kZ{kindOf:Str->Option NameKind}{x:Str}{v:Value}:∀{P:List Str}{vs:List Value}{i:Nat}{m:Str->Option Value},P.Nodup->P[i]?=some x->vs[i]?=some v->kindOf x=some .local ->
  bindL kindOf (P.zip vs) m x=some v
 | [],_,_,_,_,h,_,_=>by simp at h
 | _::_,[],_,_,_,_,h,_=>by simp at h
 | p::P,w::vs,0,m,nd,h1,h2,hk=>by
  simp at h1 h2;subst h1;subst h2
  show bindL kindOf ((p,w)::P.zip vs) m p=_
  unfold bindL
  rw[l5 λv hv=>(MI.mp nd).1 (OQ hv).1,if_pos hk]
  simp
 | p::P,w::vs,i+1,m,nd,h1,h2,hk=>by
  show bindL kindOf ((p,w)::P.zip vs) m x=_
  unfold bindL
  exact kZ (i:=i) (MI.mp nd).2 (by simpa using h1) (by simpa using h2) hk
theorem k7{kindOf:Str->Option NameKind}{x:Str}{v:Value}:∀{P:List Str}{vs:List Value}{i:Nat}{m:Str->Option Value},P.Nodup->P[i]?=some x->vs[i]?=some v->kindOf x≠some .local ->
  bindC kindOf (P.zip vs) m x=some v
 | [],_,_,_,_,h,_,_=>by simp at h
 | _::_,[],_,_,_,_,h,_=>by simp at h
 | p::P,w::vs,0,m,nd,h1,h2,hk=>by
  simp at h1 h2;subst h1;subst h2
  show bindC kindOf ((p,w)::P.zip vs) m p=_
  unfold bindC
  rw[lK λv hv=>(MI.mp nd).1 (OQ hv).1,if_neg hk]
  simp
 | p::P,w::vs,i+1,m,nd,h1,h2,hk=>by
  show bindC kindOf ((p,w)::P.zip vs) m x=_
  unfold bindC
  exact k7 (i:=i) (MI.mp nd).2 (by simpa using h1) (by simpa using h2) hk
noncomputable def start(N:List Str)(vs:List V):St:=vs.map some++Mn (N.length-vs.length) none
noncomputable def kS(CX:CXT)(P:Program)(w:World)(K:LU)(mg:Str->Option Value)(base:Heap)(N:List Str)(qual:Str)(scope:Scope)(f:Addr)(cd:Value)(A:Around)(outer:List Env)(s:Shared)(H:Hp)(E:XK):Cx where
 prog:=P
 w:=w
 K:=K
 mg:=mg
 base:=base
 A:=A.deeper (envOfC qual scope s.heap.objs.size f cd)
 N:=N
 s₀:=s
 H₀:=H
 env:=envOfC qual scope s.heap.objs.size f cd
 outer:=outer
 stack:=envOfC qual scope s.heap.objs.size f cd::outer
 ex:=[]
 calm:=true
 fn:=λ_=>true
 pn:=[]
 xe:=λe s'=>wpAny (model P w) (A.deeper (envOfC qual scope s.heap.objs.size f cd)) (leaving (envOfC qual scope s.heap.objs.size f cd) e) (λ_ s''=>CX outer H s E e s'') (λe' s''=>CX outer H s E e' s'') s'
theorem o8{sc:Scope}{n:Nat}(h:sc.names.lookup x=some .cell):∃c,(cellsFrom n sc.names []).lookup x=some c:=by
 have q:=OE sc.names n [] (.inl h)
 exact Option.isSome_iff_exists.mp q
variable{scope:Scope}
theorem lO{qual:Str}{f:Addr}{cd:Value}{A:Around}{s1:Shared}{E:XK}
  (S:eG N ps scope)(hd:A.handled=none)(e0:kR P w K mg base A outer s H)(hl:vs.length=ps.length)(r:Vals vs us)
  (x:InCallC s s.heap.objs.size (bindL (envOfC qual scope s.heap.objs.size f cd).kindOf (ps.zip us) λ_=>none) (cellsFrom (s.heap.objs.size+1) scope.names []) (bindC (envOfC qual scope s.heap.objs.size f cd).kindOf (ps.zip us) λ_=>none) s1) :
  Inv (kS CX P w K mg base N qual scope f cd A outer s H E) [] (start N vs) H s1:=by
 have hpl:ps.length<=N.length:=by have:=congrArg Rv S.pre;rw[Mv] at this;omega
 obtain⟨h1,tk,rfl,hk⟩:=x.done
 have noA:∀b:Addr,b∉(kS CX P w K mg base N qual scope f cd A outer s H E).ex:=λb z=>absurd (show b∈([]:List Addr) from z) (by simp)
 refine⟨⟨e0.mod,S.kind,rfl,rfl,Md _,λy z c h1 h2=>?_,λy hy=>?_,λy c _ h=>?_,λ_=>hd,P9 e0.frames,.inr ⟨rfl,rfl⟩,λb z=>absurd z (noA b),e0.bs,e0.bsz,λb _ _=>noA b,λb z=>absurd z (noA b),e0.gu,e0.frf⟩,
  rfl,e0.bare,Un.kept hk,⟨_,x.toInCall.ns,λi y v h1 h2 h3=>?_⟩,λy c h=>⟨_,x.cell y c h⟩,e0.hok.fresh (Md _),λy c h=>?_,λp hp=>absurd (show p∈([]:List (Addr×Obj)) from hp) (by simp),e0.hok.kept hk,?_⟩
 ·exact name_of_addr x.apart (Nt h1) (Nt h2)
 ·have hy:scope.names.lookup y=some .cell\/scope.names.lookup y=some .free:=hy
  rcases hy with hy|hy
  ·exact o8 hy
  ·exact absurd rfl (S.nofree _ (Nt hy))
 ·exact Qd (x.above y c (Nt h))
 ·have hi:i<vs.length:=by
   unfold start at h2
   by_cases hi:i<vs.length
   ·exact hi
   ·rw[MS (by simpa using hi)] at h2
    rw[P2] at h2
    split at h2<;>cases h2
  have ha:vs[i]?=some v:=by
   unfold start at h2
   rw[Na (by simpa using hi),MA] at h2
   cases e:vs[i]? with
   | none=>rw[e] at h2;cases h2
   | some a=>rw[e] at h2;cases h2;rfl
  obtain⟨u,hu,rv⟩:=r.get ha
  have hp:ps[i]?=some y:=by
   rw[<- S.pre,PZ (by omega)];exact h1
  have ndP:ps.Nodup:=by rw[<- S.pre];exact S.nd.sublist (Pf _ _)
  refine⟨u,rv,?_⟩
  rcases S.par y (MT hp) with k|k
  ·exact .inl ⟨k,kZ ndP hp hu k⟩
  ·obtain⟨c,e⟩:=o8 (n:=s.heap.objs.size+1) k
   refine .inr ⟨.inl k,c,e,?_⟩
   have q:=x.cell y c e
   rw[k7 ndP hp hu (by show scope.names.lookup y≠_;rw[k];decide)] at q
   exact q
 ·exact e0.hok.fresh (Qd (x.above y c (Nt h)))
 ·unfold start
  show _=N.length
  rw[Ma,LY,Qe]
  omega
theorem IG{f:Addr}{name qual:Str}{params:Arguments}{dV kV doc pm cdv ct oc:Value}{an od:Option Addr}
  {osl:Array (Option Value)}(lk:K.lookup f=some ⟨oc,od,.func (Nv name qual params body scope dV kV doc pm an cdv ct),osl⟩)(hcd:Of K cdv qual=true)(S:eG N ps scope)
  (len:∀vs H Q E,sp vs H Q E->vs.length=ps.length)
  (hbody:∀(A:Around)(outer:List Env)(s:Shared)(H:Hp)(vs:List V)(Q:VK)(E:XK),bz k (A.deeper (envOfC qual scope s.heap.objs.size f cdv))->sp vs H Q E ->
   ∃t,PSs (kS CX P w K mg base N qual scope f cdv A outer s H E) body t/\t { nx:=λ_ H'=>Q .non H',rt:=Q } (start N vs) H) :
  bW P w K mg base CX (k+1) f (Nv name qual params body scope dV kV doc pm an cdv ct) ps sp:=by
 refine⟨len,λA outer s H args us vs Q E hr e0 hb r hsp=>?_⟩
 have hl:=len _ _ _ _ hsp
 have KX:K.In s.heap:=e0.mod.kin.keeps λb o e=>(e0.bs b o e).1
 have lim:s.heap.NoLimit:=e0.mod.nolimit.keeps λb o e=>(e0.bs b o e).1
 have hkind:∀y∈ps.zip us,scope.names.lookup y.1=some .local\/(scope.names.lookup y.1=some .cell/\((cellsFrom (s.heap.objs.size+1) scope.names []).lookup y.1).isSome=true):=λ⟨n,v⟩ hy=>by
  rcases S.par n (OQ hy).1 with q|q
  ·exact .inl q
  ·exact .inr ⟨q,OE _ _ _ (.inl q)⟩
 refine codeAny_call_function hr.depth (KX _ _ lk) rfl S.co S.gen rfl (Qf KX hcd) (hb _ _ _ _ ?_)
 refine wpAny_newFunctionEnv_cells S.kind hkind λenv he s1 x=>?_
 subst he
 refine⟨lim.keeps x.toInCall.keep,codeAny_func ?_⟩
 obtain⟨t,ht,hq⟩:=hbody A outer s H vs Q E (hr.deeper _) hsp
 have I:Inv (kS CX P w K mg base N qual scope f cdv A outer s H E) [] (start N vs) H s1:=lO S hr.hd e0 hl r x
 refine wpAny_mono (ht [] s1 (start N vs) H _ I hq) (λfl s' hs=>?_) λe s' hs=>hs
 have fin:∀{σ':St}{H':Hp}{v:V}{u:Value},Inv (kS CX P w K mg base N qual scope f cdv A outer s H E) [] σ' H' s'->RelV v u->Q v H'->CE outer P w H s Q u s' :=
  λ{σ' H' v u} J rv q=>⟨v,H',J.os,J.bare,J.base,J.hok,rv,q⟩
 cases fl with
 | ret u =>
  obtain⟨v,σ',H',J,rv,q⟩:=hs
  exact fin J rv q
 | next =>
  obtain⟨σ',H',J,q⟩:=hs
  exact fin (v:=V.non) (u:=NW) J rfl q
 | brk =>
  obtain⟨_,_,_,q⟩:=hs
  exact MN q
 | cont =>
  obtain⟨_,_,_,q⟩:=hs
  exact MN q
section
variable{X:Cx}{x:Str}{p pos:Pos}{e:Expr}{es:List Expr}{t:TA}{id T:String}{r:List V->Hp->VK->Prop}
noncomputable def tCB(r:List V->Hp->VK->Prop)(t:TA):TE:=λσ H Q=>t σ H λvs H1=>r vs H1 Q
theorem gC(hc:eA X (.builtin id) r)(hg:Gl X x)(hm:X.mg x=none)(hv:bootBuiltins x=some (.builtin id))(ha:PA X (e::es) t)(hn:x ≠ "__name__" := by decide)(hdb:NDb x:=by decide)
  (he:starEach (e::es) X.env=(false,eval e X.env)::starEach es X.env:=by rfl)(hpl:(backTo pos (starEach es X.env)).any (·.1)=false:=by rfl):PE X (.Call (.Name x p) (e::es) [] pos) (tCB r t):=by
 intro pins s σ H Q I h
 refine wpAny_Call_Name_kw (kF I hg hm hv ?_ hn hdb)
 exact RI (thn (ha pos pins s σ H _ I h) λus s1 ⟨vs,H1,I1,r1,q1⟩=>hc pins s1 σ H1 vs us Q I1 r1 q1) he hpl
theorem uH(hc:eA X (.type T) r)(hg:Gl X x)(hm:X.mg x=none)(hv:bootBuiltins x=some (.type T))(ha:PA X (e::es) t)(hn:x ≠ "__name__" := by decide)(hdb:NDb x:=by decide)
  (he:starEach (e::es) X.env=(false,eval e X.env)::starEach es X.env:=by rfl)(hpl:(backTo pos (starEach es X.env)).any (·.1)=false:=by rfl):PE X (.Call (.Name x p) (e::es) [] pos) (tCB r t):=by
 intro pins s σ H Q I h
 refine wpAny_Call_Name_kw (kF I hg hm hv ?_ hn hdb)
 exact N7 (thn (ha pos pins s σ H _ I h) λus s1 ⟨vs,H1,I1,r1,q1⟩=>hc pins s1 σ H1 vs us Q I1 r1 q1) he hpl
end
end L2
namespace HT
open PySem PyProof.Rows
variable{Q:Value->Shared->Prop}{sl:Addr}{vl vu:Value}{lo hi:Option Int}
section
variable{prog:Program}{w:World}{A:Around}{E:Value->Shared->Prop}{s:Shared}
theorem BE{t b:Addr}{vs ws:List Value}(ht:IsTup s.heap t vs.toArray)(hb:IsTup s.heap b ws.toArray)(hv:vs≠[])
  (h1:ws=[]->Q (.ref t) s)(h2:ws≠[]->Q (.ref s.heap.objs.size) { s with heap:=s.heap.push { cls:=.type "tuple",data:=.seq (vs++ws).toArray } })
  (hsz:vs.length+ws.length<=sizeLine):wpAny (model prog w) A (binaryOp .Add (.ref t) (.ref b)) Q E s:=by
 obtain⟨⟨cls,dd,data,sl⟩,ho,hc,n,hd⟩:=id ht
 obtain⟨⟨cls2,dd2,data2,sl2⟩,ho2,hc2,n2,hd2⟩:=id hb
 simp only at hc hd hc2 hd2
 subst hc hd hc2 hd2
 have e:vs.toArray++ws.toArray=(vs++ws).toArray:=by simp
 by_cases hw:ws=[]
 ·exact concat_meets ⟨_,ho,rfl⟩ ⟨_,ho2,rfl⟩ noFill_tuple_add seq_tuple_add OF Oz (Ou _ _)
   (tuple_addW1 t b vs.toArray ws.toArray n n2 dd dd2 sl sl2 (by simpa using hv) (by simp[hw])) ⟨ho,ho2,h1 hw⟩
 ·refine concat_meets ⟨_,ho,rfl⟩ ⟨_,ho2,rfl⟩ noFill_tuple_add seq_tuple_add OF Oz (Ou _ _)
   (tuple_addW2 t b vs.toArray ws.toArray n n2 dd dd2 sl sl2 (by simpa using hv) (by simpa using hw) (by rw[LZ,LZ];exact hsz)) ⟨ho,ho2,?_⟩
  rw[e]
  exact h2 hw
noncomputable def sIx(n d:Nat):Option Int->Nat
 | none=>d
 | some v=>if v<0 then (v+(n:Int)).toNat else min v.toNat n
theorem pj(n d:Nat):sIx n d none=d:=rfl
theorem tu(n d k:Nat):sIx n d (some (k:Int))=min k n:=by
 show (if (k:Int)<0 then ((k:Int)+(n:Int)).toNat else min (k:Int).toNat n)=min k n
 rw[if_neg (by omega),Np]
theorem F5(n d:Nat)(hd:d<=n)(o:Option Int):sIx n d o<=n:=by
 cases o with
 | none=>exact hd
 | some v =>
  show (if v<0 then (v+(n:Int)).toNat else min v.toNat n)<=n
  by_cases hv:v<0
  ·rw[if_pos hv];omega
  ·rw[if_neg hv];exact Nat.min_le_right _ _
theorem rj(v:Int)(n d:Nat):(if v<0 then max (v+(n:Int)) 0 else min v (n:Int))=((sIx n d (some v):Nat):Int):=by
 show (if v<0 then max (v+(n:Int)) 0 else min v (n:Int))=(((if v<0 then (v+(n:Int)).toNat else min v.toNat n):Nat):Int)
 by_cases hv:v<0
 ·simp only[if_pos hv];omega
 ·simp only[if_neg hv];omega
theorem p7(lo hi:Option Int)(n:Nat):Ob lo hi 1 (n:Int)=(((sIx n 0 lo:Nat):Int),((sIx n n hi:Nat):Int)):=by
 have h1:¬ ((1:Int)<0):=by omega
 unfold Ob
 simp only[h1,if_false]
 refine Prod.ext ?_ ?_
 ·cases lo with
  | none=>rfl
  | some v=>exact rj v n 0
 ·cases hi with
  | none=>rfl
  | some v=>exact rj v n n
theorem pT(i j:Nat):NC (i:Int) (j:Int) 1=j-i:=by
 unfold NC
 have h1:(1:Int) > 0:=by omega
 simp only[h1,if_true,Int.ediv_one]
 split<;>omega
theorem kz{v:Value}{o:Option Int}{Q:Option Int->Shared->Prop}(p:IsPart v o)(h:Q o s):wpAny (model prog w) A (Rw v) Q E s:=by
 cases p with
 | none=>exact slicePart_none h
 | int i t=>exact slicePart_int h
theorem fH{n:Nat}{Q:Int×Int×Nat->Shared->Prop}(hs:s.heap.IsSliceOf sl vl vu .none)(pl:IsPart vl lo)(pu:IsPart vu hi)
  (h:Q (((sIx n 0 lo:Nat):Int),1,sIx n n hi-sIx n 0 lo) s):wpAny (model prog w) A (O8 (.ref sl) (pure (n:Int))) Q E s:=by
 obtain⟨os,hos,hcs,hds⟩:=id hs
 unfold O8 Rx
 refine wpAny_bind (wpAny_bind (wpAny_field hos hds (x:=vl) rfl (wpAny_bind (wpAny_field hos hds (x:=vu) rfl (wpAny_bind (wpAny_field hos hds (x:=.none) rfl (wpAny_pure ?_)))))))
 refine wpAny_bind (slicePart_none ?_)
 show wpAny _ _ (if ((1:Int)==0)=true then _ else _) _ _ s
 rw[if_neg (by decide)]
 refine wpAny_bind (kz pl (wpAny_bind (kz pu (wpAny_bind (wpAny_pure ?_)))))
 show wpAny _ _ (match Ob lo hi 1 (n:Int) with|(lo,hi)=>pure (lo,(1:Int),NC lo hi 1)) _ _ s
 rw[p7 lo hi n]
 show wpAny _ _ (pure (((sIx n 0 lo:Nat):Int),(1:Int),NC ((sIx n 0 lo:Nat):Int) ((sIx n n hi:Nat):Int) 1)) _ _ s
 rw[pT]
 exact wpAny_pure h
theorem xB(xs:Array Value)(i k:Nat):((MD k).filterMap λ(m:Nat)=>xs[((i:Int)+(m:Int)*1).toNat]?).toArray=((xs.toList.drop i).take k).toArray:=by
 have e:(λ(m:Nat)=>xs[((i:Int)+(m:Int)*1).toNat]?)=λm=>xs[i+m]?:=by
  funext m
  have:((i:Int)+(m:Int)*1).toNat=i+m:=by omega
  rw[this]
 rw[e]
 have:=pick_run xs i k
 rw[List.filterMap_map] at this
 have e2:((λx=>xs[x]?)∘λx=>i+x)=λm=>xs[i+m]?:=rfl
 rw[e2] at this
 rw[this]
theorem ja{t:Addr}{items:Array Value}(ht:IsTup s.heap t items)(hs:s.heap.IsSliceOf sl vl vu .none)(pl:IsPart vl lo)(pu:IsPart vu hi)
  (hw:¬ (sIx items.size 0 lo=0/\sIx items.size items.size hi=items.size))
  (h:Q (.ref s.heap.objs.size) { s with heap:=s.heap.push { cls:=.type "tuple",data:=.seq ((items.toList.drop (sIx items.size 0 lo)).take (sIx items.size items.size hi-sIx items.size 0 lo)).toArray } })
  (hsz:items.size<=sizeLine):wpAny (model prog w) A (getItem (.ref t) (.ref sl)) Q E s:=by
 have htake:sizeOk (.seq ((items.toList.drop (sIx items.size 0 lo)).take (sIx items.size items.size hi-sIx items.size 0 lo)).toArray):=by
  show ((items.toList.drop (sIx items.size 0 lo)).take (sIx items.size items.size hi-sIx items.size 0 lo)).toArray.size<=sizeLine
  rw[LZ,Mv,Ni,Nr]
  omega
 have hj:sIx items.size items.size hi<=items.size:=F5 _ _ (Md _) hi
 obtain⟨os,hos,hcs,hds⟩:=id hs
 have hTs:s.TypeIs (.ref sl) "slice" := ⟨os,hos,hcs⟩
 unfold getItem
 try with_reducible refine wpAny_holding ?_
 first|refine wpAny_bind (wpAny_pure ?_)|skip
 refine wpAny_bind (wpAny_sequenceKey ht.typeIs (by decide) ?_)
 refine wpAny_bind (wpAny_callSpecial?_slot (name:=Ry "__getitem__") ht.typeIs MP
  (wpAny_call_entry MP ht.typeIs entry_tuple_getitem ?_ (args_tuple_getitem _ _)))
 show wpAny _ _ (O9 (.ref t) >>= _) _ _ s
 refine wpAny_bind (tupleItemsOf_ ht ?_)
 refine wpAny_bind (wpAny_typeOf hTs ?_)
 rw[if_pos (by decide)]
 refine wpAny_bind (fH hs pl pu ?_)
 have hno:¬ ((((sIx items.size 0 lo:Nat):Int)==0&&(1:Int)==1&&(sIx items.size items.size hi-sIx items.size 0 lo)==items.size)=true):=by
  intro q
  rw[LV,LV] at q
  have q1:((sIx items.size 0 lo:Nat):Int)=0:=eq_of_beq q.1.1
  have q2:sIx items.size items.size hi-sIx items.size 0 lo=items.size:=eq_of_beq q.2
  exact hw ⟨by omega,by omega⟩
 show wpAny _ _ (if (((sIx items.size 0 lo:Nat):Int)==0&&(1:Int)==1&&(sIx items.size items.size hi-sIx items.size 0 lo)==items.size)=true then _ else _) _ _ s
 rw[if_neg hno,xB]
 first
  | exact wpAny_bind (m:=NI _) (wpAny_newObj_type (wpAny_pure ⟨_,rfl,wpAny_pure h⟩) htake)
  | exact wpAny_bind (m:=NI _) (wpAny_newObj_type (wpAny_bind (wpAny_pure (wpAny_pure ⟨_,rfl,wpAny_pure h⟩))) htake)
  | exact wpAny_bind (wpAny_bind (m:=NI _) (wpAny_newObj_type (wpAny_pure (wpAny_pure ⟨_,rfl,wpAny_pure h⟩)) htake))
  | exact wpAny_bind (wpAny_bind (m:=NI _) (wpAny_newObj_type (wpAny_pure ⟨_,rfl,wpAny_pure h⟩) htake))
end
end HT
namespace L2
open PySem PySem.Spec PyProof.Rows
noncomputable abbrev TO:=St->Hp->(Option Int->Hp->Prop)->Prop
noncomputable def PO(X:Cx)(e:Option Expr)(t:TO):Prop :=
 ∀(pins:List (Addr×Obj))(s:Shared)(σ:St)(H:Hp)(Q:Option Int->Hp->Prop),Inv X pins σ H s->t σ H Q ->
  wpAny (model X.prog X.w) X.A (evalPart e X.env) (λu s'=>∃o H',Inv X pins σ H' s'/\IsPart u o/\Q o H') X.xe s
noncomputable def zu:TO:=λ_ H Q=>Q none H
noncomputable def Ja(t:TE):TO:=λσ H Q=>t σ H λx H1=>∃i,x=.int i/\Q (some i) H1
variable{r:V->Option Int->Option Int->Hp->VK->Prop}
section
variable{X:Cx}{e:Expr}{te:TE}{lo hi:Option Expr}{tl th:TO}{pos p2:Pos}
theorem B4:PO X none zu:=by
 intro pins s σ H Q I h
 rw[evalPart_none]
 exact wpAny_pure ⟨none,H,I,.none,h⟩
theorem Be(h:PE X e te):PO X (some e) (Ja te):=by
 intro pins s σ H Q I hw
 rw[evalPart_some]
 refine thn (h pins s σ H _ I hw) λu s1 ⟨x,H1,I1,r1,q1⟩=>?_
 obtain⟨i,rfl,q⟩:=q1
 obtain⟨t,rfl⟩:=r1
 exact⟨some i,H1,I1,.int i t,q⟩
noncomputable def SlR(X:Cx)(r:V->Option Int->Option Int->Hp->VK->Prop):Prop :=
 ∀(pins:List (Addr×Obj))(s:Shared)(σ:St)(H:Hp)(x:V)(v vl vu:Value)(lo hi:Option Int)(sl:Addr)(Q:VK),Inv X pins σ H s->RelV x v->s.heap.IsSliceOf sl vl vu .none->IsPart vl lo->IsPart vu hi->r x lo hi H Q ->
  ∃T id,typeLookup (.type T) "__getitem__" = pure (some (.builtin id))/\s.TypeIs v T/\wpAny (model X.prog X.w) X.A (getItem v (.ref sl)) (EP X pins σ Q) X.xe s
theorem SlR.or{r':V->Option Int->Option Int->Hp->VK->Prop}(h:SlR X r)(h':SlR X r'):SlR X (λx lo hi H Q=>r x lo hi H Q\/r' x lo hi H Q):=by
 intro pins s σ H x v vl vu lo hi sl Q I rx hs pl pu q
 rcases q with q|q
 ·exact h pins s σ H x v vl vu lo hi sl Q I rx hs pl pu q
 ·exact h' pins s σ H x v vl vu lo hi sl Q I rx hs pl pu q
noncomputable def tSl(r:V->Option Int->Option Int->Hp->VK->Prop)(te:TE)(tl th:TO):TE:=λσ H Q=>te σ H λx H1=>tl σ H1 λl H2=>th σ H2 λu H3=>r x l u H3 Q
theorem uY(hr:SlR X r)(he:PE X e te)(hl:PO X lo tl)(hu:PO X hi th):PE X (.Subscript e (.Slice lo hi none p2) pos) (tSl r te tl th):=by
 intro pins s σ H Q I h
 refine Subscript_ (thn (he pins s σ H _ I h) λv s1 ⟨x,H1,I1,r1,q1⟩=>?_)
 refine wpAny_Slice (thn (hl pins s1 σ H1 _ I1 q1) λvl s2 ⟨l,H2,I2,pl,q2⟩=>thn (hu pins s2 σ H2 _ I2 q2) λvu s3 ⟨u,H3,I3,pu,q3⟩=>?_)
 rw[evalPart_none]
 refine wpAny_pure ?_
 have I4:Inv X pins σ H3 { s3 with heap:=s3.heap.push { cls:=.type "slice",data:=.fields #[vl,vu,.none] } }:=I3.kept (t':=s3.toks) λb ob q=>L9 _ q
 obtain⟨T,id,hT,ht,hg⟩:=hr pins { s3 with heap:=s3.heap.push { cls:=.type "slice",data:=.fields #[vl,vu,.none] } } σ H3 x v vl vu l u s3.heap.objs.size Q I4 r1 (Rk ..) pl pu q3
 show wpAny (model X.prog X.w) X.A (subscriptTail e (.Slice lo hi none p2) v (.ref s3.heap.objs.size)) (EP X pins σ Q) X.xe { s3 with heap:=s3.heap.push { cls:=.type "slice",data:=.fields #[vl,vu,.none] } }
 exact tail_any (ops:=[.ref s3.heap.objs.size,v]) ht hT hg (by with_unfolding_all rfl)
noncomputable def nG(xs:List V)(lo hi:Option Int):List V:=(xs.drop (HT.sIx xs.length 0 lo)).take (HT.sIx xs.length xs.length hi-HT.sIx xs.length 0 lo)
theorem jB(xs:List V)(lo hi:Option Int):(nG xs lo hi).length<=xs.length:=by
 unfold nG
 rw[Mv,Ni]
 omega
noncomputable def LM(K:LU):V->Option Int->Option Int->Hp->VK->Prop:=λx lo hi H Q=>∃a xs,x=.ref a/\SqT K H a xs /\
 ¬ (HT.sIx xs.length 0 lo=0/\HT.sIx xs.length xs.length hi=xs.length)/\∀p,H p=none->Q (.ref p) (upd H p (.tup (nG xs lo hi)))
theorem Dx:SlR X (LM X.K):=by
 intro pins s σ H x v vl vu lo hi sl Q I rx hs pl pu h
 obtain⟨a,xs,rfl,hx,hw,q⟩:=h
 cases rx
 obtain⟨its,r,ht,hz⟩:=I.tuple hx
 have hlen:its.toArray.size=xs.length:=by rw[LZ];exact r.length.symm
 refine⟨"tuple",_,MP.lookup,ht.typeIs,?_⟩
 refine HT.ja ht hs pl pu (by rw[hlen];exact hw) ?_ (by rw[hlen];exact hz)
 rw[hlen]
 refine⟨.ref s.heap.objs.size,_,I.laid (t':=s.toks) (o:=.tup (nG xs lo hi)) (λb ob q=>L9 _ q) (Md _) ?_,rfl,q _ (I.hok.fresh (Md _))⟩
 exact⟨Mr (jB xs lo hi) hz,_,(r.drop (HT.sIx xs.length 0 lo)).take (HT.sIx xs.length xs.length hi-HT.sIx xs.length 0 lo),gL.new _ _⟩
noncomputable def Jv(K:LU):R2:=λx y H Q=>∃a b xs ys,x=.ref a/\y=.ref b/\SqT K H a xs/\SqT K H b ys/\xs≠[]/\xs.length+ys.length<=sizeLine /\
 (ys=[]->Q (.ref a) H)/\(ys≠[]->∀p,H p=none->Q (.ref p) (upd H p (.tup (xs++ys))))
theorem Vals.nu{xs:List V}{us:List Value}(r:Vals xs us):us=[]↔xs=[]:=by
 cases r with
 | nil=>simp
 | cons _ _=>simp
theorem zr:OpR X (binaryOp .Add) (Jv X.K):=by
 intro pins s σ H x y v u Q I rx ry h
 obtain⟨a,b,xs,ys,rfl,rfl,ha,hb,hx,hz,q1,q2⟩:=h
 cases rx
 cases ry
 obtain⟨its,r1,p1,_⟩:=I.tuple ha
 obtain⟨its2,r2,p2,_⟩:=I.tuple hb
 refine HT.BE p1 p2 (λz=>hx (r1.nu.mp z)) (λz=>⟨.ref a,H,I,rfl,q1 (r2.nu.mp z)⟩) (λz=>?_) (by rw[<- r1.length,<- r2.length];exact hz)
 refine⟨.ref s.heap.objs.size,_,I.laid (t':=s.toks) (o:=.tup (xs++ys)) (λb ob q=>L9 _ q) (Md _) ?_,rfl,q2 (λw=>z (r2.nu.mpr w)) _ (I.hok.fresh (Md _))⟩
 exact⟨by rw[Ma];exact hz,_,r1.append r2,gL.new _ _⟩
end
noncomputable def ixN(n:Nat)(i:Int):Option Nat:=if 0<=i then (if i<n then some i.toNat else none) else if -(n:Int)<=i then some (i+n).toNat else none
noncomputable def atI{α:Type}(xs:List α)(i:Int):Option α:=(ixN xs.length i).bind λj=>xs[j]?
variable{i:Int}{j:Nat}
theorem sj{n:Nat}(h:ixN n i=some j):seqIndex? i n=some j/\j<n /\ -(n:Int)<=i/\i<n:=by
 unfold ixN at h
 by_cases h0:0<=i
 ·rw[if_pos h0] at h
  by_cases h1:i<n
  ·rw[if_pos h1] at h
   have e:i.toNat=j:=Mc h
   exact⟨by rw[seqIndex_of h0 h1,e],by omega,by omega,h1⟩
  ·rw[if_neg h1] at h;cases h
 ·rw[if_neg h0] at h
  by_cases h1:-(n:Int)<=i
  ·rw[if_pos h1] at h
   have e:(i+n).toNat=j:=Mc h
   exact⟨by rw[seqIndex_neg (by omega) h1,e],by omega,h1,by omega⟩
  ·rw[if_neg h1] at h;cases h
variable{α:Type}
theorem mE{xs:List α}{v:α}(h:atI xs i=some v):∃j,seqIndex? i xs.length=some j/\xs[j]?=some v/\j<xs.length /\ -(xs.length:Int)<=i/\i<xs.length:=by
 unfold atI at h
 cases e:ixN xs.length i with
 | none=>rw[e] at h;cases h
 | some j =>
  rw[e] at h
  obtain⟨h1,h2,h3,h4⟩:=sj e
  exact⟨j,h1,h,h2,h3,h4⟩
theorem fJ{xs:List α}{v:α}(h:xs[j]?=some v):atI xs (j:Int)=some v:=by
 have hj:j<xs.length:=(Mb.mp h).1
 have e:ixN xs.length (j:Int)=some j:=by
  unfold ixN
  rw[if_pos (by omega),if_pos (by omega)];simp
 unfold atI;rw[e];exact h
def jQ(b:Expr):Prop:=∀o i,subscripted b false o i=operate [o,i] (getItem o i)
noncomputable def IxR(X:Cx)(r:R2):Prop :=
 ∀(value slice:Expr)(pins:List (Addr×Obj))(s:Shared)(σ:St)(H:Hp)(x y:V)(v u:Value)(Q:VK),Inv X pins σ H s->RelV x v->RelV y u->r x y H Q ->
  subscripted slice false v u=operate [v,u] (getItem v u)->wpAny (model X.prog X.w) X.A (subscriptTail value slice v u) (EP X pins σ Q) X.xe s
noncomputable def MtR(X:Cx)(id:String)(r:V->List V->Hp->VK->Prop):Prop :=
 ∀(pins:List (Addr×Obj))(s:Shared)(σ:St)(H:Hp)(x:V)(xs:List V)(v:Value)(us:List Value)(Q:VK),Inv X pins σ H s->RelV x v->Vals xs us->r x xs H Q ->
  wpAny (model X.prog X.w) X.A (call (.builtin id) (v::us)) (EP X pins σ Q) X.xe s
variable{pins:List (Addr×Obj)}{σ:St}{H:Hp}{s:Shared}{p:Addr}{its its':List Value}{y x:V}{u:Value}{T:String}
section
variable{X:Cx}{a b:Expr}{ta tb:TE}{pos:Pos}
theorem IxR.or{r r':R2}(h:IxR X r)(h':IxR X r'):IxR X (λx y H Q=>r x y H Q\/r' x y H Q):=by
 intro value slice pins s σ H x y v u Q I rx ry q hs
 rcases q with q|q
 ·exact h value slice pins s σ H x y v u Q I rx ry q hs
 ·exact h' value slice pins s σ H x y v u Q I rx ry q hs
theorem JO{r:R2}(hr:IxR X r)(ha:PE X a ta)(hb:PE X b tb)(hs:jQ b):PE X (.Subscript a b pos) (tOp r ta tb):=by
 intro pins s σ H Q I h
 exact Subscript_ (GG ha hb I h λv u s2 x y H2 I2 rx ry q=>hr a b pins s2 σ H2 x y v u Q I2 rx ry q (hs _ _))
noncomputable def HQ(K:LU):R2:=λx y H Q=>∃p xs i v,x=.ref p/\y=.int i/\SqL K H p xs/\atI xs i=some v/\Q v H
noncomputable def IB(K:LU):R2:=λx y H Q=>∃p xs i v,x=.ref p/\y=.int i/\SqT K H p xs/\atI xs i=some v/\Q v H
noncomputable def Ho:R2:=λx y H Q=>∃z i c,x=.str z/\y=.int i/\z.length<=sizeLine/\atI z.cps.toList i=some c/\Q (.str ⟨#[c]⟩) H
theorem Ao:IxR X (HQ X.K):=by
 intro value slice pins s σ H x y v u Q I rx ry h hs
 obtain⟨p,xs,i,z,rfl,rfl,hq,he,q⟩:=h
 cases rx
 obtain⟨t,rfl⟩:=ry
 obtain⟨its,r,pl,hz⟩:=I.list hq
 obtain⟨j,h1,h2,h3,h4,h5⟩:=mE he
 obtain⟨w,ew,rw'⟩:=r.get h2
 have hl:=r.length
 have hn:=kQ
 have fin:EP X pins σ Q w s:=⟨z,H,I,rw',q⟩
 by_cases h0:0<=i
 ·have hj:i.toNat=j:=by
   rw[seqIndex_of h0 h5] at h1
   exact Mc h1
  exact item_listR pl.isList h0 (by omega) (by rw[hj];simpa using ew) fin hs
 ·have hj:(i+(its.toArray.size:Int)).toNat=j:=by
   rw[seqIndex_neg (by omega) h4] at h1
   rw[LZ,<- hl]
   exact Mc h1
  exact subscriptTail_builtinR (x:=w) pl.isList.typeIs slot_list_getitem.lookup
   (wpAny_getItem_list_neg (Q:=λr s'=>r=w/\EP X pins σ Q r s') pl.isList (by omega) (by rw[LZ]<;>omega) (by omega) (by rw[hj];simpa using ew) ⟨rfl,fin⟩) hs
theorem G6:IxR X (IB X.K):=by
 intro value slice pins s σ H x y v u Q I rx ry h hs
 obtain⟨p,xs,i,z,rfl,rfl,hq,he,q⟩:=h
 cases rx
 obtain⟨t,rfl⟩:=ry
 obtain⟨its,r,pl,hz⟩:=I.tuple hq
 obtain⟨j,h1,h2,h3,h4,h5⟩:=mE he
 obtain⟨w,ew,rw'⟩:=r.get h2
 have hl:=r.length
 have hn:=kQ
 have fin:EP X pins σ Q w s:=⟨z,H,I,rw',q⟩
 exact subscriptTail_builtinR (x:=w) pl.typeIs slot_tuple_getitem.lookup
  (getItem_tuple (j:=j) (Q:=λr s'=>r=w/\EP X pins σ Q r s') pl (by omega) (by omega) (by rw[LZ,<- hl];exact h1) (by simpa using ew) ⟨rfl,fin⟩) hs
theorem DV:IxR X Ho:=by
 intro value slice pins s σ H x y v u Q I rx ry h hs
 obtain⟨z,i,c,rfl,rfl,hz,he,q⟩:=h
 obtain⟨t,rfl⟩:=rx
 obtain⟨t',rfl⟩:=ry
 obtain⟨j,h1,h2,h3,h4,h5⟩:=mE he
 have hl:z.cps.toList.length=z.length:=by simp[QB]
 rw[hl] at h1 h4 h5
 have hn:=kQ
 exact tail_any (typeIs_str s z t) slot_str_getitem.lookup (getItem_str (c:=c) (by
  have e1:decide (i < -(2^63:Int))=false:=decide_eq_false (by omega)
  have e2:decide (i≥2^63)=false:=decide_eq_false (by omega)
  rw[e1,e2,Bool.or_false]) (by rw[h1];simpa using h2) ⟨.str ⟨#[c]⟩,H,I.tok _,⟨_,rfl⟩,q⟩) hs
noncomputable def rIx(K:LU):R2:=λx y H Q=>HQ K x y H Q\/IB K x y H Q\/Ho x y H Q
theorem GX:IxR X (rIx X.K):=Ao.or (G6.or DV)
theorem qp(its:List Value)(n j:Nat)(u:Value):OR (·.setIfInBounds j u) { cls:=.type "list",data:=.seq its.toArray n }={ cls:=.type "list",data:=.seq (its.set j u).toArray n }:=by
 simp[OR]
theorem Inv.lst{xs:List V}(I:Inv X pins σ H s)(h:H p=some (.lst xs)) :
  ∃(its:List Value) (n:Nat),Vals xs its/\s.heap.get? p=some { cls:=.type "list",data:=.seq its.toArray n }/\xs.length<=sizeLine:=by
 obtain⟨z,its,n,r,e⟩:=I.hok p _ h
 exact⟨its,n,r,e,z⟩
theorem Inv.D6{xs ys:List V}{n n':Nat}{f:Obj->Obj}(I:Inv X pins σ H s)(h:H p=some (.lst xs))
  (ho:s.heap.get? p=some { cls:=.type "list",data:=.seq its.toArray n })(hf:f { cls:=.type "list",data:=.seq its.toArray n }={ cls:=.type "list",data:=.seq its'.toArray n' })(r:Vals ys its')(hz:ys.length<=sizeLine)(t:Nat) :
  Inv X pins σ (upd H p (.lst ys)) { s with heap:=s.heap.update p f,toks:=t }:=by
 have e:(s.heap.update p f).get? p=some { cls:=.type "list",data:=.seq its'.toArray n' }:=by
  rw[N9 f ho (by rw[hf]<;>rfl),hf]
 refine I.write (x:=p) (e:=p) (by rw[h];trivial) (.inl rfl) (λb u hb q=>(Nz _ _ (M8 hb)).trans q) ⟨_,e⟩ ?_
 exact⟨hz,its',n',r,e⟩
noncomputable def CK:V->V->V->Hp->(Hp->Prop)->Prop:=λo i v H Q=>∃p xs k j,o=.ref p/\i=.int k/\H p=some (.lst xs)/\ixN xs.length k=some j/\Q (upd H p (.lst (xs.set j v)))
theorem set_list:Kv X CK:=by
 intro pins s σ H o i v ov iv u Q I ro ri rv h
 obtain⟨p,xs,k,j,rfl,rfl,hp,hj,q⟩:=h
 cases ro
 obtain⟨t,rfl⟩:=ri
 obtain⟨its,n,r,ho,hz⟩:=I.lst hp
 obtain⟨h1,h2,h3,h4⟩:=sj hj
 have hl:=r.length
 have hn:=kQ
 have I':Inv X pins σ (upd H p (.lst (xs.set j v))) { s with heap:=s.heap.update p (OR (·.setIfInBounds j u)) } :=
  I.D6 hp ho (qp its n j u) (r.set rv j) (by rw[List.length_set];exact hz) s.toks
 by_cases h0:0<=k
 ·have hk:k.toNat=j:=by
   rw[seqIndex_of h0 h4] at h1
   exact Mc h1
  exact PySem.W.ki_setAt ho h0 (by omega) (by rw[LZ,<- hl];exact h4) (by rw[hk];exact⟨_,I',q⟩)
 ·have hk:(k+(its.toArray.size:Int)).toNat=j:=by
   rw[seqIndex_neg (by omega) h3] at h1
   rw[LZ,<- hl]
   exact Mc h1
  exact PySem.W.ki_setBack ho (by omega) (by rw[LZ,<- hl];exact h3) (by omega) (by rw[hk];exact⟨_,I',q⟩)
theorem nE(lo hi:Option Int)(n:Nat):(sliceBounds lo hi none n).1=((HT.sIx n 0 lo:Nat):Int)/\(sliceBounds lo hi none n).2.1=((HT.sIx n n hi:Nat):Int)/\(sliceBounds lo hi none n).2.2=1:=by
 refine⟨?_,?_,rfl⟩
 ·cases lo with
  | none=>simp[sliceBounds,HT.sIx]
  | some i =>
   simp only[sliceBounds,HT.sIx,Qu,show (1:Int) > 0 by decide,if_true]
   by_cases h:i<0
   ·simp only[h,if_true]<;>omega
   ·simp only[h,if_false]<;>omega
 ·cases hi with
  | none=>simp[sliceBounds,HT.sIx]
  | some i =>
   simp only[sliceBounds,HT.sIx,Qu,show (1:Int) > 0 by decide,if_true]
   by_cases h:i<0
   ·simp only[h,if_true]<;>omega
   ·simp only[h,if_false]<;>omega
theorem kW(its:List Value)(lo hi:Option Int):slicePick its.toArray lo hi none=((its.drop (HT.sIx its.length 0 lo)).take (HT.sIx its.length its.length hi-HT.sIx its.length 0 lo)).toArray:=by
 obtain⟨h1,h2,h3⟩:=nE lo hi its.toArray.size
 unfold slicePick
 rw[h1,h2,h3]
 simp only[sliceRange_one,pick_run,LZ]<;>rfl
noncomputable def K6(K:LU):V->Option Int->Option Int->Hp->VK->Prop:=λx lo hi H Q=>∃a xs,x=.ref a/\SqL K H a xs/\∀p,H p=none->Q (.ref p) (upd H p (.lst (nG xs lo hi)))
theorem BP:SlR X (K6 X.K):=by
 intro pins s σ H x v vl vu lo hi sl Q I rx hs pl pu h
 obtain⟨a,xs,rfl,hx,q⟩:=h
 cases rx
 obtain⟨its,r,ht,hz⟩:=I.list hx
 have hlen:=r.length
 refine⟨"list",_,slot_list_getitem.lookup,ht.isList.typeIs,?_⟩
 refine wpAny_getItem_list_slice ht.isList hs pl pu .none (by simp) ?_ (by rw[LZ]<;>omega)
 rw[kW,<- hlen]
 refine⟨.ref s.heap.objs.size,_,I.laid (t':=s.toks) (o:=.lst (nG xs lo hi)) (λb ob q=>L9 _ q) (Md _) ?_,rfl,q _ (I.hok.fresh (Md _))⟩
 exact⟨Mr (jB xs lo hi) hz,_,0,(r.drop (HT.sIx xs.length 0 lo)).take (HT.sIx xs.length xs.length hi-HT.sIx xs.length 0 lo),Mz _ rfl⟩
noncomputable def gM:V->Bool
 | .non=>true
 | .bl _=>true
 | .int _=>true
 | .str _=>true
 | _=>false
noncomputable def eqV:V->V->Bool
 | .non,.non=>true
 | .bl a,.bl b=>a==b
 | .bl a,.int b=>(if a then 1 else 0)==b
 | .int a,.bl b=>a==(if b then 1 else 0)
 | .int a,.int b=>a==b
 | .str a,.str b=>a==b
 | _,_=>false
theorem bZ{A:Around}{v:Value}(ry:RelV y u)(rx:RelV x v)(fy:gM y=true)(fx:gM x=true):OK A s u v (eqV y x):=by
 cases y with
 | non =>
  cases ry
  cases x with
  | non=>cases rx;exact OK.same _
  | bl b=>cases rx;exact OK.none_bool b
  | int b=>obtain⟨t,rfl⟩:=rx;exact OK.none_int b t
  | str b=>obtain⟨t,rfl⟩:=rx;exact OK.none_str b t
  | _=>exact absurd (show false=true from fx) Mt
 | bl a =>
  cases ry
  cases x with
  | non=>cases rx;exact OK.bool_none a
  | bl b=>cases rx;exact OK.bool_bool a b
  | int b=>obtain⟨t,rfl⟩:=rx;exact OK.bool_int a b t
  | str b=>obtain⟨t,rfl⟩:=rx;exact OK.bool_str a b t
  | _=>exact absurd (show false=true from fx) Mt
 | int a =>
  obtain⟨t',rfl⟩:=ry
  cases x with
  | non=>cases rx;exact OK.int_none a t'
  | bl b=>cases rx;exact OK.int_bool a t' b
  | int b=>obtain⟨t,rfl⟩:=rx;exact OK.int_int a t' b t
  | str b=>obtain⟨t,rfl⟩:=rx;exact PU a t' b t
  | _=>exact absurd (show false=true from fx) Mt
 | str a =>
  obtain⟨t',rfl⟩:=ry
  cases x with
  | non=>cases rx;exact OK.str_none a t'
  | bl b=>cases rx;exact OK.str_bool a t' b
  | int b=>obtain⟨t,rfl⟩:=rx;exact PV a t' b t
  | str b=>obtain⟨t,rfl⟩:=rx;exact OK.str_str a t' b t
  | _=>exact absurd (show false=true from fx) Mt
 | _=>exact absurd (show false=true from fy) Mt
noncomputable def eqU(x:V)(u:Value):Bool:=match u with
 | .none=>eqV .non x
 | .bool b=>eqV (.bl b) x
 | .int i _=>eqV (.int i) x
 | .str z _=>eqV (.str z) x
 | _=>false
theorem zb(r:RelV y u)(f:gM y=true):eqU x u=eqV y x:=by
 cases y with
 | non=>cases r;rfl
 | bl b=>cases r;rfl
 | int i=>obtain⟨t,rfl⟩:=r;rfl
 | str z=>obtain⟨t,rfl⟩:=r;rfl
 | _=>exact absurd (show false=true from f) Mt
theorem iS{x:V}:∀{xs:List V}{us:List Value},Vals xs us->xs.all gM=true->us.any (eqU x)=xs.any λy=>eqV y x
 | _,_,.nil,_=>rfl
 | y::xs,u::us,.cons r t,f=>by
  rw[Mu,LV] at f
  rw[NU,NU,zb r f.1,iS t f.2]
theorem gS{A:Around}{s:Shared}{x:V}{v:Value}(rx:RelV x v)(fx:gM x=true):∀{xs:List V}{us:List Value},Vals xs us->xs.all gM=true->∀u∈us,OK A s u v (eqU x u)
 | _,_,.nil,_=>λu hu=>by cases hu
 | y::xs,u::us,.cons r t,f=>λu' hu=>by
  rw[Mu,LV] at f
  rcases Ml.mp hu with rfl|hu
  ·rw[zb r f.1];exact bZ r rx f.1 fx
  ·exact gS rx fx t f.2 u' hu
noncomputable def inV(x:V)(xs:List V):Bool:=xs.any λy=>eqV y x
noncomputable def rIn(K:LU)(neg:Bool):R2:=λx y H Q=>∃p xs,y=.ref p/\(SqL K H p xs\/SqT K H p xs)/\gM x=true/\xs.all gM=true/\Q (.bl (if neg then !inV x xs else inV x xs)) H
theorem lV:OpR X (compareOp .In) (rIn X.K false):=by
 intro pins s σ H x y v u Q I rx ry h
 obtain⟨p,xs,rfl,hq,fx,fs,q⟩:=h
 cases ry
 rcases hq with hq|hq
 ·obtain⟨its,r,pl,hz⟩:=I.list hq
  refine SeqAt.in_listAt (eqU x) pl.isList (λw hw=>gS rx fx r fs w (by simpa using hw)) ⟨.bl _,H,I,rfl,?_⟩
  rw[show its.toArray.any (eqU x)=its.any (eqU x) by simp,iS r fs]
  exact q
 ·obtain⟨its,r,pl,hz⟩:=I.tuple hq
  refine SeqAt.in_tupleAt (eqU x) pl (λw hw=>gS rx fx r fs w (by simpa using hw)) ⟨.bl _,H,I,rfl,?_⟩
  rw[show its.toArray.any (eqU x)=its.any (eqU x) by simp,iS r fs]
  exact q
theorem iT:OpR X (compareOp .NotIn) (rIn X.K true):=by
 intro pins s σ H x y v u Q I rx ry h
 obtain⟨p,xs,rfl,hq,fx,fs,q⟩:=h
 cases ry
 rcases hq with hq|hq
 ·obtain⟨its,r,pl,hz⟩:=I.list hq
  refine SeqAt.notIn_listAt (eqU x) pl.isList (λw hw=>gS rx fx r fs w (by simpa using hw)) ⟨.bl _,H,I,rfl,?_⟩
  rw[show its.toArray.any (eqU x)=its.any (eqU x) by simp,iS r fs]
  exact q
 ·obtain⟨its,r,pl,hz⟩:=I.tuple hq
  refine SeqAt.notIn_tupleAt (eqU x) pl (λw hw=>gS rx fx r fs w (by simpa using hw)) ⟨.bl _,H,I,rfl,?_⟩
  rw[show its.toArray.any (eqU x)=its.any (eqU x) by simp,iS r fs]
  exact q
theorem mq:eA X (.type "list") (λxs H Q=>∃p ys,xs=[.ref p]/\(SqL X.K H p ys\/SqT X.K H p ys)/\∀l,H l=none->Q (.ref l) (upd H l (.lst ys))):=by
 intro pins s σ H xs us Q I r h
 obtain⟨p,ys,rfl,hq,q⟩:=h
 obtain⟨u,rfl,rx⟩:=vals1 r
 cases rx
 have fin:∀(its:List Value),Vals ys its->ys.length<=sizeLine->∀(h':Heap)(c':Nat),(∀b o',s.heap.get? b=some o'->h'.get? b=some o') ->
   h'.get? s.heap.objs.size=some { cls:=.type "list",dict:=none,data:=.seq its.toArray c',slots:=#[] }->EP X pins σ Q (.ref s.heap.objs.size) { s with heap:=h' }:=λits r' hz h' c' kp e =>
  ⟨.ref s.heap.objs.size,_,I.laid (t':=s.toks) kp (Md _) (show bb X.prog X.w _ h' _ (.lst ys) from ⟨hz,its,c',r',e⟩),rfl,q _ (I.hok.fresh (Md _))⟩
 rcases hq with hq|hq
 ·obtain⟨its,r',pl,hz⟩:=I.list hq
  have hlen:=r'.length
  obtain⟨o,ho,hc,n,hd⟩:=pl.isList
  exact call_list_seq p (.inl rfl) ho hc hd (λh' c' kp e=>fin its r' hz h' c' kp e) (by simp only[LZ]<;>omega)
 ·obtain⟨its,r',pl,hz⟩:=I.tuple hq
  have hlen:=r'.length
  obtain⟨o,ho,hc,n,hd⟩:=pl
  exact call_list_seq p (.inr rfl) ho hc hd (λh' c' kp e=>fin its r' hz h' c' kp e) (by simp only[LZ]<;>omega)
theorem kY:eA X (.type "tuple") (λxs H Q=>∃p ys,xs=[.ref p]/\((SqL X.K H p ys/\∀l,H l=none->Q (.ref l) (upd H l (.tup ys)))\/(SqT X.K H p ys/\Q (.ref p) H))):=by
 intro pins s σ H xs us Q I r h
 obtain⟨p,ys,rfl,h⟩:=h
 obtain⟨u,rfl,rx⟩:=vals1 r
 cases rx
 rcases h with ⟨hq,q⟩|⟨hq,q⟩
 ·obtain⟨its,r',pl,hz⟩:=I.list hq
  have hlen:=r'.length
  refine call_tuple_list pl.isList (λh' kp=>?_) (by simp only[LZ]<;>omega)
  have I1:Inv X pins σ H { s with heap:=h' }:=I.kept (t':=s.toks) kp
  have I2:Inv X pins σ (upd H h'.objs.size (.tup ys)) { s with heap:=h'.push { cls:=.type "tuple",data:=.seq its.toArray } } :=
   I1.laid (t':=s.toks) (λb o e=>L9 _ e) (Md _) (show bb X.prog X.w _ _ _ (.tup ys) from ⟨hz,its,r',gL.new _ _⟩)
  exact⟨.ref h'.objs.size,_,I2,rfl,q _ (I1.hok.fresh (Md _))⟩
 ·obtain⟨its,r',pl,hz⟩:=I.tuple hq
  exact call_tuple_same pl ⟨.ref p,H,I,rfl,q⟩
def tyV(K:LU)(T:String)(x:V)(H:Hp):Prop:=match x with
 | .str _=>T = "str"
 | .int _=>T = "int"
 | .ref p=>(T = "list" /\ ∃xs,SqL K H p xs)\/(T = "tuple" /\ ∃o,K.lookup p=some o/\o.cls=.type "tuple" /\ o.dict=none) \/
   (T = "dict" /\ ((∃kvs,H p=some (.dK kvs))\/∃kvs,H p=some (.dT kvs)))\/(T = "set" /\ ∃S n,H p=some (.set S n))
 | _=>False
theorem wc{v:Value}(I:Inv X pins σ H s)(r:RelV x v)(ty:tyV X.K T x H) :
  s.TypeIs v T/\∀a,v=.ref a->∃ob,s.heap.get? a=some ob/\ob.dict=none:=by
 cases x with
 | str z =>
  obtain⟨t,rfl⟩:=r
  cases (show T = "str" from ty)
  exact⟨typeIs_str s z t,λ_ e=>nomatch e⟩
 | int i =>
  obtain⟨t,rfl⟩:=r
  cases (show T = "int" from ty)
  exact⟨typeIs_int s i t,λ_ e=>nomatch e⟩
 | ref p =>
  cases r
  rcases ty with ⟨rfl,xs,hq⟩|⟨rfl,o,hk,hc,hd⟩|⟨rfl,hk⟩|⟨rfl,S,n,hk⟩
  ·obtain⟨its,_,pl,_⟩:=I.list hq
   refine⟨pl.isList.typeIs,λa e=>?_⟩
   cases e
   obtain⟨o,n,e,c,hd,_⟩:=pl
   exact⟨o,e,hd⟩
  ·refine⟨⟨o,I.kIn p o hk,hc⟩,λa e=>?_⟩
   cases e
   exact⟨o,I.kIn _ o hk,hd⟩
  ·have z:∃o,s.heap.get? p=some o/\o.ExactDict:=by
    rcases hk with ⟨kvs,hk⟩|⟨kvs,hk⟩
    ·obtain⟨_,_,_,_,o,_,_,e,ex,_⟩:=I.hok p _ hk
     exact⟨o,e,ex⟩
    ·obtain⟨_,_,_,_,o,_,_,e,ex,_⟩:=I.hok p _ hk
     exact⟨o,e,ex⟩
   obtain⟨o,e,ex⟩:=z
   refine⟨⟨o,e,ex.1⟩,λa e2=>?_⟩
   cases e2
   exact⟨o,e,ex.2.1⟩
  ·obtain⟨o,_,_,_,e,ex,_⟩:=I.hok p _ hk
   refine⟨⟨o,e,ex.1⟩,λa e2=>?_⟩
   cases e2
   exact⟨o,e,ex.2.1⟩
 | _=>exact MN ty
noncomputable def K1(K:LU)(T:String)(r:V->List V->Hp->VK->Prop)(to:TE):TE:=λσ H Q=>to σ H λx H1=>tyV K T x H1/\r x [] H1 Q
noncomputable def tBM(K:LU)(T:String)(r:V->List V->Hp->VK->Prop)(to:TE)(t:TA):TE:=λσ H Q=>to σ H λx H1=>tyV K T x H1/\t σ H1 λxs H2=>r x xs H2 Q
variable{o e:Expr}{es:List Expr}{to:TE}{t:TA}{name:Str}{apos cpos:Pos}{T id:String}{r:V->List V->Hp->VK->Prop}
theorem za(pa:PlainAttrs T)(slot:Slot T name id)(hty:typeOf (.builtin id)=pure (.type "method_descriptor"))(hm:MtR X id r)(ho:PE X o to)
  (hbase:attributeBase o name X.env (eval o X.env)=eval o X.env:=by rfl)(hline:(apos.endLine==cpos.line)=true:=by rfl):PE X (.Call (.Attribute o name apos) [] [] cpos) (K1 X.K T r to):=by
 intro pins s σ H Q I h
 refine wpAny_Call_method0_late hbase hline (thn (ho pins s σ H _ I h) λv s1 ⟨x,H1,I1,r1,ty,q1⟩=>?_)
 obtain⟨h1,h2⟩:=wc I1 r1 ty
 exact⟨T,id,pa,slot,hty,h1,h2,P4 rfl (PySem.evalArgs_none (hm pins s1 σ H1 x [] v [] Q I1 r1 .nil q1))⟩
theorem vH(pa:PlainAttrs T)(slot:Slot T name id)(hty:typeOf (.builtin id)=pure (.type "method_descriptor"))(hm:MtR X id r)(ho:PE X o to)(ha:PA X (e::es) t)
  (hbase:attributeBase o name X.env (eval o X.env)=eval o X.env:=by rfl)
  (hfew:((backTo cpos (starEach (e::es) X.env)).all (λx=>!x.1)&&(backToKw cpos (keywordEach [] X.env)).all (λx=>x.1.isSome)
   && decide ((e::es).length+([]:List Keyword).length+(if ([]:List Keyword).isEmpty then 0 else 1)<30))=true:=by rfl)
  (hline:(apos.endLine==cpos.line)=true:=by rfl) (hs:starEach (e::es) X.env=(false,eval e X.env)::starEach es X.env:=by rfl) (hplain:(backTo cpos (starEach es X.env)).any (·.1)=false:=by rfl) :
  PE X (.Call (.Attribute o name apos) (e::es) [] cpos) (tBM X.K T r to t):=by
 intro pins s σ H Q I h
 refine wpAny_Call_method_late hbase hfew hline rfl (thn (ho pins s σ H _ I h) λv s1 ⟨x,H1,I1,r1,ty,q1⟩=>?_)
 obtain⟨h1,h2⟩:=wc I1 r1 ty
 refine⟨T,id,pa,slot,hty,h1,h2,?_⟩
 have hA:=ha cpos pins s1 σ H1 _ I1 q1
 rw[hs] at hA ⊢
 refine P4 (by show (false || (backTo cpos (starEach es X.env)).any (·.1))=false;rw[hplain]<;>rfl) (Qg ?_)
 exact thn hA λus s2 ⟨vs,H2,I2,r2,q2⟩=>hm pins s2 σ H2 x vs v us Q I2 r1 r2 q2
end
noncomputable def MtM(X:Cx)(id:String)(r:V->List V->Hp->VK->Prop):Prop :=
 ∀(pins:List (Addr×Obj))(s:Shared)(σ:St)(H:Hp)(x:V)(xs:List V)(v:Value)(us:List Value)(Q:VK),Inv X pins σ H s->RelV x v->Vals xs us->r x xs H Q ->
  wpAny (model X.prog X.w) X.A (call (.builtin id) (v::us)) (EP X pins σ Q) X.xe s
theorem Vals.one:∀{x:V}{us:List Value},Vals [x] us->∃u,us=[u]/\RelV x u
 | _,_,.cons r .nil=>⟨_,rfl,r⟩
theorem Vals.zero:∀{us:List Value},Vals [] us->us=[]
 | _,.nil=>rfl
theorem Vals.dropLast{xs:List V}{us:List Value}(h:Vals xs us):Vals xs.dropLast us.dropLast:=by
 induction h with
 | nil=>exact .nil
 | cons r t ih =>
  cases t with
  | nil=>exact .nil
  | cons q t'=>exact .cons r ih
theorem pM(l:List α):l.eraseIdx (l.length-1)=l.dropLast:=by
 induction l with
 | nil=>rfl
 | cons a r ih =>
  cases r with
  | nil=>rfl
  | cons b r =>
   have e:(a::b::r).length-1=((b::r).length-1)+1:=by
    have h1:(a::b::r).length=r.length+2:=rfl
    have h2:(b::r).length=r.length+1:=rfl
    omega
   rw[e,List.eraseIdx_cons_succ,ih]
   all_goals rfl
variable{t':Nat}
section
variable{X:Cx}{pins:List (Addr×Obj)}{σ:St}{H:Hp}{s:Shared}{l b:Addr}{xs ys zs:List V}
theorem Inv.Bv{n:Nat}{f:Array Value->Array Value}(I:Inv X pins σ H s)(hH:H l=some (.lst xs))
  (e:s.heap.get? l=some { cls:=.type "list",data:=.seq its.toArray n })(hf:f its.toArray=its'.toArray)(hv:Vals ys its')(hz:ys.length<=sizeLine) :
  Inv X pins σ (upd H l (.lst ys)) { s with heap:=s.heap.update l (OR f),toks:=t' }:=by
 have q:=PySem.IsL.update e f
 rw[hf] at q
 refine I.write (x:=l) (e:=l) (by rw[hH];exact trivial) (.inl rfl) (λb' u hb hu=>(Nz s.heap (OR f) (M8 hb)).trans hu) ⟨_,q⟩ ?_
 exact⟨hz,its',_,hv,q⟩
theorem Inv.K4(I:Inv X pins σ H s)(hv:Vals ys its)(hz:ys.length<=sizeLine) :
  Inv X pins σ (upd H s.heap.objs.size (.lst ys)) { s with heap:=s.heap.push { cls:=.type "list",data:=.seq its.toArray },toks:=t' } :=
 I.laid (λ_ _ q=>L9 _ q) (Md _) ⟨hz,its,0,hv,Mz _ rfl⟩
theorem Inv.fresh(I:Inv X pins σ H s):H s.heap.objs.size=none:=I.hok.fresh (Md _)
theorem Inv.z4(I:Inv X pins σ H s)(hH:H l=some (.lst xs)):xs.length<=sizeLine/\∃(its:List Value) (n:Nat),Vals xs its/\xs.length=its.length/\s.heap.get? l=some { cls:=.type "list",data:=.seq its.toArray n }:=by
 obtain⟨z,its,n,r,e⟩:=I.hok l _ hH
 exact⟨z,its,n,r,r.length,e⟩
theorem xn{n:Nat}(h:n<=sizeLine):NK n=false:=by
 unfold NK
 exact decide_eq_false (by omega)
end
section
variable{X:Cx}
noncomputable def Ae:V->List V->Hp->VK->Prop:=λx vs H Q=>∃l xs y,x=.ref l/\vs=[y]/\H l=some (.lst xs)/\xs.length<sizeLine/\Q .non (upd H l (.lst (xs++[y])))
theorem uQ:MtM X "list.append" Ae:=by
 intro pins s σ H x vs v us Q I rx rv h
 obtain⟨l,xs,y,rfl,rfl,hH,hz,q⟩:=h
 cases rx
 obtain⟨u,rfl,ru⟩:=rv.one
 obtain⟨z,its,n,r,hl,e⟩:=I.z4 hH
 refine call_meets F.slot_list_append ⟨_,e,rfl⟩ F.entry_list_append (F.args_list_append_2 _ _) (PySem.list_append l its.toArray n u (by rw[LZ];omega)) ⟨e,?_⟩
 refine⟨.non,_,I.Bv (its':=its++[u]) hH e (by simp) (r.append (.cons ru .nil)) ?_,rfl,q⟩
 rw[Ma,MW]
 omega
noncomputable def K0:V->List V->Hp->VK->Prop:=λx vs H Q=>∃l xs y,x=.ref l/\vs=[]/\H l=some (.lst xs)/\xs[xs.length-1]?=some y/\Q y (upd H l (.lst xs.dropLast))
theorem DN:MtM X "list.pop" K0:=by
 intro pins s σ H x vs v us Q I rx rv h
 obtain⟨l,xs,y,rfl,rfl,hH,hy,q⟩:=h
 cases rx
 have hus:=rv.zero
 subst hus
 obtain⟨z,its,n,r,hl,e⟩:=I.z4 hH
 obtain⟨u,hu,ru⟩:=r.get hy
 have hy':its.toArray[its.toArray.size-1]?=some u:=by
  show its.toArray[its.length-1]?=some u
  rw[<- OS,<- hl]
  exact hu
 refine call_meets F.slot_list_pop ⟨_,e,rfl⟩ F.entry_list_pop (F.args_list_pop_1 _) (MeetsSeq.list_pop_last l its.toArray n u hy' (by rw[LZ];omega)) ⟨e,?_⟩
 refine⟨y,_,I.Bv (its':=its.dropLast) hH e ?_ r.dropLast ?_,ru,q⟩
 ·show its.toArray.eraseIdxIfInBounds (its.toArray.size-1)=its.dropLast.toArray
  rw[LZ,List.eraseIdxIfInBounds_toArray,pM]
 ·rw[List.length_dropLast]
  omega
noncomputable def GW:V->List V->Hp->VK->Prop:=λx vs H Q=>∃l xs,x=.ref l/\vs=[]/\H l=some (.lst xs)/\Q .non (upd H l (.lst []))
theorem wC:MtM X "list.clear" GW:=by
 intro pins s σ H x vs v us Q I rx rv h
 obtain⟨l,xs,rfl,rfl,hH,q⟩:=h
 cases rx
 have hus:=rv.zero
 subst hus
 obtain⟨z,its,n,r,hl,e⟩:=I.z4 hH
 refine call_meets F.slot_list_clear ⟨_,e,rfl⟩ F.entry_list_clear (F.args_list_clear_1 _) (AutoSeq1.list_clear_list_0 l its.toArray n (by rw[LZ];omega)) ⟨e,?_⟩
 exact⟨.non,_,I.Bv (its':=[]) (ys:=[]) hH e rfl .nil (Nd _),rfl,q⟩
end
section
variable{prog:Program}{w:World}{A:Around}{E:Value->Shared->Prop}{s:Shared}
set_option maxRecDepth 100000 in
end
variable{o:Option V}
section
variable{κ:Type}[DecidableEq κ]
noncomputable def iE(kvs:List (κ×V))(k:κ):Option V:=(kvs.find? λkv=>decide (kv.1=k)).map (·.2)
noncomputable def putK(kvs:List (κ×V))(k:κ)(v:V):List (κ×V) :=
 if (kvs.any λkv=>decide (kv.1=k))=true then kvs.map (λkv=>if kv.1=k then (kv.1,v) else kv) else kvs++[(k,v)]
theorem j0{p:κ×V}{r:List (κ×V)}{k:κ}(e:p.1=k):iE (p::r) k=some p.2:=by simp[iE,Ng,e]
theorem kA{p:κ×V}{r:List (κ×V)}{k:κ}(e:¬ p.1=k):iE (p::r) k=iE r k:=by simp[iE,Ng,e]
theorem oI(k:κ):∀kvs:List (κ×V),(kvs.any λkv=>decide (kv.1=k))=(iE kvs k).isSome
 | []=>rfl
 | p::r=>by
  rw[NU]
  by_cases e:p.1=k
  ·simp only[j0 e,decide_eq_true e,Bool.true_or,Option.isSome_some]
  ·rw[kA e,decide_eq_false e,Bool.false_or];exact oI k r
theorem jz(kvs:List (κ×V))(k:κ)(v:V):(putK kvs k v).length<=kvs.length+1:=by
 unfold putK
 split
 ·rw[LY];omega
 ·rw[Ma,LX,Oe];omega
theorem hU.fA{u:Option Value}(r:hU o u):o.isSome=u.isSome:=by
 cases o with
 | none=>cases u with
  | none=>rfl
  | some _=>exact(show False from r).elim
 | some _=>cases u with
  | none=>exact(show False from r).elim
  | some _=>rfl
theorem KV.val{kvs:List (κ×V)}{vs:List (κ×Value)}(r:KV kvs vs)(k:κ):hU (iE kvs k) (valueAt vs k):=by
 unfold KV at r
 induction r with
 | nil=>exact OM
 | @cons p q ps qs h t ih =>
  obtain⟨h1,h2⟩:=h
  by_cases e:p.1=k
  ·have e':q.1=k:=h1.symm.trans e
   have b:valueAt (q::qs) k=some q.2:=by simp[valueAt,Ng,e']
   rw[j0 e,b];exact h2
  ·have e':¬ q.1=k:=λz=>e (h1.trans z)
   have b:valueAt (q::qs) k=valueAt qs k:=by simp[valueAt,Ng,e']
   rw[kA e,b];exact ih
theorem KV.any{kvs:List (κ×V)}{vs:List (κ×Value)}(r:KV kvs vs)(k:κ):(kvs.any λkv=>decide (kv.1=k))=vs.any λkv=>decide (kv.1=k):=by
 unfold KV at r
 induction r with
 | nil=>rfl
 | cons h t ih=>rw[NU,NU,ih,h.1]
theorem KV.GL{kvs:List (κ×V)}{vs:List (κ×Value)}(r:KV kvs vs)(k:κ)(ry:RelV y u) :
  KV (kvs.map λkv=>if kv.1=k then (kv.1,y) else kv) (vs.map λkv=>if kv.1=k then (kv.1,u) else kv):=by
 unfold KV at r ⊢
 induction r with
 | nil=>exact .nil
 | @cons p q ps qs h t ih =>
  rw[L5,L5]
  refine .cons ?_ ih
  obtain⟨h1,h2⟩:=h
  by_cases e:p.1=k
  ·rw[if_pos e,if_pos (h1.symm.trans e)];exact⟨h1,ry⟩
  ·rw[if_neg e,if_neg (λz=>e (h1.trans z))];exact⟨h1,h2⟩
theorem KV.put{kvs:List (κ×V)}{vs:List (κ×Value)}(r:KV kvs vs)(k:κ)(ry:RelV y u):KV (putK kvs k y) (stored vs k u):=by
 unfold putK stored
 rw[r.any k]
 by_cases e:(vs.any λkv=>decide (kv.1=k))=true
 ·rw[if_pos e,if_pos e];exact r.GL k ry
 ·rw[if_neg e,if_neg e];exact Q9 r ⟨rfl,ry⟩
theorem KV.length{kvs:List (κ×V)}{vs:List (κ×Value)}(r:KV kvs vs):kvs.length=vs.length:=PD r
end
variable{P:Program}{w:World}
theorem nV{k:Key}(r:RelV (kV k) u):(cq P w).is k u=true:=by
 cases k with
 | inl i=>obtain⟨t,e⟩:=(show ∃t,u=PQ i t from r);subst e;exact pJ P w i t
 | inr x=>obtain⟨t,e⟩:=(show ∃t,u=PR x t from r);subst e;exact pD P w x t
theorem k8{P:Program}{w:World}:∀{ks:List Key}{us:List Value},Vals (ks.map kV) us->ItemsAre (cq P w) ks us
 | [],_,r=>by rw[Mh] at r;cases r;exact .nil
 | k::ks,_,r=>by
  rw[L5] at r
  cases r with
  | cons h t=>exact .cons (nV h) (k8 t)
noncomputable abbrev KT(H:Hp):List (List Key×V)->List (List Key×Addr×Value)->Prop:=Paired λp q=>p.1=q.1/\H q.2.1=some (.tup (p.1.map kV))/\RelV p.2 q.2.2
variable{kvs:List (List Key×V)}{xs:List (List Key×Addr×Value)}
theorem KT.val(r:KT H kvs xs)(k:List Key):hU (iE kvs k) ((atKey xs k).map (·.2)):=by
 induction r with
 | nil=>exact OM
 | @cons p q ps qs h t ih =>
  obtain⟨h1,_,h2⟩:=h
  by_cases e:p.1=k
  ·have e':q.1=k:=h1.symm.trans e
   have b:atKey (q::qs) k=some q.2:=by simp[atKey,Ng,e']
   rw[j0 e,b];exact h2
  ·have e':¬ q.1=k:=λz=>e (h1.trans z)
   have b:atKey (q::qs) k=atKey qs k:=by simp[atKey,Ng,e']
   rw[kA e,b];exact ih
theorem KT.GL(r:KT H kvs xs)(k:List Key)(ry:RelV y u) :
  KT H (kvs.map λkv=>if kv.1=k then (kv.1,y) else kv) (xs.map (putAt k u)):=by
 induction r with
 | nil=>exact .nil
 | @cons p q ps qs h t ih =>
  rw[L5,L5]
  refine .cons ?_ ih
  obtain⟨h1,h2,h3⟩:=h
  unfold putAt
  by_cases e:p.1=k
  ·rw[if_pos e,if_pos (h1.symm.trans e)];exact⟨h1,h2,ry⟩
  ·rw[if_neg e,if_neg (λz=>e (h1.trans z))];exact⟨h1,h2,h3⟩
theorem KT.put(r:KT H kvs xs)(k:List Key){b:Addr}(hb:H b=some (.tup (k.map kV)))(ry:RelV y u) :
  KT H (putK kvs k y) (storedH xs k b u):=by
 have e:(kvs.any λkv=>decide (kv.1=k))=(atKey xs k).isSome:=by
  rw[oI,(r.val k).fA,Ov]
 unfold putK storedH
 rw[e]
 by_cases q:(atKey xs k).isSome=true
 ·rw[if_pos q,if_pos q];exact r.GL k ry
 ·rw[if_neg q,if_neg q];exact Q9 r ⟨rfl,hb,ry⟩
variable{H':Hp}
theorem KT.keeps(r:KT H kvs xs)(ht:∀b ys,H b=some (.tup ys)->H' b=some (.tup ys)):KT H' kvs xs :=
 Paired.GK r λ_ _ z=>⟨z.1,ht _ _ z.2.1,z.2.2⟩
section
variable{P:Program}{w:World}{H:Hp}{h:Heap}{a:Addr}
theorem CG{u:HO}(ok:HOk P w H h)(e:Rd H a u):bb P w H h a u:=e.ok ok
theorem iN{kvs:List (Key×V)}(ok:HOk P w H h)(e:Rd H a (.dK kvs)):kvs.length<=sizeLine/\(a==sysModules)=false/\∃vs,KV kvs vs/\h.DictOf (cq P w) a vs :=
 show bb P w H h a (.dK kvs) from CG ok e
theorem Kh{kvs:List (Key×V)}(ok:HOk P w H h)(e:H a=some (.dK kvs)):kvs.length<=sizeLine/\(a==sysModules)=false/\∃vs,KV kvs vs/\h.DictOf (cq P w) a vs:=iN ok (.inl e)
theorem kK{ks:List Key}(ok:HOk P w H h)(e:H a=some (.tup (ks.map kV))):(tupleKind (cq P w)).is h ks a:=by
 obtain⟨_,its,r,o,h1,h2,n,h3,_⟩:=(show bb P w H h a (.tup (ks.map kV)) from ok a _ e)
 exact⟨o,its.toArray,n,h1,h2,h3,by simpa using k8 r⟩
theorem oF(ok:HOk P w H h)(e:Rd H a (.dT kvs)):kvs.length<=sizeLine/\(a==sysModules)=false /\
  ∃xs,KT H kvs xs/\h.DictOfH (tupleKind (cq P w)) a xs:=by
 obtain⟨z,y,xs,r,o,es,ep,h1,h2,h3,h4,h5⟩:=(show bb P w H h a (.dT kvs) from CG ok e)
 refine⟨z,y,xs,r,o,es,ep,h1,h2,h3,h4,λx hx=>?_,h5⟩
 have all:∀{l:List (List Key×V)}{m:List (List Key×Addr×Value)},KT H l m->∀x∈m,(tupleKind (cq P w)).is h x.1 x.2.1:=by
  intro l m q
  induction q with
  | nil=>intro x hx;exact nomatch hx
  | @cons p q ps qs hq t ih =>
   intro x hx
   rcases Ml.mp hx with e|hx
   ·subst e
    exact kK ok (by rw[<- hq.1];exact hq.2.1)
   ·exact ih x hx
 exact all r x hx
theorem Hl(ok:HOk P w H h)(e:H a=some (.dT kvs)):kvs.length<=sizeLine/\(a==sysModules)=false /\
  ∃xs,KT H kvs xs/\h.DictOfH (tupleKind (cq P w)) a xs:=oF ok (.inl e)
end
noncomputable def iC(H:Hp)(a:Addr)(y:V)(r:Option V):Prop :=
 (∃kvs k,Rd H a (.dK kvs)/\y=kV k/\r=iE kvs k)\/∃kvs k b,Rd H a (.dT kvs)/\y=.ref b/\H b=some (.tup (k.map kV))/\r=iE kvs k
noncomputable def Jd(H:Hp)(a:Addr)(y v:V)(H':Hp):Prop :=
 (∃kvs k,H a=some (.dK kvs)/\y=kV k/\kvs.length<sizeLine/\H'=upd H a (.dK (putK kvs k v))) \/
 ∃kvs k b,H a=some (.dT kvs)/\y=.ref b/\H b=some (.tup (k.map kV))/\kvs.length<sizeLine/\H'=upd H a (.dT (putK kvs k v))
variable{Q:Value->Shared->Prop}{h':Heap}
section
variable{X:Cx}{pins:List (Addr×Obj)}{σ:St}{H:Hp}{s:Shared}{a:Addr}{y v:V}{u r:Value}{o:Option V}{A:Around}{E:Value->Shared->Prop}
theorem Inv.big(I:Inv X pins σ H s):sysModules<s.heap.objs.size:=by
 have h:mainGlobals<s.heap.objs.size:=(I.mod.glob.keeps I.bk).lt
 exact Nat.lt_trans (by decide) h
theorem um(hu:A.units+1<cLine)(I:Inv X pins σ H s)(g:iC H a y (some v))(ry:RelV y u)(h:∀w' s',Inv X pins σ H s'->RelV v w'->Q w' s') :
  wpAny (model X.prog X.w) A (getItem (.ref a) u) Q E s:=by
 rcases g with ⟨kvs,k,e,ey,l⟩|⟨kvs,k,b,e,ey,eb,l⟩
 ·subst ey
  obtain⟨z,hd,vs,rel,dd⟩:=iN I.hok e
  obtain⟨w',hw,rw'⟩:=hU.some_of (v:=v) (o:=valueAt vs k) (by rw[l];exact rel.val k)
  exact wpAny_getItem_of (nV ry) dd.mapOf hw (h w' _ (I.tok _) rw')
 ·subst ey
  cases (show u=ME b from ry)
  obtain⟨z,hd,xs,rel,dd⟩:=oF I.hok e
  obtain⟨w',hw,rw'⟩:=hU.some_of (v:=v) (o:=(atKey xs k).map (·.2)) (by rw[l];exact rel.val k)
  obtain⟨p,hp,hp2⟩:=Option.map_eq_some_iff.mp hw
  refine wpAny_getItem_heap (tupleKind_room_in1 hu) (kK I.hok eb) dd hp ?_
  rw[hp2]
  exact h w' _ (I.tok _) rw'
theorem LG(hu:A.units+1<cLine)(I:Inv X pins σ H s)(g:iC H a y o)(ry:RelV y u)(h:∀s',Inv X pins σ H s'->Q (.bool o.isSome) s') :
  wpAny (model X.prog X.w) A (compareOp .In u (.ref a)) Q E s:=by
 rcases g with ⟨kvs,k,e,ey,l⟩|⟨kvs,k,b,e,ey,eb,l⟩
 ·subst ey
  obtain⟨z,hd,vs,rel,dd⟩:=iN I.hok e
  refine wpAny_in_of (nV ry) hd dd.mapOf ?_
  rw[<- (rel.val k).fA,<- l]
  exact h _ (I.tok _)
 ·subst ey
  cases (show u=ME b from ry)
  obtain⟨z,hd,xs,rel,dd⟩:=oF I.hok e
  refine wpAny_in_heap (tupleKind_room_in1 hu) (kK I.hok eb) hd dd ?_
  have q:=(rel.val k).fA
  rw[Ov] at q
  rw[<- q,<- l]
  exact h _ (I.tok _)
theorem Ak(hu:A.units+1<cLine)(I:Inv X pins σ H s)(g:iC H a y o)(ry:RelV y u)(h:∀s',Inv X pins σ H s'->Q (.bool (!o.isSome)) s') :
  wpAny (model X.prog X.w) A (compareOp .NotIn u (.ref a)) Q E s:=by
 rcases g with ⟨kvs,k,e,ey,l⟩|⟨kvs,k,b,e,ey,eb,l⟩
 ·subst ey
  obtain⟨z,hd,vs,rel,dd⟩:=iN I.hok e
  refine wpAny_notIn_of (nV ry) hd dd.mapOf ?_
  rw[<- (rel.val k).fA,<- l]
  exact h _ (I.tok _)
 ·subst ey
  cases (show u=ME b from ry)
  obtain⟨z,hd,xs,rel,dd⟩:=oF I.hok e
  refine wpAny_notIn_heap (tupleKind_room_in1 hu) (kK I.hok eb) hd dd ?_
  have q:=(rel.val k).fA
  rw[Ov] at q
  rw[<- q,<- l]
  exact h _ (I.tok _)
theorem sE{ob:HO}(I:Inv X pins σ H s)(mu:Mut (H a))(hs:NO a s.heap h')(he:∃q,h'.get? a=some q)(new:bb X.prog X.w (upd H a ob) h' a ob) :
  Inv X pins σ (upd H a ob) { s with heap:=h',toks:=t' } :=
 I.write (x:=a) (e:=a) mu (.inl rfl) (λb q hb z=>(hs.2 b hb).trans z) he new
theorem GB{kvs:List (Key×V)}{vs:List (Key×Value)}(z:kvs.length<=sizeLine)(hd:(a==sysModules)=false)(rel:KV kvs vs)(dd:h'.DictOf (cq P w) a vs) :
  bb P w H' h' a (.dK kvs):=⟨z,hd,vs,rel,dd⟩
theorem ug{Q:Unit->Shared->Prop}(hu:A.units+1<cLine)(I:Inv X pins σ H s)(g:Jd H a y v H')(ry:RelV y u)(rv:RelV v r)(h:∀s',Inv X pins σ H' s'->Q () s') :
  wpAny (model X.prog X.w) A (setItem (.ref a) u r) Q E s:=by
 rcases g with ⟨kvs,k,e,ey,l,eH⟩|⟨kvs,k,b,e,ey,eb,l,eH⟩
 ·subst ey eH
  obtain⟨z,hd,vs,rel,dd⟩:=Kh I.hok e
  have hz:vs.length<=sizeLine:=by rw[<- rel.length];exact z
  have hl:(putK kvs k v).length<=sizeLine:=by have:=jz kvs k v;omega
  refine wpAny_setItem_pairs (hsz:=hz) (nV ry) dd λh' dd' hs=>h _ ?_
  have he:∃q,h'.get? a=some q:=let ⟨q,_,_,hq,_⟩:=dd';⟨q,hq⟩
  exact sE I (by rw[e];exact OM) hs he (GB hl hd (rel.put k rv) dd')
 ·subst ey eH
  cases (show u=ME b from ry)
  obtain⟨z,hd,xs,rel,dd⟩:=Hl I.hok e
  have hz:xs.length<=sizeLine:=by rw[<- PD rel];exact z
  have hl:(putK kvs k v).length<=sizeLine:=by have:=jz kvs k v;omega
  refine wpAny_setItem_heap (hsz:=hz) (tupleKind_room_in1 hu) (kK I.hok eb) dd λh' dd' hs=>h _ ?_
  obtain⟨q,es,ep,hq,h2,h3,h4,_,h5⟩:=dd'
  refine sE I (by rw[e];exact OM) hs ⟨q,hq⟩ ⟨hl,hd,_,(rel.put k eb rv).keeps λc ys ec=>?_,q,es,ep,hq,h2,h3,h4,h5⟩
  rw[aC (Kb ec e (λz=>nomatch z))]
  exact ec
end
def vL(i:Expr):Prop:=∀ov iv,subscripted i false ov iv=operate [ov,iv] (getItem ov iv)
theorem BH{prog:Program}{A:Around}{E:Value->Shared->Prop}{env:Env}{value slice:Expr}{pos:Pos}{id:String}
  (hl:typeLookup (.type T) "__getitem__" = pure (some (.builtin id)))(hs:vL slice)
  (h:wpAny (model prog w) A (eval value env) (λo s₁=>wpAny (model prog w) A (eval slice env) (λi s₂=>s₂.TypeIs o T/\wpAny (model prog w) A (getItem o i) Q E s₂) E s₁) E s) :
  wpAny (model prog w) A (eval (.Subscript value slice pos) env) Q E s:=by
 refine Subscript_ (wpAny_mono h (λo s₁ h₁=>wpAny_mono h₁ (λi s₂ h₂=>?_) λ_ _ x=>x) λ_ _ x=>x)
 obtain⟨hT,h₂⟩:=h₂
 unfold subscriptTail
 refine wpAny_bind ?_
 rw[getitemInPython_of_ne hT.not_modules]
 refine wpAny_bind (wpAny_specialOf hT hl ?_)
 have fin:wpAny (model prog w) A (subscripted slice false o i) (λr s₃=>wpAny (model prog w) A (letTemporaryGo value o r >>= λ_=>pure r) Q E s₃) E s₂:=by
  rw[hs o i]
  exact wpAny_operating (wpAny_mono h₂ (λr s₃ h₃=>wpAny_bind (wpAny_letTemporaryGo (wpAny_pure h₃))) λ_ _ x=>x)
 first
  | exact wpAny_pure (wpAny_bind fin)
  | exact wpAny_bind (wpAny_pure (wpAny_bind fin))
  | exact wpAny_bind fin
theorem pL{X:Cx}{a:Addr}(I:Inv X pins σ H s)(g:iC H a y o):s.TypeIs (.ref a) "dict" := by
 rcases g with ⟨kvs,k,e,_,_⟩|⟨kvs,k,b,e,_,_,_⟩
 ·obtain⟨_,_,vs,_,dd⟩:=iN I.hok e
  exact dd.typeIs
 ·obtain⟨_,_,xs,_,dd⟩:=oF I.hok e
  exact dd.typeIs
noncomputable def IF(td ty:TE):TE:=λσ H Q=>td σ H λx H1=>ty σ H1 λy H2=>∃a v,x=.ref a/\iC H2 a y (some v)/\Q v H2
noncomputable def Lo(ty td:TE):TE:=λσ H Q=>ty σ H λy H1=>td σ H1 λx H2=>∃a o,x=.ref a/\iC H2 a y o/\Q (.bl o.isSome) H2
noncomputable def B0(ty td:TE):TE:=λσ H Q=>ty σ H λy H1=>td σ H1 λx H2=>∃a o,x=.ref a/\iC H2 a y o/\Q (.bl (!o.isSome)) H2
noncomputable def Kc(td ty tv:TE):TS:=λD σ H=>tv σ H λv H1=>td σ H1 λx H2=>ty σ H2 λy H3=>∃a H4,x=.ref a/\Jd H3 a y v H4/\D.nx σ H4
section
variable{X:Cx}{o i e value:Expr}{pos pos' tpos:Pos}{td ty tv:TE}
theorem Bs(hu:X.A.units+1<cLine)(ho:PE X o td)(hi:PE X i ty)(hs:vL i):PE X (.Subscript o i pos) (IF td ty):=by
 intro pins s σ H Q I h
 refine BH PySem.F.slot_dict_getitem.lookup hs (thn (ho pins s σ H _ I h) λu s1 ⟨x,H1,I1,rx,q1⟩=>thn (hi pins s1 σ H1 _ I1 q1) λiv s2 ⟨y,H2,I2,ry,a,v,ex,g,q2⟩=>?_)
 subst ex
 obtain rfl:u=ME a:=rx
 exact⟨pL I2 g,um hu I2 g ry λw' s3 I3 rw'=>⟨v,H2,I3,rw',q2⟩⟩
theorem yD(hu:X.A.units+1<cLine)(hi:PE X i ty)(ho:PE X o td):PC X .In i o (Lo ty td):=by
 intro pins s σ H Q I h
 refine thn (hi pins s σ H _ I h) λiv s1 ⟨y,H1,I1,ry,q1⟩=>thn (ho pins s1 σ H1 _ I1 q1) λu s2 ⟨x,H2,I2,rx,a,ov,ex,g,q2⟩=>?_
 subst ex
 obtain rfl:u=ME a:=rx
 exact LG hu I2 g ry λs3 I3=>⟨.bl ov.isSome,H2,I3,rfl,q2⟩
theorem lj(hu:X.A.units+1<cLine)(hi:PE X i ty)(ho:PE X o td):PC X .NotIn i o (B0 ty td):=by
 intro pins s σ H Q I h
 refine thn (hi pins s σ H _ I h) λiv s1 ⟨y,H1,I1,ry,q1⟩=>thn (ho pins s1 σ H1 _ I1 q1) λu s2 ⟨x,H2,I2,rx,a,ov,ex,g,q2⟩=>?_
 subst ex
 obtain rfl:u=ME a:=rx
 exact Ak hu I2 g ry λs3 I3=>⟨.bl (!ov.isSome),H2,I3,rfl,q2⟩
theorem AW(hu:X.A.units+1<cLine)(ho:PE X o td)(hi:PE X i ty)(hv:PE X value tv)(hs:swapsWith value (some (.Subscript o i pos')) pos.line X.env=pure false) :
  PS X (.Assign [.Subscript o i pos'] value pos) (Kc td ty tv):=by
 intro pins s σ H D I h
 refine wpAny_Assign_Subscript (thn (hv pins s σ H _ I h) λr s1 ⟨v,H1,I1,rv,q1⟩=>thn (ho pins s1 σ H1 _ I1 q1) λu s2 ⟨x,H2,I2,rx,q2⟩=>thn (hi pins s2 σ H2 _ I2 q2) λiv s3 ⟨y,H3,I3,ry,a,H4,ex,g,q3⟩=>?_) hs
 subst ex
 obtain rfl:u=ME a:=rx
 exact ug hu I3 g ry rv λs4 I4=>⟨σ,H4,I4,q3⟩
end
theorem uS(h:Heap)(hb:sysModules<h.objs.size):bb P w H (h.push { cls:=.type "dict",data:=.dict #[] }) h.objs.size (.dK []) :=
 ⟨Nd _,beq_eq_false_iff_ne.mpr (M8 (My hb)),[],.nil,R7 h⟩
noncomputable def Ga:TE:=λ_ H Q=>∀p,H p=none->Q (.ref p) (upd H p (.dK []))
section
variable{X:Cx}{pos:Pos}
theorem wL:PE X (.Dict [] [] pos) Ga:=λpins s σ H Q I h =>
 wpAny_Dict_empty ⟨.ref s.heap.objs.size,_,I.laid (a:=s.heap.objs.size) (o:=.dK []) (t':=s.toks) (λ_ _ q=>L9 _ q) (Md _) (uS s.heap I.big),rfl,h _ (I.hok.fresh (Md _))⟩
end
structure M1 (X:Cx) (o:Expr) (m:Str) (apos:Pos) (e:Expr) (cpos:Pos):Prop where
 base:attributeBase o m X.env (eval o X.env)=eval o X.env
 few:((backTo cpos (starEach [e] X.env)).all (λx=>!x.1)&&(backToKw cpos (keywordEach [] X.env)).all (λx=>x.1.isSome)
  && decide (([e]:List Expr).length+([]:List Keyword).length+(if ([]:List Keyword).isEmpty then 0 else 1)<30))=true
 line:(apos.endLine==cpos.line)=true
 trees:backTo cpos (starEach [e] X.env)=[(false,eval e X.env)]
end L2
namespace Att
open PySem PySem.W PySem.Calls PyProof.Rows
variable{P:Params}
theorem jI{h:Heap}:∀(ns:List Int)(vs:List Value),WellAll P h vs (ns.map RJ)->IntsAre vs ns:=by
 intro ns
 induction ns with
 | nil =>
  intro vs w
  rw[Mh] at w
  cases w
  exact .nil
 | cons n ns ih =>
  intro vs w
  rw[L5] at w
  cases w with
  | cons a b =>
   cases a
   exact .cons _ _ (ih _ b)
variable{l:OpenLaw}
theorem tE{n:Nat}(hn:l.most=some n){h:Heap}{args:List WData}{vals:List Value}
  (hpre:l.row.toRowW.claim.pre args=true)(hwl:WellAll P h vals args) :
  ∃a vs ns,vals=[ME a]/\args=[WData.list (ns.map RJ)]/\h.get? a=some { cls:=.type "list",data:=.seq vs.toArray }/\IntsAre vs ns/\ns.length<=n:=by
 have hsh:WShape.hasAll [] args [.list .int]=true:=(pre_splitW hpre).1
 have hc:l.pre.holds [] { args:=args }=true:=(pre_splitW hpre).2
 obtain⟨d,r,rfl,h1,h2⟩:=hasAllW_cons hsh
 obtain rfl:=hasAllW_nil h2
 obtain⟨xs,rfl,h3⟩:=hasW_list h1
 obtain⟨ns,rfl⟩:=items_int h3
 have hlen:ns.length<=n:=by
  unfold OpenLaw.pre at hc
  have h4:(WTm.not (.lt (.lit (.int (n:Int))) (.len (.arg 0)))).holds [] { args:=[.list (ns.map .int)] }=true:=by
   have h4:=(holds_andW hc).1
   rw[hn] at h4
   exact h4
  have h5:=condW_of h4 (w_not (w_lt w_lit (w_len_list (w_arg rfl))))
  rw[LY] at h5
  refine Nat.le_of_not_lt λq=>?_
  have q':(n:Int)<((ns.length:Nat):Int):=by omega
  first
   | (rw[decide_eq_true q'] at h5;exact absurd h5 (by decide))
   | (simp at h5;omega)
 cases hwl with
 | cons w1 w2 =>
  cases w2
  cases w1 with
  | list ho hall=>exact⟨_,_,ns,rfl,rfl,ho,jI ns _ hall,hlen⟩
theorem tM(l:OpenLaw)(args:List WData):l.row.toRowW.claim.post args (.bool true) args=true :=
 postW_of (r:=l.row.toRowW) (X:=(true==true))
  (show Rl [] (.bool true) .bool=true by first|rfl|decide|simp[Rl,WShape.arms,WShape.armsAll])
  (show (WTm.eq .res (.lit (.bool true))).value [] { args:=args,res:=some (.bool true),after:=args }=some (.bool (true==true)) from w_eq_bool (w_res rfl) w_lit) rfl
theorem ox{n:Nat}{q:Program}{loose:List Str}{XP:(Str->Option Value)->Heap->Prop}{YP:World->Heap->Prop}{d:DefRec}
  (hn:l.most=some n)(hdf:d.params.defaults=[])
  (call:∀(w:World)(s₀ s₁:Shared)(mg mb:Str->Option Value)(fa:Addr)(o:Obj)(pm cd doc:Value)(a:Addr)(vs:List Value)(ns:List Int),
   Ground q loose [] XP w s₀ mg mb s₁.heap->YP w s₁.heap ->
   s₁.heap.get? fa=some o->o.data=.func (docDef d.name d.params d.body d.scope pm cd doc)->s₁.heap.CodeRec cd d.name->mg d.name=some (.ref fa) ->
   s₁.heap.get? a=some { cls:=.type "list",data:=.seq vs.toArray }->IntsAre vs ns->ns.length<=n->s₁.gens=#[] ->
   codeAny (model l.prog w) callerA (.call (.ref fa) ⟨[.ref a],[]⟩) (λr s'=>r=.ok (.ret (.bool true))/\OldK s₁.heap s'.heap/\s'.os=s₁.os/\AllBare s'.gens) s₁) :
  WalkO q loose XP YP l.row.toRowW d [] (λf vs=>Qs f vs):=by
 intro w s₀ s₁ mg mb G Y fa o pm cd doc dV kV ho hd hcd hD hmg hg args vals as hpre hlay hrd hwl hlo
 obtain rfl:dV=.none:=Dflts.none hD hdf
 obtain rfl:kV=.none:=Dflts.noKw hD
 obtain⟨a,vs,ns,rfl,rfl,hobj,hints,hlen⟩:=tE hn hpre hwl
 refine enter_call (codeAny_mono (call w s₀ s₁ mg mb fa o pm cd doc a vs ns G Y ho (fd_plain hd) hcd hmg hobj hints hlen hg) λr s' hq=>?_)
 obtain⟨rfl,h2,h3,h4⟩:=hq
 exact⟨.inl ⟨.bool true,.bool true,[],rfl,λ_=>rfl,.bool true,tM l _,λ_=>⟨Rz,λ_ hm=>(nomatch hm)⟩⟩,h2,h3,h4⟩
end Att
namespace L2
open PySem PySem.Spec PyProof.Rows
theorem lP:∀{vs:List Value}{ns:List Int},IntsAre vs ns->Vals (ns.map V.int) vs
 | _,_,.nil=>.nil
 | _,_,.cons n t h=>.cons ⟨t,rfl⟩ (lP h)
def FY(H:Hp):Prop:=∀b,H b=none\/∃o xs,H b=some (.frz o (.lst xs))
variable{k:Nat}{x:Str}
theorem xj{P:Program}{w:World}{K:LU}{mg mb:Str->Option Value}{CX:CXT}{fa a:Addr}{fd:FuncData}{sp:Sp}{s₁:Shared}{vs:List Value}{ns:List Int}
  (KX:K.In s₁.heap)(hns:s₁.heap.Ns mainGlobals mg)(hb:s₁.heap.Ns builtinsNs mb)(hbb:∀x:Str,x ≠ "__name__" -> mb x=bootBuiltins x)(hlim:s₁.heap.NoLimit)(hg:s₁.gens=#[])
  (ha:s₁.heap.get? a=some { cls:=.type "list",data:=.seq vs.toArray })(hi:IntsAre vs ns)(hl:ns.length<=sizeLine)(hr:bz k callerA)
  (F:∀base:Heap,K.In base->base.Ns mainGlobals mg->bW P w K mg base CX k fa fd [x] sp)(hbind:∀(s:Shared)(u:Value),BindsTo s fd ⟨[u],[]⟩ [(x,u)])
  (hsp:∀H:Hp,FY H->SqL K H a (ns.map V.int)->sp [.ref a] H (λv _=>v=.bl true) λ_ _ _=>False)
  (hCX:∀H e s',CX [] H s₁ (λ_ _ _=>False) e s'->False) :
  codeAny (model P w) callerA (.call (.ref fa) ⟨[.ref a],[]⟩) (λr s'=>r=.ok (.ret (.bool true))/\OldK s₁.heap s'.heap/\s'.os=s₁.os/\AllBare s'.gens) s₁:=by
 have rv:=lP hi
 have lenV:=hi.length
 have core:∀H:Hp,FY H->SqL K H a (ns.map V.int)->HOk P w H s₁.heap->(∀b,H b≠none->b=a)->(H a≠none->K.lookup a=none) ->
   codeAny (model P w) callerA (.call (.ref fa) ⟨[.ref a],[]⟩) (λr s'=>r=.ok (.ret (.bool true))/\OldK s₁.heap s'.heap/\s'.os=s₁.os/\AllBare s'.gens) s₁:=by
  intro H hO hS hok hA hK
  have eV:∀{b:Addr}{o:Obj},s₁.heap.get? b=some o->H b=none->(nI s₁.heap H).get? b=some o:=λe n=>vM e n
  have noA:∀{b:Addr}{o:Obj}{es:Array DictEntry}{ep:Nat},s₁.heap.get? b=some o->o.data=.dict es ep->H b=none:=λ{b o es ep} e d=>by
   cases q:H b with
   | none=>rfl
   | some u =>
    have e':b=a:=hA b (by rw[q];simp)
    subst e'
    rw[ha] at e;cases e
    have d':Data.seq vs.toArray _=Data.dict es ep:=d
    cases d'
  have nsK:∀{b:Addr}{m:Str->Option Value},s₁.heap.Ns b m->(nI s₁.heap H).Ns b m:=λ{b m} ⟨o,es,ep,e,d,r⟩=>⟨o,es,ep,eV e (noA e d),d,r⟩
  have hKb:K.In (nI s₁.heap H):=λb o e=>eV (KX b o e) (by
   cases q:H b with
   | none=>rfl
   | some u =>
    have e':b=a:=hA b (by rw[q];simp)
    subst e'
    rw[hK (by rw[q];simp)] at e;cases e)
  have hM:Mod K mg (nI s₁.heap H):=⟨hKb,nsK hns,⟨mb,nsK hb,hbb⟩,let ⟨mc,h1,h2⟩:=hlim;⟨mc,nsK h1,h2⟩⟩
  have e0:kR P w K mg (nI s₁.heap H) callerA [] s₁ H:=⟨rfl,hM,λb o e=>zi e,Rt (tU _ _),trivial,λb hb=>absurd (show b∈([]:List Addr) from hb) (by simp),hok,.of_eq hg⟩
  refine codeAny_mono ((F _ hKb (nsK hns)).run callerA [] s₁ H ⟨[.ref a],[]⟩ [.ref a] [.ref a] _ _ hr e0 (hbind s₁ (.ref a)) (.cons rfl .nil) (hsp H hO hS)) λr s' h=>?_
  cases r with
  | error e=>exact(hCX H e s' h).elim
  | ok fl =>
   cases fl with
   | next=>exact MN h
   | brk=>exact MN h
   | cont=>exact MN h
   | ret u =>
    obtain⟨v,H',os,bare,un,hok',r',q⟩:=h
    have q':v=.bl true:=q
    subst q'
    obtain rfl:u=Qq true:=r'
    refine⟨rfl,OldK.of_keep λb o e=>?_,os,bare⟩
    cases q:H b with
    | none=>exact un.keep b o e q (by intro z;exact absurd (show b∈([]:List Addr) from z) (by simp)) (by simp)
    | some u =>
     rcases hO b with z|⟨ob,xs,z⟩
     ·rw[q] at z;cases z
     ·have z2:=un.frzs b ob _ z
      obtain⟨e1,_⟩:=hok b _ z
      obtain⟨e2,_⟩:=hok' b _ z2
      rw[e] at e1;cases e1
      exact e2
 cases hk:K.lookup a with
 | some o =>
  have e:=KX a o hk
  rw[ha] at e
  cases e
  refine core (λ_=>none) (λ_=>.inl rfl) (.inr ⟨_,vs.toArray,_,hk,rfl,rfl,rfl,by rw[LZ,lenV];exact hl,by simpa using rv⟩) (λb u z=>by have z':(none:Option HO)=some u:=z;cases z') (λb z=>absurd rfl z) λz=>absurd rfl z
 | none =>
  refine core (λb=>if b=a then some (.frz { cls:=.type "list",data:=.seq vs.toArray } (.lst (ns.map V.int))) else none) (λb=>?_) (.inl (.inr ⟨{ cls:=.type "list",data:=.seq vs.toArray },if_pos rfl⟩)) (λb u z=>?_) (λb z=>?_) λ_=>hk
  ·by_cases hb:b=a
   ·exact .inr ⟨_,_,if_pos hb⟩
   ·exact .inl (if_neg hb)
  ·by_cases hb:b=a
   ·have z':=(if_pos hb).symm.trans z
    cases z'
    subst hb
    exact⟨ha,by rw[LY];exact hl,vs,_,rv,ha⟩
   ·have z':=(if_neg hb).symm.trans z
    cases z'
  ·by_cases hb:b=a
   ·exact hb
   ·exact absurd (if_neg hb) z
noncomputable def cU(s:Stmt):Arguments:=match s with
 | .FunctionDef _ a _ _ _ _ _ _ _ _=>a
 | _=>{ posonlyargs:=[],args:=[],vararg:=none,kwonlyargs:=[],kw_defaults:=[],kwarg:=none,defaults:=[] }
noncomputable def bB(s:Stmt):List Stmt:=match s with
 | .FunctionDef _ _ b _ _ _ _ _ _ _=>b
 | _=>[]
noncomputable def aE(s:Stmt):Scope:=match s with
 | .FunctionDef _ _ _ _ _ _ sc _ _ _=>sc
 | _=>{ kind:=.function,names:=[],isGenerator:=false,isCoroutine:=false }
noncomputable abbrev E0:XK:=λ_ _ _=>False
theorem rW{A:Around}(hr:bz k A):A.units+1<cLine:=Ow (Nat.add_le_add_left (by decide:1<=64) _) hr.units
section
variable{X:Cx}
theorem pv(i:Nat){pos:Pos}(hN:X.N[i]?=some x:=by rfl)(hv:Vis X.env.scope x:=by first|exact Or.inl rfl|exact Rm (Or.inl rfl)|exact Rm (Rm rfl))(hd:NDb x:=by decide)
  (hcd:NCd x:=by decide):PE X (.Name x pos) (ID i):=eY hN hv hd hcd
end
def Lj(H H':Hp):Prop:=∀b o,H b=some o->H' b=some o
end L2
set_option maxHeartbeats 4000000
namespace L2
open PySem PySem.Spec PyProof.Rows PySem.W
open PySem.Builtin.ObjectAttr (find dataDescriptor? getOf)
open PySem.Builtin.Getset_descriptor (descrGet descrGetter descrCheckInstance descrNameAndClass)
variable{Q:Unit->Shared->Prop}{R:Result->Shared->Prop}
section
variable{prog:Program}{w:World}{A:Around}{E:Value->Shared->Prop}{h:Heap}{g:Array GenState}{d:Drawn}{t:Nat}{os:OsState}{K:Frag}{x C:Addr}
structure fW (K:Frag) (C:Addr):Prop where
 ga:findIn K (.ref C) "__getattribute__" = some (some (.builtin "BaseException.__getattribute__"))
 gt:findIn K (.ref C) "__getattr__" = some none
 cl:findIn K (.ref C) "__class__" = some (some (.builtin "object.__class__"))
 gg:specialIn K (.builtin "object.__class__") "__get__" = some (some (.builtin "getset_descriptor.__get__"))
 tk:takesIn K (.builtin "object.__class__")=some true
 ob:mroIn K C (.type "object")=some true
 be:mroIn K C (.type "BaseException")=some true
def ExcAt(a C:Addr)(h:Heap):Prop:=∃oa,h.get? a=some oa/\oa.cls=.ref C
theorem ExcAt.type{M:Model}(I:ExcAt x C h):Looks M h (typeOf (.ref x)) (.ref C):=by
 obtain⟨oa,e1,e2⟩:=I
 exact e2▸(Looks.ld e1).andThen .now
theorem EJ{M:Model}{nameV:Value}(X:K.In h)(T:fW K C)(I:ExcAt x C h)(hq:Q () ⟨h,g,d,t,os⟩) :
  wpAny M A (checkBuiltinCall "BaseException.__getattribute__" ⟨[.ref x,nameV],[]⟩) Q E ⟨h,g,d,t,os⟩:=by
 have k1:builtinKind "BaseException.__getattribute__" = some .slot:=by decide +kernel
 have k2:splitId "BaseException.__getattribute__" = some ("BaseException", "__getattribute__"):=by decide +kernel
 have k3:=F.args_bexc_ga (.ref x) nameV
 have L2:Looks M h (isInstance (.ref x) (.type "BaseException")) true:=I.type.andThen (looks_mroIn (M:=M) X T.be)
 simp only[checkBuiltinCall,k1,k2]
 refine wpAny_bind (L2.at ?_)
 repeat (first|exact hq|wp_step)
theorem JB{M:Model}(X:K.In h)(T:fW K C):Looks M h (find (.ref x) (.ref C) "__class__") (.bind (.builtin "getset_descriptor.__get__") (.builtin "object.__class__")):=by
 have l1:=looks_findIn (M:=M) X T.cl
 have l2:Looks M h (getOf (some (.builtin "object.__class__"))) (some (.builtin "getset_descriptor.__get__")):=looks_specialIn X T.gg
 have l3:Looks M h (dataDescriptor? (some (.builtin "object.__class__")) (some (.builtin "getset_descriptor.__get__"))) (some (.builtin "getset_descriptor.__get__",.builtin "object.__class__")):=(looks_takesIn (M:=M) X T.tk).andThen .now
 exact l1.andThen (l2.andThen (l3.andThen (Looks.tag .now)))
theorem KQ{tp:Value}(X:K.In h)(T:fW K C)(I:ExcAt x C h)(q:R (.ok (.ret (.ref C))) ⟨h,g,d,t,os⟩) :
  codeAny (model prog w) A (.call (.builtin "getset_descriptor.__get__") ⟨[.builtin "object.__class__",.ref x,tp],[]⟩) R ⟨h,g,d,t,os⟩:=by
 have l0:=I.type (M:=model prog w)
 have l1:=looks_mroIn (M:=model prog w) X T.ob
 refine codeAny_call_builtin (KF.slot_gs).plain (KF.entry_gs) ((KF.slot_gs).check _ _ _ _ _ _ _ _ (KF.type_class) (KF.args_gs _ _ _) ?_)
 unfold Builtin.«getset_descriptor.__get__»
 unfold descrGet
 rw[dga_obj _ tp x]
 refine wpAny_bind (wpAny_pure ?_)
 unfold descrGetter descrCheckInstance
 unfold descrNameAndClass isInstance
 simp only[KF.owner_class,id]
 repeat (first|lk)
 refine⟨Code.quiet_builtin _ (by decide +kernel),codeAny_builtin (KF.entry_class) ?_⟩
 unfold Builtin.«object.__class__»
 unfold shownTypeOf
 repeat (first|lk)
 exact q
theorem Ha{tk:Tok}{Q:Fin->Shared->Prop}(X:K.In h)(T:fW K C)(I:ExcAt x C h)(hq:Q (.done (.ret (.ref C))) ⟨h,g,d,t,os⟩) :
  wpAny (model prog w) A (Builtin.«object.__getattribute__» ⟨[.ref x,.str "__class__" tk],[]⟩) Q E ⟨h,g,d,t,os⟩:=by
 have L0:=I.type (M:=model prog w)
 have L1:=JB (x:=x) (M:=model prog w) X T
 unfold Builtin.«object.__getattribute__»
 refine wpAny_bind (wpAny_pure ?_)
 refine wpAny_bind (wpAny_pure ?_)
 refine wpAny_bind (L0.at ?_)
 refine wpAny_bind (L1.at ?_)
 unfold QI
 refine wpAny_bind (wpAny_call ?_)
 refine KQ X T I ?_
 exact wpAny_pure hq
theorem HL{tk:Tok}(X:K.In h)(T:fW K C)(I:ExcAt x C h)(hq:R (.ok (.ret (.ref C))) ⟨h,g,d,t,os⟩) :
  codeAny (model prog w) A (.call (.builtin "BaseException.__getattribute__") ⟨[.ref x,.str "__class__" tk],[]⟩) R ⟨h,g,d,t,os⟩ :=
 codeAny_call_builtin QC.ga.plain F.entry_bexc_ga (EJ X T I (Ha X T I hq))
theorem xby{tk:Tok}{Q:Value->Shared->Prop}(X:K.In h)(T:fW K C)(I:ExcAt x C h)(hq:Q (.ref C) ⟨h,g,d,t,os⟩) :
  wpAny (model prog w) A (getAttrBy (.ref x) (.str "__class__" tk) false) Q E ⟨h,g,d,t,os⟩:=by
 have f3:=QC.ga.bind (.ref x)
 have z2:(O1 "BaseException.__getattribute__" == O1 "object.__getattribute__")=false:=by decide +kernel
 have z1:(onTheHeap (ME C)&&O1 "BaseException.__getattribute__" == O1 "object.__getattribute__")=false:=by rw[z2];rfl
 have L0:=I.type (M:=model prog w)
 have L1:=looks_findIn (M:=model prog w) X T.ga
 have L2:=looks_findIn (M:=model prog w) X T.gt
 unfold getAttrBy
 refine wpAny_holding (wpAny_bind (L0.at (wpAny_bind (L1.at ?_))))
 dsimp only
 rw[if_neg (by rw[z1];exact Mt)]
 unfold getAttrByItsOwn hookBefore
 repeat (any_goals (first|assumption|with_reducible refine wpAny_bind (L2.at ?_)|with_reducible refine wpAny_bind (L1.at ?_)|wp_step))
 refine HL X T I ?_
 repeat (any_goals (first|assumption|wp_step))
theorem II{Q:Option Value->Shared->Prop}(X:K.In h)(T:fW K C)(I:ExcAt x C h)(hq:Q (some (.ref C)) ⟨h,g,d,t+1,os⟩) :
  wpAny (model prog w) A (getAttr? (.ref x) "__class__") Q E ⟨h,g,d,t,os⟩:=by
 unfold getAttr? getAttrBy?
 repeat (any_goals (first|assumption|with_reducible apply xby X T I|wp_step))
end
variable{C:Addr}
theorem fW.there{K:Frag}(T:fW K C):∃oc od cd sl,K.lookup C=some ⟨oc,od,.cls cd,sl⟩:=by
 have q:=T.ob
 unfold mroIn clsIn at q
 split at q
 ·rename_i a b c e f
  exact⟨a,b,c,e,f⟩
 ·cases q
theorem xg{K:Frag}{a:Addr}(T:fW K C):KitX K (.ref a) (.ref C) (ExcAt a C) where
 ty:=λ_ _ _ I=>I.type
 it:=λ_ _ X _=>by
  obtain⟨_,_,_,_,lk⟩:=T.there
  intro A1 Q1 E1 s1 k1 q1
  unfold isType loadHead
  exact wpAny_bind (wpAny_loadPart (k1 _ _ (X _ _ lk)) (wpAny_pure q1))
 ne:=λh tp dd its n sl X htp=>by
  obtain⟨_,_,_,_,lk⟩:=T.there
  refine OA.mpr λq=>?_
  cases ME.inj (beq_iff_eq.mp q)
  cases (X _ _ lk).symm.trans htp
 ca:=λ{_ _ _ _ _ s} X I k=>by
  obtain⟨h,g,d,t,os⟩:=s
  exact II X T I k
open PySem PySem.Spec PyProof.Rows
noncomputable abbrev rY:List Value:=[.type "ValueError",.type "Exception",.type "BaseException",.type "object"]
variable{K:LU}
theorem Bc{h:Heap}{bmB:List Value}{newId:String}(X:K.In h)(q:N8 K C bmB newId=true) :
  ∃bm N nm qn bs hdct sn sub ab col dd k0 k1 k2 k3 k5 mN,h.get? C=some (excClassObj nm qn C N bs bm hdct sn sub ab col dd k0 k1 k2 k3 k5 newId)/\h.Ns N mN/\mN "__init__" = none/\OwnTail h bmB bm:=by
 unfold N8 at q
 split at q
 case h_2=>cases q
 rename_i dd cd sl lk
 split at q
 case h_2=>cases q
 rename_i C1 bm k0 k1 k2 k3 n k5 em es
 rw[LV,LV,LV,LV,LV,beq_iff_eq,beq_iff_eq,beq_iff_eq,Mq] at q
 obtain⟨⟨⟨⟨⟨rfl,rfl⟩,nd⟩,tl⟩,ok⟩,ni⟩:=q
 obtain⟨nm,bs,mro,ns,qn,hd,sn,sub,ab,col,del⟩:=cd
 have em:mro=.ref C1::bm:=em
 have nd:del=false:=nd
 subst em nd
 have esl:sl=#[k0,k1,k2,k3,some (.builtin n),k5]:=by
  obtain⟨l⟩:=sl
  have es:l=[k0,k1,k2,k3,some (.builtin n),k5]:=es
  rw[es]
 subst esl
 exact⟨bm,ns,nm,qn,bs,hd,sn,sub,ab,col,dd,k0,k1,k2,k3,k5,_,X _ _ lk,.of_isNs (PySem.W.isNs_of_in X ok),PySem.W.nsMap_none_of_in X ok ni,PySem.W.tail_of_in X tl⟩
variable{P:Program}{w:World}{H:Hp}{o:HO}
theorem bb.is{h:Heap}{a:Addr}(x:bb P w H h a o):∃ob,h.get? a=some ob:=by
 cases o with
 | lst xs=>obtain⟨_,_,_,_,e⟩:=x;exact⟨_,e⟩
 | tup xs=>obtain⟨_,_,_,ob,e,_⟩:=x;exact⟨_,e⟩
 | dK kvs=>obtain⟨_,_,_,_,ob,_,_,e,_⟩:=x;exact⟨_,e⟩
 | dT kvs=>obtain⟨_,_,_,_,ob,_,_,e,_⟩:=x;exact⟨_,e⟩
 | set S n=>obtain⟨ob,_,_,_,e,_⟩:=x;exact⟨_,e⟩
 | ins C dx fs=>obtain⟨_,_,_,e,_⟩:=x;exact⟨_,e⟩
 | own y=>obtain⟨_,e⟩:=x;exact⟨_,e⟩
 | xd fs=>obtain⟨_,⟨_,_,_,e,_⟩,_⟩:=x;exact⟨_,e⟩
 | rng lo hi=>obtain⟨_,_,_,e⟩:=x;exact⟨_,e⟩
 | frz ob u=>obtain⟨e,_⟩:=x;exact⟨_,e⟩
 | tbl ps=>exact⟨_,x⟩
 | met f y=>exact⟨_,x⟩
 | ext φ=>obtain⟨_,⟨_,e⟩,_⟩:=x;exact⟨_,e⟩
theorem bb.sD{h:Heap}{a:Addr}{A:Prop}(x:bb P w H h a o)(g:h.get? a=none):A:=by
 obtain⟨ob,e⟩:=x.is
 rw[g] at e;cases e
structure Fly (P:Program) (w:World) (outer:List Env) (H:Hp) (s:Shared) (a C:Addr) (H':Hp) (s':Shared):Prop where
 os:s'.os=s.os
 bare:AllBare s'.gens
 un:Un (frs outer) [] H H' s.heap s'.heap
 hok:HOk P w H' s'.heap
 new:s.heap.get? a=none
 free:H' a=none
 fl:∃(base:Heap) (a0:Value),Pg base outer a (.ref C) a0 s'.heap /\
  ∀b o,s'.heap.get? b=some o->(H' b≠none\/((∃ob,s.heap.get? b=some ob)/\b∉frs outer))->base.get? b=some o
noncomputable def CXE(P:Program)(w:World):CXT:=λouter H s E ev s'=>∃(a C:Addr) (H':Hp),ev=.ref a/\Fly P w outer H s a C H' s'/\E (.ref C) none H'
variable{h' base:Heap}{l:List Env}{E:Value->Shared->Prop}{env:Env}{L:Addr}{Hc:Hp}{vs:List Value}
section
variable{P:Program}{w:World}{outer:List Env}{H H':Hp}{s s':Shared}{a C:Addr}
theorem gn{h:Heap}(x:HOk P w H h)(hb:∀b o,h.get? b=some o->H b≠none->base.get? b=some o)(st:base.StaysIn h'):HOk P w H h':=λb u e=>by
 refine(x b u e).jn (λc v hc q=>st c v (hb c v q ?_)) (λ_ q=>q) λ_ _ q=>q
 rcases hc with z|z
 ·rw[z,e];intro k;cases k
 ·rw[z];intro k;cases k
theorem i8{h:Heap}(f:h.FunFrames base l){b:Addr}(hb:b∈frs l):base.get? b=none/\∃o,h.get? b=some o/\∀vs,o.data≠.fields vs:=f.mem hb
theorem tR{M:Model}{A:Around}{sc:Shared}
  (hA:A.frames=some (env::outer))(hf:env.frame=some L)(hL:s.heap.get? L=none)(fF:∀b∈frs outer,H b=none)(fT:∀b∈frs outer,∃o,s.heap.get? b=some o)
  (u:Un (frs outer) [] H Hc s.heap sc.heap)(ho:sc.os=s.os)(x:Fly P w (env::outer) Hc sc a C H' s')
  (q:∀s'',Fly P w outer H s a C H' s''->Q () s''):wpAny M A (leaving env (.ref a)) Q E s':=by
 obtain⟨base,a0,fl,hb⟩:=x.fl
 have ef:frs (env::outer)=L::frs outer:=by unfold frs;rw[M6,hf]
 refine wpAny_leaves_onW hA hf fl λh' fl' up=>q _ ?_
 have old:∀b ob,s.heap.get? b=some ob->b≠L:=λb ob e z=>by rw[z,hL] at e;cases e
 have inb:∀b ob o,s.heap.get? b=some ob->b∉frs outer->s'.heap.get? b=some o->base.get? b=some o:=λb ob o e n e'=>by
  obtain⟨oc,ec⟩:=u.there b ob e (λz=>nomatch z)
  refine hb b o e' (.inr ⟨⟨oc,ec⟩,?_⟩)
  rw[ef]
  exact λz=>(Ml.mp z).elim (old b ob e) n
 have fdata:∀b o,b∈frs outer->s'.heap.get? b=some o->∀vs,o.data≠.fields vs:=λb o m e=>by
  obtain⟨_,o2,e2,nf⟩:=i8 fl.2.2.1 (show b∈frs (env::outer) by rw[ef];exact L6 _ m)
  rw[e2] at e;cases e;exact nf
 refine⟨x.os.trans ho,x.bare,⟨λb o e n nb nx=>?_,λb o e n mb nx=>?_,λb o e n nx=>?_,λb o e nx=>?_,λb xs e=>x.un.tups b xs (u.tups b xs e),λb o v e=>x.un.frzs b o v (u.frzs b o v e),λb ps e=>?_⟩,gn x.hok (λb o e n=>hb b o e (.inl n)) fl'.1,?_,x.free,base,a0,fl',λb o e r=>?_⟩
 ·have e1:=x.un.keep b o (u.keep b o e n nb nx) (u.free b o e n nx) (by rw[ef];exact λz=>(Ml.mp z).elim (old b o e) nb) nx
  exact fl'.1 b o (inb b o o e nb e1)
 ·obtain⟨sl,e1⟩:=u.slot b o e n mb nx
  obtain⟨sl2,e2⟩:=x.un.slot b _ e1 (u.free b o e n nx) (by rw[ef];exact L6 _ mb) nx
  obtain⟨sl3,e3⟩:=up b _ e2 (fdata b _ mb e2)
  exact⟨sl3,e3⟩
 ·obtain⟨oc,ec⟩:=u.there b o e nx
  exact x.un.free b oc ec (u.free b o e n nx) nx
 ·obtain⟨oc,ec⟩:=u.there b o e nx
  obtain⟨o2,e2⟩:=x.un.there b oc ec nx
  by_cases mb:b∈frs outer
  ·obtain⟨sl,e3⟩:=up b o2 e2 (fdata b o2 mb e2)
   exact⟨_,e3⟩
  ·exact⟨o2,fl'.1 b o2 (inb b o o2 e mb e2)⟩
 ·obtain⟨m1,e1⟩:=u.tbls b ps e
  obtain⟨m2,e2⟩:=x.un.tbls b _ e1
  exact⟨m1++m2,by rw[e2,O5]⟩
 ·cases z:s.heap.get? a with
  | none=>rfl
  | some oa =>
   obtain⟨o1,e1⟩:=u.there a oa z (λz=>nomatch z)
   rw[x.new] at e1;cases e1
 ·have e:h'.get? b=some o:=e
  have key:∀o2,s'.heap.get? b=some o2->base.get? b=some o2->base.get? b=some o:=λo2 e2 e3=>by
   have:=fl'.1 b o2 e3
   rw[e] at this;cases this;exact e3
  rcases r with r|⟨⟨ob,eb⟩,nb⟩
  ·cases z:H' b with
   | none=>exact absurd z r
   | some v =>
    have lt:=x.hok.lt z
    obtain⟨o2,e2⟩:∃o2,s'.heap.get? b=some o2:=by
     cases g:s'.heap.get? b with
     | some o2=>exact⟨o2,rfl⟩
     | none=>exact(x.hok b v z).sD g
    exact key o2 e2 (hb b o2 e2 (.inl r))
  ·obtain⟨oc,ec⟩:=u.there b ob eb (λz=>nomatch z)
   obtain⟨o2,e2⟩:=x.un.there b oc ec (λz=>nomatch z)
   exact key o2 e2 (inb b ob o2 eb nb e2)
theorem wD{M:Model}{A:Around}{sc:Shared}{h1 base0:Heap}
  (hA:A.frames=some (env::outer))(hf:env.frame=some L)(hL:s.heap.get? L=none)(u:Un (frs outer) [] H Hc s.heap sc.heap)(ho:sc.os=s.os)(bare:AllBare sc.gens)(hok:HOk P w Hc sc.heap)
  (fr:sc.heap.FunFrames base0 (env::outer))(fU:∀b∈frs (env::outer),Hc b=none)(hx:QY sc.heap h1 a (.ref C) vs)
  (q:∀s'',Fly P w outer H s a C Hc s''->Q () s''):wpAny M A (leaving env (.ref a)) Q E { sc with heap:=h1 }:=by
 have ef:frs (env::outer)=L::frs outer:=by unfold frs;rw[M6,hf]
 have old:∀b ob,s.heap.get? b=some ob->b≠L:=λb ob e z=>by rw[z,hL] at e;cases e
 have inb:∀b o,sc.heap.get? b=some o->b∉frs (env::outer)->(OG sc.heap (frs (env::outer))).get? b=some o:=λb o e n=>P6 _ e n
 have trk:∀b,Hc b≠none->b∉frs (env::outer):=λb n m=>n (fU b m)
 have fdata:∀b o,b∈frs (env::outer)->sc.heap.get? b=some o->∀vs,o.data≠.fields vs:=λb o m e=>by
  obtain⟨_,o2,e2,nf⟩:=i8 fr m
  rw[e2] at e;cases e;exact nf
 refine wpAny_leaves_madeW (base:=OG sc.heap (frs (env::outer))) hA hf (λb o z=>Qc _ z) (PySem.W.funFrames_hide fr λen he b hb=>NZ.mpr ⟨en,he,hb⟩) hx λh' t fl _ _ up=>q _ ?_
 have notin:∀b ob,s.heap.get? b=some ob->b∉frs outer->b∉frs (env::outer):=λb ob e n=>by rw[ef];exact λz=>(Ml.mp z).elim (old b ob e) n
 refine⟨ho,bare,⟨λb o e n nb nx=>?_,λb o e n mb nx=>?_,λb o e n nx=>u.free b o e n nx,λb o e nx=>?_,u.tups,u.frzs,u.tbls⟩,gn hok (λb o e n=>inb b o e (trk b n)) fl.1,?_,?_,_,_,fl,λb o e r=>?_⟩
 ·exact fl.1 b o (inb b o (u.keep b o e n nb nx) (notin b o e nb))
 ·obtain⟨sl,e1⟩:=u.slot b o e n mb nx
  obtain⟨sl3,e3⟩:=up b _ (hx.keeps _ _ e1) (fdata b _ (by rw[ef];exact L6 _ mb) e1)
  exact⟨sl3,e3⟩
 ·obtain⟨o2,e2⟩:=u.there b o e nx
  by_cases mb:b∈frs (env::outer)
  ·obtain⟨sl,e3⟩:=up b o2 (hx.keeps _ _ e2) (fdata b o2 mb e2)
   exact⟨_,e3⟩
  ·exact⟨o2,fl.1 b o2 (inb b o2 e2 mb)⟩
 ·cases z:s.heap.get? a with
  | none=>rfl
  | some oa =>
   obtain⟨o1,e1⟩:=u.there a oa z (λz=>nomatch z)
   rw[hx.new] at e1;cases e1
 ·cases z:Hc a with
  | none=>rfl
  | some v=>exact(hok a v z).sD hx.new
 ·have e:h'.get? b=some o:=e
  have key:∀o2,sc.heap.get? b=some o2->b∉frs (env::outer)->(OG sc.heap (frs (env::outer))).get? b=some o:=λo2 e2 n=>by
   have e3:=inb b o2 e2 n
   have:=fl.1 b o2 e3
   rw[e] at this;cases this;exact e3
  rcases r with r|⟨⟨ob,eb⟩,nb⟩
  ·cases z:Hc b with
   | none=>exact absurd z r
   | some v =>
    obtain⟨o2,e2⟩:=(hok b v z).is
    exact key o2 e2 (trk b r)
  ·obtain⟨o2,e2⟩:=u.there b ob eb (λz=>nomatch z)
   exact key o2 e2 (notin b ob eb nb)
end
structure Xc (X:Cx) (E:XK):Prop where
 pass:Passes (CXE X.prog X.w) X E
 made:∀(pins:List (Addr×Obj))(σ:St)(H:Hp)(s:Shared)(h':Heap)(e C:Addr)(vs:List Value),Inv X pins σ H s->QY s.heap h' e (.ref C) vs->E (.ref C) none H->X.xe (.ref e) { s with heap:=h' }
variable{X:Cx}{pins:List (Addr×Obj)}{σ:St}{s:Shared}
theorem Inv.qD(I:Inv X pins σ H s):X.s₀.heap.get? X.env.locals=none:=Qn I.ok.above
variable{N:List Str}{scope:Scope}{f:Addr}
theorem CH{mg:Str->Option Value}{qual:Str}{cd:Value}{A:Around}{outer:List Env}{E:XK} :
  Xc (kS (CXE P w) P w K mg base N qual scope f cd A outer s H E) E:=by
 refine⟨λpins σ Hc sc e s' I x=>?_,λpins σ Hc sc h' e C vs I hx q=>?_⟩
 ·obtain⟨a,C,H',rfl,fl,q⟩:=x
  exact tR (L:=(envOfC qual scope s.heap.objs.size f cd).locals) I.ok.frames rfl I.qD I.ok.frf (λb hb=>let ⟨_,o,ho,_⟩:=I.ok.gu.mem hb;⟨o,ho⟩) I.base I.os fl λs'' fl'=>⟨a,C,H',rfl,fl',q⟩
 ·exact wD (L:=(envOfC qual scope s.heap.objs.size f cd).locals) I.ok.frames rfl I.qD I.base I.os I.bare I.hok I.stack I.mF hx λs'' fl'=>⟨e,C,Hc,rfl,fl',q⟩
noncomputable def FD(C:Addr)(E:XK)(t:TA):TS:=λ_ σ H=>t σ H λvs H1=>vs.length<=sizeLine/\E (.ref C) none H1
variable{x:Str}{e:Expr}{es:List Expr}{pos:Pos}
theorem xo{E:XK}{t:TA}{np cpos:Pos}(xc:Xc X E)(hc:X.calm=true)(hg:Gl X x)(hm:X.mg x=some (.ref C))(hex:N8 X.K C rY "ValueError.__new__" = true)
  (ha:PA X (e::es) t)(hd:NDb x:=by decide)(he:starEach (e::es) X.env=(false,eval e X.env)::starEach es X.env:=by rfl)(hpl:(backTo cpos (starEach es X.env)).any (·.1)=false:=by rfl) :
  PS X (.Raise (some (.Call (.Name x np) (e::es) [] cpos)) none pos) (FD C E t):=by
 intro pins s σ H D I h
 obtain⟨tl,N,nm,q,bs,hdct,sn,sub,ab,col,dd,k0,k1,k2,k3,k5,mN,hC,hN,hni,T⟩:=Bc I.ok.mod.kin hex
 refine wpAny_Raise_call_subT (nm:=nm) (q:=q) (N:=N) (bs:=bs) (hdct:=hdct) (sn:=sn) (sub:=sub) (ab:=ab) (col:=col) (dd:=dd) (k0:=k0) (k1:=k1) (k2:=k2) (k3:=k3) (k5:=k5) (bm:=tl) (mN:=mN) QD (T.hasType QD.hasBase) (I.ok.hd hc) (by rw[he];show (false || (backTo cpos (starEach es X.env)).any (·.1))=false;rw[hpl];rfl) hni (eP I hg hm ⟨rfl,?_⟩ hd)
 have h1:=ha cpos pins s σ H _ I h
 rw[he] at h1 ⊢
 refine Qg (wpAny_mono h1 (λus s2 h2=>?_) λ_ _ y=>y)
 obtain⟨vs,H2,I2,r2,hl,q2⟩:=h2
 exact⟨rfl,by rw[<- r2.length];exact hl,I2.bk _ _ hC,hN.keeps I2.bk,T.keeps I2.bk,λh' ex hx=>xc.made pins σ H2 s2 h' ex C us I2 hx q2⟩
variable{H':Hp}{s':Shared}
theorem pE{sc:Shared}{a:Addr}{a0:Value}(x:Fly P w l Hc sc a C H' s')(fl:Pg base l a (.ref C) a0 s'.heap)
  (hb:∀b o,s'.heap.get? b=some o->(H' b≠none\/((∃ob,sc.heap.get? b=some ob)/\b∉frs l))->base.get? b=some o)
  (fl':Pg base l a (.ref C) a0 h')(up:s'.heap.UpToSlots h'):Fly P w l Hc sc a C H' { s' with heap:=h' }:=by
 have fdata:∀b o,b∈frs l->s'.heap.get? b=some o->∀vs,o.data≠.fields vs:=λb o m e=>by
  obtain⟨_,o2,e2,nf⟩:=i8 fl.2.2.1 m
  rw[e2] at e;cases e;exact nf
 refine⟨x.os,x.bare,⟨λb o e n nb nx=>?_,λb o e n mb nx=>?_,x.un.free,λb o e nx=>?_,x.un.tups,x.un.frzs,x.un.tbls⟩,gn x.hok (λb o e n=>hb b o e (.inl n)) fl'.1,x.new,x.free,base,a0,fl',λb o e r=>?_⟩
 ·exact fl'.1 b o (hb b o (x.un.keep b o e n nb nx) (.inr ⟨⟨o,e⟩,nb⟩))
 ·obtain⟨sl2,e2⟩:=x.un.slot b o e n mb nx
  obtain⟨sl3,e3⟩:=up b _ e2 (fdata b _ mb e2)
  exact⟨sl3,e3⟩
 ·obtain⟨o2,e2⟩:=x.un.there b o e nx
  by_cases mb:b∈frs l
  ·obtain⟨sl,e3⟩:=up b o2 e2 (fdata b o2 mb e2)
   exact⟨_,e3⟩
  ·exact⟨o2,fl'.1 b o2 (hb b o2 e2 (.inr ⟨⟨o,e⟩,mb⟩))⟩
 ·have e:h'.get? b=some o:=e
  have key:∀o2,base.get? b=some o2->base.get? b=some o:=λo2 e3=>by
   have:=fl'.1 b o2 e3
   rw[e] at this;cases this;exact e3
  rcases id r with q|⟨⟨ob,eb⟩,nb⟩
  ·cases z:H' b with
   | none=>exact absurd z q
   | some v =>
    obtain⟨o2,e2⟩:=(x.hok b v z).is
    exact key o2 (hb b o2 e2 r)
  ·obtain⟨o2,e2⟩:=x.un.there b ob eb (λz=>nomatch z)
   exact key o2 (hb b o2 e2 r)
theorem Fly.at{sc:Shared}{a:Addr}(x:Fly P w l Hc sc a C H' s'):ExcAt a C s'.heap:=by
 obtain⟨base,a0,fl,_⟩:=x.fl
 exact fl.there
noncomputable abbrev XS:=Value->St->Hp->Prop
noncomputable def XP(X:Cx)(pins:List (Addr×Obj))(E:XS)(ev:Value)(s':Shared):Prop :=
 ∃(a C:Addr) (σ:St) (Hc:Hp) (sc:Shared) (H':Hp),ev=.ref a/\Inv X pins σ Hc sc/\Fly X.prog X.w X.stack Hc sc a C H' s'/\E (.ref C) σ H'
noncomputable def PXE(X:Cx)(e:Expr)(t:St->Hp->VK->XK->Prop):Prop :=
 ∀(pins:List (Addr×Obj))(s:Shared)(σ:St)(H:Hp)(Q:VK)(E:XK),Inv X pins σ H s->t σ H Q E ->
  wpAny (model X.prog X.w) X.A (eval e X.env) (EP X pins σ Q) (XP X pins λc σ' H'=>σ'=σ/\E c none H') s
noncomputable abbrev TX:=Ends->XS->St->Hp->Prop
noncomputable def PX(X:Cx)(st:Stmt)(t:TX):Prop :=
 ∀(pins:List (Addr×Obj))(s:Shared)(σ:St)(H:Hp)(D:Ends)(E:XS),Inv X pins σ H s->t D E σ H->wpAny (model X.prog X.w) X.A (exec st X.env) (SP X pins D) (XP X pins E) s
noncomputable def PXs(X:Cx)(st:List Stmt)(t:TX):Prop :=
 ∀(pins:List (Addr×Obj))(s:Shared)(σ:St)(H:Hp)(D:Ends)(E:XS),Inv X pins σ H s->t D E σ H->wpAny (model X.prog X.w) X.A (execs st X.env) (SP X pins D) (XP X pins E) s
variable{us:List Value}{i:Nat}
section
variable{X:Cx}
theorem XP.mono{E E':XS}{ev:Value}(h:XP X pins E ev s')(k:∀c σ H,E c σ H->E' c σ H):XP X pins E' ev s':=by
 obtain⟨a,C,σ,Hc,sc,H',e1,e2,e3,e4⟩:=h
 exact⟨a,C,σ,Hc,sc,H',e1,e2,e3,k _ _ _ e4⟩
theorem TP.cO{pins:List (Addr×Obj)}{σ:St}{Q:Bool->Hp->Prop}{u:Bool}{s:Shared}{E:Value->Shared->Prop}(h:TP (X.ig E) pins σ Q u s):TP X pins σ Q u s:=by
 obtain⟨H',I,q⟩:=h
 exact⟨H',I.cO,q⟩
variable{k:Nat}{f C:Addr}{fd:FuncData}{ps:List Str}{sp:Sp}{dvs:List V}{ds:List Value}{x m:Str}{p pos apos:Pos}{e o:Expr}{es:List Expr}{ta:TE}{t:TA}
theorem sY{Q:VK}{E:XK}{vs:List V}(F:bW X.prog X.w X.K X.mg X.base (CXE X.prog X.w) k f fd ps sp)(hr:bz k X.A)(hb:Binds X.K fd ps ds)(hd:Vals dvs ds)
  (I:Inv X pins σ H s)(r:Vals vs us)(h:sp (vs++dvs) H Q E):wpAny (model X.prog X.w) X.A (call (.ref f) us) (EP X pins σ Q) (XP X pins λc σ' H'=>σ'=σ/\E c none H') s:=by
 have r2:Vals (vs++dvs) (us++ds):=r.append hd
 have hl:(us++ds).length=ps.length:=by rw[<- r2.length];exact F.len _ _ _ _ h
 refine wpAny_call (codeAny_mono (F.run X.A X.stack s H ⟨us,[]⟩ (us++ds) (vs++dvs) Q E hr I.wb (hb s us I.kIn hl) r2 h) λres s' hq=>?_)
 cases res with
 | error ev =>
  obtain⟨a,C,H',rfl,fl,q⟩:=hq
  exact⟨a,C,σ,H,s,H',rfl,I,fl,rfl,q⟩
 | ok fl =>
  cases fl with
  | ret u=>exact I.after hq
  | _=>exact MN hq
noncomputable def Gp(sp:Sp)(dvs:List V)(t:TA):St->Hp->VK->XK->Prop:=λσ H Q E=>t σ H λvs H1=>sp (vs++dvs) H1 Q E
theorem pI(F:bW X.prog X.w X.K X.mg X.base (CXE X.prog X.w) k f fd ps sp)(hr:bz k X.A)(hg:Gl X x)(hm:X.mg x=some (.ref f))(hk:ML X.K (.ref f)=true)(hb:Binds X.K fd ps ds)(hd:Vals dvs ds)
  (ha:PA X.nox (e::es) t)(hdb:NDb x:=by decide)(he:starEach (e::es) X.env=(false,eval e X.env)::starEach es X.env:=by rfl)(hpl:(backTo pos (starEach es X.env)).any (·.1)=false:=by rfl) :
  PXE X (.Call (.Name x p) (e::es) [] pos) (Gp sp dvs t):=by
 intro pins s σ H Q E I h
 refine wpAny_Call_Name_kw (eP I hg hm ?_ hdb)
 refine Nh (h₀:=X.base) I.ok.mod.kin hk (wpAny_mono (ha pos pins s σ H _ (I.ig _) h) (λus s1 z=>?_) (λ_ _ z=>z.elim)) he hpl
 obtain⟨vs,H1,I1,r,q⟩:=z
 exact⟨I1.cO.kIn,sY F hr hb hd I1.cO r q⟩
theorem mw{t:St->Hp->VK->XK->Prop}(he:PXE X e t)(hs:swapsWith e none pos.line X.env=pure false:=by rfl) :
  PX X (.Expr e pos) (λD E σ H=>t σ H (λ_ H1=>D.nx σ H1) (λc _ H1=>E c σ H1)):=by
 intro pins s σ H D E I h
 refine wpAny_Expr_any (wpAny_mono (he pins s σ H _ _ I h) (λu s1 z=>?_) λev s1 z=>z.mono λc σ' H' q=>?_) I.quiet hs
 ·obtain⟨v,H',I',_,q⟩:=z
  exact⟨σ,H',I',q⟩
 ·obtain⟨rfl,q⟩:=q
  exact q
theorem EN{pos':Pos}{t:St->Hp->VK->XK->Prop}(hN:X.N.Nodup)(hi:X.N[i]?=some x)(hx:Loc X.env.scope x)(he:PXE X e t)(hs:swapsWith e (some (.Name x pos')) pos.line X.env=pure false:=by rfl)
  (hf:X.fn x=true\/X.env.scope.names.lookup x=some .local:=by first|exact .inl rfl|exact .inr rfl|assumption) :
  PX X (.Assign [.Name x pos'] e pos) (λD E σ H=>t σ H (λv H1=>D.nx (σ.set i (some v)) H1) (λc _ H1=>E c σ H1)):=by
 intro pins s σ H D E I h
 refine wpAny_Assign_Name (wpAny_mono (he pins s σ H _ _ I h) (λu s1 z=>?_) λev s1 z=>z.mono λc σ' H' q=>?_) hs
 ·obtain⟨v,H',I',r,q⟩:=z
  exact fw I' hN hi hx r (λs2 I2=>⟨_,H',I2,q⟩) hf
 ·obtain⟨rfl,q⟩:=q
  exact q
theorem rX{st:Stmt}{t:TX}(h:PX X st t):PXs X [st] t:=by
 intro pins s σ H D E I q
 refine wpAny_execs_cons (wpAny_mono (h pins s σ H D E I q) (λfl s1 z=>?_) λ_ _ z=>z)
 cases fl with
 | next=>exact wpAny_execs_nil z
 | _=>exact z
noncomputable abbrev Cx.marked(X:Cx)(a:Addr):Cx:={ X with A:=X.A.mark (some (.ref a)),calm:=false,xe:=λ_ _=>False }
theorem Inv.mark(I:Inv X pins σ H s)(a:Addr):Inv (X.marked a) pins σ H s :=
 have k:=I.ok
 ⟨⟨k.mod,k.kind,k.glob,k.blt,k.above,k.inj,k.has,k.cab,(λz=>nomatch z),k.frames,k.stk,k.exf,k.bs,k.bsz,k.noex,k.exfs,k.gu,k.frf⟩,I.os,I.bare,I.base,I.loc,I.cell,I.free,I.freeC,I.pin,I.hok,I.len⟩
theorem Inv.unmark{a:Addr}(I:Inv (X.marked a) pins σ H s)(k0:X.Ok):Inv X pins σ H s :=
 ⟨k0,I.os,I.bare,I.base,I.loc,I.cell,I.free,I.freeC,I.pin,I.hok,I.len⟩
theorem Inv.IJ{a:Addr}{ho:HO}(I:Inv X pins σ H s)(n0:X.s₀.heap.get? a=none)(nL:a≠X.env.locals)(nC:∀x c,X.env.cells.lookup x=some c->c≠a)(nP:∀p∈X.pn++pins,p.1≠a)
  (hn:H a=none)(ok:bb X.prog X.w (upd H a ho) s.heap a ho):Inv X pins σ (upd H a ho) s:=by
 have ne:∀b u,H b=some u->b≠a:=λb u e z=>by rw[z,hn] at e;cases e
 refine⟨I.ok,I.os,I.bare,⟨I.base.keep,I.base.slot,λb o e n nx=>?_,I.base.there,λb xs e=>?_,λb o v e=>?_,λb ps e=>?_⟩,I.loc,I.cell,by rw[aC (M8 nL)];exact I.free,λx c e=>by rw[aC (nC x c e)];exact I.freeC x c e,λp hp=>?_,λb u e=>?_,I.len⟩
 ·rw[aC (λz=>by rw[z,n0] at e;cases e)]
  exact I.base.free b o e n nx
 ·have q:=I.base.tups b xs e
  rw[aC (ne b _ q)];exact q
 ·have q:=I.base.frzs b o v e
  rw[aC (ne b _ q)];exact q
 ·obtain⟨more,q⟩:=I.base.tbls b ps e
  exact⟨more,by rw[aC (ne b _ q)];exact q⟩
 ·obtain⟨e1,e2,e3⟩:=I.pin p hp
  exact⟨e1,by rw[aC (nP p hp)];exact e2,e3⟩
 ·by_cases z:b=a
  ·subst z
   rw[bw] at e;cases e
   exact ok
  ·rw[aC z] at e
   exact(I.hok b u e).jn (λ_ _ _ q=>q) (λc q=>by rw[aC (ne c _ q)];exact q) λc xs q=>by rw[aC (ne c _ q)];exact q
theorem g8{M:Model}{A:Around}{n:Str}(I:Inv X pins σ H s)(hN:X.N.Nodup)(hi:X.N[i]?=some n)
  (hn:X.env.scope.names.lookup n=some .local)(q:∀s',Inv X pins (σ.set i none) H s'->Q () s'):wpAny M A (do bindName X.env n .none;unbindBehindTheSuite X.env n pos) Q E s:=by
 obtain⟨m,nsm,hl⟩:=id I.loc
 refine wpAny_nameGoes_keeps hn nsm (by rw[I.ok.kind];rfl) λh' v ns' hs=>q _ ?_
 obtain⟨oL,_,_,hoL,_⟩:=id nsm
 have fl:∀b o,X.s₀.heap.get? b=some o->b≠X.env.locals:=λb o e=>My (L4 (Mf e) I.ok.above)
 refine⟨I.ok,I.os,I.bare,⟨λb o e n hb hx=>(hs.2 b (fl b o e)).trans (I.base.keep b o e n hb hx),λb o e n hb hx=>?_,I.base.free,λb o e hx=>?_,I.base.tups,I.base.frzs,I.base.tbls⟩,⟨_,ns',λj y w' e1 e2 e3=>?_⟩,λy c e=>?_,I.free,I.freeC,λp hp=>?_,λb u e=>?_,by simpa using I.len⟩
 ·obtain⟨sl,e1⟩:=I.base.slot b o e n hb hx
  exact⟨sl,(hs.2 b (fl b o e)).trans e1⟩
 ·obtain⟨o1,e1⟩:=I.base.there b o e hx
  exact⟨o1,(hs.2 b (fl b o e)).trans e1⟩
 ·by_cases hj:j=i
  ·subst hj
   have:j<σ.length:=by rw[I.len];exact(Mb.mp hi).1
   rw[MF this] at e2
   cases e2
  ·rw[MR (M8 hj)] at e2
   obtain⟨u,r,z⟩:=hl j y w' e1 e2 e3
   refine⟨u,r,?_⟩
   rcases z with ⟨k,e⟩|⟨k,c,e,z⟩
   ·refine .inl ⟨k,?_⟩
    have:y≠n:=λe=>hj (kl hN e1 (e▸hi))
    simp[this,e]
   ·exact .inr ⟨k,c,e,z.sameBut hs (I.cne y c e)⟩
 ·obtain⟨w1,z⟩:=I.cell y c e
  exact⟨w1,z.sameBut hs (I.cne y c e)⟩
 ·obtain⟨e,nn,ne,r⟩:=I.pin p hp
  exact⟨(hs.2 p.1 ne).trans e,nn,ne,r⟩
 ·refine(I.hok b u e).jn (λc w1 hc z=>(hs.2 c ?_).trans z) (λ_ z=>z) λ_ _ z=>z
  intro ec
  rcases hc with hc|hc
  ·rw[<- hc,ec,I.free] at e;cases e
  ·rw[ec,I.free] at hc;cases hc
noncomputable def n8(a C:Addr):HO:=.ext (ExcAt a C)
theorem A0{h:Heap}{a:Addr}(x:ExcAt a C h):bb P w H h a (n8 a C) :=
 ⟨x,let ⟨o,e,_⟩:=x;⟨o,e⟩,λh1 h2 ⟨o,e,c⟩ k=>⟨o,k o e,c⟩⟩
noncomputable def Ends.un(D:Ends)(i:Nat):Ends:={ nx:=λσ H=>D.nx (σ.set i none) H,rt:=D.rt,bk:=λσ H=>D.bk (σ.set i none) H,ct:=λσ H=>D.ct (σ.set i none) H }
noncomputable def Ly(K:LU)(T:Addr)(i:Nat)(tb:TX)(ts:TS):TS:=λD σ H=>tb D (λc σ' H'=>∃C,c=.ref C/\OT K (.ref C) (.ref T)=some true/\∀a,H' a=none->ts (D.un i) (σ'.set i (some (.ref a))) (upd H' a (n8 a C))) σ H
theorem Eu{T:Addr}{n:Str}{body suite:List Stmt}{b0:Stmt}{tb:TX}{ts:TS}{np hp:Pos}(hst:X.stack=X.env::X.outer)(hfr:X.env.frame=some X.env.locals)(hex:X.ex=[])(hN:X.N.Nodup)(hi:X.N[i]?=some n)(hn:X.env.scope.names.lookup n=some .local)
  (hg:Gl X x)(hm:X.mg x=some (.ref T))(hb:PXs X body tb)(hs:∀a,PSs (X.marked a) (b0::suite) ts)(hd:NDb x:=by decide)(hf:X.fn n=true\/X.env.scope.names.lookup n=some .local:=by first|exact .inl rfl|exact .inr rfl|assumption) :
  PS X (.Try body [.ExceptHandler (some (.Name x np)) (some n) (b0::suite) hp] [] [] pos) (Ly X.K T i tb ts):=by
 intro pins s σ H D I h
 refine wpAny_Try_except (wpAny_mono (hb pins s σ H D _ I h) (λf s1 z=>?_) λev s1 z=>?_)
 ·cases f with
  | next=>exact wpAny_execs_nil z
  | _=>exact z
 obtain⟨a,C,σ',Hc,sc,H',rfl,Ic,fl,C',e',hx,q⟩:=z
 cases e'
 obtain⟨base,a0,f0,hb0⟩:=fl.fl
 have hA:X.A.frames=some (X.env::X.outer):=hst▸I.ok.frames
 rw[hst] at f0
 refine wpAny_looks_onW hA hfr f0 λh1 held up1=>?_
 refine wpAny_landsW held λh2 fl2 up2=>?_
 have fly2:Fly X.prog X.w X.stack Hc sc a C H' { s1 with heap:=h2 }:=pE fl (hst▸f0) hb0 (hst▸fl2) (up1.trans up2)
 have back:∀{s2:Shared},Fly X.prog X.w X.stack Hc sc a C H' s2->Inv X pins σ' H' s2:=λy=>Ic.y4 (ch:=[]) y.os y.un y.hok y.bare (λb hb=>nomatch hb)
 have I2:=back fly2
 refine wpAny_handleBy_cons (codeAny_handlers_test ?_) (by intro q;cases q)
 refine eP (X:=X.marked a) (I2.mark a) hg hm ?_ hd
 refine(PySem.W.exm_one (M:=model X.prog X.w) I2.kIn fly2.at.type hx) _ _ _ _ (λ_ _ k=>k) ?_
 refine codeAny_handlers_suite_as ?_
 obtain⟨base2,a2,f2,hb2⟩:=fly2.fl
 refine lands_againW f2 λh3 fl3 up3=>?_
 have fly3:=pE fly2 f2 hb2 fl3 up3
 have I3:=back fly3
 have n1:∀b ob,sc.heap.get? b=some ob->b≠a:=λb ob e z=>by rw[z,fl.new] at e;cases e
 have I4:Inv X pins σ' (upd H' a (n8 a C)) { s1 with heap:=h3 }:=by
  refine I3.IJ ?_ ?_ ?_ ?_ fly3.free (A0 fly3.at)
  ·cases z:X.s₀.heap.get? a with
   | none=>rfl
   | some oa =>
    obtain⟨o1,e1⟩:=Ic.base.there a oa z (by rw[hex];exact λz=>nomatch z)
    rw[fl.new] at e1;cases e1
  ·obtain⟨m,⟨oL,_,_,eL,_⟩,_⟩:=Ic.loc
   exact(n1 _ _ eL).symm
  ·intro y c e
   obtain⟨v,oc,ec,_⟩:=Ic.cell y c e
   exact n1 c oc ec
  ·intro p hp
   exact n1 _ _ (Ic.pin p hp).1
 refine fw I4 hN hi (.inl hn) (v:=.ref a) rfl (λs5 I5=>?_) hf
 refine wpAny_mono (hs a pins s5 _ _ (D.un i) (I5.mark a) (q a fly3.free)) (λf s6 z=>?_) λ_ _ z=>z.elim
 cases f with
 | next =>
  obtain⟨σ6,H6,I6,q6⟩:=z
  exact g8 (I6.unmark I.ok) hN hi hn λs7 I7=>⟨_,_,I7,q6⟩
 | ret u =>
  obtain⟨v,σ6,H6,I6,r6,q6⟩:=z
  exact g8 (I6.unmark I.ok) hN hi hn λs7 I7=>⟨v,_,_,I7,r6,q6⟩
 | brk =>
  obtain⟨σ6,H6,I6,q6⟩:=z
  exact g8 (I6.unmark I.ok) hN hi hn λs7 I7=>⟨_,_,I7,q6⟩
 | cont =>
  obtain⟨σ6,H6,I6,q6⟩:=z
  exact g8 (I6.unmark I.ok) hN hi hn λs7 I7=>⟨_,_,I7,q6⟩
end
def Bd(n:Nat)(x:Int):Prop:=x.natAbs<2^n
variable{m:Nat}
theorem Bd.mono{n:Nat}{x:Int}(h:Bd m x)(k:m<=n):Bd n x:=L4 h (MU (by decide) k)
theorem Bd.bits{n:Nat}{x:Int}(h:Bd n x):PK x<=n:=by
 unfold PK
 split
 ·exact Nd _
 ·rename_i z
  have h0:x.natAbs≠0:=λq=>z (by simp[Int.natAbs_eq_zero.mp q])
  exact(RK h0).mpr h
variable{y:Int}
theorem Bd.Kr{n:Nat}{x:Int}(h:Bd m x)(k:Bd n y)(hs:m+n<=134217728):IntMulOk x y:=IntMulOk.of_le h.bits k.bits hs
theorem Bd.mul{n:Nat}{x:Int}(h:Bd m x)(k:Bd n y):Bd (m+n) (x*y):=by
 unfold Bd at *
 rw[Ra,Nat.pow_add]
 exact Nat.mul_lt_mul'' h k
theorem Bd.add{n:Nat}{x:Int}(h:Bd m x)(k:Bd n y):Bd (max m n+1) (x+y):=by
 have h1:=h.mono (QZ m n)
 have k1:=k.mono (QQ m n)
 unfold Bd at *
 have:=Int.natAbs_add_le x y
 rw[Nat.pow_succ]
 omega
theorem Bd.neg{n:Nat}{x:Int}(h:Bd n x):Bd n (-x):=by unfold Bd at *;rwa[Int.natAbs_neg]
theorem Bd.sub{n:Nat}{x:Int}(h:Bd m x)(k:Bd n y):Bd (max m n+1) (x-y):=by
 rw[QE];exact h.add k.neg
theorem Bd.log{n:Nat}{x:Int}(h:Bd n x)(hn:n<=9000):x.natAbs.log2<9000:=by
 by_cases z:x.natAbs=0
 ·rw[z];decide
 ·exact L4 ((RK z).mpr h) hn
section
variable{X:Cx}
def CDv(_ j:Int):Prop:=j≠0/\Bd 9000 j
theorem B1:OpR X (binaryOp .Mult) (rI IntMulOk λi j=>.int (i*j)):=opI λ_ _ _ _ _ _ _ hc q=>mul_int q hc
theorem vq:OpR X (binaryOp .FloorDiv) (rI CDv λi j=>.int (i.fdiv j)):=opI λ_ _ _ _ _ _ _ hc q=>floordiv_int hc.1 q (.inl (PyProof.noPylong_of_log2 (hc.2.log (Md _))))
end
inductive D where
 | non|bl (b:Bool)|int (i:Int)|str (x:Str)|tup (ds:List D)|lst (ds:List D)
mutual
noncomputable def D.eq:D->D->Bool
 | .non,.non=>true
 | .bl a,.bl b=>a==b
 | .bl a,.int b=>(if a then 1 else 0)==b
 | .int a,.bl b=>a==(if b then 1 else 0)
 | .int a,.int b=>a==b
 | .str a,.str b=>a==b
 | .tup xs,.tup ys=>D.eqs xs ys
 | .lst xs,.lst ys=>D.eqs xs ys
 | _,_=>false
noncomputable def D.eqs:List D->List D->Bool
 | [],[]=>true
 | x::xs,y::ys=>D.eq x y&&D.eqs xs ys
 | _,_=>false
end
mutual
noncomputable def D.depth:D->Nat
 | .tup xs=>D.cG xs+1
 | .lst xs=>D.cG xs+1
 | _=>0
noncomputable def D.cG:List D->Nat
 | []=>0
 | x::xs=>max (D.depth x) (D.cG xs)
end
mutual
theorem D.gZ:∀d:D,D.eq d d=true
 | .non=>rfl
 | .bl b=>by simp[D.eq]
 | .int i=>by simp[D.eq]
 | .str x=>by simp[D.eq]
 | .tup xs=>by rw[D.eq];exact D.kH xs
 | .lst xs=>by rw[D.eq];exact D.kH xs
theorem D.kH:∀ds:List D,D.eqs ds ds=true
 | []=>rfl
 | x::xs=>by rw[D.eqs,D.gZ x,D.kH xs];rfl
end
mutual
inductive Den (K:LU) (H:Hp):V->D->Prop
 | non:Den K H .non .non
 | bl (b:Bool):Den K H (.bl b) (.bl b)
 | int (i:Int):Den K H (.int i) (.int i)
 | str (x:Str):Den K H (.str x) (.str x)
 | tup {a:Addr} {xs:List V} {ds:List D} (e:SqT K H a xs) (r:fz K H xs ds):Den K H (.ref a) (.tup ds)
 | lst {a:Addr} {xs:List V} {ds:List D} (e:SqL K H a xs) (r:fz K H xs ds):Den K H (.ref a) (.lst ds)
inductive fz (K:LU) (H:Hp):List V->List D->Prop
 | nil:fz K H [] []
 | cons {x:V} {d:D} {xs:List V} {ds:List D} (h:Den K H x d) (r:fz K H xs ds):fz K H (x::xs) (d::ds)
end
theorem fz.len{K:LU}{H:Hp}:∀{xs:List V}{ds:List D},fz K H xs ds->xs.length=ds.length
 | _,_,.nil=>rfl
 | _,_,.cons _ r=>by rw[LX,LX,r.len]
theorem fz.at{K:LU}{H:Hp}:∀{xs:List V}{ds:List D}(j:Nat){x:V}{d:D},fz K H xs ds->xs[j]?=some x->ds[j]?=some d->Den K H x d
 | _,_,0,_,_,.cons h _,e1,e2=>by cases e1;cases e2;exact h
 | _,_,j+1,_,_,.cons _ r,e1,e2=>r.at j e1 e2
theorem D.lI:∀{ds:List D}(j:Nat){d:D},ds[j]?=some d->D.depth d<=D.cG ds
 | x::xs,0,_,e=>by cases e;exact QZ _ _
 | x::xs,j+1,_,e=>Mr (D.lI (ds:=xs) j e) (QQ _ _)
theorem D.fP:∀(xs ys:List D),D.eqs xs ys=((MD (min xs.length ys.length)).all (λj=>D.eq (xs.getD j .non) (ys.getD j .non))&&xs.length==ys.length)
 | [],[]=>rfl
 | [],_::_=>rfl
 | _::_,[]=>rfl
 | x::xs,y::ys=>by
  rw[D.eqs,D.fP xs ys,LX,LX,Nat.succ_min_succ,List.range_succ_eq_map,Mu,Qa]
  have e:(xs.length+1==ys.length+1)=(xs.length==ys.length):=by
   rw[OU];simp
  rw[e,Bool.and_assoc]
  rfl
variable{xs ys:List V}{d:D}{u:Value}
section
variable{X:Cx}{pins:List (Addr×Obj)}{σ:St}{H:Hp}{s:Shared}
theorem sv{a:Addr}(I:Inv X pins σ H s)(h1:SqT X.K H a xs)(h2:SqL X.K H a ys):False:=by
 obtain⟨_,_,⟨o,e,c,_⟩,_⟩:=I.tuple h1
 obtain⟨_,_,⟨o',n',e',c',_,d'⟩,_⟩:=I.list h2
 rw[e] at e';cases e'
 rw[c] at c'
 injection c' with q
 exact absurd q (by decide)
mutual
theorem Den.inj(I:Inv X pins σ H s):∀{v:V}{d e:D},Den X.K H v d->Den X.K H v e->d=e
 | _,_,_,.non,h=>by cases h;rfl
 | _,_,_,.bl b,h=>by cases h;rfl
 | _,_,_,.int i,h=>by cases h;rfl
 | _,_,_,.str x,h=>by cases h;rfl
 | _,_,_,.tup e r,h=>by
  cases h with
  | tup e' r'=>cases I.lA e e';rw[fz.inj I r r']
  | lst e' r'=>exact(sv I e e').elim
 | _,_,_,.lst e r,h=>by
  cases h with
  | lst e' r'=>cases I.nY e e';rw[fz.inj I r r']
  | tup e' r'=>exact(sv I e' e).elim
theorem fz.inj(I:Inv X pins σ H s):∀{v:List V}{d e:List D},fz X.K H v d->fz X.K H v e->d=e
 | _,_,_,.nil,h=>by cases h;rfl
 | _,_,_,.cons a r,h=>by
  cases h with
  | cons a' r'=>rw[Den.inj I a a',fz.inj I r r']
end
theorem lT(I:Inv X pins σ H s){A:Around}{x y:V}{e:D}{v:Value}(hu:A.units<cLine)(hf:gM x=true)(hd:Den X.K H x d)(he:Den X.K H y e)(ru:RelV x u)(rv:RelV y v):OK A s u v (D.eq d e):=by
 cases hd with
 | tup=>cases hf
 | lst=>cases hf
 | non  =>
  cases he with
  | tup q r=>cases ru;cases rv;rw[D.eq.eq_def];obtain⟨_,_,p,_⟩:=I.tuple q;exact .none_tuple p hu
  | lst q r=>cases ru;cases rv;rw[D.eq.eq_def];obtain⟨_,_,p,_⟩:=I.list q;exact .none_list p.isList hu
  | non  => exact bZ ru rv rfl rfl
  | bl b1=>exact bZ ru rv rfl rfl
  | int i1=>exact bZ ru rv rfl rfl
  | str x1=>exact bZ ru rv rfl rfl
 | bl b0 =>
  cases he with
  | tup q r=>cases ru;cases rv;rw[D.eq.eq_def];obtain⟨_,_,p,_⟩:=I.tuple q;exact .bool_tuple _ p hu
  | lst q r=>cases ru;cases rv;rw[D.eq.eq_def];obtain⟨_,_,p,_⟩:=I.list q;exact .bool_list _ p.isList hu
  | non  => exact bZ ru rv rfl rfl
  | bl b1=>exact bZ ru rv rfl rfl
  | int i1=>exact bZ ru rv rfl rfl
  | str x1=>exact bZ ru rv rfl rfl
 | int i0 =>
  cases he with
  | tup q r=>obtain⟨_,rfl⟩:=ru;cases rv;rw[D.eq.eq_def];obtain⟨_,_,p,_⟩:=I.tuple q;exact .int_tuple _ _ p hu
  | lst q r=>obtain⟨_,rfl⟩:=ru;cases rv;rw[D.eq.eq_def];obtain⟨_,_,p,_⟩:=I.list q;exact .int_list _ _ p.isList hu
  | non  => exact bZ ru rv rfl rfl
  | bl b1=>exact bZ ru rv rfl rfl
  | int i1=>exact bZ ru rv rfl rfl
  | str x1=>exact bZ ru rv rfl rfl
 | str x0 =>
  cases he with
  | tup q r=>obtain⟨_,rfl⟩:=ru;cases rv;rw[D.eq.eq_def];obtain⟨_,_,p,_⟩:=I.tuple q;exact .str_tuple _ _ p hu
  | lst q r=>obtain⟨_,rfl⟩:=ru;cases rv;rw[D.eq.eq_def];obtain⟨_,_,p,_⟩:=I.list q;exact .str_list _ _ p.isList hu
  | non  => exact bZ ru rv rfl rfl
  | bl b1=>exact bZ ru rv rfl rfl
  | int i1=>exact bZ ru rv rfl rfl
  | str x1=>exact bZ ru rv rfl rfl
theorem Vals.Ii(r:Vals xs us){j:Nat}(hj:j<us.toArray.size):∃x,xs[j]?=some x/\RelV x us.toArray[j]:=by
 have hl:=r.length
 have hj':j<us.length:=by simpa using hj
 have hx:j<xs.length:=by omega
 obtain⟨u,e,ru⟩:=r.get (Mo hx)
 rw[Mo hj'] at e
 cases e
 exact⟨xs[j],Mo hx,by simpa using ru⟩
theorem fz.getD{K:LU}{H:Hp}{xs:List V}{ds:List D}(r:fz K H xs ds){j:Nat}{x:V}(e:xs[j]?=some x):Den K H x (ds.getD j .non)/\D.depth (ds.getD j .non)<=D.cG ds:=by
 have hj:j<ds.length:=by rw[<- r.len];exact(Mb.mp e).1
 have e2:ds[j]?=some ds[j]:=Mo hj
 have e3:ds.getD j .non=ds[j]:=by rw[M4,e2];rfl
 rw[e3]
 exact⟨r.at j e e2,D.lI j e2⟩
theorem ju(I:Inv X pins σ H s){n:Nat}(ih:∀{A:Around}{x y:V}{d e:D}{u v:Value},A.units+n<cLine->D.depth d<=n->Den X.K H x d->Den X.K H y e->RelV x u->RelV y v->OK A s u v (D.eq d e))
  {A:Around}(hu:A.units+(n+1)<cLine){ds es:List D}(hn:D.cG ds<=n)(r:fz X.K H xs ds)(q:fz X.K H ys es)(ru:Vals xs us)(rv:Vals ys vs) :
  ∀j (h1:j<us.toArray.size) (h2:j<vs.toArray.size),OK A.in1 s us.toArray[j] vs.toArray[j] (D.eq (ds.getD j .non) (es.getD j .non)):=λj h1 h2=>by
 obtain⟨x,ex,rx⟩:=ru.Ii h1
 obtain⟨y,ey,ry⟩:=rv.Ii h2
 obtain⟨d1,d2⟩:=r.getD ex
 exact ih (by show A.units+1+n<cLine;omega) (Mr d2 hn) d1 (q.getD ey).1 rx ry
theorem i7(I:Inv X pins σ H s):∀(n:Nat){A:Around}{x y:V}{d e:D}{u v:Value},A.units+n<cLine->D.depth d<=n->Den X.K H x d->Den X.K H y e->RelV x u->RelV y v->OK A s u v (D.eq d e):=by
 intro n
 induction n with
 | zero =>
  intro A x y d e u v hu hn hd he ru rv
  cases id hd with
  | tup=>simp[D.depth] at hn
  | lst=>simp[D.depth] at hn
  | _=>exact lT I hu rfl hd he ru rv
 | succ n ih =>
  intro A x y d e u v hu hn hd he ru rv
  have hu0:A.units<cLine:=by omega
  cases id hd with
  | @tup a xs ds ea r =>
   cases ru
   obtain⟨us,rus,p,_⟩:=I.tuple ea
   cases id he with
   | @tup b ys es eb r2 =>
    cases rv
    obtain⟨vs,rvs,p2,_⟩:=I.tuple eb
    by_cases hab:a=b
    ·subst hab
     rw[hd.inj I he,D.gZ]
     exact .same _
    ·refine .of_refs hab ?_
     rw[D.eq.eq_def]
     simp only[]
     rw[D.fP]
     have l1:us.toArray.size=ds.length:=by rw[LZ,<- rus.length,r.len]
     have l2:vs.toArray.size=es.length:=by rw[LZ,<- rvs.length,r2.len]
     rw[<- l1,<- l2]
     exact .tuples p p2 hu0 (ju I ih hu (by rw[D.depth] at hn;omega) r r2 rus rvs)
   | @lst b ys es eb r2 =>
    cases rv
    obtain⟨vs,rvs,p2,_⟩:=I.list eb
    rw[D.eq.eq_def]
    exact .tuple_list p p2.isList hu0
   | non  => cases rv;rw[D.eq.eq_def];exact .tuple_none p hu0
   | bl b0=>cases rv;rw[D.eq.eq_def];exact .tuple_bool _ p hu0
   | int i0=>obtain⟨_,rfl⟩:=rv;rw[D.eq.eq_def];exact .tuple_int _ _ p hu0
   | str x0=>obtain⟨_,rfl⟩:=rv;rw[D.eq.eq_def];exact .tuple_str _ _ p hu0
  | @lst a xs ds ea r =>
   cases ru
   obtain⟨us,rus,p,_⟩:=I.list ea
   cases id he with
   | @lst b ys es eb r2 =>
    cases rv
    obtain⟨vs,rvs,p2,_⟩:=I.list eb
    by_cases hab:a=b
    ·subst hab
     rw[hd.inj I he,D.gZ]
     exact .same _
    ·refine .of_refs hab ?_
     rw[D.eq.eq_def]
     simp only[]
     rw[D.fP]
     have l1:us.toArray.size=ds.length:=by rw[LZ,<- rus.length,r.len]
     have l2:vs.toArray.size=es.length:=by rw[LZ,<- rvs.length,r2.len]
     rw[<- l1,<- l2]
     by_cases hl:us.toArray.size=vs.toArray.size
     ·have e1:(us.toArray.size==vs.toArray.size)=true:=beq_iff_eq.mpr hl
      rw[e1,Pa,<- hl,Qh]
      exact .lists p.isList p2.isList hl hu0 (ju I ih hu (by rw[D.depth] at hn;omega) r r2 rus rvs)
     ·have e1:(us.toArray.size==vs.toArray.size)=false:=beq_eq_false_iff_ne.mpr hl
      rw[e1,N5]
      exact .lists_lengths p.isList p2.isList (by simpa using hl) hu0
   | @tup b ys es eb r2 =>
    cases rv
    obtain⟨vs,rvs,p2,_⟩:=I.tuple eb
    rw[D.eq.eq_def]
    exact .list_tuple p.isList p2 hu0
   | non  => cases rv;rw[D.eq.eq_def];exact .list_none p.isList hu0
   | bl b0=>cases rv;rw[D.eq.eq_def];exact .list_bool _ p.isList hu0
   | int i0=>obtain⟨_,rfl⟩:=rv;rw[D.eq.eq_def];exact .list_int _ _ p.isList hu0
   | str x0=>obtain⟨_,rfl⟩:=rv;rw[D.eq.eq_def];exact .list_str _ _ p.isList hu0
  | _=>exact lT I hu0 rfl hd he ru rv
end
section
variable{X:Cx}{pins:List (Addr×Obj)}{σ:St}{H:Hp}{s:Shared}
theorem yO(I:Inv X pins σ H s){n:Nat}{A:Around}{x y:V}{e:D}{v:Value}(hu:A.units+n<cLine)(hn:D.depth d<=n)(hd:Den X.K H x d)(he:Den X.K H y e)(ru:RelV x u)(rv:RelV y v):SeqAt.RcAt A s u v (D.eq d e):=by
 have hu0:A.units<cLine:=by omega
 cases id hd with
 | non  =>
  cases ru
  cases id he with
  | non  => cases rv;rw[D.eq.eq_def];exact .none_none
  | bl y1=>cases rv;rw[D.eq.eq_def];exact .none_bool _
  | int y1=>obtain⟨_,rfl⟩:=rv;rw[D.eq.eq_def];exact .none_int _ _
  | str y1=>obtain⟨_,rfl⟩:=rv;rw[D.eq.eq_def];exact .none_str _ _
  | @tup b ys es eb r2=>cases rv;rw[D.eq.eq_def];obtain⟨_,_,p2,_⟩:=I.tuple eb;exact .none_tuple p2 hu0
  | @lst b ys es eb r2=>cases rv;rw[D.eq.eq_def];obtain⟨_,_,p2,_⟩:=I.list eb;exact .none_list p2.isList hu0
 | bl x1 =>
  cases ru
  cases id he with
  | non  => cases rv;rw[D.eq.eq_def];exact .bool_none _
  | bl y1=>cases rv;rw[D.eq.eq_def];exact .bool_bool _ _
  | int y1=>obtain⟨_,rfl⟩:=rv;rw[D.eq.eq_def];exact .bool_int _ _ _
  | str y1=>obtain⟨_,rfl⟩:=rv;rw[D.eq.eq_def];exact .bool_str _ _ _
  | @tup b ys es eb r2=>cases rv;rw[D.eq.eq_def];obtain⟨_,_,p2,_⟩:=I.tuple eb;exact .bool_tuple _ p2 hu0
  | @lst b ys es eb r2=>cases rv;rw[D.eq.eq_def];obtain⟨_,_,p2,_⟩:=I.list eb;exact .bool_list _ p2.isList hu0
 | int x1 =>
  obtain⟨_,rfl⟩:=ru
  cases id he with
  | non  => cases rv;rw[D.eq.eq_def];exact .int_none _ _
  | bl y1=>cases rv;rw[D.eq.eq_def];exact .int_bool _ _ _
  | int y1=>obtain⟨_,rfl⟩:=rv;rw[D.eq.eq_def];exact .int_int _ _ _ _
  | str y1=>obtain⟨_,rfl⟩:=rv;rw[D.eq.eq_def];exact .int_str _ _ _ _
  | @tup b ys es eb r2=>cases rv;rw[D.eq.eq_def];obtain⟨_,_,p2,_⟩:=I.tuple eb;exact .int_tuple _ _ p2 hu0
  | @lst b ys es eb r2=>cases rv;rw[D.eq.eq_def];obtain⟨_,_,p2,_⟩:=I.list eb;exact .int_list _ _ p2.isList hu0
 | str x1 =>
  obtain⟨_,rfl⟩:=ru
  cases id he with
  | non  => cases rv;rw[D.eq.eq_def];exact .str_none _ _
  | bl y1=>cases rv;rw[D.eq.eq_def];exact .str_bool _ _ _
  | int y1=>obtain⟨_,rfl⟩:=rv;rw[D.eq.eq_def];exact .str_int _ _ _ _
  | str y1=>obtain⟨_,rfl⟩:=rv;rw[D.eq.eq_def];exact .str_str _ _ _ _
  | @tup b ys es eb r2=>cases rv;rw[D.eq.eq_def];obtain⟨_,_,p2,_⟩:=I.tuple eb;exact .str_tuple _ _ p2 hu0
  | @lst b ys es eb r2=>cases rv;rw[D.eq.eq_def];obtain⟨_,_,p2,_⟩:=I.list eb;exact .str_list _ _ p2.isList hu0
 | @tup a xs ds ea r =>
  cases ru
  obtain⟨us,rus,p,_⟩:=I.tuple ea
  cases id he with
  | non  => cases rv;rw[D.eq.eq_def];exact .tuple_none p hu0
  | bl y1=>cases rv;rw[D.eq.eq_def];exact .tuple_bool _ p hu0
  | int y1=>obtain⟨_,rfl⟩:=rv;rw[D.eq.eq_def];exact .tuple_int _ _ p hu0
  | str y1=>obtain⟨_,rfl⟩:=rv;rw[D.eq.eq_def];exact .tuple_str _ _ p hu0
  | @tup b ys es eb r2 =>
   cases rv
   obtain⟨vs,rvs,p2,_⟩:=I.tuple eb
   rw[D.depth] at hn
   obtain⟨n,rfl⟩:∃m,n=m+1:=⟨n-1,by omega⟩
   rw[D.eq.eq_def]
   simp only[]
   rw[D.fP]
   have l1:us.toArray.size=ds.length:=by rw[LZ,<- rus.length,r.len]
   have l2:vs.toArray.size=es.length:=by rw[LZ,<- rvs.length,r2.len]
   rw[<- l1,<- l2]
   exact .tuples p p2 hu0 (ju I (i7 I n) hu (by omega) r r2 rus rvs)
  | @lst b ys es eb r2=>cases rv;rw[D.eq.eq_def];obtain⟨_,_,p2,_⟩:=I.list eb;exact .tuple_list p p2.isList hu0
 | @lst a xs ds ea r =>
  cases ru
  obtain⟨us,rus,p,_⟩:=I.list ea
  cases id he with
  | non  => cases rv;rw[D.eq.eq_def];exact .list_none p.isList hu0
  | bl y1=>cases rv;rw[D.eq.eq_def];exact .list_bool _ p.isList hu0
  | int y1=>obtain⟨_,rfl⟩:=rv;rw[D.eq.eq_def];exact .list_int _ _ p.isList hu0
  | str y1=>obtain⟨_,rfl⟩:=rv;rw[D.eq.eq_def];exact .list_str _ _ p.isList hu0
  | @tup b ys es eb r2=>cases rv;rw[D.eq.eq_def];obtain⟨_,_,p2,_⟩:=I.tuple eb;exact .list_tuple p.isList p2 hu0
  | @lst b ys es eb r2 =>
   cases rv
   obtain⟨vs,rvs,p2,_⟩:=I.list eb
   rw[D.depth] at hn
   obtain⟨n,rfl⟩:∃m,n=m+1:=⟨n-1,by omega⟩
   rw[D.eq.eq_def]
   simp only[]
   rw[D.fP]
   have l1:us.toArray.size=ds.length:=by rw[LZ,<- rus.length,r.len]
   have l2:vs.toArray.size=es.length:=by rw[LZ,<- rvs.length,r2.len]
   rw[<- l1,<- l2]
   by_cases hl:us.toArray.size=vs.toArray.size
   ·have e1:(us.toArray.size==vs.toArray.size)=true:=beq_iff_eq.mpr hl
    rw[e1,Pa,<- hl,Qh]
    exact .lists p.isList p2.isList hl hu0 (ju I (i7 I n) hu (by omega) r r2 rus rvs)
   ·have e1:(us.toArray.size==vs.toArray.size)=false:=beq_eq_false_iff_ne.mpr hl
    rw[e1,N5]
    exact .lists_lengths p.isList p2.isList (by simpa using hl) hu0
theorem qd(I:Inv X pins σ H s){n:Nat}{A:Around}{x y:V}{e:D}{v:Value}(hu:A.units+n<cLine)(hn:D.depth d<=n)(hd:Den X.K H x d)(he:Den X.K H y e)(ru:RelV x u)(rv:RelV y v):SeqAt.RcNeAt A s u v (!D.eq d e):=by
 have hu0:A.units<cLine:=by omega
 cases id hd with
 | non  =>
  cases ru
  cases id he with
  | non  => cases rv;rw[D.eq.eq_def];exact .none_none
  | bl y1=>cases rv;rw[D.eq.eq_def];exact .none_bool _
  | int y1=>obtain⟨_,rfl⟩:=rv;rw[D.eq.eq_def];exact .none_int _ _
  | str y1=>obtain⟨_,rfl⟩:=rv;rw[D.eq.eq_def];exact .none_str _ _
  | @tup b ys es eb r2=>cases rv;rw[D.eq.eq_def];obtain⟨_,_,p2,_⟩:=I.tuple eb;exact .none_tuple p2 hu0
  | @lst b ys es eb r2=>cases rv;rw[D.eq.eq_def];obtain⟨_,_,p2,_⟩:=I.list eb;exact .none_list p2.isList hu0
 | bl x1 =>
  cases ru
  cases id he with
  | non  => cases rv;rw[D.eq.eq_def];exact .bool_none _
  | bl y1=>cases rv;rw[D.eq.eq_def];exact .bool_bool _ _
  | int y1=>obtain⟨_,rfl⟩:=rv;rw[D.eq.eq_def];exact .bool_int _ _ _
  | str y1=>obtain⟨_,rfl⟩:=rv;rw[D.eq.eq_def];exact .bool_str _ _ _
  | @tup b ys es eb r2=>cases rv;rw[D.eq.eq_def];obtain⟨_,_,p2,_⟩:=I.tuple eb;exact .bool_tuple _ p2 hu0
  | @lst b ys es eb r2=>cases rv;rw[D.eq.eq_def];obtain⟨_,_,p2,_⟩:=I.list eb;exact .bool_list _ p2.isList hu0
 | int x1 =>
  obtain⟨_,rfl⟩:=ru
  cases id he with
  | non  => cases rv;rw[D.eq.eq_def];exact .int_none _ _
  | bl y1=>cases rv;rw[D.eq.eq_def];exact .int_bool _ _ _
  | int y1=>obtain⟨_,rfl⟩:=rv;rw[D.eq.eq_def];exact .int_int _ _ _ _
  | str y1=>obtain⟨_,rfl⟩:=rv;rw[D.eq.eq_def];exact .int_str _ _ _ _
  | @tup b ys es eb r2=>cases rv;rw[D.eq.eq_def];obtain⟨_,_,p2,_⟩:=I.tuple eb;exact .int_tuple _ _ p2 hu0
  | @lst b ys es eb r2=>cases rv;rw[D.eq.eq_def];obtain⟨_,_,p2,_⟩:=I.list eb;exact .int_list _ _ p2.isList hu0
 | str x1 =>
  obtain⟨_,rfl⟩:=ru
  cases id he with
  | non  => cases rv;rw[D.eq.eq_def];exact .str_none _ _
  | bl y1=>cases rv;rw[D.eq.eq_def];exact .str_bool _ _ _
  | int y1=>obtain⟨_,rfl⟩:=rv;rw[D.eq.eq_def];exact .str_int _ _ _ _
  | str y1=>obtain⟨_,rfl⟩:=rv;rw[D.eq.eq_def];exact .str_str _ _ _ _
  | @tup b ys es eb r2=>cases rv;rw[D.eq.eq_def];obtain⟨_,_,p2,_⟩:=I.tuple eb;exact .str_tuple _ _ p2 hu0
  | @lst b ys es eb r2=>cases rv;rw[D.eq.eq_def];obtain⟨_,_,p2,_⟩:=I.list eb;exact .str_list _ _ p2.isList hu0
 | @tup a xs ds ea r =>
  cases ru
  obtain⟨us,rus,p,_⟩:=I.tuple ea
  cases id he with
  | non  => cases rv;rw[D.eq.eq_def];exact .tuple_none p hu0
  | bl y1=>cases rv;rw[D.eq.eq_def];exact .tuple_bool _ p hu0
  | int y1=>obtain⟨_,rfl⟩:=rv;rw[D.eq.eq_def];exact .tuple_int _ _ p hu0
  | str y1=>obtain⟨_,rfl⟩:=rv;rw[D.eq.eq_def];exact .tuple_str _ _ p hu0
  | @tup b ys es eb r2 =>
   cases rv
   obtain⟨vs,rvs,p2,_⟩:=I.tuple eb
   rw[D.depth] at hn
   obtain⟨n,rfl⟩:∃m,n=m+1:=⟨n-1,by omega⟩
   rw[D.eq.eq_def]
   simp only[]
   rw[D.fP]
   have l1:us.toArray.size=ds.length:=by rw[LZ,<- rus.length,r.len]
   have l2:vs.toArray.size=es.length:=by rw[LZ,<- rvs.length,r2.len]
   rw[<- l1,<- l2]
   exact .tuples p p2 hu0 (ju I (i7 I n) hu (by omega) r r2 rus rvs)
  | @lst b ys es eb r2=>cases rv;rw[D.eq.eq_def];obtain⟨_,_,p2,_⟩:=I.list eb;exact .tuple_list p p2.isList hu0
 | @lst a xs ds ea r =>
  cases ru
  obtain⟨us,rus,p,_⟩:=I.list ea
  cases id he with
  | non  => cases rv;rw[D.eq.eq_def];exact .list_none p.isList hu0
  | bl y1=>cases rv;rw[D.eq.eq_def];exact .list_bool _ p.isList hu0
  | int y1=>obtain⟨_,rfl⟩:=rv;rw[D.eq.eq_def];exact .list_int _ _ p.isList hu0
  | str y1=>obtain⟨_,rfl⟩:=rv;rw[D.eq.eq_def];exact .list_str _ _ p.isList hu0
  | @tup b ys es eb r2=>cases rv;rw[D.eq.eq_def];obtain⟨_,_,p2,_⟩:=I.tuple eb;exact .list_tuple p.isList p2 hu0
  | @lst b ys es eb r2 =>
   cases rv
   obtain⟨vs,rvs,p2,_⟩:=I.list eb
   rw[D.depth] at hn
   obtain⟨n,rfl⟩:∃m,n=m+1:=⟨n-1,by omega⟩
   rw[D.eq.eq_def]
   simp only[]
   rw[D.fP]
   have l1:us.toArray.size=ds.length:=by rw[LZ,<- rus.length,r.len]
   have l2:vs.toArray.size=es.length:=by rw[LZ,<- rvs.length,r2.len]
   rw[<- l1,<- l2]
   by_cases hl:us.toArray.size=vs.toArray.size
   ·have e1:(us.toArray.size==vs.toArray.size)=true:=beq_iff_eq.mpr hl
    rw[e1,Pa,<- hl,Qh]
    exact .lists p.isList p2.isList hl hu0 (ju I (i7 I n) hu (by omega) r r2 rus rvs)
   ·have e1:(us.toArray.size==vs.toArray.size)=false:=beq_eq_false_iff_ne.mpr hl
    rw[e1,N5]
    exact .lists_lengths p.isList p2.isList (by simpa using hl) hu0
noncomputable def HZ(K:LU):R2:=λx y H Q=>∃d e,Den K H x d/\Den K H y e/\D.depth d<=40/\Q (.bl (D.eq d e)) H
noncomputable def Jk(K:LU):R2:=λx y H Q=>∃d e,Den K H x d/\Den K H y e/\D.depth d<=40/\Q (.bl (!D.eq d e)) H
theorem vn(hu:X.A.units+64<cLine):OpR X (compareOp .Eq) (HZ X.K):=by
 intro pins s σ H x y v u Q I rx ry h
 obtain⟨d,e,hd,he,dp,q⟩:=h
 exact yO I (n:=64) hu (by omega) hd he rx ry _ _ _ _ ⟨.bl _,H,I,rfl,q⟩
theorem yH(hu:X.A.units+64<cLine):OpR X (compareOp .NotEq) (Jk X.K):=by
 intro pins s σ H x y v u Q I rx ry h
 obtain⟨d,e,hd,he,dp,q⟩:=h
 exact qd I (n:=64) hu (by omega) hd he rx ry _ _ _ _ ⟨.bl _,H,I,rfl,q⟩
inductive TyX (K:LU) (H:Hp):V->Value->Prop where
 | of {v:V} {t:Value} (h:jM K H v t):TyX K H v t
 | tup {a:Addr} {xs:List V} (e:SqT K H a xs):TyX K H (.ref a) (.type "tuple")
 | lst {a:Addr} {xs:List V} (e:SqL K H a xs):TyX K H (.ref a) (.type "list")
 | exc {a C:Addr} (e:H a=some (n8 a C)) (c:fW K C):TyX K H (.ref a) (.ref C)
 | dic {a:Addr} {kvs:List (Key×V)} (e:Rd H a (.dK kvs)):TyX K H (.ref a) (.type "dict")
noncomputable def gi:V->Value
 | .ref a=>.ref a
 | .ty n=>.type n
 | _=>.none
noncomputable def dI:V->Bool
 | .ref _=>true
 | .ty _=>true
 | _=>false
theorem qW{x:V}(h:dI x=true)(r:RelV x u):u=gi x:=by
 cases x<;>first|exact r|cases h
theorem pq:∀{xs:List V}{us:List Value},xs.all dI=true->Vals xs us->us=xs.map gi
 | _,_,_,.nil=>rfl
 | _,_,h,.cons r t=>by
  rw[Mu,LV] at h
  rw[L5,qW h.1 r,pq h.2 t]
theorem j6{pins:List (Addr×Obj)}{x:V}{t:Value}(I:Inv X pins σ H s)(rx:RelV x u)(ty:TyX X.K H x t):∃P,PySem.W.KitX X.K u t P/\P s.heap/\u≠.builtin "__main__.__loader__#opaque" := by
 cases ty with
 | tup e =>
  cases rx
  obtain⟨_,_,⟨o,h1,h2,_⟩,_⟩:=I.tuple e
  exact⟨_,Qi,⟨o,h1,h2⟩,λz=>nomatch z⟩
 | lst e =>
  cases rx
  obtain⟨_,_,⟨o,_,h1,h2,_⟩,_⟩:=I.list e
  exact⟨_,Pb,⟨o,h1,h2⟩,λz=>nomatch z⟩
 | dic e =>
  cases rx
  obtain⟨_,_,vs,_,o,es,ep,h1,h2,_⟩:=iN I.hok e
  exact⟨_,Pc,⟨o,h1,h2.1⟩,λz=>nomatch z⟩
 | exc e c =>
  cases rx
  obtain⟨p,_⟩:=(show bb X.prog X.w H s.heap _ (n8 _ _) from I.hok _ _ e)
  exact⟨_,xg c,p,λz=>nomatch z⟩
 | of h =>
  cases h with
  | non=>cases rx;exact⟨_,PySem.W.kitx_none,trivial,λz=>nomatch z⟩
  | bl y=>cases rx;exact⟨_,PySem.W.kitx_bool,trivial,λz=>nomatch z⟩
  | int i=>obtain⟨_,rfl⟩:=rx;exact⟨_,PySem.W.kitx_int,trivial,λz=>nomatch z⟩
  | str i=>obtain⟨_,rfl⟩:=rx;exact⟨_,PySem.W.kitx_str,trivial,λz=>nomatch z⟩
  | flt i=>obtain⟨_,rfl⟩:=rx;exact⟨_,PySem.W.kitx_float,trivial,λz=>nomatch z⟩
  | @lst a xs ea =>
   cases rx
   obtain⟨_,_,n,_,h1⟩:=(show bb X.prog X.w H s.heap a (.lst xs) from I.hok a _ ea)
   exact⟨_,Pb,⟨_,h1,rfl⟩,λz=>nomatch z⟩
  | @frz a ob xs ea =>
   cases rx
   obtain⟨_,_,_,n,_,h1⟩:=(show bb X.prog X.w H s.heap a (.frz ob (.lst xs)) from I.hok a _ ea)
   exact⟨_,Pb,⟨_,h1,rfl⟩,λz=>nomatch z⟩
  | @tup a xs ea =>
   cases rx
   obtain⟨_,_,_,o,h1,h2,_⟩:=(show bb X.prog X.w H s.heap a (.tup xs) from I.hok a _ ea)
   exact⟨_,Qi,⟨o,h1,h2⟩,λz=>nomatch z⟩
  | @dK a kvs ea =>
   cases rx
   obtain⟨_,_,vs,_,o,es,ep,h1,h2,_⟩:=(show bb X.prog X.w H s.heap a (.dK kvs) from I.hok a _ ea)
   exact⟨_,Pc,⟨o,h1,h2.1⟩,λz=>nomatch z⟩
  | @dT a kvs ea =>
   cases rx
   obtain⟨_,_,xs,_,o,es,ep,h1,h2,_⟩:=(show bb X.prog X.w H s.heap a (.dT kvs) from I.hok a _ ea)
   exact⟨_,Pc,⟨o,h1,h2.1⟩,λz=>nomatch z⟩
  | @ins a C dx fs ea cl ha hn htk hm =>
   cases rx
   obtain⟨mA,O,_⟩:=jR I.hok ea
   obtain⟨od,J,_⟩:=O.look
   exact⟨_,PySem.W.kitx_own (cl.get _) cl.hd ha hn htk hm,J,λz=>nomatch z⟩
theorem oj:eA X (.builtin "isinstance") (λxs H Q=>∃x c t b,xs=[x,c]/\TyX X.K H x t/\dI c=true/\MG X.K t (gi c)=some b/\Q (.bl b) H):=by
 intro pins s σ H xs us Q I r h
 obtain⟨x,c,t,b,rfl,ty,hc,hk,q⟩:=h
 obtain⟨u,w',rfl,ru,rw'⟩:=vals2 r
 rw[qW hc rw']
 obtain⟨P,Z,p,nb⟩:=j6 I ru ty
 exact PySem.W.kia_one Z I.kIn p hk nb λtk=>⟨.bl b,H,I.tok tk,rfl,q⟩
theorem uI:eA X (.builtin "isinstance") (λxs H Q=>∃x a cs t b,xs=[x,.ref a]/\H a=some (.tup cs)/\cs.all dI=true/\TyX X.K H x t/\Nq X.K t (cs.map gi)=some b/\Q (.bl b) H):=by
 intro pins s σ H xs us Q I r h
 obtain⟨x,a,cs,t,b,rfl,ha,hc,ty,hk,q⟩:=h
 obtain⟨u,w',rfl,ru,rw'⟩:=vals2 r
 cases rw'
 obtain⟨P,Z,p,nb⟩:=j6 I ru ty
 obtain⟨_,its,rv,o,e,c,n,dd,_⟩:=(show bb X.prog X.w H s.heap a (.tup cs) from I.hok a _ ha)
 obtain⟨oc,od,odt,osl⟩:=o
 simp only at c dd
 subst c dd
 rw[pq hc rv] at e
 exact PySem.W.kia_tup Z I.kIn p e hk nb λtk=>⟨.bl b,H,I.tok tk,rfl,q⟩
end
theorem E4:bootBuiltins "len" = some (.builtin "len"):=by decide +kernel
theorem fo:bootBuiltins "isinstance" = some (.builtin "isinstance"):=by decide +kernel
theorem Gw:bootBuiltins "abs" = some (.builtin "abs"):=by decide +kernel
theorem F6:bootBuiltins "max" = some (.builtin "max"):=by decide +kernel
theorem Ee:bootBuiltins "min" = some (.builtin "min"):=by decide +kernel
theorem wu:bootBuiltins "all" = some (.builtin "all"):=by decide +kernel
theorem vS:bootBuiltins "int" = some (.type "int"):=by decide +kernel
theorem Ba:bootBuiltins "bool" = some (.type "bool"):=by decide +kernel
theorem Fw:bootBuiltins "str" = some (.type "str"):=by decide +kernel
theorem ou:bootBuiltins "tuple" = some (.type "tuple"):=by decide +kernel
theorem sJ:bootBuiltins "list" = some (.type "list"):=by decide +kernel
theorem BC:bootBuiltins "dict" = some (.type "dict"):=by decide +kernel
theorem m5:Passes (CXE P w) X E0:=λ_ _ _ _ _ _ _ ⟨_,_,_,_,_,z⟩=>z.elim
structure j1 (K:LU) (x qual:Str) (st:Stmt) (f:Addr) (fd:FuncData) (dV:Value):Prop where
 ex:∃(oc:Value) (od:Option Addr) (kV doc pm:Value) (an:Option Addr) (cdv ct:Value) (osl:Array (Option Value)),
  fd=Nv x qual (cU st) (bB st) (aE st) dV kV doc pm an cdv ct/\K.lookup f=some ⟨oc,od,.func fd,osl⟩/\Of K cdv qual=true
 kp:ML K (.ref f)=true
section
variable{P:Program}{w:World}{K:LU}{mg:Str->Option Value}{base:Heap}{dV:Value}
theorem j1.ok{qual:Str}{st:Stmt}{fd:FuncData}{ps:List Str}{k:Nat}{sp:Sp}(F:j1 K x qual st f fd dV)(S:eG N ps (aE st))(len:∀vs H Q E,sp vs H Q E->vs.length=ps.length)
  (hbody:∀(cdv:Value)(A:Around)(outer:List Env)(s:Shared)(H:Hp)(vs:List V)(Q:VK)(E:XK),bz k (A.deeper (envOfC qual (aE st) s.heap.objs.size f cdv))->sp vs H Q E ->
   ∃t,PSs (kS (CXE P w) P w K mg base N qual (aE st) f cdv A outer s H E) (bB st) t/\t { nx:=λ_ H'=>Q .non H',rt:=Q } (start N vs) H):bW P w K mg base (CXE P w) (k+1) f fd ps sp:=by
 obtain⟨oc,od,kV,doc,pm,an,cdv,ct,osl,rfl,lk,hcd⟩:=F.ex
 exact IG lk hcd S len λA outer s H vs Q E hr hsp=>hbody cdv A outer s H vs Q E hr hsp
end
@[irreducible] def QS (X:Cx) (s:Stmt) (t:TS):Prop:=PS X s t
@[irreducible] def QT (X:Cx) (s:Expr) (t:TT):Prop:=PT X s t
@[irreducible] def QA (X:Cx) (s:List Expr) (t:TA):Prop:=PA X s t
set_option autoImplicit true
set_option relaxedAutoImplicit true
variable{elt:Expr}
section
variable{prog:Program}{w:World}{A:Around}{R:Result->Shared->Prop}{s:Shared}
theorem mr{target iter:Expr}{ifs:List Expr}{it acc:Value}(I:Nat->Shared->Prop)
  (turn:∀n s,I n s->wpAny (model prog w) A (pyNext it) (λr s₁=>match r with
   | none=>R (.ok .next) s₁
   | some v=>wpAny (model prog w) A (letOwnedTupleGo target it v) (λ_ s₁'=>wpAny (model prog w) A (assign target env v) (λ_ s₂ =>
     wpAny (model prog w) A (forIn ifs true λc r=>if r=true then do let ok <- isTrue c env (eval c env);pure (Nj ok) else pure (Nj r)) (λok s₃ =>
      if ok=true then wpAny (model prog w) A (eval elt env) (λx s₄ =>
       wpAny (model prog w) A (call (.builtin "list.append") [acc,x]) (λ_ s₅=>∃m,m<n/\I m s₅) (λ_ _=>False) s₄) (λ_ _=>False) s₃
      else ∃m,m<n/\I m s₃) (λ_ _=>False) s₂) (λ_ _=>False) s₁') (λ_ _=>False) s₁) (λ_ _=>False) s)
  (n:Nat) (h:I n s):codeAny (model prog w) A (.compLoop (.ListComp elt [⟨target,iter,ifs,0⟩] scope pos) 0 it acc env) R s:=by
 refine codeAny_loop rfl I (λn s hI=>?_) n h
 show wpAny _ A ((compTurn (.ListComp elt [⟨target,iter,ifs,0⟩] scope pos) 0 it acc env).onRaise (λx=>do noteFrame x env;theTreesLotGoes x)) _ _ s
 refine wpAny_noted ?_
 rw[compTurn_list]
 refine wpAny_bind (wpAny_standAt (wpAny_bind (wpAny_mono (turn n s hI) (λr s₁ h₁=>?_) λ_ _ h'=>h'.elim)))
 cases r with
 | none=>exact wpAny_pure h₁
 | some v =>
  refine wpAny_bind (wpAny_mono h₁ (λ_ s₁' h₁'=>?_) λ_ _ h'=>h'.elim)
  refine wpAny_bind (wpAny_mono h₁' (λ_ s₂ h₂=>wpAny_bind (wpAny_mono h₂ (λok s₃ h₃=>?_) λ_ _ h'=>h'.elim)) λ_ _ h'=>h'.elim)
  cases ok with
  | false=>exact wpAny_pure ⟨rfl,h₃⟩
  | true =>
   exact wpAny_bind (wpAny_bind (wpAny_mono h₃ (λx s₄ h₄=>wpAny_bind (wpAny_mono h₄ (λ_ s₅ h₅=>wpAny_pure (wpAny_pure ⟨rfl,h₅⟩)) λ_ _ h'=>h'.elim)) λ_ _ h'=>h'.elim))
end
theorem jW{env:Env}{f:Str×NameKind->List (Str×Addr)->Sem (ForInStep (List (Str×Addr)))}
  (hf:∀x cs,f x cs=if (x.2==Ny)=true then (do let c <- cellOf env x.1;pure (Nj ((x.1,c)::cs))) else pure (Nj cs)) :
  ∀(l:List (Str×NameKind))(cs:List (Str×Addr)),(∀x∈l,x.2=.free->∃c,env.cells.lookup x.1=some c) ->
   ∃cl,forIn l cs f=(pure cl:Sem _)/\(∀x c,cl.lookup x=some c->cs.lookup x=some c\/env.cells.lookup x=some c) /\
    (∀x,(∃c,cs.lookup x=some c)\/(x,Ny)∈l->∃c,cl.lookup x=some c)
 | [],cs,_=>⟨cs,rfl,λ_ _ h=>.inl h,λx h=>h.elim id (λz=>by cases z)⟩
 | (n,k)::l,cs,h=>by
  rw[List.forIn_cons,hf]
  by_cases hk:k=.free
  ·subst hk
   obtain⟨c,hc⟩:=h (n,.free) L8 rfl
   obtain⟨cl,e,h1,h2⟩:=jW hf l ((n,c)::cs) λx hx=>h x (L6 _ hx)
   refine⟨cl,?_,λx c' q=>?_,λx q=>h2 x ?_⟩
   ·have e1:cellOf env n=pure c:=by unfold cellOf;rw[hc]
    simp only[beq_self_eq_true,if_true,e1,pure_bind]
    exact e
   ·rcases h1 x c' q with z|z
    ·rw[MC] at z
     by_cases hx:(x==n)=true
     ·rw[hx] at z
      have:x=n:=eq_of_beq hx
      subst this
      exact .inr (by rw[hc];exact z)
     ·rw[OA.mpr hx] at z
      exact .inl z
    ·exact .inr z
   ·rcases q with ⟨c',z⟩|z
    ·left
     rw[MC]
     cases x==n with
     | true=>exact⟨c,rfl⟩
     | false=>exact⟨c',z⟩
    ·rcases Ml.mp z with z|z
     ·left
      cases z
      rw[MC,beq_self_eq_true]
      exact⟨c,rfl⟩
     ·exact .inr z
  ·obtain⟨cl,e,h1,h2⟩:=jW hf l cs λx hx=>h x (L6 _ hx)
   refine⟨cl,?_,h1,λx q=>h2 x ?_⟩
   ·have e1:((n,k).2==Ny)=false:=by
     cases k<;>first|rfl|exact absurd rfl hk
    rw[e1]
    simp only[Qv,if_false,pure_bind]
    exact e
   ·rcases q with z|z
    ·exact .inl z
    ·rcases Ml.mp z with z|z
     ·cases z;exact absurd rfl hk
     ·exact .inr z
theorem qT(h:∀x∈scope.names,x.2=.free->∃c,env.cells.lookup x.1=some c) :
  ∃cl,closureFor scope env=pure cl/\(∀x c,cl.lookup x=some c->env.cells.lookup x=some c)/\(∀x,(x,Ny)∈scope.names->∃c,cl.lookup x=some c):=by
 obtain⟨cl,e,h1,h2⟩:=jW (env:=env) (λ_ _=>rfl) scope.names [] h
 refine⟨cl,?_,λx c q=>(h1 x c q).elim (λz=>by cases z) id,λx q=>h2 x (.inr q)⟩
 unfold closureFor
 exact(congrArg (λz:Sem (List (Str×Addr))=>z >>= λr=>pure r) e).trans (by rw[pure_bind])
section
variable{env:Env}
noncomputable def pz(env:Env):Str×NameKind->Str×NameKind:=λ(n,k)=>if (k==.free&&env.scope.kind==.function&&env.kindOf n==some .cell) then (n,.cell) else (n,k)
theorem oV(p:Str×NameKind):(pz env p).1=p.1:=by
 obtain⟨n,k⟩:=p
 show (if _ then _ else _:Str×NameKind).1=n
 split<;>rfl
theorem oM(p:Str×NameKind):(pz env p).2=p.2\/(p.2=.free/\(pz env p).2=.cell):=by
 obtain⟨n,k⟩:=p
 show (if _ then _ else _:Str×NameKind).2=k\/_
 split
 ·rename_i h
  right
  rw[LV,LV] at h
  refine⟨eq_of_beq h.1.1,?_⟩
  show (if _ then _ else _:Str×NameKind).2=_
  rw[if_pos (by rw[LV,LV];exact h)]
 ·left;rfl
theorem eN:∀{names:List (Str×NameKind)}{x:Str}{k:NameKind},names.lookup x=some k->(names.map (pz env)).lookup x=some k\/(k=.free/\(names.map (pz env)).lookup x=some .cell)
 | [],_,_,h=>by cases h
 | p::r,x,k,h=>by
  rw[L5]
  obtain⟨n,k0⟩:=p
  have e1:=oV (env:=env) (n,k0)
  have e2:=oM (env:=env) (n,k0)
  generalize pz env (n,k0)=q at e1 e2 ⊢
  obtain⟨n',k'⟩:=q
  have e1:n'=n:=e1
  subst e1
  rw[MC] at h ⊢
  cases hx:x==n' with
  | true =>
   rw[hx] at h
   cases h
   rcases e2 with e2|⟨e2,e3⟩
   ·left;exact congrArg some e2
   ·right;exact⟨e2,congrArg some e3⟩
  | false =>
   rw[hx] at h
   exact eN h
theorem bY:∀{names:List (Str×NameKind)}{x:Str}{k:NameKind},(names.map (pz env)).lookup x=some k->names.lookup x=some k\/(k=.cell/\names.lookup x=some .free)
 | [],_,_,h=>by cases h
 | p::r,x,k,h=>by
  rw[L5] at h
  obtain⟨n,k0⟩:=p
  have e1:=oV (env:=env) (n,k0)
  have e2:=oM (env:=env) (n,k0)
  generalize pz env (n,k0)=q at e1 e2 h
  obtain⟨n',k'⟩:=q
  have e1:n'=n:=e1
  subst e1
  rw[MC] at h ⊢
  cases hx:x==n' with
  | true =>
   rw[hx] at h
   cases h
   rcases e2 with e2|⟨e2,e3⟩
   ·left;exact congrArg some e2.symm
   ·right;exact⟨e3,congrArg some e2⟩
  | false =>
   rw[hx] at h
   exact bY h
theorem gX{sc:Scope}(h:sc.names.lookup x=some .local):(relabel sc env).names.lookup x=some .local:=by
 rcases eN (env:=env) h with z|⟨z,_⟩
 ·exact z
 ·cases z
theorem vv{sc:Scope}(h:sc.names.lookup x=some .globalImplicit):(relabel sc env).names.lookup x=some .globalImplicit:=by
 rcases eN (env:=env) h with z|⟨z,_⟩
 ·exact z
 ·cases z
theorem pf{sc:Scope}(h:sc.names.lookup x=some .free):Vis (relabel sc env) x:=by
 rcases eN (env:=env) h with z|⟨_,z⟩
 ·exact .inr (.inr z)
 ·exact .inr (.inl z)
end
structure c9 (N0 N:List Str) (k:Nat) (sc de:Scope):Prop where
 kind:sc.kind=.function
 cell:∀y∈sc.names,y.2≠.cell
 names:∀y∈sc.names,y.2=.local->sc.names.lookup y.1=some .local
 len:N.length=N0.length+k
 nd:N.Nodup
 old:∀p∈(N.take N0.length).zip N0,p.1=p.2\/sc.names.lookup p.1=none
 nl:∀n∈N.take N0.length,sc.names.lookup n≠some .local
 fr:∀y∈sc.names,y.2=.free->de.names.lookup y.1=some .cell\/de.names.lookup y.1=some .free
noncomputable def cxC(X:Cx)(N:List Str)(sc:Scope)(cl:List (Str×Addr))(C:Addr)(s:Shared)(H:Hp)(ex:List Addr):Cx where
 prog:=X.prog
 w:=X.w
 K:=X.K
 mg:=X.mg
 base:=X.base
 A:=X.A
 N:=N
 s₀:=s
 H₀:=H
 env:=compEnvC sc cl C X.env
 outer:=X.stack
 stack:=X.stack
 ex:=ex
 fn:=λ_=>false
 calm:=X.calm
 pn:=[]
 xe:=λ_ _=>False
theorem mem_of_lookupK{names:List (Str×NameKind)}{k:NameKind}(h:names.lookup x=some k):(x,k)∈names:=Nt h
variable{σ':St}
section
variable{X:Cx}{pins:List (Addr×Obj)}{σ:St}{H:Hp}{s:Shared}{N:List Str}{k:Nat}{sc:Scope}{cl:List (Str×Addr)}{C:Addr}{fp:List Addr}{h1:Heap}{tk:Nat}
theorem og(I:Inv X pins σ H s)(S:c9 X.N N k sc X.env.scope)(hcl1:∀x c,cl.lookup x=some c->X.env.cells.lookup x=some c)
  (hcl2:∀x,(x,Ny)∈sc.names->∃c,cl.lookup x=some c)(hC:s.heap.objs.size<=C)(hf:∀b∈fp,il X pins H b)(hfp:∀b∈fp,b<s.heap.objs.size)
  (hk:∀b o,s.heap.get? b=some o->h1.get? b=some o)(hn:∃m,h1.Ns C m) :
  Inv (cxC X N sc cl C s H fp) (X.pn++pins) (σ++Mn k none) H { s with heap:=h1,toks:=tk }:=by
 have oldlt:∀b o,s.heap.get? b=some o->b≠C:=λb o e=>My (L4 (Mf e) hC)
 have kind:∀x,((cxC X N sc cl C s H fp).env.kindOf x=some .cell\/(cxC X N sc cl C s H fp).env.kindOf x=some .free)->sc.names.lookup x=some .free:=λx hx=>by
  rcases hx with hx|hx
  ·rcases bY (env:=X.env) hx with z|⟨_,z⟩
   ·exact absurd rfl (S.cell _ (mem_of_lookupK z))
   ·exact z
  ·rcases bY (env:=X.env) hx with z|⟨z,_⟩
   ·exact z
   ·cases z
 refine⟨⟨I.ok.mod,S.kind,I.ok.glob,I.ok.blt,hC,λx y c h1 h2=>I.ok.inj x y c (hcl1 _ _ h1) (hcl1 _ _ h2),λx hx=>hcl2 x (mem_of_lookupK (kind x hx)),λx c z _=>absurd (show false=true from z) Mt,
  I.ok.hd,I.ok.frames,.inl rfl,λb hb=>⟨My (L4 (hfp b hb) hC),λx c e=>(hf b hb).2.2.2.2.1 x c (hcl1 _ _ e)⟩,I.bs,Mr I.ok.bsz I.sz,λb o e hb=>?_,λb hb hb2=>?_,I.stack,I.mF⟩,
  rfl,I.bare,Un.kept hk,?_,λx c e=>?_,I.hok.fresh hC,λx c e=>I.freeC x c (hcl1 _ _ e),λp hp=>?_,I.hok.kept hk,?_⟩
 ·rcases(hf b hb).2.2.2.1 with z|z
  ·exact I.ok.noex b o e z
  ·exact absurd (L4 (Mf e) (Mr I.ok.bsz z)) (MM _)
 ·rcases Ml.mp (I.iu b hb2) with z|z
  ·exact(hf b hb).2.1 z
  ·exact(hf b hb).2.2.1 z
 ·obtain⟨m,hn⟩:=hn
  refine⟨m,hn,λi x v e1 e2 e3=>?_⟩
  have hi:i<σ.length:=by
   by_cases hi:i<σ.length
   ·exact hi
   ·rw[MS (by omega),P2] at e2
    split at e2<;>cases e2
  rw[Na hi] at e2
  have hi0:i<X.N.length:=by rw[<- I.len];exact hi
  have hiN:(N.take X.N.length)[i]?=some x:=by rw[PZ hi0];exact e1
  have nloc:=S.nl x (MT hiN)
  have hfree:sc.names.lookup x=some .free:=by
   rcases e3 with z|z|z
   ·rcases bY (env:=X.env) z with z|⟨z,_⟩
    ·exact absurd z nloc
    ·cases z
   ·exact kind x (.inl z)
   ·exact kind x (.inr z)
  have hX:X.N[i]?=some x:=by
   have hz:((N.take X.N.length).zip X.N)[i]?=some (x,X.N[i]):=by
    rw[List.getElem?_zip_eq_some]
    exact⟨hiN,Mo hi0⟩
   rcases S.old _ (MT hz) with z|z
   ·have z:x=X.N[i]:=z
    rw[Mo hi0,<- z]
   ·have z:sc.names.lookup x=none:=z
    rw[hfree] at z;cases z
  obtain⟨m0,hn0,hl0⟩:=I.loc
  have vis:Vis X.env.scope x:=by
   rcases S.fr _ (mem_of_lookupK hfree) rfl with z|z
   ·exact .inr (.inl z)
   ·exact .inr (.inr z)
  obtain⟨u,r,l⟩:=hl0 i x v hX e2 vis
  refine⟨u,r,.inr ⟨?_,?_⟩⟩
  ·rcases pf (env:=X.env) hfree with z|z|z
   ·rcases bY (env:=X.env) z with z|⟨z,_⟩
    ·rw[hfree] at z;cases z
    ·cases z
   ·exact .inl z
   ·exact .inr z
  ·rcases l with ⟨z,_⟩|⟨_,c,ec,ic⟩
   ·have z:X.env.scope.names.lookup x=some .local:=z
    rcases S.fr _ (mem_of_lookupK hfree) rfl with z2|z2
    ·have z2:X.env.scope.names.lookup x=some .cell:=z2
     rw[z] at z2;cases z2
    ·have z2:X.env.scope.names.lookup x=some .free:=z2
     rw [z] at z2; cases z2
   ·obtain ⟨c',ec'⟩:=hcl2 x (mem_of_lookupK hfree)
    have:=hcl1 _ _ ec'
    rw [ec] at this
    cases this
    obtain⟨o,ho,hd⟩:=ic
    exact⟨c,ec',o,hk _ _ ho,hd⟩
 ·obtain⟨v,o,ho,hd⟩:=I.cell x c (hcl1 _ _ e)
  exact⟨v,o,hk _ _ ho,hd⟩
 ·have hp:p∈X.pn++pins:=hp
  obtain⟨e,n,ne,nf,d⟩:=I.pin p hp
  refine⟨hk _ _ e,n,oldlt _ _ e,λhb=>?_,d⟩
  rcases Ml.mp (I.iu _ hb) with z|z
  ·exact ne z
  ·exact nf z
 ·show (σ++Mn k none).length=N.length
  rw[Ma,Qe,I.len,S.len]
theorem ow{D:Addr}{its:List Value}(I:Inv X pins σ H s)(I':Inv (cxC X N sc cl C s H fp) (X.pn++pins) σ' H' s')(hD:s.heap.objs.size<=D)(hDn:H' D=none)
  (pl:s'.heap.PlainList D its.toArray)(rv:Vals ys its)(hl:ys.length<=sizeLine)(hf:∀b∈fp,il X pins H b):Inv X pins σ (upd H' D (.lst ys)) s':=by
 obtain⟨n,hpl⟩:=pl
 have u:=I'.base
 have ne:∀b o,s.heap.get? b=some o->b≠D:=λb o e=>My (L4 (Mf e) hD)
 have nH:∀b o,H' b=some o->b≠D:=λb o e=>aT e hDn
 refine I.y4 I'.os ⟨u.keep,u.slot,λb o e n nx=>?_,u.there,λb xs e=>?_,λb o v e=>?_,λb ps e=>?_⟩ (λb o e=>?_) I'.bare (ch:=fp) λb hb=>?_
 ·rw[aC (ne b o e)];exact u.free b o e n nx
 ·have:=u.tups b xs e
  rw[aC (nH _ _ this)];exact this
 ·have:=u.frzs b o v e
  rw[aC (nH _ _ this)];exact this
 ·obtain⟨more,this⟩:=u.tbls b ps e
  exact⟨more,by rw[aC (nH _ _ this)];exact this⟩
 ·by_cases hb:b=D
  ·subst hb
   rw[bw] at e
   cases e
   exact⟨hl,its,n,rv,hpl⟩
  ·rw[aC hb] at e
   exact(I'.hok b o e).jn (λ_ _ _ q=>q) (λc q=>by rw[aC (nH _ _ q)];exact q) λc xs q=>by rw[aC (nH _ _ q)];exact q
 ·obtain⟨f0,f1,f2,f3,f4,f5⟩:=hf b hb
  exact⟨f3,f1,f4,f5⟩
end
theorem Inv.iA(I:Inv X pins σ H s){a:Addr}(h:s.heap.objs.size<=a):a∉frs X.stack:=λhb=>by
 rcases Ml.mp (I.iu a hb) with z|z
 ·exact absurd (L4 I.lt (by rw[<- z];exact h)) (MM _)
 ·exact I.HG h z
def PF(X:Cx)(ifs:List Expr)(t:TT):Prop:=∀(pins:List (Addr×Obj))(s:Shared)(σ:St)(H:Hp)(Q:Bool->Hp->Prop),Inv X pins σ H s->t σ H Q ->
 wpAny (model X.prog X.w) X.A (forIn ifs true λc r=>if r=true then do let ok <- isTrue c X.env (eval c X.env);pure (Nj ok) else pure (Nj r)) (TP X pins σ Q) X.xe s
noncomputable def Il:TT:=λ_ H Q=>Q true H
theorem GV:PF X [] Il:=λ_ _ _ H _ I h=>wpAny_tests_nil ⟨H,I,h⟩
theorem EB{c:Expr}{t:TT}(hc:PT X c t):PF X [c] t:=λpins s σ H Q I h=>wpAny_tests_one (hc pins s σ H Q I h)
def pK(J:It)(g:TG)(tt:TT)(te:TE)(Q:VK)(σ:St)(H:Hp):Prop:=∃W:Nat->Nat->St->List V->Hp->Prop,(∃m,W 0 m σ [] H)/\∀i m σ ys H,W i m σ ys H->ys.length<=sizeLine /\
  ((J.stop i H/\∀r,H r=none->Q (.ref r) (upd H r (.lst ys))) \/
   (J.go i H/\∃N:St->List V->Hp->Prop,(∀σ' ys' H',N σ' ys' H'->∃m',m'<m/\W (i+1) m' σ' ys' H') /\
     ∀x H',J.yld i H x H'->g x σ H' λσ2 H2=>tt σ2 H2 λb H3=>if b=true then te σ2 H3 λy H4=>N σ2 (ys++[y]) H4 else N σ2 ys H3))
noncomputable def om(n:Nat)(wi:TI)(g:TG)(tt:TT)(te:TE):TE:=λσ H Q=>wi σ H λJ H1=>pK J g tt te Q (σ++Mn n none) H1
section
variable{X:Cx}{pins:List (Addr×Obj)}{σ:St}{H:Hp}{s:Shared}{N:List Str}{k:Nat}{sc:Scope}{cl:List (Str×Addr)}{C:Addr}{fp:List Addr}{J:It}{it:Addr}{tn:Nat->Heap->Prop}
 {tg elt iter:Expr} {ifs:List Expr} {pos:Pos} {g:TG} {tt:TT} {te:TE} {Q:VK} {E:Value->Shared->Prop} {RR:Value->Addr->Result->Shared->Prop}
theorem ko(hc:X.calm=true)(S:c9 X.N N k sc X.env.scope)(hcl1:∀x c,cl.lookup x=some c->X.env.cells.lookup x=some c)
  (hcl2:∀x,(x,Ny)∈sc.names->∃c,cl.lookup x=some c)(I:Inv X pins σ H s)(T:Turn X.prog X.w X.K tg J fp it tn)(st:tn 0 s.heap)(hf:∀b∈fp,il X pins H b)
  (B:pK J g tt te Q (σ++Mn k none) H)
  (hg:∀C,PG (cxC X N sc cl C s H fp) tg g)(ht:∀C,PF (cxC X N sc cl C s H fp) ifs tt)(he:∀C,PE (cxC X N sc cl C s H fp) elt te)
  (hRR:∀D C s' H' ys,Inv X pins σ (upd H' D (.lst ys)) s'->s.heap.objs.size<=C->upd H' D (.lst ys) C=none->(∃m,s'.heap.Ns C m)->Q (.ref D) (upd H' D (.lst ys))->RR (.ref D) C (.ok .next) s') :
  wpAny (model X.prog X.w) X.A (newList []) (λacc s₃=>wpAny (model X.prog X.w) X.A (newFunctionEnv sc X.env.globals cl [] X.env.qual none .none (some X.env)) (λcenv s₄ =>
   codeAny (model X.prog X.w) X.A (.compStart (.ListComp elt [⟨tg,iter,ifs,0⟩] sc pos) 0 (.ref it) acc { cenv with scope:=relabel sc X.env }) (RR acc cenv.locals) s₄) E s₃) E s:=by
 refine wpAny_newObj_type (wpAny_newFunctionEnv S.cell (by intro y hy;simp at hy) (λh₁ hns₁ hsb₁=>?_) S.kind)
 dsimp only at hns₁ hsb₁ ⊢
 generalize hH2:s.heap.push { cls:=.type "list",dict:=none,data:=.seq ([]:List Value).toArray }=H2 at hns₁ hsb₁ ⊢
 have hC:H2.objs.size=s.heap.objs.size+1:=by rw[<- hH2,OX]
 have hDC:s.heap.objs.size≠H2.objs.size:=by rw[hC];exact My (NR _)
 have hCle:s.heap.objs.size<=H2.objs.size:=by rw[hC];exact Od _
 have below:∀b,b<s.heap.objs.size->b≠H2.objs.size/\b≠s.heap.objs.size:=λb hb=>⟨by rw[hC];exact My (QJ hb),My hb⟩
 have old:∀b o,s.heap.get? b=some o->h₁.get? b=some o:=λb o e=>hsb₁.extBut b o (below b (Mf e)).1 (L9 _ (hH2▸L9 _ e))
 have hacc:h₁.PlainList s.heap.objs.size #[]:=⟨_,hsb₁.extBut _ _ hDC (L9 _ (hH2▸Mz _ rfl))⟩
 have hfp:∀b∈fp,b<s.heap.objs.size:=λb hb=>let ⟨o,e,_⟩:=T.obj 0 _ st b hb;Mf e
 have st1:tn 0 h₁:=T.keep _ _ _ st λb hb o e=>old b o e
 have I0:=og (tk:=s.toks+([]:List (Str×Value)).length) I S hcl1 hcl2 hCle hf hfp old ⟨_,hns₁⟩
 generalize H2.objs.size=C at hns₁ hsb₁ hC hDC hCle below I0 ⊢
 generalize hD:s.heap.objs.size=D at hC hDC hCle below hacc hfp ⊢
 have hDle:s.heap.objs.size<=D:=by rw[hD];exact Md _
 have fpok:∀{H':Hp}{o:Obj},(∀b∈fp,H' b=none)->∀b∈fp,il (cxC X N sc cl C s H fp) ((X.pn++pins)++[(D,o)]) H' b:=λ{H' o} hn b hb=>by
  obtain⟨f0,f1,f2,f3,f4,f5⟩:=hf b hb
  refine⟨hn b hb,(below b (hfp b hb)).1,λz=>?_,.inl hb,λx c e=>f4 x c (hcl1 _ _ e),λp hp=>?_⟩
  ·rcases Ml.mp (I.iu b z) with z|z
   ·exact f1 z
   ·exact f2 z
  ·have hp:p∈(X.pn++pins)++[(D,o)]:=hp
   rcases Me.mp hp with z|z
   ·exact f5 p z
   ·have:p=(D,o):=by simpa using z
    rw[this]
    exact M8 (below b (hfp b hb)).2
 have loop:∀s₃:Shared,s₃={ s with heap:=h₁,toks:=s.toks+([]:List (Str×Value)).length } ->
   codeAny (model X.prog X.w) X.A (.compLoop (.ListComp elt [⟨tg,iter,ifs,0⟩] sc pos) 0 (.ref it) (.ref D) (compEnvC sc cl C X.env)) (RR (.ref D) C) s₃:=by
  rintro s₃ rfl
  obtain⟨W,⟨m0,w0⟩,step⟩:=B
  refine mr (λn s'=>∃i σ' H' ys its,Inv (cxC X N sc cl C s H fp) (X.pn++pins) σ' H' s'/\tn i s'.heap/\(∀b∈fp,H' b=none)/\H' D=none/\s'.heap.PlainList D (its:List Value).toArray/\Vals ys its/\W i n σ' ys H') ?_ m0
   ⟨0,_,H,[],[],I0,st1,λb hb=>(hf b hb).1,I.hok.fresh hDle,hacc,.nil,w0⟩
  rintro n s3 ⟨i,σ3,H3,ys,its,I3,st3,fr3,hD3,⟨nn,pl3⟩,rv3,w3⟩
  obtain⟨hl,cs⟩:=step i n σ3 ys H3 w3
  have pinD:∀{σ':St}{H':Hp}{s':Shared}{o:Obj},Inv (cxC X N sc cl C s H fp) (X.pn++pins) σ' H' s'->H' D=none->s'.heap.get? D=some o->(∀v,o.data≠.cell v)->Inv (cxC X N sc cl C s H fp) ((X.pn++pins)++[(D,o)]) σ' H' s':=λ{σ' H' s' o} I' hn e d =>
   I'.jN λp hp=>(Me.mp hp).elim (λz=>I'.pin p (LW _ z)) λz=>by
    have:p=(D,o):=by simpa using z
    subst this
    exact⟨e,hn,hDC,λz=>I.iA hDle z,d⟩
  have I3p:=pinD I3 hD3 pl3 λv z=>by cases z
  rcases cs with ⟨stop,q⟩|⟨go,NN,hN,nx⟩
  ·refine thn (T.done (cxC X N sc cl C s H fp) rfl rfl rfl hc i _ s3 σ3 H3 _ I3p (fpok fr3) st3 stop) λr s4 ⟨hr,I4⟩=>?_
   subst hr
   have d4:=I4.pin (D,_) (LW _ (LW _ (Mj.mpr rfl)))
   have I5:=ow I I4.bE hDle d4.2.1 ⟨nn,d4.1⟩ rv3 hl hf
   refine hRR D C s4 H3 ys I5 (by rw[hD];exact hCle) ?_ (let ⟨m,hm,_⟩:=I4.loc;⟨m,hm⟩) (q D d4.2.1)
   rw[aC (M8 hDC)]
   exact I4.free
  ·refine thn (T.item (cxC X N sc cl C s H fp) rfl rfl rfl hc i _ s3 σ3 H3 _ I3p (fpok fr3) st3 go) λr s4 ⟨u,hr,h4⟩=>?_
   subst hr
   refine thn h4 λ_ s5 ⟨x,H5,I5,r5,y5,st5,fr5⟩=>?_
   have I5':=I5.pinned (fpok fr5) (T.obj _ _ st5)
   refine thn (hg C _ s5 σ3 H5 x u _ I5' r5 (nx x H5 y5)) λ_ s6 ⟨σ6,H6,I6,q6⟩=>?_
   refine thn (ht C _ s6 σ6 H6 _ I6 q6) λb s7 ⟨H7,I7,q7⟩=>?_
   have itK:∀{s8:Shared}{H8:Hp},Inv (cxC X N sc cl C s H fp) (((X.pn++pins)++[(D,({ cls:=.type "list",data:=.seq its.toArray nn }:Obj))])++jr fp s5.heap) σ6 H8 s8->tn (i+1) s8.heap/\∀b∈fp,H8 b=none:=λ{s8 H8} I8=>by
    refine⟨T.keep _ _ _ st5 λb hb o e=>(I8.pin (b,o) (LW _ (LW _ (dj hb e)))).1,λb hb=>?_⟩
    obtain⟨o,e,d⟩:=T.obj _ _ st5 b hb
    exact(I8.pin (b,o) (LW _ (LW _ (dj hb e)))).2.1
   cases b with
   | false =>
    have q7:NN σ6 ys H7:=by simpa using q7
    obtain⟨m',hm,w7⟩:=hN _ _ _ q7
    obtain⟨t7,f7⟩:=itK I7
    have d7:=I7.pin (D,_) (LW _ (Mm _ (LW _ (Mj.mpr rfl))))
    show ∃m,m<n/\_
    exact⟨m',hm,i+1,σ6,H7,ys,its,I7.bE.bE,t7,f7,d7.2.1,⟨nn,d7.1⟩,rv3,w7⟩
   | true =>
    have q7:te σ6 H7 λy H4=>NN σ6 (ys++[y]) H4:=by simpa using q7
    show wpAny _ _ _ _ _ _
    refine thn (he C _ s7 σ6 H7 _ I7 q7) λyv s8 ⟨y,H8,I8,r8,q8⟩=>?_
    obtain⟨m',hm,w9⟩:=hN _ _ _ q8
    obtain⟨t8,f8⟩:=itK I8
    have d8:=I8.pin (D,_) (LW _ (Mm _ (LW _ (Mj.mpr rfl))))
    refine wpAny_list_append_plain (hsz:=by rw[LZ,<- rv3.length];exact hl) ⟨nn,d8.1⟩ λh9 pl9 sb9=>?_
    have I9:Inv (cxC X N sc cl C s H fp) (X.pn++pins) σ6 H8 { s8 with heap:=h9 }:=I8.bE.bE.turned (t':=s8.toks) (it:=D) (λb o hb e=>(sb9.2 b hb).trans e) d8.2.1 hDC (.inr hDle) (λx c e z=>?_) (λp hp z=>?_)
    ·refine⟨m',hm,i+1,σ6,H8,ys++[y],its++[yv],I9,T.keep _ _ _ t8 λb hb o e=>(sb9.2 b (below b (hfp b hb)).2).trans e,f8,d8.2.1,?_,rv3.append (.cons r8 .nil),w9⟩
     rw[<- QF]
     exact pl9
    ·obtain⟨v,q⟩:=I.cell x c (hcl1 _ _ e)
     exact absurd (L4 q.lt (by rw[z];exact hDle)) (MM _)
    ·have hp:p∈X.pn++pins:=hp
     exact absurd (L4 (Mf (I.pin p hp).1) (by rw[z];exact hDle)) (MM _)
 exact codeAny_compStart_list (loop _ rfl) (T.self _ _ _ _ _ st1 (loop _ rfl))
end
variable{px:Pos}
section
variable{X:Cx}{N:List Str}{k:Nat}{sc:Scope}{tg elt iter:Expr}{ifs:List Expr}{pos:Pos}{g:TG}{tt:TT}{te:TE}{wi:TI}
theorem ip(I:Inv X pins σ H s)(S:c9 X.N N k sc X.env.scope) :
  ∃cl,closureFor sc X.env=pure cl/\(∀x c,cl.lookup x=some c->X.env.cells.lookup x=some c)/\(∀x,(x,Ny)∈sc.names->∃c,cl.lookup x=some c) :=
 qT λx hx e=>I.ok.has x.1 (S.fr x hx e)
theorem Inv.letGo{H0:Hp}{s0:Shared}(I0:Inv X pins σ H0 s0)(I:Inv X pins σ' H s)(hC:s0.heap.objs.size<=C)(hn:H C=none)(sb:NO C s.heap h'):Inv X pins σ' H { s with heap:=h' } :=
 I.turned (t':=s.toks) (it:=C) (λb o hb e=>(sb.2 b hb).trans e) hn (Ro (L4 I0.lt hC)) (.inr (Mr I0.sz hC))
  (λx c e z=>by
   obtain⟨v,q⟩:=I0.cell x c e
   exact absurd (L4 q.lt (by rw[z];exact hC)) (MM _))
  (λp hp z=>absurd (L4 (Mf (I0.pin p hp).1) (by rw[z];exact hC)) (MM _))
theorem Au(hc:X.calm=true)(S:c9 X.N N k sc X.env.scope)(hi:PI X tg iter wi)(hg:∀cl C s H fp,PG (cxC X N sc cl C s H fp) tg g)(ht:∀cl C s H fp,PF (cxC X N sc cl C s H fp) ifs tt)
  (he:∀cl C s H fp,PE (cxC X N sc cl C s H fp) elt te)(hs:∀x,foldedSetIterable iter X.env x=pure x:=by intro _;rfl):PE X (.ListComp elt [⟨tg,iter,ifs,0⟩] sc pos) (om k wi g tt te):=by
 intro pins s σ H Q I h
 obtain⟨cl,hclos,h1,h2⟩:=ip I S
 rw[eval_ListComp]
 refine wpAny_comprehension_free (use:=none) rfl hs hclos S.kind S.names (thn (hi pins s σ H _ I h) λv s1 q1=>thn q1 λitv s2 q2=>?_)
 obtain⟨it,fp,tn,J,H2,rfl,I2,T,st2,f2,B⟩:=q2
 refine ko (RR:=λacc C=>compPost (model X.prog X.w) X.A X.xe none (EP X pins σ Q) acc C) hc S h1 h2 I2 T st2 f2 B (λC=>hg cl C s2 H2 fp) (λC=>ht cl C s2 H2 fp) (λC=>he cl C s2 H2 fp) ?_
 intro D C s' H' ys I' hC hn hm q
 obtain⟨m,hm⟩:=hm
 exact⟨m,hm,λh' sb=>⟨.ref D,_,I2.letGo I' hC hn sb,rfl,q⟩⟩
theorem z9{spos:Pos}(hc:X.calm=true)(S:c9 X.N N k sc X.env.scope)(hN:X.N.Nodup)(hx:X.N[i]?=some x)(hl:X.env.scope.names.lookup x=some .local)
  (hsw:swapsWith (.ListComp elt [⟨tg,iter,ifs,0⟩] sc pos) (some (.Name x px)) spos.line X.env=pure true)(hi:PI X tg iter wi)(hg:∀cl C s H fp,PG (cxC X N sc cl C s H fp) tg g)(ht:∀cl C s H fp,PF (cxC X N sc cl C s H fp) ifs tt)
  (he:∀cl C s H fp,PE (cxC X N sc cl C s H fp) elt te)(hs:∀x,foldedSetIterable iter X.env x=pure x:=by intro _;rfl):PS X (.Assign [.Name x px] (.ListComp elt [⟨tg,iter,ifs,0⟩] sc pos) spos) (wF (om k wi g tt te) (yE i)):=by
 intro pins s σ H D0 I h
 obtain⟨cl,hclos,h1,h2⟩:=ip I S
 rw[exec_Assign_Name_used _ _ _ _ hsw]
 refine wpAny_bind (wpAny_standAt (wpAny_bind ?_))
 show wpAny _ X.A (do let _ <- comprehension (.ListComp elt [⟨tg,iter,ifs,0⟩] sc pos) sc X.env _ (newList []) false (eval iter X.env) (some (assign (.Name x px) X.env))) _ _ s
 refine wpAny_bind (thn (wpAny_comprehension_free (use:=some (assign (.Name x px) X.env)) (Q:=λ_ s'=>SP X pins D0 .next s') rfl hs hclos S.kind S.names
  (thn (hi pins s σ H _ I h) λv s1 q1=>thn q1 λitv s2 q2=>?_)) λ_ s' hq=>wpAny_pure (wpAny_pure hq))
 obtain⟨it,fp,tn,J,H2,rfl,I2,T,st2,f2,B⟩:=q2
 refine ko (RR:=λacc C=>compPost (model X.prog X.w) X.A X.xe (some (assign (.Name x px) X.env)) (λ_ s'=>SP X pins D0 .next s') acc C) hc S h1 h2 I2 T st2 f2 B (λC=>hg cl C s2 H2 fp) (λC=>ht cl C s2 H2 fp) (λC=>he cl C s2 H2 fp) ?_
 intro D C s' H' ys I' hC hn hm q
 obtain⟨m,hm⟩:=hm
 show wpAny _ X.A (assign (.Name x px) X.env (.ref D)) _ _ _
 refine wpAny_assign_Name (k6 I' hN hx (.inl hl) (v:=.ref D) rfl (λs'' I'' ch=>?_) (.inr hl))
 obtain⟨a,sb,ha⟩:=ch
 refine⟨m,hm.sameBut sb ?_,λh' sb'=>⟨_,_,I2.letGo I'' hC hn sb',q⟩⟩
 rintro rfl
 rcases ha with z|z
 ·exact absurd (L4 I2.lt (by rw[<- z];exact hC)) (MM _)
 ·obtain⟨v,q⟩:=I2.cell x _ z
  exact absurd (L4 q.lt hC) (MM _)
end
theorem qh{gs:List Comprehension}{sc:Scope}{line:Nat}(h1:env.blockKind=.function)(h2:env.kindOf x=some .local)(h3:(px.line==pos.line)=true)
  (h4:(sc.names.any λp=>p.1==x&&(p.2==.local || p.2==.cell))=false):swapsWith (.ListComp elt gs sc pos) (some (.Name x px)) line env=pure true:=by
 unfold swapsWith
 show (pure (env.blockKind==.function&&env.kindOf x==some .local&&px.line==pos.line&&!(sc.names.any λp=>p.1==x&&(p.2==.local || p.2==.cell))):Sem Bool)=pure true
 rw[h1,h2,h3,h4]
 rfl
section
variable{X:Cx}{tg:Expr}
theorem pN{ss:List Str}:∀{us:List Value},Vals (ss.map V.str) us->StrsAre us ss:=by
 induction ss with
 | nil=>intro us r;rw[Mh] at r;cases r;exact .nil
 | cons n ns ih =>
  intro us r
  rw[L5] at r
  cases r with
  | cons r1 r2 =>
   obtain⟨t,e⟩:=r1
   subst e
   exact .cons n t (ih r2)
noncomputable def Lf:V->Option Int->Option Int->Hp->VK->Prop:=λx lo hi H Q=>∃z,x=.str z/\z.length<=sizeLine/\Q (.str (Nc z lo hi)) H
theorem oO{v:Value}{o:Option Int}(p:IsPart v o):∃l:Option (Int×Tok),v=partValue l/\l.map (·.1)=o:=by
 cases p with
 | none=>exact⟨none,rfl,rfl⟩
 | int i t=>exact⟨some (i,t),rfl,rfl⟩
theorem Ei:SlR X Lf:=by
 intro pins s σ H x v vl vu lo hi sl Q I rx hs pl pu h
 obtain⟨z,rfl,hz,q⟩:=h
 obtain⟨t,rfl⟩:=rx
 obtain⟨l,rfl,rfl⟩:=oO pl
 obtain⟨u,rfl,rfl⟩:=oO pu
 refine⟨"str",_,F.slot_str_getitem.lookup,typeIs_str _ _ _,wpAny_getItem_str_slice (l:=l) (u:=u) (st:=none) hs rfl ?_⟩
 exact post_val_or_str ⟨Mr (Po z _ _) hz,λt' k=>⟨.str _,H,I.tok _,⟨t',rfl⟩,q⟩⟩
noncomputable def hG(ss:List Str):Nat:=(ss.map (λz=>z.length)).sum
theorem hW:∀{us:List Value}{ss:List Str},StrsAre us ss->∃l:List (Str×Tok),us=strValues l/\l.map (·.1)=ss
 | _,_,.nil=>⟨[],rfl,rfl⟩
 | _,_,.cons y t r=>by
  obtain⟨l,e1,e2⟩:=hW r
  exact⟨(y,t)::l,by rw[e1];rfl,by rw[L5,e2]⟩
end
variable{te:TE}
section
variable{X:Cx}{pos:Pos}
noncomputable abbrev TJ:=St->Hp->(List Str->Hp->Prop)->Prop
def PJ(X:Cx)(es:List Expr)(t:TJ):Prop:=∀(out:Str)(pins:List (Addr×Obj))(s:Shared)(σ:St)(H:Hp)(Q:VK),out.length+1000*es.length<=sizeLine->Inv X pins σ H s ->
 t σ H (λzs H'=>Q (.str (zs.foldl (λa b=>a++b) out)) H')->wpAny (model X.prog X.w) X.A (joinParts out (evalEach es X.env)) (EP X pins σ Q) X.xe s
theorem len_app(x y:Str):(x++y).length=x.length+y.length:=by
 show (x.cps++y.cps).size=x.cps.size+y.cps.size
 simp
theorem EH:PJ X [] (λ_ H R=>R [] H):=λout pins s σ H Q hl I h=>joinParts_nil (show EP X pins σ Q _ _ from ⟨.str out,H,I.tok _,⟨_,rfl⟩,h⟩) (by simpa using hl)
noncomputable def tJ(te:TE)(t:TJ):TJ:=λσ H R=>te σ H λx H1=>∃z,x=.str z/\z.length<=1000/\t σ H1 λzs H2=>R (z::zs) H2
theorem z5{t:TJ}(h1:PE X e te)(h2:PJ X es t)(hs:evalEach (e::es) X.env=eval e X.env::evalEach es X.env:=by rfl):PJ X (e::es) (tJ te t):=by
 intro out pins s σ H Q hl I h
 rw[hs]
 refine joinParts_cons (thn (h1 pins s σ H _ I h) λv s1 ⟨x,H1,I1,r1,q1⟩=>?_)
 obtain⟨z,rfl,hz,q⟩:=q1
 obtain⟨tk,rfl⟩:=r1
 rw[LX] at hl
 have e1:=len_app out z
 exact⟨by omega,h2 (out++z) pins s1 σ H1 Q (by omega) I1 q⟩
noncomputable def tFv(te:TE):TE:=λσ H Q=>te σ H λx H1=>∃z,x=.str z/\z.length<=1000/\Q (.str z) H1
theorem Iv(h1:PE X e te):PE X (.FormattedValue e (-1) none pos) (tFv te):=by
 intro pins s σ H Q I h
 refine FormattedValue_plain (thn (h1 pins s σ H _ I h) λv s1 ⟨x,H1,I1,r1,q1⟩=>?_)
 obtain⟨z,rfl,hz,q⟩:=q1
 obtain⟨tk,rfl⟩:=r1
 have l1:1000<=sizeLine:=by rw[sizeLine_eq];decide
 exact formatField_str (λt' k=>⟨.str z,H1,I1.tok _,⟨t',rfl⟩,q⟩) (Mr hz l1)
noncomputable def DZ(zs:List Str):Str:=zs.foldl (λa b=>a++b) P7
noncomputable def zX(t:TJ):TE:=λσ H Q=>t σ H λzs H1=>Q (.str (DZ zs)) H1
theorem Hr{v1 v2:Expr}{t:TJ}(h:PJ X (v1::v2::es) t)(hl:(v1::v2::es).length<=100:=by decide)(hs:evalEach (v1::v2::es) X.env=eval v1 X.env::eval v2 X.env::evalEach es X.env:=by rfl):PE X (.JoinedStr (v1::v2::es) pos) (zX t):=by
 intro pins s σ H Q I hw
 refine JoinedStr_many ?_
 rw[<- hs]
 refine h P7 pins s σ H Q ?_ I hw
 have:200000<=sizeLine:=by rw[sizeLine_eq];decide
 show 0+1000*_<=_
 omega
end
noncomputable def Its(x:Str):It:=⟨λi _=>i<x.cps.size,λi H v H'=>H'=H/\∃c,x.cps[i]?=some c/\v=.str ⟨#[c]⟩,λi _=>x.cps.size<=i⟩
variable{tg:Expr}
theorem p9(it:Addr)(x:Str)(t:Tok):Turn P w K tg (Its x) [it] it (λi h=>h.IsStrIter it "str_ascii_iterator" x t i) where
 mem:=by simp
 obj:=λi h st b hb=>by
  have e:b=it:=by simpa using hb
  subst e
  obtain⟨o,e,c,d⟩:=st
  exact⟨o,e,λv z=>by rw[d] at z;cases z⟩
 keep:=λi h h' st k=>by
  obtain⟨o,e,r⟩:=st
  exact⟨o,k it (by simp) o e,r⟩
 item:=by
  intro X hP hw hK hc i pins s σ H E I hf st hg
  subst hP hw hK
  have hg:i<x.cps.size:=hg
  obtain⟨f0,f1,f2,f3,f4,f5⟩:=hf it (by simp)
  refine wpAny_pyNext_ascii_item st (c:=x.cps[i]) (by simp[hg]) λh' st' sb=>?_
  have I1:Inv X pins σ H { s with heap:=h',toks:=s.toks+1 }:=I.turned (t':=s.toks+1) (λb o hb e=>(sb.2 b hb).trans e) f0 f1 f3 f4 f5
  obtain⟨o,e,c,d⟩:=id st'
  exact⟨_,rfl,oq (s:={ s with heap:=h',toks:=s.toks+1 }) e c d (by decide) ⟨.str ⟨#[x.cps[i]]⟩,H,I1,⟨_,rfl⟩,⟨rfl,_,by simp[hg],rfl⟩,st',λb hb=>(hf b hb).1⟩⟩
 done:=by
  intro X hP hw hK hc i pins s σ H E I hf st hg
  subst hP hw hK
  have hg:x.cps.size<=i:=hg
  obtain⟨f0,f1,f2,f3,f4,f5⟩:=hf it (by simp)
  exact wpAny_pyNext_ascii_end (I.ok.hd hc) st (by simp;omega) λh' eb=>⟨rfl,I.turned (t':=s.toks) (λb o hb e=>eb b o hb e) f0 f1 f3 f4 f5⟩
 self:=λ_ _ _ _ _ st h=>wpAny_pyIter_striter_ascii st h
theorem uF(it:Addr)(x:Str)(t:Tok):Turn P w K tg (Its x) [it] it (λi h=>h.IsStrIter it "str_iterator" x t i) where
 mem:=by simp
 obj:=λi h st b hb=>by
  have e:b=it:=by simpa using hb
  subst e
  obtain⟨o,e,c,d⟩:=st
  exact⟨o,e,λv z=>by rw[d] at z;cases z⟩
 keep:=λi h h' st k=>by
  obtain⟨o,e,r⟩:=st
  exact⟨o,k it (by simp) o e,r⟩
 item:=by
  intro X hP hw hK hc i pins s σ H E I hf st hg
  subst hP hw hK
  have hg:i<x.cps.size:=hg
  obtain⟨f0,f1,f2,f3,f4,f5⟩:=hf it (by simp)
  refine wpAny_pyNext_wide_item st (c:=x.cps[i]) (by simp[hg]) λh' st' sb=>?_
  have I1:Inv X pins σ H { s with heap:=h',toks:=s.toks+1 }:=I.turned (t':=s.toks+1) (λb o hb e=>(sb.2 b hb).trans e) f0 f1 f3 f4 f5
  obtain⟨o,e,c,d⟩:=id st'
  exact⟨_,rfl,oq (s:={ s with heap:=h',toks:=s.toks+1 }) e c d (by decide) ⟨.str ⟨#[x.cps[i]]⟩,H,I1,⟨_,rfl⟩,⟨rfl,_,by simp[hg],rfl⟩,st',λb hb=>(hf b hb).1⟩⟩
 done:=by
  intro X hP hw hK hc i pins s σ H E I hf st hg
  subst hP hw hK
  have hg:x.cps.size<=i:=hg
  obtain⟨f0,f1,f2,f3,f4,f5⟩:=hf it (by simp)
  exact wpAny_pyNext_wide_end (I.ok.hd hc) st (by simp;omega) λh' eb=>⟨rfl,I.turned (t':=s.toks) (λb o hb e=>eb b o hb e) f0 f1 f3 f4 f5⟩
 self:=λ_ _ _ _ _ st h=>wpAny_pyIter_striter_wide st h
section
variable{X:Cx}{tg:Expr}
noncomputable def HB(K:LU)(tl:TE):TI:=λσ H R=>tl σ H λx H1=>(∃a,x=.ref a/\(((∃xs,SqL K H1 a xs)/\R (Itl K a) H1)\/((∃xs,SqT K H1 a xs)/\R (Itt K a) H1)))\/∃t,x=.str t/\R (Its t) H1
theorem A4{l:Expr}{tl:TE}(hl:PE X l tl):PI X tg l (HB X.K tl):=by
 intro pins s σ H R I h
 refine thn (hl pins s σ H _ I h) λv s1 ⟨x,H1,I1,r1,q1⟩=>?_
 rcases q1 with ⟨a,e,⟨⟨xs,hq⟩,q⟩|⟨⟨xs,hq⟩,q⟩⟩|⟨t,e,q⟩
 ·subst e
  cases r1
  obtain⟨its,rv,p,hz⟩:=I1.list hq
  refine wpAny_pyIter_list p.isList ?_
  refine⟨s1.heap.objs.size,[s1.heap.objs.size],_,_,H1,rfl,I1.kept (t':=s1.toks) λb o e=>L9 _ e,tP a _,⟨_,Mz _ rfl,rfl,rfl⟩,λb hb=>?_,q⟩
  have e:b=s1.heap.objs.size:=by simpa using hb
  subst e
  exact I1.A5 (Md _) (I1.hok.fresh (Md _))
 ·subst e
  cases r1
  obtain⟨its,rv,p,hz⟩:=I1.tuple hq
  refine wpAny_pyIter_tuple (show s1.heap.IsTuple a its.toArray from p) ?_
  refine⟨s1.heap.objs.size,[s1.heap.objs.size],_,_,H1,rfl,I1.kept (t':=s1.toks) λb o e=>L9 _ e,qF a _,⟨_,Mz _ rfl,rfl,rfl⟩,λb hb=>?_,q⟩
  have e:b=s1.heap.objs.size:=by simpa using hb
  subst e
  exact I1.A5 (Md _) (I1.hok.fresh (Md _))
 ·subst e
  obtain⟨tk,rfl⟩:=r1
  have fin:∀b,b∈[s1.heap.objs.size]->il X pins H1 b:=λb hb=>by
   have e:b=s1.heap.objs.size:=by simpa using hb
   subst e
   exact I1.A5 (Md _) (I1.hok.fresh (Md _))
  cases ha:t.cps.all (·<128)
  ·refine wpAny_pyIter_wide ha ?_
   exact⟨s1.heap.objs.size,[s1.heap.objs.size],_,_,H1,rfl,I1.kept (t':=s1.toks) λb o e=>L9 _ e,uF _ t tk,⟨_,Mz _ rfl,rfl,rfl⟩,fin,q⟩
  ·refine wpAny_pyIter_ascii ha ?_
   exact⟨s1.heap.objs.size,[s1.heap.objs.size],_,_,H1,rfl,I1.kept (t':=s1.toks) λb o e=>L9 _ e,p9 _ t tk,⟨_,Mz _ rfl,rfl,rfl⟩,fin,q⟩
noncomputable def Kd(K:LU)(g:List Bool->Bool):List V->Hp->VK->Prop:=λxs H Q=>∃p ys bs,xs=[.ref p]/\SqL K H p ys/\ys=bs.map V.bl/\Q (.bl (g bs)) H
theorem range_all{bs:List Bool}{tr:Nat->Bool}(h:∀i b,bs[i]?=some b->tr i=b):(MD bs.length).all tr=bs.all id:=by
 have:(MD bs.length).map tr=bs:=by
  apply OB
  intro i
  rw[MA]
  by_cases hi:i<bs.length
  ·rw[NS hi,Mo hi,Option.map_some,h i _ (Mo hi)]
  ·rw[Oa (by simpa using hi),Oa (by simpa using hi)];rfl
 calc (MD bs.length).all tr=((MD bs.length).map tr).all id:=by rw[Qa];rfl
  _=bs.all id:=by rw[this]
theorem v8(hc:X.calm=true):eA X (.builtin "all") (Kd X.K λbs=>bs.all id):=by
 intro pins s σ H xs us Q I r h
 obtain⟨p,ys,bs,rfl,hq,rfl,q⟩:=h
 obtain⟨u,rfl,rx⟩:=vals1 r
 cases rx
 obtain⟨its,r',pl,hz⟩:=I.list hq
 have hlen:=r'.length
 refine call_all_walk (wpAny_pyIter_list pl.isList ?_)
 refine⟨s.heap.objs.size,_,_,_,_,_,(λi=>bs.getD i false),rfl,Walks.list (A:=X.A.in1) (I.ok.hd hc) _ p (by obtain⟨o,ho,_⟩:=pl.isList;exact My (Mf ho)) its.toArray,⟨⟨_,Mz _ rfl,rfl,rfl⟩,pl.isList.at λo e=>L9 _ e⟩,λi v s1 Q1 E1 hP hQ=>?_,λh' tk hk=>?_⟩
 ·have hv:its[i]?=some v:=by simpa using hP
  cases eb:bs[i]? with
  | none =>
   have h1:=List.getElem?_eq_none_iff.mp eb
   have h2:=(Mb.mp hv).1
   rw[LY] at hlen
   omega
  | some b =>
   obtain⟨u,hu,ru⟩:=r'.get (i:=i) (x:=.bl b) (by rw[MA,eb];rfl)
   rw[hv] at hu
   cases hu
   cases ru
   have:bs.getD i false=b:=by rw[M4,eb];rfl
   replace hQ:Q1 (bs.getD i false) s1:=hQ
   rw[this] at hQ
   exact wpAny_pure hQ
 ·have e1:its.toArray.size=bs.length:=by simp at hlen ⊢;omega
  rw[e1,range_all (bs:=bs) λi b e=>by show bs.getD i false=b;rw[M4,e];rfl]
  exact⟨.bl _,H,I.kept (t':=tk) λb o e=>hk b o (λz=>by have:=Mj.mp z;subst this;exact absurd (Mf e) (MM _)) (L9 _ e),rfl,q⟩
end
end L2
namespace W
variable{q:Int}
theorem gG(p:Int)(h:q<0):q<p.fmod q/\p.fmod q<=0:=by
 rw[Int.fmod_eq_emod]
 have h1:=Q0 p (show q≠0 by omega)
 have h2:=Int.emod_lt_of_neg p h
 by_cases d:q ∣ p
 ·rw[if_pos (Rm d),Int.emod_eq_zero_of_dvd d];omega
 ·rw[if_neg (by intro z;rcases z with z|z;omega;exact d z)]
  have h3:p%q≠0:=λz=>d (Int.dvd_of_emod_eq_zero z)
  omega
theorem nR(p:Int)(h:q≠0):(p.fmod q).natAbs<q.natAbs:=by
 rcases Pe h with z|z
 ·have:=gG p z;omega
 ·have h1:=Ox p z
  have h2:=NA p z
  omega
theorem kr(p q:Int):MO q (p.fmod q)=MO p q:=by
 have h:p.fmod q=p-p.fdiv q*q:=by rw[Int.fmod_def,RB]
 rw[h,Int.gcd_sub_mul_right_right,Int.gcd_comm]
noncomputable def cd(x y:Int):Int:=if y<0 then -(MO x y:Int) else (MO x y:Int)
variable{p:Int}
theorem AJ(h:q≠0)(z:p.fmod q=0):q=cd p q:=by
 have e:=kr p q
 rw[z,QG] at e
 unfold cd
 rw[<- e]
 split<;>omega
theorem zy(h:q≠0)(z:p.fmod q≠0):cd q (p.fmod q)=cd p q:=by
 unfold cd
 rw[kr]
 rcases Pe h with g|g
 ·have:=gG p g
  rw[if_pos (by omega),if_pos g]
 ·have h2:=NA p g
  rw[if_neg (by omega),if_neg (by omega)]
theorem pF(x y:Int):cd x y ∣ x:=by
 unfold cd;split
 ·exact(RL).mpr (Pt x y)
 ·exact Pt x y
theorem mY(x y:Int):cd x y ∣ y:=by
 unfold cd;split
 ·exact(RL).mpr (Pp x y)
 ·exact Pp x y
theorem vg{x y:Int}(h:y≠0):cd x y≠0:=by
 have:=ND x h
 unfold cd;split<;>omega
theorem Fj(x y:Int):(cd x y).natAbs=MO x y:=by unfold cd;split<;>omega
noncomputable abbrev Num:=Int×Int
noncomputable def nrm(t b:Int):Num:=(t.fdiv (cd t b),b.fdiv (cd t b))
noncomputable def Bj(t b:Int):Num:=if b<0 then ((-t).fdiv (MO (-t) (-b)),(-b).fdiv (MO (-t) (-b))) else (t.fdiv (MO t b),b.fdiv (MO t b))
theorem i9{t g:Int}(hg:g≠0)(d:g ∣ t):(-t).fdiv g=t.fdiv (-g):=by
 obtain⟨k,rfl⟩:=d
 have e1:-(g*k)=g*(-k):=by rw[Int.mul_neg]
 have e2:g*k=(-g)*(-k):=by rw[Int.neg_mul_neg]
 rw[e1,NY _ hg,e2,NY _ (by omega)]
theorem BG{t b:Int}(h:b≠0):Bj t b=nrm t b:=by
 unfold Bj nrm cd
 by_cases z:b<0
 ·rw[if_pos z,if_pos z,Int.gcd_neg,RM]
  have g0:=ND t h
  rw[i9 (by omega) (Pt t b),i9 (by omega) (Pp t b)]
 ·rw[if_neg z,if_neg z]
open L2
def Ok(q:Num):Prop:=0<q.2/\MO q.1 q.2=1
theorem jP{t b:Int}(h:b≠0):cd t b*(nrm t b).1=t/\cd t b*(nrm t b).2=b:=by
 have h0:=vg (x:=t) h
 obtain⟨k,hk⟩:=pF t b
 obtain⟨m,hm⟩:=mY t b
 have e1:t.fdiv (cd t b)=k:=by
  have:=NY k h0
  rwa[<- hk] at this
 have e2:b.fdiv (cd t b)=m:=by
  have:=NY m h0
  rwa[<- hm] at this
 exact⟨by show cd t b*t.fdiv (cd t b)=t;rw[e1];exact hk.symm,by show cd t b*b.fdiv (cd t b)=b;rw[e2];exact hm.symm⟩
theorem Ab{t b:Int}(h:b≠0):(0<b->0<cd t b)/\(b<0->cd t b<0):=by
 have:=ND t h
 unfold cd
 constructor
 ·intro z;rw[if_neg (by omega)];omega
 ·intro z;rw[if_pos z];omega
theorem sA{t b:Int}(h:b≠0):0<(nrm t b).2:=by
 obtain⟨_,e⟩:=jP (t:=t) h
 obtain⟨s1,s2⟩:=Ab (t:=t) h
 rcases Pe h with z|z
 ·have c:=s2 z
  rcases RC 0 (nrm t b).2 with q|q
  ·exact q
  ·have:=Int.mul_nonneg_of_nonpos_of_nonpos (RD c) q
   omega
 ·have c:=s1 z
  rcases RC 0 (nrm t b).2 with q|q
  ·exact q
  ·have:=Int.mul_nonpos_of_nonneg_of_nonpos (RD c) q
   omega
theorem pV{t b:Int}(h:b≠0):Ok (nrm t b):=by
 refine⟨sA h,?_⟩
 obtain⟨e1,e2⟩:=jP (t:=t) h
 have g:MO (cd t b*(nrm t b).1) (cd t b*(nrm t b).2)=(cd t b).natAbs*MO (nrm t b).1 (nrm t b).2:=Int.gcd_mul_left _ _ _
 rw[e1,e2,Fj] at g
 have p:=ND t h
 have:MO t b*1=MO t b*MO (nrm t b).1 (nrm t b).2:=by rw[Nat.mul_one];exact g
 exact(Nat.eq_of_mul_eq_mul_left p this).symm
theorem Ok.neg{q:Num}(h:Ok q):Ok (-q.1,q.2):=⟨h.1,by show MO (-q.1) q.2=1;rw[RM];exact h.2⟩
theorem kD{c x:Int}(h:c≠0):x.natAbs<=(c*x).natAbs:=by
 rw[Ra]
 exact Nat.le_mul_of_pos_left _ (by omega)
theorem xf{t b:Int}{m n:Nat}(h:b≠0)(h1:Bd m t)(h2:Bd n b):Bd m (nrm t b).1/\Bd n (nrm t b).2:=by
 obtain⟨e1,e2⟩:=jP (t:=t) h
 have a1:=kD (x:=(nrm t b).1) (vg (x:=t) h)
 have a2:=kD (x:=(nrm t b).2) (vg (x:=t) h)
 rw[e1] at a1;rw[e2] at a2
 exact⟨Ow a1 h1,Ow a2 h2⟩
structure NB (n:Nat) (q:Num):Prop where
 ok:Ok q
 b1:Bd n q.1
 b2:Bd n q.2
theorem NB.mono{m n:Nat}{q:Num}(h:NB m q)(k:m<=n):NB n q:=⟨h.ok,h.b1.mono k,h.b2.mono k⟩
theorem NB.nz{n:Nat}{q:Num}(h:NB n q):q.2≠0:=by have:=h.ok.1;omega
theorem NB.nrm{t b:Int}{n:Nat}(h:b≠0)(h1:Bd n t)(h2:Bd n b):NB n (nrm t b):=⟨pV h,(xf h h1 h2).1,(xf h h1 h2).2⟩
noncomputable def ik(x y:Num):Num:=nrm (x.1*y.2+y.1*x.2) (x.2*y.2)
noncomputable def j2(x y:Num):Num:=nrm (x.1*y.2-y.1*x.2) (x.2*y.2)
theorem NB.add{n:Nat}{x y:Num}(h:NB n x)(k:NB n y):NB (2*n+1) (ik x y) :=
 .nrm (NF h.nz k.nz) (((h.b1.mul k.b2).add (k.b1.mul h.b2)).mono (by omega)) ((h.b2.mul k.b2).mono (by omega))
theorem NB.sub{n:Nat}{x y:Num}(h:NB n x)(k:NB n y):NB (2*n+1) (j2 x y) :=
 .nrm (NF h.nz k.nz) (((h.b1.mul k.b2).sub (k.b1.mul h.b2)).mono (by omega)) ((h.b2.mul k.b2).mono (by omega))
theorem vt(x y:Num):ik x (-y.1,y.2)=j2 x y:=by
 unfold ik j2
 simp only[Int.neg_mul,QE]
theorem NB.neg{n:Nat}{y:Num}(h:NB n y):NB n (-y.1,y.2):=⟨h.ok.neg,h.b1.neg,h.b2⟩
theorem NB.zero{n:Nat}:NB (n+1) (0,1):=⟨⟨by decide,by decide⟩,L4 (by decide) (MU (by decide) (Q2 1 n)),L4 (by decide:1<2^1) (MU (by decide) (Q2 1 n))⟩
noncomputable def nv(x:Num):Rat:=R8 x.1 x.2
theorem yj{t b:Int}(h:b≠0):nv (nrm t b)=R8 t b:=by
 obtain⟨e1,e2⟩:=jP (t:=t) h
 have p:=sA (t:=t) h
 unfold nv
 rw[Rat.divInt_eq_divInt_iff (by omega) h]
 generalize (nrm t b).1=k at e1 ⊢
 generalize (nrm t b).2=m at e2 p ⊢
 rw[<- e1]
 rw[show k*b=k*(cd t b*m) from by rw[e2]]
 rw[Int.mul_left_comm,Int.mul_assoc]
variable{x y:Num}
theorem DU(h:Ok x)(k:Ok y):nv (ik x y)=nv x+nv y:=by
 have h1:=h.1;have k1:=k.1
 unfold ik
 rw[yj (NF (by omega) (by omega))]
 exact(Rat.divInt_add_divInt _ _ (by omega) (by omega)).symm
theorem Eg(h:Ok x)(k:Ok y):nv (j2 x y)=nv x-nv y:=by
 have h1:=h.1;have k1:=k.1
 unfold j2
 rw[yj (NF (by omega) (by omega))]
 exact(Rat.divInt_sub_divInt _ _ (by omega) (by omega)).symm
theorem Es(h:Ok x)(k:Ok y):Ok (ik x y):=pV (NF (by have:=h.1;omega) (by have:=k.1;omega))
theorem D9(h:Ok x)(k:Ok y):Ok (j2 x y):=pV (NF (by have:=h.1;omega) (by have:=k.1;omega))
theorem CZ(h:Ok x)(k:Ok y):x.1*y.2<y.1*x.2↔nv x<nv y:=by
 have h1:=h.1;have k1:=k.1
 have hx:(x.2:Rat)≠0:=by intro z;have:=Q3.mp (show ((x.2:Int):Rat)=((0:Int):Rat) from z);omega
 have hy:(y.2:Rat)≠0:=by intro z;have:=Q3.mp (show ((y.2:Int):Rat)=((0:Int):Rat) from z);omega
 have ex:nv x*(x.2:Rat)=x.1:=by unfold nv;rw[QK];grind
 have ey:nv y*(y.2:Rat)=y.1:=by unfold nv;rw[QK];grind
 have px:(0:Rat)<(x.2:Rat):=by have:=OV.mpr h1;simpa using this
 have py:(0:Rat)<(y.2:Rat):=by have:=OV.mpr k1;simpa using this
 have pp:(0:Rat)<(x.2:Rat)*(y.2:Rat):=Rat.mul_pos px py
 rw[<- OV,Q4,Q4,<- ex,<- ey]
 rw[show nv x*(x.2:Rat)*(y.2:Rat)=nv x*((x.2:Rat)*(y.2:Rat)) by grind,show nv y*(y.2:Rat)*(x.2:Rat)=nv y*((x.2:Rat)*(y.2:Rat)) by grind]
 exact Rat.mul_lt_mul_right pp
theorem AI:nv (0,1)=0:=by decide +kernel
theorem AG:Ok (0,1):=⟨by decide,by decide⟩
section
variable{x y z:Num}(hx:Ok x)(hy:Ok y)(hz:Ok z)
noncomputable def nlt(x y:Num):Bool:=decide (x.1*y.2<y.1*x.2)
include hx hy in
theorem nj:nlt x y=true↔nv x<nv y:=by unfold nlt;rw[decide_eq_true_eq];exact CZ hx hy
include hx hy hz in
end
end W
set_option maxHeartbeats 1000000
namespace M
open PySem L2
inductive A where
 | non|bl (b:Bool)|int (i:Int)|str (x:Str)|tup (xs:List A)|lst (xs:List A)|dic (kvs:List (Key×A))|exc (c:Str)|obj (c:Str) (fs:List (Str×A))
structure Kx where
 K:LU
 mg:Str->Option Value
mutual
inductive RA (k:Kx) (G:Hp):V->A->Prop
 | non:RA k G .non .non
 | bl (b:Bool):RA k G (.bl b) (.bl b)
 | int (i:Int):RA k G (.int i) (.int i)
 | str (x:Str):RA k G (.str x) (.str x)
 | tup {p:Addr} {vs:List V} {as:List A} (e:SqT k.K G p vs) (r:RAs k G vs as):RA k G (.ref p) (.tup as)
 | lst {p:Addr} {vs:List V} {as:List A} (e:SqL k.K G p vs) (r:RAs k G vs as):RA k G (.ref p) (.lst as)
 | dic {p:Addr} {vs:List (Key×V)} {as:List (Key×A)} (e:Rd G p (.dK vs)) (r:RKs k G vs as):RA k G (.ref p) (.dic as)
 | exc {p C:Addr} {c:Str} (e:G p=some (n8 p C)) (m:k.mg c=some (.ref C)):RA k G (.ref p) (.exc c)
 | obj {p C dx:Addr} {c:Str} {vs:List (Str×V)} {fs:List (Str×A)} (e:G p=some (.ins C dx vs)) (m:k.mg c=some (.ref C)) (r:RFs k G vs fs):RA k G (.ref p) (.obj c fs)
inductive RAs (k:Kx) (G:Hp):List V->List A->Prop
 | nil:RAs k G [] []
 | cons {v:V} {a:A} {vs:List V} {as:List A} (h:RA k G v a) (r:RAs k G vs as):RAs k G (v::vs) (a::as)
inductive RFs (k:Kx) (G:Hp):List (Str×V)->List (Str×A)->Prop
 | nil:RFs k G [] []
 | cons {y:Str} {v:V} {a:A} {vs:List (Str×V)} {as:List (Str×A)} (h:RA k G v a) (r:RFs k G vs as):RFs k G ((y,v)::vs) ((y,a)::as)
inductive RKs (k:Kx) (G:Hp):List (Key×V)->List (Key×A)->Prop
 | nil:RKs k G [] []
 | cons {y:Key} {v:V} {a:A} {vs:List (Key×V)} {as:List (Key×A)} (h:RA k G v a) (r:RKs k G vs as):RKs k G ((y,v)::vs) ((y,a)::as)
end
noncomputable def tO:HO->Option (List (Key×V))
 | .dK kvs=>some kvs
 | .frz _ (.dK kvs)=>some kvs
 | _=>none
def Oq(o o':HO):Prop:=o'=o\/∃kvs,tO o=some kvs/\tO o'=some kvs
variable{G:Hp}{kvs:List (Key×V)}
theorem iN{b:Addr}{o:HO}(h:G b=some o)(e:tO o=some kvs):Rd G b (.dK kvs):=by
 unfold tO at e
 split at e
 ·cases e;exact .inl h
 ·cases e;exact .inr ⟨_,h⟩
 ·cases e
theorem KG{b:Addr}(h:Rd G b (.dK kvs)):∃o,G b=some o/\tO o=some kvs:=by
 rcases h with h|⟨o,h⟩
 ·exact⟨_,h,rfl⟩
 ·exact⟨_,h,rfl⟩
def Sq(G G':Hp):Prop:=∀b o,G b=some o->∃o',G' b=some o'/\Oq o o'
variable{G':Hp}
theorem Sq.of(h:Lj G G'):Sq G G':=λb o e=>⟨o,h b o e,.inl rfl⟩
theorem Sq.refl(G:Hp):Sq G G:=λb o e=>⟨o,e,.inl rfl⟩
theorem Sq.keep(h:Sq G G'){b:Addr}{o:HO}(e:G b=some o)(n:tO o=none):G' b=some o:=by
 obtain⟨o',h1,h2⟩:=h b o e
 rcases h2 with rfl|⟨kvs,h3,_⟩
 ·exact h1
 ·rw[n] at h3;cases h3
theorem Sq.rdD(h:Sq G G'){b:Addr}(r:Rd G b (.dK kvs)):Rd G' b (.dK kvs):=by
 obtain⟨o,e,d⟩:=KG r
 obtain⟨o',h1,h2⟩:=h b o e
 rcases h2 with rfl|⟨kvs',h3,h4⟩
 ·exact iN h1 d
 ·rw[d] at h3;cases h3;exact iN h1 h4
variable{p:Addr}{vs:List V}
theorem eB{K:LU}(h:Sq G G')(q:SqT K G p vs):SqT K G' p vs:=q.imp (λr=>by
 rcases r with r|⟨o,r⟩
 ·exact .inl (h.keep r rfl)
 ·exact .inr ⟨o,h.keep r rfl⟩) id
theorem kB{K:LU}(h:Sq G G')(q:SqL K G p vs):SqL K G' p vs:=q.imp (λr=>by
 rcases r with r|⟨o,r⟩
 ·exact .inl (h.keep r rfl)
 ·exact .inr ⟨o,h.keep r rfl⟩) id
section
variable{k:Kx}{G G':Hp}
mutual
theorem RA.sm(s:Sq G G'):∀{v:V}{a:A},RA k G v a->RA k G' v a
 | _,_,.non=>.non
 | _,_,.bl b=>.bl b
 | _,_,.int i=>.int i
 | _,_,.str x=>.str x
 | _,_,.tup e r=>.tup (eB s e) (RAs.sm s r)
 | _,_,.lst e r=>.lst (kB s e) (RAs.sm s r)
 | _,_,.dic e r=>.dic (s.rdD e) (RKs.sm s r)
 | _,_,.exc e m=>.exc (s.keep e rfl) m
 | _,_,.obj e m r=>.obj (s.keep e rfl) m (RFs.sm s r)
theorem RFs.sm(s:Sq G G'):∀{vs:List (Str×V)}{as:List (Str×A)},RFs k G vs as->RFs k G' vs as
 | _,_,.nil=>.nil
 | _,_,.cons h r=>.cons (RA.sm s h) (RFs.sm s r)
theorem RAs.sm(s:Sq G G'):∀{vs:List V}{as:List A},RAs k G vs as->RAs k G' vs as
 | _,_,.nil=>.nil
 | _,_,.cons h r=>.cons (RA.sm s h) (RAs.sm s r)
theorem RKs.sm(s:Sq G G'):∀{vs:List (Key×V)}{as:List (Key×A)},RKs k G vs as->RKs k G' vs as
 | _,_,.nil=>.nil
 | _,_,.cons h r=>.cons (RA.sm s h) (RKs.sm s r)
end
theorem RAs.len:∀{vs:List V}{as:List A},RAs k G vs as->vs.length=as.length
 | _,_,.nil=>rfl
 | _,_,.cons _ r=>by rw[LX,LX,r.len]
theorem RAs.ta:∀{vs:List V}{as:List A}{i:Nat}{a:A},RAs k G vs as->as[i]?=some a->∃v,vs[i]?=some v/\RA k G v a
 | _,_,_,_,.nil,e=>by simp at e
 | _,_,0,_,.cons h _,e=>by cases e;exact⟨_,rfl,h⟩
 | _,_,i+1,_,.cons _ r,e=>r.ta (i:=i) e
theorem RAs.app:∀{vs us:List V}{as bs:List A},RAs k G vs as->RAs k G us bs->RAs k G (vs++us) (as++bs)
 | _,_,_,_,.nil,s=>s
 | _,_,_,_,.cons h r,s=>.cons h (r.app s)
theorem RAs.snoc{as:List A}{v:V}{a:A}(r:RAs k G vs as)(h:RA k G v a):RAs k G (vs++[v]) (as++[a]):=r.app (.cons h .nil)
theorem RAs.rev:∀{vs:List V}{as:List A},RAs k G vs as->RAs k G vs.reverse as.reverse
 | _,_,.nil=>.nil
 | _,_,.cons h r=>by rw[OC,OC];exact r.rev.snoc h
theorem RAs.take:∀{vs:List V}{as:List A}(n:Nat),RAs k G vs as->RAs k G (vs.take n) (as.take n)
 | _,_,0,_=>.nil
 | _,_,_+1,.nil=>.nil
 | _,_,n+1,.cons h r=>.cons h (r.take n)
theorem RAs.drop:∀{vs:List V}{as:List A}(n:Nat),RAs k G vs as->RAs k G (vs.drop n) (as.drop n)
 | _,_,0,r=>r
 | _,_,_+1,.nil=>.nil
 | _,_,n+1,.cons _ r=>r.drop n
theorem RAs.set{v:V}{a:A}(h:RA k G v a):∀{vs:List V}{as:List A}(i:Nat),RAs k G vs as->RAs k G (vs.set i v) (as.set i a)
 | _,_,_,.nil=>.nil
 | _,_,0,.cons _ r=>.cons h r
 | _,_,i+1,.cons q r=>.cons q (r.set h i)
theorem RAs.strs:∀{vs:List V}{ss:List Str},RAs k G vs (ss.map A.str)->vs=ss.map V.str
 | _,[],.nil=>rfl
 | _,_::ss,.cons h r=>by cases h;rw[r.strs (ss:=ss)];rfl
theorem RFs.len:∀{vs:List (Str×V)}{as:List (Str×A)},RFs k G vs as->vs.length=as.length
 | _,_,.nil=>rfl
 | _,_,.cons _ r=>by rw[LX,LX,r.len]
theorem RFs.get:∀{vs:List (Str×V)}{as:List (Str×A)}(y:Str),RFs k G vs as->(∃v a,vs.lookup y=some v/\as.lookup y=some a/\RA k G v a)\/(vs.lookup y=none/\as.lookup y=none)
 | _,_,y,.nil=>.inr ⟨rfl,rfl⟩
 | _,_,y,.cons (y:=z) (v:=v) (a:=a) h r=>by
  rw[MC,MC]
  cases c:y==z with
  | true=>exact .inl ⟨v,a,rfl,rfl,h⟩
  | false=>exact r.get y
noncomputable def lW(f:Str)(a:A):List (Str×A)->List (Str×A)
 | []=>[(f,a)]
 | (g,b)::fs=>if g=f then (g,a)::fs else (g,b)::lW f a fs
theorem RFs.put{f:Str}{v:V}{a:A}(h:RA k G v a):∀{vs:List (Str×V)}{as:List (Str×A)},RFs k G vs as->RFs k G (fY f v vs) (lW f a as)
 | _,_,.nil=>.cons h .nil
 | _,_,.cons (y:=z) q r=>by
  unfold fY lW
  split
  ·exact .cons h r
  ·exact .cons q (RFs.put h r)
noncomputable def iX{α:Type}(as:List (Key×α))(y:Key):Option α:=(as.find? λkv=>decide (kv.1=y)).map (·.2)
noncomputable def qf{α:Type}(as:List (Key×α))(y:Key)(a:α):List (Key×α) :=
 if (as.any λkv=>decide (kv.1=y))=true then as.map λkv=>if kv.1=y then (kv.1,a) else kv else as++[(y,a)]
theorem RKs.len:∀{vs:List (Key×V)}{as:List (Key×A)},RKs k G vs as->vs.length=as.length
 | _,_,.nil=>rfl
 | _,_,.cons _ r=>by rw[LX,LX,r.len]
theorem RKs.app:∀{vs us:List (Key×V)}{as bs:List (Key×A)},RKs k G vs as->RKs k G us bs->RKs k G (vs++us) (as++bs)
 | _,_,_,_,.nil,s=>s
 | _,_,_,_,.cons h r,s=>.cons h (r.app s)
theorem RKs.get:∀{vs:List (Key×V)}{as:List (Key×A)}(y:Key),RKs k G vs as->(∃v a,iE vs y=some v/\iX as y=some a/\RA k G v a)\/(iE vs y=none/\iX as y=none)
 | _,_,y,.nil=>.inr ⟨rfl,rfl⟩
 | _,_,y,.cons (y:=z) (v:=v) (a:=a) (vs:=vs) (as:=as) h r=>by
  unfold iE iX
  by_cases c:z=y
  ·left;exact⟨v,a,by simp[Ng,c],by simp[Ng,c],h⟩
  ·have:=RKs.get y r
   unfold iE iX at this
   simpa[Ng,c] using this
theorem RKs.any:∀{vs:List (Key×V)}{as:List (Key×A)}(y:Key),RKs k G vs as->(vs.any λkv=>decide (kv.1=y))=(as.any λkv=>decide (kv.1=y))
 | _,_,y,.nil=>rfl
 | _,_,y,.cons h r=>by rw[NU,NU,RKs.any y r]
theorem RKs.pX{v:V}{a:A}(y:Key)(h:RA k G v a):∀{vs:List (Key×V)}{as:List (Key×A)},RKs k G vs as->RKs k G (vs.map λkv=>if kv.1=y then (kv.1,v) else kv) (as.map λkv=>if kv.1=y then (kv.1,a) else kv)
 | _,_,.nil=>.nil
 | _,_,.cons (y:=z) q r=>by
  rw[L5,L5]
  by_cases c:z=y
  ·simp only[c,if_true];exact .cons h (RKs.pX y h r)
  ·simp only[c,if_false];exact .cons q (RKs.pX y h r)
theorem RKs.put{vs:List (Key×V)}{as:List (Key×A)}{v:V}{a:A}(y:Key)(r:RKs k G vs as)(h:RA k G v a):RKs k G (putK vs y v) (qf as y a):=by
 unfold putK qf
 rw[r.any y]
 split
 ·exact RKs.pX y h r
 ·exact r.app (.cons h .nil)
end
noncomputable def cut(H:Hp)(L:List Addr):Hp:=λa=>if a∈L then none else H a
variable{H:Hp}{L:List Addr}
theorem vk{a:Addr}(h:a∈L):cut H L a=none:=if_pos h
theorem mV{a:Addr}(h:a∉L):cut H L a=H a:=if_neg h
theorem yw(H:Hp)(L:List Addr):Sq (cut H L) H:=Sq.of λb o e=>by
 unfold cut at e
 split at e
 ·cases e
 ·exact e
variable{L':List Addr}
theorem yA(h:∀a,a∈L'->a∈L):Sq (cut H L) (cut H L'):=Sq.of λb o e=>by
 by_cases c:b∈L
 ·rw[vk c] at e;cases e
 ·rw[mV c] at e
  rw[mV λz=>c (h b z)];exact e
inductive LO where
 | lst (xs:List A)|dic (kvs:List (Key×A))|obj (c:Str) (fs:List (Str×A))
noncomputable def LO.a:LO->A
 | .lst xs=>.lst xs
 | .dic kvs=>.dic kvs
 | .obj c fs=>.obj c fs
inductive Sl where
 | un|fr (a:A)|lv (o:LO)|pv (o:LO)
inductive LR (k:Kx) (G H:Hp) (p:Addr):LO->Prop
 | lst {vs:List V} {as:List A} (e:H p=some (.lst vs)) (r:RAs k G vs as):LR k G H p (.lst as)
 | dic {vs:List (Key×V)} {as:List (Key×A)} (e:H p=some (.dK vs)) (r:RKs k G vs as):LR k G H p (.dic as)
 | obj {C dx:Addr} {c:Str} {vs:List (Str×V)} {fs:List (Str×A)} (e:H p=some (.ins C dx vs)) (m:k.mg c=some (.ref C)) (r:RFs k G vs fs):LR k G H p (.obj c fs)
inductive SlR (k:Kx) (G H:Hp):Option V->Sl->List Addr->Prop
 | un (x:Option V):SlR k G H x .un []
 | fr {v:V} {a:A} (h:RA k G v a):SlR k G H (some v) (.fr a) []
 | lv {p:Addr} {o:LO} (h:LR k G H p o):SlR k G H (some (.ref p)) (.lv o) [p]
 | pv {p:Addr} {o:LO} (h:LR k G H p o):SlR k G H (some (.ref p)) (.pv o) [p]
inductive az (k:Kx) (G H:Hp):St->List Sl->List Addr->Prop
 | nil:az k G H [] [] []
 | cons {x:Option V} {s:Sl} {σ:St} {ρ:List Sl} {L L':List Addr} (h:SlR k G H x s L) (r:az k G H σ ρ L'):az k G H (x::σ) (s::ρ) (L++L')
variable{o:LO}
section
variable{k:Kx}{G G' H H':Hp}{L:List Addr}
theorem LR.is(h:LR k G H p o):∃u,H p=some u:=by cases h with|lst e _=>exact⟨_,e⟩|dic e _=>exact⟨_,e⟩|obj e _ _=>exact⟨_,e⟩
theorem LR.sm(s:Sq G G'){p:Addr}{o:LO}(e:∀u,H p=some u->H' p=some u)(h:LR k G H p o):LR k G' H' p o:=by
 cases h with
 | lst q r=>exact .lst (e _ q) (r.sm s)
 | dic q r=>exact .dic (e _ q) (r.sm s)
 | obj q m r=>exact .obj (e _ q) m (r.sm s)
theorem SlR.is{x:Option V}{t:Sl}(h:SlR k G H x t L):∀p∈L,∃u,H p=some u:=by
 cases h with
 | un=>intro p hp;cases hp
 | fr=>intro p hp;cases hp
 | lv h=>intro p hp;rw[Mj.mp hp];exact h.is
 | pv h=>intro p hp;rw[Mj.mp hp];exact h.is
theorem SlR.sm(s:Sq G G'){x:Option V}{t:Sl}(e:∀p∈L,∀u,H p=some u->H' p=some u)(h:SlR k G H x t L):SlR k G' H' x t L:=by
 cases h with
 | un=>exact .un _
 | fr h=>exact .fr (h.sm s)
 | lv h=>exact .lv (h.sm s (e _ (Mj.mpr rfl)))
 | pv h=>exact .pv (h.sm s (e _ (Mj.mpr rfl)))
theorem az.is:∀{σ:St}{ρ:List Sl}{L:List Addr},az k G H σ ρ L->∀p∈L,∃u,H p=some u
 | _,_,_,.nil,p,hp=>by cases hp
 | _,_,_,.cons h r,p,hp=>(Me.mp hp).elim (h.is p) (r.is p)
theorem az.sm(s:Sq G G'):∀{σ:St}{ρ:List Sl}{L:List Addr},(∀p∈L,∀u,H p=some u->H' p=some u)->az k G H σ ρ L->az k G' H' σ ρ L
 | _,_,_,_,.nil=>.nil
 | _,_,_,e,.cons h r=>.cons (h.sm s λp hp=>e p (Mm _ hp)) (r.sm s λp hp=>e p (LW _ hp))
theorem az.len:∀{σ:St}{ρ:List Sl}{L:List Addr},az k G H σ ρ L->σ.length=ρ.length
 | _,_,_,.nil=>rfl
 | _,_,_,.cons _ r=>by rw[LX,LX,r.len]
theorem az.at:∀{σ:St}{ρ:List Sl}{L:List Addr}{i:Nat}{s:Sl},az k G H σ ρ L->ρ[i]?=some s ->
  ∃x L1 L2 L3,σ[i]?=some x/\SlR k G H x s L2/\L=L1++L2++L3/\∀{G' H':Hp}{y:Option V}{t:Sl}{L':List Addr},Sq G G'->(∀p∈L1++L3,∀u,H p=some u->H' p=some u)->SlR k G' H' y t L'->az k G' H' (σ.set i y) (ρ.set i t) (L1++L'++L3)
 | _,_,_,_,_,.nil,e=>by simp at e
 | _,_,_,0,_,.cons (x:=x) (L:=L) (L':=L') h r,e=>by
  cases e
  refine⟨x,[],L,L',rfl,h,by simp,λsm e q=>?_⟩
  simp only[Om,MJ]
  exact .cons q (r.sm sm (by simpa using e))
 | _,_,_,i+1,_,.cons (L:=L) h r,e=>by
  obtain⟨x,L1,L2,L3,e1,e2,e3,e4⟩:=az.at (i:=i) r e
  refine⟨x,L++L1,L2,L3,e1,e2,by rw[e3];simp,λsm e q=>?_⟩
  simp only[Oo]
  have:=az.cons (h.sm sm λp hp=>e p (by simp[hp])) (e4 sm (λp hp=>e p (by rcases Me.mp hp with z|z<;>simp[z])) q)
  simpa[L7] using this
theorem az.app:∀{σ τ:St}{ρ θ:List Sl}{L L':List Addr},az k G H σ ρ L->az k G H τ θ L'->az k G H (σ++τ) (ρ++θ) (L++L')
 | _,_,_,_,_,_,.nil,s=>s
 | _,_,_,_,_,_,.cons h r,s=>by have:=az.cons h (r.app s);simpa[L7] using this
theorem az.split:∀{σ τ:St}{ρ θ:List Sl}{L:List Addr},σ.length=ρ.length->az k G H (σ++τ) (ρ++θ) L->∃L1 L2,L=L1++L2/\az k G H σ ρ L1/\az k G H τ θ L2
 | [],_,[],_,L,_,h=>⟨[],L,rfl,.nil,h⟩
 | x::σ,τ,s::ρ,θ,_,e,.cons (L:=L) h r=>by
  obtain⟨L1,L2,e1,r1,r2⟩:=az.split (by simpa using e) r
  exact⟨L++L1,L2,by rw[e1];simp,.cons h r1,r2⟩
 | _::_,_,[],_,_,e,_=>by simp at e
 | [],_,_::_,_,_,e,_=>by simp at e
theorem az.frs:∀{vs:List V}{as:List A},RAs k G vs as->az k G H (vs.map some) (as.map Sl.fr) []
 | _,_,.nil=>.nil
 | _,_,.cons h r=>az.cons (L:=[]) (.fr h) (az.frs r)
theorem az.CP:∀{vs:List V}{as:List A}{L:List Addr},az k G H (vs.map some) (as.map Sl.fr) L->L=[]/\RAs k G vs as
 | [],[],_,.nil=>⟨rfl,.nil⟩
 | v::vs,a::as,_,.cons h r=>by
  cases h with
  | fr h =>
   obtain⟨e,q⟩:=az.CP r
   exact⟨by rw[e];rfl,.cons h q⟩
end
structure Cn extends Kx where
 σ0:St
 H0:Hp
 Lp:List Addr
 Hd:List Addr
 Wk:List (Addr×HO)
noncomputable def Cn.g(c:Cn)(H:Hp)(L:List Addr):Hp:=cut H (L++c.Hd)
structure Fr (c:Cn) (H:Hp):Prop where
 st:∀b o,c.H0 b=some o->∃u,H b=some u/\(b∉c.Lp->(∀w,(b,w)∉c.Wk)->u=o)
 pk:∀p∈c.Wk,H p.1=some p.2/\(∃ob vs,p.2=.frz ob (.dK vs))/\p.1∉c.Hd
variable{c:Cn}
theorem Fr.new{o:HO}(f:Fr c H)(h:H p=none):Fr c (upd H p o):=⟨λb u e=>by
 obtain⟨w,h1,h2⟩:=f.st b u e
 exact⟨w,by rw[aC (aT h1 h)];exact h1,h2⟩,λq hq=>by
 obtain⟨h1,h2⟩:=f.pk q hq
 exact⟨by rw[aC (aT h1 h)];exact h1,h2⟩⟩
theorem Fr.fresh(f:Fr c H)(h:H p=none):c.H0 p=none:=by
 cases e:c.H0 p with
 | none=>rfl
 | some o=>obtain⟨u,h1,_⟩:=f.st p o e;rw[h] at h1;cases h1
def ft(σ0 σ:St)(ρ:List Sl):Prop:=∀(i:Nat)(o:LO),ρ[i]?=some (Sl.pv o)->σ[i]?=σ0[i]?
structure BdL (c:Cn) (σ:St) (H:Hp) (ρ:List Sl) (τ:St) (θ:List Sl) (L:List Addr):Prop where
 nd:L.Nodup
 rel:az c.toKx (c.g H L) H (τ++σ) (θ++ρ) L
 own:∀p∈L,p∈c.Lp\/c.H0 p=none
 fr:Fr c H
 kp:ft c.σ0 σ ρ
 lt:τ.length=θ.length
 hd:∀p∈c.Hd,(∃u,c.H0 p=some u)/\p∉c.Lp
theorem g_same(c:Cn)(H:Hp)(L:List Addr):Sq (c.g H L) H:=yw _ _
theorem cT(h:∀a,a∈L'->a∈L):Sq (c.g H L) (c.g H L'):=yA λa ha=>by
 rcases Me.mp ha with z|z
 ·exact Mm _ (h a z)
 ·exact LW _ z
theorem oC{a:Addr}(h:a∈L\/a∈c.Hd):c.g H L a=none:=vk (by simpa using h)
theorem cL{a:Addr}(h:a∉L)(h':a∉c.Hd):c.g H L a=H a:=mV (by simp[h,h'])
variable{σ τ:St}{ρ θ:List Sl}
theorem BdL.nhd(b:BdL c σ H ρ τ θ L)(h:p∈L):p∉c.Hd:=λz=>by
 obtain⟨⟨u,e⟩,n⟩:=b.hd p z
 rcases b.own p h with y|y
 ·exact n y
 ·rw[y] at e;cases e
theorem BdL.fhd(b:BdL c σ H ρ τ θ L)(h:H p=none):p∉c.Hd:=λz=>by
 obtain⟨⟨u,e⟩,n⟩:=b.hd p z
 rw[b.fr.fresh h] at e;cases e
def Bd(c:Cn)(σ:St)(H:Hp)(ρ:List Sl)(τ:St)(θ:List Sl):Prop:=∃L,BdL c σ H ρ τ θ L
variable{s:Sl}{u:HO}{i:Nat}
section
variable{c:Cn}{σ:St}{H:Hp}{ρ:List Sl}{τ:St}{θ:List Sl}
theorem Bd.hG(b:Bd c σ H ρ τ θ):σ.length=ρ.length:=by
 obtain⟨L,b⟩:=b
 have:=b.rel.len
 rw[Ma,Ma,b.lt] at this
 omega
theorem Bd.push{v:V}{a:A}(b:Bd c σ H ρ τ θ)(h:∀G,RA c.toKx G v a):Bd c σ H ρ (some v::τ) (.fr a::θ):=by
 obtain⟨L,b⟩:=b
 exact⟨L,b.nd,az.cons (L:=[]) (.fr (h _)) b.rel,b.own,b.fr,b.kp,by simp[b.lt],b.hd⟩
theorem Bd.pop{x:Option V}(b:Bd c σ H ρ (x::τ) (s::θ)):Bd c σ H ρ τ θ:=by
 obtain⟨L,b⟩:=b
 obtain⟨nd,rel,own,fr,kp,lt,hdd⟩:=b
 have rel:az c.toKx (c.g H L) H (x::(τ++σ)) (s::(θ++ρ)) L:=rel
 cases rel with
 | cons h r =>
  rename_i L1 L2
  exact⟨L2,(Mp.mp nd).2.1,r.sm (cT λa ha=>LW _ ha) (λ_ _ _ e=>e),λp hp=>own p (LW _ hp),fr,kp,by simpa using lt,hdd⟩
theorem Bd.AN:∀{xs:St}{ss:List Sl},xs.length=ss.length->Bd c σ H ρ (xs++τ) (ss++θ)->Bd c σ H ρ τ θ
 | [],[],_,b=>b
 | x::xs,s::ss,e,b=>Bd.AN (xs:=xs) (ss:=ss) (by simpa using e) (Bd.pop b)
 | [],_::_,e,_=>by simp at e
 | _::_,[],e,_=>by simp at e
theorem Bd.new{p:Addr}{o:HO}(b:Bd c σ H ρ τ θ)(h:H p=none):Bd c σ (upd H p o) ρ τ θ:=by
 obtain⟨L,b⟩:=b
 have hp:p∉L:=λz=>by obtain⟨u,e⟩:=b.rel.is p z;rw[h] at e;cases e
 refine⟨L,b.nd,b.rel.sm (Sq.of λa u e=>?_) (λq hq u e=>by rw[aC (aT e h)];exact e),b.own,b.fr.new h,b.kp,b.lt,b.hd⟩
 by_cases z:a∈L\/a∈c.Hd
 ·rw[oC z] at e;cases e
 ·rw[cL (λy=>z (.inl y)) (λy=>z (.inr y))] at e
  rw[cL (λy=>z (.inl y)) (λy=>z (.inr y)),aC (aT e h)];exact e
theorem Bd.frs{as:List A}(b:Bd c σ H ρ (vs.map some++τ) (as.map Sl.fr++θ))(e:vs.length=as.length):∃L,BdL c σ H ρ τ θ L/\RAs c.toKx (c.g H L) vs as:=by
 obtain⟨L,b⟩:=b
 have r:=b.rel
 rw[L7,L7] at r
 obtain⟨L1,L2,e1,r1,r2⟩:=az.split (by simp[e]) r
 obtain⟨z,ra⟩:=az.CP r1
 subst z
 have e1:L=L2:=e1
 subst e1
 exact⟨L,⟨b.nd,r2,b.own,b.fr,b.kp,by have:=b.lt;simp at this;omega,b.hd⟩,ra⟩
theorem BdL.push{v:V}{a:A}(b:BdL c σ H ρ τ θ L)(h:RA c.toKx (c.g H L) v a):Bd c σ H ρ (some v::τ) (.fr a::θ) :=
 ⟨L,b.nd,az.cons (L:=[]) (.fr h) b.rel,b.own,b.fr,b.kp,by simp[b.lt],b.hd⟩
theorem BdL.new{L:List Addr}{p:Addr}{o:HO}(b:BdL c σ H ρ τ θ L)(h:H p=none):BdL c σ (upd H p o) ρ τ θ L/\Sq (c.g H L) (c.g (upd H p o) L)/\p∉L:=by
 have hp:p∉L:=λz=>by obtain⟨u,e⟩:=b.rel.is p z;rw[h] at e;cases e
 have sm:Sq (c.g H L) (c.g (upd H p o) L):=Sq.of λa u e=>by
  by_cases z:a∈L\/a∈c.Hd
  ·rw[oC z] at e;cases e
  ·rw[cL (λy=>z (.inl y)) (λy=>z (.inr y))] at e
   rw[cL (λy=>z (.inl y)) (λy=>z (.inr y)),aC (aT e h)];exact e
 exact⟨⟨b.nd,b.rel.sm sm (λq hq u e=>by rw[aC (aT e h)];exact e),b.own,b.fr.new h,b.kp,b.lt,b.hd⟩,sm,hp⟩
theorem Bd.Fs{as:List A}(b:Bd c σ H ρ (vs.map some++τ) (as.map Sl.fr++θ))(e:vs.length=as.length)(h:H p=none)(ws:List V)(bs:List A)(hw:∀G,RAs c.toKx G vs as->RAs c.toKx G ws bs) :
  Bd c σ (upd H p (.tup ws)) ρ (some (.ref p)::τ) (.fr (.tup bs)::θ):=by
 obtain⟨L,bl,ra⟩:=b.frs e
 obtain⟨b2,sm,hp⟩:=bl.new (o:=.tup ws) h
 exact b2.push (.tup (.inl (.inl (by rw[cL hp (bl.fhd h)];exact bw))) (hw _ (ra.sm sm)))
theorem BdL.kN(b:BdL c σ H ρ τ θ L)(h:H p=none)(hr:∀G H',Sq (c.g H L) G->H' p=some u->LR c.toKx G H' p o):Bd c σ (upd H p u) ρ (some (.ref p)::τ) (.lv o::θ):=by
 have hp:p∉L:=λz=>by obtain⟨u,e⟩:=b.rel.is p z;rw[h] at e;cases e
 have sm:Sq (c.g H L) (c.g (upd H p u) (p::L)):=Sq.of λa w e=>by
  by_cases z:a∈L\/a∈c.Hd
  ·rw[oC z] at e;cases e
  ·rw[cL (λy=>z (.inl y)) (λy=>z (.inr y))] at e
   have na:=aT e h
   rw[cL (λy=>by rcases Ml.mp y with y|y;exact na y;exact z (.inl y)) (λy=>z (.inr y)),aC na];exact e
 refine⟨p::L,MI.mpr ⟨hp,b.nd⟩,az.cons (L:=[p]) (.lv (hr _ _ sm bw)) (b.rel.sm sm (λq hq w e=>by rw[aC (aT e h)];exact e)),λq hq=>?_,b.fr.new h,b.kp,by simp[b.lt],b.hd⟩
 rcases Ml.mp hq with z|z
 ·subst z;exact .inr (b.fr.fresh h)
 ·exact b.own q z
theorem Bd.qg{as:List A}(b:Bd c σ H ρ (vs.map some++τ) (as.map Sl.fr++θ))(e:vs.length=as.length)(h:H p=none)(ws:List V)(bs:List A)(hw:∀G,RAs c.toKx G vs as->RAs c.toKx G ws bs) :
  Bd c σ (upd H p (.lst ws)) ρ (some (.ref p)::τ) (.lv (.lst bs)::θ):=by
 obtain⟨L,bl,ra⟩:=b.frs e
 exact bl.kN h λG H' sm q=>.lst q (hw _ (ra.sm sm))
theorem LR.a{k:Kx}{G H:Hp}{p:Addr}{o:LO}(h:LR k G H p o)(sm:Sq G H):RA k H (.ref p) o.a:=by
 cases h with
 | lst e r=>exact .lst (.inl (.inl e)) (r.sm sm)
 | dic e r=>exact .dic (.inl e) (r.sm sm)
 | obj e m r=>exact .obj e m (r.sm sm)
theorem LR.a'{k:Kx}(h:LR k G H p o)(sm:Sq G G')(e:∀u,H p=some u->G' p=some u):RA k G' (.ref p) o.a:=by
 cases h with
 | lst q r=>exact .lst (.inl (.inl (e _ q))) (r.sm sm)
 | dic q r=>exact .dic (.inl (e _ q)) (r.sm sm)
 | obj q m r=>exact .obj (e _ q) m (r.sm sm)
noncomputable def Sl.a:Sl->Option A
 | .fr a=>some a
 | .lv o=>some o.a
 | .pv o=>some o.a
 | .un=>none
theorem SlR.read{k:Kx}{x:Option V}{a:A}(h:SlR k G H x s L)(sm:Sq G H)(e:s.a=some a):∃v,x=some v/\RA k H v a:=by
 cases h with
 | un=>cases e
 | fr h=>cases e;exact⟨_,rfl,h.sm sm⟩
 | lv h=>cases e;exact⟨_,rfl,h.a sm⟩
 | pv h=>cases e;exact⟨_,rfl,h.a sm⟩
theorem ft.set{σ0 σ:St}{ρ:List Sl}{i:Nat}{t:Sl}{y:Option V}(k:ft σ0 σ ρ)(h:∀o,ρ[i]?≠some (.pv o))(hi:i<ρ.length)(e:∀o,t≠.pv o):ft σ0 (σ.set i y) (ρ.set i t):=λj o q=>by
 by_cases z:j=i
 ·subst z
  rw[MF hi] at q
  exact absurd (Mc q) (e o)
 ·rw[MR (M8 z)] at q ⊢
  exact k j o q
theorem ft.A2{σ0:St}{t:Sl}(k:ft σ0 σ ρ)(h:∀o,t=.pv o->∃o',ρ[i]?=some (.pv o')):ft σ0 σ (ρ.set i t):=λj o q=>by
 by_cases z:j=i
 ·subst z
  by_cases hi:j<ρ.length
  ·rw[MF hi] at q
   obtain⟨o',e⟩:=h o (Mc q)
   exact k j o' e
  ·rw[Oa (by simp;omega)] at q;cases q
 ·rw[MR (M8 z)] at q
  exact k j o q
theorem Bd.slot{a:A}(b:Bd c σ H ρ τ θ)(e:ρ[i]?=some s)(ea:s.a=some a):∃v,σ[i]?=some (some v)/\RA c.toKx H v a:=by
 obtain⟨L,b⟩:=b
 obtain⟨L1,L2,e1,r1,r2⟩:=az.split b.lt b.rel
 obtain⟨x,_,_,_,hx,hs,_⟩:=r2.at e
 obtain⟨v,rfl,h⟩:=hs.read (g_same _ _ _) ea
 exact⟨v,hx,h⟩
theorem Bd.load{a:A}(b:Bd c σ H ρ τ θ)(e:ρ[i]?=some (.fr a)):∃v,σ[i]?=some (some v)/\Bd c σ H ρ (some v::τ) (.fr a::θ):=by
 obtain⟨L,b⟩:=b
 obtain⟨L1,L2,e1,r1,r2⟩:=az.split b.lt b.rel
 obtain⟨x,_,_,_,hx,hs,_⟩:=r2.at e
 cases hs with
 | fr h=>exact⟨_,hx,b.push h⟩
theorem Bd.rJ(b:Bd c σ H ρ τ θ)(e:ρ[i]?=some (.lv o)):Bd c σ H (ρ.set i (.fr o.a)) τ θ:=by
 obtain⟨L,b⟩:=b
 obtain⟨L1,L2,e1,r1,r2⟩:=az.split b.lt b.rel
 obtain⟨x,M1,M2,M3,hx,hs,e2,ins⟩:=r2.at e
 cases hs with
 | lv h =>
  rename_i p
  have nd:=b.nd
  have hL:L=(L1++M1)++p::M3:=by rw[e1,e2];simp
  rw[hL] at nd
  have hp:p∉L1++M1++M3:=by
   obtain⟨n1,n2,n3⟩:=Mp.mp nd
   obtain⟨m1,m2⟩:=MI.mp n2
   intro z
   rcases Me.mp z with z|z
   ·exact n3 p z p (by simp) rfl
   ·exact m1 z
  have sub:∀a,a∈L1++M1++M3->a∈L:=λa ha=>by rw[hL];simp only[Me,Ml] at ha ⊢;rcases ha with (z|z)|z<;>simp[z]
  have sm:Sq (c.g H L) (c.g H (L1++M1++M3)):=cT sub
  have r3:=ins (y:=some (.ref p)) (t:=.fr o.a) (L':=[]) sm (λ_ _ _ e=>e) (.fr (h.a' sm λu e=>by rw[cL hp (b.nhd (by rw[hL];simp))];exact e))
  have hσ:σ.set i (some (.ref p))=σ:=by
   apply OB;intro j
   by_cases z:j=i
   ·subst z;rw[MF (Mb.mp hx).1,hx]
   ·rw[MR (M8 z)]
  rw[hσ] at r3
  refine⟨L1++M1++M3,?_,?_,λq hq=>b.own q (sub q hq),b.fr,b.kp.A2 (λo z=>by cases z),b.lt,b.hd⟩
  ·exact(Mp.mp nd).1 |> λn=>Mp.mpr ⟨n,(MI.mp (Mp.mp nd).2.1).2,λa ha b' hb=>(Mp.mp nd).2.2 a ha b' (L6 _ hb)⟩
  ·have:=(r1.sm sm (λ_ _ _ e=>e)).app r3
   simpa[L7] using this
theorem BdL.change{t:Sl}{o':LO}(b:BdL c σ H ρ τ θ L)(e:ρ[i]?=some s)(es:s=.lv o/\t=.lv o'\/s=.pv o/\t=.pv o')
  : ∃p,σ[i]?=some (some (.ref p))/\LR c.toKx (c.g H L) H p o/\((∀H',H' p=some u->LR c.toKx (c.g H L) H' p o')->Bd c σ (upd H p u) (ρ.set i t) τ θ):=by
 obtain⟨L1,L2,e1,r1,r2⟩:=az.split b.lt b.rel
 obtain⟨x,M1,M2,M3,hx,hs,e2,ins⟩:=r2.at e
 have key:∀p,x=some (.ref p)->M2=[p]->LR c.toKx (c.g H L) H p o->(∀G H',LR c.toKx G H' p o'->SlR c.toKx G H' (some (.ref p)) t [p])->(∀o2,t=.pv o2->∃o',ρ[i]?=some (.pv o')) ->
   ∃p,σ[i]?=some (some (.ref p))/\LR c.toKx (c.g H L) H p o/\((∀H',H' p=some u->LR c.toKx (c.g H L) H' p o')->Bd c σ (upd H p u) (ρ.set i t) τ θ):=by
  intro p ex em hr mk pk
  subst ex em
  refine⟨p,hx,hr,λhn=>?_⟩
  have nd:=b.nd
  have hL:L=(L1++M1)++p::M3:=by rw[e1,e2];simp
  have hin:p∈L:=by rw[hL];simp
  have hne:∀q,q∈L1++M1++M3->q≠p:=λq hq z=>by
   subst z
   rw[hL] at nd
   obtain⟨n1,n2,n3⟩:=Mp.mp nd
   obtain⟨m1,m2⟩:=MI.mp n2
   rcases Me.mp hq with z|z
   ·exact n3 q z q (by simp) rfl
   ·exact m1 z
  have ec:c.g (upd H p u) L=c.g H L:=by
   funext a
   by_cases z:a∈L\/a∈c.Hd
   ·rw[oC z,oC z]
   ·rw[cL (λy=>z (.inl y)) (λy=>z (.inr y)),cL (λy=>z (.inl y)) (λy=>z (.inr y)),aC λy=>z (.inl (by rw[y];exact hin))]
  have kpu:∀q,q∈L1++M1++M3->∀w,H q=some w->upd H p u q=some w:=λq hq w e=>by rw[aC (hne q hq)];exact e
  have r3:=ins (G':=c.g (upd H p u) L) (H':=upd H p u) (y:=some (.ref p)) (t:=t) (L':=[p]) (by rw[ec];exact Sq.refl _) (λq hq=>kpu q (by rcases Me.mp hq with z|z<;>simp[z])) (mk _ _ (by rw[ec];exact hn _ bw))
  have hσ:σ.set i (some (.ref p))=σ:=by
   apply OB;intro j
   by_cases z:j=i
   ·subst z;rw[MF (Mb.mp hx).1,hx]
   ·rw[MR (M8 z)]
  rw[hσ] at r3
  refine⟨L,nd,?_,b.own,⟨λq w e=>?_,λq hq=>?_⟩,b.kp.A2 pk,b.lt,b.hd⟩
  ·have:=(r1.sm (G':=c.g (upd H p u) L) (H':=upd H p u) (by rw[ec];exact Sq.refl _) (λq hq=>kpu q (by simp[hq]))).app r3
   have z:L1++(M1++[p]++M3)=L:=by rw[hL];simp
   rw[z] at this
   exact this
  ·obtain⟨w',h1,h2⟩:=b.fr.st q w e
   by_cases z:q=p
   ·subst z
    refine⟨u,bw,λnq=>?_⟩
    rcases b.own q hin with y|y
    ·exact absurd y nq
    ·rw[y] at e;cases e
   ·exact⟨w',by rw[aC z];exact h1,h2⟩
  ·obtain⟨h1,⟨ob,vs,h2⟩,h3⟩:=b.fr.pk q hq
   refine⟨?_,⟨ob,vs,h2⟩,h3⟩
   rw[aC λy=>?_]
   ·exact h1
   ·rw[y,h2] at h1
    cases hr with
    | lst e _=>rw[e] at h1;cases h1
    | dic e _=>rw[e] at h1;cases h1
    | obj e _ _=>rw[e] at h1;cases h1
 rcases es with ⟨rfl,rfl⟩|⟨rfl,rfl⟩
 ·cases hs with
  | lv h=>exact key _ rfl rfl h (λ_ _ h=>.lv h) (λ_ z=>by cases z)
 ·cases hs with
  | pv h=>exact key _ rfl rfl h (λ_ _ h=>.pv h) (λ_ z=>⟨_,e⟩)
theorem Bd.store{t:Sl}{v:V}(b:Bd c σ H ρ (some v::τ) (t::θ))(e:ρ[i]?=some s)(hs:∀o,s≠.pv o)(ht:∀o,t≠.pv o):Bd c (σ.set i (some v)) H (ρ.set i t) τ θ:=by
 obtain⟨L,nd,rel,own,fr,kp,lt,hdd⟩:=b
 have rel:az c.toKx (c.g H L) H (some v::(τ++σ)) (t::(θ++ρ)) L:=rel
 cases rel with
 | cons h r =>
  rename_i L0 L'
  obtain⟨L1,L2,e1,r1,r2⟩:=az.split (by simpa using lt) r
  obtain⟨x,M1,M2,M3,hx,hs',e2,ins⟩:=r2.at e
  subst e1 e2
  have sub:∀a,a∈L1++(M1++L0++M3)->a∈L0++(L1++(M1++M2++M3)):=λa ha=>by simp at ha ⊢;rcases ha with z|z|z|z<;>simp[z]
  have sm:Sq (c.g H (L0++(L1++(M1++M2++M3)))) (c.g H (L1++(M1++L0++M3))):=cT sub
  have hi:i<ρ.length:=(Mb.mp e).1
  refine⟨L1++(M1++L0++M3),?_,?_,λq hq=>own q (sub q hq),fr,kp.set (λo z=>?_) hi ht,by simpa using lt,hdd⟩
  ·have p1:(L0++(L1++(M1++M2++M3))).Perm (M2++(L1++(M1++L0++M3))):=by
    rw[O2]
    intro a
    simp only[Ph]
    omega
   exact(Mp.mp ((p1.nodup_iff).mp nd)).2.1
  ·exact(r1.sm sm (λ_ _ _ e=>e)).app (ins sm (λ_ _ _ e=>e) (h.sm sm (λ_ _ _ e=>e)))
  ·rw[e] at z;exact hs o (Mc z)
end
inductive Rr where
 | rf (i:Nat)|fr (a:A)|nw (o:LO)
noncomputable abbrev Mi(α:Type):=List Sl->Option (Except Str α×List Sl)
noncomputable def ay{α β:Type}(m:Mi α)(f:α->Mi β):Mi β:=λρ=>match m ρ with
 | some (.ok x,ρ1)=>f x ρ1
 | some (.error e,ρ1)=>some (.error e,ρ1)
 | none=>none
noncomputable def dG{α:Type}(x:α):Mi α:=λρ=>some (.ok x,ρ)
noncomputable def bN:Rr->V->St->St
 | .rf _,_,τ=>τ
 | .fr _,v,τ=>some v::τ
 | .nw _,v,τ=>some v::τ
noncomputable def bO:Rr->List Sl->List Sl
 | .rf _,θ=>θ
 | .fr a,θ=>.fr a::θ
 | .nw o,θ=>.lv o::θ
noncomputable def VR(σ:St):Rr->V->Prop
 | .rf i,v=>σ[i]?=some (some v)
 | _,_=>True
noncomputable def res(ρ:List Sl):Rr->Option A
 | .rf i=>match ρ[i]? with
  | some s=>s.a
  | none=>none
 | .fr a=>some a
 | .nw o=>some o.a
noncomputable def Ret(K:Kx)(E:XK)(c:Cn)(σ:St)(ρ:List Sl)(τ:St)(θ:List Sl)(Q:VK):Except Str Rr->Prop
 | .ok r=>∀v H,VR σ r v->Bd c σ H ρ (bN r v τ) (bO r θ)->Q v H
 | .error x=>∀C H,K.mg x=some (.ref C)->Bd c σ H ρ τ θ->E (.ref C) none H
noncomputable def TEm(K:Kx)(E:XK)(m:Mi Rr):TE:=λσ H Q=>∃(c:Cn) (ρ:List Sl) (τ:St) (θ:List Sl) (o:Except Str Rr) (ρ':List Sl),c.toKx=K/\Bd c σ H ρ τ θ/\m ρ=some (o,ρ')/\Ret K E c σ ρ' τ θ Q o
noncomputable def Jw(K:Kx)(E:XK)(c:Cn)(σ:St)(ρ:List Sl)(τ:St)(θ:List Sl)(Q:Bool->Hp->Prop):Except Str Bool->Prop
 | .ok b=>∀H,Bd c σ H ρ τ θ->Q b H
 | .error x=>∀C H,K.mg x=some (.ref C)->Bd c σ H ρ τ θ->E (.ref C) none H
noncomputable def TTm(K:Kx)(E:XK)(m:Mi Bool):TT:=λσ H Q=>∃(c:Cn) (ρ:List Sl) (τ:St) (θ:List Sl) (o:Except Str Bool) (ρ':List Sl),c.toKx=K/\Bd c σ H ρ τ θ/\m ρ=some (o,ρ')/\Jw K E c σ ρ' τ θ Q o
noncomputable def cC:List Rr->List V->St->St
 | r::rs,v::vs,τ=>cC rs vs (bN r v τ)
 | _,_,τ=>τ
noncomputable def cz:List Rr->List Sl->List Sl
 | r::rs,θ=>cz rs (bO r θ)
 | [],θ=>θ
noncomputable def VRs(σ:St):List Rr->List V->Prop
 | [],[]=>True
 | r::rs,v::vs=>VR σ r v/\VRs σ rs vs
 | _,_=>False
noncomputable def J5(K:Kx)(E:XK)(c:Cn)(σ:St)(ρ:List Sl)(τ:St)(θ:List Sl)(Q:List V->Hp->Prop):Except Str (List Rr)->Prop
 | .ok rs=>∀vs H,VRs σ rs vs->Bd c σ H ρ (cC rs vs τ) (cz rs θ)->Q vs H
 | .error x=>∀C H,K.mg x=some (.ref C)->Bd c σ H ρ τ θ->E (.ref C) none H
noncomputable def TAm(K:Kx)(E:XK)(m:Mi (List Rr)):TA:=λσ H Q=>∃(c:Cn) (ρ:List Sl) (τ:St) (θ:List Sl) (o:Except Str (List Rr)) (ρ':List Sl),c.toKx=K/\Bd c σ H ρ τ θ/\m ρ=some (o,ρ')/\J5 K E c σ ρ' τ θ Q o
noncomputable abbrev kx(X:Cx):Kx:=⟨X.K,X.mg⟩
structure JE (X:Cx) (E:XK) (e:Expr) (m:Mi Rr):Prop where
 p:PE X e (TEm (kx X) E m)
structure JT (X:Cx) (E:XK) (e:Expr) (m:Mi Bool):Prop where
 p:PT X e (TTm (kx X) E m)
structure JW (X:Cx) (E:XK) (e:Expr) (m:Mi Bool):Prop where
 p:PW X e (TTm (kx X) E m)
structure JA (X:Cx) (E:XK) (es:List Expr) (m:Mi (List Rr)):Prop where
 p:PA X es (TAm (kx X) E m)
variable{X:Cx}{e:Expr}
theorem PE.weaken{t t':TE}(h:PE X e t)(f:∀σ H Q,t' σ H Q->t σ H Q):PE X e t':=λpins s σ H Q I q=>h pins s σ H Q I (f σ H Q q)
variable{t':TT}
theorem PT.weaken{t:TT}(h:PT X e t)(f:∀σ H Q,t' σ H Q->t σ H Q):PT X e t':=λpins s σ H Q I q=>h pins s σ H Q I (f σ H Q q)
theorem PW.weaken{t:TT}(h:PW X e t)(f:∀σ H Q,t' σ H Q->t σ H Q):PW X e t':=λwh pins s σ H Q I q=>h wh pins s σ H Q I (f σ H Q q)
theorem PA.weaken{e:List Expr}{t t':TA}(h:PA X e t)(f:∀σ H Q,t' σ H Q->t σ H Q):PA X e t':=λpos pins s σ H Q I q=>h pos pins s σ H Q I (f σ H Q q)
section
variable{c:Cn}{σ:St}{H:Hp}{ρ:List Sl}{τ:St}{θ:List Sl}
theorem Bd.drop{r:Rr}{v:V}(b:Bd c σ H ρ (bN r v τ) (bO r θ)):Bd c σ H ρ τ θ:=by
 cases r with
 | rf i=>exact b
 | fr a=>exact Bd.pop b
 | nw o=>exact Bd.pop b
theorem Bd.drops:∀{rs:List Rr}{vs:List V}{τ:St}{θ:List Sl},rs.length=vs.length->Bd c σ H ρ (cC rs vs τ) (cz rs θ)->Bd c σ H ρ τ θ
 | [],[],_,_,_,b=>b
 | r::rs,v::vs,_,_,e,b=>Bd.drop (r:=r) (v:=v) (Bd.drops (by simpa using e) b)
 | [],_::_,_,_,e,_=>by simp at e
 | _::_,[],_,_,e,_=>by simp at e
theorem Bd.top{v:V}{a:A}(b:Bd c σ H ρ (some v::τ) (s::θ))(e:s.a=some a):RA c.toKx H v a:=by
 obtain⟨L,nd,rel,_⟩:=b
 have rel:az c.toKx (c.g H L) H (some v::(τ++σ)) (s::(θ++ρ)) L:=rel
 cases rel with
 | cons h r =>
  obtain⟨u,z,q⟩:=h.read (g_same _ _ _) e
  cases z;exact q
theorem Bd.rd{r:Rr}{v:V}{a:A}(b:Bd c σ H ρ (bN r v τ) (bO r θ))(hv:VR σ r v)(e:res ρ r=some a):RA c.toKx H v a:=by
 cases r with
 | rf i =>
  unfold res at e
  cases es:ρ[i]? with
  | none=>simp only[es] at e;cases e
  | some s =>
   simp only[es] at e
   obtain⟨u,h1,h2⟩:=Bd.slot b es e
   have hv:σ[i]?=some (some v):=hv
   rw[hv] at h1;cases h1;exact h2
 | fr a'=>cases e;exact Bd.top b rfl
 | nw o=>cases e;exact Bd.top b rfl
theorem SlR.items{k:Kx}{x:Option V}(h:SlR k G H x s L)(sm:Sq G H) :
  (∀as,s.a=some (.lst as)->∃p vs,x=some (.ref p)/\SqL k.K H p vs/\RAs k G vs as)/\(∀as,s.a=some (.tup as)->∃p vs,x=some (.ref p)/\SqT k.K G p vs/\RAs k G vs as) /\
  (∀as,s.a=some (.dic as)->∃p vs,x=some (.ref p)/\Rd H p (.dK vs)/\RKs k G vs as):=by
 have lo:∀p o,LR k G H p o->(∀as,o.a=A.lst as->∃vs,SqL k.K H p vs/\RAs k G vs as)/\(∀as,o.a≠A.tup as)/\(∀as,o.a=A.dic as->∃vs,Rd H p (.dK vs)/\RKs k G vs as):=by
  intro p o h
  cases h with
  | lst e r=>exact⟨λas z=>by cases z;exact⟨_,.inl (.inl e),r⟩,λas z=>(by cases z),λas z=>(by cases z)⟩
  | dic e r=>exact⟨λas z=>(by cases z),λas z=>(by cases z),λas z=>by cases z;exact⟨_,.inl e,r⟩⟩
  | obj e m r=>exact⟨λas z=>(by cases z),λas z=>(by cases z),λas z=>(by cases z)⟩
 cases h with
 | un=>exact⟨λ_ z=>(by cases z),λ_ z=>(by cases z),λ_ z=>(by cases z)⟩
 | fr h =>
  refine⟨λas z=>?_,λas z=>?_,λas z=>?_⟩
  ·cases z;cases h with|lst e r=>exact⟨_,_,rfl,kB sm e,r⟩
  ·cases z;cases h with|tup e r=>exact⟨_,_,rfl,e,r⟩
  ·cases z;cases h with|dic e r=>exact⟨_,_,rfl,sm.rdD e,r⟩
 | lv h =>
  rename_i p o
  obtain⟨l1,l2,l3⟩:=lo p o h
  refine⟨λas z=>?_,λas z=>absurd (Mc z) (l2 as),λas z=>?_⟩
  ·obtain⟨vs,h1,h2⟩:=l1 as (Mc z);exact⟨p,vs,rfl,h1,h2⟩
  ·obtain⟨vs,h1,h2⟩:=l3 as (Mc z);exact⟨p,vs,rfl,h1,h2⟩
 | pv h =>
  rename_i p o
  obtain⟨l1,l2,l3⟩:=lo p o h
  refine⟨λas z=>?_,λas z=>absurd (Mc z) (l2 as),λas z=>?_⟩
  ·obtain⟨vs,h1,h2⟩:=l1 as (Mc z);exact⟨p,vs,rfl,h1,h2⟩
  ·obtain⟨vs,h1,h2⟩:=l3 as (Mc z);exact⟨p,vs,rfl,h1,h2⟩
noncomputable def It3(c:Cn)(H:Hp)(L:List Addr)(v:V)(a:A):Prop :=
  (∀as,a=.lst as->∃p vs,v=.ref p/\SqL c.K H p vs/\RAs c.toKx (c.g H L) vs as)/\(∀as,a=.tup as->∃p vs,v=.ref p/\SqT c.K (c.g H L) p vs/\RAs c.toKx (c.g H L) vs as) /\
  (∀as,a=.dic as->∃p vs,v=.ref p/\Rd H p (.dK vs)/\RKs c.toKx (c.g H L) vs as)
theorem It3.mono{v:V}{a:A}(h:It3 c H L v a)(s:∀a,a∈L'->a∈L):It3 c H L' v a:=by
 obtain⟨h1,h2,h3⟩:=h
 refine⟨λas e=>?_,λas e=>?_,λas e=>?_⟩
 ·obtain⟨p,vs,q1,q2,q3⟩:=h1 as e;exact⟨p,vs,q1,q2,q3.sm (cT s)⟩
 ·obtain⟨p,vs,q1,q2,q3⟩:=h2 as e;exact⟨p,vs,q1,eB (cT s) q2,q3.sm (cT s)⟩
 ·obtain⟨p,vs,q1,q2,q3⟩:=h3 as e;exact⟨p,vs,q1,q2,q3.sm (cT s)⟩
theorem It3.of{L2:List Addr}{x:Option V}{v:V}{a:A}(ex:x=some v)(h:SlR c.toKx (c.g H L) H x s L2)(ea:s.a=some a):It3 c H L v a:=by
 subst ex
 obtain⟨l1,l2,l3⟩:=h.items (g_same _ _ _)
 refine⟨λas z=>?_,λas z=>?_,λas z=>?_⟩<;>subst z
 ·obtain⟨p,vs,q,h1,h2⟩:=l1 as ea;exact⟨p,vs,Mc q,h1,h2⟩
 ·obtain⟨p,vs,q,h1,h2⟩:=l2 as ea;exact⟨p,vs,Mc q,h1,h2⟩
 ·obtain⟨p,vs,q,h1,h2⟩:=l3 as ea;exact⟨p,vs,Mc q,h1,h2⟩
theorem BdL.open{r:Rr}{v:V}{a:A}{L0:List Addr}(b:BdL c σ H ρ (bN r v τ) (bO r θ) L0)(hv:VR σ r v)(e:res ρ r=some a):∃L,(∀a,a∈L->a∈L0)/\BdL c σ H ρ τ θ L/\It3 c H L v a:=by
 have tmp:∀s,BdL c σ H ρ (some v::τ) (s::θ) L0->s.a=some a->∃L,(∀a,a∈L->a∈L0)/\BdL c σ H ρ τ θ L/\It3 c H L v a:=by
  intro s b ea
  obtain⟨nd,rel,own,fr,kp,lt,hdd⟩:=b
  have rel:az c.toKx (c.g H L0) H (some v::(τ++σ)) (s::(θ++ρ)) L0:=rel
  cases rel with
  | cons h r =>
   rename_i L1 L2
   have sm:Sq (c.g H (L1++L2)) (c.g H L2):=cT λa ha=>LW _ ha
   exact⟨L2,λa ha=>LW _ ha,⟨(Mp.mp nd).2.1,r.sm sm (λ_ _ _ e=>e),λp hp=>own p (LW _ hp),fr,kp,by simpa using lt,hdd⟩,It3.of rfl (h.sm sm (λ_ _ _ e=>e)) ea⟩
 cases r with
 | rf i =>
  unfold res at e
  cases es:ρ[i]? with
  | none=>simp only[es] at e;cases e
  | some s =>
   simp only[es] at e
   obtain⟨L1,L2,e1,r1,r2⟩:=az.split b.lt b.rel
   obtain⟨x,_,_,_,hx,hs,_⟩:=r2.at es
   have hv:σ[i]?=some (some v):=hv
   rw[hv] at hx
   exact⟨L0,λ_ h=>h,b,It3.of (Mc hx).symm hs e⟩
 | fr a'=>exact tmp _ b e
 | nw o=>exact tmp _ b e
theorem Bd.open{r:Rr}{v:V}{a:A}(b:Bd c σ H ρ (bN r v τ) (bO r θ))(hv:VR σ r v)(e:res ρ r=some a):∃L,BdL c σ H ρ τ θ L/\It3 c H L v a:=by
 obtain⟨L,b⟩:=b
 obtain⟨L',_,h⟩:=b.open hv e
 exact⟨L',h⟩
theorem Bd.sI{r r':Rr}{v v':V}{a a':A}(b:Bd c σ H ρ (bN r' v' (bN r v τ)) (bO r' (bO r θ)))(hv:VR σ r v)(hv':VR σ r' v')(e:res ρ r=some a)(e':res ρ r'=some a'):∃L,BdL c σ H ρ τ θ L/\It3 c H L v a/\It3 c H L v' a':=by
 obtain⟨L,b⟩:=b
 obtain⟨L1,s1,b1,i1⟩:=b.open hv' e'
 obtain⟨L2,s2,b2,i2⟩:=b1.open hv e
 exact⟨L2,b2,i2,i1.mono s2⟩
end
variable{x:Str}{pos:Pos}{α β:Type}{ρ':List Sl}{ma mb m:Mi Rr}{Q:VK}{r:R2}{op:CmpOp}{mt:Mi Bool}{es:List Expr}
section
variable{X:Cx}{E:XK}
noncomputable def af(i:Nat):Mi Rr:=λρ=>match ρ[i]? with
 | some (.fr a)=>some (.ok (.fr a),ρ)
 | some (.lv _)=>some (.ok (.rf i),ρ)
 | some (.pv _)=>some (.ok (.rf i),ρ)
 | _=>none
noncomputable def aw(i:Nat):Mi Rr:=λρ=>match ρ[i]? with
 | some (.fr a)=>some (.ok (.fr a),ρ)
 | some (.lv o)=>some (.ok (.fr o.a),ρ.set i (.fr o.a))
 | _=>none
noncomputable def mC(a:A):Mi Rr:=λρ=>some (.ok (.fr a),ρ)
theorem EG(hN:X.N[i]?=some x)(hv:Vis X.env.scope x)(hd:NDb x)(hcd:NCd x):JE X E (.Name x pos) (af i) :=
 ⟨PE.weaken (eY hN hv hd hcd) λσ H Q h=>by
  obtain⟨c,ρ,τ,θ,o,ρ',ek,b,em,q⟩:=h
  unfold af at em
  cases es:ρ[i]? with
  | none=>simp only[es] at em;cases em
  | some s =>
   cases s with
   | un=>simp only[es] at em;cases em
   | fr a =>
    simp only[es] at em;cases em
    obtain⟨v,h1,h2⟩:=b.load es
    exact⟨v,h1,q v H trivial h2⟩
   | lv o =>
    simp only[es] at em;cases em
    obtain⟨v,h1,h2⟩:=b.slot es rfl
    exact⟨v,h1,q v H h1 b⟩
   | pv o =>
    simp only[es] at em;cases em
    obtain⟨v,h1,h2⟩:=b.slot es rfl
    exact⟨v,h1,q v H h1 b⟩⟩
theorem Ay(hN:X.N[i]?=some x)(hv:Vis X.env.scope x)(hd:NDb x)(hcd:NCd x):JE X E (.Name x pos) (aw i) :=
 ⟨PE.weaken (eY hN hv hd hcd) λσ H Q h=>by
  obtain⟨c,ρ,τ,θ,o,ρ',ek,b,em,q⟩:=h
  unfold aw at em
  cases es:ρ[i]? with
  | none=>simp only[es] at em;cases em
  | some s =>
   cases s with
   | un=>simp only[es] at em;cases em
   | fr a =>
    simp only[es] at em;cases em
    obtain⟨v,h1,h2⟩:=b.load es
    exact⟨v,h1,q v H trivial h2⟩
   | lv o =>
    simp only[es] at em;cases em
    have b2:=b.rJ es
    have hi:i<ρ.length:=(Mb.mp es).1
    obtain⟨v,h1,h2⟩:=b2.load (i:=i) (a:=o.a) (MF hi)
    exact⟨v,h1,q v H trivial h2⟩
   | pv o=>simp only[es] at em;cases em⟩
theorem vz{v:V}{a:A}(h:PE X e (tC v))(r:∀G,RA (kx X) G v a):JE X E e (mC a):=⟨PE.weaken h λσ H Q h=>by
  obtain⟨c,ρ,τ,θ,o,ρ',ek,b,em,q⟩:=h
  cases em
  exact q v H trivial (b.push (by rw[ek];exact r))⟩
theorem GC{i j pos}:JE X E (.Constant (.int i) j pos) (mC (.int i)):=vz E5 λ_=>.int _
theorem H9{b j pos}:JE X E (.Constant (.bool b) j pos) (mC (.bl b)):=vz Jj λ_=>.bl _
theorem D7{j pos}:JE X E (.Constant .none j pos) (mC .non):=vz GS λ_=>.non
theorem xh{x j pos}:JE X E (.Constant (.str x) j pos) (mC (.str x)):=vz Dr λ_=>.str _
theorem Ap{v:V}{u:Value}{a:A}(hg:Gl X x)(hm:X.mg x=some u)(r:RelV v u)(ra:∀G,RA (kx X) G v a)(hd:NDb x):JE X E (.Name x pos) (mC a):=vz (ng hg hm r hd) ra
noncomputable def mOp(f:A->A->Option Rr)(ma mb:Mi Rr):Mi Rr:=ay ma λx=>ay mb λy=>λρ=>match res ρ x,res ρ y with
 | some a,some b=>match f a b with
  | some r=>some (.ok r,ρ)
  | none=>none
 | _,_=>none
def OpS(K:Kx)(r:R2)(f:A->A->Option Rr):Prop:=∀(c:Cn)(σ:St)(H:Hp)(ρ:List Sl)(τ:St)(θ:List Sl)(x y:Rr)(v w:V)(a b:A)(q:Rr)(Q:VK),c.toKx=K->VR σ x v->VR σ y w ->
 Bd c σ H ρ (bN y w (bN x v τ)) (bO y (bO x θ))->res ρ x=some a->res ρ y=some b->f a b=some q->(∀u H',VR σ q u->Bd c σ H' ρ (bN q u τ) (bO q θ)->Q u H')->r v w H Q
theorem bind_some{m:Mi α}{f:α->Mi β}{o:Except Str β}(h:ay m f ρ=some (o,ρ')):(∃x ρ1,m ρ=some (.ok x,ρ1)/\f x ρ1=some (o,ρ'))\/∃e,m ρ=some (.error e,ρ')/\o=.error e:=by
 unfold ay at h
 cases e:m ρ with
 | none=>simp only[e] at h;cases h
 | some p =>
  obtain⟨r,ρ1⟩:=p
  cases r with
  | ok x=>simp only[e] at h;exact .inl ⟨x,ρ1,rfl,h⟩
  | error x=>simp only[e] at h;cases h;exact .inr ⟨x,rfl,rfl⟩
theorem ba{f:Rr->Mi β}{o:Except Str β}(ek:c.toKx=kx X)(b:Bd c σ H ρ τ θ)(em:ay ma f ρ=some (o,ρ'))
  (h1:∀x v ρ1 H1,VR σ x v->Bd c σ H1 ρ1 (bN x v τ) (bO x θ)->f x ρ1=some (o,ρ')->Q v H1)
  (h2:∀e,o=.error e->∀C H,X.mg e=some (.ref C)->Bd c σ H ρ' τ θ->E (.ref C) none H):TEm (kx X) E ma σ H Q:=by
 rcases bind_some em with ⟨x,ρ1,e1,e2⟩|⟨e,e1,e2⟩
 ·exact⟨c,ρ,τ,θ,_,ρ1,ek,b,e1,λv H1 hv b1=>h1 x v ρ1 H1 hv b1 e2⟩
 ·exact⟨c,ρ,τ,θ,_,ρ',ek,b,e1,λC H1 hm b1=>h2 e e2 C H1 hm b1⟩
theorem gJ{x:Rr}{v:V}{o:Except Str β}(h:∀e,o=.error e->∀C H,X.mg e=some (.ref C)->Bd c σ H ρ' τ θ->E (.ref C) none H) :
  ∀e,o=.error e->∀C H,X.mg e=some (.ref C)->Bd c σ H ρ' (bN x v τ) (bO x θ)->E (.ref C) none H:=λe ee C H hm b=>h e ee C H hm b.drop
theorem aY{o:Except Str Rr}(q:Ret (kx X) E c σ ρ' τ θ Q o):∀e,o=.error e->∀C H,X.mg e=some (.ref C)->Bd c σ H ρ' τ θ->E (.ref C) none H:=λe ee=>by subst ee;exact q
theorem i4{o:Except Str Bool}{Q:Bool->Hp->Prop}(q:Jw (kx X) E c σ ρ' τ θ Q o):∀e,o=.error e->∀C H,X.mg e=some (.ref C)->Bd c σ H ρ' τ θ->E (.ref C) none H:=λe ee=>by subst ee;exact q
theorem xC{o:Except Str (List Rr)}{Q:List V->Hp->Prop}(q:J5 (kx X) E c σ ρ' τ θ Q o):∀e,o=.error e->∀C H,X.mg e=some (.ref C)->Bd c σ H ρ' τ θ->E (.ref C) none H:=λe ee=>by subst ee;exact q
theorem Bw{f:A->A->Option Rr}{x y:Rr}{o:Except Str Rr}(h:(match res ρ x,res ρ y with|some a,some b=>(match f a b with|some r=>some ((.ok r:Except Str Rr),ρ)|none=>none)|_,_=>none)=some (o,ρ')) :
  ∃a b r,res ρ x=some a/\res ρ y=some b/\f a b=some r/\o=.ok r/\ρ'=ρ:=by
 cases e1:res ρ x with
 | none=>simp only[e1] at h;cases h
 | some a =>
  cases e2:res ρ y with
  | none=>simp only[e1,e2] at h;cases h
  | some b =>
   simp only[e1,e2] at h
   cases e3:f a b with
   | none=>simp only[e3] at h;cases h
   | some r=>simp only[e3] at h;cases h;exact⟨a,b,r,rfl,rfl,e3,rfl,rfl⟩
theorem dm{f:A->A->Option Rr}(hf:OpS (kx X) r f)(σ:St)(H:Hp)(Q:VK)(h:TEm (kx X) E (mOp f ma mb) σ H Q):tOp r (TEm (kx X) E ma) (TEm (kx X) E mb) σ H Q:=by
 obtain⟨c,ρ,τ,θ,o,ρ',ek,b,em,q⟩:=h
 refine ba ek b em (λx v ρ1 H1 hv b1 em1=>?_) (aY q)
 refine ba ek b1 em1 (λy w ρ2 H2 hw b2 em2=>?_) (gJ (aY q))
 obtain⟨a,d,r,e1,e2,e3,rfl,rfl⟩:=Bw em2
 exact hf c σ H2 _ τ θ x y v w a d r Q ek hv hw b2 e1 e2 e3 q
theorem md{op:Operator}{f:A->A->Option Rr}{a b:Expr}(ho:OpR X (binaryOp op) r)(hf:OpS (kx X) r f)(ha:JE X E a ma)(hb:JE X E b mb):JE X E (.BinOp a op b pos) (mOp f ma mb) :=
 ⟨PE.weaken (Io ho ha.p hb.p) (dm hf)⟩
theorem dE{f:A->A->Option Rr}{a b:Expr}(ho:OpR X (compareOp op) r)(hf:OpS (kx X) r f)(ha:JE X E a ma)(hb:JE X E b mb)(hm:behindInMarks op b=false):JE X E (.Compare a [op] [b] pos) (mOp f ma mb) :=
 ⟨PE.weaken (Bb ho ha.p hb.p hm) (dm hf)⟩
noncomputable def asB:Rr->Option Bool
 | .fr (.bl b)=>some b
 | _=>none
noncomputable def ao(m:Mi Rr):Mi Bool:=ay m λr ρ=>match asB r with
 | some b=>some (.ok b,ρ)
 | none=>none
theorem dO(σ:St)(H:Hp)(Q:Bool->Hp->Prop)(h:TTm (kx X) E (ao m) σ H Q):TEm (kx X) E m σ H λx H'=>∃k,x=.bl k/\Q k H':=by
 obtain⟨c,ρ,τ,θ,o,ρ',ek,b,em,q⟩:=h
 refine ba ek b em (λx v ρ1 H1 hv b1 em1=>?_) (i4 q)
 cases x with
 | rf i=>cases em1
 | nw o=>cases em1
 | fr a =>
  cases a with
  | bl k =>
   cases em1
   have r:=Bd.top b1 (a:=.bl k) rfl
   cases r
   exact⟨k,rfl,q H1 b1.pop⟩
  | _=>cases em1
theorem dD{f:A->A->Option Rr}{a b:Expr}(ho:OpR X (compareOp op) r)(hf:OpS (kx X) r f)(ha:JE X E a ma)(hb:JE X E b mb)(hm:behindInMarks op b=false):JT X E (.Compare a [op] [b] pos) (ao (mOp f ma mb)) :=
 ⟨PT.weaken (zw ho ha.p hb.p hm) λσ H Q h=>dm hf σ H _ (dO σ H Q h)⟩
theorem ET(h:JE X E e m)(he:∀whole,isTrue e X.env whole=(do let v <- whole;standAt e.pos;holding [v] (truthy v)):=by intro _;rfl):JT X E e (ao m) :=
 ⟨PT.weaken (EM h.p he) λσ H Q h=>dO σ H Q h⟩
noncomputable def jL(m n:Mi Bool):Mi Bool:=ay m λb=>if b then n else dG false
noncomputable def mOr(m n:Mi Bool):Mi Bool:=ay m λb=>if b then dG true else n
noncomputable def fN(m:Mi Bool):Mi Bool:=ay m λb=>dG (!b)
theorem iZ{m:Mi Bool}{f:Bool->Mi β}{o:Except Str β}{Q:Bool->Hp->Prop}(ek:c.toKx=kx X)(b:Bd c σ H ρ τ θ)(em:ay m f ρ=some (o,ρ'))
  (h1:∀k ρ1 H1,Bd c σ H1 ρ1 τ θ->f k ρ1=some (o,ρ')->Q k H1)
  (h2:∀e,o=.error e->∀C H,X.mg e=some (.ref C)->Bd c σ H ρ' τ θ->E (.ref C) none H):TTm (kx X) E m σ H Q:=by
 rcases bind_some em with ⟨x,ρ1,e1,e2⟩|⟨e,e1,e2⟩
 ·exact⟨c,ρ,τ,θ,_,ρ1,ek,b,e1,λH1 b1=>h1 x ρ1 H1 b1 e2⟩
 ·exact⟨c,ρ,τ,θ,_,ρ',ek,b,e1,λC H1 hm b1=>h2 e e2 C H1 hm b1⟩
theorem EC{a:Expr}{m:Mi Bool}(h:JT X E a m):JT X E (.UnaryOp .Not a pos) (fN m):=⟨PT.weaken (GZ h.p) λσ H Q h=>by
 obtain⟨c,ρ,τ,θ,o,ρ',ek,b,em,q⟩:=h
 refine iZ ek b em (λk ρ1 H1 b1 em1=>?_) (i4 q)
 cases em1;exact q H1 b1⟩
theorem zf{a:Expr}{m:Mi Bool}(h:JT X E a m):JW X E (.BoolOp .And [a] pos) m:=⟨zq h.p⟩
theorem F8{a:Expr}{m:Mi Bool}(h:JT X E a m):JW X E (.BoolOp .Or [a] pos) m:=⟨Ff h.p⟩
theorem Ew{a b:Expr}{rest:List Expr}{m n:Mi Bool}(h:JT X E a m)(h':JW X E (.BoolOp .And (b::rest) pos) n):JW X E (.BoolOp .And (a::b::rest) pos) (jL m n):=⟨PW.weaken (GA h.p h'.p) λσ H Q h=>by
 obtain⟨c,ρ,τ,θ,o,ρ',ek,b,em,q⟩:=h
 refine iZ ek b em (λk ρ1 H1 b1 em1=>?_) (i4 q)
 cases k with
 | true=>rw[if_pos rfl];exact⟨c,ρ1,τ,θ,o,ρ',ek,b1,em1,q⟩
 | false=>rw[if_neg (by decide)];cases em1;exact q H1 b1⟩
theorem Hv{a b:Expr}{rest:List Expr}{m n:Mi Bool}(h:JT X E a m)(h':JW X E (.BoolOp .Or (b::rest) pos) n):JW X E (.BoolOp .Or (a::b::rest) pos) (mOr m n):=⟨PW.weaken (IZ h.p h'.p) λσ H Q h=>by
 obtain⟨c,ρ,τ,θ,o,ρ',ek,b,em,q⟩:=h
 refine iZ ek b em (λk ρ1 H1 b1 em1=>?_) (i4 q)
 cases k with
 | true=>rw[if_pos rfl];cases em1;exact q H1 b1
 | false=>rw[if_neg (by decide)];exact⟨c,ρ1,τ,θ,o,ρ',ek,b1,em1,q⟩⟩
theorem JU{m:Mi Bool}(h:JW X E e m):JT X E e m:=⟨h.p.pt⟩
noncomputable def lY(m n:Mi Rr):Mi Rr:=ay (ao m) λb=>if b then n else mC (.bl false)
noncomputable def Bx(m n:Mi Rr):Mi Rr:=ay (ao m) λb=>if b then mC (.bl true) else n
noncomputable def oE(m:Mi Rr):Mi Rr:=ay (ao m) λb=>mC (.bl (!b))
theorem mG{f:Bool->Mi β}{o:Except Str β}{Q:Bool->Hp->Prop}(ek:c.toKx=kx X)(b:Bd c σ H ρ τ θ)(em:ay (ao m) f ρ=some (o,ρ'))
  (h1:∀k ρ1 H1,Bd c σ H1 ρ1 τ θ->f k ρ1=some (o,ρ')->Q k H1)
  (h2:∀e,o=.error e->∀C H,X.mg e=some (.ref C)->Bd c σ H ρ' τ θ->E (.ref C) none H):TEm (kx X) E m σ H λx H'=>∃k,x=.bl k/\Q k H' :=
 dO σ H Q (iZ ek b em h1 h2)
theorem Dq{op}{a:Expr}(h:JE X E a m):JE X E (.BoolOp op [a] pos) m:=⟨Eb h.p⟩
theorem DL{a b:Expr}{rest:List Expr}{n:Mi Rr}(h:JE X E a m)(h':JE X E (.BoolOp .And (b::rest) pos) n):JE X E (.BoolOp .And (a::b::rest) pos) (lY m n):=⟨PE.weaken (Fv h.p h'.p) λσ H Q h=>by
 obtain⟨c,ρ,τ,θ,o,ρ',ek,b,em,q⟩:=h
 refine mG (Q:=λk H1=>if k=true then TEm (kx X) E n σ H1 Q else Q (.bl false) H1) ek b em (λk ρ1 H1 b1 em1=>?_) (aY q)
 cases k with
 | true=>rw[if_pos rfl];exact⟨c,ρ1,τ,θ,o,ρ',ek,b1,em1,q⟩
 | false=>rw[if_neg (by decide)];cases em1;exact q (.bl false) H1 trivial (b1.push λ_=>.bl _)⟩
theorem IM{a b:Expr}{rest:List Expr}{n:Mi Rr}(h:JE X E a m)(h':JE X E (.BoolOp .Or (b::rest) pos) n):JE X E (.BoolOp .Or (a::b::rest) pos) (Bx m n):=⟨PE.weaken (Ij h.p h'.p) λσ H Q h=>by
 obtain⟨c,ρ,τ,θ,o,ρ',ek,b,em,q⟩:=h
 refine mG (Q:=λk H1=>if k=true then Q (.bl true) H1 else TEm (kx X) E n σ H1 Q) ek b em (λk ρ1 H1 b1 em1=>?_) (aY q)
 cases k with
 | true=>rw[if_pos rfl];cases em1;exact q (.bl true) H1 trivial (b1.push λ_=>.bl _)
 | false=>rw[if_neg (by decide)];exact⟨c,ρ1,τ,θ,o,ρ',ek,b1,em1,q⟩⟩
theorem EK{a:Expr}(h:JE X E a m):JE X E (.UnaryOp .Not a pos) (oE m):=⟨PE.weaken (ES h.p) λσ H Q h=>by
 obtain⟨c,ρ,τ,θ,o,ρ',ek,b,em,q⟩:=h
 refine mG (Q:=λk H1=>Q (.bl (!k)) H1) ek b em (λk ρ1 H1 b1 em1=>?_) (aY q)
 cases em1;exact q (.bl (!k)) H1 trivial (b1.push λ_=>.bl _)⟩
noncomputable def mIf(t:Mi Bool)(m n:Mi Rr):Mi Rr:=ay t λb=>if b then m else n
theorem Jn{t a b:Expr}{n:Mi Rr}(ht:JT X E t mt)(ha:JE X E a m)(hb:JE X E b n):JE X E (.IfExp t a b pos) (mIf mt m n):=⟨PE.weaken (wA ht.p ha.p hb.p) λσ H Q h=>by
 obtain⟨c,ρ,τ,θ,o,ρ',ek,b,em,q⟩:=h
 refine iZ ek b em (λk ρ1 H1 b1 em1=>?_) (aY q)
 cases k with
 | true=>rw[if_pos rfl];exact⟨c,ρ1,τ,θ,o,ρ',ek,b1,em1,q⟩
 | false=>rw[if_neg (by decide)];exact⟨c,ρ1,τ,θ,o,ρ',ek,b1,em1,q⟩⟩
noncomputable def ag:Mi (List Rr):=dG []
noncomputable def aa(m:Mi Rr)(n:Mi (List Rr)):Mi (List Rr):=ay m λr=>ay n λrs=>dG (r::rs)
theorem yb:JA X E [] ag:=⟨PA.weaken dh λσ H Q h=>by
 obtain⟨c,ρ,τ,θ,o,ρ',ek,b,em,q⟩:=h
 cases em;exact q [] H trivial b⟩
theorem sd{n:Mi (List Rr)}(h:JE X E e m)(h':JA X E es n)(hs:starEach (e::es) X.env=(false,eval e X.env)::starEach es X.env:=by rfl):JA X E (e::es) (aa m n):=⟨PA.weaken (br h.p h'.p hs) λσ H Q h=>by
 obtain⟨c,ρ,τ,θ,o,ρ',ek,b,em,q⟩:=h
 refine ba ek b em (λx v ρ1 H1 hv b1 em1=>?_) (xC q)
 rcases bind_some em1 with ⟨rs,ρ2,e1,e2⟩|⟨e,e1,e2⟩
 ·cases e2
  exact⟨c,ρ1,_,_,_,ρ',ek,b1,e1,λvs H2 hvs b2=>q (v::vs) H2 ⟨hv,hvs⟩ b2⟩
 ·subst e2
  exact⟨c,ρ1,_,_,_,ρ',ek,b1,e1,λC H2 hm b2=>q C H2 hm b2.drop⟩⟩
end
variable{xs:St}{ss:List Sl}{rs:List Rr}
section
variable{c:Cn}{σ:St}{H:Hp}{ρ:List Sl}{τ:St}{θ:List Sl}
theorem xR{l:List α}{x:α}(h:l[i]?=some x):l.set i x=l:=by
 apply OB;intro j
 by_cases z:j=i
 ·subst z;rw[MF (Mb.mp h).1,h]
 ·rw[MR (M8 z)]
theorem F9(h:∀a,a∈L↔a∈L'):c.g H L=c.g H L':=by
 funext a
 by_cases z:a∈L\/a∈c.Hd
 ·rw[oC z,oC (by rwa[<- h a])]
 ·rw[cL (λy=>z (.inl y)) (λy=>z (.inr y)),cL (λy=>z (.inl ((h a).mpr y))) (λy=>z (.inr y))]
theorem BdL.perm(b:BdL c σ H ρ τ θ L){τ':St}{θ':List Sl}(pm:L'.Perm L)(lt:τ'.length=θ'.length)(r:az c.toKx (c.g H L) H (τ'++σ) (θ'++ρ') L')(kp:ft c.σ0 σ ρ'):BdL c σ H ρ' τ' θ' L' :=
 ⟨(pm.nodup_iff).mpr b.nd,by rw[F9 (L':=L) λa=>pm.mem_iff];exact r,λp hp=>b.own p (pm.mem_iff.mp hp),b.fr,kp,lt,b.hd⟩
theorem Bd.Hj{v:V}(e:xs.length=ss.length)(b:Bd c σ H ρ (xs++some v::τ) (ss++.lv o::θ)):Bd c σ H ρ (xs++some v::τ) (ss++.fr o.a::θ):=by
 obtain⟨L,b⟩:=b
 have r:az c.toKx (c.g H L) H (xs++(some v::(τ++σ))) (ss++(.lv o::(θ++ρ))) L:=by have:=b.rel;simpa[L7] using this
 obtain⟨L1,L2,e1,r1,r2⟩:=az.split e r
 cases r2 with
 | cons h r3 =>
  rename_i La Lb
  cases h with
  | lv h =>
   rename_i p
   have nd:=b.nd
   rw[e1] at nd
   have hp:p∉L1++Lb:=by
    obtain⟨n1,n2,n3⟩:=Mp.mp nd
    obtain⟨m1,m2⟩:=MI.mp n2
    intro z
    rcases Me.mp z with z|z
    ·exact n3 p z p (by simp) rfl
    ·exact m1 z
   have sub:∀a,a∈L1++Lb->a∈L:=λa ha=>by rw[e1];simp at ha ⊢;rcases ha with z|z<;>simp[z]
   have sm:Sq (c.g H L) (c.g H (L1++Lb)):=cT sub
   have hin:p∈L:=by rw[e1];simp
   refine⟨L1++Lb,?_,?_,λq hq=>b.own q (sub q hq),b.fr,b.kp,by have:=b.lt;simp at this ⊢;omega,b.hd⟩
   ·obtain⟨n1,n2,n3⟩:=Mp.mp nd
    exact Mp.mpr ⟨n1,(MI.mp n2).2,λa ha b' hb=>n3 a ha b' (L6 _ hb)⟩
   ·have:=(r1.sm sm (λ_ _ _ e=>e)).app (az.cons (L:=[]) (.fr (h.a' sm λu e=>by rw[cL hp (b.nhd hin)];exact e)) (r3.sm sm (λ_ _ _ e=>e)))
    simpa[L7] using this
theorem Bd.DC{v:V}{a:A}(e:xs.length=ss.length)(b:Bd c σ H ρ (xs++τ) (ss++θ))(hv:σ[i]?=some (some v))(hs:ρ[i]?=some (.fr a)):Bd c σ H ρ (xs++some v::τ) (ss++.fr a::θ):=by
 obtain⟨L,b⟩:=b
 obtain⟨M1,M2,_,_,r2⟩:=az.split b.lt b.rel
 obtain⟨x,_,_,_,hx,hsl,_⟩:=r2.at hs
 rw[hv] at hx;cases hx
 cases hsl with
 | fr h =>
  have r:az c.toKx (c.g H L) H (xs++(τ++σ)) (ss++(θ++ρ)) L:=by have:=b.rel;simpa[L7] using this
  obtain⟨L1,L2,e1,r1,r2⟩:=az.split e r
  refine⟨L,b.nd,?_,b.own,b.fr,b.kp,by have:=b.lt;simp at this ⊢;omega,b.hd⟩
  have:=r1.app (az.cons (L:=[]) (.fr h) r2)
  rw[e1] at this ⊢
  simpa[L7] using this
theorem yC(L1 L2 M1 M3:List Addr)(p:Addr):(L1++p::(L2++(M1++M3))).Perm (L1++(L2++(M1++p::M3))):=by
 rw[O2];intro a;simp only[Ph,QR];omega
theorem Bd.Gf{v:V}(e:xs.length=ss.length)(b:Bd c σ H ρ (xs++τ) (ss++θ))(hv:σ[i]?=some (some v))(hs:ρ[i]?=some s)(hk:s=.lv o\/s=.pv o) :
  Bd c σ H (ρ.set i .un) (xs++some v::τ) (ss++.lv o::θ):=by
 obtain⟨L,b⟩:=b
 have r:az c.toKx (c.g H L) H (xs++(τ++σ)) (ss++(θ++ρ)) L:=by have:=b.rel;simpa[L7] using this
 obtain⟨L1,L2,e1,r1,r2⟩:=az.split e r
 obtain⟨N1,N2,e2,r3,r4⟩:=az.split (by have:=b.lt;simp at this;omega) r2
 obtain⟨x,M1,M2,M3,hx,hsl,e3,ins⟩:=r4.at hs
 rw[hv] at hx;cases hx
 have fin:∀p,v=.ref p->M2=[p]->LR c.toKx (c.g H L) H p o->Bd c σ H (ρ.set i .un) (xs++some v::τ) (ss++.lv o::θ):=by
  intro p ev em h
  subst ev em
  have r5:=ins (y:=some (.ref p)) (t:=.un) (L':=[]) (Sq.refl _) (λ_ _ _ e=>e) (.un _)
  rw[xR hv] at r5
  have r6:=r1.app (az.cons (SlR.lv h) (r3.app r5))
  have pm:(L1++([p]++(N1++(M1++[]++M3)))).Perm L:=by
   rw[e1,e2,e3]
   simpa using yC L1 N1 M1 M3 p
  exact⟨_,b.perm pm (by have:=b.lt;simp at this ⊢;omega) (by simpa[L7] using r6) (b.kp.A2 (λo z=>by cases z))⟩
 rcases hk with rfl|rfl
 ·cases hsl with|lv h=>exact fin _ rfl rfl h
 ·cases hsl with|pv h=>exact fin _ rfl rfl h
theorem Bd.putBack{v:V}{t:Sl}(b:Bd c σ H ρ (some v::τ) (.lv o::θ))(hv:σ[i]?=some (some v))(hs:ρ[i]?=some .un)(hk:t=.lv o\/(t=.pv o/\σ[i]?=c.σ0[i]?)):Bd c σ H (ρ.set i t) τ θ:=by
 obtain⟨L,b⟩:=b
 have r:az c.toKx (c.g H L) H (some v::(τ++σ)) (.lv o::(θ++ρ)) L:=b.rel
 cases r with
 | cons h r =>
  rename_i L0 L'
  obtain⟨L1,L2,e1,r1,r2⟩:=az.split (by have:=b.lt;simpa using this) r
  obtain⟨x,M1,M2,M3,hx,hsl,e3,ins⟩:=r2.at hs
  cases hsl with
  | un =>
   cases h with
   | lv h =>
    rename_i p
    have fin:SlR c.toKx (c.g H ([p]++L')) H (some (.ref p)) t [p]->ft c.σ0 σ (ρ.set i t)->Bd c σ H (ρ.set i t) τ θ:=λh kp=>by
     have r5:=ins (Sq.refl _) (λ_ _ _ e=>e) h
     rw[xR hv] at r5
     have pm:(L1++(M1++[p]++M3)).Perm ([p]++L'):=by
      rw[e1,e3];rw[O2];intro a;simp only[Ph,QR,List.count_nil];omega
     exact⟨_,b.perm pm (by have:=b.lt;simpa using this) (r1.app r5) kp⟩
    rcases hk with rfl|⟨rfl,hk⟩
    ·exact fin (.lv h) (b.kp.A2 (λ_ z=>by cases z))
    ·refine fin (.pv h) λj o' q=>?_
     by_cases z:j=i
     ·subst z;exact hk
     ·rw[MR (M8 z)] at q;exact b.kp j o' q
theorem c8:∀(rs:List Rr)(vs:List V)(τ:St),cC rs vs τ=cC rs vs []++τ
 | [],_,τ=>rfl
 | r::rs,[],τ=>rfl
 | r::rs,v::vs,τ=>by
  show cC rs vs (bN r v τ)=cC rs vs (bN r v [])++τ
  rw[c8 rs vs (bN r v τ),c8 rs vs (bN r v []),L7]
  congr 1
  cases r<;>rfl
theorem dk:∀(rs:List Rr)(θ:List Sl),cz rs θ=cz rs []++θ
 | [],θ=>rfl
 | r::rs,θ=>by
  show cz rs (bO r θ)=cz rs (bO r [])++θ
  rw[dk rs (bO r θ),dk rs (bO r []),L7]
  congr 1
  cases r<;>rfl
theorem VRs.len:∀{rs:List Rr}{vs:List V},VRs σ rs vs->rs.length=vs.length
 | [],[],_=>rfl
 | _::rs,_::vs,h=>by rw[LX,LX,VRs.len h.2]
 | [],_::_,h=>h.elim
 | _::_,[],h=>h.elim
theorem nJ:∀(rs:List Rr)(vs:List V),rs.length=vs.length->(cC rs vs []).length=(cz rs []).length
 | [],[],_=>rfl
 | r::rs,v::vs,h=>by
  show (cC rs vs (bN r v [])).length=(cz rs (bO r [])).length
  rw[c8,dk,Ma,Ma,nJ rs vs (by simpa using h)]
  congr 1
  cases r<;>rfl
 | [],_::_,h=>by simp at h
 | _::_,[],h=>by simp at h
noncomputable def aV:Rr->List Sl->Option (A×List Sl)
 | .fr a,ρ=>some (a,ρ)
 | .nw o,ρ=>some (o.a,ρ)
 | .rf i,ρ=>match ρ[i]? with
  | some (.lv o)=>some (o.a,ρ.set i (.fr o.a))
  | some (.fr a)=>some (a,ρ)
  | _=>none
noncomputable def eC:List Rr->List Sl->Option (List A×List Sl)
 | [],ρ=>some ([],ρ)
 | r::rs,ρ=>match aV r ρ with
  | some (a,ρ1)=>match eC rs ρ1 with
   | some (as,ρ2)=>some (a::as,ρ2)
   | none=>none
  | none=>none
theorem Bd.aV{r:Rr}{v:V}{a:A}{ρ':List Sl}{xs:St}{ss:List Sl}(e:xs.length=ss.length)(b:Bd c σ H ρ (xs++bN r v τ) (ss++bO r θ))(hv:VR σ r v)(h:aV r ρ=some (a,ρ')):Bd c σ H ρ' (xs++some v::τ) (ss++.fr a::θ):=by
 cases r with
 | fr a'=>cases h;exact b
 | nw o=>cases h;exact Bd.Hj e b
 | rf i =>
  unfold M.aV at h
  cases es:ρ[i]? with
  | none=>simp only[es] at h;cases h
  | some s =>
   cases s with
   | un=>simp only[es] at h;cases h
   | pv o=>simp only[es] at h;cases h
   | fr a'=>simp only[es] at h;cases h;exact Bd.DC e b hv es
   | lv o =>
    simp only[es] at h;cases h
    have b2:=Bd.rJ b es
    exact Bd.DC e b2 hv (MF (Mb.mp es).1)
theorem uK{r:Rr}{as:List A}(h:eC (r::rs) ρ=some (as,ρ')):∃a as' ρ1,aV r ρ=some (a,ρ1)/\eC rs ρ1=some (as',ρ')/\as=a::as':=by
 unfold eC at h
 cases e1:aV r ρ with
 | none=>simp only[e1] at h;cases h
 | some p =>
  obtain⟨a,ρ1⟩:=p
  simp only[e1] at h
  cases e2:eC rs ρ1 with
  | none=>simp only[e2] at h;cases h
  | some q=>obtain⟨as',ρ2⟩:=q;simp only[e2] at h;cases h;exact⟨a,as',ρ1,rfl,e2,rfl⟩
theorem Bd.eC:∀{rs:List Rr}{vs:List V}{as:List A}{ρ ρ':List Sl}{τ:St}{θ:List Sl},VRs σ rs vs->Bd c σ H ρ (cC rs vs τ) (cz rs θ)->eC rs ρ=some (as,ρ')->Bd c σ H ρ' (vs.reverse.map some++τ) (as.reverse.map Sl.fr++θ)/\vs.length=as.length
 | [],[],_,_,_,_,_,_,b,h=>by cases h;exact⟨b,rfl⟩
 | r::rs,v::vs,_,ρ,ρ',τ,θ,hv,b,h=>by
  obtain⟨a,as,ρ1,e1,e2,rfl⟩:=uK h
  have b:Bd c σ H ρ (cC rs vs (bN r v τ)) (cz rs (bO r θ)):=b
  rw[c8,dk] at b
  have b1:=Bd.aV (nJ rs vs (VRs.len hv.2)) b hv.1 e1
  rw[<- c8 rs vs (some v::τ),<- dk rs (.fr a::θ)] at b1
  obtain⟨b2,e3⟩:=Bd.eC hv.2 b1 e2
  exact⟨by simpa using b2,by simp[e3]⟩
 | [],_::_,_,_,_,_,_,h,_,_=>h.elim
 | _::_,[],_,_,_,_,_,h,_,_=>h.elim
end
section
variable{X:Cx}{E:XK}
theorem qX{m:Mi (List Rr)}{f:List Rr->Mi β}{o:Except Str β}{Q:List V->Hp->Prop}(ek:c.toKx=kx X)(b:Bd c σ H ρ τ θ)(em:ay m f ρ=some (o,ρ'))
  (h1:∀rs vs ρ1 H1,VRs σ rs vs->Bd c σ H1 ρ1 (cC rs vs τ) (cz rs θ)->f rs ρ1=some (o,ρ')->Q vs H1)
  (h2:∀e,o=.error e->∀C H,X.mg e=some (.ref C)->Bd c σ H ρ' τ θ->E (.ref C) none H):TAm (kx X) E m σ H Q:=by
 rcases bind_some em with ⟨x,ρ1,e1,e2⟩|⟨e,e1,e2⟩
 ·exact ⟨c,ρ,τ,θ,_,ρ1,ek,b,e1,fun vs H1 hv b1=>h1 x vs ρ1 H1 hv b1 e2⟩
 ·exact ⟨c,ρ,τ,θ,_,ρ',ek,b,e1,fun C H1 hm b1=>h2 e e2 C H1 hm b1⟩
noncomputable def aF (m:Mi (List Rr)):Mi Rr:=ay m fun rs ρ=>match eC rs ρ with
 | some (as,ρ')=>if as.length ≤ 1000 then some (.ok (.fr (.tup as)),ρ') else none
 | none=>none
noncomputable def bF(m:Mi (List Rr)):Mi Rr:=ay m λrs ρ=>match eC rs ρ with
 | some (as,ρ')=>if as.length<=1000 then some (.ok (.nw (.lst as)),ρ') else none
 | none=>none
theorem m7{k:Kx}{as:List A}:∀G,RAs k G vs.reverse as.reverse->RAs k G vs as:=λG h=>by have:=h.rev;simpa using this
theorem n5:1000<=sizeLine:=by rw[sizeLine_eq];decide
theorem Ef{m:Mi (List Rr)}{x1 pos}(h:JA X E es m):JE X E (.Tuple es x1 pos) (aF m):=⟨PE.weaken (ye h.p) λσ H Q h=>by
 obtain⟨c,ρ,τ,θ,o,ρ',ek,b,em,q⟩:=h
 refine qX ek b em (λrs vs ρ1 H1 hv b1 em1=>?_) (aY q)
 cases e1:eC rs ρ1 with
 | none=>simp only[e1] at em1;cases em1
 | some p =>
  obtain⟨as,ρ2⟩:=p
  simp only[e1] at em1
  obtain⟨b2,e2⟩:=Bd.eC hv b1 e1
  split at em1
  ·rename_i hl
   cases em1
   exact⟨by have:=n5;omega,λp hp=>q (.ref p) _ trivial (Bd.Fs b2 (by simp[e2]) hp vs as m7)⟩
  ·cases em1⟩
theorem Gk{m:Mi (List Rr)}{pos}(h:JA X E es m):JE X E (.List es pos) (bF m):=⟨PE.weaken (Gi h.p) λσ H Q h=>by
 obtain⟨c,ρ,τ,θ,o,ρ',ek,b,em,q⟩:=h
 refine qX ek b em (λrs vs ρ1 H1 hv b1 em1=>?_) (aY q)
 cases e1:eC rs ρ1 with
 | none=>simp only[e1] at em1;cases em1
 | some p =>
  obtain⟨as,ρ2⟩:=p
  simp only[e1] at em1
  obtain⟨b2,e2⟩:=Bd.eC hv b1 e1
  split at em1
  ·rename_i hl
   cases em1
   exact⟨by have:=n5;omega,λp hp=>q (.ref p) _ trivial (Bd.qg b2 (by simp[e2]) hp vs as m7)⟩
  ·cases em1⟩
end
inductive Fl where
 | nx|rt (s:Sl)|bk|ct|ex (c:Str)
noncomputable abbrev Ms:=List Sl->Option (Fl×List Sl)
noncomputable def a8:Nat->List Sl->List Sl
 | 0,_=>[]
 | n+1,[]=>.un::a8 n []
 | n+1,.pv o::ρ=>.pv o::a8 n ρ
 | n+1,_::ρ=>.un::a8 n ρ
noncomputable def SpM(K:Kx)(n:Nat)(m:Ms):Sp:=λvs H Q E=>vs.length=n/\∃(c:Cn) (ρ:List Sl) (f:Fl) (ρ':List Sl),c.toKx=K/\c.σ0=vs.map some/\c.H0=H/\BdL c (vs.map some) H ρ [] [] c.Lp/\m ρ=some (f,ρ') /\
  (match f with
   | .rt s=>∀v H',(∀o,s≠.pv o)->Bd c (vs.map some) H' (a8 vs.length ρ') [some v] [s]->Q v H'
   | .ex x=>∀C H',K.mg x=some (.ref C)->Bd c (vs.map some) H' (a8 vs.length ρ') [] []->E (.ref C) none H'
   | _=>False)
section
variable{k:Kx}{G H:Hp}
theorem az.back:∀{σ0 σ:St}{ρ:List Sl}{L:List Addr},az k G H σ ρ L->(∀(i:Nat)(o:LO),ρ[i]?=some (.pv o)->i<σ0.length->σ[i]?=σ0[i]?)->∃L',L'.Sublist L/\az k G H σ0 (a8 σ0.length ρ) L'
 | [],_,_,_,_,_=>⟨[],QL _,.nil⟩
 | x::σ0,_,_,_,.nil,h=>by
  obtain⟨L',s,r⟩:=az.back (σ0:=σ0) (σ:=[]) (ρ:=[]) .nil (λi o e=>by simp at e)
  exact⟨L',s,az.cons (L:=[]) (.un x) r⟩
 | x::σ0,_,_,_,.cons (x:=y) (s:=s) (ρ:=ρ1) (L:=L1) (L':=L2) hs r,h=>by
  obtain⟨L',sl,r'⟩:=az.back (σ0:=σ0) r (λi o e hi=>by have:=h (i+1) o e (by simpa using hi);simpa using this)
  have fin:a8 (x::σ0).length (s::ρ1)=.un::a8 σ0.length ρ1->∃L',L'.Sublist (L1++L2)/\az k G H (x::σ0) (a8 (x::σ0).length (s::ρ1)) L':=λe=>by
   rw[e]
   exact⟨L',sl.trans (PM _ _),az.cons (L:=[]) (.un x) r'⟩
  cases s with
  | un=>exact fin rfl
  | fr a=>exact fin rfl
  | lv o=>exact fin rfl
  | pv o =>
   have e:=h 0 o rfl (by simp)
   have e:y=x:=by simpa using e
   subst e
   exact⟨L1++L',Nl (Nw _) sl,az.cons hs r'⟩
end
variable{as:List Sl}
section
variable{c:Cn}{σ:St}{H:Hp}{ρ:List Sl}{τ:St}{θ:List Sl}
theorem Bd.back(b:Bd c σ H ρ τ θ):Bd c c.σ0 H (a8 c.σ0.length ρ) τ θ:=by
 obtain⟨L,b⟩:=b
 obtain⟨L1,L2,e1,r1,r2⟩:=az.split b.lt b.rel
 obtain⟨L',sl,r⟩:=r2.back (σ0:=c.σ0) (λi o e _=>b.kp i o e)
 have sl2:(L1++L').Sublist L:=by rw[e1];exact Nl (Nw _) sl
 have sm:Sq (c.g H L) (c.g H (L1++L')):=cT λa ha=>sl2.subset ha
 exact⟨L1++L',b.nd.sublist sl2,(r1.app r).sm sm (λ_ _ _ e=>e),λp hp=>b.own p (sl2.subset hp),b.fr,λi o _=>rfl,b.lt,b.hd⟩
noncomputable def take1:Rr->List Sl->Option (Sl×List Sl)
 | .fr a,ρ=>some (.fr a,ρ)
 | .nw o,ρ=>some (.fr o.a,ρ)
 | .rf i,ρ=>match ρ[i]? with
  | some (.lv o)=>some (.lv o,ρ.set i .un)
  | some (.pv o)=>some (.lv o,ρ.set i .un)
  | some (.fr a)=>some (.fr a,ρ)
  | _=>none
noncomputable def cB:List Rr->List Sl->Option (List Sl×List Sl)
 | [],ρ=>some ([],ρ)
 | r::rs,ρ=>match take1 r ρ with
  | some (a,ρ1)=>match cB rs ρ1 with
   | some (as,ρ2)=>some (a::as,ρ2)
   | none=>none
  | none=>none
noncomputable def toP:Sl->Sl
 | .lv o=>.pv o
 | s=>s
theorem pR{r:Rr}(h:cB (r::rs) ρ=some (as,ρ')):∃a as' ρ1,take1 r ρ=some (a,ρ1)/\cB rs ρ1=some (as',ρ')/\as=a::as':=by
 unfold cB at h
 cases e1:take1 r ρ with
 | none=>simp only[e1] at h;cases h
 | some p =>
  obtain⟨a,ρ1⟩:=p
  simp only[e1] at h
  cases e2:cB rs ρ1 with
  | none=>simp only[e2] at h;cases h
  | some q=>obtain⟨as',ρ2⟩:=q;simp only[e2] at h;cases h;exact⟨a,as',ρ1,rfl,e2,rfl⟩
theorem Bd.take1{r:Rr}{v:V}{a:Sl}{ρ':List Sl}{xs:St}{ss:List Sl}(e:xs.length=ss.length)(b:Bd c σ H ρ (xs++bN r v τ) (ss++bO r θ))(hv:VR σ r v)(h:take1 r ρ=some (a,ρ')):Bd c σ H ρ' (xs++some v::τ) (ss++a::θ):=by
 cases r with
 | fr a'=>cases h;exact b
 | nw o=>cases h;exact Bd.Hj e b
 | rf i =>
  unfold M.take1 at h
  cases es:ρ[i]? with
  | none=>simp only[es] at h;cases h
  | some s =>
   cases s with
   | un=>simp only[es] at h;cases h
   | fr a'=>simp only[es] at h;cases h;exact Bd.DC e b hv es
   | lv o=>simp only[es] at h;cases h;exact Bd.Gf e b hv es (.inl rfl)
   | pv o=>simp only[es] at h;cases h;exact Bd.Gf e b hv es (.inr rfl)
theorem Bd.cB:∀{rs:List Rr}{vs:List V}{as:List Sl}{ρ ρ':List Sl}{τ:St}{θ:List Sl},VRs σ rs vs->Bd c σ H ρ (cC rs vs τ) (cz rs θ)->cB rs ρ=some (as,ρ')->Bd c σ H ρ' (vs.reverse.map some++τ) (as.reverse++θ)/\vs.length=as.length
 | [],[],_,_,_,_,_,_,b,h=>by cases h;exact⟨b,rfl⟩
 | r::rs,v::vs,_,ρ,ρ',τ,θ,hv,b,h=>by
  obtain⟨a,as,ρ1,e1,e2,rfl⟩:=pR h
  have b:Bd c σ H ρ (cC rs vs (bN r v τ)) (cz rs (bO r θ)):=b
  rw[c8,dk] at b
  have b1:=Bd.take1 (nJ rs vs (VRs.len hv.2)) b hv.1 e1
  rw[<- c8 rs vs (some v::τ),<- dk rs (a::θ)] at b1
  obtain⟨b2,e3⟩:=Bd.cB hv.2 b1 e2
  exact⟨by simpa using b2,by simp[e3]⟩
 | [],_::_,_,_,_,_,_,h,_,_=>h.elim
 | _::_,[],_,_,_,_,_,h,_,_=>h.elim
noncomputable def nU(ρ0:List Sl):Rr->Sl->List Sl->Option (List Sl)
 | .rf i,s,ρ=>match ρ0[i]?,s,ρ[i]? with
  | some (.lv _),.pv o,some .un=>some (ρ.set i (.lv o))
  | some (.pv _),.pv o,some .un=>some (ρ.set i (.pv o))
  | some (.fr _),_,_=>some ρ
  | _,_,_=>none
 | _,_,ρ=>some ρ
noncomputable def putL(ρ0:List Sl):List Rr->List Sl->List Sl->Option (List Sl)
 | r::rs,s::ss,ρ=>match putL ρ0 rs ss ρ with
  | some ρ1=>nU ρ0 r s ρ1
  | none=>none
 | [],[],ρ=>some ρ
 | _,_,_=>none
end
section
variable{k:Kx}{G H:Hp}
theorem az.E3:∀{σ:St}{ρ:List Sl}{L:List Addr},az k G H σ ρ L->∃L',L'.Perm L/\az k G H σ.reverse ρ.reverse L'
 | _,_,_,.nil=>⟨[],.refl _,.nil⟩
 | _,_,_,.cons (L:=L1) (L':=L2) h r=>by
  obtain⟨L',pm,r'⟩:=az.E3 r
  refine⟨L'++(L1++[]),?_,by rw[OC,OC];exact r'.app (az.cons h .nil)⟩
  rw[MB]
  exact(pm.append_right L1).trans NG
theorem az.CO:∀{σ:St}{ρ:List Sl}{L:List Addr},az k G H σ ρ L->∀p∈L,∀ob vs,H p=some (.frz ob (.dK vs))->False
 | _,_,_,.nil,p,hp,_,_,_=>by cases hp
 | _,_,_,.cons h r,p,hp,ob,vs,e=>by
  rcases Me.mp hp with z|z
  ·have lr:∀o,LR k G H p o->False:=λo h=>by cases h with|lst q _=>rw[q] at e;cases e|dic q _=>rw[q] at e;cases e|obj q _ _=>rw[q] at e;cases e
   cases h with
   | un=>cases z
   | fr=>cases z
   | lv h=>rw[Mj.mp z] at lr;exact lr _ h
   | pv h=>rw[Mj.mp z] at lr;exact lr _ h
  ·exact r.CO p z ob vs e
theorem az.toP:∀{σ:St}{ρ:List Sl}{L:List Addr},az k G H σ ρ L->az k G H σ (ρ.map toP) L
 | _,_,_,.nil=>.nil
 | _,_,_,.cons h r=>by
  refine az.cons ?_ (az.toP r)
  cases h with
  | un=>exact .un _
  | fr h=>exact .fr h
  | lv h=>exact .pv h
  | pv h=>exact .pv h
noncomputable def toL:Sl->Sl
 | .pv o=>.lv o
 | s=>s
theorem az.toL:∀{σ:St}{ρ:List Sl}{L:List Addr},az k G H σ ρ L->az k G H σ (ρ.map toL) L
 | _,_,_,.nil=>.nil
 | _,_,_,.cons h r=>by
  refine az.cons ?_ (az.toL r)
  cases h with
  | un=>exact .un _
  | fr h=>exact .fr h
  | lv h=>exact .lv h
  | pv h=>exact .lv h
end
section
variable{c:Cn}{σ:St}{H:Hp}{ρ:List Sl}{τ:St}{θ:List Sl}
theorem Bd.enter(e:vs.length=as.length)(b:Bd c σ H ρ (vs.reverse.map some++τ) (as.reverse++θ)) :
  ∃c':Cn,c'.toKx=c.toKx/\c'.σ0=vs.map some/\c'.H0=H/\BdL c' (vs.map some) H (as.map toP) [] [] c'.Lp /\
   ∀(H':Hp)(ρ':List Sl)(τ':St)(θ':List Sl),(∀s∈θ',∀o,s≠.pv o)->ρ'.length=vs.length->Bd c' (vs.map some) H' ρ' τ' θ'->Bd c σ H' ρ (vs.reverse.map some++(τ'++τ)) ((ρ'.map toL).reverse++(θ'++θ)):=by
 obtain⟨L,b⟩:=b
 have r:az c.toKx (c.g H L) H (vs.reverse.map some++(τ++σ)) (as.reverse++(θ++ρ)) L:=by have:=b.rel;simpa[L7] using this
 obtain⟨La,Lr,e1,r1,r2⟩:=az.split (by simp[e]) r
 obtain⟨Lp,pm,r3⟩:=r1.E3
 have r3:az c.toKx (c.g H L) H (vs.map some) as Lp:=by simpa[<- QM] using r3
 have hmem:∀a,a∈Lp++(Lr++c.Hd)↔a∈L++c.Hd:=λa=>by
  rw[e1,Me,Me,Me,Me,pm.mem_iff]
  constructor
  ·rintro(h|h|h)
   ·exact .inl (.inl h)
   ·exact .inl (.inr h)
   ·exact .inr h
  ·rintro((h|h)|h)
   ·exact .inl h
   ·exact .inr (.inl h)
   ·exact .inr (.inr h)
 have nd:=b.nd
 rw[e1] at nd
 obtain⟨n1,n2,n3⟩:=Mp.mp nd
 let c':Cn:={ toKx:=c.toKx,σ0:=vs.map some,H0:=H,Lp:=Lp,Hd:=Lr++c.Hd,Wk:=[] }
 have hg:∀H1 L1 L2,(∀a,a∈L1++(Lr++c.Hd)↔a∈L2++c.Hd)->c'.g H1 L1=c.g H1 L2:=λH1 L1 L2 hm=>by
  funext a
  show (if a∈L1++(Lr++c.Hd) then none else H1 a)=(if a∈L2++c.Hd then none else H1 a)
  by_cases z:a∈L1++(Lr++c.Hd)
  ·rw[if_pos z,if_pos ((hm a).mp z)]
  ·rw[if_neg z,if_neg λy=>z ((hm a).mpr y)]
 refine⟨c',rfl,rfl,rfl,⟨(pm.nodup_iff).mpr n1,?_,λp hp=>.inl hp,⟨λq o h=>⟨o,h,λ_ _=>rfl⟩,λq hq=>by cases hq⟩,λi o _=>rfl,rfl,λp hp=>?_⟩,?_⟩
 ·show az c.toKx (c'.g H Lp) H (vs.map some) (as.map toP) Lp
  rw[hg H Lp L hmem]
  exact r3.toP
 ·rcases Me.mp hp with z|z
  ·exact⟨r2.is p z,λy=>n3 p (pm.mem_iff.mp y) p z rfl⟩
  ·refine⟨?_,λy=>b.nhd (by rw[e1];exact Mm _ (pm.mem_iff.mp y)) z⟩
   obtain⟨⟨u,h1⟩,h2⟩:=b.hd p z
   obtain⟨u',h3,_⟩:=b.fr.st p u h1
   exact⟨u',h3⟩
 ·intro H' ρ' τ' θ' hθ hl b'
  obtain⟨L',b'⟩:=b'
  obtain⟨Lt,Ls,e2,q1,q2⟩:=az.split b'.lt b'.rel
  obtain⟨Ls',pm2,q3⟩:=q2.toL.E3
  have lt':τ.length=θ.length:=by have:=b.lt;simp[e] at this;omega
  obtain⟨Lτ,Lσ,e3,s1,s2⟩:=az.split lt' r2
  have hnew:∀p∈L',p∈Lp\/H p=none:=b'.own
  have hfr:∀p,p∈Lr->∀u,H p=some u->H' p=some u:=λp hp u h=>by
   obtain⟨u',h1,h2⟩:=b'.fr.st p u h
   have:p∉Lp:=λy=>n3 p (pm.mem_iff.mp y) p hp rfl
   rw[h1,h2 this (λw hw=>by cases hw)]
  have hdis:∀p,p∈L'->p∉Lr:=λp hp y=>by
   rcases hnew p hp with z|z
   ·exact n3 p (pm.mem_iff.mp z) p y rfl
   ·obtain⟨u,h⟩:=r2.is p y;rw[z] at h;cases h
  have hsame:Sq (c.g H L) (c'.g H' L'):=λa u h=>by
   by_cases z:a∈L\/a∈c.Hd
   ·rw[oC z] at h;cases h
   ·rw[cL (λy=>z (.inl y)) (λy=>z (.inr y))] at h
    have na:a∉Lp:=λy=>z (.inl (by rw[e1];exact Mm _ (pm.mem_iff.mp y)))
    have nr:a∉Lr:=λy=>z (.inl (by rw[e1];exact LW _ y))
    obtain⟨u',h1,h2⟩:=b'.fr.st a u h
    refine⟨u',?_,.inl (h2 na (λw hw=>by cases hw))⟩
    rw[cL (c:=c') (λy=>?_) (λy=>?_)]
    ·exact h1
    ·rcases hnew a y with w|w
     ·exact na w
     ·rw[w] at h;cases h
    ·rcases Me.mp y with w|w
     ·exact nr w
     ·exact z (.inr w)
  have hgL:c'.g H' L'=c.g H' (L'++Lr):=hg H' L' (L'++Lr) λa=>by simp[Me,or_assoc]
  have s3:az c.toKx (c'.g H' L') H' (τ++σ) (θ++ρ) Lr:=r2.sm hsame hfr
  have tot:az c.toKx (c'.g H' L') H' (vs.reverse.map some++(τ'++τ)++σ) ((ρ'.map toL).reverse++(θ'++θ)++ρ) (Ls'++(Lt++Lr)):=by
   have:=q3.app (q1.app s3)
   simpa[L7,<- QM] using this
  have pmL:(Ls'++(Lt++Lr)).Perm (L'++Lr):=by
   rw[e2]
   have:=pm2.append_right (Lt++Lr)
   refine this.trans ?_
   rw[<- L7]
   exact NG.append_right Lr
  refine⟨Ls'++(Lt++Lr),(pmL.nodup_iff).mpr (Mp.mpr ⟨b'.nd,n2,λa ha b2 hb z=>hdis a ha (by rw[z];exact hb)⟩),?_,λp hp=>?_,⟨λq u h=>?_,λq hq=>?_⟩,b.kp,?_,b.hd⟩
  ·rw[F9 (c:=c) (H:=H') (L':=L'++Lr) λa=>pmL.mem_iff,<- hgL]
   exact tot
  ·rcases Me.mp (pmL.mem_iff.mp hp) with z|z
   ·rcases hnew p z with y|y
    ·exact b.own p (by rw[e1];exact Mm _ (pm.mem_iff.mp y))
    ·exact .inr (b.fr.fresh y)
   ·exact b.own p (by rw[e1];exact LW _ z)
  ·obtain⟨u1,h1,h2⟩:=b.fr.st q u h
   obtain⟨u2,h3,h4⟩:=b'.fr.st q u1 h1
   refine⟨u2,h3,λnq nw=>?_⟩
   rw[h4 (λy=>?_) (λw hw=>by cases hw),h2 nq nw]
   rcases b.own q (by rw[e1];exact Mm _ (pm.mem_iff.mp y)) with w|w
   ·exact nq w
   ·rw[w] at h;cases h
  ·obtain⟨h1,⟨ob,ws,h2⟩,h3⟩:=b.fr.pk q hq
   refine⟨?_,⟨ob,ws,h2⟩,h3⟩
   obtain⟨u2,h4,h5⟩:=b'.fr.st q.1 q.2 h1
   rw[h4,h5 (λy=>?_) (λw hw=>by cases hw)]
   exact r3.CO q.1 y ob ws (by rw[h1,h2])
  ·have:=b'.lt
   simp[hl];omega
end
section
variable{c:Cn}{σ:St}{H:Hp}{ρ:List Sl}{τ:St}{θ:List Sl}
theorem Bd.nU{ρ0 ρ':List Sl}{r:Rr}{s:Sl}{v:V}(kp:ft c.σ0 σ ρ0)(hv:VR σ r v)(b:Bd c σ H ρ (some v::τ) (toL s::θ))(h:nU ρ0 r s ρ=some ρ'):Bd c σ H ρ' τ θ:=by
 cases r with
 | fr a=>cases h;exact b.pop
 | nw o=>cases h;exact b.pop
 | rf i =>
  unfold M.nU at h
  cases e0:ρ0[i]? with
  | none=>simp only[e0] at h;cases h
  | some s0 =>
   simp only[e0] at h
   cases s0 with
   | un=>simp at h
   | fr a=>simp at h;subst h;exact b.pop
   | lv o0 =>
    cases s with
    | pv o =>
     cases e1:ρ[i]? with
     | none=>simp[e1] at h
     | some s1 =>
      cases s1 with
      | un=>simp[e1] at h;subst h;exact Bd.putBack b hv e1 (.inl rfl)
      | _=>simp[e1] at h
    | _=>simp at h
   | pv o0 =>
    cases s with
    | pv o =>
     cases e1:ρ[i]? with
     | none=>simp[e1] at h
     | some s1 =>
      cases s1 with
      | un=>simp[e1] at h;subst h;exact Bd.putBack b hv e1 (.inr ⟨rfl,kp i o0 e0⟩)
      | _=>simp[e1] at h
    | _=>simp at h
theorem Bd.putL{ρ0:List Sl}(kp:ft c.σ0 σ ρ0):∀{rs:List Rr}{vs:List V}{ss:List Sl}{ρ ρ':List Sl}{τ:St}{θ:List Sl},VRs σ rs vs->Bd c σ H ρ (vs.reverse.map some++τ) ((ss.map toL).reverse++θ)->M.putL ρ0 rs ss ρ=some ρ'->Bd c σ H ρ' τ θ
 | [],[],[],_,_,_,_,_,b,h=>by cases h;exact b
 | r::rs,v::vs,s::ss,ρ,ρ',τ,θ,hv,b,h=>by
  unfold M.putL at h
  cases e:M.putL ρ0 rs ss ρ with
  | none=>simp only[e] at h;cases h
  | some ρ1 =>
   simp only[e] at h
   have b1:Bd c σ H ρ (vs.reverse.map some++(some v::τ)) ((ss.map toL).reverse++(toL s::θ)):=by simpa[L7] using b
   exact Bd.nU kp hv.1 (Bd.putL kp hv.2 b1 e) h
 | [],_::_,_,_,_,_,_,h,_,_=>h.elim
 | _::_,[],_,_,_,_,_,h,_,_=>h.elim
 | [],[],_::_,_,_,_,_,_,_,h=>by cases h
 | _::_,_::_,[],_,_,_,_,_,_,h=>by cases h
theorem bu:∀(n:Nat)(ρ:List Sl),(a8 n ρ).length=n
 | 0,_=>rfl
 | n+1,[]=>by show (Sl.un::a8 n []).length=_;rw[LX,bu n []]
 | n+1,s::ρ=>by cases s<;>(show (_::a8 n ρ).length=_;rw[LX,bu n ρ])
theorem VRs.app:∀{rs qs:List Rr}{vs us:List V},VRs σ rs vs->VRs σ qs us->VRs σ (rs++qs) (vs++us)
 | [],_,[],_,_,h=>h
 | _::rs,_,_::vs,_,h1,h2=>⟨h1.1,VRs.app h1.2 h2⟩
 | [],_,_::_,_,h,_=>h.elim
 | _::_,_,[],_,h,_=>h.elim
theorem VRs.frs:∀{das:List A}{dvs:List V},das.length=dvs.length->VRs σ (das.map Rr.fr) dvs
 | [],[],_=>trivial
 | _::das,_::dvs,h=>⟨trivial,VRs.frs (by simpa using h)⟩
 | [],_::_,h=>by simp at h
 | _::_,[],h=>by simp at h
theorem j3:∀{rs:List Rr}{vs:List V}(qs:List Rr)(us:List V)(τ:St),rs.length=vs.length->cC (rs++qs) (vs++us) τ=cC qs us (cC rs vs τ)
 | [],[],_,_,_,_=>rfl
 | r::rs,v::vs,qs,us,τ,h=>j3 (rs:=rs) (vs:=vs) qs us (bN r v τ) (by simpa using h)
 | [],_::_,_,_,_,h=>by simp at h
 | _::_,[],_,_,_,h=>by simp at h
theorem jl:∀(rs qs:List Rr)(θ:List Sl),cz (rs++qs) θ=cz qs (cz rs θ)
 | [],_,_=>rfl
 | r::rs,qs,θ=>jl rs qs (bO r θ)
theorem Bd.qm:∀{das:List A}{dvs:List V}{τ:St}{θ:List Sl},(∀G,RAs c.toKx G dvs das)->Bd c σ H ρ τ θ->Bd c σ H ρ (cC (das.map Rr.fr) dvs τ) (cz (das.map Rr.fr) θ)
 | [],[],_,_,_,b=>b
 | a::das,v::dvs,_,_,h,b=>Bd.qm (das:=das) (dvs:=dvs) (λG=>by cases h G;assumption) (Bd.push b λG=>by cases h G;assumption)
 | [],_::_,_,_,h,_=>by cases h (λ_=>none)
 | _::_,[],_,_,h,_=>by cases h (λ_=>none)
end
noncomputable def jK:Sl->Option Rr
 | .fr a=>some (.fr a)
 | .lv o=>some (.nw o)
 | _=>none
noncomputable def ai(f:Ms)(das:List A)(ma:Mi (List Rr)):Mi Rr:=ay ma λrs ρ=>match cB (rs++das.map Rr.fr) ρ with
 | some (as,ρt)=>match f (as.map toP) with
  | some (.rt s,ρc)=>match jK s,putL ρ (rs++das.map Rr.fr) (a8 as.length ρc) ρt with
   | some r,some ρ'=>some (.ok r,ρ')
   | _,_=>none
  | some (.ex x,ρc)=>match putL ρ (rs++das.map Rr.fr) (a8 as.length ρc) ρt with
   | some ρ'=>some (.error x,ρ')
   | none=>none
  | _=>none
 | none=>none
variable{dvs:List V}{k:Nat}{f:Addr}{fd:FuncData}{ps N:List Str}
section
variable{X:Cx}{E:XK}
theorem je{m:Ms}{n:Nat}{das:List A}(hd:∀G,RAs (kx X) G dvs das){o:Except Str Rr}(ek:c.toKx=kx X)(hn:(vs++dvs).length=n)
  (hv:VRs σ rs vs)(b:Bd c σ H ρ (cC rs vs τ) (cz rs θ)) (em:(match cB (rs++das.map Rr.fr) ρ with
 | some (as,ρt)=>match m (as.map toP) with
  | some (.rt s,ρc)=>match jK s,putL ρ (rs++das.map Rr.fr) (a8 as.length ρc) ρt with
   | some r,some ρ'=>some (.ok r,ρ')
   | _,_=>none
  | some (.ex x,ρc)=>match putL ρ (rs++das.map Rr.fr) (a8 as.length ρc) ρt with
   | some ρ'=>some (.error x,ρ')
   | none=>none
  | _=>none
 | none=>none)=some (o,ρ')) (q1:∀r,o=.ok r->∀v H',VR σ r v->Bd c σ H' ρ' (bN r v τ) (bO r θ)->Q v H') (q2:∀x,o=.error x->∀C H',X.mg x=some (.ref C)->Bd c σ H' ρ' τ θ->E (.ref C) none H'):SpM (kx X) n m (vs++dvs) H Q E:=by
 refine⟨hn,?_⟩
 cases e1:cB (rs++das.map Rr.fr) ρ with
 | none=>simp only[e1] at em;cases em
 | some p =>
  obtain⟨as,ρt⟩:=p
  simp only[e1] at em
  have ld:das.length=dvs.length:=(hd λ_=>none).len.symm
  have hv2:VRs σ (rs++das.map Rr.fr) (vs++dvs):=hv.app (VRs.frs ld)
  have b2:Bd c σ H ρ (cC (rs++das.map Rr.fr) (vs++dvs) τ) (cz (rs++das.map Rr.fr) θ):=by
   rw[j3 _ _ _ hv.len,jl]
   exact Bd.qm (by rw[ek];exact hd) b
  obtain⟨b3,e3⟩:=Bd.cB hv2 b2 e1
  obtain⟨c',k1,k2,k3,k4,k5⟩:=Bd.enter e3 b3
  have kp:ft c.σ0 σ ρ:=by obtain⟨L,b⟩:=b;exact b.kp
  cases e4:m (as.map toP) with
  | none=>simp only[e4] at em;cases em
  | some p =>
   obtain⟨f,ρc⟩:=p
   simp only[e4] at em
   refine⟨c',_,f,ρc,k1.trans ek,k2,k3,k4,e4,?_⟩
   cases f with
   | nx=>cases em
   | bk=>cases em
   | ct=>cases em
   | rt s =>
    simp only at em
    cases e5:jK s with
    | none=>simp only[e5] at em;cases em
    | some r =>
     cases e6:putL ρ (rs++das.map Rr.fr) (a8 as.length ρc) ρt with
     | none=>simp only[e5,e6] at em;cases em
     | some ρ2 =>
      simp only[e5,e6] at em
      cases em
      intro v H' hs b5
      have b6:=k5 H' _ _ _ (λs' hs' o z=>by rw[Mj.mp hs'] at z;exact hs o z) (bu _ _) b5
      rw[e3] at b6
      have b7:=Bd.putL kp hv2 b6 e6
      cases s with
      | fr a=>cases e5;exact q1 _ rfl v H' trivial b7
      | lv o=>cases e5;exact q1 _ rfl v H' trivial b7
      | _=>cases e5
   | ex x =>
    simp only at em
    cases e6:putL ρ (rs++das.map Rr.fr) (a8 as.length ρc) ρt with
    | none=>simp only[e6] at em;cases em
    | some ρ2 =>
     simp only[e6] at em
     cases em
     intro C H' hm b5
     have b6:=k5 H' _ _ _ (λs' hs'=>by cases hs') (bu _ _) b5
     rw[e3] at b6
     exact q2 x rfl C H' hm (Bd.putL kp hv2 b6 e6)
theorem B3{CX:CXT}{n:Nat}{m:Ms}{das:List A}{ds:List Value}{p:Pos}{ma:Mi (List Rr)}(F:bW X.prog X.w X.K X.mg X.base CX k f fd ps (SpM (kx X) n m))(hr:bz k X.A)(hg:Gl X x)
  (hm:X.mg x=some (.ref f))(hk:ML X.K (.ref f)=true)(hb:Binds X.K fd ps ds)(hd:Vals dvs ds)(hda:∀G,RAs (kx X) G dvs das)(hx:Passes CX X E)(ha:JA X E (e::es) ma)(hn:∀ρ rs ρ',ma ρ=some (.ok rs,ρ')->rs.length+das.length=n)(hdb:NDb x)
  (he:starEach (e::es) X.env=(false,eval e X.env)::starEach es X.env:=by rfl)(hpl:(backTo pos (starEach es X.env)).any (·.1)=false:=by rfl):JE X E (.Call (.Name x p) (e::es) [] pos) (ai m das ma) :=
 ⟨PE.weaken (Bh F hr hg hm hk hb hd hx ha.p hdb he hpl) λσ H Q h=>by
  obtain⟨c,ρ,τ,θ,o,ρ',ek,b,em,q⟩:=h
  rcases bind_some em with ⟨rs,ρ1,e1,e2⟩|⟨e,e1,e2⟩
  ·refine⟨c,ρ,τ,θ,_,ρ1,ek,b,e1,λvs H1 hv b1=>?_⟩
   refine je hda ek ?_ hv b1 e2 (λr hr v H' hv b=>by subst hr;exact q v H' hv b) (λx hx=>by subst hx;exact q)
   rw[Ma,<- hv.len,<- hn ρ rs ρ1 e1,(hda λ_=>none).len]
  ·subst e2
   exact⟨c,ρ,τ,θ,_,ρ',ek,b,e1,λC H1 hm b1=>q C H1 hm b1⟩⟩
theorem xm:∀ρ rs ρ',ag ρ=some (.ok rs,ρ')->rs.length=0:=λρ rs ρ' h=>by cases h;rfl
theorem rV{ma:Mi (List Rr)}{n:Nat}(h:∀ρ rs ρ',ma ρ=some (.ok rs,ρ')->rs.length=n):∀ρ rs ρ',aa m ma ρ=some (.ok rs,ρ')->rs.length=n+1:=λρ rs ρ' e=>by
 rcases bind_some e with ⟨r,ρ1,e1,e2⟩|⟨_,_,e2⟩
 ·rcases bind_some e2 with ⟨rs',ρ2,e3,e4⟩|⟨_,_,e4⟩
  ·cases e4;rw[LX,h _ _ _ e3]
  ·cases e4
 ·cases e2
theorem mU{ma:Mi (List Rr)}{n d N:Nat}(h:∀ρ rs ρ',ma ρ=some (.ok rs,ρ')->rs.length=n)(e:n+d=N):∀ρ rs ρ',ma ρ=some (.ok rs,ρ')->rs.length+d=N:=λρ rs ρ' q=>by rw[h ρ rs ρ' q];exact e
noncomputable def zR(K:Kx)(E:XK)(c:Cn)(ρ:List Sl)(τ:St)(θ:List A)(D:Ends):Fl->Prop
 | .nx=>∀σ H,Bd c σ H ρ τ (θ.map Sl.fr)->D.nx σ H
 | .rt s=>∀v σ H,(∀o,s≠.pv o)->Bd c σ H ρ (some v::τ) (s::θ.map Sl.fr)->D.rt v H
 | .bk=>∀σ H,Bd c σ H ρ τ (θ.map Sl.fr)->D.bk σ H
 | .ct=>∀σ H,Bd c σ H ρ τ (θ.map Sl.fr)->D.ct σ H
 | .ex x=>∀C σ H,K.mg x=some (.ref C)->Bd c σ H ρ τ (θ.map Sl.fr)->E (.ref C) none H
noncomputable def TSm(K:Kx)(E:XK)(m:Ms):TS:=λD σ H=>∃(c:Cn) (ρ:List Sl) (τ:St) (θ:List A) (f:Fl) (ρ':List Sl),c.toKx=K/\Bd c σ H ρ τ (θ.map Sl.fr)/\m ρ=some (f,ρ')/\zR K E c ρ' τ θ D f
structure JS (X:Cx) (E:XK) (s:Stmt) (m:Ms):Prop where
 p:PS X s (TSm (kx X) E m)
structure JSs (X:Cx) (E:XK) (s:List Stmt) (m:Ms):Prop where
 p:PSs X s (TSm (kx X) E m)
theorem PS.weaken{e:Stmt}{t t':TS}(h:PS X e t)(f:∀D σ H,t' D σ H->t D σ H):PS X e t':=λpins s σ H D I q=>h pins s σ H D I (f D σ H q)
theorem PSs.weaken{e:List Stmt}{t t':TS}(h:PSs X e t)(f:∀D σ H,t' D σ H->t D σ H):PSs X e t':=λpins s σ H D I q=>h pins s σ H D I (f D σ H q)
noncomputable def aL:Ms:=λρ=>some (.nx,ρ)
noncomputable def ax(m n:Ms):Ms:=λρ=>match m ρ with
 | some (.nx,ρ1)=>n ρ1
 | r=>r
theorem zB:JSs X E [] aL:=⟨PSs.weaken BU λD σ H h=>by
 obtain⟨c,ρ,τ,θ,f,ρ',ek,b,em,q⟩:=h
 cases em;exact q σ H b⟩
theorem zD{s:Stmt}{m:Ms}(h:JS X E s m):JSs X E [s] m:=⟨Ai h.p⟩
theorem xG{s:Stmt}{r:List Stmt}{m n:Ms}(h:JS X E s m)(h':JSs X E r n):JSs X E (s::r) (ax m n):=⟨PSs.weaken (wt h.p h'.p) λD σ H h=>by
 obtain⟨c,ρ,τ,θ,f,ρ',ek,b,em,q⟩:=h
 unfold ax at em
 cases e:m ρ with
 | none=>simp only[e] at em;cases em
 | some p =>
  obtain⟨f1,ρ1⟩:=p
  simp only[e] at em
  refine⟨c,ρ,τ,θ,f1,ρ1,ek,b,e,?_⟩
  cases f1 with
  | nx=>exact λσ' H' b'=>⟨c,ρ1,τ,θ,f,ρ',ek,b',em,q⟩
  | rt s=>cases em;exact q
  | bk=>cases em;exact q
  | ct=>cases em;exact q
  | ex x=>cases em;exact q⟩
theorem zN{pos}:JS X E (.Pass pos) aL:=⟨PS.weaken zg λD σ H h=>by
 obtain⟨c,ρ,τ,θ,f,ρ',ek,b,em,q⟩:=h
 cases em;exact q σ H b⟩
noncomputable def yR:Ms:=λρ=>some (.bk,ρ)
noncomputable def CT:Ms:=λρ=>some (.ct,ρ)
theorem va{pos}:JS X E (.Break pos) yR:=⟨PS.weaken yG λD σ H h=>by
 obtain⟨c,ρ,τ,θ,f,ρ',ek,b,em,q⟩:=h
 cases em;exact q σ H b⟩
theorem A3{pos}:JS X E (.Continue pos) CT:=⟨PS.weaken ph λD σ H h=>by
 obtain⟨c,ρ,τ,θ,f,ρ',ek,b,em,q⟩:=h
 cases em;exact q σ H b⟩
noncomputable def bA{α:Type}(m:Mi α)(f:α->Ms):Ms:=λρ=>match m ρ with
 | some (.ok x,ρ1)=>f x ρ1
 | some (.error e,ρ1)=>some (.ex e,ρ1)
 | none=>none
theorem bp{m:Mi α}{f:α->Ms}{o:Fl}(h:bA m f ρ=some (o,ρ')):(∃x ρ1,m ρ=some (.ok x,ρ1)/\f x ρ1=some (o,ρ'))\/∃e,m ρ=some (.error e,ρ')/\o=.ex e:=by
 unfold bA at h
 cases e:m ρ with
 | none=>simp only[e] at h;cases h
 | some p =>
  obtain⟨r,ρ1⟩:=p
  cases r with
  | ok x=>simp only[e] at h;exact .inl ⟨x,ρ1,rfl,h⟩
  | error x=>simp only[e] at h;cases h;exact .inr ⟨x,rfl,rfl⟩
theorem eW{θ:List A}{f:Rr->Ms}{o:Fl}{D:Ends}(ek:c.toKx=kx X)(b:Bd c σ H ρ τ (θ.map Sl.fr))(em:bA m f ρ=some (o,ρ'))(q:zR (kx X) E c ρ' τ θ D o)
  (h1:∀x v ρ1 H1,VR σ x v->Bd c σ H1 ρ1 (bN x v τ) (bO x (θ.map Sl.fr))->f x ρ1=some (o,ρ')->Q v H1):TEm (kx X) E m σ H Q:=by
 rcases bp em with ⟨x,ρ1,e1,e2⟩|⟨e,e1,e2⟩
 ·exact⟨c,ρ,τ,_,_,ρ1,ek,b,e1,λv H1 hv b1=>h1 x v ρ1 H1 hv b1 e2⟩
 ·subst e2;exact⟨c,ρ,τ,_,_,ρ',ek,b,e1,λC H1 hm b1=>q C σ H1 hm b1⟩
theorem Bi{θ:List A}{m:Mi Bool}{f:Bool->Ms}{o:Fl}{Q:Bool->Hp->Prop}{D:Ends}(ek:c.toKx=kx X)(b:Bd c σ H ρ τ (θ.map Sl.fr))(em:bA m f ρ=some (o,ρ'))(q:zR (kx X) E c ρ' τ θ D o)
  (h1:∀k ρ1 H1,Bd c σ H1 ρ1 τ (θ.map Sl.fr)->f k ρ1=some (o,ρ')->Q k H1):TTm (kx X) E m σ H Q:=by
 rcases bp em with ⟨x,ρ1,e1,e2⟩|⟨e,e1,e2⟩
 ·exact⟨c,ρ,τ,_,_,ρ1,ek,b,e1,λH1 b1=>h1 x ρ1 H1 b1 e2⟩
 ·subst e2;exact⟨c,ρ,τ,_,_,ρ',ek,b,e1,λC H1 hm b1=>q C σ H1 hm b1⟩
noncomputable def aP(m:Mi Rr):Ms:=bA m λ_ ρ=>some (.nx,ρ)
theorem BB(h:JE X E e m)(hs:swapsWith e none pos.line X.env=pure false:=by rfl):JS X E (.Expr e pos) (aP m):=⟨PS.weaken (AV h.p hs) λD σ H h=>by
 obtain⟨c,ρ,τ,θ,f,ρ',ek,b,em,q⟩:=h
 refine eW ek b em q λx v ρ1 H1 hv b1 em1=>?_
 cases em1;exact q σ H1 b1.drop⟩
noncomputable def sIf(t:Mi Bool)(m n:Ms):Ms:=bA t λb=>if b then m else n
theorem Kw{t:Expr}{a b:List Stmt}{m n:Ms}(ht:JT X E t mt)(ha:JSs X E a m)(hb:JSs X E b n):JS X E (.If t a b pos) (sIf mt m n):=⟨PS.weaken (Ht ht.p ha.p hb.p) λD σ H h=>by
 obtain⟨c,ρ,τ,θ,f,ρ',ek,b,em,q⟩:=h
 refine Bi ek b em q λk ρ1 H1 b1 em1=>?_
 cases k with
 | true=>rw[if_pos rfl];exact⟨c,ρ1,τ,θ,f,ρ',ek,b1,em1,q⟩
 | false=>rw[if_neg (by decide)];exact⟨c,ρ1,τ,θ,f,ρ',ek,b1,em1,q⟩⟩
noncomputable def By:Rr->List Sl->Option (Sl×List Sl)
 | .fr a,ρ=>some (.fr a,ρ)
 | .nw o,ρ=>some (.lv o,ρ)
 | .rf i,ρ=>match ρ[i]? with
  | some (.lv o)=>some (.lv o,ρ.set i .un)
  | _=>none
noncomputable def aR(m:Mi Rr):Ms:=bA m λr ρ=>match By r ρ with
 | some (s,ρ')=>some (.rt s,ρ')
 | none=>none
theorem DR(h:JE X E e m):JS X E (.Return (some e) pos) (aR m):=⟨PS.weaken (Dy h.p) λD σ H h=>by
 obtain⟨c,ρ,τ,θ,f,ρ',ek,b,em,q⟩:=h
 refine eW ek b em q λx v ρ1 H1 hv b1 em1=>?_
 cases x with
 | fr a=>cases em1;exact q v σ H1 (λo z=>by cases z) b1
 | nw o=>cases em1;exact q v σ H1 (λo z=>by cases z) b1
 | rf i =>
  unfold By at em1
  cases es:ρ1[i]? with
  | none=>simp only[es] at em1;cases em1
  | some s =>
   cases s with
   | lv o=>simp only[es] at em1;cases em1;exact q v σ H1 (λo z=>by cases z) (Bd.Gf (xs:=[]) (ss:=[]) rfl b1 hv es (.inl rfl))
   | _=>simp only[es] at em1;cases em1⟩
noncomputable def xu:Ms:=λρ=>some (.rt (.fr .non),ρ)
theorem zh:JS X E (.Return none pos) xu:=⟨PS.weaken zm λD σ H h=>by
 obtain⟨c,ρ,τ,θ,f,ρ',ek,b,em,q⟩:=h
 cases em;exact q .non σ H (λo z=>by cases z) (b.push λ_=>.non)⟩
noncomputable def stT:Rr->List Sl->Option (Sl×List Sl)
 | .fr a,ρ=>some (.fr a,ρ)
 | .nw o,ρ=>some (.lv o,ρ)
 | .rf i,ρ=>match aV (.rf i) ρ with
  | some (a,ρ')=>some (.fr a,ρ')
  | none=>none
noncomputable def put(i:Nat)(s:Sl)(ρ:List Sl):Option (List Sl):=match ρ[i]? with
 | some (.pv _)=>none
 | some _=>some (ρ.set i s)
 | none=>none
theorem Bd.put{c:Cn}{σ:St}{H:Hp}{ρ ρ':List Sl}{τ:St}{θ:List Sl}{i:Nat}{v:V}{t:Sl}(b:Bd c σ H ρ (some v::τ) (t::θ))(ht:∀o,t≠.pv o)(h:put i t ρ=some ρ'):Bd c (σ.set i (some v)) H ρ' τ θ:=by
 unfold M.put at h
 cases es:ρ[i]? with
 | none=>simp only[es] at h;cases h
 | some s =>
  cases s with
  | pv o=>simp only[es] at h;cases h
  | un=>simp only[es] at h;cases h;exact b.store es (λo z=>by cases z) ht
  | fr a=>simp only[es] at h;cases h;exact b.store es (λo z=>by cases z) ht
  | lv o=>simp only[es] at h;cases h;exact b.store es (λo z=>by cases z) ht
theorem Bd.stT{c:Cn}{σ:St}{H:Hp}{ρ ρ':List Sl}{τ:St}{θ:List Sl}{r:Rr}{v:V}{t:Sl}(hv:VR σ r v)(b:Bd c σ H ρ (bN r v τ) (bO r θ))(h:stT r ρ=some (t,ρ')):Bd c σ H ρ' (some v::τ) (t::θ)/\∀o,t≠.pv o:=by
 cases r with
 | fr a=>cases h;exact⟨b,λo z=>by cases z⟩
 | nw o=>cases h;exact⟨b,λo z=>by cases z⟩
 | rf i =>
  unfold M.stT at h
  cases e:M.aV (.rf i) ρ with
  | none=>simp only[e] at h;cases h
  | some p =>
   obtain⟨a,ρ1⟩:=p
   simp only[e] at h;cases h
   exact⟨Bd.aV (r:=.rf i) (xs:=[]) (ss:=[]) rfl b hv e,λo z=>by cases z⟩
noncomputable def aA(i:Nat)(m:Mi Rr):Ms:=bA m λr ρ=>match stT r ρ with
 | some (t,ρ1)=>match put i t ρ1 with
  | some ρ2=>some (.nx,ρ2)
  | none=>none
 | none=>none
theorem yp{pos':Pos}(hN:X.N.Nodup)(hi:X.N[i]?=some x)(hx:Loc X.env.scope x)(he:JE X E e m)(hs:swapsWith e (some (.Name x pos')) pos.line X.env=pure false:=by rfl)
  (hf:X.fn x=true\/X.env.scope.names.lookup x=some .local:=by first|exact .inl rfl|exact .inr rfl|assumption):JS X E (.Assign [.Name x pos'] e pos) (aA i m):=⟨PS.weaken (FH hN hi hx he.p hs hf) λD σ H h=>by
 obtain⟨c,ρ,τ,θ,f,ρ',ek,b,em,q⟩:=h
 refine eW ek b em q λr v ρ1 H1 hv b1 em1=>?_
 cases e1:stT r ρ1 with
 | none=>simp only[e1] at em1;cases em1
 | some p =>
  obtain⟨t,ρ2⟩:=p
  simp only[e1] at em1
  obtain⟨b2,ht⟩:=Bd.stT hv b1 e1
  cases e2:put i t ρ2 with
  | none=>simp only[e2] at em1;cases em1
  | some ρ3 =>
   simp only[e2] at em1;cases em1
   exact q _ H1 (Bd.put b2 ht e2)⟩
noncomputable def bt(loc:Nat)(m:Ms):Ms:=λρ=>match m (ρ++Mn loc .un) with
 | some (.nx,ρ')=>some (.rt (.fr .non),ρ')
 | some (.rt s,ρ')=>some (.rt s,ρ')
 | some (.ex x,ρ')=>some (.ex x,ρ')
 | _=>none
theorem kP{k:Kx}{G H:Hp}:∀n,az k G H (Mn n none) (Mn n Sl.un) []
 | 0=>.nil
 | n+1=>az.cons (L:=[]) (.un _) (kP n)
theorem BdL.start{c:Cn}{vs:List V}{H:Hp}{ρ:List Sl}(N:List Str)(b:BdL c (vs.map some) H ρ [] [] c.Lp)(e:c.σ0=vs.map some):Bd c (start N vs) H (ρ++Mn (N.length-vs.length) .un) [] []:=by
 have hl:vs.length=ρ.length:=by have:=b.rel.len;simpa using this
 refine⟨c.Lp,b.nd,?_,b.own,b.fr,λi o h=>?_,rfl,b.hd⟩
 ·have:=b.rel.app (kP (k:=c.toKx) (G:=c.g H c.Lp) (H:=H) (N.length-vs.length))
  simpa[L2.start] using this
 ·have hi:i<ρ.length:=by
   by_cases z:i<ρ.length
   ·exact z
   ·rw[MS (by omega)] at h
    have:=MT h
    have:=P0 this
    cases this
  unfold L2.start
  rw[Na (by simp;omega),e]
theorem FZ{P:Program}{w:World}{K:LU}{mg:Str->Option Value}{base:Heap}{dV:Value}{qual:Str}{st:Stmt}{m:Ms}(F:j1 K x qual st f fd dV)(S:eG N ps (aE st))
  (hb:∀(cdv:Value)(A:Around)(outer:List Env)(s:Shared)(H:Hp)(E:XK),bz k (A.deeper (OH qual (aE st) s.heap.objs.size f cdv)) ->
   JSs (kS (CXE P w) P w K mg base N qual (aE st) f cdv A outer s H E) E (bB st) m):bW P w K mg base (CXE P w) (k+1) f fd ps (SpM ⟨K,mg⟩ ps.length (bt (N.length-ps.length) m)) :=
 F.ok S (λvs H Q E h=>h.1) λcdv A outer s H vs Q E hr h=>by
  obtain⟨hn,c,ρ,f,ρ',ek,e0,e1,b,em,q⟩:=h
  refine⟨_,(hb cdv A outer s H E hr).p,?_⟩
  have bs:=b.start N e0
  rw[hn] at bs
  unfold bt at em
  cases e:m (ρ++Mn (N.length-ps.length) .un) with
  | none=>simp only[e] at em;cases em
  | some p =>
   obtain⟨f1,ρ1⟩:=p
   simp only[e] at em
   refine⟨c,_,[],[],f1,ρ1,ek,bs,e,?_⟩
   have bk:∀{σ':St}{H':Hp}{τ':St}{θ':List Sl},Bd c σ' H' ρ1 τ' θ'->Bd c (vs.map some) H' (a8 vs.length ρ1) τ' θ':=λb'=>by
    have:=b'.back
    rw[e0,LY] at this
    exact this
   cases f1 with
   | nx =>
    cases em
    exact λσ' H' b'=>q .non H' (λo z=>by cases z) ((bk b').push λ_=>.non)
   | rt s=>cases em;exact λv σ' H' hs b'=>q v H' hs (bk b')
   | ex x=>cases em;exact λC σ' H' hm b'=>q C H' hm (bk b')
   | bk=>cases em
   | ct=>cases em
end
variable{r':R2}{K:Kx}{q:Rr}
section
variable{X:Cx}{E:XK}
theorem OpR.or'{f:Value->Value->Sem Value}(h:OpR X f r)(h':OpR X f r'):OpR X f (λx y H Q=>r x y H Q\/r' x y H Q):=by
 intro pins s σ H x y v u Q I rx ry q
 rcases q with q|q
 ·exact h pins s σ H x y v u Q I rx ry q
 ·exact h' pins s σ H x y v u Q I rx ry q
noncomputable def fOr(f g:A->A->Option Rr):A->A->Option Rr:=λa b=>match f a b with
 | some r=>some r
 | none=>g a b
theorem OpS.or{f g:A->A->Option Rr}(h:OpS K r f)(h':OpS K r' g):OpS K (λx y H Q=>r x y H Q\/r' x y H Q) (fOr f g):=by
 intro c σ H ρ τ θ x y v w a b q Q ek hv hw bd e1 e2 e3 k
 unfold fOr at e3
 cases e:f a b with
 | some z=>simp only[e] at e3;cases e3;exact .inl (h c σ H ρ τ θ x y v w a b _ Q ek hv hw bd e1 e2 e k)
 | none=>simp only[e] at e3;exact .inr (h' c σ H ρ τ θ x y v w a b _ Q ek hv hw bd e1 e2 e3 k)
theorem Er{f g:A->A->Option Rr}(h:TEm (kx X) E (mOp (fOr f g) ma mb) σ H Q):TEm (kx X) E (mOp f ma mb) σ H Q\/TEm (kx X) E (mOp g ma mb) σ H Q:=by
 obtain⟨c,ρ,τ,θ,o,ρ',ek,b,em,q⟩:=h
 have key:mOp f ma mb ρ=some (o,ρ')\/mOp g ma mb ρ=some (o,ρ'):=by
  unfold mOp ay at em ⊢
  cases e1:ma ρ with
  | none=>simp only[e1] at em;cases em
  | some p =>
   obtain⟨x,ρ1⟩:=p
   cases x with
   | error e=>simp only[e1] at em ⊢;exact .inl em
   | ok x =>
    simp only[e1] at em ⊢
    cases e2:mb ρ1 with
    | none=>simp only[e2] at em;cases em
    | some p =>
     obtain⟨y,ρ2⟩:=p
     cases y with
     | error e=>simp only[e2] at em ⊢;exact .inl em
     | ok y =>
      simp only[e2] at em ⊢
      cases e3:res ρ2 x with
      | none=>simp only[e3] at em;cases em
      | some a =>
       cases e4:res ρ2 y with
       | none=>simp only[e3,e4] at em;cases em
       | some d =>
        simp only[e3,e4] at em ⊢
        unfold fOr at em
        cases e5:f a d with
        | some z=>simp only[e5] at em ⊢;exact .inl em
        | none=>simp only[e5] at em;exact .inr em
 exact key.imp (λk=>⟨c,ρ,τ,θ,o,ρ',ek,b,k,q⟩) (λk=>⟨c,ρ,τ,θ,o,ρ',ek,b,k,q⟩)
theorem fE{f g:A->A->Option Rr}(h:JE X E e (mOp f ma mb))(h':JE X E e (mOp g ma mb)):JE X E e (mOp (fOr f g) ma mb) :=
 ⟨λpins s σ H Q I q=>(Er q).elim (λq=>h.p pins s σ H Q I q) (λq=>h'.p pins s σ H Q I q)⟩
theorem vT{f g:A->A->Option Rr}{Q:Bool->Hp->Prop}(h:TTm (kx X) E (ao (mOp (fOr f g) ma mb)) σ H Q):TTm (kx X) E (ao (mOp f ma mb)) σ H Q\/TTm (kx X) E (ao (mOp g ma mb)) σ H Q:=by
 obtain⟨c,ρ,τ,θ,o,ρ',ek,b,em,q⟩:=h
 have key:ao (mOp f ma mb) ρ=some (o,ρ')\/ao (mOp g ma mb) ρ=some (o,ρ'):=by
  unfold ao mOp ay at em ⊢
  cases e1:ma ρ with
  | none=>simp only[e1] at em;cases em
  | some p =>
   obtain⟨x,ρ1⟩:=p
   cases x with
   | error e=>simp only[e1] at em ⊢;exact .inl em
   | ok x =>
    simp only[e1] at em ⊢
    cases e2:mb ρ1 with
    | none=>simp only[e2] at em;cases em
    | some p =>
     obtain⟨y,ρ2⟩:=p
     cases y with
     | error e=>simp only[e2] at em ⊢;exact .inl em
     | ok y =>
      simp only[e2] at em ⊢
      cases e3:res ρ2 x with
      | none=>simp only[e3] at em;cases em
      | some a =>
       cases e4:res ρ2 y with
       | none=>simp only[e3,e4] at em;cases em
       | some d =>
        simp only[e3,e4] at em ⊢
        unfold fOr at em
        cases e5:f a d with
        | some z=>simp only[e5] at em ⊢;exact .inl em
        | none=>simp only[e5] at em;exact .inr em
 exact key.imp (λk=>⟨c,ρ,τ,θ,o,ρ',ek,b,k,q⟩) (λk=>⟨c,ρ,τ,θ,o,ρ',ek,b,k,q⟩)
theorem gT{f g:A->A->Option Rr}(h:JT X E e (ao (mOp f ma mb)))(h':JT X E e (ao (mOp g ma mb))):JT X E e (ao (mOp (fOr f g) ma mb)) :=
 ⟨λpins s σ H Q I q=>(vT q).elim (λq=>h.p pins s σ H Q I q) (λq=>h'.p pins s σ H Q I q)⟩
theorem OpS.scalar{f:A->A->Option Rr}(h:∀H v w a b q,RA K H v a->RA K H w b->f a b=some q->∃u d,q=.fr d/\(∀G,RA K G u d)/\∀Q:VK,Q u H->r v w H Q):OpS K r f:=by
 intro c σ H ρ τ θ x y v w a b q Q ek hv hw bd e1 e2 e3 k
 have r2:=Bd.rd bd hw e2
 have r1:=Bd.rd bd.drop hv e1
 rw[ek] at r1 r2
 obtain⟨u,d,rfl,hu,hq⟩:=h H v w a b q r1 r2 e3
 exact hq Q (k u H trivial (Bd.push bd.drop.drop (by rw[ek];exact hu)))
noncomputable def fits(n:Nat)(i:Int):Bool:=decide (i.natAbs<2^n)
theorem mM{n:Nat}{i:Int}(h:fits n i=true):L2.Bd n i:=show i.natAbs<2^n from of_decide_eq_true h
theorem bq{n m:Nat}{i:Int}(h:L2.Bd m i)(k:m<=n):fits n i=true:=decide_eq_true (show i.natAbs<2^n from h.mono k)
noncomputable def opI(f:Int->Int->Option Rr):A->A->Option Rr
 | .int i,.int j=>f i j
 | _,_=>none
theorem bQ{f:Int->Int->Option Rr}{a b:A}(h:opI f a b=some q):∃i j,a=.int i/\b=.int j/\f i j=some q:=by
 unfold opI at h
 split at h
 ·exact⟨_,_,rfl,rfl,h⟩
 ·cases h
noncomputable def opS(f:Str->Str->Option Rr):A->A->Option Rr
 | .str i,.str j=>f i j
 | _,_=>none
theorem wa{f:Str->Str->Option Rr}{a b:A}(h:opS f a b=some q):∃i j,a=.str i/\b=.str j/\f i j=some q:=by
 unfold opS at h
 split at h
 ·exact⟨_,_,rfl,rfl,h⟩
 ·cases h
noncomputable def mf:A->A->Option Rr:=opI λi j=>some (.fr (.int (i+j)))
noncomputable def fM:A->A->Option Rr:=opI λi j=>some (.fr (.int (i-j)))
noncomputable def xl:A->A->Option Rr:=opI λi j=>if fits 20000 i&&fits 20000 j then some (.fr (.int (i*j))) else none
noncomputable def oH:A->A->Option Rr:=opI λi j=>if j != 0&&fits 9000 j then some (.fr (.int (i.fdiv j))) else none
noncomputable def gk:A->A->Option Rr:=opI λi j=>if j != 0 then some (.fr (.int (i.fmod j))) else none
noncomputable def cp:A->A->Option Rr:=opI λi j=>if 0<=j/\j<=1000000/\i.natAbs<2^64 then some (.fr (.int (i^j.toNat))) else none
noncomputable def fLt:A->A->Option Rr:=opI λi j=>some (.fr (.bl (decide (i<j))))
noncomputable def fLe:A->A->Option Rr:=opI λi j=>some (.fr (.bl (decide (i<=j))))
noncomputable def fGt:A->A->Option Rr:=opI λi j=>some (.fr (.bl (decide (j<i))))
noncomputable def fGe:A->A->Option Rr:=opI λi j=>some (.fr (.bl (decide (j<=i))))
theorem zV:OpS K (rI0 λi j=>.int (i+j)) mf:=.scalar λH v w a b q r1 r2 h=>by
 replace h:=bQ h
 obtain⟨i,j,rfl,rfl,h⟩:=h
 cases r1;cases r2;cases h
 exact⟨_,_,rfl,λ_=>.int _,λQ k=>⟨_,_,rfl,rfl,k⟩⟩
theorem GR:OpS K (rI0 λi j=>.int (i-j)) fM:=.scalar λH v w a b q r1 r2 h=>by
 replace h:=bQ h
 obtain⟨i,j,rfl,rfl,h⟩:=h
 cases r1;cases r2;cases h
 exact⟨_,_,rfl,λ_=>.int _,λQ k=>⟨_,_,rfl,rfl,k⟩⟩
theorem zT:OpS K (rI IntMulOk λi j=>.int (i*j)) xl:=.scalar λH v w a b q r1 r2 h=>by
 replace h:=bQ h
 obtain⟨i,j,rfl,rfl,h⟩:=h
 cases r1;cases r2
 split at h
 ·rename_i hc
  rw[LV] at hc
  cases h
  exact⟨_,_,rfl,λ_=>.int _,λQ k=>⟨_,_,rfl,rfl,(mM hc.1).Kr (mM hc.2) (by decide),k⟩⟩
 ·cases h
theorem Dn:OpS K (rI CDv λi j=>.int (i.fdiv j)) oH:=.scalar λH v w a b q r1 r2 h=>by
 replace h:=bQ h
 obtain⟨i,j,rfl,rfl,h⟩:=h
 cases r1;cases r2
 split at h
 ·rename_i hc
  rw[LV] at hc
  cases h
  exact⟨_,_,rfl,λ_=>.int _,λQ k=>⟨_,_,rfl,rfl,⟨by simpa using hc.1,mM hc.2⟩,k⟩⟩
 ·cases h
theorem GD:OpS K (rI (λ_ j=>j≠0) λi j=>.int (i.fmod j)) gk:=.scalar λH v w a b q r1 r2 h=>by
 replace h:=bQ h
 obtain⟨i,j,rfl,rfl,h⟩:=h
 cases r1;cases r2
 split at h
 ·rename_i hc
  cases h
  exact⟨_,_,rfl,λ_=>.int _,λQ k=>⟨_,_,rfl,rfl,by simpa using hc,k⟩⟩
 ·cases h
theorem EW:OpS K (rI Kn λi j=>.int (i^j.toNat)) cp:=.scalar λH v w a b q r1 r2 h=>by
 replace h:=bQ h
 obtain⟨i,j,rfl,rfl,h⟩:=h
 cases r1;cases r2
 split at h
 ·rename_i hc
  cases h
  exact⟨_,_,rfl,λ_=>.int _,λQ k=>⟨_,_,rfl,rfl,hc,k⟩⟩
 ·cases h
theorem Cq:OpS K (rI0 λi j=>.bl (decide (i<j))) fLt:=.scalar λH v w a b q r1 r2 h=>by
 replace h:=bQ h
 obtain⟨i,j,rfl,rfl,h⟩:=h
 cases r1;cases r2;cases h
 exact⟨_,_,rfl,λ_=>.bl _,λQ k=>⟨_,_,rfl,rfl,k⟩⟩
theorem Dd:OpS K (rI0 λi j=>.bl (decide (i<=j))) fLe:=.scalar λH v w a b q r1 r2 h=>by
 replace h:=bQ h
 obtain⟨i,j,rfl,rfl,h⟩:=h
 cases r1;cases r2;cases h
 exact⟨_,_,rfl,λ_=>.bl _,λQ k=>⟨_,_,rfl,rfl,k⟩⟩
theorem CB:OpS K (rI0 λi j=>.bl (decide (j<i))) fGt:=.scalar λH v w a b q r1 r2 h=>by
 replace h:=bQ h
 obtain⟨i,j,rfl,rfl,h⟩:=h
 cases r1;cases r2;cases h
 exact⟨_,_,rfl,λ_=>.bl _,λQ k=>⟨_,_,rfl,rfl,k⟩⟩
theorem Cw:OpS K (rI0 λi j=>.bl (decide (j<=i))) fGe:=.scalar λH v w a b q r1 r2 h=>by
 replace h:=bQ h
 obtain⟨i,j,rfl,rfl,h⟩:=h
 cases r1;cases r2;cases h
 exact⟨_,_,rfl,λ_=>.bl _,λQ k=>⟨_,_,rfl,rfl,k⟩⟩
mutual
noncomputable def toD:A->Option D
 | .non=>some .non
 | .bl b=>some (.bl b)
 | .int i=>some (.int i)
 | .str x=>some (.str x)
 | .tup xs=>match gh xs with
  | some ds=>some (.tup ds)
  | none=>none
 | .lst xs=>match gh xs with
  | some ds=>some (.lst ds)
  | none=>none
 | .dic _=>none
 | .exc _=>none
 | .obj _ _=>none
noncomputable def gh:List A->Option (List D)
 | []=>some []
 | a::as=>match toD a,gh as with
  | some d,some ds=>some (d::ds)
  | _,_=>none
end
mutual
theorem ku{K:Kx}{H:Hp}:∀{v:V}{a:A}{d:D},RA K H v a->toD a=some d->Den K.K H v d
 | _,_,_,.non,h=>by rw[toD] at h;cases h;exact .non
 | _,_,_,.bl b,h=>by rw[toD] at h;cases h;exact .bl _
 | _,_,_,.int i,h=>by rw[toD] at h;cases h;exact .int _
 | _,_,_,.str x,h=>by rw[toD] at h;cases h;exact .str _
 | _,_,_,.tup (as:=as) e r,h=>by
  rw[toD] at h
  cases q:gh as with
  | none=>simp only[q] at h;cases h
  | some ds=>simp only[q] at h;cases h;exact .tup e (nt r q)
 | _,_,_,.lst (as:=as) e r,h=>by
  rw[toD] at h
  cases q:gh as with
  | none=>simp only[q] at h;cases h
  | some ds=>simp only[q] at h;cases h;exact .lst e (nt r q)
 | _,_,_,.dic e r,h=>by rw[toD] at h;cases h
 | _,_,_,.exc e m,h=>by rw[toD] at h;cases h
 | _,_,_,.obj e m r,h=>by rw[toD] at h;cases h
theorem nt{K:Kx}{H:Hp}:∀{vs:List V}{as:List A}{ds:List D},RAs K H vs as->gh as=some ds->fz K.K H vs ds
 | _,_,_,.nil,h=>by rw[gh] at h;cases h;exact .nil
 | _,_,_,.cons (a:=a) (as:=as) q r,h=>by
  rw[gh] at h
  cases e1:toD a with
  | none=>simp only[e1] at h;cases h
  | some d =>
   cases e2:gh as with
   | none=>simp only[e1,e2] at h;cases h
   | some ds=>simp only[e1,e2] at h;cases h;exact .cons (ku q e1) (nt r e2)
end
noncomputable def eqA(a b:A):Option Bool:=match toD a,toD b with
 | some d,some e=>if D.depth d<=40 then some (D.eq d e) else none
 | _,_=>none
noncomputable def fEq(a b:A):Option Rr:=match eqA a b with
 | some k=>some (.fr (.bl k))
 | none=>none
noncomputable def fNe(a b:A):Option Rr:=match eqA a b with
 | some k=>some (.fr (.bl (!k)))
 | none=>none
theorem n6{a b:A}{k:Bool}(h:eqA a b=some k):∃d e,toD a=some d/\toD b=some e/\D.depth d<=40/\k=D.eq d e:=by
 unfold eqA at h
 cases e1:toD a with
 | none=>simp only[e1] at h;cases h
 | some d =>
  cases e2:toD b with
  | none=>simp only[e1,e2] at h;cases h
  | some e =>
   simp only[e1,e2] at h
   split at h
   ·rename_i hd;cases h;exact⟨d,e,rfl,rfl,hd,rfl⟩
   ·cases h
theorem os_eq:OpS K (HZ K.K) fEq:=.scalar λH v w a b q r1 r2 h=>by
 unfold fEq at h
 cases e:eqA a b with
 | none=>simp only[e] at h;cases h
 | some k =>
  simp only[e] at h;cases h
  obtain⟨d,d',h1,h2,h3,rfl⟩:=n6 e
  exact⟨_,_,rfl,λ_=>.bl _,λQ k=>⟨d,d',ku r1 h1,ku r2 h2,h3,k⟩⟩
theorem Ce:OpS K (Jk K.K) fNe:=.scalar λH v w a b q r1 r2 h=>by
 unfold fNe at h
 cases e:eqA a b with
 | none=>simp only[e] at h;cases h
 | some k =>
  simp only[e] at h;cases h
  obtain⟨d,d',h1,h2,h3,rfl⟩:=n6 e
  exact⟨_,_,rfl,λ_=>.bl _,λQ k=>⟨d,d',ku r1 h1,ku r2 h2,h3,k⟩⟩
noncomputable def lL:A->A->Option Rr:=opS λx y=>if x.length+y.length<=100000 then some (.fr (.str (x++y))) else none
theorem gr:100000<=sizeLine:=by rw[sizeLine_eq];decide
theorem Bn:OpS K (λx y H Q=>∃i j,x=.str i/\y=.str j/\i.length+j.length<=sizeLine/\Q (.str (i++j)) H) lL:=.scalar λH v w a b q r1 r2 h=>by
 replace h:=wa h
 obtain⟨i,j,rfl,rfl,h⟩:=h
 cases r1;cases r2
 split at h
 ·rename_i hc
  cases h
  exact⟨_,_,rfl,λ_=>.str _,λQ k=>⟨_,_,rfl,rfl,Mr hc gr,k⟩⟩
 ·cases h
noncomputable def Cj:R2:=λx y H Q=>∃z n,x=.str z/\y=.int n/\MulOk z n/\Q (.str (Nu z n)) H
theorem Bm:OpR X (binaryOp .Mult) Cj:=by
 intro pins s σ H x y v u Q I rx ry h
 obtain⟨z,n,rfl,rfl,hok,q⟩:=h
 obtain⟨t,rfl⟩:=rx
 obtain⟨t',rfl⟩:=ry
 exact SB.mul hok λt'' k=>⟨.str _,H,I.tok _,⟨t'',rfl⟩,q⟩
noncomputable def rb:A->A->Option Rr
 | .str z,.int n=>if 1<=n/\n<=1000/\z.length<=1000 then some (.fr (.str (Nu z n))) else none
 | _,_=>none
theorem Br:OpS K Cj rb:=.scalar λH v w a b q r1 r2 h=>by
 cases a<;>first|(cases h;done)|(cases b<;>first|(cases h;done)|skip)
 cases r1;cases r2
 rename_i z n
 unfold rb at h
 simp only at h
 split at h
 ·rename_i hc
  cases h
  refine⟨_,_,rfl,λ_=>.str _,λQ k=>⟨_,_,rfl,rfl,⟨?_,λ_ _ z1=>?_,λ_ _=>?_⟩,k⟩⟩
  ·rw[Bool.or_eq_false_iff];exact⟨decide_eq_false (by omega),decide_eq_false (by omega)⟩
  ·have h1:n*(z.length:Int)<=1000*1000:=Int.mul_le_mul hc.2.1 (by omega) (by omega) (by decide)
   have h2:(z.length:Int)<=(2^63-1) / n:=by
    rw[Int.le_ediv_iff_mul_le (by omega)]
    rw[RB];omega
   omega
  ·unfold OL
   refine decide_eq_false ?_
   have h1:z.length*n.toNat<=1000*1000:=Nat.mul_le_mul hc.2.2 (by omega)
   have:=sizeLine_eq
   omega
 ·cases h
noncomputable def kJ:A->A->Option Rr
 | .tup xs,.tup ys=>if xs.length+ys.length<=100000 then some (.fr (.tup (xs++ys))) else none
 | _,_=>none
noncomputable def CF(K:LU):R2:=λx y H Q=>∃a b xs ys,x=.ref a/\y=.ref b/\SqT K H a xs/\SqT K H b ys/\xs.length+ys.length<=sizeLine/\(xs=[]->Q (.ref b) H)/\(xs≠[]->ys=[]->Q (.ref a) H) /\
 (xs≠[]->ys≠[]->∀p,H p=none->Q (.ref p) (upd H p (.tup (xs++ys))))
theorem Bu:OpR X (binaryOp .Add) (CF X.K):=by
 intro pins s σ H x y v u Q I rx ry h
 obtain⟨a,b,xs,ys,rfl,rfl,ha,hb,hz,q1,q2,q3⟩:=h
 by_cases hx:xs=[]
 ·subst hx
  cases rx
  cases ry
  obtain⟨its,r1,p1,_⟩:=I.tuple ha
  obtain⟨jts,r2,p2,_⟩:=I.tuple hb
  cases r1
  obtain⟨⟨c1,d1,t1,l1⟩,e1,hc1,n1,hd1⟩:=id p1
  obtain⟨⟨c2,d2,t2,l2⟩,e2,hc2,n2,hd2⟩:=id p2
  simp only at hc1 hd1 hc2 hd2
  subst hc1 hd1 hc2 hd2
  exact concat_meets ⟨_,e1,rfl⟩ ⟨_,e2,rfl⟩ noFill_tuple_add seq_tuple_add OF Oz (Ou _ _) (RN a b _ _ n1 n2 d1 d2 l1 l2 rfl) ⟨e1,e2,.ref b,H,I,rfl,q1 rfl⟩
 ·exact zr pins s σ H (.ref a) (.ref b) v u Q I rx ry ⟨a,b,xs,ys,rfl,rfl,ha,hb,hx,hz,q2 hx,q3 hx⟩
theorem Bk:OpS K (CF K.K) kJ:=by
 intro c σ H ρ τ θ x y v w a b q Q ek hv hw bd e1 e2 e3 k
 cases a<;>first|(cases e3;done)|(cases b<;>first|(cases e3;done)|skip)
 rename_i xs ys
 unfold kJ at e3
 simp only at e3
 split at e3
 ·rename_i hc
  cases e3
  obtain⟨L,bl,i1,i2⟩:=Bd.sI bd hv hw e1 e2
  obtain⟨p1,vs1,rfl,s1,r1⟩:=i1.2.1 xs rfl
  obtain⟨p2,vs2,rfl,s2,r2⟩:=i2.2.1 ys rfl
  have l1:=r1.len
  have l2:=r2.len
  subst ek
  refine⟨p1,p2,vs1,vs2,rfl,rfl,eB (g_same _ _ _) s1,eB (g_same _ _ _) s2,by have:=gr;omega,λz=>?_,λ_ z=>?_,λ_ _ p hp=>?_⟩
  ·subst z
   have:xs=[]:=Pu (by rw[<- l1];rfl)
   subst this
   exact k _ H trivial (bl.push (.tup s2 r2))
  ·subst z
   have:ys=[]:=Pu (by rw[<- l2];rfl)
   subst this
   rw[MB] at k
   exact k _ H trivial (bl.push (.tup s1 r1))
  ·obtain⟨b2,sm,np⟩:=bl.new (o:=.tup (vs1++vs2)) hp
   exact k _ _ trivial (b2.push (.tup (.inl (.inl (by rw[cL np (bl.fhd hp)];exact bw))) ((r1.app r2).sm sm)))
 ·cases e3
end
variable{w:V}{id:String}
section
variable{X:Cx}{E:XK}
noncomputable def fIx:A->A->Option Rr
 | .lst xs,.int i=>match atI xs i with
  | some a=>some (.fr a)
  | none=>none
 | .tup xs,.int i=>match atI xs i with
  | some a=>some (.fr a)
  | none=>none
 | .str z,.int i=>if z.length<=100000 then match atI z.cps.toList i with
  | some c=>some (.fr (.str ⟨#[c]⟩))
  | none=>none else none
 | _,_=>none
theorem RAs.atI{k:Kx}{G:Hp}{vs:List V}{as:List A}{i:Int}{a:A}(r:RAs k G vs as)(h:atI as i=some a):∃v,atI vs i=some v/\RA k G v a:=by
 unfold L2.atI at h ⊢
 rw[r.len]
 cases e:ixN as.length i with
 | none=>rw[e] at h;cases h
 | some j =>
  rw[e] at h
  obtain⟨v,h1,h2⟩:=r.ta h
  exact⟨v,h1,h2⟩
theorem JD:OpS K (rIx K.K) fIx:=by
 intro c σ H ρ τ θ x y v w a b q Q ek hv hw bd e1 e2 e3 k
 subst ek
 have r2:=Bd.rd bd hw e2
 obtain⟨L,bl,i1,i2⟩:=Bd.sI bd hv hw e1 e2
 have r1:=Bd.rd bd.drop hv e1
 cases a<;>first|(cases e3;done)|(cases b<;>first|(cases e3;done)|skip)
 ·rename_i z i
  cases r1;cases r2
  unfold fIx at e3
  simp only at e3
  split at e3
  ·rename_i hz
   cases e:atI z.cps.toList i with
   | none=>simp only[e] at e3;cases e3
   | some ch =>
    simp only[e] at e3;cases e3
    exact .inr (.inr ⟨z,i,ch,rfl,rfl,Mr hz gr,e,k _ H trivial (Bd.push ⟨L,bl⟩ λ_=>.str _)⟩)
  ·cases e3
 ·rename_i xs i
  cases r2
  unfold fIx at e3
  simp only at e3
  cases e:atI xs i with
  | none=>simp only[e] at e3;cases e3
  | some d =>
   simp only[e] at e3;cases e3
   obtain⟨p,vs,rfl,s1,rr⟩:=i1.2.1 xs rfl
   obtain⟨u,h1,h2⟩:=rr.atI e
   exact .inr (.inl ⟨p,vs,i,u,rfl,rfl,eB (g_same _ _ _) s1,h1,k u H trivial (bl.push h2)⟩)
 ·rename_i xs i
  cases r2
  unfold fIx at e3
  simp only at e3
  cases e:atI xs i with
  | none=>simp only[e] at e3;cases e3
  | some d =>
   simp only[e] at e3;cases e3
   obtain⟨p,vs,rfl,s1,rr⟩:=i1.1 xs rfl
   obtain⟨u,h1,h2⟩:=rr.atI e
   exact .inl ⟨p,vs,i,u,rfl,rfl,s1,h1,k u H trivial (bl.push h2)⟩
theorem Fy{a b:Expr}(ha:JE X E a ma)(hb:JE X E b mb)(hs:jQ b):JE X E (.Subscript a b pos) (mOp fIx ma mb) :=
 ⟨PE.weaken (JO GX ha.p hb.p hs) (dm JD)⟩
noncomputable def jH:A->Option Key
 | .int i=>some (.inl i)
 | .str x=>some (.inr x)
 | _=>none
theorem nK{b:A}{y:Key}(r:RA K H w b)(h:jH b=some y):w=kV y:=by
 cases r<;>first|(cases h;rfl)|(cases h;done)
noncomputable def av:A->A->Option Rr
 | .dic kvs,b=>match jH b with
  | some y=>match iX kvs y with
   | some a=>some (.fr a)
   | none=>none
  | none=>none
 | _,_=>none
theorem zM:OpS K (λx y H Q=>∃a v,x=.ref a/\iC H a y (some v)/\Q v H) av:=by
 intro c σ H ρ τ θ x y v w a b q Q ek hv hw bd e1 e2 e3 k
 subst ek
 have r2:=Bd.rd bd hw e2
 obtain⟨L,bl,i1,i2⟩:=Bd.sI bd hv hw e1 e2
 cases a<;>first|(cases e3;done)|skip
 rename_i kvs
 unfold av at e3
 simp only at e3
 cases ey:jH b with
 | none=>simp only[ey] at e3;cases e3
 | some ky =>
  simp only[ey] at e3
  obtain⟨p,vs,rfl,s1,rr⟩:=i1.2.2 kvs rfl
  rcases rr.get ky with ⟨u,a,h1,h2,h3⟩|⟨h1,h2⟩
  ·simp only[h2] at e3;cases e3
   exact⟨p,u,rfl,.inl ⟨vs,ky,s1,nK r2 ey,h1.symm⟩,k u H trivial (bl.push h3)⟩
  ·simp only[h2] at e3;cases e3
theorem z8{a b:Expr}(hu:X.A.units+1<cLine)(ha:JE X E a ma)(hb:JE X E b mb)(hs:vL b):JE X E (.Subscript a b pos) (mOp av ma mb) :=
 ⟨PE.weaken (Bs hu ha.p hb.p hs) (dm (r:=λx y H Q=>∃a v,x=.ref a/\iC H a y (some v)/\Q v H) zM)⟩
theorem Hk{a b:Expr}(hu:X.A.units+1<cLine)(ha:JE X E a ma)(hb:JE X E b mb)(hs:jQ b)(hs':vL b):JE X E (.Subscript a b pos) (mOp (fOr fIx av) ma mb):=fE (Fy ha hb hs) (z8 hu ha hb hs')
noncomputable def lq:A->Bool
 | .non=>true
 | .bl _=>true
 | .int _=>true
 | .str _=>true
 | _=>false
noncomputable def nX:A->V
 | .non=>.non
 | .bl b=>.bl b
 | .int i=>.int i
 | .str x=>.str x
 | _=>.non
theorem xQ{b:A}(r:RA K H w b)(h:lq b=true):w=nX b/\gM w=true:=by
 cases r<;>first|exact⟨rfl,rfl⟩|(cases h;done)
theorem sP{K:Kx}{H:Hp}:∀{vs:List V}{as:List A},RAs K H vs as->as.all lq=true->vs=as.map nX/\vs.all gM=true
 | _,_,.nil,_=>⟨rfl,rfl⟩
 | _,_,.cons h r,e=>by
  rw[Mu,LV] at e
  obtain⟨h1,h2⟩:=xQ h e.1
  obtain⟨h3,h4⟩:=sP r e.2
  exact⟨by rw[h1,h3];rfl,by rw[Mu,h2,h4];rfl⟩
noncomputable def inA(neg:Bool)(x:A)(xs:List A):Option Rr:=if lq x&&xs.all lq then some (.fr (.bl (if neg then !inV (nX x) (xs.map nX) else inV (nX x) (xs.map nX)))) else none
noncomputable def d9(neg:Bool):A->A->Option Rr
 | x,.lst xs=>inA neg x xs
 | x,.tup xs=>inA neg x xs
 | _,_=>none
theorem mP{neg:Bool}:OpS K (rIn K.K neg) (d9 neg):=.scalar λH v w a b q r1 r2 h=>by
 have key:∀(xs:List A)(vs:List V)(p:Addr),RAs K H vs xs->(SqL K.K H p vs\/SqT K.K H p vs)->inA neg a xs=some q->∃u d,q=.fr d/\(∀G,RA K G u d)/\∀Q:VK,Q u H->rIn K.K neg v (.ref p) H Q:=by
  intro xs vs p rr sq h
  unfold inA at h
  split at h
  ·rename_i hc
   rw[LV] at hc
   cases h
   obtain⟨rfl,h2⟩:=xQ r1 hc.1
   obtain⟨rfl,h4⟩:=sP rr hc.2
   exact⟨_,_,rfl,λ_=>.bl _,λQ k=>⟨p,_,rfl,sq,h2,h4,k⟩⟩
  ·cases h
 cases b<;>first|(cases h;done)|skip
 ·cases r2 with|tup e r=>exact key _ _ _ r (.inr e) h
 ·cases r2 with|lst e r=>exact key _ _ _ r (.inl e) h
noncomputable def cY(neg:Bool):A->A->Option Rr
 | x,.dic kvs=>match jH x with
  | some y=>some (.fr (.bl (if neg then !(iX kvs y).isSome else (iX kvs y).isSome)))
  | none=>none
 | _,_=>none
theorem wB:OpS K (λy x H Q=>∃a o,x=.ref a/\iC H a y o/\Q (.bl o.isSome) H) (cY false):=.scalar λH v w a b q r1 r2 h=>by
 cases b<;>first|(cases h;done)|skip
 cases r2 with
 | dic e r =>
  unfold cY at h
  simp only at h
  cases ey:jH a with
  | none=>simp only[ey] at h;cases h
  | some y =>
   simp only[ey] at h;cases h
   refine⟨_,_,rfl,λ_=>.bl _,λQ k=>⟨_,_,rfl,.inl ⟨_,y,e,nK r1 ey,rfl⟩,?_⟩⟩
   rcases r.get y with ⟨u,a,h1,h2,h3⟩|⟨h1,h2⟩
   ·rw[h1];rw[h2] at k;exact k
   ·rw[h1];rw[h2] at k;exact k
theorem tx:OpS K (λy x H Q=>∃a o,x=.ref a/\iC H a y o/\Q (.bl (!o.isSome)) H) (cY true):=.scalar λH v w a b q r1 r2 h=>by
 cases b<;>first|(cases h;done)|skip
 cases r2 with
 | dic e r =>
  unfold cY at h
  simp only at h
  cases ey:jH a with
  | none=>simp only[ey] at h;cases h
  | some y =>
   simp only[ey] at h;cases h
   refine⟨_,_,rfl,λ_=>.bl _,λQ k=>⟨_,_,rfl,.inl ⟨_,y,e,nK r1 ey,rfl⟩,?_⟩⟩
   rcases r.get y with ⟨u,a,h1,h2,h3⟩|⟨h1,h2⟩
   ·rw[h1];rw[h2] at k;exact k
   ·rw[h1];rw[h2] at k;exact k
theorem Du{a b:Expr}(hu:X.A.units+1<cLine)(ha:JE X E a ma)(hb:JE X E b mb)(hm:behindInMarks .In b=false):JE X E (.Compare a [.In] [b] pos) (mOp (cY false) ma mb) :=
 ⟨PE.weaken (uV (yD hu ha.p hb.p) hm) (dm (r:=λy x H Q=>∃a o,x=.ref a/\iC H a y o/\Q (.bl o.isSome) H) wB)⟩
theorem Gb{a b:Expr}(hu:X.A.units+1<cLine)(ha:JE X E a ma)(hb:JE X E b mb)(hm:behindInMarks .In b=false):JT X E (.Compare a [.In] [b] pos) (ao (mOp (cY false) ma mb)) :=
 ⟨PT.weaken (xi (yD hu ha.p hb.p) hm) λσ H Q h=>dm (r:=λy x H Q=>∃a o,x=.ref a/\iC H a y o/\Q (.bl o.isSome) H) wB σ H _ (dO σ H Q h)⟩
theorem BF{a b:Expr}(hu:X.A.units+1<cLine)(ha:JE X E a ma)(hb:JE X E b mb)(hm:behindInMarks .NotIn b=false):JE X E (.Compare a [.NotIn] [b] pos) (mOp (cY true) ma mb) :=
 ⟨PE.weaken (uV (lj hu ha.p hb.p) hm) (dm (r:=λy x H Q=>∃a o,x=.ref a/\iC H a y o/\Q (.bl (!o.isSome)) H) tx)⟩
theorem AF{a b:Expr}(hu:X.A.units+1<cLine)(ha:JE X E a ma)(hb:JE X E b mb)(hm:behindInMarks .NotIn b=false):JT X E (.Compare a [.NotIn] [b] pos) (ao (mOp (cY true) ma mb)) :=
 ⟨PT.weaken (xi (lj hu ha.p hb.p) hm) λσ H Q h=>dm (r:=λy x H Q=>∃a o,x=.ref a/\iC H a y o/\Q (.bl (!o.isSome)) H) tx σ H _ (dO σ H Q h)⟩
theorem JK{a b:Expr}(hu:X.A.units+1<cLine)(ha:JE X E a ma)(hb:JE X E b mb)(hm:behindInMarks .In b=false):JE X E (.Compare a [.In] [b] pos) (mOp (fOr (d9 false) (cY false)) ma mb):=fE (dE lV mP ha hb hm) (Du hu ha hb hm)
theorem IH{a b:Expr}(hu:X.A.units+1<cLine)(ha:JE X E a ma)(hb:JE X E b mb)(hm:behindInMarks .In b=false):JT X E (.Compare a [.In] [b] pos) (ao (mOp (fOr (d9 false) (cY false)) ma mb)):=gT (dD lV mP ha hb hm) (Gb hu ha hb hm)
theorem FA{a b:Expr}(hu:X.A.units+1<cLine)(ha:JE X E a ma)(hb:JE X E b mb)(hm:behindInMarks .NotIn b=false):JE X E (.Compare a [.NotIn] [b] pos) (mOp (fOr (d9 true) (cY true)) ma mb):=fE (dE iT mP ha hb hm) (BF hu ha hb hm)
theorem FG{a b:Expr}(hu:X.A.units+1<cLine)(ha:JE X E a ma)(hb:JE X E b mb)(hm:behindInMarks .NotIn b=false):JT X E (.Compare a [.NotIn] [b] pos) (ao (mOp (fOr (d9 true) (cY true)) ma mb)):=gT (dD iT mP ha hb hm) (AF hu ha hb hm)
noncomputable def mj:A->Bool
 | .non=>true
 | _=>false
noncomputable def fIs(neg:Bool):A->A->Option Rr
 | a,.non=>some (.fr (.bl (if neg then !mj a else mj a)))
 | _,_=>none
theorem rG{v:V}{a:A}(r:RA K H v a):decide (v=.non)=mj a:=by cases r<;>rfl
theorem Cd:OpS K (λx y H Q=>y=.non/\Q (.bl (decide (x=.non))) H) (fIs false):=.scalar λH v w a b q r1 r2 h=>by
 cases b<;>first|(cases h;done)|skip
 cases r2;cases h
 exact⟨_,_,rfl,λ_=>.bl _,λQ k=>⟨rfl,by rw[rG r1];exact k⟩⟩
theorem rn:OpS K (λx y H Q=>y=.non/\Q (.bl (!decide (x=.non))) H) (fIs true):=.scalar λH v w a b q r1 r2 h=>by
 cases b<;>first|(cases h;done)|skip
 cases r2;cases h
 exact⟨_,_,rfl,λ_=>.bl _,λQ k=>⟨rfl,by rw[rG r1];exact k⟩⟩
noncomputable def mUn(f:A->Option Rr)(m:Mi Rr):Mi Rr:=ay m λx ρ=>match res ρ x with
 | some a=>match f a with
  | some r=>some (.ok r,ρ)
  | none=>none
 | none=>none
def UnS(K:Kx)(r:V->Hp->VK->Prop)(f:A->Option Rr):Prop:=∀(c:Cn)(σ:St)(H:Hp)(ρ:List Sl)(τ:St)(θ:List Sl)(x:Rr)(v:V)(a:A)(q:Rr)(Q:VK),c.toKx=K->VR σ x v ->
 Bd c σ H ρ (bN x v τ) (bO x θ)->res ρ x=some a->f a=some q->(∀u H',VR σ q u->Bd c σ H' ρ (bN q u τ) (bO q θ)->Q u H')->r v H Q
theorem mx{f:A->Option Rr}{x:Rr}{o:Except Str Rr}(h:(match res ρ x with|some a=>(match f a with|some r=>some ((.ok r:Except Str Rr),ρ)|none=>none)|none=>none)=some (o,ρ')):∃a r,res ρ x=some a/\f a=some r/\o=.ok r/\ρ'=ρ:=by
 cases e1:res ρ x with
 | none=>simp only[e1] at h;cases h
 | some a =>
  simp only[e1] at h
  cases e3:f a with
  | none=>simp only[e3] at h;cases h
  | some r=>simp only[e3] at h;cases h;exact⟨a,r,rfl,e3,rfl,rfl⟩
theorem fK{r:V->Hp->VK->Prop}{f:A->Option Rr}(hf:UnS (kx X) r f)(σ:St)(H:Hp)(Q:VK)(h:TEm (kx X) E (mUn f m) σ H Q):TEm (kx X) E m σ H λv H'=>r v H' Q:=by
 obtain⟨c,ρ,τ,θ,o,ρ',ek,b,em,q⟩:=h
 refine ba ek b em (λx v ρ1 H1 hv b1 em1=>?_) (aY q)
 obtain⟨a,r,e1,e3,rfl,rfl⟩:=mx em1
 exact hf c σ H1 _ τ θ x v a r Q ek hv b1 e1 e3 q
theorem UnS.scalar{r:V->Hp->VK->Prop}{f:A->Option Rr}(h:∀H v a q,RA K H v a->f a=some q->∃u d,q=.fr d/\(∀G,RA K G u d)/\∀Q:VK,Q u H->r v H Q):UnS K r f:=by
 intro c σ H ρ τ θ x v a q Q ek hv bd e1 e3 k
 have r1:=Bd.rd bd hv e1
 rw[ek] at r1
 obtain⟨u,d,rfl,hu,hq⟩:=h H v a q r1 e3
 exact hq Q (k u H trivial (Bd.push bd.drop (by rw[ek];exact hu)))
noncomputable def vy:A->Option Rr
 | .int i=>some (.fr (.int (-i)))
 | _=>none
theorem EY{a:Expr}(h:JE X E a m):JE X E (.UnaryOp .USub a pos) (mUn vy m):=⟨PE.weaken (IC Gs h.p) (fK (.scalar λH v a q r1 h=>by
 cases a<;>first|(cases h;done)|skip
 cases r1;cases h
 exact⟨_,_,rfl,λ_=>.int _,λQ k=>⟨_,rfl,k⟩⟩))⟩
noncomputable def mB1(f:A->Option Rr)(m:Mi Rr):Mi Rr:=mUn f m
noncomputable def mB2(f:A->A->Option Rr)(m n:Mi Rr):Mi Rr:=mOp f m n
theorem xM{r:List V->Hp->VK->Prop}{f:A->Option Rr}{p:Pos}(hc:eA X (.builtin id) r)(hf:UnS (kx X) (λv=>r [v]) f)(hg:Gl X x)(hm:X.mg x=none)(hv:bootBuiltins x=some (.builtin id))(ha:JE X E e m)(hn:x ≠ "__name__")
  (hdb:NDb x)(hs:starEach [e] X.env=(false,eval e X.env)::starEach [] X.env:=by rfl)(hp:(backTo pos (starEach [] X.env)).any (·.1)=false:=by rfl):JE X E (.Call (.Name x p) [e] [] pos) (mB1 f m) :=
 ⟨PE.weaken (gC hc hg hm hv (br ha.p dh hs) hn hdb hs hp) λσ H Q h=>fK hf σ H Q h⟩
theorem yo{T:String}{r:List V->Hp->VK->Prop}{f:A->Option Rr}{p:Pos}(hc:eA X (.type T) r)(hf:UnS (kx X) (λv=>r [v]) f)(hg:Gl X x)(hm:X.mg x=none)(hv:bootBuiltins x=some (.type T))(ha:JE X E e m)(hn:x ≠ "__name__")
  (hdb:NDb x)(hs:starEach [e] X.env=(false,eval e X.env)::starEach [] X.env:=by rfl)(hp:(backTo pos (starEach [] X.env)).any (·.1)=false:=by rfl):JE X E (.Call (.Name x p) [e] [] pos) (mB1 f m) :=
 ⟨PE.weaken (uH hc hg hm hv (br ha.p dh hs) hn hdb hs hp) λσ H Q h=>fK hf σ H Q h⟩
theorem Cs{r:List V->Hp->VK->Prop}{f:A->A->Option Rr}{p:Pos}{e1 e2:Expr}{n:Mi Rr}(hc:eA X (.builtin id) r)(hf:OpS (kx X) (λv w=>r [v,w]) f)(hg:Gl X x)(hm:X.mg x=none)(hv:bootBuiltins x=some (.builtin id))(h1:JE X E e1 m)(h2:JE X E e2 n)(hn:x ≠ "__name__")
  (hdb:NDb x)(hs:starEach [e1,e2] X.env=(false,eval e1 X.env)::starEach [e2] X.env:=by rfl)(hs2:starEach [e2] X.env=(false,eval e2 X.env)::starEach [] X.env:=by rfl)(hp:(backTo pos (starEach [e2] X.env)).any (·.1)=false:=by rfl):JE X E (.Call (.Name x p) [e1,e2] [] pos) (mB2 f m n) :=
 ⟨PE.weaken (gC hc hg hm hv (br h1.p (br h2.p dh hs2) hs) hn hdb hs hp) λσ H Q h=>dm (r:=λv w=>r [v,w]) hf σ H Q h⟩
noncomputable def cW:A->Option Rr
 | .str z=>if z.length<=100000 then some (.fr (.int z.length)) else none
 | .lst xs=>some (.fr (.int xs.length))
 | .tup xs=>some (.fr (.int xs.length))
 | _=>none
theorem G8:UnS K (λv H Q=>∃x n,[v]=[x]/\IE K.K x H n/\Q (.int n) H) cW:=.scalar λH v a q r1 h=>by
 cases a<;>first|(cases h;done)|skip
 ·cases r1
  unfold cW at h
  simp only at h
  split at h
  ·rename_i hz;cases h
   exact⟨_,_,rfl,λ_=>.int _,λQ k=>⟨_,_,rfl,⟨Mr hz gr,rfl⟩,k⟩⟩
  ·cases h
 ·cases r1 with
  | tup e r=>cases h;exact⟨_,_,rfl,λ_=>.int _,λQ k=>⟨_,_,rfl,.inr ⟨_,e,rfl⟩,by rw[r.len];exact k⟩⟩
 ·cases r1 with
  | lst e r=>cases h;exact⟨_,_,rfl,λ_=>.int _,λQ k=>⟨_,_,rfl,.inl ⟨_,e,rfl⟩,by rw[r.len];exact k⟩⟩
noncomputable def uf:A->Option Rr
 | .int i=>some (.fr (.int (if i<0 then -i else i)))
 | _=>none
theorem DJ:UnS K (λv H Q=>∃i,[v]=[V.int i]/\Q (.int (if i<0 then -i else i)) H) uf:=.scalar λH v a q r1 h=>by
 cases a<;>first|(cases h;done)|skip
 cases r1;cases h
 exact⟨_,_,rfl,λ_=>.int _,λQ k=>⟨_,rfl,k⟩⟩
noncomputable def tF:A->A->Option Rr:=opI λi j=>some (.fr (.int (if j > i then j else i)))
noncomputable def t5:A->A->Option Rr:=opI λi j=>some (.fr (.int (if j<i then j else i)))
theorem GU:OpS K (λv w H Q=>∃i j,[v,w]=[V.int i,V.int j]/\Q (.int (if j > i then j else i)) H) tF:=.scalar λH v w a b q r1 r2 h=>by
 replace h:=bQ h
 obtain⟨i,j,rfl,rfl,h⟩:=h
 cases r1;cases r2;cases h
 exact⟨_,_,rfl,λ_=>.int _,λQ k=>⟨_,_,rfl,k⟩⟩
theorem En:OpS K (λv w H Q=>∃i j,[v,w]=[V.int i,V.int j]/\Q (.int (if j<i then j else i)) H) t5:=.scalar λH v w a b q r1 r2 h=>by
 replace h:=bQ h
 obtain⟨i,j,rfl,rfl,h⟩:=h
 cases r1;cases r2;cases h
 exact⟨_,_,rfl,λ_=>.int _,λQ k=>⟨_,_,rfl,k⟩⟩
noncomputable def p8:A->Option Rr
 | .int i=>some (.fr (.int i))
 | .bl k=>some (.fr (.int (if k then 1 else 0)))
 | _=>none
theorem Fq:UnS K (λv H Q=>(∃i,[v]=[V.int i]/\Q (.int i) H)\/∃k,[v]=[V.bl k]/\Q (.int (if k then 1 else 0)) H) p8:=.scalar λH v a q r1 h=>by
 cases a<;>first|(cases h;done)|skip
 ·cases r1;cases h;exact⟨_,_,rfl,λ_=>.int _,λQ k=>.inr ⟨_,rfl,k⟩⟩
 ·cases r1;cases h;exact⟨_,_,rfl,λ_=>.int _,λQ k=>.inl ⟨_,rfl,k⟩⟩
noncomputable def Cc:A->Option (List A)
 | .lst xs=>some xs
 | .tup xs=>some xs
 | _=>none
noncomputable def rT(a:A):Option Rr:=match Cc a with
 | some xs=>some (.nw (.lst xs))
 | none=>none
noncomputable def fQ(a:A):Option Rr:=match Cc a with
 | some xs=>some (.fr (.tup xs))
 | none=>none
theorem zK:UnS K (λv H Q=>∃p ys,[v]=[V.ref p]/\(SqL K.K H p ys\/SqT K.K H p ys)/\∀l,H l=none->Q (.ref l) (upd H l (.lst ys))) rT:=by
 intro c σ H ρ τ θ x v a q Q ek hv bd e1 e3 k
 subst ek
 obtain⟨L,bl,i1⟩:=Bd.open bd hv e1
 cases a<;>first|(cases e3;done)|skip
 ·rename_i xs
  cases e3
  obtain⟨p,vs,rfl,s1,rr⟩:=i1.2.1 xs rfl
  exact⟨p,vs,rfl,.inr (eB (g_same _ _ _) s1),λl hl=>k _ _ trivial (bl.kN hl λG H' sm q=>.lst q (rr.sm sm))⟩
 ·rename_i xs
  cases e3
  obtain⟨p,vs,rfl,s1,rr⟩:=i1.1 xs rfl
  exact⟨p,vs,rfl,.inl s1,λl hl=>k _ _ trivial (bl.kN hl λG H' sm q=>.lst q (rr.sm sm))⟩
theorem yL:UnS K (λv H Q=>∃p ys,[v]=[V.ref p]/\((SqL K.K H p ys/\∀l,H l=none->Q (.ref l) (upd H l (.tup ys)))\/(SqT K.K H p ys/\Q (.ref p) H))) fQ:=by
 intro c σ H ρ τ θ x v a q Q ek hv bd e1 e3 k
 subst ek
 obtain⟨L,bl,i1⟩:=Bd.open bd hv e1
 cases a<;>first|(cases e3;done)|skip
 ·rename_i xs
  cases e3
  obtain⟨p,vs,rfl,s1,rr⟩:=i1.2.1 xs rfl
  exact⟨p,vs,rfl,.inr ⟨eB (g_same _ _ _) s1,k _ _ trivial (bl.push (.tup s1 rr))⟩⟩
 ·rename_i xs
  cases e3
  obtain⟨p,vs,rfl,s1,rr⟩:=i1.1 xs rfl
  refine⟨p,vs,rfl,.inl ⟨s1,λl hl=>?_⟩⟩
  obtain⟨b2,sm,np⟩:=bl.new (o:=.tup vs) hl
  exact k _ _ trivial (b2.push (.tup (.inl (.inl (by rw[cL np (bl.fhd hl)];exact bw))) (rr.sm sm)))
end
section
variable{c:Cn}{σ:St}{H:Hp}{ρ:List Sl}{τ:St}{θ:List Sl}
theorem Bd.mR{x:Option V}(e:xs.length=ss.length)(b:Bd c σ H ρ (x::(xs++τ)) (s::(ss++θ))):Bd c σ H ρ (x::τ) (s::θ):=by
 obtain⟨L,b⟩:=b
 have r:az c.toKx (c.g H L) H (x::(xs++(τ++σ))) (s::(ss++(θ++ρ))) L:=by have:=b.rel;simpa[L7] using this
 cases r with
 | cons h r =>
  rename_i L0 L'
  obtain⟨L1,L2,e1,r1,r2⟩:=az.split e r
  subst e1
  have sl:(L0++L2).Sublist (L0++(L1++L2)):=Nl (Nw _) (PM _ _)
  have sm:Sq (c.g H (L0++(L1++L2))) (c.g H (L0++L2)):=cT λa ha=>sl.subset ha
  exact⟨L0++L2,b.nd.sublist sl,az.cons (h.sm sm (λ_ _ _ e=>e)) (r2.sm sm (λ_ _ _ e=>e)),λp hp=>b.own p (sl.subset hp),b.fr,b.kp,by have:=b.lt;simp at this ⊢;omega,b.hd⟩
theorem Bd.DW{ys:St}(b:Bd c (σ++ys) H ρ τ θ):Bd c σ H (ρ.take σ.length) τ θ:=by
 have hl:=b.hG
 rw[Ma] at hl
 obtain⟨L,b⟩:=b
 have r:az c.toKx (c.g H L) H ((τ++σ)++ys) ((θ++ρ.take σ.length)++ρ.drop σ.length) L:=by
  have:=b.rel
  rw[L7,L7,MQ];exact this
 obtain⟨L1,L2,e1,r1,r2⟩:=az.split (by simp[b.lt];omega) r
 subst e1
 have sm:Sq (c.g H (L1++L2)) (c.g H L1):=cT λa ha=>Mm _ ha
 refine⟨L1,(Mp.mp b.nd).1,r1.sm sm (λ_ _ _ e=>e),λp hp=>b.own p (Mm _ hp),b.fr,λi o h=>?_,b.lt,b.hd⟩
 have hi:i<(ρ.take σ.length).length:=(Mb.mp h).1
 rw[Mv] at hi
 have h':ρ[i]?=some (.pv o):=by rw[List.getElem?_take] at h;split at h;exact h;cases h
 have:=b.kp i o h'
 rwa[Na (by omega)] at this
theorem Bd.Jz{n:Nat}(b:Bd c σ H ρ τ θ):Bd c (σ++Mn n none) H (ρ++Mn n .un) τ θ:=by
 have hl:=b.hG
 obtain⟨L,b⟩:=b
 refine⟨L,b.nd,?_,b.own,b.fr,λi o h=>?_,b.lt,b.hd⟩
 ·have:=b.rel.app (kP (k:=c.toKx) (G:=c.g H L) (H:=H) n)
  simpa[L7] using this
 ·by_cases z:i<ρ.length
  ·rw[Na z] at h
   rw[Na (by omega)]
   exact b.kp i o h
  ·rw[MS (by omega)] at h
   have:=P0 (MT h)
   cases this
end
noncomputable abbrev Mg:=A->List Sl->Option (List Sl)
noncomputable abbrev Mgs:=List A->List Sl->Option (List Sl)
noncomputable def TGm(K:Kx)(lo:Nat)(G:Mg):TG:=λv σ H Q=>∃(c:Cn) (ρ:List Sl) (τ:St) (θ:List Sl) (a:A) (ρ':List Sl),c.toKx=K/\Bd c σ H ρ (some v::τ) (.fr a::θ)/\G a ρ=some ρ'/\∀σ' H',σ'.take lo=σ.take lo->σ'.length=σ.length->Bd c σ' H' ρ' τ θ->Q σ' H'
noncomputable def LA(K:Kx)(lo:Nat)(G:Mgs):TGs:=λvs σ H Q=>∃(c:Cn) (ρ:List Sl) (τ:St) (θ:List Sl) (as:List A) (ρ':List Sl),c.toKx=K/\vs.length=as.length/\Bd c σ H ρ (vs.map some++τ) (as.map Sl.fr++θ)/\G as ρ=some ρ'/\∀σ' H',σ'.take lo=σ.take lo->σ'.length=σ.length->Bd c σ' H' ρ' τ θ->Q σ' H'
structure JG (X:Cx) (lo:Nat) (tg:Expr) (G:Mg):Prop where
 p:PG X tg (TGm (kx X) lo G)
structure JGs (X:Cx) (lo:Nat) (tg:List Expr) (G:Mgs):Prop where
 p:PGs X tg (LA (kx X) lo G)
noncomputable def aM(i:Nat):Mg:=λa ρ=>put i (.fr a) ρ
noncomputable def hZ:Mgs:=λas ρ=>match as with
 | []=>some ρ
 | _=>none
noncomputable def aU(g:Mg)(gs:Mgs):Mgs:=λas ρ=>match as with
 | a::as=>match g a ρ with
  | some ρ1=>gs as ρ1
  | none=>none
 | []=>none
noncomputable def gR(n:Nat)(gs:Mgs):Mg:=λa ρ=>match a with
 | .tup as=>if as.length=n then gs as ρ else none
 | _=>none
variable{gs:Mgs}{tg iter:Expr}{body:List Stmt}
section
variable{X:Cx}{E:XK}{lo:Nat}
theorem zH(hN:X.N.Nodup)(hi:X.N[i]?=some x)(hx:Loc X.env.scope x)(hl:lo<=i)(hf:X.fn x=true\/X.env.scope.names.lookup x=some .local:=by first|exact .inl rfl|exact .inr rfl|assumption):JG X lo (.Name x pos) (aM i):=⟨λpins s σ H v u Q I r h=>by
 refine zZ hN hi hx hf pins s σ H v u Q I r ?_
 obtain⟨c,ρ,τ,θ,a,ρ',ek,b,em,q⟩:=h
 exact q _ H (by rw[List.take_set_of_le hl]) (by simp) (Bd.put b (λo z=>by cases z) em)⟩
theorem zI:JGs X lo [] hZ:=⟨λpins s σ H v u Q I r h=>by
 refine BL pins s σ H v u Q I r ?_
 obtain⟨c,ρ,τ,θ,as,ρ',ek,hl,b,em,q⟩:=h
 cases as with
 | nil=>cases em;cases v with|nil=>exact⟨rfl,q σ H rfl rfl b⟩|cons _ _=>simp at hl
 | cons _ _=>cases em⟩
theorem u7{g:Mg}(h1:JG X lo e g)(h2:JGs X lo es gs)(hp:∀{t:TG}{u:TGs},PG X e t->PGs X es u->PGs X (e::es) (Cu t u)):JGs X lo (e::es) (aU g gs):=⟨λpins s σ H v u Q I r h=>by
 refine hp h1.p h2.p pins s σ H v u Q I r ?_
 obtain⟨c,ρ,τ,θ,as,ρ',ek,hl,b,em,q⟩:=h
 cases as with
 | nil=>cases em
 | cons a as =>
  cases v with
  | nil=>simp at hl
  | cons v vs =>
   unfold aU at em
   simp only at em
   cases e1:g a ρ with
   | none=>simp only[e1] at em;cases em
   | some ρ1 =>
    simp only[e1] at em
    refine⟨v,vs,rfl,c,ρ,_,_,a,ρ1,ek,b,e1,λσ' H' t1 l1 b1=>⟨c,ρ1,τ,θ,as,ρ',ek,by simpa using hl,b1,em,λσ2 H2 t2 l2 b2=>q σ2 H2 (t2.trans t1) (l2.trans l1) b2⟩⟩⟩
theorem DX{n:Nat}(hc:X.calm=true)(h:JGs X lo es gs)(hn:(assignEach es X.env).length=n:=by rfl)(hst:(assignEach es X.env).findIdx? (·.1)=none:=by rfl):JG X lo (.Tuple es k pos) (gR n gs):=⟨λpins s σ H v u Q I r h'=>by
 refine D2 hc h.p hn hst pins s σ H v u Q I r ?_
 obtain⟨c,ρ,τ,θ,a,ρ',ek,b,em,q⟩:=h'
 cases a<;>first|(cases em;done)|skip
 rename_i as
 unfold gR at em
 simp only at em
 split at em
 ·rename_i hl
  obtain⟨L,bl,i1⟩:=Bd.open (r:=.fr (.tup as)) b trivial rfl
  obtain⟨p,vs,rfl,s1,rr⟩:=i1.2.1 as rfl
  have:c.K=X.K:=by have:=congrArg Kx.K ek;exact this
  refine⟨p,vs,rfl,by rw[<- this];exact eB (g_same _ _ _) s1,by rw[rr.len];exact hl,c,ρ,τ,θ,as,ρ',ek,rr.len,?_,em,q⟩
  obtain⟨nd,rel,own,fr,kp,lt,hdd⟩:=bl
  exact⟨L,nd,by have:=(az.frs (H:=H) rr).app rel;simpa[L7] using this,own,fr,kp,by simp[lt,rr.len],hdd⟩
 ·cases em⟩
def Hw(K:Kx)(J:It)(τi:St)(θi:List A)(as:List A):Prop:=∀(c:Cn)(σ:St)(H:Hp)(ρ:List Sl)(τx:St)(θx:List Sl)(τ:St)(θ:List Sl)(i:Nat),c.toKx=K->τx.length=θx.length->Bd c σ H ρ (τx++(τi++τ)) (θx++(θi.map Sl.fr++θ)) ->
 (as.length<=i->J.stop i H)/\∀a,as[i]?=some a->J.go i H/\∀x H',J.yld i H x H'->Bd c σ H' ρ (some x::(τx++(τi++τ))) (.fr a::(θx++(θi.map Sl.fr++θ)))
noncomputable def Kz(K:Kx)(E:XK)(c:Cn)(σ:St)(ρ:List Sl)(τ:St)(θ:List Sl)(R:It->Hp->Prop):Except Str (List A)->Prop
 | .ok as=>∀J H τi θi,τi.length=θi.length->Hw K J τi θi as->Bd c σ H ρ (τi++τ) (θi.map Sl.fr++θ)->R J H
 | .error x=>∀C H,K.mg x=some (.ref C)->Bd c σ H ρ τ θ->E (.ref C) none H
noncomputable def TIm(K:Kx)(E:XK)(m:Mi (List A)):TI:=λσ H R=>∃(c:Cn) (ρ:List Sl) (τ:St) (θ:List Sl) (o:Except Str (List A)) (ρ':List Sl),c.toKx=K/\Bd c σ H ρ τ θ/\m ρ=some (o,ρ')/\Kz K E c σ ρ' τ θ R o
structure JI (X:Cx) (E:XK) (tg iter:Expr) (m:Mi (List A)):Prop where
 p:PI X tg iter (TIm (kx X) E m)
theorem iW{o:Except Str (List A)}{R:It->Hp->Prop}(q:Kz (kx X) E c σ ρ' τ θ R o):∀e,o=.error e->∀C H,X.mg e=some (.ref C)->Bd c σ H ρ' τ θ->E (.ref C) none H:=λe ee=>by subst ee;exact q
noncomputable def n9(s:Str):List A:=s.cps.toList.map λc=>.str ⟨#[c]⟩
noncomputable def Bq:A->Option (List A)
 | .str s=>some (n9 s)
 | a=>Cc a
noncomputable def cX(m:Mi Rr):Mi (List A):=ay m λr ρ=>match aV r ρ with
 | some (a,ρ')=>match Bq a with
  | some as=>some (.ok as,ρ')
  | none=>none
 | none=>none
theorem Bd.mid{v:V}{a:A}(e:xs.length=ss.length)(b:Bd c σ H ρ (xs++(some v::τ)) (ss++(.fr a::θ))):∃L,BdL c σ H ρ (xs++(some v::τ)) (ss++(.fr a::θ)) L/\RA c.toKx (c.g H L) v a:=by
 obtain⟨L,b⟩:=b
 have r:az c.toKx (c.g H L) H (xs++(some v::(τ++σ))) (ss++(.fr a::(θ++ρ))) L:=by have:=b.rel;simpa[L7] using this
 obtain⟨L1,L2,e1,r1,r2⟩:=az.split e r
 cases r2 with
 | cons h r3=>cases h with|fr h=>exact⟨L,b,h⟩
theorem pP{l:Expr}(hl:JE X E l m):JI X E tg l (cX m):=⟨λpins s σ H R I h=>by
 refine A4 hl.p pins s σ H R I ?_
 obtain⟨c,ρ,τ,θ,o,ρ',ek,b,em,q⟩:=h
 refine ba ek b em (λx v ρ1 H1 hv b1 em1=>?_) (iW q)
 cases e1:aV x ρ1 with
 | none=>simp only[e1] at em1;cases em1
 | some p =>
  obtain⟨a,ρ2⟩:=p
  simp only[e1] at em1
  have b2:=Bd.aV (xs:=[]) (ss:=[]) rfl b1 hv e1
  cases e2:Bq a with
  | none=>simp only[e2] at em1;cases em1
  | some as =>
   simp only[e2] at em1
   cases em1
   have eK:c.K=X.K:=congrArg Kx.K ek
   cases a<;>first|(cases e2;done)|skip
   ·rename_i t
    cases e2
    have rt:=Bd.top b2 (a:=.str t) rfl
    cases rt
    refine .inr ⟨t,rfl,q _ H1 [some (.str t)] [.str t] rfl (λc' σ' H' ρ' τx θx τ' θ' i ek' lx b'=>?_) b2⟩
    obtain⟨L,bl,h⟩:=Bd.mid lx b'
    have hl:(n9 t).length=t.cps.size:=by simp[n9]
    refine⟨λhi=>by rw[hl] at hi;exact hi,λa ha=>?_⟩
    have hi:i<t.cps.size:=by rw[<- hl];exact(Mb.mp ha).1
    refine⟨hi,λx H2 y=>?_⟩
    obtain⟨rfl,c,hc,rfl⟩:=y
    have:a=.str ⟨#[c]⟩:=by
     unfold n9 at ha
     rw[MA,OS,hc] at ha
     exact(Mc ha).symm
    subst this
    exact bl.push (.str _)
   ·cases e2
    have rt:=Bd.top b2 (a:=.tup as) rfl
    cases rt with
    | tup e0 r0 =>
     rename_i p vs
     refine .inl ⟨p,rfl,.inr ⟨⟨vs,by rw[<- eK];exact e0⟩,q _ H1 [some (.ref p)] [.tup as] rfl (λc' σ' H' ρ' τx θx τ' θ' i ek' lx b'=>?_) b2⟩⟩
     have eK':c'.K=X.K:=congrArg Kx.K ek'
     obtain⟨L,bl,h⟩:=Bd.mid lx b'
     cases h with
     | tup e3 r3 =>
      rename_i us
      have sq:SqT X.K H' p us:=by rw[<- eK'];exact eB (g_same _ _ _) e3
      refine⟨λhi=>⟨us,sq,by rw[r3.len];exact hi⟩,λa ha=>?_⟩
      obtain⟨u,h1,h2⟩:=r3.ta ha
      refine⟨⟨us,u,sq,h1⟩,λx H2 y=>?_⟩
      obtain⟨rfl,y⟩:=y
      have:=y us sq
      rw[h1] at this;cases this
      exact bl.push h2
   ·cases e2
    have rt:=Bd.top b2 (a:=.lst as) rfl
    cases rt with
    | lst e0 r0 =>
     rename_i p vs
     refine .inl ⟨p,rfl,.inl ⟨⟨vs,by rw[<- eK];exact e0⟩,q _ H1 [some (.ref p)] [.lst as] rfl (λc' σ' H' ρ' τx θx τ' θ' i ek' lx b'=>?_) b2⟩⟩
     have eK':c'.K=X.K:=congrArg Kx.K ek'
     obtain⟨L,bl,h⟩:=Bd.mid lx b'
     cases h with
     | lst e3 r3 =>
      rename_i us
      have sq:SqL X.K H' p us:=by rw[<- eK'];exact kB (g_same _ _ _) e3
      refine⟨λhi=>⟨us,sq,by rw[r3.len];exact hi⟩,λa ha=>?_⟩
      obtain⟨u,h1,h2⟩:=r3.ta ha
      refine⟨⟨us,u,sq,h1⟩,λx H2 y=>?_⟩
      obtain⟨rfl,y⟩:=y
      have:=y us sq
      rw[h1] at this;cases this
      exact bl.push h2⟩
noncomputable def cA(lo:Int)(n:Nat):List A:=(MD n).map λi=>.int (lo+(i:Nat))
theorem wU{lo:Int}{n:Nat}:Hw K (Itr lo n) [] [] (cA lo n):=λc σ H ρ τx θx τ θ i ek lx b=>by
 have hl:(cA lo n).length=n:=by simp[cA]
 refine⟨λh=>by rw[hl] at h;exact h,λa ha=>?_⟩
 have hi:i<n:=by rw[<- hl];exact(Mb.mp ha).1
 refine⟨hi,λx H' y=>?_⟩
 obtain⟨rfl,rfl⟩:=y
 have:a=.int (lo+i):=by
  unfold cA at ha
  rw[MA,NS hi] at ha
  exact(Mc ha).symm
 subst this
 exact b.push λ_=>.int _
noncomputable def gB(m:Mi Rr):Mi (List A):=ay m λr ρ=>match res ρ r with
 | some (.int j)=>if -(2^60)<=j/\j<2^60 then some (.ok (cA 0 j.toNat),ρ) else none
 | _=>none
theorem AQ{a:Expr}{p:Pos}(hg:Gl X "range")(hm:X.mg "range" = none)(ha:JE X E a m)(hs:starEach [a] X.env=[(false,eval a X.env)]:=by rfl)(hs':starEach [a] X.env=(false,eval a X.env)::starEach [] X.env:=by rfl):JI X E tg (.Call (.Name "range" p) [a] [] pos) (gB m):=⟨λpins s σ H R I h=>by
 refine ua hg hm (br ha.p dh hs') hs pins s σ H R I ?_
 obtain⟨c,ρ,τ,θ,o,ρ',ek,b,em,q⟩:=h
 refine ba ek b em (λx v ρ1 H1 hv b1 em1=>?_) (iW q)
 cases e1:res ρ1 x with
 | none=>simp only[e1] at em1;cases em1
 | some a =>
  have r1:=Bd.rd b1 hv e1
  simp only[e1] at em1
  cases a<;>first|(cases em1;done)|skip
  rename_i j
  simp only at em1
  split at em1
  ·rename_i hj
   cases em1
   cases r1
   exact⟨j,rfl,by omega,by omega,q _ H1 [] [] rfl wU b1.drop⟩
  ·cases em1⟩
noncomputable def oG(m n:Mi Rr):Mi (List A):=ay m λr=>ay n λt=>λρ=>match res ρ r,res ρ t with
 | some (.int i),some (.int j)=>if -(2^60)<=i/\i<2^60 /\ -(2^60)<=j/\j<2^60 then some (.ok (cA i (j-i).toNat),ρ) else none
 | _,_=>none
theorem Av{a b:Expr}{n:Mi Rr}{p:Pos}(hg:Gl X "range")(hm:X.mg "range" = none)(ha:JE X E a m)(hb:JE X E b n)(hs:starEach [a,b] X.env=[(false,eval a X.env),(false,eval b X.env)]:=by rfl)(hs2:starEach [b] X.env=[(false,eval b X.env)]:=by rfl)
  (hs3:starEach [a,b] X.env=(false,eval a X.env)::starEach [b] X.env:=by rfl)(hs4:starEach [b] X.env=(false,eval b X.env)::starEach [] X.env:=by rfl):JI X E tg (.Call (.Name "range" p) [a,b] [] pos) (oG m n):=⟨λpins s σ H R I h=>by
 refine uL hg hm (br ha.p (br hb.p dh hs4) hs3) hs hs2 pins s σ H R I ?_
 obtain⟨c,ρ,τ,θ,o,ρ',ek,b,em,q⟩:=h
 refine ba ek b em (λx v ρ1 H1 hv b1 em1=>?_) (iW q)
 refine ba ek b1 em1 (λy w ρ2 H2 hw b2 em2=>?_) (gJ (iW q))
 cases e1:res ρ2 x with
 | none=>simp only[e1] at em2;cases em2
 | some a =>
  cases e2:res ρ2 y with
  | none=>cases a<;>(simp only[e1,e2] at em2;cases em2)
  | some d =>
   have r2:=Bd.rd b2 hw e2
   have r1:=Bd.rd b2.drop hv e1
   simp only[e1,e2] at em2
   cases a<;>first|(cases em2;done)|skip
   cases d<;>first|(cases em2;done)|skip
   rename_i i j
   simp only at em2
   split at em2
   ·rename_i hj
    cases em2
    cases r1;cases r2
    exact⟨i,j,rfl,⟨by omega,by omega,by omega,by omega⟩,q _ H2 [] [] rfl wU b2.drop.drop⟩
   ·cases em2⟩
noncomputable def forL(G:Mg)(b:Ms):List A->Ms
 | [],ρ=>some (.nx,ρ)
 | a::as,ρ=>match G a ρ with
  | none=>none
  | some ρ1=>match b ρ1 with
   | some (.nx,ρ2)=>forL G b as ρ2
   | some (.ct,ρ2)=>forL G b as ρ2
   | some (.bk,ρ2)=>some (.nx,ρ2)
   | r=>r
noncomputable def iM(m:Mi (List A))(G:Mg)(b:Ms):Ms:=bA m λas ρ=>forL G b as ρ
theorem DB{m:Mi (List A)}{G:Mg}{mb:Ms}(hp:PassesOwn (model X.prog X.w) X.A X.env X.xe)(hc:X.calm=true)(hi:JI X E tg iter m)(hg:JG X 0 tg G)(hb:JSs X E body mb)
  (hs:∀x,foldedSetIterable iter X.env x=pure x:=by intro _;rfl):JS X E (.For tg iter body [] pos) (iM m G mb):=⟨PS.weaken (Et hp hc hi.p hg.p hb.p hs) λD σ H h=>by
 obtain⟨c,ρ,τ,θ,f,ρ',ek,b,em,q⟩:=h
 rcases bp em with ⟨as,ρ1,e1,e2⟩|⟨e,e1,e2⟩
 ·refine⟨c,ρ,τ,_,_,ρ1,ek,b,e1,λJ H1 τi θi li it b1=>?_⟩
  refine⟨λi m σ' H'=>m=as.length-i/\i<=as.length/\∃ρi,Bd c σ' H' ρi (τi++τ) (θi.map Sl.fr++θ.map Sl.fr)/\forL G mb (as.drop i) ρi=some (f,ρ'),⟨_,rfl,Nd _,ρ1,b1,by simpa using e2⟩,?_⟩
  rintro i m σ' H' ⟨rfl,hi,ρi,bi,ei⟩
  obtain⟨i1,i2⟩:=it c σ' H' ρi [] [] τ (θ.map Sl.fr) i ek rfl bi
  by_cases hlt:i<as.length
  ·have hd:as.drop i=as[i]::as.drop (i+1):=Nm hlt
   rw[hd] at ei
   obtain⟨go,yl⟩:=i2 as[i] (by simp[hlt])
   refine .inr ⟨go,λσ2 H2=>∃ρ2,Bd c σ2 H2 ρ2 (τi++τ) (θi.map Sl.fr++θ.map Sl.fr)/\forL G mb (as.drop (i+1)) ρ2=some (f,ρ'),λσ2 H2 ⟨ρ2,q1,q2⟩=>⟨as.length-(i+1),by omega,rfl,hlt,ρ2,q1,q2⟩,λx H2 y=>?_⟩
   have b2:=yl x H2 y
   unfold forL at ei
   cases eg:G as[i] ρi with
   | none=>simp only[eg] at ei;cases ei
   | some ρ2 =>
    simp only[eg] at ei
    refine⟨c,ρi,_,_,as[i],ρ2,ek,b2,eg,λσ3 H3 _ _ b3=>?_⟩
    cases eb:mb ρ2 with
    | none=>simp only[eb] at ei;cases ei
    | some p =>
     obtain⟨f1,ρ3⟩:=p
     simp only[eb] at ei
     refine⟨c,ρ2,τi++τ,θi++θ,f1,ρ3,ek,by rw[Mw];exact b3,eb,?_⟩
     cases f1 with
     | nx=>intro σ4 H4 b4;rw[Mw] at b4;exact⟨ρ3,b4,ei⟩
     | ct=>intro σ4 H4 b4;rw[Mw] at b4;exact⟨ρ3,b4,ei⟩
     | bk=>cases ei;intro σ4 H4 b4;rw[Mw] at b4;exact q σ4 H4 (Bd.AN (by simp[li]) b4)
     | rt s=>cases ei;intro v σ4 H4 hs b4;rw[Mw] at b4;exact q v σ4 H4 hs (Bd.mR (by simp[li]) b4)
     | ex x=>cases ei;intro C σ4 H4 hm b4;rw[Mw] at b4;exact q C σ4 H4 hm (Bd.AN (by simp[li]) b4)
  ·have e:i=as.length:=by omega
   subst e
   rw[NP] at ei
   cases ei
   exact .inl ⟨i1 (Md _),q σ' H' (Bd.AN (by simp[li]) bi)⟩
 ·subst e2
  exact⟨c,ρ,τ,_,_,ρ',ek,b,e1,λC H1 hm b1=>q C σ H1 hm b1⟩⟩
noncomputable def dY(t:Mi Bool)(b:Ms):Nat->Ms
 | 0,_=>none
 | n+1,ρ=>match t ρ with
  | some (.ok true,ρ1)=>match b ρ1 with
   | some (.nx,ρ2)=>dY t b n ρ2
   | some (.ct,ρ2)=>dY t b n ρ2
   | some (.bk,ρ2)=>some (.nx,ρ2)
   | r=>r
  | some (.ok false,ρ1)=>some (.nx,ρ1)
  | some (.error e,ρ1)=>some (.ex e,ρ1)
  | none=>none
noncomputable def jk(n:Nat)(t:Mi Bool)(b:Ms):Ms:=dY t b n
theorem vX{n:Nat}{t:Expr}{mb:Ms}(hp:PassesOwn (model X.prog X.w) X.A X.env X.xe)(ht:JT X E t mt)(hb:JSs X E body mb):JS X E (.While t body [] pos) (jk n mt mb):=⟨PS.weaken (yx hp ht.p hb.p) λD σ H h=>by
 obtain⟨c,ρ,τ,θ,f,ρ',ek,b,em,q⟩:=h
 refine⟨λm σ' H'=>∃ρi,Bd c σ' H' ρi τ (θ.map Sl.fr)/\dY mt mb m ρi=some (f,ρ'),⟨n,ρ,b,em⟩,?_⟩
 rintro m σ' H' ⟨ρi,bi,ei⟩
 cases m with
 | zero=>cases ei
 | succ m =>
  unfold dY at ei
  cases et:mt ρi with
  | none=>simp only[et] at ei;cases ei
  | some p =>
   obtain⟨o,ρ1⟩:=p
   refine⟨c,ρi,τ,_,o,ρ1,ek,bi,et,?_⟩
   cases o with
   | error e=>simp only[et] at ei;cases ei;exact λC H1 hm b1=>q C σ' H1 hm b1
   | ok k =>
    intro H1 b1
    cases k with
    | false=>simp only[et] at ei;cases ei;rw[if_neg (by decide)];exact q σ' H1 b1
    | true =>
     simp only[et] at ei
     rw[if_pos rfl]
     refine⟨λσ2 H2=>∃ρ2,Bd c σ2 H2 ρ2 τ (θ.map Sl.fr)/\dY mt mb m ρ2=some (f,ρ'),λσ2 H2 w=>⟨m,NR _,w⟩,?_⟩
     cases eb:mb ρ1 with
     | none=>simp only[eb] at ei;cases ei
     | some p =>
      obtain⟨f1,ρ3⟩:=p
      simp only[eb] at ei
      refine⟨c,ρ1,τ,θ,f1,ρ3,ek,b1,eb,?_⟩
      cases f1 with
      | nx=>exact λσ4 H4 b4=>⟨ρ3,b4,ei⟩
      | ct=>exact λσ4 H4 b4=>⟨ρ3,b4,ei⟩
      | bk=>cases ei;exact λσ4 H4 b4=>q σ4 H4 b4
      | rt s=>cases ei;exact λv σ4 H4 hs b4=>q v σ4 H4 hs b4
      | ex x=>cases ei;exact λC σ4 H4 hm b4=>q C σ4 H4 hm b4⟩
end
theorem gY(r:Rr)(v:V)(t:St)(u:List Sl):bN r v t=bN r v []++t/\bO r u=bO r []++u/\(bN r v []).length=(bO r []).length:=by cases r<;>exact⟨rfl,rfl,rfl⟩
theorem mI:100000<sizeLine:=by rw[sizeLine_eq];decide
noncomputable def cS(G:Mg)(t:Mi Bool)(e:Mi Rr):List A->List A->List Sl->Option (List A×List Sl)
 | [],acc,ρ=>some (acc,ρ)
 | a::as,acc,ρ=>match G a ρ with
  | none=>none
  | some ρ1=>match t ρ1 with
   | some (.ok true,ρ2)=>match e ρ2 with
    | some (.ok r,ρ3)=>match aV r ρ3 with
     | some (d,ρ4)=>cS G t e as (acc++[d]) ρ4
     | none=>none
    | _=>none
   | some (.ok false,ρ2)=>cS G t e as acc ρ2
   | _=>none
noncomputable def bj:Mi Bool:=dG true
noncomputable def cc(n:Nat)(mi:Mi (List A))(G:Mg)(t:Mi Bool)(e:Mi Rr):Mi Rr:=ay mi λas ρ=>if as.length<=100000 then match cS G t e as [] (ρ++Mn n .un) with
 | some (ys,ρ')=>some (.ok (.nw (.lst ys)),ρ'.take ρ.length)
 | none=>none else none
structure JF (X:Cx) (E:XK) (ifs:List Expr) (m:Mi Bool):Prop where
 p:PF X ifs (TTm (kx X) E m)
variable{me mk:Mi Rr}{lo:Nat}{elt ek:Expr}{ifs:List Expr}{px cpos p1:Pos}
section
variable{X:Cx}{E:XK}
theorem GH:JF X E [] bj:=⟨λpins s σ H Q I h=>by
 refine GV pins s σ H Q I ?_
 obtain⟨c,ρ,τ,θ,o,ρ',ek,b,em,q⟩:=h
 cases em;exact q H b⟩
theorem GP{t:Expr}{m:Mi Bool}(h:JT X E t m):JF X E [t] m:=⟨EB h.p⟩
noncomputable abbrev E00:XK:=λ_ _ _=>False
theorem tT{n:Nat}{G:Mg}{τi:St}{H1:Hp}{ρ1 ρ2:List Sl}{θi as ys:List A}{J:It}(hlo:σ.length=lo)(ek:c.toKx=kx X)(li:τi.length=θi.length)
  (it:∀σ H ρ τx θx i,τx.length=θx.length->Bd c σ H ρ (τx++(τi++τ)) (θx++(θi.map Sl.fr++θ))->(as.length<=i->J.stop i H)/\∀a,as[i]?=some a->J.go i H/\∀x H',J.yld i H x H'->Bd c σ H' ρ (some x::(τx++(τi++τ))) (.fr a::(θx++(θi.map Sl.fr++θ))))
  (b1:Bd c σ H1 ρ1 (τi++τ) (θi.map Sl.fr++θ))(h100:as.length<=100000)(ec:cS G mt me as [] (ρ1++Mn n .un)=some (ys,ρ2))(q:Ret (kx X) E c σ (ρ2.take ρ1.length) τ θ Q (.ok (.nw (.lst ys)))) :
  pK J (TGm (kx X) lo G) (TTm (kx X) E00 mt) (TEm (kx X) E00 me) Q (σ++Mn n none) H1:=by
 have hlen:σ.length=ρ1.length:=b1.hG
 refine⟨λi m σ' vs H'=>m=as.length-i/\i<=as.length/\σ'.take lo=σ/\∃ρi acc,vs.length=acc.length/\acc.length<=i/\Bd c σ' H' ρi (vs.reverse.map some++(τi++τ)) (acc.reverse.map Sl.fr++(θi.map Sl.fr++θ))/\cS G mt me (as.drop i) acc ρi=some (ys,ρ2),
  ⟨_,rfl,Nd _,by rw[<- hlo,Q5],_,[],rfl,Nd _,b1.Jz,by simpa using ec⟩,?_⟩
 rintro i m σ' vs H' ⟨rfl,hi,htk,ρi,acc,lv,la,bi,ei⟩
 refine⟨by have:=gr;omega,?_⟩
 obtain⟨i1,i2⟩:=it σ' H' ρi (vs.reverse.map some) (acc.reverse.map Sl.fr) i (by simp[lv]) bi
 by_cases hlt:i<as.length
 ·have hd:as.drop i=as[i]::as.drop (i+1):=Nm hlt
  rw[hd] at ei
  obtain⟨go,yl⟩:=i2 as[i] (by simp[hlt])
  refine .inr ⟨go,λσ2 vs2 H2=>σ2.take lo=σ/\∃ρ3 acc2,vs2.length=acc2.length/\acc2.length<=i+1/\Bd c σ2 H2 ρ3 (vs2.reverse.map some++(τi++τ)) (acc2.reverse.map Sl.fr++(θi.map Sl.fr++θ))/\cS G mt me (as.drop (i+1)) acc2 ρ3=some (ys,ρ2),
   λσ2 vs2 H2 ⟨q0,ρ3,acc2,q1,q2,q3,q4⟩=>⟨as.length-(i+1),by omega,rfl,hlt,q0,ρ3,acc2,q1,q2,q3,q4⟩,λx H2 y=>?_⟩
  have b2:=yl x H2 y
  unfold cS at ei
  cases eg:G as[i] ρi with
  | none=>simp only[eg] at ei;cases ei
  | some ρ3 =>
   simp only[eg] at ei
   refine⟨c,ρi,_,_,as[i],ρ3,ek,b2,eg,λσ3 H3 t3 l3 b3=>?_⟩
   cases et:mt ρ3 with
   | none=>simp only[et] at ei;cases ei
   | some p =>
    obtain⟨ot,ρ4⟩:=p
    cases ot with
    | error e=>simp only[et] at ei;cases ei
    | ok k =>
     refine⟨c,ρ3,_,_,.ok k,ρ4,ek,b3,et,λH4 b4=>?_⟩
     cases k with
     | false =>
      simp only[et] at ei
      rw[if_neg (by decide)]
      exact⟨t3.trans htk,ρ4,acc,lv,by omega,b4,ei⟩
     | true =>
      simp only[et] at ei
      rw[if_pos rfl]
      cases ee:me ρ4 with
      | none=>simp only[ee] at ei;cases ei
      | some p =>
       obtain⟨oe,ρ5⟩:=p
       cases oe with
       | error e=>simp only[ee] at ei;cases ei
       | ok r =>
        simp only[ee] at ei
        refine⟨c,ρ4,_,_,.ok r,ρ5,ek,b4,ee,λv H5 hv b5=>?_⟩
        cases ef:aV r ρ5 with
        | none=>simp only[ef] at ei;cases ei
        | some p =>
         obtain⟨d,ρ6⟩:=p
         simp only[ef] at ei
         have b6:=Bd.aV (xs:=[]) (ss:=[]) rfl b5 hv ef
         exact⟨t3.trans htk,ρ6,acc++[d],by simp[lv],by simp;omega,by simpa using b6,ei⟩
 ·have e:i=as.length:=by omega
  subst e
  rw[NP] at ei
  cases ei
  refine .inl ⟨i1 (Md _),λp hp=>?_⟩
  have b7:=Bd.qg bi (by simp[lv]) hp vs ys m7
  have b8:=Bd.mR (by simp[li]) b7
  have es:σ'=σ++σ'.drop lo:=by rw[<- htk];exact(MQ _ _).symm
  rw[es] at b8
  have b9:=b8.DW
  rw[hlen] at b9
  exact q _ _ trivial b9
theorem l7{n:Nat}{mi:Mi (List A)}{G:Mg}(σ:St)(H:Hp)(Q:VK)(hlo:σ.length=lo)(h:TEm (kx X) E (cc n mi G mt me) σ H Q) :
  om n (TIm (kx X) E mi) (TGm (kx X) lo G) (TTm (kx X) E00 mt) (TEm (kx X) E00 me) σ H Q:=by
 obtain⟨c,ρ,τ,θ,o,ρ',ek,b,em,q⟩:=h
 rcases bind_some em with ⟨as,ρ1,e1,e2⟩|⟨e,e1,e2⟩
 ·refine⟨c,ρ,τ,θ,_,ρ1,ek,b,e1,λJ H1 τi θi li it b1=>?_⟩
  split at e2
  ·rename_i h100
   cases ec:cS G mt me as [] (ρ1++Mn n .un) with
   | none=>simp only[ec] at e2;cases e2
   | some p =>
    obtain⟨ys,ρ2⟩:=p
    simp only[ec] at e2
    cases e2
    exact tT hlo ek li (λσ H ρ τx θx i l b=>it c σ H ρ τx θx τ θ i ek l b) b1 h100 ec q
  ·cases e2
 ·subst e2
  exact⟨c,ρ,τ,θ,_,ρ',ek,b,e1,λC H1 hm b1=>q C H1 hm b1⟩
theorem Aa{sc:Scope}{mi:Mi (List A)}{G:Mg}(hc:X.calm=true)(S:c9 X.N N k sc X.env.scope)(hlo:X.N.length=lo)(hi:JI X E tg iter mi)
  (hg:∀cl C s H fp,JG (cxC X N sc cl C s H fp) lo tg G)(ht:∀cl C s H fp,JF (cxC X N sc cl C s H fp) E00 ifs mt)(he:∀cl C s H fp,JE (cxC X N sc cl C s H fp) E00 elt me)(hs:∀x,foldedSetIterable iter X.env x=pure x:=by intro _;rfl) :
  JE X E (.ListComp elt [⟨tg,iter,ifs,0⟩] sc pos) (cc k mi G mt me) :=
 ⟨λpins s σ H Q I h=>Au hc S hi.p (λcl C s H fp=>(hg cl C s H fp).p) (λcl C s H fp=>(ht cl C s H fp).p) (λcl C s H fp=>(he cl C s H fp).p) hs pins s σ H Q I (l7 σ H Q (I.len.trans hlo) h)⟩
theorem BR{spos:Pos}{sc:Scope}{mi:Mi (List A)}{G:Mg}(hc:X.calm=true)(S:c9 X.N N k sc X.env.scope)(hlo:X.N.length=lo)(hN:X.N.Nodup)(hx:X.N[i]?=some x)
  (hl:X.env.scope.names.lookup x=some .local)(hsw:swapsWith (.ListComp elt [⟨tg,iter,ifs,0⟩] sc pos) (some (.Name x px)) spos.line X.env=pure true)(hi:JI X E tg iter mi)
  (hg:∀cl C s H fp,JG (cxC X N sc cl C s H fp) lo tg G)(ht:∀cl C s H fp,JF (cxC X N sc cl C s H fp) E00 ifs mt)(he:∀cl C s H fp,JE (cxC X N sc cl C s H fp) E00 elt me)(hs:∀x,foldedSetIterable iter X.env x=pure x:=by intro _;rfl) :
  JS X E (.Assign [.Name x px] (.ListComp elt [⟨tg,iter,ifs,0⟩] sc pos) spos) (aA i (cc k mi G mt me)) :=
 ⟨λpins s σ H D I h=>z9 hc S hN hx hl hsw hi.p (λcl C s H fp=>(hg cl C s H fp).p) (λcl C s H fp=>(ht cl C s H fp).p) (λcl C s H fp=>(he cl C s H fp).p) hs pins s σ H D I (by
  obtain⟨c,ρ,τ,θ,f,ρ',ek,b,em,q⟩:=h
  refine l7 (E:=E) σ H _ (I.len.trans hlo) (eW ek b em q λr v ρ1 H1 hv b1 em1=>?_)
  cases e1:stT r ρ1 with
  | none=>simp only[e1] at em1;cases em1
  | some p =>
   obtain⟨t,ρ2⟩:=p
   simp only[e1] at em1
   obtain⟨b2,ht⟩:=Bd.stT hv b1 e1
   cases e2:put i t ρ2 with
   | none=>simp only[e2] at em1;cases em1
   | some ρ3 =>
    simp only[e2] at em1;cases em1
    exact q _ H1 (Bd.put b2 ht e2))⟩
noncomputable def aH(ρ:List Sl)(i:Nat):Option LO:=match ρ[i]? with
 | some (.lv o)=>some o
 | some (.pv o)=>some o
 | _=>none
noncomputable def setAt(ρ:List Sl)(i:Nat)(o:LO):List Sl:=match ρ[i]? with
 | some (.pv _)=>ρ.set i (.pv o)
 | _=>ρ.set i (.lv o)
theorem BdL.live(b:BdL c σ H ρ τ θ L)(h:aH ρ i=some o)(o':LO)(u:HO) :
  ∃p,σ[i]?=some (some (.ref p))/\LR c.toKx (c.g H L) H p o/\((∀H',H' p=some u->LR c.toKx (c.g H L) H' p o')->Bd c σ (upd H p u) (setAt ρ i o') τ θ):=by
 unfold aH at h
 unfold setAt
 cases es:ρ[i]? with
 | none=>simp only[es] at h;cases h
 | some s =>
  cases s with
  | un=>simp only[es] at h;cases h
  | fr a=>simp only[es] at h;cases h
  | lv o1=>simp only[es] at h;cases h;exact b.change es (.inl ⟨rfl,rfl⟩)
  | pv o1=>simp only[es] at h;cases h;exact b.change es (.inr ⟨rfl,rfl⟩)
theorem Bd.uw{v:V}{a:A}(b:Bd c σ H ρ (some v::τ) (.fr a::θ)):∃L,BdL c σ H ρ τ θ L/\RA c.toKx (c.g H L) v a:=by
 obtain⟨L,bl,r⟩:=Bd.frs (vs:=[v]) (as:=[a]) b rfl
 cases r with|cons h _=>exact⟨L,bl,h⟩
noncomputable def cQ(i:Nat)(m:Mi Rr):Mi Rr:=ay m λr ρ=>match aV r ρ with
 | some (a,ρ1)=>match aH ρ1 i with
  | some (.lst xs)=>if xs.length<=100000 then some (.ok (.fr .non),setAt ρ1 i (.lst (xs++[a]))) else none
  | _=>none
 | none=>none
theorem gP{xs:List A}(b:Bd c σ H ρ τ θ)(h:aH ρ i=some (.lst xs)):∃p vs,σ[i]?=some (some (.ref p))/\H p=some (.lst vs):=by
 obtain⟨L,b⟩:=b
 obtain⟨p,h1,h2,_⟩:=b.live h (.lst xs) (.lst [])
 cases h2 with|lst e r=>exact⟨p,_,h1,e⟩
noncomputable def isL(ρ:List Sl)(i:Nat):Bool:=match aH ρ i with
 | some (.lst _)=>true
 | _=>false
noncomputable def fj(i:Nat)(m:Mi Rr):Mi Rr:=λρ=>if isL ρ i then m ρ else none
theorem j5(h:isL ρ i=true):∃xs,aH ρ i=some (.lst xs):=by
 unfold isL at h
 cases e:aH ρ i with
 | none=>rw[e] at h;cases h
 | some o=>cases o with
  | lst xs=>exact⟨xs,rfl⟩
  | dic _=>rw[e] at h;cases h
  | obj _ _=>rw[e] at h;cases h
theorem tY{apos:Pos}(hN:X.N[i]?=some x)(hv:Vis X.env.scope x)(hd:NDb x)(hcd:NCd x)(he:JE X E e m)
  (hbase:attributeBase (.Name x px) "append" X.env (eval (.Name x px) X.env)=eval (.Name x px) X.env:=by rfl)
  (hfew:((backTo cpos (starEach [e] X.env)).all (λx=>!x.1)&&(backToKw cpos (keywordEach [] X.env)).all (λx=>x.1.isSome)&&decide (([e]:List Expr).length+([]:List Keyword).length+(if ([]:List Keyword).isEmpty then 0 else 1)<30))=true:=by rfl)
  (hline:(apos.endLine==cpos.line)=true:=by rfl)(hs:starEach [e] X.env=(false,eval e X.env)::starEach [] X.env:=by rfl)(hplain:(backTo cpos (starEach [] X.env)).any (·.1)=false:=by rfl) :
  JE X E (.Call (.Attribute (.Name x px) "append" apos) [e] [] cpos) (fj i (cQ i m)) :=
 ⟨PE.weaken (vH NV PySem.F.slot_list_append PySem.F.type_list_append uQ (eY hN hv hd hcd) (br he.p dh hs) hbase hfew hline hs hplain) λσ H Q h=>by
  obtain⟨c,ρ,τ,θ,o,ρ',ek,b,em,q⟩:=h
  unfold fj at em
  split at em
  ·rename_i hl
   obtain⟨xs0,hl⟩:=j5 hl
   obtain⟨p,vs,hp,hH⟩:=gP b hl
   refine⟨_,hp,.inl ⟨rfl,vs,.inl (.inl hH)⟩,?_⟩
   refine ba ek b em (λr v ρ1 H1 hv b1 em1=>?_) (aY q)
   cases e1:aV r ρ1 with
   | none=>simp only[e1] at em1;cases em1
   | some pr =>
    obtain⟨a,ρ2⟩:=pr
    simp only[e1] at em1
    have b2:=Bd.aV (xs:=[]) (ss:=[]) rfl b1 hv e1
    cases e2:aH ρ2 i with
    | none=>simp only[e2] at em1;cases em1
    | some lo =>
     cases lo with
     | dic _=>simp only[e2] at em1;cases em1
     | obj _ _=>simp only[e2] at em1;cases em1
     | lst xs =>
      simp only[e2] at em1
      split at em1
      ·rename_i hx
       cases em1
       obtain⟨L,bl,ra⟩:=Bd.uw b2
       obtain⟨p',h1,h2,h3⟩:=bl.live e2 (.lst (xs++[a])) (.lst ((match H1 p with|some (.lst ws)=>ws|_=>[])++[v]))
       rw[hp] at h1;cases h1
       cases h2 with
       | lst e rr =>
        rename_i ws
        simp only[e] at h3
        refine⟨p,ws,v,rfl,rfl,e,by have:=rr.len;have:=mI;omega,q _ _ trivial (Bd.push (h3 λH' hh=>.lst hh (rr.snoc ra)) λ_=>.non)⟩
      ·cases em1
  ·cases em⟩
noncomputable def jb(i:Nat)(mk m:Mi Rr):Ms:=bA m λr ρ0=>if isL ρ0 i then bA mk (λrk=>λρ=>match aV r ρ with
 | some (a,ρ1)=>match res ρ1 rk,aH ρ1 i with
  | some (.int k),some (.lst xs)=>match ixN xs.length k with
   | some j=>some (.nx,setAt ρ1 i (.lst (xs.set j a)))
   | none=>none
  | _,_=>none
 | none=>none) ρ0 else none
theorem yF(hN:X.N[i]?=some x)(hv:Vis X.env.scope x)(hd:NDb x)(hcd:NCd x)(hk:JE X E ek mk)(he:JE X E e m)
  (hp:∀{to ti te:TE},PE X (.Name x px) to->PE X ek ti->PE X e te->PS X (.Assign [.Subscript (.Name x px) ek p1] e pos) (wF te (Jf to ti CK))):JS X E (.Assign [.Subscript (.Name x px) ek p1] e pos) (jb i mk m) :=
 ⟨PS.weaken (hp (eY hN hv hd hcd) hk.p he.p) λD σ H h=>by
  obtain⟨c,ρ,τ,θ,f,ρ',ek,b,em,q⟩:=h
  refine eW ek b em q λr v ρ1 H1 hv b1 em1=>?_
  split at em1
  ·rename_i hl
   obtain⟨xs0,hl⟩:=j5 hl
   obtain⟨p,vs,hp,hH⟩:=gP b1 hl
   refine⟨_,hp,?_⟩
   rcases bp em1 with ⟨rk,ρ2,e1,e2⟩|⟨ee,e1,e2⟩
   ·refine⟨c,ρ1,_,_,_,ρ2,ek,b1,e1,λw H2 hw b2=>?_⟩
    cases ef:aV r ρ2 with
    | none=>simp only[ef] at e2;cases e2
    | some pr =>
     obtain⟨a,ρ3⟩:=pr
     simp only[ef] at e2
     have b3:Bd c σ H2 ρ3 (bN rk w (some v::τ)) (bO rk (.fr a::θ.map Sl.fr)):=by
      obtain⟨g1,g2,g3⟩:=gY rk w (bN r v τ) (bO r (θ.map Sl.fr))
      obtain⟨g4,g5,_⟩:=gY rk w (some v::τ) (.fr a::θ.map Sl.fr)
      rw[g4,g5]
      rw[g1,g2] at b2
      exact Bd.aV g3 b2 hv ef
     cases er:res ρ3 rk with
     | none=>simp only[er] at e2;cases e2
     | some ak =>
      cases ak<;>first|(simp only[er] at e2;cases e2;done)|skip
      rename_i k
      have rk':=Bd.rd b3 hw er
      cases rk'
      cases el:aH ρ3 i with
      | none=>simp only[er,el] at e2;cases e2
      | some lo =>
       cases lo with
       | dic _=>simp only[er,el] at e2;cases e2
       | obj _ _=>simp only[er,el] at e2;cases e2
       | lst xs =>
        simp only[er,el] at e2
        cases ej:ixN xs.length k with
        | none=>simp only[ej] at e2;cases e2
        | some j =>
         simp only[ej] at e2;cases e2
         obtain⟨L,bl,ra⟩:=Bd.uw b3.drop
         obtain⟨p',h1,h2,h3⟩:=bl.live el (.lst (xs.set j a)) (.lst ((match H2 p with|some (.lst ws)=>ws|_=>[]).set j v))
         rw[hp] at h1;cases h1
         cases h2 with
         | lst e rr =>
          rename_i ws
          simp only[e] at h3
          exact⟨p,ws,k,j,rfl,rfl,e,by rw[rr.len];exact ej,q σ _ (h3 λH' hh=>.lst hh (rr.set ra j))⟩
   ·subst e2
    exact⟨c,ρ1,_,_,_,ρ',ek,b1,e1,λC H2 hm b2=>q C σ H2 hm b2.drop⟩
  ·cases em1⟩
noncomputable def xD(ρ:List Sl)(i:Nat):Bool:=match aH ρ i with
 | some (.dic _)=>true
 | _=>false
theorem uJ(h:xD ρ i=true):∃xs,aH ρ i=some (.dic xs):=by
 unfold xD at h
 cases e:aH ρ i with
 | none=>rw[e] at h;cases h
 | some o=>cases o with
  | dic xs=>exact⟨xs,rfl⟩
  | lst _=>rw[e] at h;cases h
  | obj _ _=>rw[e] at h;cases h
theorem wO{xs:List (Key×A)}(b:Bd c σ H ρ τ θ)(h:aH ρ i=some (.dic xs)):∃p vs,σ[i]?=some (some (.ref p))/\H p=some (.dK vs):=by
 obtain⟨L,b⟩:=b
 obtain⟨p,h1,h2,_⟩:=b.live h (.dic xs) (.lst [])
 cases h2 with|dic e r=>exact⟨p,_,h1,e⟩
noncomputable def lE(i:Nat)(mk m:Mi Rr):Ms:=bA m λr ρ0=>if xD ρ0 i then bA mk (λrk=>λρ=>match aV r ρ with
 | some (a,ρ1)=>match res ρ1 rk,aH ρ1 i with
  | some ka,some (.dic kvs)=>match jH ka with
   | some y=>if kvs.length<=100000 then some (.nx,setAt ρ1 i (.dic (qf kvs y a))) else none
   | none=>none
  | _,_=>none
 | none=>none) ρ0 else none
theorem BK(hu:X.A.units+1<cLine)(hN:X.N[i]?=some x)(hv:Vis X.env.scope x)(hd:NDb x)(hcd:NCd x)(hk:JE X E ek mk)(he:JE X E e m)
  (hs:swapsWith e (some (.Subscript (.Name x px) ek p1)) pos.line X.env=pure false:=by rfl):JS X E (.Assign [.Subscript (.Name x px) ek p1] e pos) (lE i mk m) :=
 ⟨PS.weaken (AW hu (eY hN hv hd hcd) hk.p he.p hs) λD σ H h=>by
  obtain⟨c,ρ,τ,θ,f,ρ',ek,b,em,q⟩:=h
  refine eW ek b em q λr v ρ1 H1 hv b1 em1=>?_
  split at em1
  ·rename_i hl
   obtain⟨xs0,hl⟩:=uJ hl
   obtain⟨p,vs,hp,hH⟩:=wO b1 hl
   refine⟨_,hp,?_⟩
   rcases bp em1 with ⟨rk,ρ2,e1,e2⟩|⟨ee,e1,e2⟩
   ·refine⟨c,ρ1,_,_,_,ρ2,ek,b1,e1,λw H2 hw b2=>?_⟩
    cases ef:aV r ρ2 with
    | none=>simp only[ef] at e2;cases e2
    | some pr =>
     obtain⟨a,ρ3⟩:=pr
     simp only[ef] at e2
     have b3:Bd c σ H2 ρ3 (bN rk w (some v::τ)) (bO rk (.fr a::θ.map Sl.fr)):=by
      obtain⟨g1,g2,g3⟩:=gY rk w (bN r v τ) (bO r (θ.map Sl.fr))
      obtain⟨g4,g5,_⟩:=gY rk w (some v::τ) (.fr a::θ.map Sl.fr)
      rw[g4,g5]
      rw[g1,g2] at b2
      exact Bd.aV g3 b2 hv ef
     cases er:res ρ3 rk with
     | none=>simp only[er] at e2;cases e2
     | some ka =>
      have rk':=Bd.rd b3 hw er
      cases el:aH ρ3 i with
      | none=>simp only[er,el] at e2;cases e2
      | some lo =>
       cases lo with
       | lst _=>simp only[er,el] at e2;cases e2
       | obj _ _=>simp only[er,el] at e2;cases e2
       | dic kvs =>
        simp only[er,el] at e2
        cases ej:jH ka with
        | none=>simp only[ej] at e2;cases e2
        | some y =>
         simp only[ej] at e2
         split at e2
         ·rename_i h100
          cases e2
          obtain⟨L,bl,ra⟩:=Bd.uw b3.drop
          obtain⟨p',h1,h2,h3⟩:=bl.live el (.dic (qf kvs y a)) (.dK (putK (match H2 p with|some (.dK ws)=>ws|_=>[]) y v))
          rw[hp] at h1;cases h1
          cases h2 with
          | dic e rr =>
           rename_i ws
           simp only[e] at h3
           exact⟨p,_,rfl,.inl ⟨ws,y,e,nK rk' ej,by have:=rr.len;have:=mI;omega,rfl⟩,q σ _ (h3 λH' hh=>.dic hh (rr.put y ra))⟩
         ·cases e2
   ·subst e2
    exact⟨c,ρ1,_,_,_,ρ',ek,b1,e1,λC H2 hm b2=>q C σ H2 hm b2.drop⟩
  ·cases em1⟩
noncomputable def rO:Mi Rr:=λρ=>some (.ok (.nw (.dic [])),ρ)
theorem BX{pos}:JE X E (.Dict [] [] pos) rO:=⟨PE.weaken wL λσ H Q h=>by
 obtain⟨c,ρ,τ,θ,o,ρ',ek,b,em,q⟩:=h
 cases em
 intro p hp
 obtain⟨L,bl⟩:=b
 exact q _ _ trivial (bl.kN hp λG H' sm hh=>.dic hh .nil)⟩
noncomputable def cR(x:Str)(m:Mi (List Rr)):Ms:=bA m λrs ρ=>if rs.length<=10 then some (.ex x,ρ) else none
theorem wX{C:Addr}{m:Mi (List Rr)}{np:Pos}(xc:Xc X E)(hc:X.calm=true)(hg:Gl X x)(hm:X.mg x=some (.ref C))(hex:N8 X.K C rY "ValueError.__new__" = true)(ha:JA X E (e::es) m)(hd:NDb x)
  (he:starEach (e::es) X.env=(false,eval e X.env)::starEach es X.env:=by rfl)(hpl:(backTo cpos (starEach es X.env)).any (·.1)=false:=by rfl):JS X E (.Raise (some (.Call (.Name x np) (e::es) [] cpos)) none pos) (cR x m) :=
 ⟨PS.weaken (xo xc hc hg hm hex ha.p hd he hpl) λD σ H h=>by
  obtain⟨c,ρ,τ,θ,f,ρ',ek,b,em,q⟩:=h
  rcases bp em with ⟨rs,ρ1,e1,e2⟩|⟨ee,e1,e2⟩
  ·split at e2
   ·rename_i hl
    cases e2
    exact⟨c,ρ,τ,_,_,_,ek,b,e1,λvs H1 hv b1=>⟨by have:=hv.len;have:=gr;omega,q C σ H1 hm (Bd.drops hv.len b1)⟩⟩
   ·cases e2
  ·subst e2
   exact⟨c,ρ,τ,_,_,ρ',ek,b,e1,λC' H1 hm' b1=>q C' σ H1 hm' b1⟩⟩
end
noncomputable def jA:List A->Option (List Str)
 | []=>some []
 | .str x::r=>match jA r with
  | some ss=>some (x::ss)
  | none=>none
 | _=>none
theorem lX:∀{as:List A}{ss:List Str},jA as=some ss->as=ss.map A.str
 | [],_,h=>by cases h;rfl
 | .str x::r,_,h=>by
  unfold jA at h
  cases e:jA r with
  | none=>simp only[e] at h;cases h
  | some ss=>simp only[e] at h;cases h;rw[lX e];rfl
 | .non::_,_,h=>by cases h
 | .bl _::_,_,h=>by cases h
 | .int _::_,_,h=>by cases h
 | .tup _::_,_,h=>by cases h
 | .lst _::_,_,h=>by cases h
 | .dic _::_,_,h=>by cases h
 | .exc _::_,_,h=>by cases h
theorem zd(ss:List Str):jA (ss.map A.str)=some ss:=by
 induction ss with
 | nil=>rfl
 | cons s ss ih=>rw[L5,jA,ih]
section
variable{X:Cx}{E:XK}
open PySem.Spec PyProof.Rows PySem.W in
noncomputable def gOr(f g:A->Option Rr):A->Option Rr:=λa=>match f a with
 | some r=>some r
 | none=>g a
open PySem.Spec PyProof.Rows PySem.W in
end
end M
namespace L2
open PySem PySem.Spec PyProof.Rows
theorem hR{prog:Program}{w:World}{A:Around}{E:Value->Shared->Prop}{s:Shared}{t sl:Addr}{items:Array Value}{vl vu:Value}{lo hi:Option Int}{Q:Value->Shared->Prop}(ht:IsTup s.heap t items)(hs:s.heap.IsSliceOf sl vl vu .none)(pl:IsPart vl lo)(pu:IsPart vu hi)
  (hw:HT.sIx items.size 0 lo=0/\HT.sIx items.size items.size hi=items.size)(h:Q (.ref t) s):wpAny (model prog w) A (getItem (.ref t) (.ref sl)) Q E s:=by
 obtain⟨os,hos,hcs,hds⟩:=id hs
 have hTs:s.TypeIs (.ref sl) "slice" := ⟨os,hos,hcs⟩
 unfold getItem
 try with_reducible refine wpAny_holding ?_
 first|refine wpAny_bind (wpAny_pure ?_)|skip
 refine wpAny_bind (wpAny_sequenceKey ht.typeIs (by decide) ?_)
 refine wpAny_bind (wpAny_callSpecial?_slot (name:=Ry "__getitem__") ht.typeIs MP
  (wpAny_call_entry MP ht.typeIs entry_tuple_getitem ?_ (args_tuple_getitem _ _)))
 show wpAny _ _ (O9 (.ref t) >>= _) _ _ s
 refine wpAny_bind (tupleItemsOf_ ht ?_)
 refine wpAny_bind (wpAny_typeOf hTs ?_)
 rw[if_pos (by decide)]
 refine wpAny_bind (HT.fH hs pl pu ?_)
 show wpAny _ _ (if (((HT.sIx items.size 0 lo:Nat):Int)==0&&(1:Int)==1&&(HT.sIx items.size items.size hi-HT.sIx items.size 0 lo)==items.size)=true then _ else _) _ _ s
 rw[if_pos (by rw[hw.1,hw.2];simp)]
 refine wpAny_bind ?_
 unfold RE
 refine wpAny_bind (wpAny_typeOf ht.typeIs (wpAny_pure ?_))
 rw[if_pos (by decide)]
 refine wpAny_bind (wpAny_rule ?_)
 exact wpAny_pure ⟨_,rfl,wpAny_pure h⟩
noncomputable def K5(K:LU):V->Option Int->Option Int->Hp->VK->Prop:=λx lo hi H Q=>∃a xs,x=.ref a/\SqT K H a xs/\(HT.sIx xs.length 0 lo=0/\HT.sIx xs.length xs.length hi=xs.length)/\Q (.ref a) H
theorem BQ{X:Cx}:SlR X (K5 X.K):=by
 intro pins s σ H x v vl vu lo hi sl Q I rx hs pl pu h
 obtain⟨a,xs,rfl,hx,hw,q⟩:=h
 cases rx
 obtain⟨its,r,ht,hz⟩:=I.tuple hx
 have hlen:its.toArray.size=xs.length:=by rw[LZ];exact r.length.symm
 refine⟨"tuple",_,MP.lookup,ht.typeIs,?_⟩
 exact hR ht hs pl pu (by rw[hlen];exact hw) ⟨.ref a,H,I,rfl,q⟩
end L2
namespace M
open PySem L2
variable{c:Cn}{σ τ:St}{H:Hp}{ρ θ:List Sl}
theorem BdL.HU{L:List Addr}{v w:V}{a b:A}(bl:BdL c σ H ρ τ θ L)(h1:RA c.toKx (c.g H L) v a)(h2:RA c.toKx (c.g H L) w b):Bd c σ H ρ (some v::some w::τ) (.fr a::.fr b::θ) :=
 ⟨L,bl.nd,az.cons (L:=[]) (.fr h1) (az.cons (L:=[]) (.fr h2) bl.rel),bl.own,bl.fr,bl.kp,by simp[bl.lt],bl.hd⟩
variable{mo m:Mi Rr}{K:Kx}{e:Expr}{apos cpos p2 pos:Pos}{ρ':List Sl}{Q:Option Int->Hp->Prop}{es:List Expr}{i:Nat}
section
variable{X:Cx}{E:XK}
noncomputable def pZ(K:LU):V->List V->Hp->VK->Prop:=λx vs H Q=>∃(sep:Str) (l:Addr) (ss:List Str),x=.str sep/\vs=[.ref l]/\SqL K H l (ss.map V.str)/\hG ss+ss.length*sep.length<=100000/\Q (.str (MV sep ss)) H
theorem kG(sep:Str):∀(ss:List Str)(n:Nat),ss.foldl (λ(a:Nat) (z:Str)=>a+z.length+sep.length) n=n+hG ss+ss.length*sep.length
 | [],n=>by simp[hG]
 | z::ss,n=>by
  rw[QU,kG sep ss]
  have e:hG (z::ss)=z.length+hG ss:=rfl
  rw[e,LX,Nat.add_mul,Nat.one_mul]
  omega
open PySem.Spec PyProof.Rows PySem.W in
theorem yQ:MtR X "str.join" (pZ X.K):=by
 intro pins s σ H x vs v us Q I rx rv h
 obtain⟨sep,l,ss,rfl,rfl,hq,hl,q⟩:=h
 obtain⟨t,rfl⟩:=rx
 obtain⟨u,rfl,ru⟩:=rv.one
 cases ru
 obtain⟨its,r,p,hz⟩:=I.list hq
 obtain⟨ps,rfl,e2⟩:=L2.hW (L2.pN r)
 have h1000:=mI
 have hlong:OL ((ps.map (·.1)).toArray.foldl (·+·.length+sep.length) 0)=false:=by
  have e:(ps.map (·.1)).toArray.foldl (λ(a:Nat) (z:Str)=>a+z.length+sep.length) 0=hG ss+ss.length*sep.length:=by
   rw[List.foldl_toArray,kG,e2,Pq]
  unfold OL
  rw[e]
  exact decide_eq_false (by omega)
 refine call_meets F.slot_str_join (typeIs_str _ _ _) F.entry_str_join (F.args_str_join_2 _ _) (meets_str_join_list sep t l ps hlong) ⟨p.isList,?_⟩
 have hg:(MV sep ss).length<=hG ss+ss.length*sep.length:=by
  rw[size_glued]
  have:(ss.length-1)*sep.length<=ss.length*sep.length:=Nat.mul_le_mul_right _ (R9 _ _)
  have e:hG ss=(ss.map (·.length)).sum:=rfl
  omega
 have key:∀(z:Str)(t':Tok)(k:Nat),z=MV sep ss->EP X pins σ Q (.str z t') { s with toks:=k }:=λz t' k e=>⟨.str z,H,I.tok _,⟨t',rfl⟩,by rw[e];exact q⟩
 have fin:(Made.str (MV sep (ps.map (·.1)))).post (λv s'=>EP X pins σ Q v s') s:=⟨by rw[e2];omega,key _ _ _ (by rw[e2])⟩
 cases ps with
 | nil=>exact fin
 | cons a ps =>
  cases ps with
  | nil =>
   subst e2
   exact key a.1 a.2 s.toks rfl
  | cons b ps=>exact fin
noncomputable def mS0(f:Str->Option Rr)(mo:Mi Rr):Mi Rr:=ay mo λx ρ=>match x with
 | .fr (.str z)=>match f z with
  | some r=>some (.ok r,ρ)
  | none=>none
 | _=>none
noncomputable def mS1(f:Str->A->Option Rr)(mo m:Mi Rr):Mi Rr:=ay mo λx ρ0=>match x with
 | .fr (.str z)=>ay m (λy ρ=>match res ρ y with
  | some a=>match f z a with
   | some r=>some (.ok r,ρ)
   | none=>none
  | none=>none) ρ0
 | _=>none
theorem Am{r:V->List V->Hp->VK->Prop}{f:Str->A->Option Rr}(hf:∀z,UnS (kx X) (λw=>r (.str z) [w]) (f z))(σ:St)(H:Hp)(Q:VK)(h:TEm (kx X) E (mS1 f mo m) σ H Q) :
  TEm (kx X) E mo σ H λx H1=>tyV X.K "str" x H1/\TEm (kx X) E m σ H1 λy H2=>r x [y] H2 Q:=by
 obtain⟨c,ρ,τ,θ,o,ρ',ek,b,em,q⟩:=h
 refine ba ek b em (λx v ρ1 H1 hv b1 em1=>?_) (aY q)
 cases x with
 | rf i=>cases em1
 | nw o=>cases em1
 | fr a =>
  cases a<;>first|(cases em1;done)|skip
  rename_i z
  have r1:=Bd.top b1 (a:=.str z) rfl
  cases r1
  refine⟨rfl,?_⟩
  refine ba ek b1.pop em1 (λy w ρ2 H2 hw b2 em2=>?_) (aY q)
  obtain⟨a,r,e1,e3,rfl,rfl⟩:=mx em2
  exact hf z c σ H2 _ τ θ y w a r Q ek hw b2 e1 e3 q
noncomputable def iR(sep:Str):A->Option Rr
 | .lst xs=>match jA xs with
  | some ss=>if hG ss+ss.length*sep.length<=100000 then some (.fr (.str (MV sep ss))) else none
  | none=>none
 | _=>none
theorem z6(sep:Str):UnS K (λw=>pZ K.K (.str sep) [w]) (iR sep):=.scalar λH v a q r1 h=>by
 cases a<;>first|(cases h;done)|skip
 rename_i xs
 unfold iR at h
 simp only at h
 cases es:jA xs with
 | none=>simp only[es] at h;cases h
 | some ss =>
  simp only[es] at h
  split at h
  ·rename_i hl
   cases h
   cases r1 with
   | lst e r =>
    rw[lX es] at r
    rw[r.strs] at e
    exact⟨_,_,rfl,λ_=>.str _,λQ k=>⟨sep,_,ss,rfl,rfl,e,hl,k⟩⟩
  ·cases h
theorem A7{o:Expr}(ho:JE X E o mo)(he:JE X E e m)(hp:∀{to te:TE},PE X o to->PE X e te->PE X (.Call (.Attribute o "join" apos) [e] [] cpos) (tBM X.K "str" (pZ X.K) to (CI te EO))) :
  JE X E (.Call (.Attribute o "join" apos) [e] [] cpos) (mS1 iR mo m):=⟨PE.weaken (hp ho.p he.p) λσ H Q h=>Am z6 σ H Q h⟩
noncomputable def bK:Mi (Option Int):=dG none
noncomputable def cM(m:Mi Rr):Mi (Option Int):=ay m λr ρ=>match res ρ r with
 | some (.int i)=>some (.ok (some i),ρ)
 | _=>none
noncomputable def KH(K:Kx)(E:XK)(c:Cn)(σ:St)(ρ:List Sl)(τ:St)(θ:List Sl)(Q:Option Int->Hp->Prop):Except Str (Option Int)->Prop
 | .ok i=>∀H,Bd c σ H ρ τ θ->Q i H
 | .error x=>∀C H,K.mg x=some (.ref C)->Bd c σ H ρ τ θ->E (.ref C) none H
noncomputable def TOm(K:Kx)(E:XK)(m:Mi (Option Int)):TO:=λσ H Q=>∃(c:Cn) (ρ:List Sl) (τ:St) (θ:List Sl) (o:Except Str (Option Int)) (ρ':List Sl),c.toKx=K/\Bd c σ H ρ τ θ/\m ρ=some (o,ρ')/\KH K E c σ ρ' τ θ Q o
structure JP (X:Cx) (E:XK) (e:Option Expr) (m:Mi (Option Int)):Prop where
 p:PO X e (TOm (kx X) E m)
theorem PO.weaken{e:Option Expr}{t t':TO}(h:PO X e t)(f:∀σ H Q,t' σ H Q->t σ H Q):PO X e t':=λpins s σ H Q I q=>h pins s σ H Q I (f σ H Q q)
theorem xO{o:Except Str (Option Int)}(q:KH (kx X) E c σ ρ' τ θ Q o):∀e,o=.error e->∀C H,X.mg e=some (.ref C)->Bd c σ H ρ' τ θ->E (.ref C) none H:=λe ee=>by subst ee;exact q
theorem zA:JP X E none bK:=⟨PO.weaken B4 λσ H Q h=>by
 obtain⟨c,ρ,τ,θ,o,ρ',ek,b,em,q⟩:=h
 cases em;exact q H b⟩
theorem Ad(h:JE X E e m):JP X E (some e) (cM m):=⟨PO.weaken (Be h.p) λσ H Q h=>by
 obtain⟨c,ρ,τ,θ,o,ρ',ek,b,em,q⟩:=h
 refine ba ek b em (λx v ρ1 H1 hv b1 em1=>?_) (xO q)
 cases e1:res ρ1 x with
 | none=>simp only[e1] at em1;cases em1
 | some a =>
  have r1:=Bd.rd b1 hv e1
  cases a<;>first|(simp only[e1] at em1;cases em1;done)|skip
  simp only[e1] at em1;cases em1
  cases r1
  exact⟨_,rfl,q H1 b1.drop⟩⟩
noncomputable def jJ(xs:List A)(lo hi:Option Int):List A:=(xs.drop (HT.sIx xs.length 0 lo)).take (HT.sIx xs.length xs.length hi-HT.sIx xs.length 0 lo)
theorem yt{k:Kx}{G:Hp}{vs:List V}{as:List A}(r:RAs k G vs as)(lo hi:Option Int):RAs k G (nG vs lo hi) (jJ as lo hi):=by
 unfold nG jJ
 rw[r.len]
 exact(r.drop _).take _
noncomputable def fSl(a:A)(lo hi:Option Int):Option Rr:=match a with
 | .lst xs=>some (.nw (.lst (jJ xs lo hi)))
 | .tup xs=>some (.fr (.tup (jJ xs lo hi)))
 | .str z=>if z.length<=100000 then some (.fr (.str (Nc z lo hi))) else none
 | _=>none
noncomputable def mSl(m:Mi Rr)(ml mh:Mi (Option Int)):Mi Rr:=ay m λx=>ay ml λlo=>ay mh λhi=>λρ=>match res ρ x with
 | some a=>match fSl a lo hi with
  | some r=>some (.ok r,ρ)
  | none=>none
 | none=>none
theorem rB{β:Type}{m:Mi (Option Int)}{f:Option Int->Mi β}{o:Except Str β}(ek:c.toKx=kx X)(b:Bd c σ H ρ τ θ)(em:ay m f ρ=some (o,ρ'))
  (h1:∀k ρ1 H1,Bd c σ H1 ρ1 τ θ->f k ρ1=some (o,ρ')->Q k H1)
  (h2:∀e,o=.error e->∀C H,X.mg e=some (.ref C)->Bd c σ H ρ' τ θ->E (.ref C) none H):TOm (kx X) E m σ H Q:=by
 rcases bind_some em with ⟨x,ρ1,e1,e2⟩|⟨e,e1,e2⟩
 ·exact⟨c,ρ,τ,θ,_,ρ1,ek,b,e1,λH1 b1=>h1 x ρ1 H1 b1 e2⟩
 ·exact⟨c,ρ,τ,θ,_,ρ',ek,b,e1,λC H1 hm b1=>h2 e e2 C H1 hm b1⟩
theorem Ia{lo hi:Option Expr}{ml mh:Mi (Option Int)}(h:JE X E e m)(hl:JP X E lo ml)(hh:JP X E hi mh):JE X E (.Subscript e (.Slice lo hi none p2) pos) (mSl m ml mh) :=
 ⟨PE.weaken (uY (L2.SlR.or BP (L2.SlR.or (L2.SlR.or Dx BQ) Ei)) h.p hl.p hh.p) λσ H Q h=>by
  obtain⟨c,ρ,τ,θ,o,ρ',ek,b,em,q⟩:=h
  refine ba ek b em (λx v ρ1 H1 hv b1 em1=>?_) (aY q)
  refine rB ek b1 em1 (λl ρ2 H2 b2 em2=>?_) (gJ (aY q))
  refine rB ek b2 em2 (λu ρ3 H3 b3 em3=>?_) (gJ (aY q))
  obtain⟨a,r,e1,e3,rfl,rfl⟩:=mx em3
  have eK:c.K=X.K:=congrArg Kx.K ek
  obtain⟨L,bl,i1⟩:=Bd.open b3 hv e1
  have r1:=Bd.rd b3 hv e1
  cases a<;>first|(cases e3;done)|skip
  ·rename_i z
   unfold fSl at e3
   simp only at e3
   split at e3
   ·rename_i hz
    cases e3;cases r1
    exact .inr (.inr ⟨z,rfl,Mr hz gr,q _ H3 trivial (Bd.push ⟨L,bl⟩ λ_=>.str _)⟩)
   ·cases e3
  ·rename_i xs
   cases e3
   obtain⟨p,vs,rfl,s1,rr⟩:=i1.2.1 xs rfl
   by_cases hn:HT.sIx xs.length 0 l=0/\HT.sIx xs.length xs.length u=xs.length
   ·refine .inr (.inl (.inr ⟨p,vs,rfl,by rw[<- eK];exact eB (g_same _ _ _) s1,by rw[rr.len];exact hn,?_⟩))
    have ec:jJ xs l u=xs:=by unfold jJ;rw[hn.1,hn.2,PL,RF,OI]
    rw[ec] at q
    exact q _ _ trivial (bl.push (.tup s1 rr))
   ·refine .inr (.inl (.inl ⟨p,vs,rfl,by rw[<- eK];exact eB (g_same _ _ _) s1,by rw[rr.len];exact hn,λp' hp=>?_⟩))
    obtain⟨b2,sm,np⟩:=bl.new (o:=.tup (nG vs l u)) hp
    exact q _ _ trivial (b2.push (.tup (.inl (.inl (by rw[cL np (bl.fhd hp)];exact bw))) ((yt rr l u).sm sm)))
  ·rename_i xs
   cases e3
   obtain⟨p,vs,rfl,s1,rr⟩:=i1.1 xs rfl
   exact .inl ⟨p,vs,rfl,by rw[<- eK];exact s1,λp' hp=>q _ _ trivial (bl.kN hp λG H' sm q=>.lst q ((yt rr l u).sm sm))⟩⟩
noncomputable def Jq(K:Kx)(E:XK)(c:Cn)(σ:St)(ρ:List Sl)(τ:St)(θ:List Sl)(Q:List Str->Hp->Prop):Except Str (List Str)->Prop
 | .ok zs=>∀H,Bd c σ H ρ τ θ->Q zs H
 | .error x=>∀C H,K.mg x=some (.ref C)->Bd c σ H ρ τ θ->E (.ref C) none H
noncomputable def TJm(K:Kx)(E:XK)(m:Mi (List Str)):TJ:=λσ H Q=>∃(c:Cn) (ρ:List Sl) (τ:St) (θ:List Sl) (o:Except Str (List Str)) (ρ':List Sl),c.toKx=K/\Bd c σ H ρ τ θ/\m ρ=some (o,ρ')/\Jq K E c σ ρ' τ θ Q o
structure JJ (X:Cx) (E:XK) (es:List Expr) (m:Mi (List Str)):Prop where
 p:PJ X es (TJm (kx X) E m)
theorem PJ.weaken{e:List Expr}{t t':TJ}(h:PJ X e t)(f:∀σ H Q,t' σ H Q->t σ H Q):PJ X e t':=λout pins s σ H Q hl I q=>h out pins s σ H Q hl I (f σ H _ q)
theorem yX{o:Except Str (List Str)}{Q:List Str->Hp->Prop}(q:Jq (kx X) E c σ ρ' τ θ Q o):∀e,o=.error e->∀C H,X.mg e=some (.ref C)->Bd c σ H ρ' τ θ->E (.ref C) none H:=λe ee=>by subst ee;exact q
noncomputable def mJ(m:Mi Rr)(n:Mi (List Str)):Mi (List Str):=ay m λx ρ0=>match x with
 | .fr (.str z)=>if z.length<=1000 then ay n (λzs=>dG (z::zs)) ρ0 else none
 | _=>none
theorem G9:JJ X E [] (dG []):=⟨PJ.weaken EH λσ H Q h=>by
 obtain⟨c,ρ,τ,θ,o,ρ',ek,b,em,q⟩:=h
 cases em;exact q H b⟩
theorem tm{n:Mi (List Str)}(h1:JE X E e m)(h2:JJ X E es n)(hs:evalEach (e::es) X.env=eval e X.env::evalEach es X.env:=by rfl):JJ X E (e::es) (mJ m n):=⟨PJ.weaken (z5 h1.p h2.p hs) λσ H Q h=>by
 obtain⟨c,ρ,τ,θ,o,ρ',ek,b,em,q⟩:=h
 refine ba ek b em (λx v ρ1 H1 hv b1 em1=>?_) (yX q)
 cases x with
 | rf i=>cases em1
 | nw o=>cases em1
 | fr a =>
  cases a<;>first|(cases em1;done)|skip
  rename_i z
  simp only at em1
  split at em1
  ·rename_i hz
   have r1:=Bd.top b1 (a:=.str z) rfl
   cases r1
   refine⟨z,rfl,hz,?_⟩
   rcases bind_some em1 with ⟨zs,ρ2,e1,e2⟩|⟨e,e1,e2⟩
   ·cases e2
    exact⟨c,ρ1,τ,θ,_,ρ',ek,b1.pop,e1,λH2 b2=>q H2 b2⟩
   ·subst e2
    exact⟨c,ρ1,τ,θ,_,ρ',ek,b1.pop,e1,λC H2 hm b2=>q C H2 hm b2⟩
  ·cases em1⟩
noncomputable def mFv(m:Mi Rr):Mi Rr:=ay m λx ρ=>match x with
 | .fr (.str z)=>if z.length<=1000 then some (.ok (.fr (.str z)),ρ) else none
 | _=>none
theorem J0(h1:JE X E e m):JE X E (.FormattedValue e (-1) none pos) (mFv m):=⟨PE.weaken (Iv h1.p) λσ H Q h=>by
 obtain⟨c,ρ,τ,θ,o,ρ',ek,b,em,q⟩:=h
 refine ba ek b em (λx v ρ1 H1 hv b1 em1=>?_) (aY q)
 cases x with
 | rf i=>cases em1
 | nw o=>cases em1
 | fr a =>
  cases a<;>first|(cases em1;done)|skip
  rename_i z
  simp only at em1
  split at em1
  ·rename_i hz
   have r1:=Bd.top b1 (a:=.str z) rfl
   cases r1
   cases em1
   exact⟨z,rfl,hz,q _ H1 trivial b1⟩
  ·cases em1⟩
noncomputable def mJs(m:Mi (List Str)):Mi Rr:=ay m λzs=>dG (.fr (.str (DZ zs)))
theorem J4{v1 v2:Expr}{m:Mi (List Str)}(h:JJ X E (v1::v2::es) m)(hl:(v1::v2::es).length<=100:=by decide)(hs:evalEach (v1::v2::es) X.env=eval v1 X.env::eval v2 X.env::evalEach es X.env:=by rfl):JE X E (.JoinedStr (v1::v2::es) pos) (mJs m) :=
 ⟨PE.weaken (Hr h.p hl hs) λσ H Q h=>by
  obtain⟨c,ρ,τ,θ,o,ρ',ek,b,em,q⟩:=h
  rcases bind_some em with ⟨zs,ρ1,e1,e2⟩|⟨e,e1,e2⟩
  ·cases e2
   exact⟨c,ρ,τ,θ,_,ρ',ek,b,e1,λH1 b1=>q _ H1 trivial (b1.push λ_=>.str _)⟩
  ·subst e2
   exact⟨c,ρ,τ,θ,_,ρ',ek,b,e1,λC H1 hm b1=>q C H1 hm b1⟩⟩
noncomputable def Ku(n:Nat)(gs:Mgs):Mg:=λa ρ=>match a with
 | .lst as=>if as.length=n then gs as ρ else none
 | _=>none
noncomputable def K2(f g:Mg):Mg:=λa ρ=>match f a ρ with
 | some r=>some r
 | none=>g a ρ
noncomputable def Eh(m:Mi Rr)(G:Mg):Ms:=bA m λr ρ=>match aV r ρ with
 | some (a,ρ1)=>match G a ρ1 with
  | some ρ2=>some (.nx,ρ2)
  | none=>none
 | none=>none
theorem GF{tg:Expr}{G:Mg}(he:JE X E e m)(hg:JG X 0 tg G)(hs:swapsWithSole [tg] e pos.line X.env=pure false:=by rfl)(hw:swappedStores [tg] e X.env=pure none:=by rfl)
  (hp:∀{te:TE}{g:TG},PE X e te->PG X tg g->PS X (.Assign [tg] e pos) (wF te g)):JS X E (.Assign [tg] e pos) (Eh m G):=⟨PS.weaken (hp he.p hg.p) λD σ H h=>by
 obtain⟨c,ρ,τ,θ,f,ρ',ek,b,em,q⟩:=h
 refine eW ek b em q λr v ρ1 H1 hv b1 em1=>?_
 cases e1:aV r ρ1 with
 | none=>simp only[e1] at em1;cases em1
 | some p =>
  obtain⟨a,ρ2⟩:=p
  simp only[e1] at em1
  have b2:=Bd.aV (xs:=[]) (ss:=[]) rfl b1 hv e1
  cases e2:G a ρ2 with
  | none=>simp only[e2] at em1;cases em1
  | some ρ3 =>
   simp only[e2] at em1;cases em1
   exact⟨c,ρ2,τ,_,a,ρ',ek,b2,e2,λσ' H' _ _ b3=>q σ' H' b3⟩⟩
noncomputable def tQ(i j:Nat)(m:Mi (List Rr)):Ms:=bA m λrs ρ=>match eC rs ρ with
 | some ([a,b],ρ1)=>match put i (.fr a) ρ1 with
  | some ρ2=>match put j (.fr b) ρ2 with
   | some ρ3=>some (.nx,ρ3)
   | none=>none
  | none=>none
 | _=>none
theorem Ge{s:Stmt}{j:Nat}{m:Mi (List Rr)}(ha:JA X E es m)(hij:i≠j)(hp:∀{ta:TA},PA X es ta->PS X s (Kt i j ta)):JS X E s (tQ i j m):=⟨PS.weaken (hp ha.p) λD σ H h=>by
 obtain⟨c,ρ,τ,θ,f,ρ',ek,b,em,q⟩:=h
 rcases bp em with ⟨rs,ρ1,e1,e2⟩|⟨e,e1,e2⟩
 ·refine⟨c,ρ,τ,_,_,ρ1,ek,b,e1,λvs H1 hv b1=>?_⟩
  cases ef:eC rs ρ1 with
  | none=>simp only[ef] at e2;cases e2
  | some p =>
   obtain⟨as,ρ2⟩:=p
   obtain⟨b2,l2⟩:=Bd.eC hv b1 ef
   match as,ef,e2,b2,l2 with
   | [a,d],ef,e2,b2,l2 =>
    simp only[ef] at e2
    match vs,b2,l2 with
    | [v,w],b2,_ =>
     cases e3:put i (.fr a) ρ2 with
     | none=>simp only[e3] at e2;cases e2
     | some ρ3 =>
      simp only[e3] at e2
      cases e4:put j (.fr d) ρ3 with
      | none=>simp only[e4] at e2;cases e2
      | some ρ4 =>
       simp only[e4] at e2;cases e2
       refine⟨v,w,rfl,q _ H1 ?_⟩
       have b3:Bd c σ H1 ρ2 (some w::some v::τ) (.fr d::.fr a::θ.map Sl.fr):=by simpa using b2
       have b4:Bd c σ H1 ρ2 (some v::some w::τ) (.fr a::.fr d::θ.map Sl.fr):=by
        obtain⟨L,bl,ra⟩:=Bd.frs (vs:=[w,v]) (as:=[d,a]) b3 rfl
        cases ra with|cons h1 ra=>cases ra with|cons h2 _ =>
        have:=bl.push h1
        obtain⟨L',bl',ra'⟩:=Bd.uw this
        exact BdL.HU bl h2 h1
       exact Bd.put (Bd.put b4 (λo z=>by cases z) e3) (λo z=>by cases z) e4
   | [],ef,e2,_,_=>simp only[ef] at e2;cases e2
   | [_],ef,e2,_,_=>simp only[ef] at e2;cases e2
   | _::_::_::_,ef,e2,_,_=>simp only[ef] at e2;cases e2
 ·subst e2
  exact⟨c,ρ,τ,_,_,ρ',ek,b,e1,λC H1 hm b1=>q C σ H1 hm b1⟩⟩
end
section
variable{X:Cx}{E:XK}{a b:Expr}{ma mb:Mi Rr}{pos:Pos}
noncomputable abbrev Lh:=fOr mf (fOr lL kJ)
noncomputable abbrev bL:=fOr xl rb
theorem GI(ha:JE X E a ma)(hb:JE X E b mb):JE X E (.BinOp a .Sub b pos) (mOp fM ma mb):=md EV GR ha hb
theorem EE(ha:JE X E a ma)(hb:JE X E b mb):JE X E (.BinOp a .Mult b pos) (mOp bL ma mb):=md (OpR.or' B1 Bm) (zT.or Br) ha hb
theorem G7(ha:JE X E a ma)(hb:JE X E b mb):JE X E (.BinOp a .FloorDiv b pos) (mOp oH ma mb):=md vq Dn ha hb
theorem Ft(ha:JE X E a ma)(hb:JE X E b mb):JE X E (.BinOp a .Mod b pos) (mOp gk ma mb):=md Ca GD ha hb
theorem Dj(ha:JE X E a ma)(hb:JE X E b mb):JE X E (.BinOp a .Pow b pos) (mOp cp ma mb):=md Gu EW ha hb
theorem Ks(hu:X.A.units+64<cLine)(ha:JE X E a ma)(hb:JE X E b mb):JE X E (.Compare a [.Eq] [b] pos) (mOp fEq ma mb):=dE (vn hu) os_eq ha hb (cy _)
theorem Iy(hu:X.A.units+64<cLine)(ha:JE X E a ma)(hb:JE X E b mb):JE X E (.Compare a [.NotEq] [b] pos) (mOp fNe ma mb):=dE (yH hu) Ce ha hb (cy _)
theorem HC(ha:JE X E a ma)(hb:JE X E b mb):JE X E (.Compare a [.Lt] [b] pos) (mOp fLt ma mb):=dE rE Cq ha hb (cy _)
theorem HY(ha:JE X E a ma)(hb:JE X E b mb):JE X E (.Compare a [.LtE] [b] pos) (mOp fLe ma mb):=dE rz Dd ha hb (cy _)
theorem Hz(ha:JE X E a ma)(hb:JE X E b mb):JE X E (.Compare a [.Gt] [b] pos) (mOp fGt ma mb):=dE we CB ha hb (cy _)
theorem IW(ha:JE X E a ma)(hb:JE X E b mb):JE X E (.Compare a [.GtE] [b] pos) (mOp fGe ma mb):=dE uZ Cw ha hb (cy _)
theorem Ib(ha:JE X E a ma)(hb:JE X E b mb):JE X E (.Compare a [.Is] [b] pos) (mOp (fIs false) ma mb):=dE ya Cd ha hb (cy _)
theorem z7(ha:JE X E a ma)(hb:JE X E b mb):JE X E (.Compare a [.IsNot] [b] pos) (mOp (fIs true) ma mb):=dE sN rn ha hb (cy _)
theorem JN(hu:X.A.units+64<cLine)(ha:JE X E a ma)(hb:JE X E b mb):JT X E (.Compare a [.Eq] [b] pos) (ao (mOp fEq ma mb)):=dD (vn hu) os_eq ha hb (cy _)
theorem Ik(hu:X.A.units+64<cLine)(ha:JE X E a ma)(hb:JE X E b mb):JT X E (.Compare a [.NotEq] [b] pos) (ao (mOp fNe ma mb)):=dD (yH hu) Ce ha hb (cy _)
theorem Jh(ha:JE X E a ma)(hb:JE X E b mb):JT X E (.Compare a [.Lt] [b] pos) (ao (mOp fLt ma mb)):=dD rE Cq ha hb (cy _)
theorem Hq(ha:JE X E a ma)(hb:JE X E b mb):JT X E (.Compare a [.LtE] [b] pos) (ao (mOp fLe ma mb)):=dD rz Dd ha hb (cy _)
theorem HS(ha:JE X E a ma)(hb:JE X E b mb):JT X E (.Compare a [.Gt] [b] pos) (ao (mOp fGt ma mb)):=dD we CB ha hb (cy _)
theorem JQ(ha:JE X E a ma)(hb:JE X E b mb):JT X E (.Compare a [.GtE] [b] pos) (ao (mOp fGe ma mb)):=dD uZ Cw ha hb (cy _)
theorem IT(ha:JE X E a ma)(hb:JE X E b mb):JT X E (.Compare a [.Is] [b] pos) (ao (mOp (fIs false) ma mb)):=dD ya Cd ha hb (cy _)
theorem AX(ha:JE X E a ma)(hb:JE X E b mb):JT X E (.Compare a [.IsNot] [b] pos) (ao (mOp (fIs true) ma mb)):=dD sN rn ha hb (cy _)
end
noncomputable def BIG:Nat:=2^10000
noncomputable def xA(K:LU):Sp:=λvs H Q _=>∃(p:Addr) (ns:List Int),vs=[.ref p]/\SqL K H p (ns.map V.int)/\ns.length<=63/\∀H',Q (.bl true) H'
theorem sQ{k:Kx}{G:Hp}:∀(ns:List Int),RAs k G (ns.map V.int) (ns.map A.int)
 | []=>.nil
 | n::ns=>.cons (.int n) (sQ ns)
variable{k:Nat}{f:Addr}{fd:FuncData}{ps:List Str}
theorem Dl{P:Program}{w:World}{K:LU}{mg:Str->Option Value}{base:Heap}{CX:CXT}{m:Ms}(F:bW P w K mg base CX k f fd ps (SpM ⟨K,mg⟩ 1 m))
  (h:∀ns:List Int,ns.length<=63->∃ρ,m [.fr (.lst (ns.map A.int))]=some (.rt (.fr (.bl true)),ρ)):bW P w K mg base CX k f fd ps (xA K) :=
 F.imp λvs H Q E q=>by
  obtain⟨p,ns,rfl,hs,hl,q⟩:=q
  obtain⟨ρ,e⟩:=h ns hl
  let c:Cn:={ K:=K,mg:=mg,σ0:=[some (.ref p)],H0:=H,Lp:=[],Hd:=[],Wk:=[] }
  refine⟨rfl,c,_,_,ρ,rfl,rfl,rfl,⟨.nil,az.cons (L:=[]) (.fr (.lst (kB (Sq.of λb o e=>?_) hs) (sQ ns))) .nil,λp hp=>(by cases hp),⟨λb o e=>⟨o,e,λ_ _=>rfl⟩,λq hq=>(by cases hq)⟩,λi o _=>rfl,rfl,λq hq=>(by cases hq)⟩,e,λv H' _ b=>?_⟩
  ·rw[cL (c:=c) (λz=>by cases z) (λz=>by cases z)];exact e
  ·have r:=Bd.top b (a:=.bl true) rfl
   cases r
   exact q H'
noncomputable def mFz(m:Mi Rr):Mi Rr:=ay m λr ρ=>match aV r ρ with
 | some (a,ρ')=>some (.ok (.fr a),ρ')
 | none=>none
variable{X:Cx}
theorem HJ{E:XK}(he:JE X E e m):JE X E e (mFz m):=⟨PE.weaken he.p λσ H Q h=>by
 obtain⟨c,ρ,τ,θ,o,ρ',ek,b,em,q⟩:=h
 refine ba ek b em (λx v ρ1 H1 hv b1 em1=>?_) (aY q)
 cases e1:aV x ρ1 with
 | none=>simp only[e1] at em1;cases em1
 | some p =>
  obtain⟨a,ρ2⟩:=p
  simp only[e1] at em1
  cases em1
  exact q v H1 trivial (Bd.aV (xs:=[]) (ss:=[]) rfl b1 hv e1)⟩
variable{x y:Str}{p:Pos}
section
variable{X:Cx}{E:XK}
inductive Ty where|bool|int|str|tuple|list|dict
 deriving DecidableEq
noncomputable def Ty.n:Ty->String
 | .bool => "bool" | .int => "int" | .str => "str" | .tuple => "tuple" | .list => "list" | .dict => "dict"
noncomputable def Fe(T:Ty):A->Option Bool
 | .non=>some false
 | .bl _=>some (T=.bool || T=.int)
 | .int _=>some (T=.int)
 | .str _=>some (T=.str)
 | .tup _=>some (T=.tuple)
 | .lst _=>some (T=.list)
 | .dic _=>some (T=.dict)
 | _=>none
noncomputable def pG(T:Ty)(a:A):Option Rr:=match Fe T a with
 | some k=>some (.fr (.bl k))
 | none=>none
theorem El(K:LU)(T:Ty):MG K (.type "NoneType") (.type T.n)=some false:=by cases T<;>kernel_rfl
theorem Bg(K:LU)(T:Ty):MG K (.type "bool") (.type T.n)=some (T=.bool || T=.int:Bool):=by cases T<;>kernel_rfl
theorem D5(K:LU)(T:Ty):MG K (.type "int") (.type T.n)=some (T=.int:Bool):=by cases T<;>kernel_rfl
theorem Eo(K:LU)(T:Ty):MG K (.type "str") (.type T.n)=some (T=.str:Bool):=by cases T<;>kernel_rfl
theorem Fx(K:LU)(T:Ty):MG K (.type "tuple") (.type T.n)=some (T=.tuple:Bool):=by cases T<;>kernel_rfl
theorem Fz(K:LU)(T:Ty):MG K (.type "list") (.type T.n)=some (T=.list:Bool):=by cases T<;>kernel_rfl
theorem DP(K:LU)(T:Ty):MG K (.type "dict") (.type T.n)=some (T=.dict:Bool):=by cases T<;>kernel_rfl
theorem Ds(T:Ty):UnS K (λv H Q=>∃x c t b,[v,V.ty T.n]=[x,c]/\TyX K.K H x t/\dI c=true/\MG K.K t (gi c)=some b/\Q (.bl b) H) (pG T):=.scalar λH v a q r1 h=>by
 cases a<;>first|(cases h;done)|skip
 ·cases r1;cases h
  exact⟨_,_,rfl,λ_=>.bl _,λQ k=>⟨_,_,_,_,rfl,.of .non,rfl,El _ T,k⟩⟩
 ·cases r1;cases h
  exact⟨_,_,rfl,λ_=>.bl _,λQ k=>⟨_,_,_,_,rfl,.of (.bl _),rfl,Bg _ T,k⟩⟩
 ·cases r1;cases h
  exact⟨_,_,rfl,λ_=>.bl _,λQ k=>⟨_,_,_,_,rfl,.of (.int _),rfl,D5 _ T,k⟩⟩
 ·cases r1;cases h
  exact⟨_,_,rfl,λ_=>.bl _,λQ k=>⟨_,_,_,_,rfl,.of (.str _),rfl,Eo _ T,k⟩⟩
 ·cases r1 with
  | tup e r=>cases h;exact⟨_,_,rfl,λ_=>.bl _,λQ k=>⟨_,_,_,_,rfl,.tup e,rfl,Fx _ T,k⟩⟩
 ·cases r1 with
  | lst e r=>cases h;exact⟨_,_,rfl,λ_=>.bl _,λQ k=>⟨_,_,_,_,rfl,.lst e,rfl,Fz _ T,k⟩⟩
 ·cases r1 with
  | dic e r=>cases h;exact⟨_,_,rfl,λ_=>.bl _,λQ k=>⟨_,_,_,_,rfl,.dic e,rfl,DP _ T,k⟩⟩
theorem DG(T:Ty)(hg:Gl X x)(hm:X.mg x=none)(hv:bootBuiltins x=some (.builtin "isinstance"))(hg2:Gl X y)(hm2:X.mg y=none)(hv2:bootBuiltins y=some (.type T.n))(ha:JE X E e m)(hn:x ≠ "__name__")
  (hdb:NDb x)(hn2:y ≠ "__name__")(hdb2:NDb y)(hs:starEach [e,.Name y p2] X.env=(false,eval e X.env)::starEach [.Name y p2] X.env:=by rfl)(hs2:starEach [.Name y p2] X.env=(false,eval (.Name y p2) X.env)::starEach [] X.env:=by rfl)(hp:(backTo pos (starEach [.Name y p2] X.env)).any (·.1)=false:=by rfl):JE X E (.Call (.Name x p) [e,.Name y p2] [] pos) (mB1 (pG T) m) :=
 ⟨PE.weaken (gC oj hg hm hv (br ha.p (br (m9 hg2 hm2 hv2 (v:=.ty T.n) rfl hn2 hdb2) dh hs2) hs) hn hdb hs hp) λσ H Q h=>fK (r:=λv H Q=>∃x c t b,[v,V.ty T.n]=[x,c]/\TyX (kx X).K H x t/\dI c=true/\MG (kx X).K t (gi c)=some b/\Q (.bl b) H) (Ds T) σ H Q h⟩
end
section
variable{X:Cx}{E:XK}
noncomputable def KL(as bs:List A):List A:=(as.zip bs).map λp=>.tup [p.1,p.2]
end
variable{r r':R2}{q:Int->Int->Bool}{ma mb mc:Mi Rr}{op op':CmpOp}
section
variable{X:Cx}{E:XK}
noncomputable def eO(p q:Int->Int->Bool)(ma mb mc:Mi Rr):Mi Rr:=ay ma λx=>ay mb λy=>λρ=>match res ρ x,res ρ y with
 | some (.int i),some (.int j)=>match p i j with
  | true=>ay mc (λz ρ2=>match res ρ2 z with
   | some (.int k)=>some (.ok (.fr (.bl (q j k))),ρ2)
   | _=>none) ρ
  | false=>some (.ok (.fr (.bl false)),ρ)
 | _,_=>none
theorem kE{p:Int->Int->Bool}(hr:∀i j H Q,Q (.bl (p i j)) H->r (.int i) (.int j) H Q)(hr':∀i j H Q,Q (.bl (q i j)) H->r' (.int i) (.int j) H Q)(σ:St)(H:Hp)(Q:VK)(h:TEm (kx X) E (eO p q ma mb mc) σ H Q) :
  qR r r' (TEm (kx X) E ma) (TEm (kx X) E mb) (TEm (kx X) E mc) σ H Q:=by
 obtain⟨c,ρ,τ,θ,o,ρ',ek,b,em,q0⟩:=h
 refine ba ek b em (λx v ρ1 H1 hv b1 em1=>?_) (aY q0)
 refine ba ek b1 em1 (λy w ρ2 H2 hw b2 em2=>?_) (gJ (aY q0))
 cases e1:res ρ2 x with
 | none=>simp only[e1] at em2;cases em2
 | some a =>
  cases e2:res ρ2 y with
  | none=>cases a<;>(simp only[e1,e2] at em2;cases em2)
  | some d =>
   cases a<;>first|(simp only[e1,e2] at em2;cases em2;done)|skip
   cases d<;>first|(simp only[e1,e2] at em2;cases em2;done)|skip
   rename_i i j
   have r2:=Bd.rd b2 hw e2
   have r1:=Bd.rd b2.drop hv e1
   cases r1
   cases r2
   simp only[e1,e2] at em2
   refine hr _ _ _ _ ⟨p i j,rfl,?_⟩
   cases ep:p i j with
   | false =>
    simp only[ep] at em2
    cases em2
    rw[if_neg (by decide)]
    exact q0 _ H2 trivial (Bd.push b2.drop.drop (λ_=>.bl _))
   | true =>
    simp only[ep] at em2
    rw[if_pos rfl]
    refine ba ek b2.drop.drop em2 (λz w' ρ3 H3 hz b3 em3=>?_) (aY q0)
    cases e3:res ρ3 z with
    | none=>simp only[e3] at em3;cases em3
    | some d =>
     cases d<;>first|(simp only[e3] at em3;cases em3;done)|skip
     rename_i k
     have r3:=Bd.rd b3 hz e3
     cases r3
     simp only[e3] at em3
     cases em3
     exact hr' _ _ _ _ (q0 _ H3 trivial (Bd.push b3.drop (λ_=>.bl _)))
theorem nM{p:Int->Int->Bool}{a b c:Expr}(ho:OpR X (compareOp op) r)(ho':OpR X (compareOp op') r')(hr:∀i j H Q,Q (.bl (p i j)) H->r (.int i) (.int j) H Q)(hr':∀i j H Q,Q (.bl (q i j)) H->r' (.int i) (.int j) H Q)
  (ha:JE X E a ma)(hb:JE X E b mb)(hc:JE X E c mc)(hm:lastMarks [op,op'] [b,c]=false:=by with_unfolding_all rfl):JE X E (.Compare a [op,op'] [b,c] pos) (eO p q ma mb mc):=⟨PE.weaken (ym ho ho' ha.p hb.p hc.p hm) (kE hr hr')⟩
theorem zc{p:Int->Int->Bool}{a b c:Expr}(ho:OpR X (compareOp op) r)(ho':OpR X (compareOp op') r')(hr:∀i j H Q,Q (.bl (p i j)) H->r (.int i) (.int j) H Q)(hr':∀i j H Q,Q (.bl (q i j)) H->r' (.int i) (.int j) H Q)
  (ha:JE X E a ma)(hb:JE X E b mb)(hc:JE X E c mc)(hm:lastMarks [op,op'] [b,c]=false:=by with_unfolding_all rfl):JT X E (.Compare a [op,op'] [b,c] pos) (ao (eO p q ma mb mc)):=⟨PT.weaken (yU ho ho' ha.p hb.p hc.p hm) λσ H Q h=>kE hr hr' σ H _ (dO σ H Q h)⟩
noncomputable abbrev cLt(i j:Int):Bool:=decide (i<j)
noncomputable abbrev cLe(i j:Int):Bool:=decide (i<=j)
noncomputable abbrev cGt(i j:Int):Bool:=decide (j<i)
noncomputable abbrev cGe(i j:Int):Bool:=decide (j<=i)
theorem Dc(i j:Int)(H:Hp)(Q:VK)(q:Q (.bl (cLt i j)) H):rI0 (λi j=>.bl (decide (i<j))) (.int i) (.int j) H Q:=⟨_,_,rfl,rfl,q⟩
theorem Cr(i j:Int)(H:Hp)(Q:VK)(q:Q (.bl (cLe i j)) H):rI0 (λi j=>.bl (decide (i<=j))) (.int i) (.int j) H Q:=⟨_,_,rfl,rfl,q⟩
theorem Ka(i j:Int)(H:Hp)(Q:VK)(q:Q (.bl (cGt i j)) H):rI0 (λi j=>.bl (decide (j<i))) (.int i) (.int j) H Q:=⟨_,_,rfl,rfl,q⟩
theorem Ky(i j:Int)(H:Hp)(Q:VK)(q:Q (.bl (cGe i j)) H):rI0 (λi j=>.bl (decide (j<=i))) (.int i) (.int j) H Q:=⟨_,_,rfl,rfl,q⟩
example {a b c:Expr} {ma mb mc:Mi Rr} {pos:Pos} (ha:JE X E a ma) (hb:JE X E b mb) (hc:JE X E c mc) (hm:lastMarks [.LtE,.Lt] [b,c]=false):JE X E (.Compare a [.LtE,.Lt] [b,c] pos) (eO cLe cLt ma mb mc):=nM rz rE Cr Dc ha hb hc hm
end
section
variable{X:Cx}{E:XK}
noncomputable def vC(K:LU):R2:=λx y H Q=>∃a b xs ys,x=.ref a/\y=.ref b/\SqL K H a xs/\SqL K H b ys/\xs.length+ys.length<=sizeLine/\∀p,H p=none->Q (.ref p) (upd H p (.lst (xs++ys)))
theorem vj:OpR X (binaryOp .Add) (vC X.K):=by
 intro pins s σ H x y v u Q I rx ry h
 obtain⟨a,b,xs,ys,rfl,rfl,ha,hb,hz,q⟩:=h
 cases rx
 cases ry
 obtain⟨its,r1,p1,_⟩:=I.list ha
 obtain⟨jts,r2,p2,_⟩:=I.list hb
 obtain⟨⟨c1,d1,t1,l1⟩,n1,e1,hc1,hk1,hd1⟩:=id p1
 obtain⟨⟨c2,d2,t2,l2⟩,n2,e2,hc2,hk2,hd2⟩:=id p2
 simp only at hc1 hd1 hc2 hd2 hk1 hk2
 subst hc1 hd1 hc2 hd2 hk1 hk2
 have k1:=r1.length
 have k2:=r2.length
 refine concat_meets ⟨_,e1,rfl⟩ ⟨_,e2,rfl⟩ noFill_list_add seq_list_add PySem.F.slot_list_add PySem.F.entry_list_add (PySem.F.args_list_add_2 _ _) (RO a b _ _ n1 n2 _ _ l1 l2 (by rw[LZ,LZ];omega)) ⟨e1,e2,?_⟩
 have ea:its.toArray++jts.toArray=(its++jts).toArray:=by simp
 rw[ea]
 exact⟨.ref _,_,I.K4 (t':=s.toks) (r1.append r2) (by rw[Ma];omega),rfl,q _ I.fresh⟩
noncomputable def oR:A->A->Option Rr
 | .lst xs,.lst ys=>if xs.length+ys.length<=100000 then some (.nw (.lst (xs++ys))) else none
 | _,_=>none
theorem zx:OpS K (vC K.K) oR:=by
 intro c σ H ρ τ θ x y v w a b q Q ek hv hw bd e1 e2 e3 k
 cases a<;>first|(cases e3;done)|(cases b<;>first|(cases e3;done)|skip)
 rename_i xs ys
 unfold oR at e3
 simp only at e3
 split at e3
 ·rename_i hc
  cases e3
  obtain⟨L,bl,i1,i2⟩:=Bd.sI bd hv hw e1 e2
  obtain⟨p1,vs1,rfl,s1,r1⟩:=i1.1 xs rfl
  obtain⟨p2,vs2,rfl,s2,r2⟩:=i2.1 ys rfl
  have l1:=r1.len
  have l2:=r2.len
  subst ek
  exact⟨p1,p2,vs1,vs2,rfl,rfl,s1,s2,by have:=gr;omega,λp hp=>k _ _ trivial (bl.kN hp λG H' sm q=>.lst q ((r1.app r2).sm sm))⟩
 ·cases e3
noncomputable abbrev aJ:=fOr mf (fOr lL (fOr kJ oR))
theorem AH{a b:Expr}(ha:JE X E a ma)(hb:JE X E b mb):JE X E (.BinOp a .Add b pos) (mOp aJ ma mb):=md (OpR.or' FC (OpR.or' qk (OpR.or' Bu vj))) (zV.or (Bn.or (Bk.or zx))) ha hb
end
variable{px:Pos}
section
variable{X:Cx}{E:XK}
noncomputable def jZ(i:Nat):Mi Rr:=λρ=>match aH ρ i with
 | some (.lst _)=>some (.ok (.fr .non),setAt ρ i (.lst []))
 | _=>none
theorem xa(hN:X.N[i]?=some x)(hv:Vis X.env.scope x)(hd:NDb x)(hcd:NCd x)
  (hbase:attributeBase (.Name x px) "clear" X.env (eval (.Name x px) X.env)=eval (.Name x px) X.env:=by rfl)(hline:(apos.endLine==cpos.line)=true:=by rfl) :
  JE X E (.Call (.Attribute (.Name x px) "clear" apos) [] [] cpos) (jZ i) :=
 ⟨PE.weaken (za NV PySem.F.slot_list_clear PySem.F.type_list_clear wC (eY hN hv hd hcd) hbase hline) λσ H Q h=>by
  obtain⟨c,ρ,τ,θ,o,ρ',ek,b,em,q⟩:=h
  unfold jZ at em
  cases e2:aH ρ i with
  | none=>simp only[e2] at em;cases em
  | some lo =>
   cases lo with
   | dic _=>simp only[e2] at em;cases em
   | obj _ _=>simp only[e2] at em;cases em
   | lst xs =>
    simp only[e2] at em
    cases em
    obtain⟨p,vs,hp,hH⟩:=gP b e2
    obtain⟨L,bl⟩:=b
    obtain⟨p',h1,h2,h3⟩:=bl.live e2 (.lst []) (.lst [])
    rw[hp] at h1;cases h1
    refine⟨_,hp,.inl ⟨rfl,vs,.inl (.inl hH)⟩,?_⟩
    exact⟨p,vs,rfl,rfl,hH,q _ _ trivial (Bd.push (h3 λH' hh=>.lst hh .nil) λ_=>.non)⟩⟩
theorem RAs.dropLast{K:Kx}{G:Hp}:∀{vs:List V}{as:List A},RAs K G vs as->RAs K G vs.dropLast as.dropLast
 | _,_,.nil=>.nil
 | _,_,.cons h .nil=>.nil
 | _,_,.cons h (.cons h2 r)=>.cons h (RAs.dropLast (.cons h2 r))
noncomputable def kU(i:Nat):Mi Rr:=λρ=>match aH ρ i with
 | some (.lst xs)=>match xs[xs.length-1]? with
  | some a=>some (.ok (.fr a),setAt ρ i (.lst xs.dropLast))
  | none=>none
 | _=>none
theorem Fi(hN:X.N[i]?=some x)(hv:Vis X.env.scope x)(hd:NDb x)(hcd:NCd x)
  (hbase:attributeBase (.Name x px) "pop" X.env (eval (.Name x px) X.env)=eval (.Name x px) X.env:=by rfl)(hline:(apos.endLine==cpos.line)=true:=by rfl) :
  JE X E (.Call (.Attribute (.Name x px) "pop" apos) [] [] cpos) (kU i) :=
 ⟨PE.weaken (za NV PySem.F.slot_list_pop PySem.F.type_list_pop DN (eY hN hv hd hcd) hbase hline) λσ H Q h=>by
  obtain⟨c,ρ,τ,θ,o,ρ',ek,b,em,q⟩:=h
  unfold kU at em
  cases e2:aH ρ i with
  | none=>simp only[e2] at em;cases em
  | some lo =>
   cases lo with
   | dic _=>simp only[e2] at em;cases em
   | obj _ _=>simp only[e2] at em;cases em
   | lst xs =>
    simp only[e2] at em
    cases e3:xs[xs.length-1]? with
    | none=>simp only[e3] at em;cases em
    | some a =>
     simp only[e3] at em
     cases em
     obtain ⟨p,vs,hp,hH⟩:=gP b e2
     obtain ⟨L,bl⟩:=b
     obtain ⟨p',h1,h2,h3⟩:=bl.live e2 (.lst xs) (.lst [])
     rw[hp] at h1;cases h1
     cases h2 with
     | lst e rr =>
      rename_i ws
      rw[hH] at e;cases e
      obtain⟨v,g1,g2⟩:=rr.ta e3
      obtain⟨L1,bl1⟩:=bl.push g2
      obtain⟨p2,k1,k2,k3⟩:=bl1.live e2 (.lst xs.dropLast) (.lst vs.dropLast)
      rw[hp] at k1;cases k1
      cases k2 with
      | lst e' rr' =>
       rw[hH] at e';cases e'
       refine⟨_,hp,.inl ⟨rfl,vs,.inl (.inl hH)⟩,?_⟩
       exact⟨p,vs,v,rfl,rfl,hH,by rw[rr.len];exact g1,q _ _ trivial (k3 λH' hh=>.lst hh rr'.dropLast)⟩⟩
end
section
variable{c:Cn}{σ:St}{H:Hp}{ρ:List Sl}{τ:St}{θ:List Sl}
theorem Bd.unset(b:Bd c σ H ρ τ θ)(h:M.put i .un ρ=some ρ'):Bd c (σ.set i none) H ρ' τ θ:=by
 unfold M.put at h
 have key:∀s,ρ[i]?=some s->(∀o,s≠.pv o)->ρ'=ρ.set i .un->Bd c (σ.set i none) H ρ' τ θ:=λs e hs er=>by
  subst er
  obtain⟨L,nd,rel,own,fr,kp,lt,hdd⟩:=b
  obtain⟨L1,L2,e1,r1,r2⟩:=az.split lt rel
  obtain⟨x,M1,M2,M3,hx,hs',e2,ins⟩:=r2.at e
  subst e1 e2
  have sub:∀a,a∈L1++(M1++[]++M3)->a∈L1++(M1++M2++M3):=λa ha=>by simp at ha ⊢;rcases ha with z|z|z<;>simp[z]
  have sm:Sq (c.g H (L1++(M1++M2++M3))) (c.g H (L1++(M1++[]++M3))):=cT sub
  have hi:i<ρ.length:=(Mb.mp e).1
  refine⟨L1++(M1++[]++M3),?_,(r1.sm sm (λ_ _ _ e=>e)).app (ins sm (λ_ _ _ e=>e) (.un none)),λq hq=>own q (sub q hq),fr,kp.set (λo z=>?_) hi (λo z=>by cases z),lt,hdd⟩
  ·refine nd.sublist (Nl (Nw _) (Nl ?_ (Nw _)))
   exact Nl (Nw _) (QL _)
  ·rw[e] at z;exact hs o (Mc z)
 cases es:ρ[i]? with
 | none=>simp only[es] at h;cases h
 | some s =>
  cases s with
  | pv o=>simp only[es] at h;cases h
  | un=>simp only[es] at h;exact key _ es (λo z=>by cases z) (Mc h).symm
  | fr a=>simp only[es] at h;exact key _ es (λo z=>by cases z) (Mc h).symm
  | lv o=>simp only[es] at h;exact key _ es (λo z=>by cases z) (Mc h).symm
end
variable{cv:V}{tab:Str->Option Bool}
section
variable{X:Cx}{E:XK}
noncomputable def TXm(K:Kx)(m:Ms):TX:=λD Ex σ H=>∃(c:Cn) (ρ:List Sl) (τ:St) (θ:List A) (f:Fl) (ρ':List Sl),c.toKx=K/\Bd c σ H ρ τ (θ.map Sl.fr)/\m ρ=some (f,ρ') /\
  (match f with
   | .ex x=>∀C σ H,K.mg x=some (.ref C)->Bd c σ H ρ' τ (θ.map Sl.fr)->Ex (.ref C) σ H
   | f=>zR K E00 c ρ' τ θ D f)
structure JX (X:Cx) (st:Stmt) (m:Ms):Prop where
 p:PX X st (TXm (kx X) m)
theorem PX.weaken{st:Stmt}{t t':TX}(h:PX X st t)(f:∀D Ex σ H,t' D Ex σ H->t D Ex σ H):PX X st t':=λpins s σ H D Ex I q=>h pins s σ H D Ex I (f D Ex σ H q)
noncomputable def aS{α:Type}(m:Mi α):Mi α:=λρ=>match m ρ with
 | some (.ok x,ρ1)=>some (.ok x,ρ1)
 | _=>none
theorem cu{α:Type}{m:Mi α}{o:Except Str α}(h:aS m ρ=some (o,ρ')):∃x,o=.ok x/\m ρ=some (.ok x,ρ'):=by
 unfold aS at h
 cases e:m ρ with
 | none=>simp only[e] at h;cases h
 | some p =>
  obtain⟨r,ρ1⟩:=p
  cases r with
  | ok x=>simp only[e] at h;cases h;exact⟨x,rfl,rfl⟩
  | error x=>simp only[e] at h;cases h
theorem eu{m:Ms}{n:Nat}{ma:Mi (List Rr)}{Q:VK}{E':XK}{o:Except Str Rr}(hn:∀ρ rs ρ',ma ρ=some (.ok rs,ρ')->rs.length+0=n)(ek:c.toKx=kx X)(b:Bd c σ H ρ τ θ)(em:ai m [] (aS ma) ρ=some (o,ρ'))
  (q1:∀r,o=.ok r->∀v H',VR σ r v->Bd c σ H' ρ' (bN r v τ) (bO r θ)->Q v H')(q2:∀x,o=.error x->∀C H',X.mg x=some (.ref C)->Bd c σ H' ρ' τ θ->E' (.ref C) none H') :
  TAm (kx X) E00 ma σ H λvs H1=>SpM (kx X) n m (vs++[]) H1 Q E':=by
 rcases bind_some em with ⟨rs,ρ1,e1,e2⟩|⟨e,e1,e2⟩
 ·obtain⟨x,h1,h2⟩:=cu e1
  cases h1
  refine⟨c,ρ,τ,θ,_,ρ1,ek,b,h2,λvs H1 hv b1=>?_⟩
  refine je (E:=E') (dvs:=[]) (λG=>.nil) ek ?_ hv b1 e2 q1 q2
  rw[MB,<- hv.len]
  exact hn ρ rs ρ1 h2
 ·obtain⟨x,h1,_⟩:=cu e1
  cases h1
theorem Ej{n:Nat}{m:Ms}{pos':Pos}{ma:Mi (List Rr)}(hN:X.N.Nodup)(hi:X.N[i]?=some y)(hx:Loc X.env.scope y)(F:bW X.prog X.w X.K X.mg X.base (CXE X.prog X.w) k f fd ps (SpM (kx X) n m))(hr:bz k X.A)(hg:Gl X x)
  (hm:X.mg x=some (.ref f))(hk:ML X.K (.ref f)=true)(hb:Binds X.K fd ps [])(ha:JA X.nox E00 (e::es) ma)(hn:∀ρ rs ρ',ma ρ=some (.ok rs,ρ')->rs.length+0=n)(hdb:NDb x)(hs:swapsWith (.Call (.Name x p) (e::es) [] cpos) (some (.Name y pos')) pos.line X.env=pure false:=by rfl)
  (hf:X.fn y=true\/X.env.scope.names.lookup y=some .local:=by first|exact .inl rfl|exact .inr rfl|assumption)(he:starEach (e::es) X.env=(false,eval e X.env)::starEach es X.env:=by rfl)(hpl:(backTo cpos (starEach es X.env)).any (·.1)=false:=by rfl) :
  JX X (.Assign [.Name y pos'] (.Call (.Name x p) (e::es) [] cpos) pos) (aA i (ai m [] (aS ma))) :=
 ⟨PX.weaken (EN hN hi hx (pI (dvs:=[]) F hr hg hm hk hb .nil ha.p hdb he hpl) hs hf) λD Ex σ H h=>by
  obtain⟨c,ρ,τ,θ,f,ρ',ek,b,em,q⟩:=h
  rcases bp em with ⟨r,ρ1,e1,e2⟩|⟨e,e1,e2⟩
  ·refine eu hn ek b e1 (λr' hr' v H' hv b1=>?_) (λx hx=>by cases hx)
   cases hr'
   cases e3:stT r ρ1 with
   | none=>simp only[e3] at e2;cases e2
   | some p =>
    obtain⟨t,ρ2⟩:=p
    simp only[e3] at e2
    obtain⟨b2,ht⟩:=Bd.stT hv b1 e3
    cases e4:put i t ρ2 with
    | none=>simp only[e4] at e2;cases e2
    | some ρ3 =>
     simp only[e4] at e2;cases e2
     exact q _ H' (Bd.put b2 ht e4)
  ·subst e2
   exact eu hn ek b e1 (λr hr=>by cases hr) (λx hx=>by cases hx;exact λC H' hm b1=>q C σ H' hm b1)⟩
theorem Ar{n:Nat}{m:Ms}{ma:Mi (List Rr)}(F:bW X.prog X.w X.K X.mg X.base (CXE X.prog X.w) k f fd ps (SpM (kx X) n m))(hr:bz k X.A)(hg:Gl X x)
  (hm:X.mg x=some (.ref f))(hk:ML X.K (.ref f)=true)(hb:Binds X.K fd ps [])(ha:JA X.nox E00 (e::es) ma)(hn:∀ρ rs ρ',ma ρ=some (.ok rs,ρ')->rs.length+0=n)(hdb:NDb x)(hs:swapsWith (.Call (.Name x p) (e::es) [] cpos) none pos.line X.env=pure false:=by rfl)
  (he:starEach (e::es) X.env=(false,eval e X.env)::starEach es X.env:=by rfl)(hpl:(backTo cpos (starEach es X.env)).any (·.1)=false:=by rfl) :
  JX X (.Expr (.Call (.Name x p) (e::es) [] cpos) pos) (aP (ai m [] (aS ma))) :=
 ⟨PX.weaken (mw (pI (dvs:=[]) F hr hg hm hk hb .nil ha.p hdb he hpl) hs) λD Ex σ H h=>by
  obtain⟨c,ρ,τ,θ,f,ρ',ek,b,em,q⟩:=h
  rcases bp em with ⟨r,ρ1,e1,e2⟩|⟨e,e1,e2⟩
  ·cases e2
   exact eu hn ek b e1 (λr' hr' v H' hv b1=>by cases hr';exact q σ H' b1.drop) (λx hx=>by cases hx)
  ·subst e2
   exact eu hn ek b e1 (λr hr=>by cases hr) (λx hx=>by cases hx;exact λC H' hm b1=>q C σ H' hm b1)⟩
noncomputable def tV(i:Nat)(sub:Str->Bool)(b s:Ms):Ms:=λρ=>match b ρ with
 | some (.ex x,ρ1)=>if sub x=true then match put i (.fr (.exc x)) ρ1 with
  | some ρ2=>match s ρ2 with
   | some (.nx,ρ3)=>match put i .un ρ3 with
    | some ρ4=>some (.nx,ρ4)
    | none=>none
   | some (.rt r,ρ3)=>some (.rt r,ρ3)
   | _=>none
  | none=>none else none
 | r=>r
theorem E8{T:Addr}{n:Str}{b0 s0:Stmt}{suite:List Stmt}{mb ms:Ms}{sub:Str->Bool}{np hp:Pos}(hst:X.stack=X.env::X.outer)(hfr:X.env.frame=some X.env.locals)(hex:X.ex=[])(hN:X.N.Nodup)(hi:X.N[i]?=some n)(hn:X.env.scope.names.lookup n=some .local)
  (hg:Gl X x)(hm:X.mg x=some (.ref T))(hsub:∀c C,sub c=true->X.mg c=some (.ref C)->OT X.K (.ref C) (.ref T)=some true)(hb:JX X b0 mb)(hs:∀a,JSs (X.marked a) E00 (s0::suite) ms)(hd:NDb x)
  (hf:X.fn n=true\/X.env.scope.names.lookup n=some .local:=by first|exact .inl rfl|exact .inr rfl|assumption) :
  JS X E (.Try [b0] [.ExceptHandler (some (.Name x np)) (some n) (s0::suite) hp] [] [] pos) (tV i sub mb ms) :=
 ⟨PS.weaken (Eu (ts:=TSm (kx X) E00 ms) hst hfr hex hN hi hn hg hm (rX hb.p) (λa=>(hs a).p) hd hf) λD σ H h=>by
  obtain⟨c,ρ,τ,θ,f,ρ',ek,b,em,q⟩:=h
  unfold tV at em
  cases eb:mb ρ with
  | none=>simp only[eb] at em;cases em
  | some p =>
   obtain⟨f1,ρ1⟩:=p
   simp only[eb] at em
   refine⟨c,ρ,τ,θ,f1,ρ1,ek,b,eb,?_⟩
   cases f1 with
   | nx=>cases em;exact q
   | rt s=>cases em;exact q
   | bk=>cases em;exact q
   | ct=>cases em;exact q
   | ex y =>
    simp only at em
    split at em
    ·rename_i hsb
     intro C σ' H' hmC b1
     refine⟨C,rfl,hsub y C hsb hmC,λa ha=>?_⟩
     cases ep:put i (.fr (.exc y)) ρ1 with
     | none=>simp only[ep] at em;cases em
     | some ρ2 =>
      simp only[ep] at em
      cases es:ms ρ2 with
      | none=>simp only[es] at em;cases em
      | some p =>
       obtain⟨f2,ρ3⟩:=p
       simp only[es] at em
       have b2:Bd c (σ'.set i (some (.ref a))) (upd H' a (n8 a C)) ρ2 τ (θ.map Sl.fr):=by
        obtain⟨L,bl⟩:=b1
        obtain⟨b3,sm,np⟩:=bl.new (o:=n8 a C) ha
        exact Bd.put (b3.push (.exc (by rw[cL np (bl.fhd ha)];exact bw) (by rw[ek];exact hmC))) (λo z=>by cases z) ep
       refine⟨c,ρ2,τ,θ,f2,ρ3,ek,b2,es,?_⟩
       cases f2 with
       | nx =>
        cases e4:put i .un ρ3 with
        | none=>simp only[e4] at em;cases em
        | some ρ4=>simp only[e4] at em;cases em;exact λσ3 H3 b3=>q _ H3 (b3.unset e4)
       | rt r=>cases em;exact q
       | bk=>cases em
       | ct=>cases em
       | ex z=>cases em
    ·cases em⟩
noncomputable def fG(tab:Str->Option Bool):A->Option Rr
 | .exc c=>match tab c with
  | some k=>some (.fr (.bl k))
  | none=>none
 | _=>none
theorem zC(hc:dI cv=true)(ht:∀c C k,tab c=some k->K.mg c=some (.ref C)->fW K.K C/\MG K.K (.ref C) (gi cv)=some k) :
  UnS K (λv H Q=>∃x c t b,[v,cv]=[x,c]/\TyX K.K H x t/\dI c=true/\MG K.K t (gi c)=some b/\Q (.bl b) H) (fG tab):=.scalar λH v a q r1 h=>by
 cases a<;>first|(cases h;done)|skip
 rename_i c
 unfold fG at h
 simp only at h
 cases e:tab c with
 | none=>simp only[e] at h;cases h
 | some k =>
  simp only[e] at h
  cases h
  cases r1 with
  | exc e1 m1 =>
   obtain⟨x1,x2⟩:=ht c _ k e m1
   exact⟨_,_,rfl,λ_=>.bl _,λQ k=>⟨_,_,_,_,rfl,.exc e1 x1,hc,x2,k⟩⟩
theorem Al{e2:Expr}(hg:Gl X x)(hm:X.mg x=none)(hv:bootBuiltins x=some (.builtin "isinstance"))(h2:PE X e2 (tC cv))(hc:dI cv=true)(ht:∀c C k,tab c=some k->X.mg c=some (.ref C)->fW X.K C/\MG X.K (.ref C) (gi cv)=some k)
  (ha:JE X E e m)(hn:x ≠ "__name__")(hdb:NDb x)(hs:starEach [e,e2] X.env=(false,eval e X.env)::starEach [e2] X.env:=by rfl)(hs2:starEach [e2] X.env=(false,eval e2 X.env)::starEach [] X.env:=by rfl)(hp:(backTo pos (starEach [e2] X.env)).any (·.1)=false:=by rfl) :
  JE X E (.Call (.Name x p) [e,e2] [] pos) (mB1 (fG tab) m) :=
 ⟨PE.weaken (gC oj hg hm hv (br ha.p (br h2 dh hs2) hs) hn hdb hs hp) λσ H Q h=>fK (r:=λv H Q=>∃x c t b,[v,cv]=[x,c]/\TyX (kx X).K H x t/\dI c=true/\MG (kx X).K t (gi c)=some b/\Q (.bl b) H) (zC (K:=kx X) hc ht) σ H Q h⟩
end
section
variable{X:Cx}{E:XK}
noncomputable def Lm(ρ:List Sl)(i:Nat):Bool:=match aH ρ i with
 | some (.dic _)=>true
 | _=>false
end
end M
set_option maxHeartbeats 4000000
set_option maxHeartbeats 1000000
namespace M
open PySem L2
variable{s:Sl}{cn:Str}{r:Rr}
section
variable{c:Cn}{σ:St}{H:Hp}{ρ:List Sl}{τ:St}{θ:List Sl}
theorem SlR.Cf{k:Kx}{G:Hp}{x:Option V}{L:List Addr}{fs:List (Str×A)}(h:SlR k G H x s L)(sm:Sq G H)(e:s.a=some (.obj cn fs)):∃p C dx vs,x=some (.ref p)/\H p=some (.ins C dx vs)/\k.mg cn=some (.ref C)/\RFs k G vs fs:=by
 have lo:∀p o,LR k G H p o->o.a=A.obj cn fs->∃C dx vs,H p=some (.ins C dx vs)/\k.mg cn=some (.ref C)/\RFs k G vs fs:=λp o h z=>by
  cases h with
  | lst=>cases z
  | dic=>cases z
  | obj e m r=>cases z;exact⟨_,_,_,e,m,r⟩
 cases h with
 | un=>cases e
 | fr h=>cases e;cases h with|obj e m r=>exact⟨_,_,_,_,rfl,sm.keep e rfl,m,r⟩
 | lv h=>obtain⟨C,dx,vs,h1,h2,h3⟩:=lo _ _ h (Mc e);exact⟨_,C,dx,vs,rfl,h1,h2,h3⟩
 | pv h=>obtain⟨C,dx,vs,h1,h2,h3⟩:=lo _ _ h (Mc e);exact⟨_,C,dx,vs,rfl,h1,h2,h3⟩
theorem Bd.vU{v:V}{fs:List (Str×A)}(b:Bd c σ H ρ (bN r v τ) (bO r θ))(hv:VR σ r v)(e:res ρ r=some (.obj cn fs)):∃L p C dx vs,BdL c σ H ρ τ θ L/\v=.ref p/\H p=some (.ins C dx vs)/\c.mg cn=some (.ref C)/\RFs c.toKx (c.g H L) vs fs:=by
 obtain⟨L0,b⟩:=b
 have tmp:∀s,BdL c σ H ρ (some v::τ) (s::θ) L0->s.a=some (.obj cn fs)->∃L p C dx vs,BdL c σ H ρ τ θ L/\v=.ref p/\H p=some (.ins C dx vs)/\c.mg cn=some (.ref C)/\RFs c.toKx (c.g H L) vs fs:=by
  intro s b ea
  obtain⟨nd,rel,own,fr,kp,lt,hdd⟩:=b
  have rel:az c.toKx (c.g H L0) H (some v::(τ++σ)) (s::(θ++ρ)) L0:=rel
  cases rel with
  | cons h r =>
   rename_i L1 L2
   have sm:Sq (c.g H (L1++L2)) (c.g H L2):=cT λa ha=>LW _ ha
   obtain⟨p,C,dx,vs,h1,h2,h3,h4⟩:=(h.sm sm (λ_ _ _ e=>e)).Cf (g_same _ _ _) ea
   exact⟨L2,p,C,dx,vs,⟨(Mp.mp nd).2.1,r.sm sm (λ_ _ _ e=>e),λp hp=>own p (LW _ hp),fr,kp,by simpa using lt,hdd⟩,Mc h1,h2,h3,h4⟩
 cases r with
 | rf i =>
  unfold res at e
  cases es:ρ[i]? with
  | none=>simp only[es] at e;cases e
  | some s =>
   simp only[es] at e
   obtain⟨L1,L2,e1,r1,r2⟩:=az.split b.lt b.rel
   obtain⟨x,_,_,_,hx,hs,_⟩:=r2.at es
   have hv:σ[i]?=some (some v):=hv
   rw[hv] at hx
   obtain⟨p,C,dx,vs,h1,h2,h3,h4⟩:=hs.Cf (g_same _ _ _) e
   rw[<- Mc hx] at h1
   exact⟨L0,p,C,dx,vs,b,Mc h1,h2,h3,h4⟩
 | fr a'=>exact tmp _ b e
 | nw o=>exact tmp _ b e
theorem Bd.rot{x:Option V}{ys:St}{ss:List Sl}(e:ys.length=ss.length)(b:Bd c σ H ρ (x::(ys++τ)) (s::(ss++θ))):Bd c σ H ρ (ys++x::τ) (ss++s::θ):=by
 obtain⟨L,b⟩:=b
 have r:az c.toKx (c.g H L) H (x::(ys++(τ++σ))) (s::(ss++(θ++ρ))) L:=by have:=b.rel;simpa[L7] using this
 cases r with
 | cons h r =>
  rename_i L1 L2
  obtain⟨La,Lb,e1,r1,r2⟩:=az.split e r
  subst e1
  have pm:(L1++(La++Lb)).Perm (La++(L1++Lb)):=by
   rw[<- L7,<- L7]
   exact NG.append_right Lb
  refine⟨La++(L1++Lb),(pm.nodup_iff).mp b.nd,?_,λp hp=>b.own p (pm.mem_iff.mpr hp),b.fr,b.kp,by have:=b.lt;simp[e] at this ⊢;omega,b.hd⟩
  have hg:c.g H (La++(L1++Lb))=c.g H (L1++(La++Lb)):=F9 λa=>pm.mem_iff.symm
  rw[hg]
  have:=r1.app (az.cons h r2)
  simpa[L7] using this
end
variable{K:Kx}{cs:List Str}{f x:Str}{e:Expr}{m:Mi Rr}{pos px:Pos}{i:Nat}{C:Addr}
section
variable{X:Cx}{E:XK}
noncomputable def aW(cs:List Str)(f:Str):A->Option Rr
 | .obj c fs=>if cs.contains c then (match fs.lookup f with
  | some a=>some (.fr a)
  | none=>none) else none
 | _=>none
noncomputable def Cv(K:LU)(f:Str):V->Hp->VK->Prop:=λx H1 Q=>∃a C dx fs v,x=.ref a/\H1 a=some (.ins C dx fs)/\Cls K C/\dZ K C f/\fs.lookup f=some v/\Q v H1
theorem BO(hc:∀c C,cs.contains c=true->K.mg c=some (.ref C)->Cls K.K C/\dZ K.K C f):UnS K (Cv K.K f) (aW cs f):=by
 intro c σ H ρ τ θ x v a q Q ek hv bd e1 e3 k
 cases a<;>first|(cases e3;done)|skip
 rename_i cn fs
 unfold aW at e3
 simp only at e3
 split at e3
 ·rename_i hcn
  cases el:fs.lookup f with
  | none=>simp only[el] at e3;cases e3
  | some w =>
   simp only[el] at e3;cases e3
   obtain⟨L,p,C,dx,vs,bl,rfl,h2,h3,h4⟩:=Bd.vU bd hv e1
   subst ek
   obtain⟨c1,c2⟩:=hc cn C hcn h3
   rcases h4.get f with ⟨u,a,g1,g2,g3⟩|⟨_,g2⟩
   ·rw[el] at g2;cases g2
    exact⟨p,C,dx,vs,u,rfl,h2,c1,c2,g1,k u H trivial (bl.push g3)⟩
   ·rw[el] at g2;cases g2
 ·cases e3
theorem Az(hc:∀c C,cs.contains c=true->X.mg c=some (.ref C)->Cls X.K C/\dZ X.K C f)(he:JE X E e m)(hb:attributeBase e f X.env (eval e X.env)=eval e X.env):JE X E (.Attribute e f pos) (mUn (aW cs f) m) :=
 ⟨PE.weaken (D3 he.p hb) λσ H Q h=>fK (r:=Cv X.K f) (BO hc) σ H Q h⟩
noncomputable def eJ(cs:List Str)(i:Nat)(f:Str)(m:Mi Rr):Ms:=bA m λr ρ=>match aV r ρ with
 | some (a,ρ1)=>match aH ρ1 i with
  | some (.obj c fs)=>if cs.contains c&&Oi fs.length 900 then some (.nx,setAt ρ1 i (.obj c (lW f a fs))) else none
  | _=>none
 | none=>none
theorem B5{p1:Pos}(hN:X.N[i]?=some x)(hv:Vis X.env.scope x)(hd:NDb x)(hcd:NCd x)(hc:∀c C,cs.contains c=true->X.mg c=some (.ref C)->Cls X.K C/\dZ X.K C f)(he:JE X E e m)
  (hs:swapsWith e (some (.Attribute (.Name x px) f p1)) pos.line X.env=pure false):JS X E (.Assign [.Attribute (.Name x px) f p1] e pos) (eJ cs i f m) :=
 ⟨PS.weaken (E7 (eY hN hv hd hcd) he.p hs) λD σ H h=>by
  obtain⟨c,ρ,τ,θ,fl,ρ',ek,b,em,q⟩:=h
  refine eW ek b em q λr v ρ1 H1 hv b1 em1=>?_
  cases e1:aV r ρ1 with
  | none=>simp only[e1] at em1;cases em1
  | some pr =>
   obtain⟨a,ρ2⟩:=pr
   simp only[e1] at em1
   have b2:=Bd.aV (xs:=[]) (ss:=[]) rfl b1 hv e1
   cases e2:aH ρ2 i with
   | none=>simp only[e2] at em1;cases em1
   | some lo =>
    cases lo with
    | lst _=>simp only[e2] at em1;cases em1
    | dic _=>simp only[e2] at em1;cases em1
    | obj cn fs =>
     simp only[e2] at em1
     split at em1
     ·rename_i hcn
      rw[LV] at hcn
      cases em1
      obtain⟨L,bl,ra⟩:=Bd.uw b2
      obtain⟨p,h1,h2,h3⟩:=bl.live e2 (.obj cn (lW f a fs)) (match H1 (match σ[i]? with|some (some (.ref p))=>p|_=>0) with|some (.ins C dx ws)=>.ins C dx (fY f v ws)|_=>.lst [])
      cases h2 with
      | obj ee mm rr =>
       rename_i C dx ws
       simp only[h1,ee] at h3
       have e3:X.mg cn=some (.ref C):=by have:=congrArg (λk:Kx=>k.mg cn) ek;simp only at this;rw[<- this];exact mm
       obtain⟨c1,c2⟩:=hc cn C hcn.1 e3
       exact⟨_,h1,p,C,dx,ws,rfl,ee,c1,c2,by have:=rr.len;have:=MX hcn.2;omega,q σ _ (h3 λH' hh=>.obj hh mm (rr.put ra))⟩
     ·cases em1⟩
noncomputable def bc(cn m:Str)(mo:Mi Rr):Mi Rr:=ay mo λr ρ=>match res ρ r with
 | some (.obj c fs)=>if c==cn&&(fs.lookup m).isNone then some (.ok r,ρ) else none
 | _=>none
theorem js{m:Str}{r':Rr}{ρ ρ':List Sl}{o:Except Str Rr}(h:(match res ρ r with|some (.obj c fs)=>if c==cn&&(fs.lookup m).isNone then some ((.ok r:Except Str Rr),ρ) else none|_=>none)=some (o,ρ')):∃fs,res ρ r=some (.obj cn fs)/\fs.lookup m=none/\o=.ok r/\ρ'=ρ:=by
 split at h
 ·rename_i c fs e
  split at h
  ·rename_i hc
   rw[LV,beq_iff_eq,Ot] at hc
   cases h
   exact⟨fs,by rw[e,hc.1],hc.2,rfl,rfl⟩
  ·cases h
 ·cases h
theorem jc{m:Ms}{n:Nat}{mn:Str}{das:List A}{dvs:List V}(hd:∀G,RAs (kx X) G dvs das){mo:Mi Rr}{ma:Mi (List Rr)}(hC:X.mg cn=some (.ref C))(hn:∀ρ rs ρ',ma ρ=some (.ok rs,ρ')->rs.length+1+das.length=n)(σ:St)(H:Hp)(Q:VK)(h:TEm (kx X) E (ai m das (aa (bc cn mn mo) ma)) σ H Q) :
  sU C mn (SpM (kx X) n m) dvs E (TEm (kx X) E mo) (TAm (kx X) E ma) σ H Q:=by
 obtain⟨c,ρ,τ,θ,o,ρ',ek,b,em,q⟩:=h
 have fin:∀e,o=.error e->∀C H,X.mg e=some (.ref C)->Bd c σ H ρ' τ θ->E (.ref C) none H:=aY q
 rcases bind_some em with ⟨rs,ρ1,e1,e2⟩|⟨e,e1,e2⟩
 ·rcases bind_some e1 with ⟨r,ρ2,e3,e4⟩|⟨_,_,e4⟩
  ·rcases bind_some e3 with ⟨r0,ρ3,e5,e6⟩|⟨_,_,e6⟩
   ·obtain⟨fs,g1,g2,g3,g4⟩:=js (r':=r0) e6
    cases g3;subst g4
    refine⟨c,ρ,τ,θ,_,ρ2,ek,b,e5,λv H1 hv b1=>?_⟩
    obtain⟨L,p,C',dx,vs,bl,rfl,h2,h3,h4⟩:=Bd.vU b1 hv g1
    have h3':X.mg cn=some (.ref C'):=by have:=congrArg (λk:Kx=>k.mg cn) ek;simp only at this;rw[<- this];exact h3
    rw[hC] at h3';cases h3'
    have hl:vs.lookup mn=none:=by
     rcases h4.get mn with ⟨_,_,_,z,_⟩|⟨z,_⟩
     ·rw[g2] at z;cases z
     ·exact z
    refine⟨p,dx,vs,rfl,h2,hl,?_⟩
    rcases bind_some e4 with ⟨rs',ρ4,e7,e8⟩|⟨_,_,e8⟩
    ·cases e8
     refine⟨c,ρ2,_,_,_,_,ek,b1,e7,λws H2 hws b2=>?_⟩
     refine je (rs:=r::rs') (vs:=.ref p::ws) hd ek ?_ ⟨hv,hws⟩ b2 e2 (λr hr v H' hv b=>by subst hr;exact q v H' hv b) (λx hx=>by subst hx;exact q)
     rw[Nb,LX,Ma,<- hws.len,<- hn _ _ _ e7,(hd λ_=>none).len]
     omega
    ·cases e8
   ·cases e6
  ·cases e4
 ·rcases bind_some e1 with ⟨r,ρ2,e3,e4⟩|⟨e',e3,e4⟩
  ·rcases bind_some e3 with ⟨r0,ρ3,e5,e6⟩|⟨_,_,e6⟩
   ·obtain⟨fs,g1,g2,g3,g4⟩:=js (r':=r0) e6
    cases g3;subst g4
    refine⟨c,ρ,τ,θ,_,ρ2,ek,b,e5,λv H1 hv b1=>?_⟩
    obtain⟨L,p,C',dx,vs,bl,rfl,h2,h3,h4⟩:=Bd.vU b1 hv g1
    have h3':X.mg cn=some (.ref C'):=by have:=congrArg (λk:Kx=>k.mg cn) ek;simp only at this;rw[<- this];exact h3
    rw[hC] at h3';cases h3'
    have hl:vs.lookup mn=none:=by
     rcases h4.get mn with ⟨_,_,_,z,_⟩|⟨z,_⟩
     ·rw[g2] at z;cases z
     ·exact z
    refine⟨p,dx,vs,rfl,h2,hl,?_⟩
    rcases bind_some e4 with ⟨rs',ρ4,e7,e8⟩|⟨e9,e7,e8⟩
    ·cases e8
    ·cases e8
     refine⟨c,ρ2,_,_,_,_,ek,b1,e7,λC H2 hm b2=>fin e e2 C H2 hm b2.drop⟩
   ·cases e6
  ·rcases bind_some e3 with ⟨r0,ρ3,e5,e6⟩|⟨e9,e5,e6⟩
   ·obtain⟨fs,g1,g2,g3,g4⟩:=js (r':=r0) e6
    cases g3
   ·cases e4;cases e6
    exact⟨c,ρ,τ,θ,_,_,ek,b,e5,λC H1 hm b1=>fin _ e2 C H1 hm b1⟩
end
variable{apos:Pos}
theorem jt{o:Expr}{m:Str}{args:List Expr}{env:Env}(hbase:attributeBase o m env (eval o env)=eval o env)
  (hfew:methodCallForm (args.length+([]:List Keyword).length) (backTo pos (starEach args env)) (backToKw pos (keywordEach [] env))=true)(hline:(apos.endLine==pos.line)=true) :
  eval (.Call (.Attribute o m apos) args [] pos) env=(do
   let ov <- eval o env
   standAt apos.atName
   let (f,first) <- holding [ov] (getMethod ov m (do return (<- importBound o env).getD true))
   callWith pos f first (backTo pos (starEach args env)) (backToKw pos (keywordEach [] env))):=by
 rw[arm_eval_Call,hbase]
 unfold methodCall calleeOf methodCallPos
 rw[hfew,hline]
 rfl
variable{H:Hp}{p:Pos}
section
variable{X:Cx}{E:XK}{CX:CXT}{k n:Nat}{f C:Addr}{fd:FuncData}{ps:List Str}{m:Ms}{das:List A}{dvs:List V}{ds:List Value}{cn mn:Str}{apos pos:Pos}{o e:Expr}{es:List Expr}{mo:Mi Rr}{ma:Mi (List Rr)}
theorem Ax(hC:X.mg cn=some (.ref C))(hc:Cls X.K C)(hm:Meth X.K C mn f)(F:bW X.prog X.w X.K X.mg X.base CX k f fd ps (SpM (kx X) n m))(hr:bz k X.A)(hb:Binds X.K fd ps ds)(hd:Vals dvs ds)(hda:∀G,RAs (kx X) G dvs das)(hx:Passes CX X E)
  (ho:JE X E o mo)(ha:JA X E (e::es) ma)(hn:∀ρ rs ρ',ma ρ=some (.ok rs,ρ')->rs.length+1+das.length=n)(hbase:attributeBase o mn X.env (eval o X.env)=eval o X.env)
  (hfew:methodCallForm ((e::es).length+([]:List Keyword).length) (backTo pos (starEach (e::es) X.env)) (backToKw pos (keywordEach [] X.env))=true)(hline:(apos.endLine==pos.line)=true)
  (hst:starEach (e::es) X.env=(false,eval e X.env)::starEach es X.env)(hpl:(backTo pos (starEach es X.env)).any (·.1)=false):JE X E (.Call (.Attribute o mn apos) (e::es) [] pos) (ai m das (aa (bc cn mn mo) ma)) :=
 ⟨PE.weaken (AZ ho.p hc hm F hr hb hd hx ha.p hst hpl (jt hbase hfew hline)) (jc hda hC hn)⟩
theorem TEm.mono{E:XK}{m:Mi Rr}{σ:St}{Q Q':VK}(h:TEm K E m σ H Q)(f:∀v H,Q v H->Q' v H):TEm K E m σ H Q':=by
 obtain⟨c,ρ,τ,θ,o,ρ',ek,b,em,q⟩:=h
 refine⟨c,ρ,τ,θ,o,ρ',ek,b,em,?_⟩
 cases o with
 | ok r=>exact λv H' hv b'=>f _ _ (q v H' hv b')
 | error x=>exact q
theorem wK(hC:X.mg cn=some (.ref C))(hc:Cls X.K C)(hm:Meth X.K C mn f)(F:bW X.prog X.w X.K X.mg X.base CX k f fd ps (SpM (kx X) n m))(hr:bz k X.A)(hb:Binds X.K fd ps ds)(hd:Vals dvs ds)(hda:∀G,RAs (kx X) G dvs das)(hx:Passes CX X E)
  (ho:JE X E o mo)(hn:1+das.length=n)(hbase:attributeBase o mn X.env (eval o X.env)=eval o X.env)(hline:(apos.endLine==pos.line)=true):JE X E (.Call (.Attribute o mn apos) [] [] pos) (ai m das (aa (bc cn mn mo) ag)) :=
 ⟨PE.weaken (yq ho.p hc hm F hr hb hd hx (jt hbase rfl hline)) λσ H Q h=>by
  have h1:=jc (X:=X) (E:=E) (C:=C) (n:=n) hda hC (ma:=ag) (λρ rs ρ' q=>by cases q;rw[<- hn];simp) σ H Q h
  refine TEm.mono h1 λv H1 ⟨a,dx,fs,g1,g2,g3,g4⟩=>⟨a,dx,fs,g1,g2,g3,?_⟩
  obtain⟨c,ρ,τ,θ,o,ρ',ek,b,em,q⟩:=g4
  cases em
  exact q [] H1 trivial b⟩
noncomputable def cI(cn:Str)(f:Ms)(das:List A)(ma:Mi (List Rr)):Mi Rr:=ay ma λrs ρ=>match cB (rs++das.map Rr.fr) ρ with
 | some (as,ρt)=>match f (.pv (.obj cn [])::as.map toP) with
  | some (.rt (.fr .non),.pv (.obj c2 fs)::ρr)=>match putL ρ (rs++das.map Rr.fr) (a8 as.length ρr) ρt with
   | some ρ'=>some (.ok (.nw (.obj c2 fs)),ρ')
   | none=>none
  | some (.ex x,s::ρr)=>match putL ρ (rs++das.map Rr.fr) (a8 as.length ρr) ρt with
   | some ρ'=>some (.error x,ρ')
   | none=>none
  | _=>none
 | none=>none
theorem tG(n:Nat)(s:Sl)(ρ:List Sl):∃t,a8 (n+1) (s::ρ)=t::a8 n ρ:=by cases s<;>exact⟨_,rfl⟩
theorem lC(hda:∀G,RAs (kx X) G dvs das)(hC:X.mg cn=some (.ref C))(hn:∀ρ rs ρ',ma ρ=some (.ok rs,ρ')->rs.length+1+das.length=n)(σ:St)(H:Hp)(Q:VK)(h:TEm (kx X) E (cI cn m das ma) σ H Q) :
  yg C (SpM (kx X) n m) dvs E (TAm (kx X) E ma) σ H Q:=by
 obtain⟨c,ρ,τ,θ,o,ρ',ek,b,em,q⟩:=h
 rcases bind_some em with ⟨rs,ρ1,e1,em⟩|⟨e,e1,e2⟩
 ·refine⟨c,ρ,τ,θ,_,ρ1,ek,b,e1,λvs H1 hv b1 x dx hx hdx hne=>?_⟩
  have ld:das.length=dvs.length:=(hda λ_=>none).len.symm
  refine⟨by rw[LX,Ma,<- hv.len,<- hn _ _ _ e1,ld];omega,?_⟩
  cases e2:cB (rs++das.map Rr.fr) ρ1 with
  | none=>simp only[e2] at em;cases em
  | some p =>
   obtain⟨as,ρt⟩:=p
   simp only[e2] at em
   have hv2:VRs σ (rs++das.map Rr.fr) (vs++dvs):=hv.app (VRs.frs ld)
   have b2:Bd c σ H1 ρ1 (cC (rs++das.map Rr.fr) (vs++dvs) τ) (cz (rs++das.map Rr.fr) θ):=by
    rw[j3 _ _ _ hv.len,jl]
    exact Bd.qm (by rw[ek];exact hda) b1
   obtain⟨b3,e3⟩:=Bd.cB hv2 b2 e2
   have b4:=b3.new (o:=.own x) hdx
   have hx2:upd H1 dx (.own x) x=none:=by rw[aC hne.symm];exact hx
   obtain⟨L,b5⟩:=b4
   have hmg:c.mg cn=some (.ref C):=by have:=congrArg (λk:Kx=>k.mg cn) ek;simp only at this;rw[this];exact hC
   have b6:=b5.kN (u:=.ins C dx []) (o:=.obj cn []) hx2 λG H' sm q=>.obj q hmg .nil
   have b7:=Bd.rot (ys:=(vs++dvs).reverse.map some) (ss:=as.reverse) (by simp only[LY,List.length_reverse];exact e3) b6
   have b8:Bd c σ (upd (upd H1 dx (.own x)) x (.ins C dx [])) ρt ((V.ref x::(vs++dvs)).reverse.map some++τ) ((Sl.lv (.obj cn [])::as).reverse++θ):=by simpa[L7] using b7
   obtain⟨c',k1,k2,k3,k4,k5⟩:=Bd.enter (by rw[LX,LX,e3]) b8
   have kp:ft c.σ0 σ ρ1:=by obtain⟨L,b⟩:=b1;exact b.kp
   cases e4:m (.pv (.obj cn [])::as.map toP) with
   | none=>simp only[e4] at em;cases em
   | some p =>
    obtain⟨f,ρc⟩:=p
    simp only[e4] at em
    refine⟨c',_,f,ρc,k1.trans ek,k2,k3,k4,e4,?_⟩
    have hlen:(V.ref x::(vs++dvs)).length=as.length+1:=by rw[LX,e3]
    cases f with
    | nx=>cases em
    | bk=>cases em
    | ct=>cases em
    | rt s =>
     cases s with
     | un=>cases em
     | lv o=>cases em
     | pv o=>cases em
     | fr a =>
      cases a<;>first|(cases em;done)|skip
      cases ρc with
      | nil=>cases em
      | cons s0 ρr =>
       cases s0 with
       | un=>cases em
       | fr a=>cases em
       | lv o=>cases em
       | pv o =>
        cases o with
        | lst _=>cases em
        | dic _=>cases em
        | obj c2 fs =>
         simp only at em
         cases e6:putL ρ1 (rs++das.map Rr.fr) (a8 as.length ρr) ρt with
         | none=>simp only[e6] at em;cases em
         | some ρ2 =>
          simp only[e6] at em
          cases em
          intro v H' hs b9
          have rv:=Bd.top b9 (a:=.non) rfl
          cases rv
          refine⟨rfl,?_⟩
          have b10:=k5 H' _ _ _ (λs' hs' o z=>by rw[Mj.mp hs'] at z;exact hs o z) (bu _ _) b9
          rw[hlen] at b10
          have b11:Bd c σ H' ρt ((vs++dvs).reverse.map some++(some (.ref x)::(some .non::τ))) (((a8 as.length ρr).map toL).reverse++(.lv (.obj c2 fs)::(.fr .non::θ))):=by
           simpa[a8,toL,L7] using b10
          have b12:=Bd.putL kp hv2 b11 e6
          exact q (.ref x) H' trivial (Bd.mR (xs:=[some .non]) (ss:=[.fr .non]) rfl b12)
    | ex y =>
     cases ρc with
     | nil=>cases em
     | cons s0 ρr =>
      simp only at em
      cases e6:putL ρ1 (rs++das.map Rr.fr) (a8 as.length ρr) ρt with
      | none=>simp only[e6] at em;cases em
      | some ρ2 =>
       simp only[e6] at em
       cases em
       intro C' H' hm b9
       have b10:=k5 H' _ _ _ (λs' hs'=>by cases hs') (bu _ _) b9
       rw[hlen] at b10
       obtain⟨t,ht⟩:=tG as.length s0 ρr
       rw[ht] at b10
       have b11:Bd c σ H' ρt ((vs++dvs).reverse.map some++(some (.ref x)::τ)) (((a8 as.length ρr).map toL).reverse++(toL t::θ)):=by
        simpa[L7] using b10
       exact q C' H' hm (Bd.putL kp hv2 b11 e6).pop
 ·subst e2
  exact⟨c,ρ,τ,θ,_,ρ',ek,b,e1,λC H1 hm b1=>q C H1 hm b1⟩
theorem Bl(hM:Mk X.K C f)(F:bW X.prog X.w X.K X.mg X.base CX k f fd ps (SpM (kx X) n m))(hr:bz (k+1) X.A)(hg:Gl X x)(hC:X.mg x=some (.ref C))(hb:Binds X.K fd ps ds)(hd:Vals dvs ds)(hda:∀G,RAs (kx X) G dvs das)(hx:Passes CX X E)
  (ha:JA X E (e::es) ma)(hn:∀ρ rs ρ',ma ρ=some (.ok rs,ρ')->rs.length+1+das.length=n)(hdb:NDb x)(he:starEach (e::es) X.env=(false,eval e X.env)::starEach es X.env)(hpl:(backTo pos (starEach es X.env)).any (·.1)=false) :
  JE X E (.Call (.Name x p) (e::es) [] pos) (cI x m das ma) :=
 ⟨PE.weaken (BY hM F hr hg hC hb hd hx ha.p hdb he hpl) (lC hda hC hn)⟩
noncomputable def g9(m n:Mi Rr):Mi Rr:=λρ=>match m ρ with
 | some x=>some x
 | none=>n ρ
theorem Fo{m n:Mi Rr}(h:JE X E e m)(h':JE X E e n):JE X E e (g9 m n):=⟨λpins s σ H Q I t=>by
 obtain⟨c,ρ,τ,θ,o,ρ',ek,b,em,q⟩:=t
 unfold g9 at em
 cases e1:m ρ with
 | some x=>simp only[e1] at em;cases em;exact h.p pins s σ H Q I ⟨c,ρ,τ,θ,o,ρ',ek,b,e1,q⟩
 | none=>simp only[e1] at em;exact h'.p pins s σ H Q I ⟨c,ρ,τ,θ,o,ρ',ek,b,em,q⟩⟩
end
noncomputable def gf(i j:Str):Bool:=!(Nn j i 0 j.length 1).isEmpty
noncomputable def gq(neg:Bool):A->A->Option Rr
 | .str i,.str j=>some (.fr (.bl (if neg then !(gf i j) else gf i j)))
 | _,_=>none
noncomputable def gH:List A->Option (List Bool)
 | []=>some []
 | .bl b::r=>match gH r with
  | some bs=>some (b::bs)
  | none=>none
 | _=>none
theorem l9:∀{xs:List A}{bs:List Bool},gH xs=some bs->xs=bs.map A.bl
 | [],bs,h=>by cases h;rfl
 | a::r,bs,h=>by
  cases a<;>first|(cases h;done)|skip
  unfold gH at h
  cases e:gH r with
  | none=>simp only[e] at h;cases h
  | some cs=>simp only[e] at h;cases h;rw[l9 e];rfl
noncomputable def oW(g:List Bool->Bool):A->Option Rr
 | .lst xs=>match gH xs with
  | some bs=>some (.fr (.bl (g bs)))
  | none=>none
 | _=>none
theorem oi{K:Kx}{G:Hp}:∀{bs:List Bool}{vs:List V},RAs K G vs (bs.map A.bl)->vs=bs.map V.bl
 | [],vs,h=>by cases h;rfl
 | b::bs,vs,h=>by
  cases h with
  | cons h1 h2=>cases h1;rw[oi h2];rfl
theorem FQ{g:List Bool->Bool}:UnS K (λv=>Kd K.K g [v]) (oW g):=.scalar λH v a q r1 h=>by
 cases a<;>first|(cases h;done)|skip
 rename_i xs
 unfold oW at h
 simp only at h
 cases e:gH xs with
 | none=>simp only[e] at h;cases h
 | some bs =>
  simp only[e] at h
  cases h
  have:=l9 e
  subst this
  cases r1 with
  | lst e0 r0=>exact⟨_,_,rfl,λ_=>.bl _,λQ k=>⟨_,_,bs,rfl,e0,oi r0,k⟩⟩
section
variable{X:Cx}{E:XK}{a b:Expr}{ma mb:Mi Rr}{pos:Pos}
theorem wo:OpS K (λx y H Q=>∃i j,x=.str i/\y=.str j/\Q (.bl (!(Nn j i 0 j.length 1).isEmpty)) H) (gq false):=.scalar λH v w a b q r1 r2 h=>by
 cases a<;>first|(cases h;done)|skip
 cases b<;>first|(cases h;done)|skip
 cases r1;cases r2;cases h
 exact⟨_,_,rfl,λ_=>.bl _,λQ k=>⟨_,_,rfl,rfl,k⟩⟩
theorem sS:OpS K (λx y H Q=>∃i j,x=.str i/\y=.str j/\Q (.bl (!(!(Nn j i 0 j.length 1).isEmpty))) H) (gq true):=.scalar λH v w a b q r1 r2 h=>by
 cases a<;>first|(cases h;done)|skip
 cases b<;>first|(cases h;done)|skip
 cases r1;cases r2;cases h
 exact⟨_,_,rfl,λ_=>.bl _,λQ k=>⟨_,_,rfl,rfl,k⟩⟩
theorem Ed(hu:X.A.units+1<cLine)(ha:JE X E a ma)(hb:JE X E b mb)(hm:behindInMarks .In b=false):JE X E (.Compare a [.In] [b] pos) (mOp (fOr (fOr (d9 false) (cY false)) (gq false)) ma mb):=fE (JK hu ha hb hm) (dE lh wo ha hb hm)
theorem Fh(hu:X.A.units+1<cLine)(ha:JE X E a ma)(hb:JE X E b mb)(hm:behindInMarks .In b=false):JT X E (.Compare a [.In] [b] pos) (ao (mOp (fOr (fOr (d9 false) (cY false)) (gq false)) ma mb)):=gT (IH hu ha hb hm) (dD lh wo ha hb hm)
theorem zp(hu:X.A.units+1<cLine)(ha:JE X E a ma)(hb:JE X E b mb)(hm:behindInMarks .NotIn b=false):JE X E (.Compare a [.NotIn] [b] pos) (mOp (fOr (fOr (d9 true) (cY true)) (gq true)) ma mb):=fE (FA hu ha hb hm) (dE iP sS ha hb hm)
theorem zY(hu:X.A.units+1<cLine)(ha:JE X E a ma)(hb:JE X E b mb)(hm:behindInMarks .NotIn b=false):JT X E (.Compare a [.NotIn] [b] pos) (ao (mOp (fOr (fOr (d9 true) (cY true)) (gq true)) ma mb)):=gT (FG hu ha hb hm) (dD iP sS ha hb hm)
theorem wu:bootBuiltins "all" = some (.builtin "all"):=by decide +kernel
end
def Lq(G G':Hp):Prop:=∀a u,G a=some u->(∀ws,u≠.lst ws)->G' a=some u
noncomputable def tAs(cvs:List V):TA:=λ_ H Q=>Q cvs H
noncomputable def jj:List (List (Str×Bool))->Str->Option Bool
 | [],_=>some false
 | l::r,c=>match l.lookup c with
  | some true=>some true
  | some false=>jj r c
  | none=>none
variable{cvs:List V}{tab:Str->Option Bool}
theorem Bt(hc:cvs.all dI=true)(hl:cvs.length<=sizeLine)(ht:∀c C k,tab c=some k->K.mg c=some (.ref C)->fW K.K C/\Nq K.K (.ref C) (cvs.map gi)=some k) :
  UnS K (λv H Q=>cvs.length<=sizeLine/\∀p,H p=none->∃x a cs t b,[v,.ref p]=[x,.ref a]/\(upd H p (.tup cvs)) a=some (.tup cs)/\cs.all dI=true/\TyX K.K (upd H p (.tup cvs)) x t/\Nq K.K t (cs.map gi)=some b/\Q (.bl b) (upd H p (.tup cvs))) (fG tab):=by
 intro c σ H ρ τ θ x v a q Q ek hv bd e1 e3 k
 refine⟨hl,λp hp=>?_⟩
 have bd2:Bd c σ (upd H p (.tup cvs)) ρ (bN x v τ) (bO x θ):=bd.new hp
 have r1:=Bd.rd bd2 hv e1
 rw[ek] at r1
 cases a<;>first|(cases e3;done)|skip
 rename_i cn
 unfold fG at e3
 simp only at e3
 cases e:tab cn with
 | none=>simp only[e] at e3;cases e3
 | some b =>
  simp only[e] at e3
  cases e3
  cases r1 with
  | exc e4 m1 =>
   obtain⟨x1,x2⟩:=ht cn _ b e m1
   exact⟨_,p,cvs,_,b,rfl,bw,hc,.exc e4 x1,x2,k (.bl b) _ trivial (Bd.push bd2.drop λ_=>.bl b)⟩
section
variable{X:Cx}{E:XK}
theorem BS{tp:Pos}{tk:Nat}{es:List Expr}(hg:Gl X x)(hm:X.mg x=none)(hv:bootBuiltins x=some (.builtin "isinstance"))(h2:PA X es (tAs cvs))(hc:cvs.all dI=true)(hl:cvs.length<=sizeLine)(ht:∀c C k,tab c=some k->X.mg c=some (.ref C)->fW X.K C/\Nq X.K (.ref C) (cvs.map gi)=some k)
  (ha:JE X E e m)(hn:x ≠ "__name__")(hdb:NDb x)(hs:starEach [e,.Tuple es tk tp] X.env=(false,eval e X.env)::starEach [.Tuple es tk tp] X.env) :
  JE X E (.Call (.Name x p) [e,.Tuple es tk tp] [] pos) (mB1 (fG tab) m) :=
 ⟨PE.weaken (gC uI hg hm hv (br ha.p (br (ye h2) dh rfl) hs) hn hdb hs rfl) λσ H Q h=>fK (r:=λv H Q=>cvs.length<=sizeLine/\∀p,H p=none->∃x a cs t b,[v,.ref p]=[x,.ref a]/\(upd H p (.tup cvs)) a=some (.tup cs)/\cs.all dI=true/\TyX (kx X).K (upd H p (.tup cvs)) x t/\Nq (kx X).K t (cs.map gi)=some b/\Q (.bl b) (upd H p (.tup cvs))) (Bt (K:=kx X) hc hl ht) σ H Q h⟩
end
theorem mZ(l:Addr)(xs:Array Value)(n:Nat)(b:Addr)(ys:Array Value)(n2:Nat)(d2:Option Addr)(sl2:Array (Option Value))(h0:¬ (!xs.isEmpty&&NK (xs.size+ys.size))=true)(h1:xs.size<=sizeLine)(h2:xs.size+ys.size<=sizeLine+1) :
  Meets (Builtin.«list.extend» ⟨[.ref l,.ref b],[]⟩) (λ_ R s=>s.heap.get? l=some { cls:=.type "list",data:=.seq xs n }/\s.heap.get? b=some { cls:=.type "list",dict:=d2,data:=.seq ys n2,slots:=sl2 }/\R (.ok (.ret NW)) { s with heap:=s.heap.update l (OR λx=>x++ys),toks:=s.toks }) :=
 .of_wp λprog w A R s h=>by
  obtain⟨hp,g,d,tk,os⟩:=s
  obtain⟨hl,hb,h⟩:=h
  have f1:=AutoSeq1.idx_int
  have f2:=AutoSeq1.sub_tuple_tuple
  have f3:=AutoSeq1.sub_list_list
  have f4:=AutoSeq1.sub_tuple_list
  have f5:=AutoSeq1.sub_list_tuple
  have hz':(xs++ys).size<=sizeLine+1:=by rw[Array.size_append];exact h2
  wp_walk using (wpAny_updateSeq hl rfl (hz:=h1) (_hz':=hz')),Pw hl,Pw hb
  exact⟨_,rfl,h⟩
section
variable{X:Cx}{E:XK}
noncomputable def vO(K:LU):V->List V->Hp->VK->Prop:=λx vs H Q=>∃l b xs zs,x=.ref l/\vs=[.ref b]/\H l=some (.lst xs)/\SqL K H b zs/\xs.length+zs.length<=sizeLine/\Q .non (upd H l (.lst (xs++zs)))
theorem qK:MtM X "list.extend" (vO X.K):=by
 intro pins s σ H x vs v us Q I rx rv h
 obtain⟨l,b,xs,zs,rfl,rfl,hH,hB,hz,q⟩:=h
 cases rx
 obtain⟨u,rfl,ru⟩:=rv.one
 cases ru
 obtain⟨z,its,n,r,hl,e⟩:=I.z4 hH
 obtain⟨jts,r2,p2,_⟩:=I.list hB
 obtain⟨⟨c2,d2,t2,l2⟩,n2,e2,hc2,hk2,hd2⟩:=id p2
 simp only at hc2 hd2 hk2
 subst hc2 hd2 hk2
 have k2:=r2.length
 have hsz:its.toArray.size+jts.toArray.size<=sizeLine:=by rw[LZ,LZ];omega
 have hlong:¬ (!its.toArray.isEmpty&&NK (its.toArray.size+jts.toArray.size))=true:=by
  rw[xn hsz,N5]
  exact Mt
 refine call_meets PB ⟨_,e,rfl⟩ PySem.F.entry_list_extend (PySem.F.args_list_extend_2 _ _)
  (mZ l its.toArray n b jts.toArray n2 _ _ hlong (by rw[LZ];omega) (by omega)) ⟨e,e2,?_⟩
 refine⟨.non,_,I.Bv (its':=its++jts) hH e (by simp) (r.append r2) ?_,rfl,q⟩
 rw[Ma]
 omega
noncomputable def eS(i:Nat)(m:Mi Rr):Mi Rr:=ay m λr ρ=>match aV r ρ with
 | some (.lst zs,ρ1)=>match aH ρ1 i with
  | some (.lst xs)=>if xs.length+zs.length<=100000 then some (.ok (.fr .non),setAt ρ1 i (.lst (xs++zs))) else none
  | _=>none
 | _=>none
theorem uu{cpos:Pos}(hN:X.N[i]?=some x)(hv:Vis X.env.scope x)(hd:NDb x)(hcd:NCd x)(he:JE X E e m)
  (hbase:attributeBase (.Name x px) "extend" X.env (eval (.Name x px) X.env)=eval (.Name x px) X.env:=by rfl)
  (hfew:((backTo cpos (starEach [e] X.env)).all (λx=>!x.1)&&(backToKw cpos (keywordEach [] X.env)).all (λx=>x.1.isSome)&&decide (([e]:List Expr).length+([]:List Keyword).length+(if ([]:List Keyword).isEmpty then 0 else 1)<30))=true:=by rfl)
  (hline:(apos.endLine==cpos.line)=true:=by rfl)(hs:starEach [e] X.env=(false,eval e X.env)::starEach [] X.env:=by rfl)(hplain:(backTo cpos (starEach [] X.env)).any (·.1)=false:=by rfl) :
  JE X E (.Call (.Attribute (.Name x px) "extend" apos) [e] [] cpos) (fj i (eS i m)) :=
 ⟨PE.weaken (vH NV PB PySem.F.type_list_extend qK (eY hN hv hd hcd) (br he.p dh hs) hbase hfew hline hs hplain) λσ H Q h=>by
  obtain⟨c,ρ,τ,θ,o,ρ',ek,b,em,q⟩:=h
  unfold fj at em
  split at em
  ·rename_i hl
   obtain⟨xs0,hl⟩:=j5 hl
   obtain⟨p,vs,hp,hH⟩:=gP b hl
   refine⟨_,hp,.inl ⟨rfl,vs,.inl (.inl hH)⟩,?_⟩
   refine ba ek b em (λr v ρ1 H1 hv b1 em1=>?_) (aY q)
   cases e1:aV r ρ1 with
   | none=>simp only[e1] at em1;cases em1
   | some pr =>
    obtain⟨a,ρ2⟩:=pr
    simp only[e1] at em1
    have b2:=Bd.aV (xs:=[]) (ss:=[]) rfl b1 hv e1
    cases a<;>first|(simp only at em1;cases em1;done)|skip
    rename_i zs
    simp only at em1
    cases e2:aH ρ2 i with
    | none=>simp only[e2] at em1;cases em1
    | some lo =>
     cases lo with
     | dic _=>simp only[e2] at em1;cases em1
     | obj _ _=>simp only[e2] at em1;cases em1
     | lst xs =>
      simp only[e2] at em1
      split at em1
      ·rename_i hx
       cases em1
       obtain⟨L,bl,ra⟩:=Bd.uw b2
       cases ra with
       | lst se sr =>
       rename_i pb us
       obtain⟨p',h1,h2,h3⟩:=bl.live e2 (.lst (xs++zs)) (.lst ((match H1 p with|some (.lst ws)=>ws|_=>[])++us))
       rw[hp] at h1;cases h1
       cases h2 with
       | lst e rr =>
        rename_i ws
        simp only[e] at h3
        have eK:c.K=X.K:=congrArg Kx.K ek
        have n1:=rr.len
        have n2:=sr.len
        refine⟨p,pb,ws,us,rfl,rfl,e,by rw[<- eK];exact kB (g_same _ _ _) se,by have:=mI;omega,q _ _ trivial (Bd.push (h3 λH' hh=>.lst hh (rr.app sr)) λ_=>.non)⟩
      ·cases em1
  ·cases em⟩
end
end M
namespace L2
open PySem
theorem Ir{X:Cx}{t:Expr}{a b:List Stmt}{pos:Pos}{tt:TT}{ta tb:TX}(ht:PT X.nox t tt)(ha:PXs X a ta)(hb:PXs X b tb):PX X (.If t a b pos) (λD E σ H=>tt σ H λk H1=>if k=true then ta D E σ H1 else tb D E σ H1):=by
 intro pins s σ H D E I h
 refine wpAny_If (wpAny_mono (ht pins s σ H _ (I.ig _) h) (λd s1 z=>?_) λ_ _ z=>z.elim)
 obtain⟨H1,I1,q1⟩:=TP.cO z
 cases d with
 | true=>exact ha pins s1 σ H1 D E I1 (by simpa using q1)
 | false=>exact hb pins s1 σ H1 D E I1 (by simpa using q1)
end L2
namespace M
open PySem L2
section
variable{X:Cx}{E:XK}
structure JXs (X:Cx) (st:List Stmt) (m:Ms):Prop where
 p:PXs X st (TXm (kx X) m)
theorem tq{st:Stmt}{m:Ms}(h:JX X st m):JXs X [st] m:=⟨rX h.p⟩
theorem JM{t:Expr}{a b:List Stmt}{pos:Pos}{mt:Mi Bool}{ma mb:Ms}(ht:JT X.nox E00 t mt)(ha:JXs X a ma)(hb:JXs X b mb):JX X (.If t a b pos) (sIf (aS mt) ma mb) :=
 ⟨PX.weaken (Ir ht.p ha.p hb.p) λD Ex σ H h=>by
  obtain⟨c,ρ,τ,θ,f,ρ',ek,b,em,q⟩:=h
  rcases bp em with ⟨k,ρ1,e1,e2⟩|⟨e,e1,e2⟩
  ·obtain⟨x,h1,h2⟩:=cu e1
   cases h1
   refine⟨c,ρ,τ,θ.map Sl.fr,.ok k,ρ1,ek,b,h2,λH1 b1=>?_⟩
   cases k with
   | true=>rw[if_pos rfl];exact⟨c,ρ1,τ,θ,f,ρ',ek,b1,e2,q⟩
   | false=>rw[if_neg (by decide)];exact⟨c,ρ1,τ,θ,f,ρ',ek,b1,e2,q⟩
  ·obtain⟨x,h1,_⟩:=cu e1
   cases h1⟩
end
end M
set_option maxHeartbeats 4000000
set_option maxHeartbeats 1000000
namespace M
open PySem L2
noncomputable def pvB:Option Sl->Bool
 | some (.pv _)=>true
 | _=>false
noncomputable def D8(i:Nat)(ρ0 ρ:List Sl):Bool:=(MD ρ.length).all λj=>j==i || !(pvB ρ[j]?) || pvB ρ0[j]?
noncomputable def KP(i:Nat)(ρ:List Sl):Option (List Sl):=match ρ[i]? with
 | some (.lv (.lst xs))=>some (ρ.set i (.pv (.lst xs)))
 | _=>none
noncomputable def DA(i:Nat)(ρ0 ρ:List Sl):Option (List Sl):=match ρ[i]? with
 | some (.pv o)=>if D8 i ρ0 ρ then some (ρ.set i (.lv o)) else none
 | _=>none
noncomputable def Ep(i:Nat)(bs:List A)(G:Mg)(b:Ms):Nat->Nat->Ms
 | 0,_,_=>none
 | n+1,j,ρ=>match ρ[i]? with
  | some (.pv (.lst xs))=>match xs[j]?,bs[j]? with
   | some a,some d=>match G (.tup [a,d]) ρ with
    | none=>none
    | some ρ1=>match b ρ1 with
     | some (.nx,ρ2)=>Ep i bs G b n (j+1) ρ2
     | some (.ct,ρ2)=>Ep i bs G b n (j+1) ρ2
     | some (.bk,ρ2)=>some (.nx,ρ2)
     | r=>r
   | _,_=>some (.nx,ρ)
  | _=>none
noncomputable def KN(i:Nat)(bs:List A)(G:Mg)(b:Ms)(ρ2:List Sl):Option (Fl×List Sl):=match KP i ρ2 with
 | some ρp=>match Ep i bs G b 100001 0 ρp with
  | some (f,ρ')=>match DA i ρ2 ρ' with
   | some ρ3=>some (f,ρ3)
   | none=>none
  | none=>none
 | none=>none
noncomputable def IS(i:Nat)(G:Mg)(b:Ms)(r:Rr)(ρ1:List Sl):Option (Fl×List Sl):=match aV r ρ1 with
 | some (.lst bs,ρ2)=>KN i bs G b ρ2
 | _=>none
end M
set_option maxHeartbeats 4000000
set_option maxHeartbeats 1000000
set_option maxHeartbeats 4000000
set_option maxHeartbeats 1000000
namespace M
open PySem L2
section
variable{X:Cx}{E:XK}
theorem range_all(rs:List Bool):(MD rs.length).all (λj=>rs.getD j true)=rs.all id:=by
 rw[OU,MK,MK]
 constructor
 ·intro h x hx
  obtain⟨j,hj,e⟩:=List.getElem_of_mem hx
  have:=h j (Oj.mpr hj)
  rw[M4,Mo hj,e] at this
  exact this
 ·intro h j hj
  have hj:=Oj.mp hj
  rw[M4,Mo hj]
  exact h _ (NQ hj)
variable{a b:Expr}{ma mb:Mi Rr}{pos:Pos}
end
end M
set_option maxHeartbeats 4000000
set_option maxHeartbeats 1000000
namespace L2
open PySem PySem.Spec PyProof.Rows
variable{H:Hp}{s:Shared}{us:List Value}{vs:List V}
section
variable{X:Cx}{k:Nat}{f C:Addr}{fd:FuncData}{ps:List Str}{sp:Sp}{dvs:List V}{ds:List Value}{E:XK}{x m:Str}{p pos apos:Pos}{e o:Expr}{es:List Expr}{ta:TE}{t:TA}
theorem uk{pins:List (Addr×Obj)}{σ:St}{Q:VK}(M:Mk X.K C f)(F:bW X.prog X.w X.K X.mg X.base (CXE X.prog X.w) k f fd ps sp)(hr:bz (k+1) X.A)(hb:Binds X.K fd ps ds)(hd:Vals dvs ds)
  (I:Inv X pins σ H s)(r:Vals vs us)
  (h:∀x dx,H x=none->H dx=none->dx≠x->sp (.ref x::(vs++dvs)) (upd (upd H dx (.own x)) x (.ins C dx [])) (λv H2=>v=.non/\Q (.ref x) H2) E) :
  wpAny (model X.prog X.w) X.A (call (.ref C) us) (EP X pins σ Q) (XP X pins λc σ' H'=>σ'=σ/\E c none H') s:=by
 have hq:=h (s.heap.objs.size+1) s.heap.objs.size (I.hok.fresh (Od _)) (I.hok.fresh (Md _)) (My (NR _))
 have I2:=Inv.made (C:=C) I
 have r2:Vals (V.ref (s.heap.objs.size+1)::(vs++dvs)) (ME (s.heap.objs.size+1)::(us++ds)):=.cons rfl (r.append hd)
 have hl:(ME (s.heap.objs.size+1)::us++ds).length=ps.length:=by
  have e:=r2.length
  rw[F.len _ _ _ _ hq] at e
  exact e.symm
 refine wpAny_call (oX (f:=f) I.kIn M.makes M.init (beq_iff_eq.mp M.fn) (codeAny_mono (F.run _ X.stack _ _ ⟨ME (s.heap.objs.size+1)::us,[]⟩ (ME (s.heap.objs.size+1)::(us++ds)) _ _ E (hr.make C us [])
  (I2.wb.make C us []) (hb _ (ME (s.heap.objs.size+1)::us) I2.kIn hl) r2 hq) λr s' hq'=>?_))
 cases r with
 | error e =>
  obtain⟨a,C',H',rfl,fl,q⟩:=hq'
  exact⟨a,C',σ,_,_,H',rfl,I2,fl,rfl,q⟩
 | ok fl =>
  cases fl with
  | ret u =>
   obtain⟨v,H',I3,rv,ev,q3⟩:=I2.after hq'
   subst ev
   exact⟨rv,⟨V.ref (s.heap.objs.size+1),H',I3,rfl,q3⟩⟩
  | next=>exact MN hq'
  | brk=>exact MN hq'
  | cont=>exact MN hq'
theorem vD(M:Mk X.K C f)(F:bW X.prog X.w X.K X.mg X.base (CXE X.prog X.w) k f fd ps sp)(hr:bz (k+1) X.A)(hg:Gl X x)(hm:X.mg x=some (.ref C))(hb:Binds X.K fd ps ds)(hd:Vals dvs ds)
  (ha:PA X.nox (e::es) t)(hdb:NDb x)(he:starEach (e::es) X.env=(false,eval e X.env)::starEach es X.env)(hpl:(backTo pos (starEach es X.env)).any (·.1)=false) :
  PXE X (.Call (.Name x p) (e::es) [] pos) (λσ H Q E=>yg C sp dvs E t σ H Q):=by
 intro pins s σ H Q E I h
 refine wpAny_Call_Name_kw (eP I hg hm ?_ hdb)
 refine Nh (h₀:=X.base) I.ok.mod.kin M.kp (wpAny_mono (ha pos pins s σ H _ (I.ig _) h) (λus s1 z=>?_) (λ_ _ z=>z.elim)) he hpl
 obtain⟨vs,H1,I1,r,q⟩:=z
 exact⟨I1.cO.kIn,uk M F hr hb hd I1.cO r q⟩
theorem yZ{pl:Sem Bool}(he:PE X.nox o ta)(c:Cls X.K C)(hm:Meth X.K C m f)(F:bW X.prog X.w X.K X.mg X.base (CXE X.prog X.w) k f fd ps sp)(hr:bz k X.A)(hb:Binds X.K fd ps ds)(hd:Vals dvs ds)(ha:PA X.nox (e::es) t)
  (hst:starEach (e::es) X.env=(false,eval e X.env)::starEach es X.env)(hpl:(backTo pos (starEach es X.env)).any (·.1)=false)
  (ht:eval (.Call (.Attribute o m apos) (e::es) [] pos) X.env=(do
   let ov <- eval o X.env
   standAt apos.atName
   let (f,first) <- holding [ov] (getMethod ov m pl)
   callWith pos f first (backTo pos (starEach (e::es) X.env)) (backToKw pos (keywordEach [] X.env)))) :
  PXE X (.Call (.Attribute o m apos) (e::es) [] pos) (λσ H Q E=>sU C m sp dvs E ta t σ H Q):=by
 intro pins s σ H Q E I h
 refine N4 (pl:=pl) (wpAny_mono (he pins s σ H _ (I.ig _) h) (λu s1 z=>?_) (λ_ _ z=>z.elim)) ht
 obtain⟨x,H1,I1,rx,a,dx,fs,ex,ea,l,q⟩:=z
 subst ex
 obtain rfl:u=ME a:=rx
 refine fV I1.cO ea c hm l ?_
 refine Nh (first:=[.ref a]) (h₀:=X.base) I.ok.mod.kin hm.kp (wpAny_mono (ha pos pins s1 σ H1 _ I1 q) (λus s2 z=>?_) (λ_ _ z=>z.elim)) hst hpl
 obtain⟨vs,H2,I2,r,q2⟩:=z
 exact⟨I2.cO.kIn,sY (us:=.ref a::us) (vs:=.ref a::vs) F hr hb hd I2.cO (.cons rfl r) q2⟩
end
structure dH (k:Nat) (A:Around):Prop where
 dp:A.depth+3*k+5<recursionLimit
 un:A.units+16*k+200<cLine
variable{k:Nat}
theorem bz.h{A:Around}(r:bz k A):dH k A:=⟨r.dp,r.un⟩
theorem dH.mono{j:Nat}{A:Around}(r:dH k A)(h:j<=k):dH j A:=⟨by have:=r.dp;omega,by have:=r.un;omega⟩
theorem dH.deeper{k:Nat}{A:Around}(r:dH (k+1) A)(env:Env):dH k (A.deeper env) :=
 ⟨by have:=r.dp;show A.depth+1+3*k+5<_;omega,by have:=r.un;show A.units+3+16*k+200<_;omega⟩
theorem dH.depth{k:Nat}{A:Around}(r:dH k A):A.depth<recursionLimit:=by have:=r.dp;omega
structure FnH (P:Program) (w:World) (K:LU) (mg:Str->Option Value) (base:Heap) (CX:CXT) (k:Nat) (f:Addr) (fd:FuncData) (ps:List Str) (sp:Sp):Prop where
 len:∀vs H Q E,sp vs H Q E->vs.length=ps.length
 run:∀(A:Around)(outer:List Env)(s:Shared)(H:Hp)(args:Args)(us:List Value)(vs:List V)(Q:VK)(E:XK),dH k A->kR P w K mg base A outer s H->BindsTo s fd args (ps.zip us)->Vals vs us->sp vs H Q E ->
  codeAny (model P w) A (.call (.ref f) args) (CR CX outer P w H s Q E) s
theorem FnH.mono{P:Program}{w:World}{K:LU}{mg:Str->Option Value}{base:Heap}{CX:CXT}{j k:Nat}{f:Addr}{fd:FuncData}{ps:List Str}{sp:Sp}(F:FnH P w K mg base CX j f fd ps sp)(h:j<=k) :
  FnH P w K mg base CX k f fd ps sp:=⟨F.len,λA outer s H args us vs Q E hr=>F.run A outer s H args us vs Q E (hr.mono h)⟩
noncomputable def cxH(CX:CXT)(P:Program)(w:World)(K:LU)(mg:Str->Option Value)(base:Heap)(N:List Str)(qual:Str)(scope:Scope)(f:Addr)(cd:Value)(A:Around)(outer:List Env)(s:Shared)(H:Hp)(E:XK):Cx :=
 { kS CX P w K mg base N qual scope f cd A outer s H E with calm:=false }
variable{CX:CXT}{P:Program}{w:World}{K:LU}{mg:Str->Option Value}{base:Heap}{N ps:List Str}{scope:Scope}{f:Addr}
theorem qe{qual:Str}{cd:Value}{A:Around}{outer:List Env}{s1:Shared}{E:XK}
  (S:eG N ps scope)(e0:kR P w K mg base A outer s H)(hl:vs.length=ps.length)(r:Vals vs us)
  (x:InCallC s s.heap.objs.size (bindL (envOfC qual scope s.heap.objs.size f cd).kindOf (ps.zip us) λ_=>none) (cellsFrom (s.heap.objs.size+1) scope.names []) (bindC (envOfC qual scope s.heap.objs.size f cd).kindOf (ps.zip us) λ_=>none) s1) :
  Inv (cxH CX P w K mg base N qual scope f cd A outer s H E) [] (start N vs) H s1:=by
 have e1:kR P w K mg base { A with handled:=none } outer s H:=⟨e0.frames,e0.mod,e0.bs,e0.bsz,e0.gu,e0.frf,e0.hok,e0.bare⟩
 have I:=lO (CX:=CX) (E:=E) S (A:={ A with handled:=none }) rfl e1 hl r x
 have k:=I.ok
 exact⟨⟨k.mod,k.kind,k.glob,k.blt,k.above,k.inj,k.has,k.cab,(λz=>nomatch z),P9 e0.frames,k.stk,k.exf,k.bs,k.bsz,k.noex,k.exfs,k.gu,k.frf⟩,I.os,I.bare,I.base,I.loc,I.cell,I.free,I.freeC,I.pin,I.hok,I.len⟩
theorem DD{name qual:Str}{params:Arguments}{body:List Stmt}{dV kV doc pm cdv ct oc:Value}{an od:Option Addr}
  {osl:Array (Option Value)}{sp:Sp}(lk:K.lookup f=some ⟨oc,od,.func (Nv name qual params body scope dV kV doc pm an cdv ct),osl⟩)(hcd:Of K cdv qual=true)(S:eG N ps scope)
  (len:∀vs H Q E,sp vs H Q E->vs.length=ps.length)
  (hbody:∀(A:Around)(outer:List Env)(s:Shared)(H:Hp)(vs:List V)(Q:VK)(E:XK),dH k (A.deeper (envOfC qual scope s.heap.objs.size f cdv))->sp vs H Q E ->
   ∃t,PSs (cxH CX P w K mg base N qual scope f cdv A outer s H E) body t/\t { nx:=λ_ H'=>Q .non H',rt:=Q } (start N vs) H) :
  FnH P w K mg base CX (k+1) f (Nv name qual params body scope dV kV doc pm an cdv ct) ps sp:=by
 refine⟨len,λA outer s H args us vs Q E hr e0 hb r hsp=>?_⟩
 have hl:=len _ _ _ _ hsp
 have KX:K.In s.heap:=e0.mod.kin.keeps λb o e=>(e0.bs b o e).1
 have lim:s.heap.NoLimit:=e0.mod.nolimit.keeps λb o e=>(e0.bs b o e).1
 have hkind:∀y∈ps.zip us,scope.names.lookup y.1=some .local\/(scope.names.lookup y.1=some .cell/\((cellsFrom (s.heap.objs.size+1) scope.names []).lookup y.1).isSome=true):=λ⟨n,v⟩ hy=>by
  rcases S.par n (OQ hy).1 with q|q
  ·exact .inl q
  ·exact .inr ⟨q,OE _ _ _ (.inl q)⟩
 refine codeAny_call_function hr.depth (KX _ _ lk) rfl S.co S.gen rfl (Qf KX hcd) (hb _ _ _ _ ?_)
 refine wpAny_newFunctionEnv_cells S.kind hkind λenv he s1 x=>?_
 subst he
 refine⟨lim.keeps x.toInCall.keep,codeAny_func ?_⟩
 obtain⟨t,ht,hq⟩:=hbody A outer s H vs Q E (hr.deeper _) hsp
 have I:Inv (cxH CX P w K mg base N qual scope f cdv A outer s H E) [] (start N vs) H s1:=qe S e0 hl r x
 refine wpAny_mono (ht [] s1 (start N vs) H _ I hq) (λfl s' hs=>?_) λe s' hs=>hs
 have fin:∀{σ':St}{H':Hp}{v:V}{u:Value},Inv (cxH CX P w K mg base N qual scope f cdv A outer s H E) [] σ' H' s'->RelV v u->Q v H'->CE outer P w H s Q u s' :=
  λ{σ' H' v u} J rv q=>⟨v,H',J.os,J.bare,J.base,J.hok,rv,q⟩
 cases fl with
 | ret u =>
  obtain⟨v,σ',H',J,rv,q⟩:=hs
  exact fin J rv q
 | next =>
  obtain⟨σ',H',J,q⟩:=hs
  exact fin (v:=V.non) (u:=NW) J rfl q
 | brk =>
  obtain⟨_,_,_,q⟩:=hs
  exact MN q
 | cont =>
  obtain⟨_,_,_,q⟩:=hs
  exact MN q
section
variable{X:Cx}{CX:CXT}{k:Nat}{f C:Addr}{fd:FuncData}{ps:List Str}{sp:Sp}{E:XK}{x m:Str}{p pos apos:Pos}{e o:Expr}{es:List Expr}{ta:TE}{t:TA}
theorem wx(F:FnH X.prog X.w X.K X.mg X.base CX k f fd ps sp)(hr:dH k X.A)(hg:Gl X x)(hm:X.mg x=some (.ref f))(hk:ML X.K (.ref f)=true)(hb:Binds X.K fd ps [])(hx:Passes CX X E)
  (ha:PA X (e::es) t)(hdb:NDb x)(he:starEach (e::es) X.env=(false,eval e X.env)::starEach es X.env)(hpl:(backTo pos (starEach es X.env)).any (·.1)=false) :
  PE X (.Call (.Name x p) (e::es) [] pos) (C7 sp [] E t):=by
 intro pins s σ H Q I h
 refine wpAny_Call_Name_kw (eP I hg hm ?_ hdb)
 refine Nh (h₀:=X.base) I.ok.mod.kin hk (thn (ha pos pins s σ H _ I h) λus s1 ⟨vs,H1,I1,r,q⟩=>⟨I1.kIn,?_⟩) he hpl
 have r2:Vals (vs++[]) (us++[]):=r.append .nil
 have hl:(us++[]).length=ps.length:=by rw[<- r2.length];exact F.len _ _ _ _ q
 refine wpAny_call (codeAny_mono (F.run X.A X.stack s1 H1 ⟨us,[]⟩ (us++[]) (vs++[]) Q E hr I1.wb (hb s1 us I1.kIn hl) r2 q) λr s' hq=>?_)
 cases r with
 | error e=>exact hx pins σ H1 s1 e s' I1 hq
 | ok fl =>
  cases fl with
  | ret u=>exact I1.after hq
  | next=>exact MN hq
  | brk=>exact MN hq
  | cont=>exact MN hq
end
end L2
namespace M
open PySem L2
variable{K:Kx}{σ:St}{H:Hp}
section
variable{X:Cx}{E:XK}
theorem rl{ma:Mi (List Rr)}{Q:List V->Hp->Prop}(E':XK)(h:TAm K E (aS ma) σ H Q):TAm K E' ma σ H Q:=by
 obtain⟨c,ρ,τ,θ,o,ρ',ek,b,em,q⟩:=h
 obtain⟨x,rfl,h2⟩:=cu em
 exact⟨c,ρ,τ,θ,_,ρ',ek,b,h2,q⟩
theorem zG{mo:Mi Rr}{Q:VK}(E':XK)(h:TEm K E (aS mo) σ H Q):TEm K E' mo σ H Q:=by
 obtain⟨c,ρ,τ,θ,o,ρ',ek,b,em,q⟩:=h
 obtain⟨x,rfl,h2⟩:=cu em
 exact⟨c,ρ,τ,θ,_,ρ',ek,b,h2,q⟩
theorem rD{m:Mi Rr}{D:Ends}{Ex:XS}(h:TXm K (aP m) D Ex σ H):TEm K (λc _ H1=>Ex c σ H1) m σ H (λ_ H1=>D.nx σ H1):=by
 obtain⟨c,ρ,τ,θ,f,ρ',ek,b,em,q⟩:=h
 rcases bp em with ⟨r,ρ1,e1,e2⟩|⟨e,e1,e2⟩
 ·cases e2
  exact⟨c,ρ,τ,_,_,_,ek,b,e1,λv H' hv b1=>q σ H' b1.drop⟩
 ·subst e2
  exact⟨c,ρ,τ,_,_,_,ek,b,e1,λC H' hm b1=>q C σ H' hm b1⟩
variable{k n:Nat}{f C:Addr}{fd:FuncData}{ps:List Str}{m:Ms}{ds:List Value}{dvs:List V}{das:List A}{x cn mn:Str}{p pos cpos apos:Pos}{e o:Expr}{es:List Expr}{mo:Mi Rr}{ma:Mi (List Rr)}
theorem zQ(hM:Mk X.K C f)(F:bW X.prog X.w X.K X.mg X.base (CXE X.prog X.w) k f fd ps (SpM (kx X) n m))(hr:bz (k+1) X.A)(hg:Gl X x)(hC:X.mg x=some (.ref C))(hb:Binds X.K fd ps ds)(hd:Vals dvs ds)(hda:∀G,RAs (kx X) G dvs das)
  (ha:JA X.nox E00 (e::es) ma)(hn:∀ρ rs ρ',ma ρ=some (.ok rs,ρ')->rs.length+1+das.length=n)(hdb:NDb x)(hs:swapsWith (.Call (.Name x p) (e::es) [] cpos) none pos.line X.env=pure false)
  (he:starEach (e::es) X.env=(false,eval e X.env)::starEach es X.env)(hpl:(backTo cpos (starEach es X.env)).any (·.1)=false) :
  JX X (.Expr (.Call (.Name x p) (e::es) [] cpos) pos) (aP (cI x m das (aS ma))) :=
 ⟨PX.weaken (mw (vD hM F hr hg hC hb hd ha.p hdb he hpl) hs) λD Ex σ H h =>
  rl _ (lC (X:=X) hda hC (λρ rs ρ' q=>by obtain⟨y,z,q2⟩:=cu q;cases z;exact hn ρ _ ρ' q2) σ H _ (rD h))⟩
theorem A8(hC:X.mg cn=some (.ref C))(hc:Cls X.K C)(hm:Meth X.K C mn f)(F:bW X.prog X.w X.K X.mg X.base (CXE X.prog X.w) k f fd ps (SpM (kx X) n m))(hr:bz k X.A)(hb:Binds X.K fd ps ds)(hd:Vals dvs ds)(hda:∀G,RAs (kx X) G dvs das)
  (ho:JE X.nox E00 o mo)(ha:JA X.nox E00 (e::es) ma)(hn:∀ρ rs ρ',ma ρ=some (.ok rs,ρ')->rs.length+1+das.length=n)(hbase:attributeBase o mn X.env (eval o X.env)=eval o X.env)
  (hfew:methodCallForm ((e::es).length+([]:List Keyword).length) (backTo cpos (starEach (e::es) X.env)) (backToKw cpos (keywordEach [] X.env))=true)(hline:(apos.endLine==cpos.line)=true)
  (hs:swapsWith (.Call (.Attribute o mn apos) (e::es) [] cpos) none pos.line X.env=pure false)
  (hst:starEach (e::es) X.env=(false,eval e X.env)::starEach es X.env)(hpl:(backTo cpos (starEach es X.env)).any (·.1)=false) :
  JX X (.Expr (.Call (.Attribute o mn apos) (e::es) [] cpos) pos) (aP (ai m das (aa (bc cn mn (aS mo)) (aS ma)))) :=
 ⟨PX.weaken (mw (yZ ho.p hc hm F hr hb hd ha.p hst hpl (jt hbase hfew hline)) hs) λD Ex σ H h=>by
  have h1:=jc (X:=X) (C:=C) (n:=n) hda hC (λρ rs ρ' q=>by obtain⟨y,z,q2⟩:=cu q;cases z;exact hn ρ _ ρ' q2) σ H _ (rD h)
  exact TEm.mono (zG _ h1) λv H1 ⟨a,dx,fs,g1,g2,g3,g4⟩=>⟨a,dx,fs,g1,g2,g3,rl _ g4⟩⟩
theorem yW(F:FnH X.prog X.w X.K X.mg X.base (CXE X.prog X.w) k f fd ps (SpM (kx X) n m))(hr:dH k X.A)(hg:Gl X x)(hm:X.mg x=some (.ref f))(hk:ML X.K (.ref f)=true)(hb:Binds X.K fd ps [])
  (ha:JA X E (e::es) ma)(hn:∀ρ rs ρ',ma ρ=some (.ok rs,ρ')->rs.length+0=n)(hdb:NDb x)(he:starEach (e::es) X.env=(false,eval e X.env)::starEach es X.env)(hpl:(backTo pos (starEach es X.env)).any (·.1)=false) :
  JE X E (.Call (.Name x p) (e::es) [] pos) (aS (ai m [] (aS ma))) :=
 ⟨PE.weaken (wx (E:=E00) F hr hg hm hk hb m5 ha.p hdb he hpl) λσ H Q h=>by
  obtain⟨c,ρ,τ,θ,o,ρ',ek,b,em,q⟩:=h
  obtain⟨r,rfl,e2⟩:=cu em
  have:=eu (X:=X) (Q:=Q) (E':=E00) hn ek b e2 (λr' hr' v H' hv b1=>by cases hr';exact q v H' hv b1) (λx hx=>by cases hx)
  obtain⟨c1,ρ1,τ1,θ1,o1,ρ1',ek1,b1,em1,q1⟩:=this
  refine⟨c1,ρ1,τ1,θ1,o1,ρ1',ek1,b1,em1,?_⟩
  cases o1 with
  | ok rs=>exact q1
  | error y=>exact λC H' h1 h2=>(q1 C H' h1 h2).elim⟩
theorem BV{P:Program}{w:World}{K:LU}{mg:Str->Option Value}{base:Heap}{dV:Value}{x qual:Str}{st:Stmt}{f:Addr}{fd:FuncData}{N ps:List Str}{k:Nat}{m:Ms}(F:j1 K x qual st f fd dV)(S:eG N ps (aE st))
  (hb:∀(cdv:Value)(A:Around)(outer:List Env)(s:Shared)(H:Hp)(E:XK),dH k (A.deeper (OH qual (aE st) s.heap.objs.size f cdv)) ->
   JSs (cxH (CXE P w) P w K mg base N qual (aE st) f cdv A outer s H E) E (bB st) m):FnH P w K mg base (CXE P w) (k+1) f fd ps (SpM ⟨K,mg⟩ ps.length (bt (N.length-ps.length) m)):=by
 have key:∀(cdv:Value)(A:Around)(outer:List Env)(s:Shared)(H:Hp)(vs:List V)(Q:VK)(E:XK),dH k (A.deeper (OH qual (aE st) s.heap.objs.size f cdv))->SpM ⟨K,mg⟩ ps.length (bt (N.length-ps.length) m) vs H Q E->∃t,PSs (cxH (CXE P w) P w K mg base N qual (aE st) f cdv A outer s H E) (bB st) t/\t { nx:=λ_ H'=>Q .non H',rt:=Q } (start N vs) H:=λcdv A outer s H vs Q E hr h=>by
  obtain⟨hn,c,ρ,f,ρ',ek,e0,e1,b,em,q⟩:=h
  refine⟨_,(hb cdv A outer s H E hr).p,?_⟩
  have bs:=b.start N e0
  rw[hn] at bs
  unfold bt at em
  cases e:m (ρ++Mn (N.length-ps.length) .un) with
  | none=>simp only[e] at em;cases em
  | some p =>
   obtain⟨f1,ρ1⟩:=p
   simp only[e] at em
   refine⟨c,_,[],[],f1,ρ1,ek,bs,e,?_⟩
   have bk:∀{σ':St}{H':Hp}{τ':St}{θ':List Sl},Bd c σ' H' ρ1 τ' θ'->Bd c (vs.map some) H' (a8 vs.length ρ1) τ' θ':=λb'=>by
    have:=b'.back
    rw[e0,LY] at this
    exact this
   cases f1 with
   | nx =>
    cases em
    exact λσ' H' b'=>q .non H' (λo z=>by cases z) ((bk b').push λ_=>.non)
   | rt s=>cases em;exact λv σ' H' hs b'=>q v H' hs (bk b')
   | ex x=>cases em;exact λC σ' H' hm b'=>q C H' hm (bk b')
   | bk=>cases em
   | ct=>cases em
 obtain⟨oc,od,kV,doc,pm,an,cdv,ct,osl,rfl,lk,hcd⟩:=F.ex
 exact DD lk hcd S (λvs H Q E h=>h.1) λA outer s H vs Q E hr hsp=>key cdv A outer s H vs Q E hr hsp
end
end M
namespace L2
open PySem PySem.Spec PyProof.Rows
structure gm (fv:Value) (P:Program) (w:World) (outer:List Env) (H:Hp) (s:Shared) (a C:Addr) (H':Hp) (s':Shared):Prop where
 os:s'.os=s.os
 bare:AllBare s'.gens
 un:Un (frs outer) [] H H' s.heap s'.heap
 hok:HOk P w H' s'.heap
 new:s.heap.get? a=none
 free:H' a=none
 fl:∃(base:Heap) (a0:Value),(base.StaysIn s'.heap/\base.get? a=none/\s'.heap.FunFrames base outer/\s'.heap.TracedAtW base a (.ref C) a0 fv) /\
  ∀b o,s'.heap.get? b=some o->(H' b≠none\/((∃ob,s.heap.get? b=some ob)/\b∉frs outer))->base.get? b=some o
variable{base h':Heap}{env:Env}{Q:Unit->Shared->Prop}
section
variable{M:Model}{A:Around}{E:Value->Shared->Prop}{P:Program}{w:World}{l outer:List Env}{H Hc H':Hp}{s sc s':Shared}{a C L:Addr}{fv gv:Value}
theorem Fly.v(x:Fly P w l Hc sc a C H' s'):gm .none P w l Hc sc a C H' s':=⟨x.os,x.bare,x.un,x.hok,x.new,x.free,x.fl⟩
theorem gm.jn{a0:Value}(x:gm fv P w l Hc sc a C H' s')(ff:s'.heap.FunFrames base l)(hb:∀b o,s'.heap.get? b=some o->(H' b≠none\/((∃ob,sc.heap.get? b=some ob)/\b∉frs l))->base.get? b=some o)
  (fl':base.StaysIn h'/\base.get? a=none/\h'.FunFrames base l/\h'.TracedAtW base a (.ref C) a0 gv)(up:s'.heap.UpToSlots h'):gm gv P w l Hc sc a C H' { s' with heap:=h' }:=by
 have fdata:∀b o,b∈frs l->s'.heap.get? b=some o->∀vs,o.data≠.fields vs:=λb o m e=>by
  obtain⟨_,o2,e2,nf⟩:=i8 ff m
  rw[e2] at e;cases e;exact nf
 refine⟨x.os,x.bare,⟨λb o e n nb nx=>?_,λb o e n mb nx=>?_,x.un.free,λb o e nx=>?_,x.un.tups,x.un.frzs,x.un.tbls⟩,gn x.hok (λb o e n=>hb b o e (.inl n)) fl'.1,x.new,x.free,base,a0,fl',λb o e r=>?_⟩
 ·exact fl'.1 b o (hb b o (x.un.keep b o e n nb nx) (.inr ⟨⟨o,e⟩,nb⟩))
 ·obtain⟨sl2,e2⟩:=x.un.slot b o e n mb nx
  obtain⟨sl3,e3⟩:=up b _ e2 (fdata b _ mb e2)
  exact⟨sl3,e3⟩
 ·obtain⟨o2,e2⟩:=x.un.there b o e nx
  by_cases mb:b∈frs l
  ·obtain⟨sl,e3⟩:=up b o2 e2 (fdata b o2 mb e2)
   exact⟨_,e3⟩
  ·exact⟨o2,fl'.1 b o2 (hb b o2 e2 (.inr ⟨⟨o,e⟩,mb⟩))⟩
 ·have e:h'.get? b=some o:=e
  have key:∀o2,base.get? b=some o2->base.get? b=some o:=λo2 e3=>by
   have:=fl'.1 b o2 e3
   rw[e] at this;cases this;exact e3
  rcases id r with q|⟨⟨ob,eb⟩,nb⟩
  ·cases z:H' b with
   | none=>exact absurd z q
   | some v =>
    obtain⟨o2,e2⟩:=(x.hok b v z).is
    exact key o2 (hb b o2 e2 r)
  ·obtain⟨o2,e2⟩:=x.un.there b ob eb (λz=>nomatch z)
   exact key o2 (hb b o2 e2 r)
theorem gm.note(hA:A.frames=some (env::outer))(hf:env.frame=some L)(x:gm .none P w (env::outer) Hc sc a C H' s')
  (q:∀s1,gm (rawInt L) P w (env::outer) Hc sc a C H' s1->Q () s1):wpAny M A (noteFrame (.ref a) env) Q E s':=by
 obtain⟨base,a0,fl,hb⟩:=x.fl
 exact wpAny_looks_onW hA hf (base:=base) (cls:=.ref C) (a0:=a0) fl λh1 held up=>q _ (x.jn fl.2.2.1 hb held up)
theorem gm.set(x:gm fv P w l Hc sc a C H' s')(q:∀s1,gm (rawInt L) P w l Hc sc a C H' s1->Q () s1):wpAny M A (setFlight (.ref a) (some L)) Q E s':=by
 obtain⟨base,a0,fl,hb⟩:=x.fl
 obtain⟨hkb,hen,hl,oe,vs,T,oT,ts,he,hcls,hd,h1,hnT,hTe,hT,hdT,h3⟩:=id fl
 have hsz3:3<ts.size:=(Array.getElem?_eq_some_iff.mp h3).1
 have other:∀b,b≠T->(s'.heap.update T (Obj.mapFields (·.setIfInBounds 3 ((some L).elim NW λf=>rawInt f)))).get? b=s'.heap.get? b:=λb hb=>Nz _ _ (M8 hb)
 have noRecord:∀b o,s'.heap.get? b=some o->(∀vs,o.data≠.fields vs)->b≠T:=λb o hb hnf q=>by
  rw[q,hT] at hb;injection hb with hb;subst hb;exact hnf ts hdT
 unfold setFlight
 refine wpAny_bind (wpAny_field he hd h1 ?_)
 rw[if_pos (show (ME T != NW)=true from by simp)]
 refine wpAny_setField hT hdT hsz3 (q _ (x.jn (a0:=a0) hl hb ⟨λb o hbo=>(other b λq=>by rw[q,hnT] at hbo;cases hbo).trans (hkb b o hbo),hen,
  hl.of_keeps λb o hb hnf=>⟨o,(other b (noRecord b o hb hnf)).trans hb,rfl⟩,?_⟩ λb o hb hnf=>⟨o.slots,(other b (noRecord b o hb hnf)).trans hb⟩))
 exact⟨oe,vs,T,_,_,(other a (M8 hTe)).trans he,hcls,hd,h1,hnT,hTe,N9 _ hT (Obj.isFreed_of_fields (QH hdT _)),QH hdT _,by simp[hsz3]⟩
theorem gm.let{D:Addr}{oc od:Obj}(x:gm fv P w l Hc sc a C H' s')(ec:sc.heap.get? D=some oc)(hn:Hc D=none)(nl:D∉frs l)(sb:NO D s'.heap h')(ed:h'.get? D=some od) :
  gm fv P w l Hc { sc with heap:=sc.heap.update D λ_=>od } a C H' { s' with heap:=h' }/\NO D sc.heap (sc.heap.update D λ_=>od):=by
 have nf:od.isFreed=false:=(Heap.get?_some_iff.mp ed).2
 have g1:(sc.heap.update D λ_=>od).get? D=some od:=N9 _ ec nf
 have g2:∀b,b≠D->(sc.heap.update D λ_=>od).get? b=sc.heap.get? b:=λb hb=>Nz _ _ (M8 hb)
 have nD:H' D=none:=x.un.free D oc ec hn (λz=>nomatch z)
 have aD:a≠D:=λz=>by have:=x.new;rw[z,ec] at this;cases this
 have fD:∀b∈frs l,b≠D:=λb hb z=>nl (z▸hb)
 have hD:∀b u,H' b=some u->b≠D:=λb u e z=>by rw[z,nD] at e;cases e
 obtain⟨base,a0,⟨hkb,hen,hl,oe,vs,T,oT,ts,he,hcls,hd,h1,hnT,hTe,hT,hdT,h3⟩,hb⟩:=x.fl
 obtain⟨o1,e1⟩:=x.un.there D oc ec (λz=>nomatch z)
 have bD:base.get? D=some o1:=hb D o1 e1 (.inr ⟨⟨oc,ec⟩,nl⟩)
 have TD:T≠D:=λz=>by rw[z,bD] at hnT;cases hnT
 have g3:(base.update D λ_=>od).get? D=some od:=N9 _ bD nf
 have g4:∀b,b≠D->(base.update D λ_=>od).get? b=base.get? b:=λb hb=>Nz _ _ (M8 hb)
 refine⟨⟨x.os,x.bare,⟨λb o e n nb nx=>?_,λb o e n mb nx=>?_,λb o e n nx=>?_,λb o e nx=>?_,x.un.tups,x.un.frzs,x.un.tbls⟩,λb u e=>?_,(g2 a aD).trans x.new,x.free,base.update D λ_=>od,a0,⟨λb o e=>?_,(g4 a aD).trans hen,?_,oe,vs,T,oT,ts,(sb.2 a aD).trans he,hcls,hd,h1,(g4 T TD).trans hnT,hTe,(sb.2 T TD).trans hT,hdT,h3⟩,λb o e r=>?_⟩,?_,g2⟩
 ·by_cases z:b=D
  ·subst z
   have e:(sc.heap.update b λ_=>od).get? b=some o:=e
   rw[g1] at e;cases e;exact ed
  ·exact(sb.2 b z).trans (x.un.keep b o ((g2 b z).symm.trans e) n nb nx)
 ·have z:=fD b mb
  obtain⟨sl,q⟩:=x.un.slot b o ((g2 b z).symm.trans e) n mb nx
  exact⟨sl,(sb.2 b z).trans q⟩
 ·by_cases z:b=D
  ·subst z;exact nD
  ·exact x.un.free b o ((g2 b z).symm.trans e) n nx
 ·by_cases z:b=D
  ·subst z;exact⟨od,ed⟩
  ·obtain⟨o2,q⟩:=x.un.there b o ((g2 b z).symm.trans e) nx
   exact⟨o2,(sb.2 b z).trans q⟩
 ·refine(x.hok b u e).jn (λc v hc q=>(sb.2 c ?_).trans q) (λ_ q=>q) λ_ _ q=>q
  rcases hc with z|z
  ·rw[z];exact hD b u e
  ·exact hD c _ z
 ·by_cases z:b=D
  ·subst z
   rw[g3] at e;cases e;exact ed
  ·exact(sb.2 b z).trans (hkb b o ((g4 b z).symm.trans e))
 ·have:∀{l:List Env},(∀b∈frs l,b≠D)->s'.heap.FunFrames base l->h'.FunFrames (base.update D λ_=>od) l:=by
   intro l
   induction l with
   | nil=>intro _ _;trivial
   | cons env rest ih =>
    intro hd hl
    obtain⟨hk,⟨L,o,hf,hn,ho,hdd⟩,hr⟩:=hl
    have ef:frs (env::rest)=L::frs rest:=by unfold frs;rw[M6,hf]
    have LD:L≠D:=hd L (by rw[ef];exact L8)
    exact⟨hk,⟨L,o,hf,(g4 L LD).trans hn,(sb.2 L LD).trans ho,hdd⟩,ih (λb hb=>hd b (by rw[ef];exact L6 _ hb)) hr⟩
  exact this fD hl
 ·by_cases z:b=D
  ·subst z
   have e:h'.get? b=some o:=e
   rw[ed] at e;cases e;exact g3
  ·refine(g4 b z).trans (hb b o ((sb.2 b z).symm.trans e) (r.imp id λ⟨⟨ob,q⟩,n⟩=>⟨⟨ob,(g2 b z).symm.trans q⟩,n⟩))
 ·show (sc.heap.update D λ_=>od).objs.size=_
  simp[Heap.update]
theorem qS
  (hf:env.frame=some L)(hL:s.heap.get? L=none)(fF:∀b∈frs outer,H b=none)(fT:∀b∈frs outer,∃o,s.heap.get? b=some o)
  (u:Un (frs outer) [] H Hc s.heap sc.heap)(ho:sc.os=s.os)(x:gm (rawInt L) P w (env::outer) Hc sc a C H' s')
  (q:∀s'',Fly P w outer H s a C H' s''->Q () s''):wpAny M A (leaving env (.ref a)) Q E s':=by
 obtain⟨base,a0,fl,hb⟩:=x.fl
 have ef:frs (env::outer)=L::frs outer:=by unfold frs;rw[M6,hf]
 unfold leaving
 refine wpAny_bind (wpAny_noteFrame_againW (base:=base) (cls:=.ref C) (a0:=a0) hf fl.2.2.2 ?_)
 refine wpAny_landsW (base:=base) (l:=env::outer) (L:=L) (cls:=.ref C) (a0:=a0) fl λh' fl1 up=>q _ ?_
 have fl':Pg base outer a (.ref C) a0 h':=⟨fl1.1,fl1.2.1,fl1.2.2.1.2.2,fl1.2.2.2⟩
 have old:∀b ob,s.heap.get? b=some ob->b≠L:=λb ob e z=>by rw[z,hL] at e;cases e
 have inb:∀b ob o,s.heap.get? b=some ob->b∉frs outer->s'.heap.get? b=some o->base.get? b=some o:=λb ob o e n e'=>by
  obtain⟨oc,ec⟩:=u.there b ob e (λz=>nomatch z)
  refine hb b o e' (.inr ⟨⟨oc,ec⟩,?_⟩)
  rw[ef]
  exact λz=>(Ml.mp z).elim (old b ob e) n
 have fdata:∀b o,b∈frs outer->s'.heap.get? b=some o->∀vs,o.data≠.fields vs:=λb o m e=>by
  obtain⟨_,o2,e2,nf⟩:=i8 fl.2.2.1 (show b∈frs (env::outer) by rw[ef];exact L6 _ m)
  rw[e2] at e;cases e;exact nf
 refine⟨x.os.trans ho,x.bare,⟨λb o e n nb nx=>?_,λb o e n mb nx=>?_,λb o e n nx=>?_,λb o e nx=>?_,λb xs e=>x.un.tups b xs (u.tups b xs e),λb o v e=>x.un.frzs b o v (u.frzs b o v e),λb ps e=>?_⟩,gn x.hok (λb o e n=>hb b o e (.inl n)) fl'.1,?_,x.free,base,a0,fl',λb o e r=>?_⟩
 ·have e1:=x.un.keep b o (u.keep b o e n nb nx) (u.free b o e n nx) (by rw[ef];exact λz=>(Ml.mp z).elim (old b o e) nb) nx
  exact fl'.1 b o (inb b o o e nb e1)
 ·obtain⟨sl,e1⟩:=u.slot b o e n mb nx
  obtain⟨sl2,e2⟩:=x.un.slot b _ e1 (u.free b o e n nx) (by rw[ef];exact L6 _ mb) nx
  obtain⟨sl3,e3⟩:=up b _ e2 (fdata b _ mb e2)
  exact⟨sl3,e3⟩
 ·obtain⟨oc,ec⟩:=u.there b o e nx
  exact x.un.free b oc ec (u.free b o e n nx) nx
 ·obtain⟨oc,ec⟩:=u.there b o e nx
  obtain⟨o2,e2⟩:=x.un.there b oc ec nx
  by_cases mb:b∈frs outer
  ·obtain⟨sl,e3⟩:=up b o2 e2 (fdata b o2 mb e2)
   exact⟨_,e3⟩
  ·exact⟨o2,fl'.1 b o2 (inb b o o2 e mb e2)⟩
 ·obtain⟨m1,e1⟩:=u.tbls b ps e
  obtain⟨m2,e2⟩:=x.un.tbls b _ e1
  exact⟨m1++m2,by rw[e2,O5]⟩
 ·cases z:s.heap.get? a with
  | none=>rfl
  | some oa =>
   obtain⟨o1,e1⟩:=u.there a oa z (λz=>nomatch z)
   rw[x.new] at e1;cases e1
 ·have e:h'.get? b=some o:=e
  have key:∀o2,s'.heap.get? b=some o2->base.get? b=some o2->base.get? b=some o:=λo2 e2 e3=>by
   have:=fl'.1 b o2 e3
   rw[e] at this;cases this;exact e3
  rcases r with r|⟨⟨ob,eb⟩,nb⟩
  ·cases z:H' b with
   | none=>exact absurd z r
   | some v =>
    obtain⟨o2,e2⟩:=(x.hok b v z).is
    exact key o2 e2 (hb b o2 e2 (.inl r))
  ·obtain⟨oc,ec⟩:=u.there b ob eb (λz=>nomatch z)
   obtain⟨o2,e2⟩:=x.un.there b oc ec (λz=>nomatch z)
   exact key o2 e2 (inb b ob o2 eb nb e2)
end
def i6(X:Cx)(E:XK):Prop:=∀(pins:List (Addr×Obj))(σ:St)(H:Hp)(s:Shared)(a C L:Addr)(H':Hp)(s':Shared),X.env.frame=some L->Inv X pins σ H s->gm (rawInt L) X.prog X.w X.stack H s a C H' s'->E (.ref C) none H'->X.xe (.ref a) s'
variable{N:List Str}{scope:Scope}{s:Shared}{H:Hp}{E:XK}
theorem wI{P:Program}{w:World}{K:LU}{mg:Str->Option Value}{qual:Str}{f:Addr}{cd:Value}{A:Around}{outer:List Env} :
  i6 (kS (CXE P w) P w K mg base N qual scope f cd A outer s H E) E:=by
 intro pins σ Hc sc a C L H' s' hL I x q
 obtain rfl:(envOfC qual scope s.heap.objs.size f cd).locals=L:=Mc hL
 exact qS (env:=envOfC qual scope s.heap.objs.size f cd) rfl I.qD I.ok.frf (λb hb=>let ⟨_,o,ho,_⟩:=I.ok.gu.mem hb;⟨o,ho⟩) I.base I.os x λs'' fl'=>⟨a,C,H',rfl,fl',q⟩
variable{pos:Pos}{acc:Value}
section
variable{prog:Program}{w:World}{A:Around}{R:Result->Shared->Prop}{s:Shared}
theorem kX{elt target iter:Expr}{ifs:List Expr}{it:Value}{E₁:Value->Shared->Prop}(I:Nat->Shared->Prop)
  (hE:∀e s',E₁ e s'->notedBy (model prog w) A env (λx s'=>R (.error x) s') e s')
  (turn:∀n s,I n s->wpAny (model prog w) A (pyNext it) (λr s₁=>match r with
   | none=>R (.ok .next) s₁
   | some v=>wpAny (model prog w) A (letOwnedTupleGo target it v) (λ_ s₁'=>wpAny (model prog w) A (assign target env v) (λ_ s₂ =>
     wpAny (model prog w) A (forIn ifs true λc r=>if r=true then do let ok <- isTrue c env (eval c env);pure (Nj ok) else pure (Nj r)) (λok s₃ =>
      if ok=true then wpAny (model prog w) A (eval elt env) (λx s₄ =>
       wpAny (model prog w) A (call (.builtin "list.append") [acc,x]) (λ_ s₅=>∃m,m<n/\I m s₅) E₁ s₄) E₁ s₃
      else ∃m,m<n/\I m s₃) E₁ s₂) E₁ s₁') E₁ s₁) E₁ s)
  (n:Nat) (h:I n s):codeAny (model prog w) A (.compLoop (.ListComp elt [⟨target,iter,ifs,0⟩] scope pos) 0 it acc env) R s:=by
 refine codeAny_loop rfl I (λn s hI=>?_) n h
 show wpAny _ A ((compTurn (.ListComp elt [⟨target,iter,ifs,0⟩] scope pos) 0 it acc env).onRaise (λx=>do noteFrame x env;theTreesLotGoes x)) _ _ s
 refine wpAny_noted ?_
 rw[compTurn_list]
 refine wpAny_bind (wpAny_standAt (wpAny_bind (wpAny_mono (turn n s hI) (λr s₁ h₁=>?_) hE)))
 cases r with
 | none=>exact wpAny_pure h₁
 | some v =>
  refine wpAny_bind (wpAny_mono h₁ (λ_ s₁' h₁'=>?_) hE)
  refine wpAny_bind (wpAny_mono h₁' (λ_ s₂ h₂=>wpAny_bind (wpAny_mono h₂ (λok s₃ h₃=>?_) hE)) hE)
  cases ok with
  | false=>exact wpAny_pure ⟨rfl,h₃⟩
  | true =>
   exact wpAny_bind (wpAny_bind (wpAny_mono h₃ (λx s₄ h₄=>wpAny_bind (wpAny_mono h₄ (λ_ s₅ h₅=>wpAny_pure (wpAny_pure ⟨rfl,h₅⟩)) hE)) hE))
end
noncomputable abbrev cxX(X:Cx)(N:List Str)(sc:Scope)(cl:List (Str×Addr))(C:Addr)(s:Shared)(H:Hp)(ex:List Addr)(E:XK):Cx :=
 (cxC X N sc cl C s H ex).ig λe s'=>∃(pins:List (Addr×Obj)) (σ:St) (Hc:Hp) (s1:Shared) (a C0:Addr) (H':Hp),e=.ref a/\Inv (cxC X N sc cl C s H ex) pins σ Hc s1/\Fly X.prog X.w X.stack Hc s1 a C0 H' s'/\E (.ref C0) none H'
variable{cl:List (Str×Addr)}
theorem JL{X:Cx}{sc:Scope}{C:Addr}{ex:List Addr}:Passes (CXE X.prog X.w) (cxX X N sc cl C s H ex E) E :=
 λpins σ H s e s' I ⟨a,C0,H',e1,fl,q⟩=>⟨pins,σ,H,s,a,C0,H',e1,I.cO,fl,q⟩
section
variable{X:Cx}{pins:List (Addr×Obj)}{σ:St}{H:Hp}{s:Shared}{N:List Str}{k:Nat}{sc:Scope}{cl:List (Str×Addr)}{C:Addr}{fp:List Addr}{J:It}{it:Addr}{tn:Nat->Heap->Prop}
 {tg elt iter:Expr} {ifs:List Expr} {pos:Pos} {g:TG} {tt:TT} {te:TE} {Q:VK} {E:Value->Shared->Prop} {E0:XK} {RR:Value->Env->Result->Shared->Prop}
theorem oA(hc:X.calm=true)(S:c9 X.N N k sc X.env.scope)(hcl1:∀x c,cl.lookup x=some c->X.env.cells.lookup x=some c)
  (hcl2:∀x,(x,Ny)∈sc.names->∃c,cl.lookup x=some c)(I:Inv X pins σ H s)(T:Turn X.prog X.w X.K tg J fp it tn)(st:tn 0 s.heap)(hf:∀b∈fp,il X pins H b)
  (B:pK J g tt te Q (σ++Mn k none) H)
  (hg:∀C,PG (cxX X N sc cl C s H fp E0) tg g)(ht:∀C,PF (cxX X N sc cl C s H fp E0) ifs tt)(he:∀C,PE (cxX X N sc cl C s H fp E0) elt te)
  (hRR:∀D C s' H' ys,Inv X pins σ (upd H' D (.lst ys)) s'->s.heap.objs.size<=C->upd H' D (.lst ys) C=none->(∃m,s'.heap.Ns C m)->Q (.ref D) (upd H' D (.lst ys))->RR (.ref D) (compEnvC sc cl C X.env) (.ok .next) s')
  (hRE:∀D C,s.heap.objs.size<=C->∀e s',(cxX X N sc cl C s H fp E0).xe e s'->notedBy (model X.prog X.w) X.A (compEnvC sc cl C X.env) (λx s'=>RR (.ref D) (compEnvC sc cl C X.env) (.error x) s') e s') :
  wpAny (model X.prog X.w) X.A (newList []) (λacc s₃=>wpAny (model X.prog X.w) X.A (newFunctionEnv sc X.env.globals cl [] X.env.qual none .none (some X.env)) (λcenv s₄ =>
   codeAny (model X.prog X.w) X.A (.compStart (.ListComp elt [⟨tg,iter,ifs,0⟩] sc pos) 0 (.ref it) acc { cenv with scope:=relabel sc X.env }) (RR acc { cenv with scope:=relabel sc X.env }) s₄) E s₃) E s:=by
 refine wpAny_newObj_type (wpAny_newFunctionEnv S.cell (by intro y hy;simp at hy) (λh₁ hns₁ hsb₁=>?_) S.kind)
 dsimp only at hns₁ hsb₁ ⊢
 generalize hH2:s.heap.push { cls:=.type "list",dict:=none,data:=.seq ([]:List Value).toArray }=H2 at hns₁ hsb₁ ⊢
 have hC:H2.objs.size=s.heap.objs.size+1:=by rw[<- hH2,OX]
 have hDC:s.heap.objs.size≠H2.objs.size:=by rw[hC];exact My (NR _)
 have hCle:s.heap.objs.size<=H2.objs.size:=by rw[hC];exact Od _
 have below:∀b,b<s.heap.objs.size->b≠H2.objs.size/\b≠s.heap.objs.size:=λb hb=>⟨by rw[hC];exact My (QJ hb),My hb⟩
 have old:∀b o,s.heap.get? b=some o->h₁.get? b=some o:=λb o e=>hsb₁.extBut b o (below b (Mf e)).1 (L9 _ (hH2▸L9 _ e))
 have hacc:h₁.PlainList s.heap.objs.size #[]:=⟨_,hsb₁.extBut _ _ hDC (L9 _ (hH2▸Mz _ rfl))⟩
 have hfp:∀b∈fp,b<s.heap.objs.size:=λb hb=>let ⟨o,e,_⟩:=T.obj 0 _ st b hb;Mf e
 have st1:tn 0 h₁:=T.keep _ _ _ st λb hb o e=>old b o e
 have I0:=Inv.ig (og (tk:=s.toks+([]:List (Str×Value)).length) I S hcl1 hcl2 hCle hf hfp old ⟨_,hns₁⟩) (cxX X N sc cl H2.objs.size s H fp E0).xe
 generalize H2.objs.size=C at hns₁ hsb₁ hC hDC hCle below I0 ⊢
 generalize hD:s.heap.objs.size=D at hC hDC hCle below hacc hfp ⊢
 have hDle:s.heap.objs.size<=D:=by rw[hD];exact Md _
 have fpok:∀{H':Hp}{o:Obj},(∀b∈fp,H' b=none)->∀b∈fp,il (cxX X N sc cl C s H fp E0) ((X.pn++pins)++[(D,o)]) H' b:=λ{H' o} hn b hb=>by
  obtain⟨f0,f1,f2,f3,f4,f5⟩:=hf b hb
  refine⟨hn b hb,(below b (hfp b hb)).1,λz=>?_,.inl hb,λx c e=>f4 x c (hcl1 _ _ e),λp hp=>?_⟩
  ·rcases Ml.mp (I.iu b z) with z|z
   ·exact f1 z
   ·exact f2 z
  ·have hp:p∈(X.pn++pins)++[(D,o)]:=hp
   rcases Me.mp hp with z|z
   ·exact f5 p z
   ·have:p=(D,o):=by simpa using z
    rw[this]
    exact M8 (below b (hfp b hb)).2
 have loop:∀s₃:Shared,s₃={ s with heap:=h₁,toks:=s.toks+([]:List (Str×Value)).length } ->
   codeAny (model X.prog X.w) X.A (.compLoop (.ListComp elt [⟨tg,iter,ifs,0⟩] sc pos) 0 (.ref it) (.ref D) (compEnvC sc cl C X.env)) (RR (.ref D) (compEnvC sc cl C X.env)) s₃:=by
  rintro s₃ rfl
  obtain⟨W,⟨m0,w0⟩,step⟩:=B
  refine kX (hE:=hRE D C (by rw[hD];exact hCle)) (λn s'=>∃i σ' H' ys its,Inv (cxX X N sc cl C s H fp E0) (X.pn++pins) σ' H' s'/\tn i s'.heap/\(∀b∈fp,H' b=none)/\H' D=none/\s'.heap.PlainList D (its:List Value).toArray/\Vals ys its/\W i n σ' ys H') ?_ m0
   ⟨0,_,H,[],[],I0,st1,λb hb=>(hf b hb).1,I.hok.fresh hDle,hacc,.nil,w0⟩
  rintro n s3 ⟨i,σ3,H3,ys,its,I3,st3,fr3,hD3,⟨nn,pl3⟩,rv3,w3⟩
  obtain⟨hl,cs⟩:=step i n σ3 ys H3 w3
  have pinD:∀{σ':St}{H':Hp}{s':Shared}{o:Obj},Inv (cxX X N sc cl C s H fp E0) (X.pn++pins) σ' H' s'->H' D=none->s'.heap.get? D=some o->(∀v,o.data≠.cell v)->Inv (cxX X N sc cl C s H fp E0) ((X.pn++pins)++[(D,o)]) σ' H' s':=λ{σ' H' s' o} I' hn e d =>
   I'.jN λp hp=>(Me.mp hp).elim (λz=>I'.pin p (LW _ z)) λz=>by
    have:p=(D,o):=by simpa using z
    subst this
    exact⟨e,hn,hDC,λz=>I.iA hDle z,d⟩
  have I3p:=pinD I3 hD3 pl3 λv z=>by cases z
  rcases cs with ⟨stop,q⟩|⟨go,NN,hN,nx⟩
  ·refine thn (T.done (cxX X N sc cl C s H fp E0) rfl rfl rfl hc i _ s3 σ3 H3 _ I3p (fpok fr3) st3 stop) λr s4 ⟨hr,I4⟩=>?_
   subst hr
   have d4:=I4.pin (D,_) (LW _ (LW _ (Mj.mpr rfl)))
   have I5:=ow I I4.bE.cO hDle d4.2.1 ⟨nn,d4.1⟩ rv3 hl hf
   refine hRR D C s4 H3 ys I5 (by rw[hD];exact hCle) ?_ (let ⟨m,hm,_⟩:=I4.loc;⟨m,hm⟩) (q D d4.2.1)
   rw[aC (M8 hDC)]
   exact I4.free
  ·refine thn (T.item (cxX X N sc cl C s H fp E0) rfl rfl rfl hc i _ s3 σ3 H3 _ I3p (fpok fr3) st3 go) λr s4 ⟨u,hr,h4⟩=>?_
   subst hr
   refine thn h4 λ_ s5 ⟨x,H5,I5,r5,y5,st5,fr5⟩=>?_
   have I5':=I5.pinned (fpok fr5) (T.obj _ _ st5)
   refine thn (hg C _ s5 σ3 H5 x u _ I5' r5 (nx x H5 y5)) λ_ s6 ⟨σ6,H6,I6,q6⟩=>?_
   refine thn (ht C _ s6 σ6 H6 _ I6 q6) λb s7 ⟨H7,I7,q7⟩=>?_
   have itK:∀{s8:Shared}{H8:Hp},Inv (cxX X N sc cl C s H fp E0) (((X.pn++pins)++[(D,({ cls:=.type "list",data:=.seq its.toArray nn }:Obj))])++jr fp s5.heap) σ6 H8 s8->tn (i+1) s8.heap/\∀b∈fp,H8 b=none:=λ{s8 H8} I8=>by
    refine⟨T.keep _ _ _ st5 λb hb o e=>(I8.pin (b,o) (LW _ (LW _ (dj hb e)))).1,λb hb=>?_⟩
    obtain⟨o,e,d⟩:=T.obj _ _ st5 b hb
    exact(I8.pin (b,o) (LW _ (LW _ (dj hb e)))).2.1
   cases b with
   | false =>
    have q7:NN σ6 ys H7:=by simpa using q7
    obtain⟨m',hm,w7⟩:=hN _ _ _ q7
    obtain⟨t7,f7⟩:=itK I7
    have d7:=I7.pin (D,_) (LW _ (Mm _ (LW _ (Mj.mpr rfl))))
    show ∃m,m<n/\_
    exact⟨m',hm,i+1,σ6,H7,ys,its,I7.bE.bE,t7,f7,d7.2.1,⟨nn,d7.1⟩,rv3,w7⟩
   | true =>
    have q7:te σ6 H7 λy H4=>NN σ6 (ys++[y]) H4:=by simpa using q7
    show wpAny _ _ _ _ _ _
    refine thn (he C _ s7 σ6 H7 _ I7 q7) λyv s8 ⟨y,H8,I8,r8,q8⟩=>?_
    obtain⟨m',hm,w9⟩:=hN _ _ _ q8
    obtain⟨t8,f8⟩:=itK I8
    have d8:=I8.pin (D,_) (LW _ (Mm _ (LW _ (Mj.mpr rfl))))
    refine wpAny_list_append_plain (hsz:=by rw[LZ,<- rv3.length];exact hl) ⟨nn,d8.1⟩ λh9 pl9 sb9=>?_
    have I9:Inv (cxX X N sc cl C s H fp E0) (X.pn++pins) σ6 H8 { s8 with heap:=h9 }:=I8.bE.bE.turned (t':=s8.toks) (it:=D) (λb o hb e=>(sb9.2 b hb).trans e) d8.2.1 hDC (.inr hDle) (λx c e z=>?_) (λp hp z=>?_)
    ·refine⟨m',hm,i+1,σ6,H8,ys++[y],its++[yv],I9,T.keep _ _ _ t8 λb hb o e=>(sb9.2 b (below b (hfp b hb)).2).trans e,f8,d8.2.1,?_,rv3.append (.cons r8 .nil),w9⟩
     rw[<- QF]
     exact pl9
    ·obtain⟨v,q⟩:=I.cell x c (hcl1 _ _ e)
     exact absurd (L4 q.lt (by rw[z];exact hDle)) (MM _)
    ·have hp:p∈X.pn++pins:=hp
     exact absurd (L4 (Mf (I.pin p hp).1) (by rw[z];exact hDle)) (MM _)
 exact codeAny_compStart_list (loop _ rfl) (T.self _ _ _ _ _ st1 (loop _ rfl))
end
noncomputable def jv(M:Model)(A:Around)(E:Value->Shared->Prop)(Q:Value->Shared->Prop)(acc:Value)(cenv:Env)(r:Result)(s':Shared):Prop :=
 ∃m,s'.heap.Ns cenv.locals m/\∀h' m',h'.Ns cenv.locals m'->NO cenv.locals s'.heap h'->match r with
  | .ok _=>Q acc { s' with heap:=h' }
  | .error x=>wpAny M A (passOn "comprehension.variables-let-go" x cenv:Sem Value) (λ_ _=>False) E { s' with heap:=h' }
theorem qy{M:Model}{A:Around}{E:Value->Shared->Prop}{e:Expr}{newAcc first:Sem Value}{g:Comprehension}{gs:List Comprehension}{Q:Value->Shared->Prop}
  (hcl:clausesOf e=g::gs)(hs:∀x,foldedSetIterable g.iter env x=pure x)(hclos:closureFor scope env=pure cl)(hkind:scope.kind=.function)(hnames:∀x∈scope.names,x.2=.local->scope.names.lookup x.1=some .local)
  (h:wpAny M A first (λx s₁=>wpAny M A (pyIter x) (λit s₂=>wpAny M A newAcc (λacc s₃=>wpAny M A (newFunctionEnv scope env.globals cl [] env.qual none .none (some env)) (λcenv s₄ =>
   codeAny M A (.compStart e 0 it acc { cenv with scope:=relabel scope env }) (jv M A E Q acc { cenv with scope:=relabel scope env }) s₄) E s₃) E s₂) E s₁) E s) :
  wpAny M A (comprehension e scope env pos newAcc false first none) Q E s:=by
 unfold comprehension
 rw[hclos,hcl]
 refine wpAny_bind (wpAny_mono h (λx s₁ h₁=>?_) λ_ _ z=>z)
 refine wpAny_bind (wpAny_standAt (wpAny_bind (wpAny_of_eq (hs x) (wpAny_bind (wpAny_holding (wpAny_mono h₁ (λit s₂ h₂=>?_) λ_ _ z=>z))))))
 refine wpAny_standIf (wpAny_bind (wpAny_mono h₂ (λacc s₃ h₃=>wpAny_bind (wpAny_pure (wpAny_bind (wpAny_mono h₃ (λcenv s₄ h₄=>?_) λ_ _ z=>z)))) λ_ _ z=>z))
 dsimp only
 have hv:∀x∈(scope.names.filter λx=>(x.2==.local || x.2==.cell)&&x.1 != (".0" : Str)).reverse,x.2=.local->Env.kindOf { cenv with scope:=relabel scope env } x.1=some .local :=
  λx hx hl=>lookup_relabel_local (hnames x (NX.mp (List.mem_reverse.mp hx)).1 hl)
 refine wpAny_holding (wpAny_bind (wpAny_attempt (wpAny_holding (wpAny_run (codeAny_mono h₄ λr s' hr=>?_)))))
 obtain⟨m,hn,hr⟩:=hr
 cases r with
 | ok f=>exact wpAny_bind (wpAny_holding (wpAny_comp_letGo (cenv:={ cenv with scope:=relabel scope env }) hkind _ s' m hv hn λh' m' hn' hs'=>wpAny_pure (hr h' m' hn' hs')))
 | error x=>exact wpAny_bind (wpAny_holding (wpAny_comp_letGo (cenv:={ cenv with scope:=relabel scope env }) hkind _ s' m hv hn λh' m' hn' hs'=>wpAny_mono (hr h' m' hn' hs') (λ_ _ f=>f.elim) λ_ _ y=>y))
variable{pins:List (Addr×Obj)}{σ:St}{s':Shared}
section
variable{X:Cx}{N:List Str}{k:Nat}{sc:Scope}{cl:List (Str×Addr)}{C:Addr}{tg elt iter:Expr}{ifs:List Expr}{pos:Pos}{g:TG}{tt:TT}{te:TE}{wi:TI}{E:XK}{fp:List Addr}
theorem vP{pins':List (Addr×Obj)}{σ':St}{H':Hp}(I:Inv X pins σ H s)(I':Inv (cxC X N sc cl C s H fp) pins' σ' H' s')(hf:∀b∈fp,il X pins H b):Inv X pins σ H' s' :=
 I.y4 I'.os I'.base I'.hok I'.bare (ch:=fp) λb hb=>by
  obtain⟨f0,f1,f2,f3,f4,f5⟩:=hf b hb
  exact⟨f3,f1,f4,f5⟩
theorem vB{e:Value}{Q:Value->Shared->Prop}(hst:X.stack=X.env::X.outer)(hfr:X.env.frame=some X.env.locals)(pv:i6 X E)(I:Inv X pins σ H s)(hf:∀b∈fp,il X pins H b)(hC:s.heap.objs.size<=C)
  (x:(cxX X N sc cl C s H fp E).xe e s'):notedBy (model X.prog X.w) X.A (compEnvC sc cl C X.env) (λx s'=>jv (model X.prog X.w) X.A X.xe Q acc (compEnvC sc cl C X.env) (.error x) s') e s':=by
 obtain⟨pins',σ',Hc,s1,a,C0,H',rfl,I1,fl,q⟩:=x
 have hA:X.A.frames=some (X.env::X.outer):=hst▸I.ok.frames
 have J:=vP I I1 hf
 obtain⟨m1,ns1,_⟩:=I1.loc
 have ns1:s1.heap.Ns C m1:=ns1
 obtain⟨oc,es1,ep1,ec,rest1⟩:=id ns1
 have hn:Hc C=none:=I1.free
 have nl:C∉frs X.stack:=I.iA hC
 have v0:gm .none X.prog X.w (X.env::X.outer) Hc s1 a C0 H' s':=hst▸fl.v
 show wpAny _ X.A (noteFrame (.ref a) X.env) _ _ s'
 refine v0.note hA hfr λs2 v2=>?_
 have v2:gm (rawInt X.env.locals) X.prog X.w X.stack Hc s1 a C0 H' s2:=hst▸v2
 have k2:s2.heap.get? C=some oc:=v2.un.keep C oc ec hn nl (λz=>nomatch z)
 refine⟨m1,⟨oc,es1,ep1,k2,rest1⟩,λh' m' hn' sb=>?_⟩
 obtain⟨od,_,_,ed,_⟩:=id hn'
 obtain⟨v3,sb3⟩:=v2.let ec hn nl sb ed
 have J3:Inv X pins σ Hc { s1 with heap:=s1.heap.update C λ_=>od }:=I.letGo J hC hn sb3
 obtain⟨base,a0,⟨_,_,_,oe,vs,T,oT,ts,he,hcls,hd,h1,_⟩,_⟩:=id v3.fl
 unfold PySem.passOn
 refine wpAny_bind (wpAny_field he hd h1 ?_)
 rw[if_neg (show ¬ ((ME T==NW)=true) from by simp)]
 show wpAny _ X.A (do setFlight (.ref a) X.env.frame;throw (.ref a)) _ _ _
 rw[hfr]
 refine wpAny_bind (v3.set λs4 v4=>?_)
 exact wpAny_throw (pv pins σ Hc _ a C0 _ H' s4 hfr J3 v4 q)
theorem vo(hc:X.calm=true)(hst:X.stack=X.env::X.outer)(hfr:X.env.frame=some X.env.locals)(pv:i6 X E)(S:c9 X.N N k sc X.env.scope)(hi:PI X tg iter wi)(hg:∀cl C s H fp,PG (cxX X N sc cl C s H fp E) tg g)(ht:∀cl C s H fp,PF (cxX X N sc cl C s H fp E) ifs tt)
  (he:∀cl C s H fp,PE (cxX X N sc cl C s H fp E) elt te)(hs:∀x,foldedSetIterable iter X.env x=pure x):PE X (.ListComp elt [⟨tg,iter,ifs,0⟩] sc pos) (om k wi g tt te):=by
 intro pins s σ H Q I h
 obtain⟨cl,hclos,h1,h2⟩:=ip I S
 rw[eval_ListComp]
 refine qy rfl hs hclos S.kind S.names (thn (hi pins s σ H _ I h) λv s1 q1=>thn q1 λitv s2 q2=>?_)
 obtain⟨it,fp,tn,J,H2,rfl,I2,T,st2,f2,B⟩:=q2
 refine oA (RR:=λacc cenv=>jv (model X.prog X.w) X.A X.xe (EP X pins σ Q) acc cenv) hc S h1 h2 I2 T st2 f2 B (λC=>hg cl C s2 H2 fp) (λC=>ht cl C s2 H2 fp) (λC=>he cl C s2 H2 fp) ?_ λD C hC e s' x=>vB hst hfr pv I2 f2 hC x
 intro D C s' H' ys I' hC hn hm q
 obtain⟨m,hm⟩:=hm
 exact⟨m,hm,λh' _ _ sb=>⟨.ref D,_,I2.letGo I' hC hn sb,rfl,q⟩⟩
end
end L2
namespace M
open PySem L2
noncomputable def dA(G:Mg)(t:Mi Bool)(e:Mi Rr):List A->List A->List Sl->Option (Except Str (List A)×List Sl)
 | [],acc,ρ=>some (.ok acc,ρ)
 | a::as,acc,ρ=>match G a ρ with
  | none=>none
  | some ρ1=>match t ρ1 with
   | some (.ok true,ρ2)=>match e ρ2 with
    | some (.ok r,ρ3)=>match aV r ρ3 with
     | some (d,ρ4)=>dA G t e as (acc++[d]) ρ4
     | none=>none
    | some (.error x,ρ3)=>some (.error x,ρ3)
    | none=>none
   | some (.ok false,ρ2)=>dA G t e as acc ρ2
   | _=>none
noncomputable def zL:Except Str (List A)->Except Str Rr
 | .ok ys=>.ok (.nw (.lst ys))
 | .error x=>.error x
noncomputable def gF(n:Nat)(mi:Mi (List A))(G:Mg)(t:Mi Bool)(e:Mi Rr):Mi Rr:=ay mi λas ρ=>if as.length<=100000 then match dA G t e as [] (ρ++Mn n .un) with
 | some (r,ρ')=>some (zL r,ρ'.take ρ.length)
 | none=>none else none
theorem Bd.vI{c:Cn}{σ:St}{H:Hp}{ρ:List Sl}{τ:St}{θ:List Sl}:∀{xs:St}{ss:List Sl},xs.length=ss.length->Bd c σ H ρ (xs++τ) (ss++θ)->Bd c σ H ρ τ θ
 | [],[],_,b=>b
 | x::xs,s::ss,e,b=>Bd.vI (xs:=xs) (ss:=ss) (by simpa using e) (Bd.pop b)
 | [],_::_,e,_=>by simp at e
 | _::_,[],e,_=>by simp at e
variable{G:Mg}{mt:Mi Bool}{me:Mi Rr}{lo:Nat}
section
variable{X:Cx}{E:XK}
theorem qH{n:Nat}{c:Cn}{σ τ τi:St}{H1:Hp}{ρ1 ρ2:List Sl}{θ:List Sl}{θi as:List A}{res:Except Str (List A)}{J:It}{Q:VK}(hlo:σ.length=lo)(ek:c.toKx=kx X)(li:τi.length=θi.length)
  (it:∀σ H ρ τx θx i,τx.length=θx.length->Bd c σ H ρ (τx++(τi++τ)) (θx++(θi.map Sl.fr++θ))->(as.length<=i->J.stop i H)/\∀a,as[i]?=some a->J.go i H/\∀x H',J.yld i H x H'->Bd c σ H' ρ (some x::(τx++(τi++τ))) (.fr a::(θx++(θi.map Sl.fr++θ))))
  (b1:Bd c σ H1 ρ1 (τi++τ) (θi.map Sl.fr++θ))(h100:as.length<=100000)(ec:dA G mt me as [] (ρ1++Mn n .un)=some (res,ρ2))(q:Ret (kx X) E c σ (ρ2.take ρ1.length) τ θ Q (zL res)) :
  pK J (TGm (kx X) lo G) (TTm (kx X) E00 mt) (TEm (kx X) E me) Q (σ++Mn n none) H1:=by
 have hlen:σ.length=ρ1.length:=b1.hG
 refine⟨λi m σ' vs H'=>m=as.length-i/\i<=as.length/\σ'.take lo=σ/\∃ρi acc,vs.length=acc.length/\acc.length<=i/\Bd c σ' H' ρi (vs.reverse.map some++(τi++τ)) (acc.reverse.map Sl.fr++(θi.map Sl.fr++θ))/\dA G mt me (as.drop i) acc ρi=some (res,ρ2),
  ⟨_,rfl,Nd _,by rw[<- hlo,Q5],_,[],rfl,Nd _,b1.Jz,by simpa using ec⟩,?_⟩
 rintro i m σ' vs H' ⟨rfl,hi,htk,ρi,acc,lv,la,bi,ei⟩
 refine⟨by have:=gr;omega,?_⟩
 obtain⟨i1,i2⟩:=it σ' H' ρi (vs.reverse.map some) (acc.reverse.map Sl.fr) i (by simp[lv]) bi
 by_cases hlt:i<as.length
 ·have hd:as.drop i=as[i]::as.drop (i+1):=Nm hlt
  rw[hd] at ei
  obtain⟨go,yl⟩:=i2 as[i] (by simp[hlt])
  refine .inr ⟨go,λσ2 vs2 H2=>σ2.take lo=σ/\∃ρ3 acc2,vs2.length=acc2.length/\acc2.length<=i+1/\Bd c σ2 H2 ρ3 (vs2.reverse.map some++(τi++τ)) (acc2.reverse.map Sl.fr++(θi.map Sl.fr++θ))/\dA G mt me (as.drop (i+1)) acc2 ρ3=some (res,ρ2),
   λσ2 vs2 H2 ⟨q0,ρ3,acc2,q1,q2,q3,q4⟩=>⟨as.length-(i+1),by omega,rfl,hlt,q0,ρ3,acc2,q1,q2,q3,q4⟩,λx H2 y=>?_⟩
  have b2:=yl x H2 y
  unfold dA at ei
  cases eg:G as[i] ρi with
  | none=>simp only[eg] at ei;cases ei
  | some ρ3 =>
   simp only[eg] at ei
   refine⟨c,ρi,_,_,as[i],ρ3,ek,b2,eg,λσ3 H3 t3 l3 b3=>?_⟩
   cases et:mt ρ3 with
   | none=>simp only[et] at ei;cases ei
   | some p =>
    obtain⟨ot,ρ4⟩:=p
    cases ot with
    | error e=>simp only[et] at ei;cases ei
    | ok k =>
     refine⟨c,ρ3,_,_,.ok k,ρ4,ek,b3,et,λH4 b4=>?_⟩
     cases k with
     | false =>
      simp only[et] at ei
      rw[if_neg (by decide)]
      exact⟨t3.trans htk,ρ4,acc,lv,by omega,b4,ei⟩
     | true =>
      simp only[et] at ei
      rw[if_pos rfl]
      cases ee:me ρ4 with
      | none=>simp only[ee] at ei;cases ei
      | some p =>
       obtain⟨oe,ρ5⟩:=p
       cases oe with
       | error e =>
        simp only[ee] at ei
        cases ei
        refine⟨c,ρ4,_,_,.error e,ρ2,ek,b4,ee,λC5 H5 hm b5=>q C5 H5 hm ?_⟩
        have b8:=Bd.vI (xs:=vs.reverse.map some++τi) (ss:=acc.reverse.map Sl.fr++θi.map Sl.fr) (by simp[lv,li]) (by simpa[L7] using b5)
        have es:σ3=σ++σ3.drop lo:=by rw[<- t3.trans htk];exact(MQ _ _).symm
        rw[es] at b8
        have b9:=b8.DW
        rw[hlen] at b9
        exact b9
       | ok r =>
        simp only[ee] at ei
        refine⟨c,ρ4,_,_,.ok r,ρ5,ek,b4,ee,λv H5 hv b5=>?_⟩
        cases ef:aV r ρ5 with
        | none=>simp only[ef] at ei;cases ei
        | some p =>
         obtain⟨d,ρ6⟩:=p
         simp only[ef] at ei
         have b6:=Bd.aV (xs:=[]) (ss:=[]) rfl b5 hv ef
         exact⟨t3.trans htk,ρ6,acc++[d],by simp[lv],by simp;omega,by simpa using b6,ei⟩
 ·have e:i=as.length:=by omega
  subst e
  rw[NP] at ei
  cases ei
  refine .inl ⟨i1 (Md _),λp hp=>?_⟩
  have b7:=Bd.qg bi (by simp[lv]) hp vs acc m7
  have b8:=Bd.mR (by simp[li]) b7
  have es:σ'=σ++σ'.drop lo:=by rw[<- htk];exact(MQ _ _).symm
  rw[es] at b8
  have b9:=b8.DW
  rw[hlen] at b9
  exact q _ _ trivial b9
theorem qU{n:Nat}{mi:Mi (List A)}(σ:St)(H:Hp)(Q:VK)(hlo:σ.length=lo)(h:TEm (kx X) E (gF n mi G mt me) σ H Q) :
  om n (TIm (kx X) E mi) (TGm (kx X) lo G) (TTm (kx X) E00 mt) (TEm (kx X) E me) σ H Q:=by
 obtain⟨c,ρ,τ,θ,o,ρ',ek,b,em,q⟩:=h
 rcases bind_some em with ⟨as,ρ1,e1,e2⟩|⟨e,e1,e2⟩
 ·refine⟨c,ρ,τ,θ,_,ρ1,ek,b,e1,λJ H1 τi θi li it b1=>?_⟩
  split at e2
  ·rename_i h100
   cases ec:dA G mt me as [] (ρ1++Mn n .un) with
   | none=>simp only[ec] at e2;cases e2
   | some p =>
    obtain⟨res,ρ2⟩:=p
    simp only[ec] at e2
    cases e2
    exact qH hlo ek li (λσ H ρ τx θx i l b=>it c σ H ρ τx θx τ θ i ek l b) b1 h100 ec q
  ·cases e2
 ·subst e2
  exact⟨c,ρ,τ,θ,_,ρ',ek,b,e1,λC H1 hm b1=>q C H1 hm b1⟩
theorem uT{N:List Str}{k:Nat}{sc:Scope}{tg elt iter:Expr}{ifs:List Expr}{pos:Pos}{mi:Mi (List A)}(hc:X.calm=true)(hst:X.stack=X.env::X.outer)(hfr:X.env.frame=some X.env.locals)(pv:i6 X E)(S:c9 X.N N k sc X.env.scope)(hlo:X.N.length=lo)(hi:JI X E tg iter mi)
  (hg:∀cl C s H fp,JG (cxX X N sc cl C s H fp E) lo tg G)(ht:∀cl C s H fp,JF (cxX X N sc cl C s H fp E) E00 ifs mt)(he:∀cl C s H fp,JE (cxX X N sc cl C s H fp E) E elt me)(hs:∀x,foldedSetIterable iter X.env x=pure x) :
  JE X E (.ListComp elt [⟨tg,iter,ifs,0⟩] sc pos) (gF k mi G mt me) :=
 ⟨λpins s σ H Q I h=>vo hc hst hfr pv S hi.p (λcl C s H fp=>(hg cl C s H fp).p) (λcl C s H fp=>(ht cl C s H fp).p) (λcl C s H fp=>(he cl C s H fp).p) hs pins s σ H Q I (qU σ H Q (I.len.trans hlo) h)⟩
end
open PySem L2 W
noncomputable def cw(f:Ms)(das:List A):List Rr->Mi Rr:=λrs ρ=>match cB (rs++das.map Rr.fr) ρ with
 | some (as,ρt)=>match f (as.map toP) with
  | some (.rt s,ρc)=>match jK s,putL ρ (rs++das.map Rr.fr) (a8 as.length ρc) ρt with
   | some r,some ρ'=>some (.ok r,ρ')
   | _,_=>none
  | some (.ex x,ρc)=>match putL ρ (rs++das.map Rr.fr) (a8 as.length ρc) ρt with
   | some ρ'=>some (.error x,ρ')
   | none=>none
  | _=>none
 | none=>none
def Val(f:Ms)(as:List A)(a:A):Prop:=∃ρ,f (as.map Sl.fr)=some (.rt (.fr a),ρ)
def hJ(f:Ms)(as:List A)(o:LO):Prop:=∃ρ,f (as.map Sl.fr)=some (.rt (.lv o),ρ)
def GY(f:Ms)(as:List A)(x:Str):Prop:=∃ρ,f (as.map Sl.fr)=some (.ex x,ρ)
def bM(f:Ms)(o:LO)(as:List A)(s:Sl)(o':LO):Prop:=∃ρ,f (.pv o::as.map Sl.fr)=some (.rt s,.pv o'::ρ)
theorem fB(as:List A)(ρ:List Sl):cB (as.map Rr.fr) ρ=some (as.map Sl.fr,ρ):=by
 induction as generalizing ρ with
 | nil=>rfl
 | cons a as ih=>simp only[L5,cB,take1,ih]
theorem jf(as:List A):(as.map Sl.fr).map toP=as.map Sl.fr:=by rw[M5];rfl
theorem fS(ρ0:List Sl):∀(as:List A)(ss:List Sl)(ρ:List Sl),as.length=ss.length->putL ρ0 (as.map Rr.fr) ss ρ=some ρ
 | [],[],ρ,_=>rfl
 | a::as,s::ss,ρ,h=>by rw[L5,putL,fS ρ0 as ss ρ (by simpa using h)];rfl
 | [],_::_,_,h=>by simp at h
 | _::_,[],_,h=>by simp at h
variable{f:Ms}
theorem aZ{as:List A}{a:A}(h:Val f as a)(ρ:List Sl):cw f [] (as.map Rr.fr) ρ=some (.ok (.fr a),ρ):=by
 obtain⟨ρc,h⟩:=h
 unfold cw
 rw[Mh,MB,fB]
 simp only[jf,h,jK]
 rw[fS _ _ _ _ (by rw[bu,LY])]
variable{o:LO}
theorem eE{as:List A}(h:hJ f as o)(ρ:List Sl):cw f [] (as.map Rr.fr) ρ=some (.ok (.nw o),ρ):=by
 obtain⟨ρc,h⟩:=h
 unfold cw
 rw[Mh,MB,fB]
 simp only[jf,h,jK]
 rw[fS _ _ _ _ (by rw[bu,LY])]
theorem mW{as:List A}{x:Str}(h:GY f as x)(ρ:List Sl):cw f [] (as.map Rr.fr) ρ=some (.error x,ρ):=by
 obtain⟨ρc,h⟩:=h
 unfold cw
 rw[Mh,MB,fB]
 simp only[jf,h]
 rw[fS _ _ _ _ (by rw[bu,LY])]
variable{i:Nat}{ρ:List Sl}
theorem rF{as:List A}{o':LO}{s:Sl}{r:Rr}(h:bM f o as s o')(hr:jK s=some r)(hl:aH ρ i=some o):cw f [] (.rf i::as.map Rr.fr) ρ=some (.ok r,setAt ρ i o'):=by
 obtain⟨ρc,h⟩:=h
 unfold aH at hl
 unfold setAt
 have hi:∀s,ρ[i]?=some s->(ρ.set i Sl.un)[i]?=some .un:=λs e=>MF (Mb.mp e).1
 have key:∀(s0:Sl)(k:LO->Sl),ρ[i]?=some s0->take1 (.rf i) ρ=some (.lv o,ρ.set i .un)->(∀s ρ',ρ'[i]?=some Sl.un->nU ρ (.rf i) (.pv s) ρ'=some (ρ'.set i (k s)))->cw f [] (.rf i::as.map Rr.fr) ρ=some (.ok r,ρ.set i (k o')):=by
  intro s0 k es ht hp
  unfold cw
  rw[Mh,MB,cB,ht]
  simp only[fB]
  have h':f (OY toP (Sl.lv o::OY Sl.fr as))=some (.rt s,.pv o'::ρc):=by rw[L5,jf];exact h
  rw[h']
  simp only[hr]
  have hb:a8 (Sl.lv o::OY Sl.fr as).length (.pv o'::ρc)=.pv o'::a8 as.length ρc:=by rw[LX,LY];rfl
  rw[hb,putL,fS _ _ _ _ (by rw[bu])]
  simp only[hp _ _ (hi s0 es),List.set_set]
 cases es:ρ[i]? with
 | none=>simp only[es] at hl;cases hl
 | some t =>
  cases t with
  | un=>simp only[es] at hl;cases hl
  | fr a=>simp only[es] at hl;cases hl
  | lv o1 =>
   simp only[es] at hl;cases hl
   refine key _ Sl.lv es (by unfold take1;simp only[es]) λs ρ' e=>?_
   unfold nU
   simp only[es,e]
  | pv o1 =>
   simp only[es] at hl;cases hl
   refine key _ Sl.pv es (by unfold take1;simp only[es]) λs ρ' e=>?_
   unfold nU
   simp only[es,e]
theorem kO{b:Ms}{as:List A}(P:Nat->List Sl->Prop)(h0:P 0 ρ)(hs:∀i a ρ,as[i]?=some a->P i ρ->∃ρ1 ρ2,G a ρ=some ρ1/\(b ρ1=some (.nx,ρ2)\/b ρ1=some (.ct,ρ2))/\P (i+1) ρ2) :
  ∃ρ',forL G b as ρ=some (.nx,ρ')/\P as.length ρ':=by
 have key:∀n i ρ,as.length-i=n->i<=as.length->P i ρ->∃ρ',forL G b (as.drop i) ρ=some (.nx,ρ')/\P as.length ρ':=by
  intro n
  induction n with
  | zero =>
   intro i ρ e hi p
   have:i=as.length:=by omega
   subst this
   exact⟨ρ,by rw[NP];rfl,p⟩
  | succ n ih =>
   intro i ρ e hi p
   have hlt:i<as.length:=by omega
   obtain⟨ρ1,ρ2,h1,h2,h3⟩:=hs i as[i] ρ (by simp[hlt]) p
   obtain⟨ρ',h4,h5⟩:=ih (i+1) ρ2 (by omega) hlt h3
   refine⟨ρ',?_,h5⟩
   rw[Nm hlt,forL,h1]
   rcases h2 with h2|h2
   ·simp only[h2];exact h4
   ·simp only[h2];exact h4
 simpa using key as.length 0 ρ (by simp) (Nd _) h0
theorem lR{t:Mi Bool}{e:Mi Rr}{as:List A}(P:Nat->List A->List Sl->Prop)(h0:P 0 [] ρ)
  (hs:∀i a acc ρ,as[i]?=some a->P i acc ρ->∃ρ1,G a ρ=some ρ1/\((∃ρ2 r ρ3 d ρ4,t ρ1=some (.ok true,ρ2)/\e ρ2=some (.ok r,ρ3)/\aV r ρ3=some (d,ρ4)/\P (i+1) (acc++[d]) ρ4)\/∃ρ2,t ρ1=some (.ok false,ρ2)/\P (i+1) acc ρ2)) :
  ∃ys ρ',cS G t e as [] ρ=some (ys,ρ')/\P as.length ys ρ':=by
 have key:∀n i acc ρ,as.length-i=n->i<=as.length->P i acc ρ->∃ys ρ',cS G t e (as.drop i) acc ρ=some (ys,ρ')/\P as.length ys ρ':=by
  intro n
  induction n with
  | zero =>
   intro i acc ρ e' hi p
   have:i=as.length:=by omega
   subst this
   exact⟨acc,ρ,by rw[NP];rfl,p⟩
  | succ n ih =>
   intro i acc ρ e' hi p
   have hlt:i<as.length:=by omega
   obtain⟨ρ1,h1,h2⟩:=hs i as[i] acc ρ (by simp[hlt]) p
   rw[Nm hlt,cS,h1]
   rcases h2 with ⟨ρ2,r,ρ3,d,ρ4,q1,q2,q3,q4⟩|⟨ρ2,q1,q2⟩
   ·simp only[q1,q2,q3]
    exact ih (i+1) _ ρ4 (by omega) hlt q4
   ·simp only[q1]
    exact ih (i+1) _ ρ2 (by omega) hlt q2
 simpa using key as.length 0 [] ρ (by simp) (Nd _) h0
theorem jm{t:Mi Bool}{b:Ms}(P:Nat->List Sl->Prop)(Q:List Sl->Prop)(hs:∀k ρ,P k ρ->(∃ρ1,t ρ=some (.ok false,ρ1)/\Q ρ1)\/∃ρ1 ρ2 k',t ρ=some (.ok true,ρ1)/\(b ρ1=some (.nx,ρ2)\/b ρ1=some (.ct,ρ2))/\k'<k/\P k' ρ2) :
  ∀{n k:Nat}{ρ:List Sl},P k ρ->k<n->∃ρ',dY t b n ρ=some (.nx,ρ')/\Q ρ':=by
 intro n
 induction n with
 | zero=>intro k ρ _ h;omega
 | succ n ih =>
  intro k ρ p hk
  rcases hs k ρ p with ⟨ρ1,h1,h2⟩|⟨ρ1,ρ2,k',h1,h2,h3,h4⟩
  ·exact⟨ρ1,by rw[dY,h1],h2⟩
  ·obtain⟨ρ',h5,h6⟩:=ih h4 (by omega)
   refine⟨ρ',?_,h6⟩
   rw[dY,h1]
   rcases h2 with h2|h2
   ·simp only[h2];exact h5
   ·simp only[h2];exact h5
theorem qB{n:Nat}(h:n<2^9500):n<BIG:=L4 h (by unfold BIG;exact MU (by decide) (by decide))
noncomputable def nm(x:Num):A:=.tup [.int x.1,.int x.2]
theorem m8(i j:Int):eqA (.int i) (.int j)=some (decide (i=j)):=by
 unfold eqA
 simp only[toD]
 rw[if_pos (by simp[D.depth])]
 simp[D.eq,Qj]
section
variable{α β:Type}{ρ:List Sl}
theorem ER(m:Mi α)(f:α->Mi β):ay m f ρ=(match m ρ with|some (.ok x,ρ1)=>f x ρ1|some (.error e,ρ1)=>some (.error e,ρ1)|none=>none):=rfl
theorem zv(m:Mi α)(f:α->Ms):bA m f ρ=(match m ρ with|some (.ok x,ρ1)=>f x ρ1|some (.error e,ρ1)=>some (.ex e,ρ1)|none=>none):=rfl
theorem Gg(x:α):(dG x:Mi α) ρ=some (.ok x,ρ):=rfl
theorem rL(i:Nat):af i ρ=(match ρ[i]? with|some (.fr a)=>some (.ok (.fr a),ρ)|some (.lv _)=>some (.ok (.rf i),ρ)|some (.pv _)=>some (.ok (.rf i),ρ)|_=>none):=rfl
theorem EI(i:Nat):aw i ρ=(match ρ[i]? with|some (.fr a)=>some (.ok (.fr a),ρ)|some (.lv o)=>some (.ok (.fr o.a),ρ.set i (.fr o.a))|_=>none):=rfl
theorem e_C(a:A):mC a ρ=some (.ok (.fr a),ρ):=rfl
noncomputable def opK(f:A->A->Option Rr)(x y:Rr)(ρ:List Sl):Option (Except Str Rr×List Sl):=match res ρ x,res ρ y with
 | some a,some b=>match f a b with
  | some r=>some (.ok r,ρ)
  | none=>none
 | _,_=>none
theorem FP(f:A->A->Option Rr)(ma mb:Mi Rr):mOp f ma mb ρ=(match ma ρ with|some (.ok x,ρ1)=>(match mb ρ1 with|some (.ok y,ρ2)=>opK f x y ρ2|some (.error e,ρ2)=>some (.error e,ρ2)|none=>none)|some (.error e,ρ1)=>some (.error e,ρ1)|none=>none):=by
 unfold mOp ay opK
 cases ma ρ with
 | none=>rfl
 | some p =>
  obtain⟨o,ρ1⟩:=p
  cases o with
  | error e=>rfl
  | ok x =>
   simp only
   cases mb ρ1 with
   | none=>rfl
   | some p =>
    obtain⟨o,ρ2⟩:=p
    cases o with
    | error e=>rfl
    | ok y=>rfl
noncomputable def unK(f:A->Option Rr)(x:Rr)(ρ:List Sl):Option (Except Str Rr×List Sl):=match res ρ x with
 | some a=>match f a with
  | some r=>some (.ok r,ρ)
  | none=>none
 | none=>none
theorem HR(f:A->Option Rr)(m:Mi Rr):mUn f m ρ=(match m ρ with|some (.ok x,ρ1)=>unK f x ρ1|some (.error e,ρ1)=>some (.error e,ρ1)|none=>none):=by
 unfold mUn ay
 cases m ρ with
 | none=>rfl
 | some p =>
  obtain⟨o,ρ1⟩:=p
  cases o with
  | error e=>rfl
  | ok x=>rfl
theorem Lz(f:A->Option Rr)(m:Mi Rr):mB1 f m ρ=mUn f m ρ:=rfl
theorem KW(f:A->A->Option Rr)(m n:Mi Rr):mB2 f m n ρ=mOp f m n ρ:=rfl
noncomputable def vW(r:Rr)(ρ:List Sl):Option (Except Str Bool×List Sl):=match asB r with
 | some b=>some (.ok b,ρ)
 | none=>none
theorem uX(m:Mi Rr):ao m ρ=(match m ρ with|some (.ok x,ρ1)=>vW x ρ1|some (.error e,ρ1)=>some (.error e,ρ1)|none=>none):=by
 unfold ao ay
 cases m ρ with
 | none=>rfl
 | some p =>
  obtain⟨o,ρ1⟩:=p
  cases o with
  | error e=>rfl
  | ok x=>rfl
theorem BM(k:Bool):vW (.fr (.bl k)) ρ=some (.ok k,ρ):=rfl
theorem wm(m n:Mi Bool):jL m n ρ=(match m ρ with|some (.ok true,ρ1)=>n ρ1|some (.ok false,ρ1)=>some (.ok false,ρ1)|some (.error e,ρ1)=>some (.error e,ρ1)|none=>none):=by
 unfold jL ay
 cases m ρ with
 | none=>rfl
 | some p=>obtain⟨o,ρ1⟩:=p;cases o with|error e=>rfl|ok k=>cases k<;>rfl
theorem Je(m n:Mi Bool):mOr m n ρ=(match m ρ with|some (.ok true,ρ1)=>some (.ok true,ρ1)|some (.ok false,ρ1)=>n ρ1|some (.error e,ρ1)=>some (.error e,ρ1)|none=>none):=by
 unfold mOr ay
 cases m ρ with
 | none=>rfl
 | some p=>obtain⟨o,ρ1⟩:=p;cases o with|error e=>rfl|ok k=>cases k<;>rfl
theorem CU(m:Mi Bool):fN m ρ=(match m ρ with|some (.ok k,ρ1)=>some (.ok (!k),ρ1)|some (.error e,ρ1)=>some (.error e,ρ1)|none=>none):=by
 unfold fN ay
 cases m ρ with
 | none=>rfl
 | some p =>
  obtain⟨o,ρ1⟩:=p
  cases o with
  | error e=>rfl
  | ok x=>rfl
theorem Gq(m n:Mi Rr):lY m n ρ=(match ao m ρ with|some (.ok true,ρ1)=>n ρ1|some (.ok false,ρ1)=>some (.ok (.fr (.bl false)),ρ1)|some (.error e,ρ1)=>some (.error e,ρ1)|none=>none):=by
 unfold lY ay
 cases ao m ρ with
 | none=>rfl
 | some p=>obtain⟨o,ρ1⟩:=p;cases o with|error e=>rfl|ok k=>cases k<;>rfl
theorem Jt(m n:Mi Rr):Bx m n ρ=(match ao m ρ with|some (.ok true,ρ1)=>some (.ok (.fr (.bl true)),ρ1)|some (.ok false,ρ1)=>n ρ1|some (.error e,ρ1)=>some (.error e,ρ1)|none=>none):=by
 unfold Bx ay
 cases ao m ρ with
 | none=>rfl
 | some p=>obtain⟨o,ρ1⟩:=p;cases o with|error e=>rfl|ok k=>cases k<;>rfl
theorem Ez(m:Mi Rr):oE m ρ=(match ao m ρ with|some (.ok k,ρ1)=>some (.ok (.fr (.bl (!k))),ρ1)|some (.error e,ρ1)=>some (.error e,ρ1)|none=>none):=by
 unfold oE ay
 cases ao m ρ with
 | none=>rfl
 | some p =>
  obtain⟨o,ρ1⟩:=p
  cases o with
  | error e=>rfl
  | ok x=>rfl
theorem GO(t:Mi Bool)(m n:Mi Rr):mIf t m n ρ=(match t ρ with|some (.ok true,ρ1)=>m ρ1|some (.ok false,ρ1)=>n ρ1|some (.error e,ρ1)=>some (.error e,ρ1)|none=>none):=by
 unfold mIf ay
 cases t ρ with
 | none=>rfl
 | some p=>obtain⟨o,ρ1⟩:=p;cases o with|error e=>rfl|ok k=>cases k<;>rfl
theorem JH:ag ρ=some (.ok [],ρ):=rfl
theorem qJ(m:Mi Rr)(n:Mi (List Rr)):aa m n ρ=(match m ρ with|some (.ok x,ρ1)=>(match n ρ1 with|some (.ok xs,ρ2)=>some (.ok (x::xs),ρ2)|some (.error e,ρ2)=>some (.error e,ρ2)|none=>none)|some (.error e,ρ1)=>some (.error e,ρ1)|none=>none):=by
 unfold aa ay
 cases m ρ with
 | none=>rfl
 | some p =>
  obtain⟨o,ρ1⟩:=p
  cases o with
  | error e=>rfl
  | ok x =>
   simp only
   cases n ρ1 with
   | none=>rfl
   | some p =>
    obtain⟨o,ρ2⟩:=p
    cases o with
    | error e=>rfl
    | ok y=>rfl
noncomputable def tupK(rs:List Rr)(ρ:List Sl):Option (Except Str Rr×List Sl):=match eC rs ρ with
 | some (as,ρ')=>if as.length<=1000 then some (.ok (.fr (.tup as)),ρ') else none
 | none=>none
theorem CJ(m:Mi (List Rr)):aF m ρ=(match m ρ with|some (.ok x,ρ1)=>tupK x ρ1|some (.error e,ρ1)=>some (.error e,ρ1)|none=>none):=by
 unfold aF ay
 cases m ρ with
 | none=>rfl
 | some p =>
  obtain⟨o,ρ1⟩:=p
  cases o with
  | error e=>rfl
  | ok x=>rfl
noncomputable def lstK(rs:List Rr)(ρ:List Sl):Option (Except Str Rr×List Sl):=match eC rs ρ with
 | some (as,ρ')=>if as.length<=1000 then some (.ok (.nw (.lst as)),ρ') else none
 | none=>none
theorem C8(m:Mi (List Rr)):bF m ρ=(match m ρ with|some (.ok x,ρ1)=>lstK x ρ1|some (.error e,ρ1)=>some (.error e,ρ1)|none=>none):=by
 unfold bF ay
 cases m ρ with
 | none=>rfl
 | some p =>
  obtain⟨o,ρ1⟩:=p
  cases o with
  | error e=>rfl
  | ok x=>rfl
theorem jX(f:Ms)(das:List A)(m:Mi (List Rr)):ai f das m ρ=(match m ρ with|some (.ok x,ρ1)=>cw f das x ρ1|some (.error e,ρ1)=>some (.error e,ρ1)|none=>none):=by
 unfold ai ay
 cases m ρ with
 | none=>rfl
 | some p =>
  obtain⟨o,ρ1⟩:=p
  cases o with
  | error e=>rfl
  | ok x=>rfl
theorem dw(m n:Ms):ax m n ρ=(match m ρ with|some (.nx,ρ1)=>n ρ1|r=>r):=rfl
theorem E9:aL ρ=some (.nx,ρ):=rfl
noncomputable def uy(i:Nat)(r:Rr)(ρ:List Sl):Option (Fl×List Sl):=match stT r ρ with
 | some (t,ρ1)=>match put i t ρ1 with
  | some ρ2=>some (.nx,ρ2)
  | none=>none
 | none=>none
theorem CW(i:Nat)(m:Mi Rr):aA i m ρ=(match m ρ with|some (.ok x,ρ1)=>uy i x ρ1|some (.error e,ρ1)=>some (.ex e,ρ1)|none=>none):=by
 unfold aA bA
 cases m ρ with
 | none=>rfl
 | some p =>
  obtain⟨o,ρ1⟩:=p
  cases o with
  | error e=>rfl
  | ok x=>rfl
noncomputable def EL(r:Rr)(ρ:List Sl):Option (Fl×List Sl):=match By r ρ with
 | some (s,ρ')=>some (.rt s,ρ')
 | none=>none
theorem rK(m:Mi Rr):aR m ρ=(match m ρ with|some (.ok x,ρ1)=>EL x ρ1|some (.error e,ρ1)=>some (.ex e,ρ1)|none=>none):=by
 unfold aR bA
 cases m ρ with
 | none=>rfl
 | some p =>
  obtain⟨o,ρ1⟩:=p
  cases o with
  | error e=>rfl
  | ok x=>rfl
theorem ED:xu ρ=some (.rt (.fr .non),ρ):=rfl
theorem jw(m:Mi Rr):aP m ρ=(match m ρ with|some (.ok _,ρ1)=>some (.nx,ρ1)|some (.error e,ρ1)=>some (.ex e,ρ1)|none=>none):=by
 unfold aP bA
 cases m ρ with
 | none=>rfl
 | some p =>
  obtain⟨o,ρ1⟩:=p
  cases o with
  | error e=>rfl
  | ok x=>rfl
theorem uU(t:Mi Bool)(m n:Ms):sIf t m n ρ=(match t ρ with|some (.ok true,ρ1)=>m ρ1|some (.ok false,ρ1)=>n ρ1|some (.error e,ρ1)=>some (.ex e,ρ1)|none=>none):=by
 unfold sIf bA
 cases t ρ with
 | none=>rfl
 | some p=>obtain⟨o,ρ1⟩:=p;cases o with|error e=>rfl|ok k=>cases k<;>rfl
theorem iH(loc:Nat)(m:Ms):bt loc m ρ=(match m (ρ++Mn loc .un) with|some (.nx,ρ')=>some (.rt (.fr .non),ρ')|some (.rt s,ρ')=>some (.rt s,ρ')|some (.ex x,ρ')=>some (.ex x,ρ')|_=>none):=by
 unfold bt
 cases m (ρ++Mn loc .un) with
 | none=>rfl
 | some p=>obtain⟨f,ρ1⟩:=p;cases f<;>rfl
theorem sX(m:Mi (List A))(G:Mg)(b:Ms):iM m G b ρ=(match m ρ with|some (.ok as,ρ1)=>forL G b as ρ1|some (.error e,ρ1)=>some (.ex e,ρ1)|none=>none):=by
 unfold iM bA
 cases m ρ with
 | none=>rfl
 | some p =>
  obtain⟨o,ρ1⟩:=p
  cases o with
  | error e=>rfl
  | ok x=>rfl
theorem rR(n:Nat)(t:Mi Bool)(b:Ms):jk n t b ρ=dY t b n ρ:=rfl
noncomputable def Kp(r:Rr)(ρ:List Sl):Option (Except Str (List A)×List Sl):=match aV r ρ with
 | some (a,ρ')=>match Bq a with
  | some as=>some (.ok as,ρ')
  | none=>none
 | none=>none
theorem pU(m:Mi Rr):cX m ρ=(match m ρ with|some (.ok x,ρ1)=>Kp x ρ1|some (.error e,ρ1)=>some (.error e,ρ1)|none=>none):=by
 unfold cX ay
 cases m ρ with
 | none=>rfl
 | some p =>
  obtain⟨o,ρ1⟩:=p
  cases o with
  | error e=>rfl
  | ok x=>rfl
noncomputable def oQ(r:Rr)(ρ:List Sl):Option (Except Str (List A)×List Sl):=match res ρ r with
 | some (.int j)=>if -(2^60)<=j/\j<2^60 then some (.ok (cA 0 j.toNat),ρ) else none
 | _=>none
theorem xX(m:Mi Rr):gB m ρ=(match m ρ with|some (.ok x,ρ1)=>oQ x ρ1|some (.error e,ρ1)=>some (.error e,ρ1)|none=>none):=by
 unfold gB ay
 cases m ρ with
 | none=>rfl
 | some p =>
  obtain⟨o,ρ1⟩:=p
  cases o with
  | error e=>rfl
  | ok x=>rfl
noncomputable def fu(n:Nat)(G:Mg)(t:Mi Bool)(e:Mi Rr)(as:List A)(ρ:List Sl):Option (Except Str Rr×List Sl):=if as.length<=100000 then match cS G t e as [] (ρ++Mn n .un) with
 | some (ys,ρ')=>some (.ok (.nw (.lst ys)),ρ'.take ρ.length)
 | none=>none else none
theorem ir(n:Nat)(mi:Mi (List A))(G:Mg)(t:Mi Bool)(e:Mi Rr):cc n mi G t e ρ=(match mi ρ with|some (.ok as,ρ1)=>fu n G t e as ρ1|some (.error x,ρ1)=>some (.error x,ρ1)|none=>none):=by
 unfold cc ay
 cases mi ρ with
 | none=>rfl
 | some p =>
  obtain⟨o,ρ1⟩:=p
  cases o with
  | error e=>rfl
  | ok x=>rfl
theorem qc:bj ρ=some (.ok true,ρ):=rfl
noncomputable def K7(G:Mg)(r:Rr)(ρ:List Sl):Option (Fl×List Sl):=match aV r ρ with
 | some (a,ρ1)=>match G a ρ1 with
  | some ρ2=>some (.nx,ρ2)
  | none=>none
 | none=>none
noncomputable def JZ(i j:Nat)(rs:List Rr)(ρ:List Sl):Option (Fl×List Sl):=match eC rs ρ with
 | some ([a,b],ρ1)=>match put i (.fr a) ρ1 with
  | some ρ2=>match put j (.fr b) ρ2 with
   | some ρ3=>some (.nx,ρ3)
   | none=>none
  | none=>none
 | _=>none
theorem J1(i j:Nat)(m:Mi (List Rr)):tQ i j m ρ=(match m ρ with|some (.ok x,ρ1)=>JZ i j x ρ1|some (.error e,ρ1)=>some (.ex e,ρ1)|none=>none):=by
 unfold tQ bA
 cases m ρ with
 | none=>rfl
 | some p =>
  obtain⟨o,ρ1⟩:=p
  cases o with
  | error e=>rfl
  | ok x=>rfl
noncomputable def Dm(i:Nat)(r:Rr)(ρ:List Sl):Option (Except Str Rr×List Sl):=match aV r ρ with
 | some (a,ρ1)=>match aH ρ1 i with
  | some (.lst xs)=>if xs.length<=100000 then some (.ok (.fr .non),setAt ρ1 i (.lst (xs++[a]))) else none
  | _=>none
 | none=>none
theorem Cg(i:Nat)(m:Mi Rr):fj i (cQ i m) ρ=(if isL ρ i then (match m ρ with|some (.ok x,ρ1)=>Dm i x ρ1|some (.error e,ρ1)=>some (.error e,ρ1)|none=>none) else none):=by
 unfold fj cQ ay
 split
 ·cases m ρ with
  | none=>rfl
  | some p=>obtain⟨o,ρ1⟩:=p;cases o<;>rfl
 ·rfl
noncomputable def ixK(i:Nat)(r rk:Rr)(ρ:List Sl):Option (Fl×List Sl):=match aV r ρ with
 | some (a,ρ1)=>match res ρ1 rk,aH ρ1 i with
  | some (.int k),some (.lst xs)=>match ixN xs.length k with
   | some j=>some (.nx,setAt ρ1 i (.lst (xs.set j a)))
   | none=>none
  | _,_=>none
 | none=>none
theorem Af(i:Nat)(mk m:Mi Rr):jb i mk m ρ=(match m ρ with|some (.ok r,ρ0)=>(if isL ρ0 i then (match mk ρ0 with|some (.ok rk,ρ1)=>ixK i r rk ρ1|some (.error e,ρ1)=>some (.ex e,ρ1)|none=>none) else none)|some (.error e,ρ1)=>some (.ex e,ρ1)|none=>none):=by
 unfold jb bA
 cases m ρ with
 | none=>rfl
 | some p =>
  obtain⟨o,ρ1⟩:=p
  cases o with
  | error e=>rfl
  | ok x =>
   simp only
   split
   ·cases mk ρ1 with
    | none=>rfl
    | some p=>obtain⟨o,ρ2⟩:=p;cases o<;>rfl
   ·rfl
noncomputable def dK(i:Nat)(r rk:Rr)(ρ:List Sl):Option (Fl×List Sl):=match aV r ρ with
 | some (a,ρ1)=>match res ρ1 rk,aH ρ1 i with
  | some ka,some (.dic kvs)=>match jH ka with
   | some y=>if kvs.length<=100000 then some (.nx,setAt ρ1 i (.dic (qf kvs y a))) else none
   | none=>none
  | _,_=>none
 | none=>none
theorem Fm(i:Nat)(mk m:Mi Rr):lE i mk m ρ=(match m ρ with|some (.ok r,ρ0)=>(if xD ρ0 i then (match mk ρ0 with|some (.ok rk,ρ1)=>dK i r rk ρ1|some (.error e,ρ1)=>some (.ex e,ρ1)|none=>none) else none)|some (.error e,ρ1)=>some (.ex e,ρ1)|none=>none):=by
 unfold lE bA
 cases m ρ with
 | none=>rfl
 | some p =>
  obtain⟨o,ρ1⟩:=p
  cases o with
  | error e=>rfl
  | ok x =>
   simp only
   split
   ·cases mk ρ1 with
    | none=>rfl
    | some p=>obtain⟨o,ρ2⟩:=p;cases o<;>rfl
   ·rfl
theorem EF:rO ρ=some (.ok (.nw (.dic [])),ρ):=rfl
noncomputable def Kk(d k x:Rr)(ρ:List Sl):Option (Except Str Rr×List Sl):=match res ρ d,res ρ k with
  | some (.dic kvs),some ka=>match jH ka with
   | some y=>match iX kvs y with
    | some a=>some (.ok (.fr a),ρ)
    | none=>match aV x ρ with
     | some (a,ρ1)=>some (.ok (.fr a),ρ1)
     | none=>none
   | none=>none
  | _,_=>none
noncomputable def Jp:Option A->Bool
 | some (.dic _)=>true
 | _=>false
theorem Ac(x:Str)(m:Mi (List Rr)):cR x m ρ=(match m ρ with|some (.ok rs,ρ1)=>(if rs.length<=10 then some (.ex x,ρ1) else none)|some (.error e,ρ1)=>some (.ex e,ρ1)|none=>none):=by
 unfold cR bA
 cases m ρ with
 | none=>rfl
 | some p =>
  obtain⟨o,ρ1⟩:=p
  cases o with
  | error e=>rfl
  | ok x=>rfl
noncomputable def s1K(f:Str->A->Option Rr)(z:Str)(y:Rr)(ρ:List Sl):Option (Except Str Rr×List Sl):=match res ρ y with
  | some a=>match f z a with
   | some r=>some (.ok r,ρ)
   | none=>none
  | none=>none
theorem KZ(f:Str->A->Option Rr)(mo m:Mi Rr):mS1 f mo m ρ=(match mo ρ with|some (.ok (.fr (.str z)),ρ0)=>(match m ρ0 with|some (.ok y,ρ1)=>s1K f z y ρ1|some (.error e,ρ1)=>some (.error e,ρ1)|none=>none)|some (.ok _,_)=>none|some (.error e,ρ1)=>some (.error e,ρ1)|none=>none):=by
 unfold mS1 ay
 cases mo ρ with
 | none=>rfl
 | some p =>
  obtain⟨o,ρ1⟩:=p
  cases o with
  | error e=>rfl
  | ok d =>
   cases d with
   | rf i=>rfl
   | nw o=>rfl
   | fr a =>
    cases a<;>first|rfl|skip
    simp only
    cases m ρ1 with
    | none=>rfl
    | some p=>obtain⟨o,ρ2⟩:=p;cases o<;>rfl
noncomputable def slK(x:Rr)(lo hi:Option Int)(ρ:List Sl):Option (Except Str Rr×List Sl):=match res ρ x with
 | some a=>match fSl a lo hi with
  | some r=>some (.ok r,ρ)
  | none=>none
 | none=>none
theorem LB(m:Mi Rr)(ml mh:Mi (Option Int)):mSl m ml mh ρ=(match m ρ with|some (.ok x,ρ0)=>(match ml ρ0 with|some (.ok lo,ρ1)=>(match mh ρ1 with|some (.ok hi,ρ2)=>slK x lo hi ρ2|some (.error e,ρ2)=>some (.error e,ρ2)|none=>none)|some (.error e,ρ1)=>some (.error e,ρ1)|none=>none)|some (.error e,ρ1)=>some (.error e,ρ1)|none=>none):=by
 unfold mSl ay
 cases m ρ with
 | none=>rfl
 | some p =>
  obtain⟨o,ρ1⟩:=p
  cases o with
  | error e=>rfl
  | ok x =>
   simp only
   cases ml ρ1 with
   | none=>rfl
   | some p =>
    obtain⟨o,ρ2⟩:=p
    cases o with
    | error e=>rfl
    | ok y =>
     simp only
     cases mh ρ2 with
     | none=>rfl
     | some p=>obtain⟨o,ρ3⟩:=p;cases o<;>rfl
noncomputable def fzK(r:Rr)(ρ:List Sl):Option (Except Str Rr×List Sl):=match aV r ρ with
 | some (a,ρ')=>some (.ok (.fr a),ρ')
 | none=>none
theorem Gm(m:Mi Rr):mFz m ρ=(match m ρ with|some (.ok x,ρ1)=>fzK x ρ1|some (.error e,ρ1)=>some (.error e,ρ1)|none=>none):=by
 unfold mFz ay
 cases m ρ with
 | none=>rfl
 | some p =>
  obtain⟨o,ρ1⟩:=p
  cases o with
  | error e=>rfl
  | ok x=>rfl
theorem wW:bK ρ=some (.ok none,ρ):=rfl
noncomputable def CY(r:Rr)(ρ:List Sl):Option (Except Str (Option Int)×List Sl):=match res ρ r with
 | some (.int i)=>some (.ok (some i),ρ)
 | _=>none
theorem GQ(m:Mi Rr):cM m ρ=(match m ρ with|some (.ok x,ρ1)=>CY x ρ1|some (.error e,ρ1)=>some (.error e,ρ1)|none=>none):=by
 unfold cM ay
 cases m ρ with
 | none=>rfl
 | some p =>
  obtain⟨o,ρ1⟩:=p
  cases o with
  | error e=>rfl
  | ok x=>rfl
theorem e_J(m:Mi Rr)(n:Mi (List Str)):mJ m n ρ=(match m ρ with|some (.ok (.fr (.str z)),ρ0)=>(if z.length<=1000 then (match n ρ0 with|some (.ok zs,ρ1)=>some (.ok (z::zs),ρ1)|some (.error e,ρ1)=>some (.error e,ρ1)|none=>none) else none)|some (.ok _,_)=>none|some (.error e,ρ1)=>some (.error e,ρ1)|none=>none):=by
 unfold mJ ay
 cases m ρ with
 | none=>rfl
 | some p =>
  obtain⟨o,ρ1⟩:=p
  cases o with
  | error e=>rfl
  | ok d =>
   cases d with
   | rf i=>rfl
   | nw o=>rfl
   | fr a =>
    cases a<;>first|rfl|skip
    simp only
    split
    ·cases n ρ1 with
     | none=>rfl
     | some p=>obtain⟨o,ρ2⟩:=p;cases o<;>rfl
    ·rfl
theorem K9(m:Mi Rr):mFv m ρ=(match m ρ with|some (.ok (.fr (.str z)),ρ0)=>(if z.length<=1000 then some (.ok (.fr (.str z)),ρ0) else none)|some (.ok _,_)=>none|some (.error e,ρ1)=>some (.error e,ρ1)|none=>none):=by
 unfold mFv ay
 cases m ρ with
 | none=>rfl
 | some p =>
  obtain⟨o,ρ1⟩:=p
  cases o with
  | error e=>rfl
  | ok d =>
   cases d with
   | rf i=>rfl
   | nw o=>rfl
   | fr a=>cases a<;>rfl
theorem LN(m:Mi (List Str)):mJs m ρ=(match m ρ with|some (.ok zs,ρ1)=>some (.ok (.fr (.str (DZ zs))),ρ1)|some (.error e,ρ1)=>some (.error e,ρ1)|none=>none):=by
 unfold mJs ay
 cases m ρ with
 | none=>rfl
 | some p =>
  obtain⟨o,ρ1⟩:=p
  cases o with
  | error e=>rfl
  | ok x=>rfl
end
section
variable{α β:Type}{ρ:List Sl}
noncomputable def LK(x y:Rr)(ρ:List Sl):Option (Except Str (List A)×List Sl):=match eC [x,y] ρ with
 | some ([.tup as,.tup bs],ρ')=>some (.ok (KL as bs),ρ')
 | _=>none
theorem pQ(m:Mi α):aS m ρ=(match m ρ with|some (.ok x,ρ1)=>some (.ok x,ρ1)|_=>none):=rfl
theorem Ci(i:Nat)(sub:Str->Bool)(b s:Ms):tV i sub b s ρ=(match b ρ with
 | some (.ex x,ρ1)=>if sub x=true then match put i (.fr (.exc x)) ρ1 with
  | some ρ2=>match s ρ2 with
   | some (.nx,ρ3)=>match put i .un ρ3 with
    | some ρ4=>some (.nx,ρ4)
    | none=>none
   | some (.rt r,ρ3)=>some (.rt r,ρ3)
   | _=>none
  | none=>none else none
 | r=>r):=rfl
noncomputable def DS(k:Str)(r:Rr)(ρ:List Sl):Option (Except Str Rr×List Sl):=match aV r ρ with
 | some (a,ρ')=>some (.ok (.nw (.dic [(.inr k,a)])),ρ')
 | none=>none
noncomputable def Ko(i:Nat)(r:Rr)(ρ:List Sl):Option (Except Str Rr×List Sl):=match res ρ r,aH ρ i with
 | some ka,some (.dic kvs)=>match jH ka with
  | some y=>match iX kvs y with
   | some a=>some (.ok (.fr a),setAt ρ i (.dic (kvs.filter λkv=>decide (kv.1≠y))))
   | none=>none
  | none=>none
 | _,_=>none
end
section
variable{ρ:List Sl}
noncomputable def CQ(cs:List Str)(i:Nat)(f:Str)(r:Rr)(ρ:List Sl):Option (Fl×List Sl):=match aV r ρ with
 | some (a,ρ1)=>match aH ρ1 i with
  | some (.obj c fs)=>if cs.contains c&&Oi fs.length 900 then some (.nx,setAt ρ1 i (.obj c (lW f a fs))) else none
  | _=>none
 | none=>none
theorem qa(cs:List Str)(i:Nat)(f:Str)(m:Mi Rr):eJ cs i f m ρ=(match m ρ with|some (.ok x,ρ1)=>CQ cs i f x ρ1|some (.error e,ρ1)=>some (.ex e,ρ1)|none=>none):=by
 unfold eJ bA
 cases m ρ with
 | none=>rfl
 | some p=>obtain ⟨o,ρ1⟩:=p; cases o <;> rfl
noncomputable def fZ (cn:Str) (f:Ms) (das:List A) (rs:List Rr) (ρ:List Sl):Option (Except Str Rr × List Sl):=match cB (rs ++ das.map Rr.fr) ρ with
 | some (as,ρt)=>match f (.pv (.obj cn []) :: as.map toP) with
  | some (.rt (.fr .non),.pv (.obj c2 fs) :: ρr)=>match putL ρ (rs ++ das.map Rr.fr) (a8 as.length ρr) ρt with
   | some ρ'=>some (.ok (.nw (.obj c2 fs)),ρ')
   | none=>none
  | some (.ex x,s :: ρr)=>match putL ρ (rs ++ das.map Rr.fr) (a8 as.length ρr) ρt with
   | some ρ'=>some (.error x,ρ')
   | none=>none
  | _=>none
 | none=>none
theorem kC (cn:Str) (f:Ms) (das:List A) (m:Mi (List Rr)):cI cn f das m ρ = (match m ρ with | some (.ok x,ρ1)=>fZ cn f das x ρ1 | some (.error e,ρ1)=>some (.error e,ρ1) | none=>none):=by
 unfold cI ay
 cases m ρ with
 | none=>rfl
 | some p=>obtain ⟨o,ρ1⟩:=p; cases o <;> rfl
noncomputable def u6 (cn mn:Str) (r:Rr) (ρ:List Sl):Option (Except Str Rr × List Sl):=match res ρ r with
 | some (.obj c fs)=>if c == cn && (fs.lookup mn).isNone then some (.ok r,ρ) else none
 | _=>none
theorem yk (cn mn:Str) (m:Mi Rr):bc cn mn m ρ = (match m ρ with | some (.ok x,ρ1)=>u6 cn mn x ρ1 | some (.error e,ρ1)=>some (.error e,ρ1) | none=>none):=by
 unfold bc ay
 cases m ρ with
 | none=>rfl
 | some p=>obtain ⟨o,ρ1⟩:=p; cases o <;> rfl
theorem CS (i:Nat):kU i ρ = (match aH ρ i with
 | some (.lst xs)=>(match xs[xs.length - 1]? with
  | some a=>some (.ok (.fr a),setAt ρ i (.lst xs.dropLast))
  | none=>none)
 | _=>none):=by
 unfold kU
 cases aH ρ i with
 | none=>rfl
 | some o=>cases o <;> rfl
theorem BN (i:Nat):jZ i ρ = (match aH ρ i with
 | some (.lst _)=>some (.ok (.fr .non),setAt ρ i (.lst []))
 | _=>none):=by
 unfold jZ
 cases aH ρ i with
 | none=>rfl
 | some o=>cases o<;>rfl
noncomputable def Kl(q:Int->Int->Bool)(j:Int)(z:Rr)(ρ:List Sl):Option (Except Str Rr×List Sl):=match res ρ z with
 | some (.int k)=>some (.ok (.fr (.bl (q j k))),ρ)
 | _=>none
noncomputable def chK(p q:Int->Int->Bool)(mc:Mi Rr)(x y:Rr)(ρ:List Sl):Option (Except Str Rr×List Sl):=match res ρ x,res ρ y with
 | some (.int i),some (.int j)=>match p i j with
  | true=>(match mc ρ with|some (.ok z,ρ1)=>Kl q j z ρ1|some (.error e,ρ1)=>some (.error e,ρ1)|none=>none)
  | false=>some (.ok (.fr (.bl false)),ρ)
 | _,_=>none
theorem zj(p q:Int->Int->Bool)(ma mb mc:Mi Rr):eO p q ma mb mc ρ=(match ma ρ with|some (.ok x,ρ1)=>(match mb ρ1 with|some (.ok y,ρ2)=>chK p q mc x y ρ2|some (.error e,ρ2)=>some (.error e,ρ2)|none=>none)|some (.error e,ρ1)=>some (.error e,ρ1)|none=>none):=by
  unfold eO ay
  cases ma ρ with
  | none=>rfl
  | some pr =>
    obtain⟨o,ρ1⟩:=pr
    cases o with
    | error e=>rfl
    | ok x =>
      simp only
      cases mb ρ1 with
      | none=>rfl
      | some pr =>
        obtain⟨o,ρ2⟩:=pr
        cases o with
        | error e=>rfl
        | ok y =>
          simp only[chK]
          cases res ρ2 x with
          | none=>rfl
          | some a =>
            cases a<;>first
              | (cases res ρ2 y with
                 | none=>rfl
                 | some b=>cases b<;>rfl)
              | (rename_i i
                 cases res ρ2 y with
                 | none=>rfl
                 | some b =>
                   cases b<;>first
                     | rfl
                     | (rename_i j
                        simp only
                        cases p i j with
                        | false=>rfl
                        | true =>
                          simp only
                          cases mc ρ2 with
                          | none=>rfl
                          | some pr=>obtain⟨o,ρ3⟩:=pr;cases o<;>rfl))
theorem As(a b:A):mf a b=(opI λi j=>some (.fr (.int (i+j)))) a b:=rfl
theorem D4(a b:A):fM a b=(opI λi j=>some (.fr (.int (i-j)))) a b:=rfl
theorem sL(a b:A):xl a b=(opI λi j=>if fits 20000 i&&fits 20000 j then some (.fr (.int (i*j))) else none) a b:=rfl
theorem Fn(a b:A):oH a b=(opI λi j=>if j != 0&&fits 9000 j then some (.fr (.int (i.fdiv j))) else none) a b:=rfl
theorem FV(a b:A):gk a b=(opI λi j=>if j != 0 then some (.fr (.int (i.fmod j))) else none) a b:=rfl
theorem vp(a b:A):cp a b=(opI λi j=>if 0<=j/\j<=1000000/\i.natAbs<2^64 then some (.fr (.int (i^j.toNat))) else none) a b:=rfl
theorem Ig(a b:A):fLt a b=(opI λi j=>some (.fr (.bl (decide (i<j))))) a b:=rfl
theorem IX(a b:A):fLe a b=(opI λi j=>some (.fr (.bl (decide (i<=j))))) a b:=rfl
theorem IU(a b:A):fGt a b=(opI λi j=>some (.fr (.bl (decide (j<i))))) a b:=rfl
theorem KD(a b:A):fGe a b=(opI λi j=>some (.fr (.bl (decide (j<=i))))) a b:=rfl
theorem B7(a b:A):lL a b=(opS λx y=>if x.length+y.length<=100000 then some (.fr (.str (x++y))) else none) a b:=rfl
theorem FN(a b:A):tF a b=(opI λi j=>some (.fr (.int (if j > i then j else i)))) a b:=rfl
theorem Gn(a b:A):t5 a b=(opI λi j=>some (.fr (.int (if j<i then j else i)))) a b:=rfl
end
noncomputable def np:Sl->Bool
 | .pv _=>false
 | _=>true
theorem HE:np .un=true:=rfl
theorem Ke(a:A):np (.fr a)=true:=rfl
theorem Ie(o:LO):np (.lv o)=true:=rfl
theorem vf(i:Nat)(s:Sl)(ρ:List Sl):put i s ρ=(match ρ[i]? with|some t=>if np t=true then some (ρ.set i s) else none|none=>none):=by
 unfold put
 cases ρ[i]? with
 | none=>rfl
 | some t=>cases t<;>rfl
def Wp(m:Ms)(ρ:List Sl)(Q:Fl->List Sl->Prop):Prop:=∃f ρ',m ρ=some (f,ρ')/\Q f ρ'
section
variable{m n b:Ms}{ρ ρ1:List Sl}{Q:Fl->List Sl->Prop}
theorem Wp.st(h:m ρ=some (.nx,ρ1))(k:Wp n ρ1 Q):Wp (ax m n) ρ Q:=by
 obtain⟨f,ρ',e,q⟩:=k
 exact⟨f,ρ',by rw[dw,h];exact e,q⟩
theorem Wp.sq(k:Wp m ρ λf ρ1=>f=.nx/\Wp n ρ1 Q):Wp (ax m n) ρ Q:=by
 obtain⟨f,ρ1,e,rfl,f2,ρ2,e2,q⟩:=k
 exact⟨f2,ρ2,by rw[dw,e];exact e2,q⟩
theorem Wp.en{f:Fl}(h:m ρ=some (f,ρ1))(q:Q f ρ1):Wp m ρ Q:=⟨_,_,h,q⟩
theorem Wp.fr{mi:Mi (List A)}{as:List A}(P:Nat->List Sl->Prop)(h:mi ρ=some (.ok as,ρ1))(h0:P 0 ρ1)(hs:∀i a ρ,as[i]?=some a->P i ρ->∃ρ1,G a ρ=some ρ1/\Wp b ρ1 λf ρ2=>(f=.nx\/f=.ct)/\P (i+1) ρ2)(hq:∀ρ',P as.length ρ'->Q .nx ρ'):Wp (iM mi G b) ρ Q:=by
 obtain⟨ρ',h1,h2⟩:=kO (G:=G) (b:=b) (as:=as) P h0 (λi a ρ ha p=>by
  obtain⟨ρ1,g,f,ρ2,e,hf,p'⟩:=hs i a ρ ha p
  refine⟨ρ1,ρ2,g,?_,p'⟩
  rcases hf with rfl|rfl
  ·exact .inl e
  ·exact .inr e)
 exact⟨_,ρ',by rw[sX,h];exact h1,hq ρ' h2⟩
theorem Wp.df{loc:Nat}(k:Wp m (ρ++Mn loc .un) λf ρ'=>match f with | .nx=>Q (.rt (.fr .non)) ρ' | .rt s=>Q (.rt s) ρ' | .ex x=>Q (.ex x) ρ'|_=>False):Wp (bt loc m) ρ Q:=by
 obtain⟨f,ρ',e,q⟩:=k
 unfold Wp
 rw[iH,e]
 cases f with
 | nx=>exact⟨_,_,rfl,q⟩
 | rt s=>exact⟨_,_,rfl,q⟩
 | ex x=>exact⟨_,_,rfl,q⟩
 | bk=>exact q.elim
 | ct=>exact q.elim
theorem hJ.of{as:List A}(k:Wp f (as.map Sl.fr) λg _=>g=.rt (.lv o)):hJ f as o:=by
 obtain⟨g,ρ',e,rfl⟩:=k
 exact⟨ρ',e⟩
theorem bM.of{as:List A}{R:Sl->LO->Prop}(k:Wp f (.pv o::as.map Sl.fr) λg ρ=>∃s o' ρ1,g=.rt s/\ρ=.pv o'::ρ1/\R s o'):∃s o',bM f o as s o'/\R s o':=by
 obtain⟨g,ρ',e,s,o',ρ1,rfl,rfl,r⟩:=k
 exact⟨s,o',⟨ρ1,e⟩,r⟩
end
theorem r9(n:Nat):(cA 0 n).length=n:=by simp[cA]
theorem EZ{n:Nat}{a:A}(h:(cA 0 n)[i]?=some a):i<n/\a=.int i:=by
 have hi:=(Mb.mp h).1
 rw[r9] at hi
 unfold cA at h
 rw[MA,NS hi] at h
 simp at h
 exact⟨hi,h.symm⟩
section
variable{ρ:List Sl}
theorem yc(m n:Mi Rr):g9 m n ρ=(match m ρ with|some x=>some x|none=>n ρ):=rfl
noncomputable def Bp(i:Nat)(r:Rr)(ρ:List Sl):Option (Except Str Rr×List Sl):=match aV r ρ with
 | some (.lst zs,ρ1)=>match aH ρ1 i with
  | some (.lst xs)=>if xs.length+zs.length<=100000 then some (.ok (.fr .non),setAt ρ1 i (.lst (xs++zs))) else none
  | _=>none
 | _=>none
theorem Cm(i:Nat)(m:Mi Rr):fj i (eS i m) ρ=(if isL ρ i then (match m ρ with|some (.ok x,ρ1)=>Bp i x ρ1|some (.error e,ρ1)=>some (.error e,ρ1)|none=>none) else none):=by
 unfold fj eS ay
 split
 ·cases m ρ with
  | none=>rfl
  | some p =>
   obtain⟨o,ρ1⟩:=p
   cases o with
   | error e=>rfl
   | ok x=>rfl
 ·rfl
noncomputable def Lc(x:Rr)(ρ:List Sl):Option (Except Str Rr×List Sl):=match x with
 | .nw (.lst _)=>some (.ok (.fr .non),ρ)
 | _=>none
noncomputable def HH(xs:List A)(r:Rr)(ρ:List Sl):Option (Except Str Rr×List Sl):=match aV r ρ with
 | some (_,ρ1)=>if xs.length<=100000 then some (.ok (.fr .non),ρ1) else none
 | none=>none
noncomputable def LC(m:Mi Rr)(x:Rr)(ρ0:List Sl):Option (Except Str Rr×List Sl):=match x with
 | .nw (.lst xs)=>match m ρ0 with
  | some (.ok r,ρ)=>HH xs r ρ
  | some (.error e,ρ)=>some (.error e,ρ)
  | none=>none
 | _=>none
end
section
variable{G:Mg}{b:Ms}{g:Key×A->A}{j:Nat}{ρ:List Sl}{kvs:List (Key×A)}
theorem tW{T:Type}{ts:List T}(f:T->A)(x:Str)(good:T->Bool)(P:List Sl->Prop)(hs:∀t∈ts,∀ρ,P ρ->∃ρ1 ρ2,G (f t) ρ=some ρ1/\P ρ2/\b ρ1=some (if good t then .nx else .ex x,ρ2)) :
  ∀{ρ:List Sl},P ρ->∃ρ',forL G b (ts.map f) ρ=some (if ts.all good then .nx else .ex x,ρ')/\P ρ':=by
 induction ts with
 | nil=>intro ρ h;exact⟨ρ,rfl,h⟩
 | cons t ts ih =>
  intro ρ h
  obtain⟨ρ1,ρ2,e1,p2,e2⟩:=hs t L8 ρ h
  rw[L5]
  unfold forL
  rw[e1]
  dsimp only
  rw[e2,Mu]
  cases good t with
  | true=>simpa using ih (λt h=>hs t (L6 _ h)) p2
  | false=>exact⟨ρ2,rfl,p2⟩
end
variable{ms:Mi (List Rr)}{rs:List Rr}{cn:Str}
section
variable{α β:Type}{ρ ρ0 ρ1 ρ2 ρ3:List Sl}{m n mk:Mi Rr}{t u:Mi Bool}{x y r rk:Rr}
theorem au{das:List A}(h:ms ρ=some (.ok rs,ρ1))(c:cw f das rs ρ1=some (.ok r,ρ2)):ai f das ms ρ=some (.ok r,ρ2):=by rw[jX,h];exact c
theorem aq(h:m ρ=some (.ok x,ρ1))(k:ms ρ1=some (.ok rs,ρ2)):aa m ms ρ=some (.ok (x::rs),ρ2):=by rw[qJ,h];dsimp only;rw[k]
theorem aG{f:A->A->Option Rr}(h:m ρ=some (.ok x,ρ1))(k:n ρ1=some (.ok y,ρ2))(o:opK f x y ρ2=some (.ok r,ρ3)):mOp f m n ρ=some (.ok r,ρ3):=by rw[FP,h];dsimp only;rw[k];exact o
theorem iG{f:A->Option Rr}(h:m ρ=some (.ok x,ρ1))(o:unK f x ρ1=some (.ok r,ρ2)):mUn f m ρ=some (.ok r,ρ2):=by rw[HR,h];exact o
theorem iO(h:m ρ=some (.ok x,ρ1))(o:fzK x ρ1=some (.ok r,ρ2)):mFz m ρ=some (.ok r,ρ2):=by rw[Gm,h];exact o
theorem cV(h:ms ρ=some (.ok rs,ρ1))(o:tupK rs ρ1=some (.ok r,ρ2)):aF ms ρ=some (.ok r,ρ2):=by rw[CJ,h];exact o
theorem cx(h:ms ρ=some (.ok rs,ρ1))(o:lstK rs ρ1=some (.ok r,ρ2)):bF ms ρ=some (.ok r,ρ2):=by rw[C8,h];exact o
theorem iK{das:List A}(h:ms ρ=some (.ok rs,ρ1))(c:fZ cn f das rs ρ1=some (.ok r,ρ2)):cI cn f das ms ρ=some (.ok r,ρ2):=by rw[kC,h];exact c
theorem sF{mn:Str}(h:m ρ=some (.ok x,ρ1))(c:u6 cn mn x ρ1=some (.ok r,ρ2)):bc cn mn m ρ=some (.ok r,ρ2):=by rw[yk,h];exact c
theorem bh{b:Bool}(h:m ρ=some (.ok (.fr (.bl b)),ρ1)):ao m ρ=some (.ok b,ρ1):=by rw[uX,h];rfl
theorem vA{b:Bool}(h:t ρ=some (.ok b,ρ1)):fN t ρ=some (.ok (!b),ρ1):=by rw[CU,h]
theorem DQ{b:Bool}(h:t ρ=some (.ok false,ρ1))(k:u ρ1=some (.ok b,ρ2)):mOr t u ρ=some (.ok b,ρ2):=by rw[Je,h];exact k
theorem mQ(h:t ρ=some (.ok false,ρ1)):jL t u ρ=some (.ok false,ρ1):=by rw[wm,h]
theorem jO{b:Bool}(h:t ρ=some (.ok true,ρ1))(k:u ρ1=some (.ok b,ρ2)):jL t u ρ=some (.ok b,ρ2):=by rw[wm,h];exact k
theorem zz(h:m ρ=none)(k:n ρ=some (.ok r,ρ1)):g9 m n ρ=some (.ok r,ρ1):=by rw[yc,h];exact k
theorem qZ(h:m ρ=some (.ok r,ρ1)):g9 m n ρ=some (.ok r,ρ1):=by rw[yc,h]
theorem aO(h:m ρ=some (.ok r,ρ1))(k:uy i r ρ1=some (.nx,ρ2)):aA i m ρ=some (.nx,ρ2):=by rw[CW,h];exact k
theorem bT{f:Fl}(h:m ρ=some (.ok r,ρ1))(k:EL r ρ1=some (f,ρ2)):aR m ρ=some (f,ρ2):=by rw[rK,h];exact k
theorem AR(h:m ρ=some (.ok r,ρ1)):aP m ρ=some (.nx,ρ1):=by rw[jw,h]
theorem J8{a:Sl}(h:stT r ρ=some (a,ρ1))(k:ρ1[i]?=some s)(hn:np s=true):uy i r ρ=some (.nx,ρ1.set i a):=by
 unfold uy;rw[h];dsimp only;rw[vf,k];dsimp only;rw[if_pos hn]
end
end M
namespace W
open PySem L2
noncomputable def vY(o:Obj):Bool:=match o.data with
 | .freed=>false
 | _=>true
noncomputable def lu:List Nat->List Obj->LU->LU
 | a::as,o::os,K=>lu as os (match vY o with|true=>(a,o)::K|false=>K)
 | _,_,K=>K
noncomputable def g6(h:Heap):LU:=match h.get? mainGlobals with
 | some o=>(mainGlobals,o)::lu (MD h.objs.size) h.objs.toList []
 | none=>[]
theorem lN{o:Obj}{a:Addr}:∀{K:LU},K.lookup a=some o->(a,o)∈K
 | (b,u)::K,e=>by
  rw[MC] at e
  split at e
  ·rename_i q;cases e;rw[beq_iff_eq.mp q];exact L8
  ·exact L6 _ (lN e)
theorem oU{h:Heap}:∀{as:List Nat}{os:List Obj}{K:LU},(∀(i a:Nat)(o:Obj),as[i]?=some a->os[i]?=some o->h.objs[a]?=some o)->(∀(a:Nat)(o:Obj),(a,o)∈K->h.get? a=some o)->∀a o,(a,o)∈lu as os K->h.get? a=some o
 | [],_,K,_,k=>by unfold lu;exact k
 | _::_,[],K,_,k=>by unfold lu;exact k
 | a::as,o::os,K,e,k=>by
  unfold lu
  refine oU (λi b u h1 h2=>e (i+1) b u h1 h2) ?_
  cases c:vY o with
  | false=>exact k
  | true =>
   intro b u m
   rcases Ml.mp m with m|m
   ·cases m
    unfold Heap.get?
    rw[e 0 a o rfl rfl]
    obtain⟨d1,d2,d3,d4⟩:=o
    cases d3<;>first|rfl|cases c
   ·exact k b u m
theorem kh(h:Heap):(g6 h).In h:=λa o e=>by
 have m:=lN e
 unfold g6 at m
 split at m
 ·rename_i o' eg
  rcases Ml.mp m with m|m
  ·cases m;exact eg
  ·refine oU (λi b u h1 h2=>?_) (λ_ _ q=>by cases q) a o m
   have hi:i<h.objs.size:=(Mb.mp h1).1 |> λq=>by rwa[Pj] at q
   rw[NS hi] at h1
   cases h1
   rw[<- OS]
   exact h2
 ·cases m
noncomputable def JY(K:LU)(n:Str):Option (Str×Str×Arguments×FuncBody×Scope×Addr×List (Str×Addr)×Value×Addr×Bool) :=
 match Pd K mainGlobals n with
 | some (some (.ref f))=>(match K.lookup f with
  | some ⟨_,_,.func d,_⟩=>some (d.name,d.qualname,d.params,d.body,d.scope,d.globals,d.closure,d.defaults,d.builtins,Of K d.code n&&ML K (.ref f))
  | _=>none)
 | _=>none
noncomputable def J9(n:Str)(st:Stmt):Option (Str×Str×Arguments×FuncBody×Scope×Addr×List (Str×Addr)×Value×Addr×Bool):=some (n,n,cU st,.stmts (bB st),aE st,mainGlobals,[],.none,builtinsNs,true)
noncomputable def KS(K:LU)(a:Addr)(i j:Int):Bool:=match K.lookup a with
 | some ⟨.type "tuple",none,.seq its _,_⟩=>(match its.toList with
  | [.int x _,.int y _]=>x==i&&y==j
  | _=>false)
 | _=>false
noncomputable def hkO(ds:List (Str×Stmt))(chk:LU->Bool)(K:LU):=(ds.map λx=>JY K x.1,chk K)
noncomputable def hkV(ds:List (Str×Stmt)):List (Option (Str×Str×Arguments×FuncBody×Scope×Addr×List (Str×Addr)×Value×Addr×Bool))×Bool:=(ds.map λx=>J9 x.1 x.2,true)
noncomputable def hk(ds:List (Str×Stmt))(chk:LU->Bool):QV where
 α:=List (Option (Str×Str×Arguments×FuncBody×Scope×Addr×List (Str×Addr)×Value×Addr×Bool))×Bool
 obs:=λs=>hkO ds chk (g6 s.heap)
 val:=λ_=>hkV ds
 says:=λ_ h=>∃K:LU,hkO ds chk K=hkV ds/\K.In h
 of:=λ_ s e=>⟨g6 s.heap,e,kh _⟩
 keeps:=λ_ _ _ ⟨K,e,i⟩ k=>⟨K,e,i.keeps k⟩
noncomputable def Hs(p:Program):List Stmt:=p.main.body.filter λs=>match s with | .FunctionDef n ..=>n==("law" : Str)|_=>false
noncomputable def HM:Stmt->List Str
 | .FunctionDef n ..=>[n]
 | .ClassDef n ..=>[n]
 | .Assign [.Name n _] _ _=>[n]
 | _=>[]
noncomputable def qOf(p:Program):Program:={ p with main:={ p.main with body:=Hs p } }
noncomputable def rN(p:Program):List Str:=(p.main.body.flatMap HM).filter λn=>n != ("law" : Str)
variable{q:Program}{loose:List Str}
theorem vN{l:Qw}{n k:Nat}{XP:(Str->Option Value)->Heap->Prop}{YP:World->Heap->Prop}{d:DefRec}{x:Str}{sp:LU->Sp}
  (hn:l.most=some n)(hn2:n<=sizeLine)(hdf:d.params.defaults=[])(hr:bz k callerA)
  (F:∀(w:World)(mg:Str->Option Value)(fa:Addr)(h:Heap),YP w h->h.Ns mainGlobals mg->mg d.name=some (.ref fa) ->
   ∃K:LU,K.In h/\∃fd:FuncData,(∀(s:Shared)(u:Value),BindsTo s fd ⟨[u],[]⟩ [(x,u)])/\∀base:Heap,K.In base->base.Ns mainGlobals mg->bW l.prog w K mg base (CXE l.prog w) k fa fd [x] (sp K))
  (hsp:∀(K:LU)(H:Hp)(a:Addr)(ns:List Int),ns.length<=n->FY H->SqL K H a (ns.map V.int)->sp K [.ref a] H (λv _=>v=.bl true) λ_ _ _=>False) :
  QN q loose XP YP l.row.toRowW d [] (λf vs=>Qs f vs):=by
 refine Att.ox hn hdf λw s₀ s₁ mg mb fa o pm cd doc a vs ns G Y ho hd hcd hmg hobj hints hlen hg=>?_
 obtain⟨K,KX,fd,hb,hF⟩:=F w mg fa _ Y G.T.g hmg
 exact xj KX G.T.g G.T.b G.T.builtins G.T.nolimit hg hobj hints (Mr hlen hn2) hr hF hb (λH hO hS=>hsp K H a ns hlen hO hS) λH e s' z=>by obtain⟨_,_,_,_,_,y⟩:=z;exact y
open PySem PySem.W PyProof.Rows
noncomputable abbrev Dh:=RP
noncomputable abbrev pW:=RQ
noncomputable abbrev J7:=RS
noncomputable abbrev v9:=RT
noncomputable abbrev C9:=RU
noncomputable abbrev CA:=RV
noncomputable abbrev u0:=RW
theorem xY:denote=Dh:=RX
theorem lG:treeTable=pW:=RY
theorem Bz:stepOk=J7:=RZ
theorem tI:stepT=v9:=R0
theorem vE:importEnds=C9:=R1
theorem w8:fenceModules?=CA:=R3
theorem uD:openSeen=u0:=R4
noncomputable def wG(p:Program)(w:World)(n₀:Nat)(ann:Option Value):Nat->SharedT->Thread->Option SharedT
 | 0,_,_=>none
 | m+1,s,t=>match through t with
  | true=>some s
  | false=>match J7 n₀ ann t with
   | false=>none
   | true=>match v9 (Dh pW) p w s t with
    | some (s',t')=>wG p w n₀ ann m s' t'
    | none=>none
theorem si{p:Program}{w:World}{n₀:Nat}{ann:Option Value}:∀{m:Nat}{s s2:SharedT}{t:Thread},wG p w n₀ ann m s t=some s2->topRun treeTable p w n₀ ann m s.abs t=some s2.abs
 | 0,_,_,_,e=>by cases e
 | m+1,s,s2,t,e=>by
  unfold wG at e
  rw[<- Bz,<- tI,<- xY,<- lG] at e
  unfold topRun
  cases et:through t with
  | true=>rw[et] at e;cases e;rfl
  | false =>
   rw[et] at e
   simp only at e ⊢
   cases eo:stepOk n₀ ann t with
   | false=>rw[eo] at e;cases e
   | true =>
    rw[eo] at e
    simp only at e ⊢
    cases es:stepT (denote treeTable) p w s t with
    | none=>rw[es] at e;cases e
    | some q =>
     obtain⟨s3,t3⟩:=q
     rw[es] at e
     rw[stepT_spec es]
     exact si e
noncomputable def tOf:List Obj->Nat->BT->Option BT
 | [],_,t=>some t
 | o::os,n,t=>match ((t.ins n o).get n).isSome with
  | true=>tOf os (n+1) (t.ins n o)
  | false=>none
theorem vh(l:Life):∀{os:List Obj}{n:Nat}{t t':BT},tOf os n t=some t'->absHeap t' (n+os.length) l=⟨(absHeap t n l).objs++os.toArray,l⟩
 | [],n,t,t',e=>by
  cases e
  show absHeap t n l=⟨(absHeap t n l).objs++#[],l⟩
  rw[Array.append_empty]
  rfl
 | o::os,n,t,t',e=>by
  unfold tOf at e
  cases eg:((t.ins n o).get n).isSome with
  | false=>rw[eg] at e;cases e
  | true =>
   rw[eg] at e
   have i:=vh l e
   rw[absHeap_ins eg] at i
   have e2:n+1+os.length=n+(o::os).length:=by rw[LX];omega
   rw[<- e2,i]
   show Heap.mk (((absHeap t n l).objs.push o)++os.toArray) l=_
   simp
theorem vV{h:Heap}{t:BT}(e:tOf h.objs.toList 0 .nil=some t):absHeap t h.objs.size h.life=h:=by
 have i:=vh h.life e
 rw[Pq,Nr] at i
 rw[i]
 obtain⟨objs,l⟩:=h
 show Heap.mk (#[]++objs.toList.toArray) l=_
 simp
noncomputable def Hb(p:Program)(w:World)(N:Nat)(s₀:Shared):Option Shared:=match s₀.heap.isNs mainGlobals&&s₀.gens.size==0 with
 | true=>match tOf s₀.heap.objs.toList 0 .nil with
  | some t=>(wG p w s₀.heap.objs.size (s₀.heap.nsMap mainGlobals "__annotations__") N ⟨t,s₀.heap.objs.size,s₀.heap.life,s₀.gens,s₀.drawn,s₀.toks,s₀.os⟩ (topStub p)).bind λq=>match staticsOk (importedModules p.main.body) s₀.heap q.abs.heap&&namesBound p q.abs.heap&&gensDone q.abs&&laidKept s₀.heap q.abs.heap with
   | true=>some q.abs
   | false=>none
  | none=>none
 | false=>none
variable{p:Program}{w:World}{N:Nat}{s:Shared}
theorem zF{s₀:Shared}(e:Hb p w N s₀=some s):topFrom treeTable p w N s₀=some s:=by
 unfold Hb at e
 unfold topFrom
 cases e1:s₀.heap.isNs mainGlobals&&s₀.gens.size==0 with
 | false=>rw[e1] at e;cases e
 | true =>
  rw[e1] at e
  simp only at e ⊢
  cases e2:tOf s₀.heap.objs.toList 0 .nil with
  | none=>rw[e2] at e;cases e
  | some t =>
   rw[e2] at e
   simp only at e
   cases e3:wG p w s₀.heap.objs.size (s₀.heap.nsMap mainGlobals "__annotations__") N ⟨t,s₀.heap.objs.size,s₀.heap.life,s₀.gens,s₀.drawn,s₀.toks,s₀.os⟩ (topStub p) with
   | none=>rw[e3] at e;cases e
   | some q =>
    rw[e3] at e
    have k:=si e3
    have k0:Q6 ⟨t,s₀.heap.objs.size,s₀.heap.life,s₀.gens,s₀.drawn,s₀.toks,s₀.os⟩=s₀:=by
     unfold Q6
     rw[vV e2]
    rw[k0] at k
    rw[k]
    exact e
noncomputable def rq(p:Program)(w:World)(N:Nat):Option Shared:=((C9 pW (opening p) w N (start (opening p)).1 (start (opening p)).2).bind (CA p)).bind (Hb p w N)
theorem vZ(e:rq p w N=some s):openEnds treeTable p w N=some s:=by
 unfold rq at e
 unfold openEnds fencedOpening
 rw[<- vE,<- lG,<- w8] at e
 cases e1:(importEnds treeTable (opening p) w N (start (opening p)).1 (start (opening p)).2).bind (fenceModules? p) with
 | none=>rw[e1] at e;cases e
 | some s0=>rw[e1] at e;exact zF e
theorem xN{Xt:Shared->Bool}{α:Type}{Yf:Shared->α}{Ya:World->α}
  (h:∀w,Option.map (λs=>(u0 q loose (importedModules p.main.body) Xt true s,Yf s)) (rq p w N)=some (openGood q loose,Ya w)):LeftO p q loose Xt Yf Ya N:=λw=>by
 have h:=h w
 rw[<- uD] at h
 cases e:rq p w N with
 | none=>rw[e] at h;cases h
 | some s=>rw[e] at h;rw[vZ e];exact h
end W
namespace M
open PySem L2
structure FI where
 n:Nat
 m:Ms
 mu:List Bool
 df:List A
 hf:Bool
structure Tb where
 fns:List (Str×FI)
 cst:List (Str×A)
 exs:List Str
 kit:List (Str×List (Str×Bool))
 exm:List (Str×List Str)
 fld:List (Str×List Str)
 ini:List (Str×FI)
 mts:List (Str×Str×FI)
structure Sc where
 N:List Str
 nm:List (Str×NameKind)
 di:List Str
 ca:List Str
 hd:Bool
 lv:List Str
 tp:Bool:=false
noncomputable def noT(s:Sc):Sc:={ s with tp:=false }
noncomputable def aj{α β:Type}(x:Option α)(f:α->Option β):Option β:=match x with
 | some a=>f a
 | none=>none
noncomputable def grd{α:Type}(b:Bool)(x:Option α):Option α:=match b with
 | true=>x
 | false=>none
variable{α:Type}
theorem ae{β:Type}{x:Option α}{f:α->Option β}{y:β}(h:aj x f=some y):∃a,x=some a/\f a=some y:=by
 cases x with
 | none=>cases h
 | some a=>exact⟨a,rfl,h⟩
theorem ar{b:Bool}{x:Option α}{y:α}(h:grd b x=some y):b=true/\x=some y:=by
 cases b with
 | false=>cases h
 | true=>exact⟨rfl,h⟩
noncomputable def isK(s:Sc)(x:Str)(k:NameKind):Bool:=s.nm.lookup x==some k
noncomputable def yP(s:Sc)(x:Str):Bool:=isK s x .local || isK s x .cell || isK s x .free
noncomputable def nW(s:Sc)(x:Str):Bool:=isK s x .local || isK s x .cell
noncomputable def okN(x:Str):Bool:=!(x==("__debug__" : Str))&&!(x==("__classdict__" : Str))
noncomputable def glB(s:Sc)(x:Str):Bool:=isK s x .globalImplicit&&okN x
noncomputable def ixN(x:Str):List Str->Nat->Option Nat
 | [],_=>none
 | y::ys,i=>if x==y then some i else ixN x ys (i+1)
theorem kb{x:Str}:∀{N:List Str}{k i:Nat},ixN x N k=some i->∃j,i=k+j/\N[j]?=some x
 | [],_,_,h=>by cases h
 | y::ys,k,i,h=>by
  unfold ixN at h
  split at h
  ·rename_i e;cases h;exact⟨0,rfl,by rw[beq_iff_eq.mp e];rfl⟩
  ·obtain⟨j,e1,e2⟩:=kb h;exact⟨j+1,by omega,by simpa using e2⟩
noncomputable def slot(s:Sc)(x:Str):Option Nat:=grd (yP s x&&okN x) (ixN x s.N 0)
noncomputable def eM(s:Sc)(x:Str):Option Nat:=grd (nW s x&&okN x) (ixN x s.N 0)
noncomputable def z3:List Str:=["len", "isinstance", "abs", "max", "min", "int", "bool", "str", "tuple", "list", "dict", "range", "ValueError", "sorted", "all", "zip", "set", "sum", "enumerate", "any", "reversed"]
def ie(K:LU)(mg:Str->Option Value)(fd:FuncData)(ps:List Str)(df:List A):Prop:=∀j,j<=df.length->∃ds dvs,Binds K fd ps ds/\Vals dvs ds/\∀G,RAs ⟨K,mg⟩ G dvs (df.drop j)
noncomputable def oZ(fi:FI)(n:Nat):List A:=fi.df.drop (fi.df.length-(fi.n-n))
variable{K:LU}{mg:Str->Option Value}{fd:FuncData}{ps:List Str}
theorem ie.of{fi:FI}(h:ie K mg fd ps fi.df)(n:Nat):∃ds dvs,Binds K fd ps ds/\Vals dvs ds/\∀G,RAs ⟨K,mg⟩ G dvs (oZ fi n):=h _ (R9 _ _)
theorem ie.all{df:List A}(h:ie K mg fd ps df):Binds K fd ps []:=by
 obtain⟨ds,dvs,h1,h2,h3⟩:=h df.length (Md _)
 have h3:=h3 λ_=>none
 rw[NP] at h3
 cases h3
 cases h2
 exact h1
noncomputable def xV(tb:Tb)(f:Str):List Str:=(tb.fld.filter λp=>p.2.contains f).map (·.1)
noncomputable def nO(tb:Tb)(m:Str):List (Str×FI):=tb.mts.filterMap λp=>if p.1==m then some p.2 else none
structure Gd (tb:Tb) (k:Nat) (P:Program) (w:World) (K:LU) (mg:Str->Option Value) (base:Heap):Prop where
 fn:∀x f,tb.fns.lookup x=some f->∃a fd ps,bW P w K mg base (CXE P w) k a fd ps (SpM ⟨K,mg⟩ f.n f.m)/\mg x=some (.ref a)/\ML K (.ref a)=true/\ie K mg fd ps f.df
 cs:∀x a,tb.cst.lookup x=some a->∃v u,mg x=some u/\RelV v u/\∀G,RA ⟨K,mg⟩ G v a
 bl:∀x∈z3,mg x=none
 ex:∀x∈tb.exs,∃C,mg x=some (.ref C)/\N8 K C rY "ValueError.__new__" = true
 kt:∀x l,tb.kit.lookup x=some l->∃u cv,dI cv=true/\RelV cv u/\((mg x=some u)\/(mg x=none/\bootBuiltins x=some u/\x ≠ "__name__"))/\∀c C k,l.lookup c=some k->mg c=some (.ref C)->fW K C/\MG K (.ref C) (gi cv)=some k
 em:∀x l,tb.exm.lookup x=some l->∃T,mg x=some (.ref T)/\∀c C,l.contains c=true->mg c=some (.ref C)->OT K (.ref C) (.ref T)=some true
 fl:∀f c C,(xV tb f).contains c=true->mg c=some (.ref C)->Cls K C/\dZ K C f
 im:∀c f,tb.ini.lookup c=some f->∃C a fd ps j,j+1<=k/\bW P w K mg base (CXE P w) j a fd ps (SpM ⟨K,mg⟩ f.n f.m)/\mg c=some (.ref C)/\Mk K C a/\ie K mg fd ps f.df
 mt:∀m c f,(m,c,f)∈tb.mts->∃C a fd ps,bW P w K mg base (CXE P w) k a fd ps (SpM ⟨K,mg⟩ f.n f.m)/\mg c=some (.ref C)/\Cls K C/\Meth K C m a/\ie K mg fd ps f.df
 fh:∀x f,tb.fns.lookup x=some f->f.hf=true->∃a fd ps,FnH P w K mg base (CXE P w) k a fd ps (SpM ⟨K,mg⟩ f.n f.m)/\mg x=some (.ref a)/\ML K (.ref a)=true/\ie K mg fd ps f.df
structure Sit (tb:Tb) (k:Nat) (X:Cx) (E:XK) (s:Sc):Prop where
 n:X.N=s.N
 nd:s.N.Nodup
 gl:∀x,s.nm.lookup x=some .globalImplicit->Gl X x
 vs:∀x,yP s x=true->Vis X.env.scope x
 lo:∀x,nW s x=true->Loc X.env.scope x
 lc:∀x,s.nm.lookup x=some .local->X.env.scope.names.lookup x=some .local
 ce:∀x,s.nm.lookup x=some .cell->X.env.scope.names.lookup x=some .cell
 fx:∀x,nW s x=true->X.fn x=true\/X.env.scope.names.lookup x=some .local
 cm:s.hd=false->X.calm=true
 rm:s.hd=false->bz k X.A
 ps:s.hd=false->Passes (CXE X.prog X.w) X E
 gd:Gd tb k X.prog X.w X.K X.mg X.base
 rh:dH k X.A
 tv:s.tp=true->X.stack=X.env::X.outer/\X.env.frame=some X.env.locals/\i6 X E
variable{x:Str}
section
variable{tb:Tb}{k:Nat}{X:Cx}{E:XK}{s:Sc}
theorem mH(h:okN x=true):NDb x/\NCd x:=by
 unfold okN at h
 rw[LV] at h
 exact⟨by simpa using h.1,by simpa using h.2⟩
theorem Sit.slot(S:Sit tb k X E s){i:Nat}(h:M.slot s x=some i):X.N[i]?=some x/\Vis X.env.scope x/\NDb x/\NCd x:=by
 obtain⟨h1,h2⟩:=ar h
 rw[LV] at h1
 obtain⟨j,e1,e2⟩:=kb h2
 obtain rfl:i=j:=by omega
 exact⟨by rw[S.n];exact e2,S.vs x h1.1,(mH h1.2).1,(mH h1.2).2⟩
theorem Sit.eM(S:Sit tb k X E s){i:Nat}(h:M.eM s x=some i):X.N[i]?=some x/\Loc X.env.scope x/\NDb x/\(X.fn x=true\/X.env.scope.names.lookup x=some .local):=by
 obtain⟨h1,h2⟩:=ar h
 rw[LV] at h1
 obtain⟨j,e1,e2⟩:=kb h2
 obtain rfl:i=j:=by omega
 exact⟨by rw[S.n];exact e2,S.lo x h1.1,(mH h1.2).1,S.fx x h1.1⟩
theorem Sit.glob(S:Sit tb k X E s)(h:glB s x=true):Gl X x/\NDb x:=by
 unfold glB isK at h
 rw[LV,beq_iff_eq] at h
 exact⟨S.gl x h.1,(mH h.2).1⟩
end
noncomputable def notStar:Expr->Bool
 | .Starred _ _=>false
 | _=>true
variable{e:Expr}
theorem aB(h:notStar e=true)(es:List Expr)(env:Env):starEach (e::es) env=(false,eval e env)::starEach es env:=by cases e<;>first|rfl|cases h
theorem bX{env:Env}{pos:Pos}:∀{es:List Expr},es.all notStar=true->(backTo pos (starEach es env)).any (·.1)=false
 | [],_=>rfl
 | e::es,h=>by
  rw[Mu,LV] at h
  rw[aB h.1]
  show (false || (backTo pos (starEach es env)).any (·.1))=false
  rw[bX h.2];rfl
noncomputable def iU:Expr->Bool
 | .ListComp _ _ _ _=>false
 | .SetComp _ _ _ _=>false
 | .DictComp _ _ _ _ _=>false
 | _=>true
theorem c0(h:iU e=true)(t:Option Expr)(l:Nat)(env:Env):swapsWith e t l env=pure false:=by cases e<;>first|rfl|cases h
noncomputable def fq:Expr->Bool
 | .Set _ _ _=>false
 | _=>true
theorem iB(h:fq e=true)(env:Env)(x:Value):foldedSetIterable e env x=pure x:=by cases e<;>first|rfl|cases h
noncomputable def plainT:Expr->Bool
 | .UnaryOp _ _ _=>false
 | .BoolOp _ _ _=>false
 | .IfExp _ _ _ _=>false
 | .Compare _ _ _ _=>false
 | _=>true
theorem p5(h:plainT e=true)(env:Env):∀whole,isTrue e env whole=(do let v <- whole;standAt e.pos;holding [v] (truthy v)):=by
 intro whole;cases e<;>first|rfl|cases h
noncomputable def gE:Expr->Bool
 | .Slice _ _ _ _=>false
 | _=>true
theorem qt(h:gE e=true):jQ e:=by intro o i;cases e<;>first|rfl|cases h
theorem zP(h:gE e=true):vL e:=by intro o i;cases e<;>first|rfl|cases h
variable{op:CmpOp}
theorem gy(h:fq e=true):behindInMarks op e=false:=by cases e<;>first|rfl|cases h
theorem so{env:Env}:∀es:List Expr,(assignEach es env).length=es.length
 | []=>rfl
 | e::es=>by cases e<;>(show (_::assignEach es env).length=_;rw[LX,LX,so es])
theorem nT{env:Env}:∀es:List Expr,es.all notStar=true->(assignEach es env).findIdx? (·.1)=none
 | [],_=>rfl
 | e::es,h=>by
  rw[Mu,LV] at h
  have ih:=nT (env:=env) es h.2
  have e1:assignEach (e::es) env=(false,assign e env)::assignEach es env:=by cases e<;>first|rfl|cases h.1
  rw[e1,List.findIdx?_cons]
  simp[ih]
variable{env:Env}{es:List Expr}
theorem xk(h:notStar e=true):(assignEach (e::es) env).map (·.2)=assign e env::(assignEach es env).map (·.2):=by cases e<;>first|rfl|cases h
noncomputable def EU(l:List (Str×Bool)):Str->Option Bool:=λc=>l.lookup c
noncomputable def DE(l:List Str):Str->Bool:=λc=>l.contains c
variable{m q:Mi Rr}{pos p:Pos}{f:Str}
section
variable{tb:Tb}{k:Nat}{X:Cx}{E:XK}{s:Sc}
noncomputable def p6(F:Expr->Option (Mi Rr)):List Expr->Option (Mi (List Rr))
 | []=>some ag
 | e::es=>grd (notStar e) (aj (F e) λm=>aj (p6 F es) λn=>some (aa m n))
noncomputable def yJ(F G:Expr->Option (Mi Rr)):List Expr->List Bool->Option (Mi (List Rr))
 | [],_=>some ag
 | e::es,b::bs=>grd (notStar e) (aj (match b with|true=>F e|false=>G e) λm=>aj (yJ F G es bs) λn=>some (aa m n))
 | _::_,[]=>none
def NL(m:Mi (List Rr))(n:Nat):Prop:=∀ρ rs ρ',m ρ=some (.ok rs,ρ')->rs.length=n
theorem gW{F:Expr->Option (Mi Rr)}(h:∀e m,F e=some m->JE X E e m):∀{es:List Expr}{m:Mi (List Rr)},p6 F es=some m->JA X E es m/\NL m es.length/\es.all notStar=true
 | [],m,e=>by cases e;exact⟨yb,xm,rfl⟩
 | a::es,m,e=>by
  obtain⟨h1,e⟩:=ar e
  obtain⟨m1,e1,e⟩:=ae e
  obtain⟨m2,e2,e⟩:=ae e
  cases e
  obtain⟨i1,i2,i3⟩:=gW h e2
  exact⟨sd (h _ _ e1) i1 (aB h1 _ _),rV i2,by rw[Mu,h1,i3];rfl⟩
theorem eU{F G:Expr->Option (Mi Rr)}(h:∀e m,F e=some m->JE X E e m)(g:∀e m,G e=some m->JE X E e m):∀{es:List Expr}{bs:List Bool}{m:Mi (List Rr)},yJ F G es bs=some m->JA X E es m/\NL m es.length/\es.all notStar=true
 | [],_,m,e=>by cases e;exact⟨yb,xm,rfl⟩
 | _::_,[],m,e=>by cases e
 | a::es,b::bs,m,e=>by
  obtain⟨h1,e⟩:=ar e
  obtain⟨m1,e1,e⟩:=ae e
  obtain⟨m2,e2,e⟩:=ae e
  cases e
  obtain⟨i1,i2,i3⟩:=eU h g e2
  refine⟨sd ?_ i1 (aB h1 _ _),rV i2,by rw[Mu,h1,i3];rfl⟩
  cases b
  ·exact g _ _ e1
  ·exact h _ _ e1
noncomputable def trB(op:BoolOp)(F:Expr->Option (Mi Rr)):List Expr->Option (Mi Rr)
 | []=>none
 | [a]=>F a
 | a::b::r=>aj (F a) λm=>aj (trB op F (b::r)) λn=>some (match op with | .And=>lY m n | .Or=>Bx m n)
theorem yf{op:BoolOp}{F:Expr->Option (Mi Rr)}{pos:Pos}(h:∀e m,F e=some m->JE X E e m):∀{es:List Expr}{m:Mi Rr},trB op F es=some m->JE X E (.BoolOp op es pos) m
 | [],m,e=>by cases e
 | [a],m,e=>Dq (h _ _ e)
 | a::b::r,m,e=>by
  obtain⟨m1,e1,e⟩:=ae e
  obtain⟨m2,e2,e⟩:=ae e
  have i:=yf (pos:=pos) h e2
  cases op
  ·cases e;exact DL (h _ _ e1) i
  ·cases e;exact IM (h _ _ e1) i
noncomputable def trW(op:BoolOp)(F:Expr->Option (Mi Bool)):List Expr->Option (Mi Bool)
 | []=>none
 | [a]=>F a
 | a::b::r=>aj (F a) λm=>aj (trW op F (b::r)) λn=>some (match op with | .And=>jL m n | .Or=>mOr m n)
theorem vc{op:BoolOp}{F:Expr->Option (Mi Bool)}{pos:Pos}(h:∀e m,F e=some m->JT X E e m):∀{es:List Expr}{m:Mi Bool},trW op F es=some m->JW X E (.BoolOp op es pos) m
 | [],m,e=>by cases e
 | [a],m,e=>by cases op;exact zf (h _ _ e);exact F8 (h _ _ e)
 | a::b::r,m,e=>by
  obtain⟨m1,e1,e⟩:=ae e
  obtain⟨m2,e2,e⟩:=ae e
  have i:=vc (pos:=pos) h e2
  cases op
  ·cases e;exact Ew (h _ _ e1) i
  ·cases e;exact Hv (h _ _ e1) i
noncomputable def trC(s:Sc)(op:CmpOp)(a b:Expr)(m n:Mi Rr):Option (Mi Rr):=match op with
 | .Eq=>grd (!s.hd) (some (mOp fEq m n))
 | .NotEq=>grd (!s.hd) (some (mOp fNe m n))
 | .Lt=>some (mOp fLt m n)
 | .LtE=>some (mOp fLe m n)
 | .Gt=>some (mOp fGt m n)
 | .GtE=>some (mOp fGe m n)
 | .Is=>some (mOp (fIs false) m n)
 | .IsNot=>some (mOp (fIs true) m n)
 | .In=>grd (!s.hd&&fq b) (some (mOp (fOr (fOr (d9 false) (cY false)) (gq false)) m n))
 | .NotIn=>grd (!s.hd&&fq b) (some (mOp (fOr (fOr (d9 true) (cY true)) (gq true)) m n))
theorem Dz(S:Sit tb k X E s){a b:Expr}{n:Mi Rr}(h:trC s op a b m n=some q)(ha:JE X E a m)(hb:JE X E b n):JE X E (.Compare a [op] [b] pos) q/\JT X E (.Compare a [op] [b] pos) (ao q):=by
 cases op
 case Eq =>
  obtain⟨h1,h⟩:=ar h
  have hu:=(S.rm (by simpa using h1)).units
  cases h
  exact⟨Ks hu ha hb,JN hu ha hb⟩
 case NotEq =>
  obtain⟨h1,h⟩:=ar h
  have hu:=(S.rm (by simpa using h1)).units
  cases h
  exact⟨Iy hu ha hb,Ik hu ha hb⟩
 case Lt=>cases h;exact⟨HC ha hb,Jh ha hb⟩
 case LtE=>cases h;exact⟨HY ha hb,Hq ha hb⟩
 case Gt=>cases h;exact⟨Hz ha hb,HS ha hb⟩
 case GtE=>cases h;exact⟨IW ha hb,JQ ha hb⟩
 case Is =>
  cases h;exact⟨Ib ha hb,IT ha hb⟩
 case IsNot =>
  cases h;exact⟨z7 ha hb,AX ha hb⟩
 case In =>
  obtain⟨h1,h⟩:=ar h
  rw[LV] at h1
  have hu:=rW (S.rm (by simpa using h1.1))
  cases h
  exact⟨Ed hu ha hb (gy h1.2),Fh hu ha hb (gy h1.2)⟩
 case NotIn =>
  obtain⟨h1,h⟩:=ar h
  rw[LV] at h1
  have hu:=rW (S.rm (by simpa using h1.1))
  cases h
  exact⟨zp hu ha hb (gy h1.2),zY hu ha hb (gy h1.2)⟩
noncomputable def chI:CmpOp->Option (Int->Int->Bool)
 | .Lt=>some cLt
 | .LtE=>some cLe
 | .Gt=>some cGt
 | .GtE=>some cGe
 | _=>none
theorem y6{p:Int->Int->Bool}(h:chI op=some p):∃r,OpR X (compareOp op) r/\∀i j H Q,Q (.bl (p i j)) H->r (.int i) (.int j) H Q:=by
 cases op<;>first|(cases h;done)|skip
 ·cases h;exact⟨_,rE,Dc⟩
 ·cases h;exact⟨_,rz,Cr⟩
 ·cases h;exact⟨_,we,Ka⟩
 ·cases h;exact⟨_,uZ,Ky⟩
noncomputable def bf1(f:Str):Option (A->Option Rr) :=
 if f==("len" : Str) then some cW else if f==("abs" : Str) then some uf else if f==("int" : Str) then some p8 else if f==("tuple" : Str) then some fQ else
 if f==("list" : Str) then some rT else if f==("all" : Str) then some (oW λbs=>bs.all id) else none
theorem bV(S:Sit tb k X E s)(h:z3.contains x=true):X.mg x=none:=S.gd.bl x (NH.mp h)
theorem E6(S:Sit tb k X E s){g:A->Option Rr}{a:Expr}(h:bf1 f=some g)(hg:glB s f=true)(hh:s.hd=false)(hs:notStar a=true)(ha:JE X E a m):JE X E (.Call (.Name f p) [a] [] pos) (mB1 g m):=by
 obtain⟨g1,g2⟩:=S.glob hg
 have hc:=S.cm hh
 have h1:=aB hs [] X.env
 have h2:(backTo pos (starEach [] X.env)).any (·.1)=false:=rfl
 unfold bf1 at h
 split at h
 ·rename_i z;rw[beq_iff_eq] at z;subst z;cases h;exact xM yY G8 g1 (bV S (by decide +kernel)) E4 ha (by decide +kernel) g2 h1 h2
 split at h
 ·rename_i z;rw[beq_iff_eq] at z;subst z;cases h;exact xM u3 DJ g1 (bV S (by decide +kernel)) Gw ha (by decide +kernel) g2 h1 h2
 split at h
 ·rename_i z;rw[beq_iff_eq] at z;subst z;cases h;exact yo uE Fq g1 (bV S (by decide +kernel)) vS ha (by decide +kernel) g2 h1 h2
 split at h
 ·rename_i z;rw[beq_iff_eq] at z;subst z;cases h;exact yo kY yL g1 (bV S (by decide +kernel)) ou ha (by decide +kernel) g2 h1 h2
 split at h
 ·rename_i z;rw[beq_iff_eq] at z;subst z;cases h;exact yo mq zK g1 (bV S (by decide +kernel)) sJ ha (by decide +kernel) g2 h1 h2
 split at h
 ·rename_i z;rw[beq_iff_eq] at z;subst z;cases h;exact xM (v8 hc) FQ g1 (bV S (by decide +kernel)) wu ha (by decide +kernel) g2 h1 h2
 ·cases h
noncomputable def bf2(f:Str):Option (A->A->Option Rr):=if f==("max" : Str) then some tF else if f==("min" : Str) then some t5 else none
theorem yV(S:Sit tb k X E s){g:A->A->Option Rr}{a b:Expr}{n:Mi Rr}(h:bf2 f=some g)(hg:glB s f=true)(hh:s.hd=false)(hs:notStar a=true)(hs':notStar b=true)(ha:JE X E a m)(hb:JE X E b n):JE X E (.Call (.Name f p) [a,b] [] pos) (mB2 g m n):=by
 obtain⟨g1,g2⟩:=S.glob hg
 have hc:=S.cm hh
 have h1:=aB hs [b] X.env
 have h3:=aB hs' [] X.env
 have h2:(backTo pos (starEach [b] X.env)).any (·.1)=false:=bX (by rw[Mu,hs'];rfl)
 unfold bf2 at h
 split at h
 ·rename_i z;rw[beq_iff_eq] at z;subst z;cases h;exact Cs (uq hc) GU g1 (bV S (by decide +kernel)) F6 ha hb (by decide +kernel) g2 h1 h3 h2
 split at h
 ·rename_i z;rw[beq_iff_eq] at z;subst z;cases h;exact Cs (ue hc) En g1 (bV S (by decide +kernel)) Ee ha hb (by decide +kernel) g2 h1 h3 h2
 ·cases h
noncomputable def tyN(x:Str):Option Ty:=if x==("int" : Str) then some .int else if x==("bool" : Str) then some .bool else if x==("str" : Str) then some .str else if x==("tuple" : Str) then some .tuple else if x==("list" : Str) then some .list else if x==("dict" : Str) then some .dict else none
theorem Ec{T:Ty}(h:tyN x=some T):bootBuiltins x=some (.type T.n)/\z3.contains x=true/\x ≠ "__name__" := by
 unfold tyN at h
 split at h
 ·rename_i z;rw[beq_iff_eq] at z;subst z;cases h;exact⟨vS,by decide +kernel,by decide +kernel⟩
 split at h
 ·rename_i z;rw[beq_iff_eq] at z;subst z;cases h;exact⟨Ba,by decide +kernel,by decide +kernel⟩
 split at h
 ·rename_i z;rw[beq_iff_eq] at z;subst z;cases h;exact⟨Fw,by decide +kernel,by decide +kernel⟩
 split at h
 ·rename_i z;rw[beq_iff_eq] at z;subst z;cases h;exact⟨ou,by decide +kernel,by decide +kernel⟩
 split at h
 ·rename_i z;rw[beq_iff_eq] at z;subst z;cases h;exact⟨sJ,by decide +kernel,by decide +kernel⟩
 split at h
 ·rename_i z;rw[beq_iff_eq] at z;subst z;cases h;exact⟨BC,by decide +kernel,by decide +kernel⟩
 ·cases h
end
structure Tr where
 E:Sc->Expr->Option (Mi Rr)
 T:Sc->Expr->Option (Mi Bool)
 I:Sc->Expr->Expr->Option (Mi (List A))
structure cj (tb:Tb) (k:Nat) (r:Tr):Prop where
 E:∀{X E s e m},Sit tb k X E s->r.E s e=some m->JE X E e m
 T:∀{X E s e m},Sit tb k X E s->r.T s e=some m->JT X E e m
 I:∀{X E s tg e m},Sit tb k X E s->r.I s tg e=some m->JI X E tg e m
noncomputable def trG(s:Sc)(lo:Nat):Nat->Expr->Option Mg
 | 0,_=>none
 | d+1,.Name x _=>aj (eM s x) λi=>grd (Oi lo i) (some (aM i))
 | d+1,.Tuple es _ _=>grd (!s.hd) (aj (trGs (trG s lo d) es) λgs=>some (gR es.length gs))
 | _+1,_=>none
where trGs (F:Expr->Option Mg):List Expr->Option Mgs
 | []=>some hZ
 | e::es=>grd (notStar e) (aj (F e) λg=>aj (trGs F es) λgs=>some (aU g gs))
variable{r:Tr}{tg:Expr}
section
variable{tb:Tb}{k:Nat}{X:Cx}{E:XK}{s:Sc}
theorem rP{lo:Nat}{F:Expr->Option Mg}(h:∀e g,F e=some g->JG X lo e g):∀{es:List Expr}{gs:Mgs},trG.trGs F es=some gs->JGs X lo es gs/\es.all notStar=true
 | [],gs,e=>by cases e;exact⟨zI,rfl⟩
 | a::es,gs,e=>by
  obtain⟨h1,e⟩:=ar e
  obtain⟨g,e1,e⟩:=ae e
  obtain⟨gs',e2,e⟩:=ae e
  cases e
  obtain⟨i1,i2⟩:=rP h e2
  exact⟨u7 (h _ _ e1) i1 (λx y=>vd x y (xk h1)),by rw[Mu,h1,i2];rfl⟩
theorem jU(S:Sit tb k X E s){lo:Nat}:∀{d:Nat}{e:Expr}{g:Mg},trG s lo d e=some g->JG X lo e g
 | 0,e,g,h=>by cases h
 | d+1,e,g,h=>by
  unfold trG at h
  split at h
  ·rename_i heq;cases heq
  ·rename_i heq;cases heq
   obtain⟨i,e1,h⟩:=ae h
   obtain⟨h1,h⟩:=ar h
   cases h
   obtain⟨a1,a2,a3,a4⟩:=S.eM e1
   exact zH (by rw[S.n];exact S.nd) a1 a2 (MX h1) a4
  ·rename_i heq;cases heq
   obtain⟨h0,h⟩:=ar h
   obtain⟨gs,e1,h⟩:=ae h
   cases h
   obtain⟨i1,i2⟩:=rP (λe g h=>jU S h) e1
   have hc:=S.cm (by simpa using h0)
   exact DX hc i1 (so _) (nT _ i2)
  ·cases h
noncomputable def LP:Expr->Bool
 | .Name _ _=>true
 | _=>false
noncomputable def FK(r:Tr)(s:Sc)(tg:Expr):Expr->Option (Mi (List A))
 | .Call (.Name f p) [a] [] pos=>match f==("range" : Str) with
  | true=>grd (glB s f&&notStar a) (aj (r.E s a) λm=>some (gB m))
  | false=>aj (r.E s (.Call (.Name f p) [a] [] pos)) λm=>some (cX m)
 | .Call (.Name f p) [a,b] [] pos=>match f==("range" : Str) with
  | true=>grd (glB s f&&notStar a&&notStar b) (aj (r.E s a) λm=>aj (r.E s b) λn=>some (oG m n))
  | false=>aj (r.E s (.Call (.Name f p) [a,b] [] pos)) λm=>some (cX m)
 | e=>aj (r.E s e) λm=>some (cX m)
theorem zO(R:cj tb k r)(S:Sit tb k X E s){m:Mi (List A)}(h:FK r s tg e=some m):JI X E tg e m:=by
 unfold FK at h
 split at h
 ·split at h
  ·rename_i z;rw[beq_iff_eq] at z;subst z
   obtain⟨h1,h⟩:=ar h
   rw[LV] at h1
   obtain⟨m1,e1,h⟩:=ae h
   cases h
   exact AQ (S.glob h1.1).1 (bV S (by decide +kernel)) (R.E S e1) (aB h1.2 _ _) (aB h1.2 _ _)
  ·obtain⟨m1,e1,h⟩:=ae h
   cases h;exact pP (R.E S e1)
 ·split at h
  ·rename_i z;rw[beq_iff_eq] at z;subst z
   obtain⟨h1,h⟩:=ar h
   rw[LV,LV] at h1
   obtain⟨m1,e1,h⟩:=ae h
   obtain⟨m2,e2,h⟩:=ae h
   cases h
   have k1:=aB h1.1.2
   have k2:=aB h1.2
   exact Av (S.glob h1.1.1).1 (bV S (by decide +kernel)) (R.E S e1) (R.E S e2) (by rw[k1,k2];rfl) (by rw[k2];rfl) (k1 _ _) (k2 _ _)
  ·obtain⟨m1,e1,h⟩:=ae h
   cases h;exact pP (R.E S e1)
 ·obtain⟨m1,e1,h⟩:=ae h
  cases h;exact pP (R.E S e1)
noncomputable def oor{α:Type}(a b:Option α):Option α:=match a with
 | some x=>some x
 | none=>b
theorem dy{a b:Option α}{x:α}(h:oor a b=some x):a=some x\/b=some x:=by
 cases a with
 | none=>exact .inr h
 | some y=>exact .inl h
noncomputable def trI(r:Tr)(s:Sc)(tg e:Expr):Option (Mi (List A)):=oor (r.I s tg e) (FK r s tg e)
theorem pY(R:cj tb k r)(S:Sit tb k X E s){m:Mi (List A)}(h:trI r s tg e=some m):JI X E tg e m:=by
 rcases dy h with h|h
 ·exact R.I S h
 ·exact zO R S h
noncomputable def tgN:Nat->Expr->List Str
 | 0,_=>[]
 | _+1,.Name x _=>[x]
 | d+1,.Tuple es _ _=>es.flatMap (tgN d)
 | _+1,_=>[]
noncomputable def Ip(N own:List Str):List Str:=N.map (λn=>if own.contains n then n++(" (of the def)" : Str) else n)++own
noncomputable def pB(s:Sc)(N:List Str)(own:Nat)(sc:Scope):Bool :=
 sc.kind==.function&&sc.names.all (λy=>y.2 != .cell)&&sc.names.all (λy=>y.2 != .local || sc.names.lookup y.1==some .local)&&N.length==s.N.length+own&&decide N.Nodup &&
 ((N.take s.N.length).zip s.N).all (λp=>p.1==p.2 || sc.names.lookup p.1==none)&&(N.take s.N.length).all (λn=>sc.names.lookup n != some .local)&&sc.names.all (λy=>y.2 != .free || s.nm.lookup y.1==some .cell)
noncomputable def oP(s:Sc)(N:List Str)(sc:Scope):Sc:={ N:=N,nm:=sc.names,di:=s.di,ca:=[],hd:=false,lv:=s.lv }
end
variable{N:List Str}{own:Nat}{elt:Expr}{gs:List Comprehension}{args:List Expr}
section
variable{tb:Tb}{k:Nat}{X:Cx}{E:XK}{s:Sc}
theorem bH{α:Type}{x:Str}{v:α}:∀{l:List (Str×α)},l.lookup x=some v->(x,v)∈l
 | (y,u)::l,h=>by
  rw[MC] at h
  split at h
  ·rename_i e;cases h;rw[beq_iff_eq.mp e];exact L8
  ·exact L6 _ (bH h)
theorem Sit.comp(S:Sit tb k X E s){sc:Scope}(h:pB s N own sc=true)(hh:s.hd=false) :
  c9 X.N N own sc X.env.scope/\∀cl C s0 H fp,Sit tb k (cxC X N sc cl C s0 H fp) E00 (oP s N sc):=by
 unfold pB at h
 simp only[LV,beq_iff_eq,decide_eq_true_eq,MK,M9,bne_iff_ne,ne_eq] at h
 obtain⟨⟨⟨⟨⟨⟨⟨h1,h2⟩,h3⟩,h4⟩,h5⟩,h6⟩,h7⟩,h8⟩:=h
 refine⟨⟨h1,h2,λy hy e=>?_,by rw[S.n];exact h4,h5,by rw[S.n];exact h6,by rw[S.n];exact h7,λy hy e=>?_⟩,λcl C s0 H fp=>?_⟩
 ·rcases h3 y hy with z|z
  ·exact absurd e z
  ·exact z
 ·rcases h8 y hy with z|z
  ·exact absurd e z
  ·exact .inl (S.ce _ z)
 ·have loc:∀x,nW (oP s N sc) x=true->sc.names.lookup x=some .local:=λx hx=>by
   unfold nW isK oP at hx
   simp only[M9,beq_iff_eq] at hx
   rcases hx with z|z
   ·exact z
   ·exact absurd rfl (h2 _ (bH z))
  refine⟨rfl,h5,λx hx=>vv hx,λx hx=>?_,λx hx=>.inl (gX (loc x hx)),λx hx=>gX hx,λx hx=>absurd rfl (h2 _ (bH hx)),λx hx=>.inr (gX (loc x hx)),λ_=>S.cm hh,λ_=>S.rm hh,λ_=>m5,S.gd,S.rh,λh=>absurd h Mt⟩
  unfold yP isK oP at hx
  simp only[M9,beq_iff_eq] at hx
  rcases hx with (z|z)|z
  ·exact .inl (gX z)
  ·exact absurd rfl (h2 _ (bH z))
  ·exact pf z
noncomputable def AD(r:Tr)(s:Sc):List Expr->Option (Mi Bool)
 | []=>some bj
 | [t]=>r.T s t
 | _=>none
noncomputable def mD(r:Tr)(s:Sc)(elt:Expr)(gs:List Comprehension)(sc:Scope):Option (Mi Rr):=match gs with
 | [g] =>
  let own:=tgN 9 g.target
  let N:=Ip s.N own
  let s':=oP s N sc
  grd (!s.hd&&g.is_async==0&&fq g.iter&&pB s N own.length sc) (aj (trI r s g.target g.iter) λmi=>aj (trG s' s.N.length 9 g.target) λG=>aj (AD r s' g.ifs) λmt=>aj (r.E s' elt) λme=>some (cc own.length mi G mt me))
 | _=>none
theorem rZ(R:cj tb k r)(S:Sit tb k X E s){ifs:List Expr}{m:Mi Bool}(h:AD r s ifs=some m):JF X E ifs m:=by
 unfold AD at h
 split at h
 ·cases h;exact GH
 ·exact GP (R.T S h)
 ·cases h
theorem lQ(R:cj tb k r)(S:Sit tb k X E s){sc:Scope}(h:mD r s elt gs sc=some m) :
  s.hd=false/\∃N own tg iter ifs mi G mt me,gs=[⟨tg,iter,ifs,0⟩]/\m=cc own mi G mt me/\c9 X.N N own sc X.env.scope/\JI X E tg iter mi/\(∀cl C s0 H fp,JG (cxC X N sc cl C s0 H fp) X.N.length tg G) /\
   (∀cl C s0 H fp,JF (cxC X N sc cl C s0 H fp) E00 ifs mt)/\(∀cl C s0 H fp,JE (cxC X N sc cl C s0 H fp) E00 elt me)/\∀x,foldedSetIterable iter X.env x=pure x:=by
 unfold mD at h
 split at h
 ·rename_i g
  obtain⟨tg,iter,ifs,ia⟩:=g
  obtain⟨h0,h⟩:=ar h
  simp only[LV,beq_iff_eq,Mq] at h0
  obtain⟨⟨⟨h1,rfl⟩,h3⟩,h4⟩:=h0
  obtain⟨mi,e1,h⟩:=ae h
  obtain⟨G,e2,h⟩:=ae h
  obtain⟨mt,e3,h⟩:=ae h
  obtain⟨me,e4,h⟩:=ae h
  cases h
  obtain⟨C1,C2⟩:=S.comp h4 h1
  exact⟨h1,_,_,tg,iter,ifs,mi,G,mt,me,rfl,rfl,C1,pY R S e1,λcl C s0 H fp=>by rw[S.n];exact jU (C2 cl C s0 H fp) e2,λcl C s0 H fp=>rZ R (C2 cl C s0 H fp) e3,λcl C s0 H fp=>R.E (C2 cl C s0 H fp) e4,iB h3 _⟩
 ·cases h
noncomputable def trP(F:Expr->Option (Mi Rr)):Option Expr->Option (Mi (Option Int))
 | none=>some bK
 | some e=>aj (F e) λm=>some (cM m)
theorem wd{F:Expr->Option (Mi Rr)}(h:∀e m,F e=some m->JE X E e m){o:Option Expr}{m:Mi (Option Int)}(e:trP F o=some m):JP X E o m:=by
 cases o with
 | none=>cases e;exact zA
 | some a=>obtain⟨m1,e1,e⟩:=ae e;cases e;exact Ad (h _ _ e1)
noncomputable def xb(r:Tr)(s:Sc)(a:Expr):Expr->Option (Mi Rr)
 | .Slice lo hi none _=>aj (r.E s a) λm=>aj (trP (r.E s) lo) λml=>aj (trP (r.E s) hi) λmh=>some (mSl m ml mh)
 | b=>grd (gE b&&!s.hd) (aj (r.E s a) λm=>aj (r.E s b) λn=>some (mOp (fOr fIx av) m n))
theorem wQ(R:cj tb k r)(S:Sit tb k X E s){a b:Expr}(h:xb r s a b=some m):JE X E (.Subscript a b pos) m:=by
 unfold xb at h
 split at h
 ·obtain⟨m1,e1,h⟩:=ae h
  obtain⟨m2,e2,h⟩:=ae h
  obtain⟨m3,e3,h⟩:=ae h
  cases h
  exact Ia (R.E S e1) (wd (λ_ _=>R.E S) e2) (wd (λ_ _=>R.E S) e3)
 ·obtain⟨h0,h⟩:=ar h
  simp only[LV,Mq] at h0
  obtain⟨m1,e1,h⟩:=ae h
  obtain⟨m2,e2,h⟩:=ae h
  cases h
  exact Hk (rW (S.rm h0.2)) (R.E S e1) (R.E S e2) (qt h0.1) (zP h0.1)
noncomputable def trJ(r:Tr)(s:Sc):List Expr->Option (Mi (List Str))
 | []=>some (dG [])
 | .Constant (.str x) _ _::es=>aj (trJ r s es) λn=>some (mJ (mC (.str x)) n)
 | .FormattedValue e (-1) none _::es=>aj (r.E s e) λm=>aj (trJ r s es) λn=>some (mJ (mFv m) n)
 | _=>none
theorem qb{r:Tr}(R:cj tb k r)(S:Sit tb k X E s):∀{es:List Expr}{m:Mi (List Str)},trJ r s es=some m->JJ X E es m
 | [],m,h=>by cases h;exact G9
 | e::es,m,h=>by
  unfold trJ at h
  split at h
  ·rename_i heq;cases heq
  ·rename_i heq;cases heq
   obtain⟨n,e1,h⟩:=ae h
   cases h
   exact tm xh (qb R S e1)
  ·rename_i heq;cases heq
   obtain⟨m1,e1,h⟩:=ae h
   obtain⟨n,e2,h⟩:=ae h
   cases h
   exact tm (J0 (R.E S e1)) (qb R S e2)
  ·cases h
noncomputable def Ek(r:Tr)(s:Sc):List Expr->Option (Mi Rr)
 | a::b::es=>grd (Oi (es.length+2) 100) (aj (trJ r s (a::b::es)) λm=>some (mJs m))
 | _=>none
theorem BI(R:cj tb k r)(S:Sit tb k X E s)(h:Ek r s es=some m):JE X E (.JoinedStr es pos) m:=by
 unfold Ek at h
 split at h
 ·obtain⟨h0,h⟩:=ar h
  obtain⟨m1,e1,h⟩:=ae h
  cases h
  exact J4 (qb R S e1) (by have:=MX h0;simpa using this)
 ·cases h
noncomputable def upB(f:Str):Bool:=match f.cps[0]? with
 | some c=>Oi 65 c&&Oi c 90
 | none=>false
noncomputable def F4:Expr->Bool
 | .ListComp _ _ _ _=>true
 | .List _ _=>true
 | .Dict _ _ _=>true
 | .BinOp _ .Add _ _=>true
 | .Subscript _ (.Slice _ _ _ _) _=>true
 | .Call (.Name f _) _ _ _=>f==("list" : Str) || f==("sorted" : Str) || f==("dict" : Str) || upB f
 | .Call (.Attribute _ _ _) _ _ _=>true
 | _=>false
noncomputable def trF(r:Tr)(s:Sc)(e:Expr):Option (Mi Rr):=match e with
 | .Name x _=>match s.lv.contains x with
  | true=>r.E s e
  | false=>match slot s x with
   | some i=>some (aw i)
   | none=>r.E s e
 | e=>match F4 e with
  | true=>aj (r.E s e) λm=>some (mFz m)
  | false=>r.E s e
theorem fR(R:cj tb k r)(S:Sit tb k X E s)(h:trF r s e=some m):JE X E e m:=by
 unfold trF at h
 split at h
 ·split at h
  ·exact R.E S h
  split at h
  ·rename_i e1;cases h
   obtain⟨a1,a2,a3,a4⟩:=S.slot e1
   exact Ay a1 a2 a3 a4
  ·exact R.E S h
 ·split at h
  ·obtain⟨m1,e1,h⟩:=ae h
   cases h;exact HJ (R.E S e1)
  ·exact R.E S h
noncomputable def GN(tb:Tb)(r:Tr)(s:Sc)(fi:FI)(args:List Expr):Option (Mi (List Rr)):=grd (args.length+(oZ fi args.length).length==fi.n) (yJ (r.E s) (trF r s) args fi.mu)
noncomputable def my(tb:Tb)(r:Tr)(s:Sc)(fi:FI)(args:List Expr):Option (Mi (List Rr)):=grd (args.length+1+(oZ fi (args.length+1)).length==fi.n) (yJ (r.E s) (trF r s) args (fi.mu.drop 1))
noncomputable def vi(tb:Tb)(r:Tr)(s:Sc)(f:Str):List Expr->Option (Mi Rr)
 | []=>none
 | a::as=>aj (tb.ini.lookup f) λfi=>grd (!s.hd) (aj (my tb r s fi (a::as)) λm=>some (cI f fi.m (oZ fi ((a::as).length+1)) m))
noncomputable def CN(tb:Tb)(r:Tr)(s:Sc)(a:Expr)(x:Str):Option (Mi Rr):=match tyN x with
 | some T=>aj (r.E s a) λm=>some (mB1 (pG T) m)
 | none=>match a with
  | .Name y _=>grd (s.ca.contains y) (aj (tb.kit.lookup x) λl=>aj (r.E s a) λm=>some (mB1 (fG (EU l)) m))
  | _=>none
noncomputable def vb(tb:Tb)(s:Sc):List Expr->Option (List (List (Str×Bool)))
 | []=>some []
 | .Name x _::es=>grd (glB s x) (aj (tb.kit.lookup x) λl=>aj (vb tb s es) λls=>some (l::ls))
 | _=>none
theorem rg(S:Sit tb k X E s):∀{es:List Expr}{ls:List (List (Str×Bool))},vb tb s es=some ls->∃cvs,PA X es (tAs cvs)/\cvs.all dI=true/\cvs.length=es.length/\∀c C b,jj ls c=some b->X.mg c=some (.ref C)->(ls≠[]->fW X.K C)/\Nq X.K (.ref C) (cvs.map gi)=some b
 | [],ls,h=>by cases h;exact⟨[],dh,rfl,rfl,λc C b e _=>⟨λz=>absurd rfl z,e⟩⟩
 | e::es,ls,h=>by
  unfold vb at h
  split at h
  ·rename_i heq;cases heq
  ·rename_i x px es' heq
   cases heq
   obtain⟨hg,h⟩:=ar h
   obtain⟨l,e1,h⟩:=ae h
   obtain⟨ls',e2,h⟩:=ae h
   cases h
   obtain⟨cvs,p1,p2,p3,p4⟩:=rg S e2
   obtain⟨u,cv,c1,c2,c3,c4⟩:=S.gd.kt _ _ e1
   obtain⟨g3,g4⟩:=S.glob hg
   have pe:PE X (.Name x px) (tC cv):=by
    rcases c3 with c3|⟨c3,c5,c6⟩
    ·exact ng g3 c3 c2 g4
    ·exact m9 g3 c3 c5 c2 c6 g4
   refine⟨cv::cvs,br pe p1 rfl,by rw[Mu,c1,p2];rfl,by rw[LX,LX,p3],λc C b et hm=>?_⟩
   unfold jj at et
   split at et
   ·rename_i el
    cases et
    obtain⟨x1,x2⟩:=c4 c C true el hm
    exact⟨λ_=>x1,by rw[L5,Nq,x2]⟩
   ·rename_i el
    obtain⟨x1,x2⟩:=c4 c C false el hm
    exact⟨λ_=>x1,by rw[L5,Nq,x2];exact(p4 c C b et hm).2⟩
   ·cases et
  ·cases h
noncomputable def Di(tb:Tb)(r:Tr)(s:Sc)(a:Expr)(es:List Expr):Option (Mi Rr):=match a,es with
 | .Name y _,e::es=>grd (s.ca.contains y&&Oi es.length 100) (aj (vb tb s (e::es)) λls=>aj (r.E s a) λm=>some (mB1 (fG (jj ls)) m))
 | _,_=>none
noncomputable def ve(tb:Tb)(r:Tr)(s:Sc)(f:Str)(args:List Expr):Option (Mi Rr):=grd (glB s f) (match tb.fns.lookup f with
 | some fi=>match args with
  | []=>none
  | a::as=>match s.hd with
   | true=>grd (fi.hf&&(a::as).length==fi.n) (aj (p6 (r.E s) (a::as)) λm=>some (aS (ai fi.m [] (aS m))))
   | false=>aj (GN tb r s fi (a::as)) λm=>some (ai fi.m (oZ fi (a::as).length) m)
 | none=>match tb.ini.lookup f with
 | some _=>vi tb r s f args
 | none=>match args with
  | [a]=>grd (notStar a&&!s.hd) (aj (bf1 f) λg=>aj (r.E s a) λm=>some (mB1 g m))
  | [a,.Name x p]=>match f==("isinstance" : Str) with
   | true=>grd (notStar a&&glB s x) (CN tb r s a x)
   | false=>grd (notStar a&&!s.hd) (aj (bf2 f) λg=>aj (r.E s a) λm=>aj (r.E s (.Name x p)) λn=>some (mB2 g m n))
  | [a,.Tuple es _ _]=>grd (notStar a&&f==("isinstance" : Str)) (Di tb r s a es)
  | [a,b]=>grd (notStar a&&notStar b&&!s.hd) (aj (bf2 f) λg=>aj (r.E s a) λm=>aj (r.E s b) λn=>some (mB2 g m n))
  | _=>none)
theorem uo(R:cj tb k r)(S:Sit tb k X E s)(h:ve tb r s f args=some m):JE X E (.Call (.Name f p) args [] pos) m:=by
 have h':=ar h
 clear h
 obtain⟨hg,h⟩:=h'
 split at h
 ·rename_i fi ef
  split at h
  ·cases h
  ·rename_i a as
   split at h
   ·obtain⟨h0,h⟩:=ar h
    rw[LV,beq_iff_eq] at h0
    obtain⟨ma,e1,h⟩:=ae h
    cases h
    obtain⟨i1,i2,i3⟩:=gW (λ_ _=>R.E S) e1
    obtain⟨fa,fd,ps,F,hm,hk,hb⟩:=S.gd.fh f fi ef h0.1
    have i3':=i3
    rw[Mu,LV] at i3'
    exact yW F S.rh (S.glob hg).1 hm hk hb.all i1 (mU (d:=0) i2 h0.2) (S.glob hg).2 (aB i3'.1 _ _) (bX i3'.2)
   rename_i hh
   obtain⟨ma,e1,h⟩:=ae h
   cases h
   obtain⟨h1,e1⟩:=ar e1
   obtain⟨i1,i2,i3⟩:=eU (λ_ _=>R.E S) (λ_ _=>fR R S) e1
   obtain⟨fa,fd,ps,F,hm,hk,hb⟩:=S.gd.fn f fi ef
   obtain⟨ds,dvs,hb1,hb2,hb3⟩:=hb.of (a::as).length
   have i3':=i3
   rw[Mu,LV] at i3'
   exact B3 F (S.rm hh) (S.glob hg).1 hm hk hb1 hb2 hb3 (S.ps hh) i1 (mU i2 (by rw[beq_iff_eq] at h1;exact h1)) (S.glob hg).2 (aB i3'.1 _ _) (bX i3'.2)
 split at h
 ·unfold vi at h
  split at h
  ·cases h
  ·rename_i a as
   obtain⟨fi,ef,h⟩:=ae h
   obtain⟨hh,h⟩:=ar h
   have hh:s.hd=false:=by simpa using hh
   obtain⟨ma,e1,h⟩:=ae h
   cases h
   obtain⟨h1,e1⟩:=ar e1
   rw[beq_iff_eq] at h1
   obtain⟨i1,i2,i3⟩:=eU (λ_ _=>R.E S) (λ_ _=>fR R S) e1
   obtain⟨C,fa,fd,ps,j,hj,F,hm,hk,hb⟩:=S.gd.im f fi ef
   obtain⟨ds,dvs,hb1,hb2,hb3⟩:=hb.of ((a::as).length+1)
   have i3':=i3
   rw[Mu,LV] at i3'
   exact Bl hk F ((S.rm hh).mono hj) (S.glob hg).1 hm hb1 hb2 hb3 (S.ps hh) i1 (λρ rs ρ' q=>by rw[i2 ρ rs ρ' q];exact h1) (S.glob hg).2 (aB i3'.1 _ _) (bX i3'.2)
 ·split at h
  ·obtain⟨h0,h⟩:=ar h
   simp only[LV,Mq] at h0
   obtain⟨g,e1,h⟩:=ae h
   obtain⟨m1,e2,h⟩:=ae h
   cases h
   exact E6 S e1 hg h0.2 h0.1 (R.E S e2)
  ·split at h
   ·rename_i z;rw[beq_iff_eq] at z;subst z
    obtain⟨h0,h⟩:=ar h
    simp only[LV] at h0
    obtain⟨g1,g2⟩:=S.glob hg
    obtain⟨g3,g4⟩:=S.glob h0.2
    unfold CN at h
    split at h
    ·rename_i T eT
     obtain⟨m1,e2,h⟩:=ae h
     cases h
     obtain⟨t1,t2,t3⟩:=Ec eT
     exact DG T g1 (bV S (by decide +kernel)) fo g3 (bV S t2) t1 (R.E S e2) (by decide +kernel) g2 t3 g4 (aB h0.1 _ _)
    ·split at h
     ·obtain⟨_,h⟩:=ar h
      obtain⟨l,e1,h⟩:=ae h
      obtain⟨m1,e2,h⟩:=ae h
      cases h
      obtain⟨u,cv,c1,c2,c3,c4⟩:=S.gd.kt _ _ e1
      refine Al (cv:=cv) g1 (bV S (by decide +kernel)) fo ?_ c1 (λc C k hk hm=>c4 c C k hk hm) (R.E S e2) (by decide +kernel) g2 (aB h0.1 _ _)
      rcases c3 with c3|⟨c3,c5,c6⟩
      ·exact ng g3 c3 c2 g4
      ·exact m9 g3 c3 c5 c2 c6 g4
     ·cases h
   ·obtain⟨h0,h⟩:=ar h
    simp only[LV,Mq] at h0
    obtain⟨g,e1,h⟩:=ae h
    obtain⟨m1,e2,h⟩:=ae h
    obtain⟨m2,e3,h⟩:=ae h
    cases h
    exact yV S e1 hg h0.2 h0.1 rfl (R.E S e2) (R.E S e3)
  ·have h':=ar h
   clear h
   obtain⟨h0,h⟩:=h'
   rw[LV,beq_iff_eq] at h0
   obtain⟨hs,z⟩:=h0
   subst z
   obtain⟨g1,g2⟩:=S.glob hg
   unfold Di at h
   split at h
   ·have h':=ar h
    clear h
    obtain⟨h0,h⟩:=h'
    rw[LV] at h0
    obtain⟨ls,e1,h⟩:=ae h
    obtain⟨m1,e2,h⟩:=ae h
    cases h
    obtain⟨cvs,p1,p2,p3,p4⟩:=rg S e1
    have ne:ls≠[]:=by
     intro z
     subst z
     unfold vb at e1
     split at e1
     ·rename_i q;cases q
     ·obtain⟨_,e1⟩:=ar e1
      obtain⟨_,_,e1⟩:=ae e1
      obtain⟨_,_,e1⟩:=ae e1
      cases e1
     ·cases e1
    refine BS g1 (bV S (by decide +kernel)) fo p1 p2 ?_ (λc C b et hm=>⟨(p4 c C b et hm).1 ne,(p4 c C b et hm).2⟩) (R.E S e2) (by decide +kernel) g2 (aB hs _ _)
    rw[p3,LX]
    have:=MX h0.2
    have:=gr
    omega
   ·cases h
  ·obtain⟨h0,h⟩:=ar h
   simp only[LV,Mq] at h0
   obtain⟨g,e1,h⟩:=ae h
   obtain⟨m1,e2,h⟩:=ae h
   obtain⟨m2,e3,h⟩:=ae h
   cases h
   exact yV S e1 hg h0.2 h0.1.1 h0.1.2 (R.E S e2) (R.E S e3)
  ·cases h
end
variable{o:Expr}{apos cpos:Pos}
section
variable{tb:Tb}{k:Nat}{X:Cx}{E:XK}{s:Sc}
noncomputable def j7(o:Expr):Bool:=match o with
 | .Call f args kw _=>match f with
  | .Name _ _=>!(args.isEmpty&&kw.isEmpty)
  | _=>true
 | _=>true
theorem eV(h:j7 o=true)(m:Str)(env:Env)(w:Sem Value):attributeBase o m env w=w:=by
 cases o with
 | Call f args kw p=>cases f with
  | Name _ _=>cases args with
   | cons _ _=>rfl
   | nil=>cases kw with
    | cons _ _=>rfl
    | nil=>cases h
  | _=>rfl
 | _=>rfl
theorem Gx(h:notStar e=true)(cpos:Pos)(env:Env):((backTo cpos (starEach [e] env)).all (λx=>!x.1)&&(backToKw cpos (keywordEach [] env)).all (λx=>x.1.isSome)&&decide (([e]:List Expr).length+([]:List Keyword).length+(if ([]:List Keyword).isEmpty then 0 else 1)<30))=true:=by rw[aB h];rfl
noncomputable def LQ(e:Expr):Option (Expr×Str×Pos×Pos):=match e with
 | .Call f args kw cpos=>match f with
  | .Attribute o m apos=>grd (args.isEmpty&&kw.isEmpty) (some (o,m,apos,cpos))
  | _=>none
 | _=>none
noncomputable def Gr(e:Expr):Option (Expr×Str×Pos×Expr×Pos):=match e with
 | .Call f args kw cpos=>match f with
  | .Attribute o m apos=>match args with
   | [a]=>grd (kw.isEmpty&&notStar a) (some (o,m,apos,a,cpos))
   | _=>none
  | _=>none
 | _=>none
theorem uz{a:Expr}{m:Str}(h:Gr e=some (o,m,apos,a,cpos)):e=.Call (.Attribute o m apos) [a] [] cpos/\notStar a=true:=by
 unfold Gr at h
 split at h
 ·rename_i f args kw c
  split at h
  ·split at h
   ·obtain⟨h0,h⟩:=ar h
    rw[LV,MY] at h0
    cases h
    rw[h0.1]
    exact⟨rfl,h0.2⟩
   ·cases h
  ·cases h
 ·cases h
noncomputable def asN(e:Expr):Option (Str×Pos):=match e with
 | .Name x p=>some (x,p)
 | _=>none
theorem iL(h:asN e=some (x,p)):e=.Name x p:=by
 unfold asN at h
 split at h
 ·cases h;rfl
 ·cases h
theorem Sit.Iu(S:Sit tb k X E s){sc:Scope}(h:pB s N own sc=true)(hh:s.hd=false) :
  c9 X.N N own sc X.env.scope/\(∀cl C s0 H fp,Sit tb k (cxX X N sc cl C s0 H fp E) E (oP s N sc))/\∀cl C s0 H fp,Sit tb k (cxX X N sc cl C s0 H fp E) E00 (oP s N sc):=by
 obtain⟨C1,C2⟩:=S.comp h hh
 refine⟨C1,λcl C s0 H fp=>?_,λcl C s0 H fp=>?_⟩
 ·have T:=C2 cl C s0 H fp
  exact⟨T.n,T.nd,T.gl,T.vs,T.lo,T.lc,T.ce,T.fx,T.cm,T.rm,λ_=>JL,T.gd,T.rh,λh=>absurd h Mt⟩
 ·have T:=C2 cl C s0 H fp
  exact⟨T.n,T.nd,T.gl,T.vs,T.lo,T.lc,T.ce,T.fx,T.cm,T.rm,λ_=>m5,T.gd,T.rh,λh=>absurd h Mt⟩
noncomputable def Fc(e:Expr):Option (Expr×Comprehension×Scope×Pos):=match e with
 | .ListComp elt gs sc pos=>match gs with
  | [g]=>some (elt,g,sc,pos)
  | _=>none
 | _=>none
theorem ux{g:Comprehension}{sc:Scope}(h:Fc e=some (elt,g,sc,pos)):e=.ListComp elt [g] sc pos:=by
 unfold Fc at h
 split at h
 ·split at h
  ·cases h;rfl
  ·cases h
 ·cases h
noncomputable def oJ(_:Tb)(r:Tr)(s:Sc)(e:Expr):Option (Mi Rr):=aj (Fc e) λ(elt,g,sc,_) =>
  let own:=tgN 9 g.target
  let N:=Ip s.N own
  let s':=oP s N sc
  grd (s.tp&&!s.hd&&g.is_async==0&&fq g.iter&&pB s N own.length sc) (aj (trI r s g.target g.iter) λmi=>aj (trG s' s.N.length 9 g.target) λG=>aj (AD r s' g.ifs) λmt=>aj (r.E s' elt) λme=>some (gF own.length mi G mt me))
theorem pA(R:cj tb k r)(S:Sit tb k X E s)(h:oJ tb r s e=some q):JE X E e q:=by
 obtain⟨⟨elt,g,sc,pos⟩,h1,h⟩:=ae h
 obtain rfl:=ux h1
 obtain⟨tg,iter,ifs,ia⟩:=g
 obtain⟨h0,h⟩:=ar h
 simp only[LV,beq_iff_eq,Mq] at h0
 obtain⟨⟨⟨⟨ht,hh⟩,rfl⟩,h3⟩,h4⟩:=h0
 obtain⟨mi,e1,h⟩:=ae h
 obtain⟨G,e2,h⟩:=ae h
 obtain⟨mt,e3,h⟩:=ae h
 obtain⟨me,e4,h⟩:=ae h
 cases h
 obtain⟨C1,C2,C3⟩:=S.Iu h4 hh
 obtain⟨t1,t2,t3⟩:=S.tv ht
 exact uT (S.cm hh) t1 t2 t3 C1 rfl (pY R S e1) (λcl C s0 H fp=>by rw[S.n];exact jU (C2 cl C s0 H fp) e2) (λcl C s0 H fp=>rZ R (C3 cl C s0 H fp) e3) (λcl C s0 H fp=>R.E (C2 cl C s0 H fp) e4) (iB h3 _)
noncomputable def l6(_:Tb)(r:Tr)(s:Sc)(e:Expr):Option (Mi Rr):=aj (Gr e) λ(o,m,apos,a,cpos)=>grd (m==("extend" : Str)&&apos.endLine==cpos.line) (aj (asN o) λ(x,_)=>aj (slot s x) λi=>aj (r.E s a) λn=>some (fj i (eS i n)))
theorem mK(R:cj tb k r)(S:Sit tb k X E s)(h:l6 tb r s e=some q):JE X E e q:=by
 obtain⟨⟨o,m,apos,a,cpos⟩,h1,g⟩:=ae h
 clear h
 obtain⟨rfl,hs⟩:=uz h1
 obtain⟨h2,h⟩:=ar g
 rw[LV,beq_iff_eq] at h2
 obtain⟨⟨x,px⟩,h3,g2⟩:=ae h
 clear h
 obtain rfl:=iL h3
 obtain⟨i,e1,h⟩:=ae g2
 obtain⟨n,e2,h⟩:=ae h
 obtain⟨a1,a2,a3,a4⟩:=S.slot e1
 cases h
 obtain⟨rfl,hl⟩:=h2
 exact uu a1 a2 a3 a4 (R.E S e2) rfl (Gx hs _ _) hl (aB hs _ _) rfl
noncomputable def xP(tb:Tb)(r:Tr)(s:Sc)(e:Expr):Option (Mi Rr):=oor (oJ tb r s e) (none)
theorem Jr(R:cj tb k r)(S:Sit tb k X E s)(h:xP tb r s e=some m):JE X E e m:=by
 rcases dy h with h|h
 ·exact pA R S h
 cases h
noncomputable def xE(tb:Tb)(r:Tr)(s:Sc)(e:Expr):Option (Mi Rr):=oor (l6 tb r s e) (none)
theorem HP(R:cj tb k r)(S:Sit tb k X E s)(h:xE tb r s e=some m):JE X E e m:=by
 rcases dy h with h|h
 ·exact mK R S h
 cases h
noncomputable def xT(tb:Tb)(r:Tr)(s:Sc)(e:Expr):Option (Mi Bool):=none
theorem Jo(R:cj tb k r)(S:Sit tb k X E s){m:Mi Bool}(h:xT tb r s e=some m):JT X E e m:=by
 cases h
noncomputable def xI(tb:Tb)(r:Tr)(s:Sc)(tg e:Expr):Option (Mi (List A)):=none
theorem HX(R:cj tb k r)(S:Sit tb k X E s){m:Mi (List A)}(h:xI tb r s tg e=some m):JI X E tg e m:=by
 cases h
end
variable{mn:Str}
section
variable{tb:Tb}{k:Nat}{X:Cx}{E:XK}{s:Sc}
noncomputable def Jm(s:Sc)(o:Expr)(m:Str):Option (Mi Rr):=match o with
 | .Name x _=>aj (slot s x) λi=>if m==("clear" : Str) then some (jZ i) else if m==("pop" : Str) then some (kU i) else none
 | _=>none
noncomputable def Ji(r:Tr)(s:Sc)(o:Expr)(m:Str)(e:Expr):Option (Mi Rr) :=
 if m==("append" : Str) then (match o with
  | .Name x _=>aj (slot s x) λi=>aj (r.E s e) λn=>some (fj i (cQ i n))
  | _=>none)
 else if m==("join" : Str) then aj (r.E s o) λa=>aj (r.E s e) λn=>some (mS1 iR a n)
 else none
noncomputable def Iq:Expr->Bool
 | .Name x _=>x==("self" : Str)
 | _=>false
noncomputable def mL(r:Tr)(s:Sc)(fi:FI)(o:Expr):Option (Mi Rr):=match Iq o || fi.mu.headD true with
 | true=>r.E s o
 | false=>trF r s o
noncomputable def qo(tb:Tb)(r:Tr)(s:Sc)(o:Expr)(m:Str)(args:List Expr)(c:Str)(fi:FI):Option (Mi Rr):=grd (!s.hd&&Oi args.length 20) (aj (mL r s fi o) λmo=>aj (my tb r s fi args) λma=>some (ai fi.m (oZ fi (args.length+1)) (aa (bc c m mo) ma)))
noncomputable def yr(tb:Tb)(r:Tr)(s:Sc)(o:Expr)(m:Str)(args:List Expr):List (Str×FI)->Option (Mi Rr)
 | []=>none
 | [p]=>qo tb r s o m args p.1 p.2
 | p::q::ps=>aj (qo tb r s o m args p.1 p.2) λa=>aj (yr tb r s o m args (q::ps)) λb=>some (g9 a b)
theorem sH(h:args.all notStar=true)(hl:args.length<=20)(pos:Pos)(env:Env):methodCallForm (args.length+([]:List Keyword).length) (backTo pos (starEach args env)) (backToKw pos (keywordEach [] env))=true:=by
 have:∀{es:List Expr},es.all notStar=true->(backTo pos (starEach es env)).all (λx=>!x.1)=true:=by
  intro es
  induction es with
  | nil=>intro _;rfl
  | cons e es ih =>
   intro h
   rw[Mu,LV] at h
   rw[aB h.1]
   show (true&&(backTo pos (starEach es env)).all (λx=>!x.1))=true
   rw[ih h.2];rfl
 unfold methodCallForm
 rw[this h]
 show (true&&(true&&decide (args.length+0+0<30)))=true
 rw[show decide (args.length+0+0<30)=true from decide_eq_true (by omega)]
 rfl
theorem lH(R:cj tb k r)(S:Sit tb k X E s){c:Str}{fi:FI}(hl:(apos.endLine==cpos.line)=true)(hb:j7 o=true)(hc:(mn,c,fi)∈tb.mts)(h:qo tb r s o mn args c fi=some m):JE X E (.Call (.Attribute o mn apos) args [] cpos) m:=by
 obtain⟨h0,h⟩:=ar h
 simp only[LV,Mq] at h0
 obtain⟨mo,e1,h⟩:=ae h
 obtain⟨ma,e2,h⟩:=ae h
 cases h
 obtain⟨h1,e2⟩:=ar e2
 rw[beq_iff_eq] at h1
 obtain⟨i1,i2,i3⟩:=eU (λ_ _=>R.E S) (λ_ _=>fR R S) e2
 obtain⟨C,fa,fd,ps,F,hm,hC,hM,hbd⟩:=S.gd.mt _ _ _ hc
 obtain⟨ds,dvs,hb1,hb2,hb3⟩:=hbd.of (args.length+1)
 have ho:JE X E o mo:=by
  unfold mL at e1
  split at e1
  ·exact R.E S e1
  ·exact fR R S e1
 have len:=MX h0.2
 cases args with
 | nil =>
  cases e2
  exact wK hm hC hM F (S.rm h0.1) hb1 hb2 hb3 (S.ps h0.1) ho (by simpa using h1) (eV hb _ _ _) hl
 | cons a as =>
  have i3':=i3
  rw[Mu,LV] at i3'
  exact Ax hm hC hM F (S.rm h0.1) hb1 hb2 hb3 (S.ps h0.1) ho i1 (λρ rs ρ' q=>by rw[i2 ρ rs ρ' q];exact h1) (eV hb _ _ _) (sH i3 len _ _) hl (aB i3'.1 _ _) (bX i3'.2)
theorem oN{r:Tr}(R:cj tb k r)(S:Sit tb k X E s){o:Expr}{mn:Str}{args:List Expr}{apos cpos:Pos}(hl:(apos.endLine==cpos.line)=true)(hb:j7 o=true):∀{cs:List (Str×FI)}{m:Mi Rr},(∀p∈cs,(mn,p.1,p.2)∈tb.mts)->yr tb r s o mn args cs=some m->JE X E (.Call (.Attribute o mn apos) args [] cpos) m
 | [],m,_,h=>by cases h
 | [p],m,hc,h=>lH R S hl hb (hc p L8) h
 | p::q::ps,m,hc,h=>by
  obtain⟨a,e1,h⟩:=ae h
  obtain⟨b,e2,h⟩:=ae h
  cases h
  exact Fo (lH R S hl hb (hc p L8) e1) (oN R S hl hb (λx hx=>hc x (L6 _ hx)) e2)
noncomputable def xp(tb:Tb)(r:Tr)(s:Sc)(o:Expr)(m:Str)(apos:Pos)(args:List Expr)(cpos:Pos):Option (Mi Rr):=grd (apos.endLine==cpos.line&&j7 o) (match nO tb m with
 | p::ps=>yr tb r s o m args (p::ps)
 | []=>match args with
 | []=>Jm s o m
 | [e]=>grd (notStar e) (Ji r s o m e)
 | _=>none)
theorem uB(R:cj tb k r)(S:Sit tb k X E s)(h:xp tb r s o mn apos args cpos=some m):JE X E (.Call (.Attribute o mn apos) args [] cpos) m:=by
 have h':=ar h
 clear h
 obtain⟨h0,h⟩:=h'
 rw[LV] at h0
 split at h
 ·rename_i p ps ep
  refine oN R S h0.1 h0.2 (λx hx=>?_) h
  rw[<- ep] at hx
  unfold nO at hx
  obtain⟨⟨a,b⟩,h1,h2⟩:=NZ.mp hx
  simp only at h2
  split at h2
  ·rename_i z;cases h2;rw[beq_iff_eq] at z;subst z;exact h1
  ·cases h2
 split at h
 ·unfold Jm at h
  split at h
  ·obtain⟨i,e1,h⟩:=ae h
   obtain⟨a1,a2,a3,a4⟩:=S.slot e1
   split at h
   ·rename_i z;rw[beq_iff_eq] at z;cases h;subst z;exact xa a1 a2 a3 a4 rfl h0.1
   ·split at h
    ·rename_i z;rw[beq_iff_eq] at z;cases h;subst z;exact Fi a1 a2 a3 a4 rfl h0.1
    ·cases h
  ·cases h
 ·have h':=ar h
  clear h
  obtain⟨hs,h⟩:=h'
  unfold Ji at h
  split at h
  ·rename_i z;rw[beq_iff_eq] at z
   split at h
   ·obtain⟨i,e1,h⟩:=ae h
    obtain⟨n,e2,h⟩:=ae h
    obtain⟨a1,a2,a3,a4⟩:=S.slot e1
    cases h;subst z
    exact tY a1 a2 a3 a4 (R.E S e2) rfl (Gx hs _ _) h0.1 (aB hs _ _) rfl
   ·cases h
  ·split at h
   ·rename_i z;rw[beq_iff_eq] at z
    obtain⟨a,e1,h⟩:=ae h
    obtain⟨n,e2,h⟩:=ae h
    cases h;subst z
    exact A7 (R.E S e1) (R.E S e2) (λx y=>vH PySem.F.plainAttrs_str PySem.F.slot_str_join PySem.F.type_str_join yQ x (br y dh (aB hs _ _)) (eV h0.2 _ _ _) (Gx hs _ _) h0.1 (aB hs _ _) rfl)
   ·cases h
 ·cases h
noncomputable def stK:Const->Option (Mi Rr)
 | .none=>some (mC .non)
 | .bool b=>some (mC (.bl b))
 | .int i=>some (mC (.int i))
 | .str x=>some (mC (.str x))
 | _=>none
noncomputable def HI(m n:Mi Rr):Operator->Option (Mi Rr)
 | .Add=>some (mOp aJ m n)
 | .Sub=>some (mOp fM m n)
 | .Mult=>some (mOp bL m n)
 | .FloorDiv=>some (mOp oH m n)
 | .Mod=>some (mOp gk m n)
 | .Pow=>some (mOp cp m n)
 | _=>none
theorem Ah{a b:Expr}{n:Mi Rr}{op:Operator}(h:HI m n op=some q)(ha:JE X E a m)(hb:JE X E b n):JE X E (.BinOp a op b pos) q:=by
 cases op<;>first|(cases h;done)|skip
 ·cases h;exact AH ha hb
 ·cases h;exact GI ha hb
 ·cases h;exact EE ha hb
 ·cases h;exact Ft ha hb
 ·cases h;exact Dj ha hb
 ·cases h;exact G7 ha hb
theorem Cp{op':CmpOp}{b c:Expr}(h:fq c=true):lastMarks [op,op'] [b,c]=false:=gy h
noncomputable def tj(r:Tr)(s:Sc)(a:Expr)(ops:List CmpOp)(bs:List Expr):Option (Mi Rr):=match ops,bs with
 | [op],[b]=>aj (r.E s a) λm=>aj (r.E s b) λn=>trC s op a b m n
 | [op,op'],[b,c]=>grd (fq b&&fq c) (aj (chI op) λp=>aj (chI op') λq=>aj (r.E s a) λma=>aj (r.E s b) λmb=>aj (r.E s c) λmc=>some (eO p q ma mb mc))
 | _,_=>none
theorem nN(R:cj tb k r)(S:Sit tb k X E s){a:Expr}{ops:List CmpOp}{bs:List Expr}(h:tj r s a ops bs=some m):JE X E (.Compare a ops bs pos) m/\JT X E (.Compare a ops bs pos) (ao m):=by
 unfold tj at h
 split at h
 ·obtain⟨m1,e1,h⟩:=ae h
  obtain⟨m2,e2,h⟩:=ae h
  exact Dz S h (R.E S e1) (R.E S e2)
 ·obtain⟨h0,h⟩:=ar h
  rw[LV] at h0
  obtain⟨p,e1,h⟩:=ae h
  obtain⟨q,e2,h⟩:=ae h
  obtain⟨ma,e3,h⟩:=ae h
  obtain⟨mb,e4,h⟩:=ae h
  obtain⟨mc,e5,h⟩:=ae h
  cases h
  obtain⟨r1,o1,q1⟩:=y6 (X:=X) e1
  obtain⟨r2,o2,q2⟩:=y6 (X:=X) e2
  exact⟨nM o1 o2 q1 q2 (R.E S e3) (R.E S e4) (R.E S e5) (Cp h0.2),zc o1 o2 q1 q2 (R.E S e3) (R.E S e4) (R.E S e5) (Cp h0.2)⟩
 ·cases h
noncomputable def xU(r:Tr)(s:Sc)(ks:List (Option Expr))(vs:List Expr):Option (Mi Rr):=match ks,vs with
 | [],[]=>some rO
 | _,_=>none
theorem v5(R:cj tb k r)(S:Sit tb k X E s){ks:List (Option Expr)}{vs:List Expr}(h:xU r s ks vs=some m):JE X E (.Dict ks vs pos) m:=by
 unfold xU at h
 split at h
 ·cases h;exact BX
 ·cases h
noncomputable def DO(tb:Tb)(r:Tr)(s:Sc)(f:Expr)(args:List Expr)(kw:List Keyword)(cpos:Pos):Option (Mi Rr):=match kw with
 | []=>match f with
  | .Name f _=>ve tb r s f args
  | .Attribute o m apos=>xp tb r s o m apos args cpos
  | _=>none
 | _::_=>none
theorem BW(R:cj tb k r)(S:Sit tb k X E s){f:Expr}{kw:List Keyword}(h:DO tb r s f args kw pos=some m):JE X E (.Call f args kw pos) m:=by
 unfold DO at h
 split at h
 ·split at h
  ·exact uo R S h
  ·exact uB R S h
  ·cases h
 ·cases h
noncomputable def stE(tb:Tb)(r:Tr)(s:Sc):Expr->Option (Mi Rr)
 | .Name x _=>match slot s x with
  | some i=>some (af i)
  | none=>aj (tb.cst.lookup x) λa=>grd (glB s x) (some (mC a))
 | .Constant c _ _=>stK c
 | .BinOp a op b _=>aj (r.E s a) λm=>aj (r.E s b) λn=>HI m n op
 | .UnaryOp op a _=>match op with
  | .USub=>aj (r.E s a) λm=>some (mUn vy m)
  | .Not=>aj (r.E s a) λm=>some (oE m)
  | _=>none
 | .BoolOp op vs _=>trB op (r.E s) vs
 | .Compare a ops bs _=>tj r s a ops bs
 | .IfExp t a b _=>aj (r.T s t) λmt=>aj (r.E s a) λm=>aj (r.E s b) λn=>some (mIf mt m n)
 | .Tuple es _ _=>aj (p6 (r.E s) es) λm=>some (aF m)
 | .List es _=>aj (p6 (r.E s) es) λm=>some (bF m)
 | .Dict ks vs _=>xU r s ks vs
 | .Subscript a b _=>xb r s a b
 | .Call f args kw cpos=>DO tb r s f args kw cpos
 | .Attribute o f _=>grd (j7 o) (aj (r.E s o) λm=>some (mUn (aW (xV tb f) f) m))
 | .ListComp elt gs sc _=>mD r s elt gs sc
 | .JoinedStr es _=>Ek r s es
 | _=>none
theorem FU(R:cj tb k r)(S:Sit tb k X E s)(h:stE tb r s e=some m):JE X E e m:=by
 cases e with
 | Name x _ =>
  have h:(match slot s x with
   | some i=>some (af i)
   | none=>aj (tb.cst.lookup x) λa=>grd (glB s x) (some (mC a)))=some m:=h
  split at h
  ·rename_i e1;cases h
   obtain⟨a1,a2,a3,a4⟩:=S.slot e1
   exact EG a1 a2 a3 a4
  ·obtain⟨a,e1,h⟩:=ae h
   obtain⟨hg,h⟩:=ar h
   cases h
   obtain⟨v,u,h1,h2,h3⟩:=S.gd.cs _ _ e1
   exact Ap (S.glob hg).1 h1 h2 h3 (S.glob hg).2
 | Constant c _ _ =>
  cases c<;>first|(cases h;done)|skip
  ·cases h;exact D7
  ·cases h;exact H9
  ·cases h;exact GC
  ·cases h;exact xh
 | BinOp a op b _ =>
  obtain⟨m1,e1,h⟩:=ae h
  obtain⟨m2,e2,h⟩:=ae h
  exact Ah h (R.E S e1) (R.E S e2)
 | UnaryOp op a _ =>
  cases op<;>first|(cases h;done)|skip
  ·obtain⟨m1,e1,h⟩:=ae h
   cases h;exact EK (R.E S e1)
  ·obtain⟨m1,e1,h⟩:=ae h
   cases h;exact EY (R.E S e1)
 | BoolOp op vs _=>exact yf (λ_ _=>R.E S) h
 | Compare a ops bs _=>exact(nN R S h).1
 | IfExp t a b _ =>
  obtain⟨mt,e1,h⟩:=ae h
  obtain⟨m1,e2,h⟩:=ae h
  obtain⟨m2,e3,h⟩:=ae h
  cases h;exact Jn (R.T S e1) (R.E S e2) (R.E S e3)
 | Tuple es _ _ =>
  obtain⟨m1,e1,h⟩:=ae h
  cases h;exact Ef (gW (λ_ _=>R.E S) e1).1
 | List es _ =>
  obtain⟨m1,e1,h⟩:=ae h
  cases h;exact Gk (gW (λ_ _=>R.E S) e1).1
 | Dict ks vs _=>exact v5 R S h
 | Subscript a b _=>exact wQ R S h
 | Call f args kw cpos=>exact BW R S h
 | Attribute o f _ =>
  obtain⟨hb,h⟩:=ar h
  obtain⟨m1,e1,h⟩:=ae h
  cases h
  exact Az (λc C=>S.gd.fl _ c C) (R.E S e1) (eV hb _ _ _)
 | ListComp elt gs sc _ =>
  obtain⟨hh,N,own,tg,iter,ifs,mi,G,mt,me,rfl,rfl,C1,C2,C3,C4,C5,C6⟩:=lQ R S h
  exact Aa (S.cm hh) C1 rfl C2 C3 C4 C5 C6
 | JoinedStr es _=>exact BI R S h
 | _=>cases h
noncomputable def Dp(r:Tr)(s:Sc):Expr->Option (Mi Bool)
 | .Compare a ops bs _=>aj (tj r s a ops bs) λq=>some (ao q)
 | .UnaryOp .Not a _=>aj (r.T s a) λm=>some (fN m)
 | .BoolOp op vs _=>trW op (r.T s) vs
 | e=>grd (plainT e) (aj (r.E s e) λm=>some (ao m))
theorem AE(R:cj tb k r)(S:Sit tb k X E s){m:Mi Bool}(h:Dp r s e=some m):JT X E e m:=by
 unfold Dp at h
 split at h
 ·obtain⟨q,e1,h⟩:=ae h
  cases h
  exact(nN R S e1).2
 ·obtain⟨m1,e1,h⟩:=ae h
  cases h;exact EC (R.T S e1)
 ·exact JU (vc (λ_ _=>R.T S) h)
 ·obtain⟨h0,h⟩:=ar h
  obtain⟨m1,e1,h⟩:=ae h
  cases h;exact ET (R.E S e1) (p5 h0 _)
noncomputable def tr(tb:Tb):Nat->Tr
 | 0=>⟨λ_ _=>none,λ_ _=>none,λ_ _ _=>none⟩
 | n+1=>⟨λs e=>oor (xP tb (tr tb n) s e) (oor (stE tb (tr tb n) s e) (xE tb (tr tb n) s e)),λs e=>oor (Dp (tr tb n) s e) (xT tb (tr tb n) s e),xI tb (tr tb n)⟩
theorem jD:∀n,cj tb k (tr tb n)
 | 0=>⟨λ_ h=>(by cases h),λ_ h=>(by cases h),λ_ h=>(by cases h)⟩
 | n+1=>⟨λS h=>by
   rcases dy h with h|h
   ·exact Jr (jD n) S h
   rcases dy h with h|h
   ·exact FU (jD n) S h
   ·exact HP (jD n) S h,λS h=>by
   rcases dy h with h|h
   ·exact AE (jD n) S h
   ·exact Jo (jD n) S h,λS h=>HX (jD n) S h⟩
end
structure gj (tb:Tb) (k:Nat) (X:Cx) (E:XK) (s:Sc):Prop extends Sit tb k X E s where
 xc:s.hd=false->Xc X E
 po:s.hd=false->PassesOwn (model X.prog X.w) X.A X.env X.xe
 st:s.hd=false->X.stack=X.env::X.outer/\X.env.frame=some X.env.locals/\X.ex=[]
 bk:X.env.blockKind=.function
noncomputable def KI:Expr->Bool
 | .Starred ..=>true
 | _=>false
noncomputable def swB(x y:Str)(px py:Pos)(a b:Expr):Bool:=x != y&&px.line==py.line&&notStar a&&notStar b&&!([a,b].all (foldedForSure 8))&&!([a,b].all (constantsAlone 8))
variable{px:Pos}{kt:Nat}
theorem KC{y:Str}{py pt pt2:Pos}{k2:Nat}{a b:Expr}(h:swB x y px py a b=true)(hx:env.kindOf x=some .local)(hy:env.kindOf y=some .local)(hb:env.blockKind=.function) :
  swappedStores [.Tuple [.Name x px,.Name y py] kt pt] (.Tuple [a,b] k2 pt2) env=pure (some [x,y]):=by
 unfold swB at h
 simp only[LV,bne_iff_ne,ne_eq,beq_iff_eq,Mq] at h
 obtain⟨⟨⟨⟨⟨h1,h2⟩,h3⟩,h4⟩,h5⟩,h6⟩:=h
 have s1:(([a,b]:List Expr).any fun | .Starred ..=>true|_=>false)=false:=by
  rw[Qz]
  intro e he
  have hn:notStar e=true:=by
   rcases Ml.mp he with z|z
   ·rw[z];exact h3
   ·rw[Mj.mp z];exact h4
  cases e<;>first|(cases hn;done)|exact Mt
 have hyx:(y==x)=false:=beq_eq_false_iff_ne.mpr λz=>h1 z.symm
 have hxy:(x==y)=false:=beq_eq_false_iff_ne.mpr h1
 unfold swappedStores
 have pn:∀(n:Str)(p:Pos),(Expr.Name n p).pos=p:=λ_ _=>rfl
 simp[hb,s1,hx,hy,pn,<- h2,h5,h6,List.eraseDups_cons,hyx,hxy]
 intro z
 exfalso
 rcases z with z|z
 ·cases a<;>first|(cases h3;done)|cases z
 ·cases b<;>first|(cases h4;done)|cases z
noncomputable def rA:Expr->Bool
 | .Tuple _ _ _=>false
 | _=>true
theorem j8(h:rA e=true):swappedStores [tg] e env=pure none:=by
 cases tg<;>first|rfl|(cases e<;>first|rfl|cases h)
variable{i:Expr}
theorem qM:swappedStores [.Subscript o i p] e env=pure none:=by cases e<;>rfl
variable{l:Nat}
theorem lU:swapsWith e (some (.Subscript o i p)) l env=pure false:=by cases e<;>rfl
theorem qE{sc:Scope}(h:env.kindOf x=some .cell):swapsWith (.ListComp elt gs sc pos) (some (.Name x px)) l env=pure false:=by
 unfold swapsWith
 show (pure (env.blockKind==.function&&env.kindOf x==some .local&&px.line==pos.line&&!(sc.names.any λp=>p.1==x&&(p.2==.local || p.2==.cell))):Sem Bool)=pure false
 rw[h,show (some (NameKind.cell)==some (NameKind.local))=false from rfl,N5,PH,PH]
theorem oK{t:Expr}(h:iU e=true)(l:Nat)(env:Env):swapsWithSole [t] e l env=pure false:=c0 h (some t) l env
theorem xx:swapsWithSole [.Subscript o i p] e l env=pure false:=lU (e:=e) (o:=o) (i:=i) (p:=p) (l:=l) (env:=env)
theorem zo(h:gE i=true)(v:Value):assign (.Subscript o i p) env v=(do
   let ov <- holding [v] (eval o env)
   let iv <- holding [v,ov] (eval i env)
   standAt p
   holding [v,ov,iv] (setItem ov iv v)
   release [v,ov,iv] []):=by cases i<;>first|rfl|cases h
variable{ts:List Expr}{p1:Pos}
section
variable{tb:Tb}{k:Nat}{X:Cx}{E:XK}{s:Sc}
noncomputable def vF(r:Tr)(s:Sc)(x:Str)(px:Pos)(e:Expr):Option Ms:=aj (eM s x) λi=>match e with
 | .ListComp elt gs sc pos=>match isK s x .local with
  | true=>grd (px.line==pos.line&&!(sc.names.any λp=>p.1==x&&(p.2==.local || p.2==.cell))) (aj (mD r s elt gs sc) λm=>some (aA i m))
  | false=>aj (r.E s e) λm=>some (aA i m)
 | e=>grd (iU e) (aj (r.E s e) λm=>some (aA i m))
theorem tS(R:cj tb k r)(S:gj tb k X E s){m:Ms}(h:vF r s x px e=some m):JS X E (.Assign [.Name x px] e pos) m:=by
 obtain⟨i,e1,h⟩:=ae h
 obtain⟨a1,a2,a3,a4⟩:=S.eM e1
 have hN:X.N.Nodup:=by rw[S.n];exact S.nd
 split at h
 ·split at h
  ·rename_i z
   obtain⟨h0,h⟩:=ar h
   simp only[LV,Mq] at h0
   obtain⟨m1,e2,h⟩:=ae h
   cases h
   have hl:X.env.scope.names.lookup x=some .local:=S.lc x (by unfold isK at z;simpa using z)
   obtain⟨hh,N,own,tg,iter,ifs,mi,G,mt,me,rfl,rfl,C1,C2,C3,C4,C5,C6⟩:=lQ R S.toSit e2
   exact BR (S.cm hh) C1 rfl hN a1 hl (qh S.bk hl h0.1 h0.2) C2 C3 C4 C5 C6
  ·rename_i z
   obtain⟨m1,e2,h⟩:=ae h
   cases h
   refine yp hN a1 a2 (R.E S.toSit e2) (qE ?_) a4
   obtain⟨g,_⟩:=ar e1
   simp only[LV,nW,M9] at g
   rcases g.1 with y|y
   ·rw[y] at z;cases z
   ·exact S.ce x (by unfold isK at y;simpa using y)
 ·obtain⟨h0,h⟩:=ar h
  obtain⟨m1,e2,h⟩:=ae h
  cases h
  exact yp hN a1 a2 (R.E S.toSit e2) (c0 h0 _ _ _) a4
noncomputable def xr(r:Tr)(s:Sc)(ts:List Expr)(e:Expr):Option Ms:=match ts,e with
 | [.Name x px,.Name y py],.Tuple [a,b] _ _=>grd (!s.hd&&isK s x .local&&isK s y .local&&okN x&&okN y&&swB x y px py a b) (aj (eM s x) λi=>aj (eM s y) λj=>grd (i != j) (aj (p6 (r.E s) [a,b]) λm=>some (tQ i j m)))
 | _,_=>grd (rA e&&iU e) (aj (r.E s e) λm=>aj (trG s 0 9 (.Tuple ts 0 default)) λg=>some (Eh m g))
theorem GJ{lo d:Nat}{n n':Nat}{p':Pos}{g:Mg}(h:trG s lo d (.Tuple ts n p)=some g):trG s lo d (.Tuple ts n' p')=some g:=by
 cases d with
 | zero=>cases h
 | succ d=>exact h
theorem u5(R:cj tb k r)(S:gj tb k X E s){pt:Pos}{m:Ms}(h:xr r s ts e=some m):JS X E (.Assign [.Tuple ts kt pt] e pos) m:=by
 have hN:X.N.Nodup:=by rw[S.n];exact S.nd
 unfold xr at h
 split at h
 ·obtain⟨h0,h⟩:=ar h
  simp only[LV,Mq] at h0
  obtain⟨⟨⟨⟨⟨h1,h2⟩,h3⟩,_⟩,_⟩,h4⟩:=h0
  obtain⟨i,e1,h⟩:=ae h
  obtain⟨j,e2,h⟩:=ae h
  obtain⟨hij,h⟩:=ar h
  obtain⟨ma,e3,h⟩:=ae h
  cases h
  obtain⟨a1,_,_,_⟩:=S.eM e1
  obtain⟨b1,_,_,_⟩:=S.eM e2
  have l1:=S.lc _ (show s.nm.lookup _=_ by unfold isK at h2;simpa using h2)
  have l2:=S.lc _ (show s.nm.lookup _=_ by unfold isK at h3;simpa using h3)
  have ij:i≠j:=by simpa using hij
  exact Ge (gW (λ_ _=>R.E S.toSit) e3).1 ij (λy=>FJ (S.cm h1) hN a1 b1 ij l1 l2 y (KC h4 l1 l2 S.bk))
 ·obtain⟨h0,h⟩:=ar h
  rw[LV] at h0
  obtain⟨m1,e1,h⟩:=ae h
  obtain⟨g,e2,h⟩:=ae h
  cases h
  exact GF (R.E S.toSit e1) (jU S.toSit (GJ e2)) (oK h0.2 _ _) (j8 h0.1) (hp:=λx y=>yu x y (oK h0.2 _ _) (j8 h0.1))
noncomputable def Kg(r:Tr)(s:Sc)(x:Str)(ek e:Expr):Option Ms:=aj (slot s x) λi=>aj (r.E s ek) λmk=>aj (r.E s e) λm=>grd (!s.hd&&gE ek) (match s.di.contains x with
 | true=>some (lE i mk m)
 | false=>some (jb i mk m))
theorem BJ(R:cj tb k r)(S:gj tb k X E s){ek:Expr}{m:Ms}(h:Kg r s x ek e=some m):JS X E (.Assign [.Subscript (.Name x px) ek p1] e pos) m:=by
 obtain⟨i,e1,h⟩:=ae h
 obtain⟨mk,e2,h⟩:=ae h
 obtain⟨m1,e3,h⟩:=ae h
 obtain⟨hh,h⟩:=ar h
 simp only[LV,Mq] at hh
 obtain⟨a1,a2,a3,a4⟩:=S.slot e1
 split at h
 ·cases h
  exact BK (rW (S.rm hh.1)) a1 a2 a3 a4 (R.E S.toSit e2) (R.E S.toSit e3) lU
 ·cases h
  exact yF a1 a2 a3 a4 (R.E S.toSit e2) (R.E S.toSit e3) (λx y z=>yu z (DF x y set_list (zo hh.2)) xx qM)
theorem tL:swapsWith e (some (.Attribute o f p)) l env=pure false:=by cases e<;>rfl
noncomputable def Jb(tb:Tb)(r:Tr)(s:Sc)(x f:Str)(e:Expr):Option Ms:=aj (slot s x) λi=>aj (r.E s e) λm=>some (eJ (xV tb f) i f m)
theorem Ag(R:cj tb k r)(S:gj tb k X E s){m:Ms}(h:Jb tb r s x f e=some m):JS X E (.Assign [.Attribute (.Name x px) f p1] e pos) m:=by
 obtain⟨i,e1,h⟩:=ae h
 obtain⟨m1,e2,h⟩:=ae h
 cases h
 obtain⟨a1,a2,a3,a4⟩:=S.slot e1
 exact B5 a1 a2 a3 a4 (λc C=>S.gd.fl _ c C) (R.E S.toSit e2) tL
noncomputable def wq(tb:Tb)(r:Tr)(s:Sc)(t e:Expr):Option Ms:=match t with
 | .Name x px=>vF r s x px e
 | .Tuple ts _ _=>xr r s ts e
 | .Subscript (.Name x _) ek _=>Kg r s x ek e
 | .Attribute (.Name x _) f _=>Jb tb r s x f e
 | _=>none
theorem xZ(R:cj tb k r)(S:gj tb k X E s){t:Expr}{m:Ms}(h:wq tb r s t e=some m):JS X E (.Assign [t] e pos) m:=by
 unfold wq at h
 split at h
 ·exact tS R S h
 ·exact u5 R S h
 ·exact BJ R S h
 ·exact Ag R S h
 ·cases h
end
section
variable{tb:Tb}{k:Nat}{X:Cx}{E:XK}{s:Sc}
noncomputable def jq(F:Stmt->Option Ms):List Stmt->Option Ms
 | []=>some aL
 | [a]=>F a
 | a::b::r=>aj (F a) λm=>aj (jq F (b::r)) λn=>some (ax m n)
theorem eQ{F:Stmt->Option Ms}(h:∀a m,F a=some m->JS X E a m):∀{l:List Stmt}{m:Ms},jq F l=some m->JSs X E l m
 | [],m,e=>by cases e;exact zB
 | [a],m,e=>zD (h _ _ e)
 | a::b::r,m,e=>by
  obtain⟨m1,e1,e⟩:=ae e
  obtain⟨m2,e2,e⟩:=ae e
  cases e;exact xG (h _ _ e1) (eQ h e2)
noncomputable def xS(tb:Tb)(r:Tr)(s:Sc)(F:Sc->Stmt->Option Ms)(st:Stmt):Option Ms:=none
theorem HN{F:Sc->Stmt->Option Ms}(R:cj tb k r)(S:gj tb k X E s)(HF:∀E1,Passes (CXE X.prog X.w) X E1->Xc X E1->∀a m,F (noT s) a=some m->JS X E1 a m){st:Stmt}{m:Ms}(h:xS tb r s F st=some m):JS X E st m:=by
 cases h
end
variable{as:List Expr}{P:Program}{w:World}{base:Heap}{dV:Value}
section
variable{tb:Tb}{k:Nat}{X:Cx}{E:XK}{s:Sc}
noncomputable def hdS(s:Sc)(n:Str):Sc:={ s with ca:=[n],hd:=true,tp:=false }
theorem Sit.nox(S:Sit tb k X E s):Sit tb k X.nox E00 s:=⟨S.n,S.nd,S.gl,S.vs,S.lo,S.lc,S.ce,S.fx,S.cm,S.rm,λ_=>m5,S.gd,S.rh,λh=>⟨(S.tv h).1,(S.tv h).2.1,λ_ _ _ _ _ _ _ _ _ _ _ _ q=>q.elim⟩⟩
theorem Sit.mark(S:gj tb k X E s)(a:Addr)(n:Str):gj tb k (X.marked a) E00 (hdS s n) where
 n:=S.n
 nd:=S.nd
 gl:=S.gl
 vs:=S.vs
 lo:=S.lo
 lc:=S.lc
 ce:=S.ce
 fx:=S.fx
 cm:=λh=>by cases h
 rm:=λh=>by cases h
 ps:=λh=>by cases h
 gd:=S.gd
 rh:=⟨S.rh.dp,S.rh.un⟩
 tv:=λh=>absurd h Mt
 xc:=λh=>by cases h
 po:=λh=>by cases h
 st:=λh=>by cases h
 bk:=S.bk
noncomputable def ze(tb:Tb)(r:Tr)(s:Sc)(fi:FI)(args:List Expr):Option (Mi (List Rr)):=grd (args.length==fi.n) (yJ (r.E s) (trF r s) args fi.mu)
noncomputable def jS(e:Expr):Option (Str×Pos×Expr×List Expr×Pos):=match e with
 | .Call f args kw cpos=>aj (asN f) λ(x,p)=>match args with
  | a::as=>grd kw.isEmpty (some (x,p,a,as,cpos))
  | []=>none
 | _=>none
theorem gK{a:Expr}(h:jS e=some (x,p,a,as,cpos)):e=.Call (.Name x p) (a::as) [] cpos:=by
 unfold jS at h
 split at h
 ·obtain⟨⟨y,py⟩,h1,g⟩:=ae h
  clear h
  obtain rfl:=iL h1
  simp only at g
  split at g
  ·obtain⟨h0,g⟩:=ar g
   rw[MY] at h0
   cases g
   rw[h0]
  ·cases g
 ·cases h
noncomputable def j4{α:Type}(l:List α):Option α:=match l with
 | [a]=>some a
 | _=>none
theorem dQ{l:List α}{a:α}(h:j4 l=some a):l=[a]:=by
 unfold j4 at h
 split at h
 ·cases h;rfl
 ·cases h
noncomputable def EA(e:Expr):Option (Expr×Str×Pos×Expr×List Expr×Pos):=match e with
 | .Call f args kw cpos=>match f with
  | .Attribute o m apos=>match args with
   | a::as=>grd (kw.isEmpty&&apos.endLine==cpos.line&&j7 o&&Oi as.length 19) (some (o,m,apos,a,as,cpos))
   | []=>none
  | _=>none
 | _=>none
theorem uC{a:Expr}{m:Str}(h:EA e=some (o,m,apos,a,as,cpos)):e=.Call (.Attribute o m apos) (a::as) [] cpos/\(apos.endLine==cpos.line)=true/\j7 o=true/\as.length<=19:=by
 unfold EA at h
 split at h
 ·split at h
  ·split at h
   ·obtain⟨h0,g⟩:=ar h
    simp only[LV,MY] at h0
    cases g
    obtain⟨⟨⟨h1,h2⟩,h3⟩,h4⟩:=h0
    subst h1
    exact⟨rfl,h2,h3,MX h4⟩
   ·cases h
  ·cases h
 ·cases h
noncomputable def Gj(tb:Tb)(r:Tr)(s:Sc)(e:Expr):Option Ms:=match EA e with
 | some (o,m,_,a,as,_)=>match nO tb m with
  | [p]=>aj (mL r s p.2 o) λmo=>aj (my tb r s p.2 (a::as)) λma=>some (aP (ai p.2.m (oZ p.2 ((a::as).length+1)) (aa (bc p.1 m (aS mo)) (aS ma))))
  | _=>none
 | none=>aj (jS e) λ(f,_,a,as,_)=>grd (glB s f) (aj (tb.ini.lookup f) λfi=>aj (my tb r s fi (a::as)) λm=>some (aP (cI f fi.m (oZ fi ((a::as).length+1)) (aS m))))
theorem AY(R:cj tb k r)(S:gj tb k X E s)(hh:s.hd=false){m:Ms}(h:Gj tb r s e=some m):JX X (.Expr e pos) m:=by
 unfold Gj at h
 split at h
 ·rename_i o mn apos a as cpos ea
  obtain⟨rfl,hl,hb,len⟩:=uC ea
  split at h
  ·rename_i p ep
   obtain⟨mo,e1,h⟩:=ae h
   obtain⟨ma,e2,h⟩:=ae h
   cases h
   obtain⟨h1,e2⟩:=ar e2
   rw[beq_iff_eq] at h1
   obtain⟨i1,i2,i3⟩:=eU (X:=X.nox) (E:=E00) (λ_ _=>R.E S.toSit.nox) (λ_ _=>fR R S.toSit.nox) e2
   have hp:(mn,p.1,p.2)∈tb.mts:=by
    have:p∈nO tb mn:=by rw[ep];exact L8
    unfold nO at this
    obtain⟨q,q1,q2⟩:=NZ.mp this
    split at q2
    ·rename_i z
     cases q2
     rw[beq_iff_eq] at z
     subst z
     exact q1
    ·cases q2
   obtain⟨C,fa,fd,ps,F,hm,hC,hM,hbd⟩:=S.gd.mt _ _ _ hp
   obtain⟨ds,dvs,hb1,hb2,hb3⟩:=hbd.of ((a::as).length+1)
   have ho:JE X.nox E00 o mo:=by
    unfold mL at e1
    split at e1
    ·exact R.E S.toSit.nox e1
    ·exact fR R S.toSit.nox e1
   have i3':=i3
   rw[Mu,LV] at i3'
   exact A8 hm hC hM F (S.rm hh) hb1 hb2 hb3 ho i1 (λρ rs ρ' q=>by rw[i2 ρ rs ρ' q];exact h1) (eV hb _ _ _) (sH i3 (by rw[LX];omega) _ _) hl (c0 rfl _ _ _) (aB i3'.1 _ _) (bX i3'.2)
  ·cases h
 ·obtain⟨⟨f,p,a,as,cpos⟩,h1,g⟩:=ae h
  clear h
  obtain rfl:=gK h1
  obtain⟨hg,h⟩:=ar g
  obtain⟨fi,ef,h⟩:=ae h
  obtain⟨ma,e1,h⟩:=ae h
  cases h
  obtain⟨h2,e1⟩:=ar e1
  rw[beq_iff_eq] at h2
  obtain⟨i1,i2,i3⟩:=eU (X:=X.nox) (E:=E00) (λ_ _=>R.E S.toSit.nox) (λ_ _=>fR R S.toSit.nox) e1
  obtain⟨C,fa,fd,ps,j,hj,F,hm,hk,hb⟩:=S.gd.im f fi ef
  obtain⟨ds,dvs,hb1,hb2,hb3⟩:=hb.of ((a::as).length+1)
  have i3':=i3
  rw[Mu,LV] at i3'
  exact zQ hk F ((S.rm hh).mono hj) (S.glob hg).1 hm hb1 hb2 hb3 i1 (λρ rs ρ' q=>by rw[i2 ρ rs ρ' q];exact h2) (S.glob hg).2 (c0 rfl _ _ _) (aB i3'.1 _ _) (bX i3'.2)
noncomputable def stX(tb:Tb)(r:Tr)(s:Sc):Nat->Stmt->Option Ms
 | 0,_=>none
 | d+1,st=>match st with
  | .Expr e _=>oor (Gj tb r s e) (aj (jS e) λ(f,_,a,as,_)=>grd (glB s f) (aj (tb.fns.lookup f) λfi=>aj (ze tb r s fi (a::as)) λm=>some (aP (ai fi.m [] (aS m)))))
  | .Assign ts e _=>aj (j4 ts) λt=>aj (asN t) λ(y,_)=>aj (jS e) λ(f,_,a,as,_)=>grd (glB s f) (aj (eM s y) λi=>aj (tb.fns.lookup f) λfi=>aj (ze tb r s fi (a::as)) λm=>some (aA i (ai fi.m [] (aS m))))
  | .If t a b _=>aj (r.T s t) λmt=>aj (j4 a) λa0=>aj (stX tb r s d a0) λma=>aj (j4 b) λb0=>aj (stX tb r s d b0) λmb=>some (sIf (aS mt) ma mb)
  | _=>none
theorem qO{r:Tr}(R:cj tb k r)(S:gj tb k X E s)(hh:s.hd=false):∀{d:Nat}{st:Stmt}{m:Ms},stX tb r s d st=some m->JX X st m
 | 0,st,m,h=>by cases h
 | d+1,st,m,h=>by
  have hN:X.N.Nodup:=by rw[S.n];exact S.nd
  unfold stX at h
  split at h
  ·have h':=dy h
   clear h
   rcases h' with h|h
   ·exact AY R S hh h
   obtain⟨⟨f,p,a,as,cpos⟩,h1,g⟩:=ae h
   clear h
   obtain rfl:=gK h1
   obtain⟨hg,h⟩:=ar g
   obtain⟨fi,ef,h⟩:=ae h
   obtain⟨ma,e1,h⟩:=ae h
   cases h
   obtain⟨h1,e1⟩:=ar e1
   obtain⟨i1,i2,i3⟩:=eU (X:=X.nox) (E:=E00) (λ_ _=>R.E S.toSit.nox) (λ_ _=>fR R S.toSit.nox) e1
   obtain⟨fa,fd,ps,F,hm,hk,hb⟩:=S.gd.fn _ fi ef
   have i3':=i3
   rw[Mu,LV] at i3'
   exact Ar F (S.rm hh) (S.glob hg).1 hm hk hb.all i1 (mU (d:=0) i2 (by rw[beq_iff_eq] at h1;exact h1)) (S.glob hg).2 (c0 rfl _ _ _) (aB i3'.1 _ _) (bX i3'.2)
  ·obtain⟨t,h0,g0⟩:=ae h
   clear h
   obtain rfl:=dQ h0
   obtain⟨⟨y,py⟩,h2,g1⟩:=ae g0
   clear g0
   obtain rfl:=iL h2
   obtain⟨⟨f,p,a,as,cpos⟩,h1,g⟩:=ae g1
   clear g1
   obtain rfl:=gK h1
   obtain⟨hg,h⟩:=ar g
   obtain⟨i,e0,h⟩:=ae h
   obtain⟨fi,ef,h⟩:=ae h
   obtain⟨ma,e1,h⟩:=ae h
   cases h
   obtain⟨a1,a2,a3,a4⟩:=S.eM e0
   obtain⟨h1,e1⟩:=ar e1
   obtain⟨i1,i2,i3⟩:=eU (X:=X.nox) (E:=E00) (λ_ _=>R.E S.toSit.nox) (λ_ _=>fR R S.toSit.nox) e1
   obtain⟨fa,fd,ps,F,hm,hk,hb⟩:=S.gd.fn _ fi ef
   have i3':=i3
   rw[Mu,LV] at i3'
   exact Ej hN a1 a2 F (S.rm hh) (S.glob hg).1 hm hk hb.all i1 (mU (d:=0) i2 (by rw[beq_iff_eq] at h1;exact h1)) (S.glob hg).2 (c0 rfl _ _ _) a4 (aB i3'.1 _ _) (bX i3'.2)
  ·obtain⟨mt,e1,h⟩:=ae h
   obtain⟨a0,e2,h⟩:=ae h
   obtain⟨ma,e3,h⟩:=ae h
   obtain⟨b0,e4,h⟩:=ae h
   obtain⟨mb,e5,h⟩:=ae h
   cases h
   obtain rfl:=dQ e2
   obtain rfl:=dQ e4
   exact JM (R.T S.toSit.nox e1) (tq (qO R S hh e3)) (tq (qO R S hh e5))
  ·cases h
noncomputable def Ct(b:List Stmt)(hs:List ExceptHandler)(els fin:List Stmt):Option (Stmt×Str×Pos×Str×Stmt×List Stmt×Pos):=aj (j4 b) λb0=>aj (j4 hs) λh=>grd (els.isEmpty&&fin.isEmpty) (match h with
 | .ExceptHandler t n su hp=>aj t λe=>aj (asN e) λ(x,np)=>aj n λn=>match su with
  | s0::suite=>some (b0,x,np,n,s0,suite,hp)
  | []=>none)
theorem qi{b:List Stmt}{hs:List ExceptHandler}{els fin:List Stmt}{b0 s0:Stmt}{n:Str}{np hp:Pos}{suite:List Stmt}(h:Ct b hs els fin=some (b0,x,np,n,s0,suite,hp)) :
  b=[b0]/\hs=[.ExceptHandler (some (.Name x np)) (some n) (s0::suite) hp]/\els=[]/\fin=[]:=by
 obtain⟨b1,e1,h⟩:=ae h
 obtain⟨h1,e2,h⟩:=ae h
 obtain⟨h0,h⟩:=ar h
 rw[LV,MY,MY] at h0
 obtain⟨t,n',su,hp'⟩:=h1
 obtain⟨e,e3,h⟩:=ae h
 obtain⟨⟨x',np'⟩,e4,h⟩:=ae h
 obtain⟨n'',e5,h⟩:=ae h
 cases su with
 | nil=>cases h
 | cons s1 su =>
  cases h
  rw[dQ e1,dQ e2,e3,e5,iL e4]
  exact⟨rfl,rfl,h0.1,h0.2⟩
noncomputable def Df(r:Tr)(s:Sc)(tg it:Expr)(b:Ms):Option Ms:=grd (fq it) (aj (trI r s tg it) λm=>aj (trG s 0 9 tg) λG=>some (iM m G b))
theorem yh(R:cj tb k r)(S:gj tb k X E s)(hh:s.hd=false){it:Expr}{body:List Stmt}{b m:Ms}(hb:JSs X E body b)(h:Df r s tg it b=some m):JS X E (.For tg it body [] pos) m:=by
 obtain⟨h0,h⟩:=ar h
 obtain⟨m1,e1,h⟩:=ae h
 obtain⟨G,e2,h⟩:=ae h
 cases h
 exact DB (S.po hh) (S.cm hh) (pY R S.toSit e1) (jU S.toSit e2) hb (iB h0 _)
noncomputable def yd(tb:Tb)(r:Tr)(s:Sc)(ts:List Expr)(e:Expr):Option Ms:=match ts with
 | [t]=>wq tb r s t e
 | _=>none
noncomputable def G5(tb:Tb)(r:Tr)(s:Sc)(ex ca:Option Expr):Option Ms:=match ca with
 | some _=>none
 | none=>match ex with
  | some (.Call f (a::as) [] _)=>match f with
   | .Name c _=>grd (!s.hd&&glB s c&&tb.exs.contains c) (aj (p6 (r.E s) (a::as)) λm=>some (cR c m))
   | _=>none
  | _=>none
theorem Bf(R:cj tb k r)(S:gj tb k X E s){ex ca:Option Expr}{m:Ms}(h:G5 tb r s ex ca=some m):JS X E (.Raise ex ca pos) m:=by
 unfold G5 at h
 split at h
 ·cases h
 ·split at h
  ·split at h
   ·obtain⟨h0,h⟩:=ar h
    simp only[LV,Mq] at h0
    obtain⟨⟨hh,hg⟩,hc⟩:=h0
    obtain⟨m1,e1,h⟩:=ae h
    cases h
    obtain⟨C,c1,c2⟩:=S.gd.ex _ (NH.mp hc)
    obtain⟨i1,i2,i3⟩:=gW (λ_ _=>R.E S.toSit) e1
    rw[Mu,LV] at i3
    exact wX (S.xc hh) (S.cm hh) (S.glob hg).1 c1 c2 i1 (S.glob hg).2 (aB i3.1 _ _) (bX i3.2)
   ·cases h
  ·cases h
noncomputable def stS(tb:Tb)(r:Tr)(s:Sc)(F:Sc->Stmt->Option Ms):Stmt->Option Ms
 | .Assign ts e _=>yd tb r s ts e
 | .Return none _=>some xu
 | .Return (some e) _=>aj (r.E s e) λm=>some (aR m)
 | .If t a b _=>aj (r.T s t) λmt=>aj (jq (F s) a) λm=>aj (jq (F s) b) λn=>some (sIf mt m n)
 | .While t b els _=>grd (!s.hd&&els.isEmpty) (aj (r.T s t) λmt=>aj (jq (F s) b) λm=>some (jk BIG mt m))
 | .For tg it b els _=>grd (!s.hd&&els.isEmpty) (aj (jq (F s) b) λm=>Df r s tg it m)
 | .Try b hs els fin _=>aj (Ct b hs els fin) λ(b0,x,_,n,s0,suite,_)=>grd (!s.hd&&glB s x&&isK s n .local) (aj (tb.exm.lookup x) λl=>aj (eM s n) λi=>aj (stX tb r s 9 b0) λmb=>aj (jq (F (hdS s n)) (s0::suite)) λms=>some (tV i (DE l) mb ms))
 | .Raise ex ca _=>G5 tb r s ex ca
 | .Expr e _=>grd (iU e) (aj (r.E s e) λm=>some (aP m))
 | .Pass _=>some aL
 | .Break _=>some yR
 | .Continue _=>some CT
 | _=>none
noncomputable def trS(tb:Tb)(r:Tr):Nat->Sc->Stmt->Option Ms
 | 0,_,_=>none
 | d+1,s,st=>oor (xS tb r s (trS tb r d) st) (stS tb r s (trS tb r d) st)
theorem gj.Iz{E':XK}(S:gj tb k X E s)(h1:Passes (CXE X.prog X.w) X E')(h2:Xc X E'):gj tb k X E' (noT s):=⟨⟨S.n,S.nd,S.gl,S.vs,S.lo,S.lc,S.ce,S.fx,S.cm,S.rm,λ_=>h1,S.gd,S.rh,λh=>absurd h Mt⟩,λ_=>h2,S.po,S.st,S.bk⟩
theorem kj{r:Tr}(R:cj tb k r):∀{d:Nat}{X:Cx}{E:XK}{s:Sc}{st:Stmt}{m:Ms},gj tb k X E s->trS tb r d s st=some m->JS X E st m
 | 0,X,E,s,st,m,S,h=>by cases h
 | d+1,X,E,s,st,m,S,h=>by
  have ih:∀a m,trS tb r d s a=some m->JS X E a m:=λa m e=>kj R S e
  unfold trS at h
  have h':=dy h
  clear h
  rcases h' with h|h
  ·exact HN R S (λE' h1 h2 a m e=>kj R (S.Iz h1 h2) e) h
  cases st with
  | Assign ts e _ =>
   have h:yd tb r s ts e=some m:=h
   unfold yd at h
   split at h
   ·exact xZ R S h
   ·cases h
  | Return v _=>cases v with
   | none=>cases h;exact zh
   | some e =>
    obtain⟨m1,e1,h⟩:=ae h
    cases h;exact DR (R.E S.toSit e1)
  | If t a b _ =>
   obtain⟨mt,e1,h⟩:=ae h
   obtain⟨m1,e2,h⟩:=ae h
   obtain⟨m2,e3,h⟩:=ae h
   cases h;exact Kw (R.T S.toSit e1) (eQ ih e2) (eQ ih e3)
  | While t b els _ =>
   have h':=ar h
   clear h
   obtain⟨h0,h⟩:=h'
   simp only[LV,Mq,MY] at h0
   obtain⟨hh,rfl⟩:=h0
   obtain⟨mt,e1,h⟩:=ae h
   obtain⟨m1,e2,h⟩:=ae h
   cases h;exact vX (S.po hh) (R.T S.toSit e1) (eQ ih e2)
  | For tg it b els _ =>
   have h':=ar h
   clear h
   obtain⟨h0,h⟩:=h'
   simp only[LV,Mq,MY] at h0
   obtain⟨hh,rfl⟩:=h0
   obtain⟨m1,e2,h⟩:=ae h
   exact yh R S hh (eQ ih e2) h
  | Try b hs els fin _ =>
   obtain⟨⟨b0,x,np,n,s0,suite,hp⟩,h1,g⟩:=ae h
   clear h
   obtain⟨rfl,rfl,rfl,rfl⟩:=qi h1
   obtain⟨h0,h⟩:=ar g
   simp only[LV,Mq] at h0
   obtain⟨⟨hh,hg⟩,hn⟩:=h0
   obtain⟨l,e1,h⟩:=ae h
   obtain⟨i,e2,h⟩:=ae h
   obtain⟨mb,e3,h⟩:=ae h
   obtain⟨ms,e4,h⟩:=ae h
   cases h
   obtain⟨a1,a2,a3,a4⟩:=S.eM e2
   obtain⟨T,t1,t2⟩:=S.gd.em _ _ e1
   obtain⟨q1,q2,q3⟩:=S.st hh
   exact E8 q1 q2 q3 (by rw[S.n];exact S.nd) a1 (S.lc _ (by unfold isK at hn;simpa using hn)) (S.glob hg).1 t1 (λc C hc hm=>t2 c C hc hm) (qO R S hh e3) (λa=>eQ (λb m e=>kj R (Sit.mark S a _) e) e4) (S.glob hg).2 a4
  | Raise ex ca _=>exact Bf R S h
  | Expr e _ =>
   obtain⟨h0,h⟩:=ar h
   obtain⟨m1,e1,h⟩:=ae h
   cases h;exact BB (R.E S.toSit e1) (c0 h0 _ _ _)
  | Pass _=>cases h;exact zN
  | Break _=>cases h;exact va
  | Continue _=>cases h;exact A3
  | _=>cases h
structure DI where
 cl:Option Str
 name:Str
 st:Stmt
 N:List Str
 n:Nat
 di:List Str
 mu:List Bool
 df:List A
 lv:List Str
 m:Ms
 ce:List Str:=[]
 tp:Bool:=false
noncomputable def DI.sc(d:DI):Sc:={ N:=d.N,nm:=(aE d.st).names,di:=d.di,ca:=d.ce,hd:=!d.ce.isEmpty,lv:=d.lv,tp:=d.tp&&d.ce.isEmpty }
noncomputable def fI(d:DI):Bool:=(aE d.st).kind==.function&&!(aE d.st).isCoroutine&&!(aE d.st).isGenerator&&decide d.N.Nodup&&Oi d.n d.N.length&&(d.N.take d.n).all (λx=>(aE d.st).names.lookup x==some .local || (aE d.st).names.lookup x==some .cell)&&(aE d.st).names.all (λy=>y.2 != .free)
variable{d:DI}
theorem fC(h:fI d=true):eG d.N (d.N.take d.n) (aE d.st)/\(d.N.take d.n).length=d.n:=by
 unfold fI at h
 simp only[LV,beq_iff_eq,Mq,decide_eq_true_eq,MK,M9,bne_iff_ne,ne_eq] at h
 obtain⟨⟨⟨⟨⟨⟨h1,h2⟩,h3⟩,h4⟩,h5⟩,h6⟩,h7⟩:=h
 have hl:(d.N.take d.n).length=d.n:=by rw[Mv];have:=MX h5;omega
 exact⟨⟨h1,h2,h3,h4,by rw[hl],h6,h7⟩,hl⟩
noncomputable def DI.M(d:DI):Ms:=bt (d.N.length-d.n) d.m
noncomputable def DI.fi(d:DI):FI:=⟨d.n,d.M,d.mu,d.df,!d.ce.isEmpty⟩
noncomputable def DI.qual(d:DI):Str:=match d.cl with
 | none=>d.name
 | some c=>c++(("." : Str)++d.name)
noncomputable def Tb.add(tb:Tb)(d:DI):Tb:=match d.cl with
 | none=>{ tb with fns:=(d.name,d.fi)::tb.fns }
 | some c=>match d.name==("__init__" : Str) with
  | true=>{ tb with ini:=(c,d.fi)::tb.ini }
  | false=>{ tb with mts:=(d.name,c,d.fi)::tb.mts }
noncomputable def iI:Nat:=40
theorem Cy{f:Addr}{qual:Str}(G:Gd tb k P w K mg base)(F:j1 K d.name qual d.st f fd dV)(hs:fI d=true)
  (h:jq (trS tb (tr tb iI) iI d.sc) (bB d.st)=some d.m):bW P w K mg base (CXE P w) (k+1) f fd (d.N.take d.n) (SpM ⟨K,mg⟩ d.n d.M):=by
 obtain⟨S,hl⟩:=fC hs
 have key:=FZ (P:=P) (w:=w) (mg:=mg) (base:=base) (k:=k) (m:=d.m) F S (λcdv A outer s H E hr=>eQ (λa m e=>kj (jD iI) (?_:gj tb k _ E d.sc) e) h)
 ·rw[hl] at key;exact key
 ·refine⟨⟨rfl,S.nd,λx hx=>hx,λx hx=>?_,λx hx=>?_,λx hx=>hx,λx hx=>hx,λx hx=>.inl rfl,λ_=>rfl,λ_=>hr,λ_=>CH.pass,G,hr.h,λ_=>⟨rfl,rfl,wI⟩⟩,λ_=>CH,λ_=>PassesOwn.leaving,λ_=>⟨rfl,rfl,rfl⟩,?_⟩
  ·unfold yP isK DI.sc at hx
   simp only[M9,beq_iff_eq] at hx
   rcases hx with (z|z)|z
   ·exact .inl z
   ·exact .inr (.inl z)
   ·exact .inr (.inr z)
  ·unfold nW isK DI.sc at hx
   simp only[M9,beq_iff_eq] at hx
   exact hx
  ·show (if (aE d.st).kind.isAnnotationScope then P5 else (aE d.st).kind)=.function
   rw[S.kind];rfl
theorem He{f:Addr}{qual:Str}(G:Gd tb k P w K mg base)(F:j1 K d.name qual d.st f fd dV)(hs:fI d=true)
  (hc:(!d.ce.isEmpty)=true)(h:jq (trS tb (tr tb iI) iI d.sc) (bB d.st)=some d.m):FnH P w K mg base (CXE P w) (k+1) f fd (d.N.take d.n) (SpM ⟨K,mg⟩ d.n d.M):=by
 obtain⟨S,hl⟩:=fC hs
 have key:=BV (P:=P) (w:=w) (mg:=mg) (base:=base) (k:=k) (m:=d.m) F S (λcdv A outer s H E hr=>eQ (λa m e=>kj (jD iI) (?_:gj tb k _ E d.sc) e) h)
 ·rw[hl] at key;exact key
 ·have no:∀(p:Prop),d.sc.hd=false->p:=λp z=>by rw[show d.sc.hd=true from hc] at z;cases z
  refine⟨⟨rfl,S.nd,λx hx=>hx,λx hx=>?_,λx hx=>?_,λx hx=>hx,λx hx=>hx,λx hx=>.inl rfl,no _,no _,no _,G,hr,λh=>by
   replace h:(d.tp&&d.ce.isEmpty)=true:=h
   rw[LV] at h
   rw[h.2] at hc
   cases hc⟩,no _,no _,no _,?_⟩
  ·unfold yP isK DI.sc at hx
   simp only[M9,beq_iff_eq] at hx
   rcases hx with (z|z)|z
   ·exact .inl z
   ·exact .inr (.inl z)
   ·exact .inr (.inr z)
  ·unfold nW isK DI.sc at hx
   simp only[M9,beq_iff_eq] at hx
   exact hx
  ·show (if (aE d.st).kind.isAnnotationScope then P5 else (aE d.st).kind)=.function
   rw[S.kind];rfl
end
theorem fL:∀{us:List Value}{n:Str},us.length=ps.length->n∈ps->((ps.zip us).lookup n).isSome=true:=by
 induction ps with
 | nil=>intro us n _ h;cases h
 | cons p ps ih =>
  intro us n hl h
  cases us with
  | nil=>cases hl
  | cons u us =>
   rw[N3,MC]
   split
   ·rfl
   ·rename_i z
    rcases Ml.mp h with y|y
    ·rw[y,beq_self_eq_true] at z;cases z
    ·exact ih (by simpa using hl) y
theorem jY:∀{us:List Value}{pre:List (Str×Value)},us.length=ps.length->ps.Nodup->(∀n∈ps,pre.lookup n=none)->ps.filterMap (λn=>((pre++ps.zip us).lookup n).map (n,·))=ps.zip us:=by
 induction ps with
 | nil=>intro us pre _ _ _;rfl
 | cons p ps ih =>
  intro us pre hl nd hp
  cases us with
  | nil=>cases hl
  | cons u us =>
   obtain⟨n1,n2⟩:=MI.mp nd
   have e1:(pre++(p,u)::ps.zip us).lookup p=some u:=by
    rw[Qx,hp p L8,MC,beq_self_eq_true];rfl
   rw[N3,M6,e1]
   show (p,u)::_=_
   congr 1
   have:=ih (us:=us) (pre:=pre++[(p,u)]) (by simpa using hl) n2 (λn hn=>by
    rw[Qx,hp n (L6 _ hn),MC]
    have:(n==p)=false:=beq_eq_false_iff_ne.mpr λz=>n1 (z▸hn)
    rw[this];rfl)
   simpa[L7] using this
variable{us:List Value}
theorem oy(h1:fd.params.posonlyargs=[])(h2:fd.params.kwonlyargs=[])(h3:fd.params.vararg=none)(h4:fd.params.kwarg=none)(h5:fd.defaults=.none)(h6:fd.params.args.map (·.arg)=ps)(nd:ps.Nodup)(hl:us.length=ps.length) :
  bindArgs fd ⟨us,[]⟩=pure (ps.zip us):=by
 have f1:(ps.filter λn=>((ps.zip us).lookup n).isNone)=[]:=by
  rw[ON]
  intro n hn
  have:=fL hl hn
  cases e:(ps.zip us).lookup n with
  | none=>rw[e] at this;cases this
  | some v=>simp
 have f2:=jY (pre:=[]) hl nd (λn _=>rfl)
 rw[MJ] at f2
 unfold bindArgs
 simp only[h1,h2,h3,h4,h5,h6,Mh,MJ,MB]
 have e:(seqItems? NW:Sem (Option (Array Value)))=pure none:=rfl
 simp[e,hl,f1,f2]
theorem xq:∀{us:List Value}{z:Str},z∉ps->(ps.zip us).lookup z=none:=by
 induction ps with
 | nil=>intro us z _;rfl
 | cons p ps ih =>
  intro us z hz
  cases us with
  | nil=>rfl
  | cons u us =>
   rw[N3,MC]
   have:(z==p)=false:=beq_eq_false_iff_ne.mpr λy=>hz (y▸L8)
   rw[this]
   exact ih λy=>hz (L6 _ y)
variable{qs:List Str}
theorem ur:∀{us:List Value},us.length=ps.length->(ps++qs).zip us=ps.zip us:=by
 induction ps with
 | nil=>intro us h;cases us with
  | nil=>cases qs<;>rfl
  | cons _ _=>cases h
 | cons p ps ih=>intro us h;cases us with
  | nil=>cases h
  | cons u us=>rw[Nb,N3,N3,ih (by simpa using h)]
theorem vK{s:Shared}{z:Str}{td:Addr}{o:Obj}{dv:Value}{ep:Nat}(h1:fd.params.posonlyargs=[])(h2:fd.params.kwonlyargs=[])(h3:fd.params.vararg=none)(h4:fd.params.kwarg=none)(h5:fd.defaults=.ref td)(ho:s.heap.get? td=some o)(hs:o.data=.seq #[dv] ep)
  (h6:fd.params.args.map (·.arg)=qs++[z])(nd:(qs++[z]).Nodup) :
  (us.length=(qs++[z]).length->BindsTo s fd ⟨us,[]⟩ ((qs++[z]).zip us))/\(us.length=qs.length->BindsTo s fd ⟨us,[]⟩ ((qs++[z]).zip (us++[dv]))):=by
 have nz:z∉qs:=λy=>(Mp.mp nd).2.2 z y z L8 rfl
 have e1:List.drop (1-(qs++[z]).length) [dv]=[dv]:=by simp
 have e2:(qs++[z]).take ((qs++[z]).length - [dv].length)=qs:=by simp
 have e3:(qs++[z]).drop ((qs++[z]).length - [dv].length)=[z]:=by simp
 refine⟨λhl=>?_,λhl=>?_⟩
 ·refine .of_defaults h5 ho hs rfl ?_
  have f1:qs.filter (λn=>(((qs++[z]).zip us).lookup n).isNone)=[]:=by
   rw[ON]
   intro n hn
   have:=fL hl (Mm [z] hn)
   cases e:((qs++[z]).zip us).lookup n with
   | none=>rw[e] at this;cases this
   | some v=>simp
  have f2:=jY (pre:=[]) hl nd (λn _=>rfl)
  rw[MJ] at f2
  have f3:(((qs++[z]).zip us).lookup z).isNone=false:=by
   have:=fL hl (LW qs (L8 (a:=z) (l:=[])))
   cases e:((qs++[z]).zip us).lookup z with
   | none=>rw[e] at this;cases this
   | some v=>rfl
  simp only[h1,h2,h3,h4,h6,Mh,MJ,MB]
  simp only[Qy,LX,Oe,Pq]
  rw[e1,e2,e3]
  have hl':¬ (us.length > (qs++[z]).length):=by rw[hl];omega
  simp only[hl',f1,f2]
  simp[f3]
  rw[<- Qk,f2]
 ·refine .of_defaults h5 ho hs rfl ?_
  have hz:(qs++[z]).zip us=qs.zip us:=ur hl
  have f1:qs.filter (λn=>((qs.zip us).lookup n).isNone)=[]:=by
   rw[ON]
   intro n hn
   have:=fL hl hn
   cases e:(qs.zip us).lookup n with
   | none=>rw[e] at this;cases this
   | some v=>simp
  have f3:((qs.zip us).lookup z).isNone=true:=by rw[xq nz];rfl
  have hl2:(us++[dv]).length=(qs++[z]).length:=by simp[hl]
  have f2:=jY (pre:=[]) hl2 nd (λn _=>rfl)
  rw[MJ] at f2
  have f4:(qs++[z]).zip (us++[dv])=qs.zip us++[(z,dv)]:=by rw[List.zip_append hl.symm];rfl
  rw[f4] at f2 ⊢
  simp only[h1,h2,h3,h4,h6,Mh,MJ,MB]
  simp only[Qy,LX,Oe,Pq]
  rw[e1,e2,e3,hz]
  have hl':¬ (us.length > (qs++[z]).length):=by rw[hl];simp
  simp only[hl',f1,f2]
  simp[f3]
  rw[<- Qk,f2]
mutual
noncomputable def yB(K:LU):Nat->Value->A->Bool
 | 0,_,_=>false
 | n+1,v,a=>match v,a with
  | .none,.non=>true
  | .bool b,.bl c=>b==c
  | .int i _,.int j=>i==j
  | .str x _,.str y=>x==y
  | .ref p,.tup as=>(match K.lookup p with
   | some ⟨.type "tuple",none,.seq its _,_⟩=>Oi its.size 1000&&rC K n its.toList as
   | _=>false)
  | _,_=>false
noncomputable def rC(K:LU):Nat->List Value->List A->Bool
 | 0,_,_=>false
 | _+1,[],[]=>true
 | n+1,v::vs,a::as=>yB K n v a&&rC K n vs as
 | _+1,_,_=>false
end
mutual
theorem nc{K:LU}{mg:Str->Option Value}:∀{n:Nat}{v:Value}{a:A},yB K n v a=true->∃x,RelV x v/\∀G,RA ⟨K,mg⟩ G x a
 | 0,v,a,h=>by cases h
 | n+1,v,a,h=>by
  unfold yB at h
  split at h
  ·exact⟨.non,rfl,λ_=>.non⟩
  ·rw[beq_iff_eq] at h;subst h;exact⟨.bl _,rfl,λ_=>.bl _⟩
  ·rw[beq_iff_eq] at h;subst h;exact⟨.int _,⟨_,rfl⟩,λ_=>.int _⟩
  ·rw[beq_iff_eq] at h;subst h;exact⟨.str _,⟨_,rfl⟩,λ_=>.str _⟩
  ·split at h
   ·rename_i its ep sl e
    rw[LV] at h
    obtain⟨xs,h1,h2⟩:=oh (mg:=mg) h.2
    refine⟨.ref _,rfl,λG=>.tup (.inr ⟨_,its,_,e,⟨rfl,rfl⟩,rfl,?_,h1⟩) (h2 G)⟩
    have:=MX h.1
    have:=gr
    omega
   ·cases h
  ·cases h
theorem oh{K:LU}{mg:Str->Option Value}:∀{n:Nat}{vs:List Value}{as:List A},rC K n vs as=true->∃xs,Vals xs vs/\∀G,RAs ⟨K,mg⟩ G xs as
 | 0,vs,as,h=>by cases h
 | _+1,[],[],h=>⟨[],.nil,λ_=>.nil⟩
 | n+1,v::vs,a::as,h=>by
  rw[rC,LV] at h
  obtain⟨x,h1,h2⟩:=nc (mg:=mg) h.1
  obtain⟨xs,h3,h4⟩:=oh (mg:=mg) h.2
  exact⟨x::xs,.cons h1 h3,λG=>.cons (h2 G) (h4 G)⟩
 | _+1,[],_::_,h=>by cases h
 | _+1,_::_,[],h=>by cases h
end
noncomputable def gV(K:LU)(x:Str):Option Value:=match Pd K mainGlobals x with
 | some (some v)=>some v
 | _=>none
theorem iV{h:Heap}(X:K.In h)(G:h.Ns mainGlobals mg){v:Value}(e:gV K x=some v):mg x=some v:=by
 unfold gV at e
 split at e
 ·rename_i q;cases e;exact PySem.W.mg_of X G q
 ·cases e
noncomputable def Kf(K:LU)(x:Str):Option V:=match gV K x with
 | some (.ref C)=>some (.ref C)
 | some _=>none
 | none=>match Pd K mainGlobals x,bootBuiltins x with
  | some none,some (.type t)=>if x==("__name__" : Str) then none else some (.ty t)
  | _,_=>none
noncomputable def xy(K:LU)(C:Addr):Bool :=
 MH K (.ref C) "__getattribute__" == some (some (.builtin "BaseException.__getattribute__"))&&MH K (.ref C) "__getattr__" == some none&&MH K (.ref C) "__class__" == some (some (.builtin "object.__class__")) &&
 Qo K (.builtin "object.__class__") "__get__" == some (some (.builtin "getset_descriptor.__get__"))&&Qt K (.builtin "object.__class__")==some true&&Pz K C (.type "object")==some true&&Pz K C (.type "BaseException")==some true
variable{C:Addr}
theorem wR(h:xy K C=true):fW K C:=by
 unfold xy at h
 simp only[LV,beq_iff_eq] at h
 obtain⟨⟨⟨⟨⟨⟨h1,h2⟩,h3⟩,h4⟩,h5⟩,h6⟩,h7⟩:=h
 exact⟨h1,h2,h3,h4,h5,h6,h7⟩
noncomputable def Hm(K:LU)(p:Str×List (Str×Bool)):Bool:=match Kf K p.1 with
 | some cv=>p.2.all λq=>match gV K q.1 with
  | some (.ref C)=>xy K C&&MG K (.ref C) (gi cv)==some q.2
  | _=>false
 | none=>false
noncomputable def IY(K:LU)(p:Str×List Str):Bool:=match gV K p.1 with
 | some (.ref T)=>p.2.all λc=>match gV K c with
  | some (.ref C)=>OT K (.ref C) (.ref T)==some true
  | _=>false
 | _=>false
noncomputable def Jl(K:LU)(x:Str):Bool:=match gV K x with
 | some (.ref C)=>N8 K C rY "ValueError.__new__"
 | _=>false
noncomputable def Ju(K:LU)(p:Str×A):Bool:=match gV K p.1 with
 | some v=>yB K 20 v p.2
 | none=>false
noncomputable def nk(K:LU)(C:Addr):Bool:=N6 K C P7&&Ol K C&&O7 K C&&MH K (.ref C) "__setattr__" == some (some (.builtin "object.__setattr__"))
theorem lF(h:nk K C=true):Cls K C:=by
 unfold nk at h
 simp only[LV,beq_iff_eq] at h
 obtain⟨⟨⟨h1,h2⟩,h3⟩,h4⟩:=h
 exact⟨h1,h2,h3,h4⟩
noncomputable def HA(K:LU)(p:Str×List Str):Bool:=match gV K p.1 with
 | some (.ref C)=>nk K C&&p.2.all λf=>MH K (.ref C) f==some none
 | _=>false
noncomputable def gdB(tb:Tb)(K:LU):Bool:=tb.fns.isEmpty&&tb.cst.all (Ju K)&&z3.all (λx=>Pd K mainGlobals x==some none)&&tb.exs.all (Jl K)&&tb.kit.all (Hm K)&&tb.exm.all (IY K)&&tb.fld.all (HA K)&&tb.ini.isEmpty&&tb.mts.isEmpty
variable{tb:Tb}
theorem Fu{h:Heap}(X:K.In h)(G:h.Ns mainGlobals mg)(e:gdB tb K=true):Gd tb 1 P w K mg base:=by
 unfold gdB at e
 simp only[LV,MY,MK,beq_iff_eq] at e
 obtain⟨⟨⟨⟨⟨⟨⟨⟨e1,e2⟩,e3⟩,e4⟩,e5⟩,e6⟩,e7⟩,e8⟩,e9⟩:=e
 refine⟨λx f q=>(by rw[e1] at q;cases q),λx a q=>?_,λx q=>Ql X G (e3 x q),λx q=>?_,λx l q=>?_,λx l q=>?_,λf c C q hm=>?_,λc f q=>(by rw[e8] at q;cases q),λm c f q=>(by rw[e9] at q;cases q),λx f q=>(by rw[e1] at q;cases q)⟩
 ·have:=e2 _ (bH q)
  unfold Ju at this
  split at this
  ·rename_i v ev
   obtain⟨y,y1,y2⟩:=nc (mg:=mg) this
   exact⟨y,v,iV X G ev,y1,y2⟩
  ·cases this
 ·have:=e4 x q
  unfold Jl at this
  split at this
  ·rename_i C ev
   exact⟨C,iV X G ev,this⟩
  ·cases this
 ·have:=e5 _ (bH q)
  unfold Hm at this
  split at this
  ·rename_i cv ec
   rw[MK] at this
   have tail:∀c C k,l.lookup c=some k->mg c=some (.ref C)->fW K C/\MG K (.ref C) (gi cv)=some k:=λc C k hk hm=>by
    have t:=this _ (bH hk)
    split at t
    ·rename_i C' ev
     have:=iV X G ev
     rw[hm] at this
     cases this
     rw[LV,beq_iff_eq] at t
     exact⟨wR t.1,t.2⟩
    ·cases t
   unfold Kf at ec
   split at ec
   ·rename_i C ev
    cases ec
    exact⟨.ref C,.ref C,rfl,rfl,.inl (iV X G ev),tail⟩
   ·cases ec
   ·split at ec
    ·rename_i t en eb
     split at ec
     ·cases ec
     ·rename_i hn
      cases ec
      exact⟨.type t,.ty t,rfl,rfl,.inr ⟨Ql X G en,eb,λz=>hn (by rw[z];exact beq_self_eq_true _)⟩,tail⟩
    ·cases ec
  ·cases this
 ·have:=e6 _ (bH q)
  unfold IY at this
  split at this
  ·rename_i T ev
   rw[MK] at this
   refine⟨T,iV X G ev,λc C hc hm=>?_⟩
   have t:=this c (NH.mp hc)
   split at t
   ·rename_i C' ev2
    have:=iV X G ev2
    rw[hm] at this
    cases this
    rw[beq_iff_eq] at t
    exact t
   ·cases t
  ·cases this
 ·obtain⟨p,q1,q2⟩:=Mx.mp (NH.mp q)
  obtain⟨q3,q4⟩:=NX.mp q1
  have t:=e7 p q3
  subst q2
  unfold HA at t
  split at t
  ·rename_i C' ev
   have:=iV X G ev
   rw[hm] at this
   cases this
   rw[LV,MK] at t
   have:=t.2 f (NH.mp q4)
   exact⟨lF t.1,by rw[beq_iff_eq] at this;exact this⟩
  ·cases t
noncomputable def ql(d:DI):Bool:=(cU d.st).posonlyargs.isEmpty&&(cU d.st).kwonlyargs.isEmpty&&(cU d.st).vararg.isNone&&(cU d.st).kwarg.isNone&&(cU d.st).args.map (·.arg)==d.N.take d.n
noncomputable def FL(K:LU)(dV:Value)(a:A):Bool:=match dV with
 | .ref td=>match K.lookup td with
  | some ⟨_,_,.seq its _,_⟩=>(match its.toList with
   | [v]=>yB K 20 v a
   | _=>false)
  | _=>false
 | _=>false
noncomputable def uN(K:LU)(dV:Value):List A->Bool
 | []=>match dV with
  | .none=>true
  | _=>false
 | [a]=>FL K dV a
 | _=>false
variable{d:DI}
theorem F0{qual:Str}{f:Addr}(h:ql d=true)(hs:fI d=true)(F:j1 K d.name qual d.st f fd dV)(hd:uN K dV d.df=true):ie K mg fd (d.N.take d.n) d.df:=by
 unfold ql at h
 simp only[LV,MY,Ot,beq_iff_eq] at h
 obtain⟨⟨⟨⟨h1,h2⟩,h3⟩,h4⟩,h5⟩:=h
 obtain⟨S,hl⟩:=fC hs
 have nd:=S.nd.sublist (Pf d.n d.N)
 obtain⟨oc,od,kV,doc,pm,an,cdv,ct,osl,rfl,lk,hcd⟩:=F.ex
 cases e:d.df with
 | nil =>
  rw[e] at hd
  have hd:dV=.none:=by cases dV<;>first|rfl|cases hd
  subst hd
  ·intro j hj
   refine⟨[],[],Binds.all λus hu=>oy h1 h2 h3 h4 rfl h5 nd hu,.nil,λ_=>?_⟩
   rw[List.drop_nil];exact .nil
 | cons a as =>
  cases as with
  | cons _ _=>rw[e] at hd;cases hd
  | nil =>
   rw[e] at hd
   replace hd:FL K dV a=true:=hd
   unfold FL at hd
   split at hd
   ·rename_i td
    split at hd
    ·rename_i x y its ep sl el
     split at hd
     ·rename_i v ev
      obtain⟨xv,r1,r2⟩:=nc (mg:=mg) hd
      have hi:its=#[v]:=by rw[<- Array.toList_inj,ev]
      subst hi
      have bo:∀(s:Shared)(us:List Value),K.In s.heap->((us.length=(d.N.take d.n).length->BindsTo s _ ⟨us,[]⟩ ((d.N.take d.n).zip us))/\(us.length+1=(d.N.take d.n).length->BindsTo s _ ⟨us,[]⟩ ((d.N.take d.n).zip (us++[v])))):=λs us ki=>by
       rcases List.eq_nil_or_concat (d.N.take d.n) with z|⟨qs,zl,z⟩
       ·rw[z] at h5 ⊢
        refine⟨λhl=>?_,λhl=>by cases hl⟩
        cases us with
        | cons _ _=>cases hl
        | nil =>
         refine .of_defaults (fd:=Nv d.name qual (cU d.st) (bB d.st) (aE d.st) (.ref td) kV doc pm an cdv ct) rfl (ki _ _ el) rfl rfl ?_
         show _=pure []
         simp only[Nv,h1,h2,h3,h4,h5,Mh,MJ,MB]
         simp
       ·rw[List.concat_eq_append] at z
        rw[z] at h5 nd ⊢
        have:=vK (s:=s) (us:=us) (fd:=Nv d.name qual (cU d.st) (bB d.st) (aE d.st) (.ref td) kV doc pm an cdv ct) h1 h2 h3 h4 rfl (ki _ _ el) rfl h5 nd
        exact⟨this.1,λq=>this.2 (by simpa using q)⟩
      intro j hj
      rcases Nat.le_one_iff_eq_zero_or_eq_one.mp hj with rfl|rfl
      ·exact⟨[v],[xv],λs us ki hu=>(bo s us ki).2 (by simpa using hu),.cons r1 .nil,λG=>.cons (r2 G) .nil⟩
      ·exact⟨[],[],λs us ki hu=>by rw[MB] at hu ⊢;exact(bo s us ki).1 hu,.nil,λG=>.nil⟩
     ·cases hd
    ·cases hd
   ·cases hd
noncomputable def qV:Tb->List DI->List (Option Ms)
 | _,[]=>[]
 | tb,d::ds=>jq (trS tb (tr tb iI) iI d.sc) (bB d.st)::qV (tb.add d) ds
noncomputable def lp:Tb->List DI->Tb
 | tb,[]=>tb
 | tb,d::ds=>lp (tb.add d) ds
def iq(K:LU)(mg:Str->Option Value)(d:DI)(f:Addr):Prop:=match d.cl with
 | none=>mg d.name=some (.ref f)
 | some c=>∃C,mg c=some (.ref C)/\Cls K C/\Meth K C d.name f/\(d.name=("__init__" : Str)->Mk K C f)
section
variable{P:Program}{w:World}{K:LU}{mg:Str->Option Value}{base:Heap}
theorem Gd.up{j k:Nat}(G:Gd tb j P w K mg base)(h:j<=k):Gd tb k P w K mg base:=⟨λx f e=>by
 obtain⟨a,fd,ps,F,r⟩:=G.fn x f e
 exact⟨a,fd,ps,F.mono h,r⟩,G.cs,G.bl,G.ex,G.kt,G.em,G.fl,λc f e=>by
 obtain⟨C,a,fd,ps,i,hi,r⟩:=G.im c f e
 exact⟨C,a,fd,ps,i,Mr hi h,r⟩,λm c f e=>by
 obtain⟨C,a,fd,ps,F,r⟩:=G.mt m c f e
 exact⟨C,a,fd,ps,F.mono h,r⟩,λx f e eh=>by
 obtain⟨a,fd,ps,F,r⟩:=G.fh x f e eh
 exact⟨a,fd,ps,F.mono h,r⟩⟩
theorem Gd.add{tb:Tb}{k:Nat}(G:Gd tb k P w K mg base){d:DI}{f:Addr}{fd:FuncData}{dV:Value}(m:iq K mg d f)(F:j1 K d.name d.qual d.st f fd dV)(hd:uN K dV d.df=true)(hs:fI d=true)(hp:ql d=true)
  (h:jq (trS tb (tr tb iI) iI d.sc) (bB d.st)=some d.m):Gd (tb.add d) (k+2) P w K mg base:=by
 have G2:=G.up (show k<=k+2 by omega)
 have FO:=Cy G F hs h
 have BD:ie K mg fd (d.N.take d.n) d.df:=F0 hp hs F hd
 unfold Tb.add
 unfold iq at m
 split
 ·rename_i hc
  rw[hc] at m
  refine⟨λx fi e=>?_,G2.cs,G2.bl,G2.ex,G2.kt,G2.em,G2.fl,G2.im,G2.mt,λx fi e eh=>?_⟩
  ·have e:((d.name,d.fi)::tb.fns).lookup x=some fi:=e
   rw[MC] at e
   cases z:x==d.name with
   | true =>
    rw[z] at e
    cases e
    rw[beq_iff_eq] at z
    subst z
    exact⟨f,fd,_,FO.mono (Od _),m,F.kp,BD⟩
   | false =>
    rw[z] at e
    exact G2.fn x fi e
  ·have e:((d.name,d.fi)::tb.fns).lookup x=some fi:=e
   rw[MC] at e
   cases z:x==d.name with
   | true =>
    rw[z] at e
    cases e
    rw[beq_iff_eq] at z
    subst z
    exact⟨f,fd,_,(He G F hs eh h).mono (Od _),m,F.kp,BD⟩
   | false =>
    rw[z] at e
    exact G2.fh x fi e eh
 ·rename_i c hc
  rw[hc] at m
  obtain⟨C,m1,m2,m3,m4⟩:=m
  split
  ·rename_i z
   rw[beq_iff_eq] at z
   refine⟨G2.fn,G2.cs,G2.bl,G2.ex,G2.kt,G2.em,G2.fl,λx fi e=>?_,G2.mt,G2.fh⟩
   have e:((c,d.fi)::tb.ini).lookup x=some fi:=e
   rw[MC] at e
   cases y:x==c with
   | true =>
    rw[y] at e
    cases e
    rw[beq_iff_eq] at y
    subst y
    exact⟨C,f,fd,_,k+1,Md _,FO,m1,m4 z,BD⟩
   | false =>
    rw[y] at e
    exact G2.im x fi e
  ·refine⟨G2.fn,G2.cs,G2.bl,G2.ex,G2.kt,G2.em,G2.fl,G2.im,λx y fi e=>?_,G2.fh⟩
   rcases Ml.mp e with e|e
   ·cases e
    exact⟨C,f,fd,_,FO.mono (Od _),m1,m2,m3,BD⟩
   ·exact G2.mt x y fi e
theorem Gd.all:∀{ds:List DI}{tb:Tb}{k:Nat},Gd tb k P w K mg base->(∀d∈ds,∃f fd dV,iq K mg d f/\j1 K d.name d.qual d.st f fd dV/\uN K dV d.df=true)->ds.all (λd=>fI d&&ql d)=true->qV tb ds=ds.map (λd=>some d.m)->Gd (lp tb ds) (k+2*ds.length) P w K mg base
 | [],tb,k,G,_,_,_=>G
 | d::ds,tb,k,G,hf,hs,ht=>by
  rw[Mu,LV,LV] at hs
  obtain⟨t1,t2⟩:=List.cons.inj ht
  obtain⟨f,fd,dV,m,F,hd⟩:=hf d L8
  have:=Gd.all (G.add m F hd hs.1.1 hs.1.2 t1) (λe he=>hf e (L6 _ he)) hs.2 t2
  rw[LX,show k+2*(ds.length+1)=k+2+2*ds.length by omega]
  exact this
end
noncomputable abbrev u9:=Str×Str×Arguments×FuncBody×Scope×Addr×List (Str×Addr)×Addr×Bool
noncomputable def Km(K:LU)(d:DI):Option Addr:=match d.cl with
 | none=>match gV K d.name with
  | some (.ref f)=>some f
  | _=>none
 | some c=>match gV K c with
  | some (.ref C)=>match MH K (.ref C) d.name with
   | some (some (.ref f))=>some f
   | _=>none
  | _=>none
noncomputable def clB(K:LU)(d:DI)(f:Addr):Bool:=match d.cl with
 | none=>true
 | some c=>match gV K c with
  | some (.ref C)=>nk K C&&O6 K (.ref f)&&(!(d.name==("__init__" : Str)) || (Pn K C&&ML K (.ref C)))
  | _=>false
noncomputable def F2(K:LU)(d:DI):Option u9:=match Km K d with
 | some f=>match K.lookup f with
  | some ⟨_,_,.func x,_⟩=>some (x.name,x.qualname,x.params,x.body,x.scope,x.globals,x.closure,x.builtins,Of K x.code d.qual&&ML K (.ref f)&&uN K x.defaults d.df&&clB K d f)
  | _=>none
 | none=>none
noncomputable def F3(d:DI):Option u9:=some (d.name,d.qual,cU d.st,.stmts (bB d.st),aE d.st,mainGlobals,[],builtinsNs,true)
theorem Cb{h:Heap}(X:K.In h)(G:h.Ns mainGlobals mg)(e:F2 K d=F3 d):∃f fd dV,iq K mg d f/\j1 K d.name d.qual d.st f fd dV/\uN K dV d.df=true:=by
 unfold F2 F3 at e
 split at e
 ·rename_i f ef
  split at e
  ·rename_i a1 a2 x a3 el
   obtain⟨b1,b2,b3,b4,b5,b6,b7,b8,b9,b10,b11,b12,b13,b14,b15⟩:=x
   simp only[Sa,Prod.mk.injEq] at e
   obtain⟨rfl,rfl,rfl,rfl,rfl,rfl,rfl,rfl,hb⟩:=e
   simp only[LV] at hb
   obtain⟨⟨⟨g1,g2⟩,g3⟩,g4⟩:=hb
   refine⟨f,_,_,?_,⟨⟨_,_,_,_,_,_,_,_,_,rfl,el,g1⟩,g2⟩,g3⟩
   unfold iq
   unfold Km at ef
   unfold clB at g4
   split
   ·rename_i hc
    rw[hc] at ef
    simp only at ef
    split at ef
    ·rename_i f' ev;cases ef;exact iV X G ev
    ·cases ef
   ·rename_i c hc
    rw[hc] at ef g4
    simp only at ef g4
    split at ef
    ·rename_i C ev
     rw[ev] at g4
     simp only[LV,M9,Mq,beq_eq_false_iff_ne] at g4
     split at ef
     ·rename_i f' ev2
      cases ef
      refine⟨C,iV X G ev,lF g4.1.1,⟨ev2,g4.1.2,g2⟩,λz=>?_⟩
      rcases g4.2 with y|y
      ·exact absurd z y
      ·rw[z] at ev2
       exact⟨y.1,ev2,g4.1.2,y.2⟩
     ·cases ef
    ·cases ef
  ·cases e
 ·cases e
noncomputable def hkO(ds:List DI)(chk:LU->Bool)(K:LU):List (Option u9)×Bool:=(ds.map (F2 K),chk K)
noncomputable def hkV(ds:List DI):List (Option u9)×Bool:=(ds.map F3,true)
noncomputable def hk(ds:List DI)(chk:LU->Bool):QV where
 α:=List (Option u9)×Bool
 obs:=λs=>hkO ds chk (W.g6 s.heap)
 val:=λ_=>hkV ds
 says:=λ_ h=>∃K:LU,hkO ds chk K=hkV ds/\K.In h
 of:=λ_ s e=>⟨W.g6 s.heap,e,W.kh _⟩
 keeps:=λ_ _ _ ⟨K,e,i⟩ k=>⟨K,e,i.keeps k⟩
variable{ds:List DI}
theorem AB{chk:LU->Bool}{h:Heap}(X:K.In h)(G:h.Ns mainGlobals mg)(e:hkO ds chk K=hkV ds):chk K=true/\∀d∈ds,∃f fd dV,iq K mg d f/\j1 K d.name d.qual d.st f fd dV/\uN K dV d.df=true:=by
 obtain⟨e1,e2⟩:=Prod.mk.inj e
 exact⟨e2,λd hd=>Cb X G (List.map_eq_map_iff.mp e1 d hd)⟩
theorem y3{l:Qw}{q:Program}{loose:List Str}{XP:(Str->Option Value)->Heap->Prop}{d:DefRec}{di:DI}(hn:l.most=some 63)(hdf:d.params.defaults=[])(dn:d.name = "law")
  (hs:(ds++[di]).all (λd=>fI d&&ql d)=true)(ht:qV tb ds=ds.map (λd=>some d.m))(hl:jq (trS (lp tb ds) (tr (lp tb ds) iI) iI di.sc) (bB di.st)=some di.m)(hdi:di.name = "law")(hcl:di.cl=none)(hdd:di.df=[])(hx:di.N.take di.n=[x])(hr:bz (2+2*ds.length) callerA)
  (hm:∀ns:List Int,ns.length<=63->∃ρ,di.M [.fr (.lst (ns.map A.int))]=some (.rt (.fr (.bl true)),ρ)) :
  QN q loose XP (hk (ds++[di]) (gdB tb)).says l.row.toRowW d [] (λf vs=>Qs f vs):=by
 refine W.vN (l:=l) (n:=63) (k:=2+2*ds.length) (x:=x) (sp:=xA) hn (by decide) hdf hr (λw mg fa h Y G hfa=>?_) (λ_ _ a ns hl _ hS=>⟨a,ns,rfl,hS,hl,λ_=>rfl⟩)
 obtain⟨K,e,KX⟩:=Y
 obtain⟨e1,e2⟩:=AB KX G e
 refine⟨K,KX,?_⟩
 rw[QW,LV] at hs
 obtain⟨f,fd,dV,m1,F1,hdv⟩:=e2 di (LW _ L8)
 rw[hdd] at hdv
 have hdv:dV=.none:=by cases dV<;>first|rfl|cases hdv
 subst hdv
 unfold iq at m1
 rw[dn] at hfa
 rw[hcl] at m1
 simp only at m1
 rw[hdi,hfa] at m1
 cases m1
 have hsd:=MK.mp hs.2 di L8
 rw[LV] at hsd
 have h1n:di.n=1:=by have:=(fC hsd.1).2;rw[hx] at this;exact this.symm
 refine⟨fd,λs u=>?_,λbase _ _=>?_⟩
 ·obtain⟨oc,od,kV,doc,pm,an,cdv,ct,osl,rfl,lk,hcd⟩:=F1.ex
  obtain⟨S,hl2⟩:=fC hsd.1
  have hp:=hsd.2
  unfold ql at hp
  simp only[LV,MY,Ot,beq_iff_eq] at hp
  obtain⟨⟨⟨⟨h1,h2⟩,h3⟩,h4⟩,h5⟩:=hp
  have:=oy (fd:=Nv di.name di.qual (cU di.st) (bB di.st) (aE di.st) .none kV doc pm an cdv ct) (us:=[u]) h1 h2 h3 h4 rfl h5 (S.nd.sublist (Pf _ _)) (by rw[hx];rfl)
  rw[hx] at this
  exact .of_eq this
 ·have G1:=Gd.all (Fu (P:=l.prog) (w:=w) (base:=base) KX G e1) (λd hd=>e2 d (Mm _ hd)) hs.1 ht
  have FF:=Cy G1 F1 hsd.1 hl
  rw[hx,h1n,show 1+2*ds.length+1=2+2*ds.length by omega] at FF
  exact Dl FF hm
end M
set_option maxHeartbeats 4000000
namespace W
open PySem L2 M
noncomputable def top(i:Nat):Stmt:=PySem.Challenge.pw_fitwhatever_k08_no_sizes.main.body.getD i (.Pass ⟨0,0,0,0⟩)
noncomputable def topC(i j:Nat):Stmt:=match top i with
 | .ClassDef _ _ _ b _ _ _ _ _ _ _=>b.getD j (.Pass ⟨0,0,0,0⟩)
 | s=>s
noncomputable def eI:Ms:=ax (aA 2 (mC (.int 0))) (ax (sIf (ao (mOp fLt (af 1) (mB1 cW (af 0)))) (aA 2 (mOp (fOr fIx av) (af 0) (af 1))) aL) (aR (bF (aa (mB1 p8 (mOp fGe (mB1 uf (af 2)) (mOp cp (mC (.int 10)) (mC (.int 18))))) (aa (af 2) (aa (mOp bL (mC (.int 17)) (af 1)) ag))))))
noncomputable def cb:Ms:=bt 1 eI
noncomputable def gA:Ms:=ax (sIf (ao (mOp fEq (mOp (fOr fIx av) (af 0) (mC (.int 0))) (mC (.int 1)))) (ax (aA 2 (mOp gk (mOp (fOr fIx av) (af 0) (mC (.int 1))) (af 1))) (ax (jb 0 (mC (.int 1)) (mOp oH (mOp (fOr fIx av) (af 0) (mC (.int 1))) (af 1))) (aR (af 2)))) aL) (ax (aA 3 (mOp aJ (mOp (fOr fIx av) (af 0) (mC (.int 2))) (mC (.int 1)))) (ax (jb 0 (mC (.int 2)) (af 3)) (ax (aA 4 (mOp gk (mOp bL (mOp aJ (mOp aJ (mOp (fOr fIx av) (af 0) (mC (.int 1))) (mOp bL (mOp bL (mC (.int 7919)) (af 3)) (af 3))) (af 3)) (mC (.int 48271))) (mC (.int 2305843009213693951)))) (aR (mOp gk (mOp oH (mOp gk (mOp aJ (mOp bL (af 4) (mC (.int 1442695040888963407))) (mC (.int 4321))) (mC (.int 2305843009213693921))) (mC (.int 64))) (af 1))))))
noncomputable def ah:Ms:=bt 3 gA
noncomputable def dN:Ms:=ax (aA 2 (mC (.str "abcdefghijklmnopqrstuvwxyz0123456789."))) (ax (aA 3 (mS1 iR (mC (.str "")) (cc 1 (gB (mC (.int 30))) (aM 8) bj (mOp (fOr fIx av) (af 2) (ai ah [] (aa (af 0) (aa (mC (.int 37)) ag))))))) (ax (sIf (ao (mOp fEq (ai ah [] (aa (af 0) (aa (mC (.int 3)) ag))) (mC (.int 1)))) (ax (aA 4 (ai ah [] (aa (af 0) (aa (mC (.int 30)) ag)))) (aR (cc 1 (gB (af 1)) (aM 8) bj (mSl (af 3) bK (cM (mOp aJ (mC (.int 1)) (mOp gk (mOp aJ (af 4) (mOp bL (mC (.int 7)) (af 8))) (mC (.int 30))))))))) aL) (ax (aA 5 (mOp aJ (mC (.int 1)) (ai ah [] (aa (af 0) (aa (mC (.int 30)) ag))))) (ax (aA 6 (ai ah [] (aa (af 0) (aa (aw 5) ag)))) (ax (aA 7 (ai ah [] (aa (af 0) (aa (mC (.int 37)) ag)))) (aR (cc 1 (gB (af 1)) (aM 8) bj (mOp aJ (mOp aJ (mSl (af 3) bK (cM (af 6))) (mOp (fOr fIx av) (af 2) (mOp gk (mOp aJ (af 7) (mOp bL (mC (.int 5)) (af 8))) (mC (.int 37))))) (mSl (af 3) (cM (mOp aJ (af 6) (mC (.int 1)))) (cM (af 5)))))))))))
noncomputable def dM:Ms:=bt 6 dN
noncomputable def fb:Ms:=ax (jk BIG (ao (mOp fNe (af 1) (mC (.int 0)))) (tQ 0 1 (aa (af 1) (aa (mOp gk (af 0) (af 1)) ag)))) (aR (mB1 uf (af 0)))
noncomputable def eX:Ms:=bt 0 fb
noncomputable def iy:Ms:=ax (sIf (ao (mOp fLt (af 1) (mC (.int 0)))) (ax (aA 0 (mOp fM (mC (.int 0)) (af 0))) (aA 1 (mOp fM (mC (.int 0)) (af 1)))) aL) (ax (aA 2 (ai eX [] (aa (aw 0) (aa (aw 1) ag)))) (aR (aF (aa (mOp oH (af 0) (af 2)) (aa (mOp oH (af 1) (af 2)) ag)))))
noncomputable def cf:Ms:=bt 1 iy
noncomputable def jG:Ms:=ax (sIf (ao (mOp fEq (af 1) (mC (.int 4)))) (aR (aF (aa (mOp fM (ai ah [] (aa (af 0) (aa (mFz (mOp aJ (mOp bL (mC (.int 2)) (mOp cp (mC (.int 10)) (mC (.int 17)))) (mC (.int 1)))) ag))) (mOp cp (mC (.int 10)) (mC (.int 17)))) (aa (mC (.int 1)) ag)))) aL) (ax (sIf (ao (mOp fEq (af 1) (mC (.int 3)))) (aR (ai cf [] (aa (mOp fM (ai ah [] (aa (af 0) (aa (mFz (mOp aJ (mOp bL (mC (.int 2)) (mOp cp (mC (.int 10)) (mC (.int 6)))) (mC (.int 1)))) ag))) (mOp cp (mC (.int 10)) (mC (.int 6)))) (aa (mFz (mOp aJ (mC (.int 1)) (ai ah [] (aa (af 0) (aa (mC (.int 1000)) ag))))) ag)))) aL) (ax (sIf (ao (mOp fEq (af 1) (mC (.int 2)))) (aR (aF (aa (mOp fM (ai ah [] (aa (af 0) (aa (mFz (mOp aJ (mOp bL (mC (.int 2)) (mOp cp (mC (.int 10)) (mC (.int 15)))) (mC (.int 1)))) ag))) (mOp cp (mC (.int 10)) (mC (.int 15)))) (aa (mC (.int 1)) ag)))) aL) (aR (ai cf [] (aa (mOp fM (ai ah [] (aa (af 0) (aa (mC (.int 21)) ag))) (mC (.int 10))) (aa (mOp (fOr fIx av) (bF (aa (mC (.int 1)) (aa (mC (.int 1)) (aa (mC (.int 2)) (aa (mC (.int 3)) (aa (mC (.int 6)) ag)))))) (ai ah [] (aa (af 0) (aa (mC (.int 5)) ag)))) ag))))))
noncomputable def dz:Ms:=bt 0 jG
noncomputable def iz:Ms:=aR (ai cf [] (aa (mFz (mOp aJ (mOp bL (mOp (fOr fIx av) (af 0) (mC (.int 0))) (mOp (fOr fIx av) (af 1) (mC (.int 1)))) (mOp bL (mOp (fOr fIx av) (af 1) (mC (.int 0))) (mOp (fOr fIx av) (af 0) (mC (.int 1)))))) (aa (mOp bL (mOp (fOr fIx av) (af 0) (mC (.int 1))) (mOp (fOr fIx av) (af 1) (mC (.int 1)))) ag)))
noncomputable def dX:Ms:=bt 0 iz
noncomputable def jx:Ms:=ax (aA 2 (ai dz [] (aa (af 0) (aa (aw 1) ag)))) (ax (sIf (ao (mOp fEq (ai ah [] (aa (af 0) (aa (mC (.int 8)) ag))) (mC (.int 1)))) (aR (aF (aa (mC (.int 0)) (aa (mC (.int 1)) ag)))) aL) (aR (aF (aa (mB1 uf (mOp (fOr fIx av) (af 2) (mC (.int 0)))) (aa (mOp (fOr fIx av) (af 2) (mC (.int 1))) ag)))))
noncomputable def cK:Ms:=bt 1 jx
noncomputable def iQ:Ms:=ax (aA 4 (ai ah [] (aa (af 0) (aa (aw 3) ag)))) (ax (aA 5 (ai dM [] (aa (af 0) (aa (aw 2) ag)))) (ax (aA 6 (bF ag)) (ax (jk BIG (jL (ao (mOp fNe (af 5) (bF ag))) (ao (mOp fLt (mB1 cW (af 6)) (af 1)))) (ax (aA 7 (kU 5)) (ax (aA 8 (ai dz [] (aa (af 0) (aa (aw 4) ag)))) (ax (aA 9 (ai dX [] (aa (aw 8) (aa (ai cK [] (aa (af 0) (aa (aw 4) ag))) ag)))) (ax (aA 10 (bF ag)) (ax (iM (gB (mOp (fOr fIx av) (bF (aa (mC (.int 0)) (aa (mC (.int 0)) (aa (mC (.int 1)) (aa (mC (.int 1)) (aa (mC (.int 2)) (aa (mC (.int 3)) ag))))))) (ai ah [] (aa (af 0) (aa (mC (.int 6)) ag))))) (aM 11) (sIf (ao (mOp fNe (af 5) (bF ag))) (ax (aA 12 (ai cK [] (aa (af 0) (aa (aw 4) ag)))) (aP (fj 10 (cQ 10 (aF (aa (kU 5) (aa (af 12) (aa (mOp (fOr fIx av) (bF (aa (mC (.str "fixed")) (aa (mC (.str "big")) (aa (mC (.str "small")) ag)))) (ai ah [] (aa (af 0) (aa (mC (.int 3)) ag)))) ag)))))))) aL)) (aP (fj 6 (cQ 6 (aF (aa (af 7) (aa (af 8) (aa (af 9) (aa (mB1 fQ (af 10)) ag)))))))))))))) (aR (af 6)))))
noncomputable def fX:Ms:=bt 9 iQ
noncomputable def jg:Ms:=aR (mOp fLt (mOp bL (mOp (fOr fIx av) (af 0) (mC (.int 0))) (mOp (fOr fIx av) (af 1) (mC (.int 1)))) (mOp bL (mOp (fOr fIx av) (af 1) (mC (.int 0))) (mOp (fOr fIx av) (af 0) (mC (.int 1)))))
noncomputable def gU:Ms:=bt 0 jg
noncomputable def da:Ms:=ax (jk BIG (ao (mOp fNe (af 1) (mC (.int 0)))) (ax (aA 2 (mOp gk (af 0) (af 1))) (ax (aA 0 (af 1)) (aA 1 (af 2))))) (aR (af 0))
noncomputable def dc:Ms:=bt 1 da
noncomputable def j9:Ms:=aR (lY (mB1 (pG Ty.int) (af 0)) (oE (mB1 (pG Ty.bool) (af 0))))
noncomputable def iw:Ms:=bt 0 j9
noncomputable def gw:Ms:=ax (sIf (mOr (fN (ao (mB1 (pG Ty.tuple) (af 0)))) (ao (mOp fNe (mB1 cW (af 0)) (mC (.int 2))))) (aR (mC (.bl false))) aL) (ax (sIf (mOr (fN (ao (ai iw [] (aa (mOp (fOr fIx av) (af 0) (mC (.int 0))) ag)))) (mOr (fN (ao (ai iw [] (aa (mOp (fOr fIx av) (af 0) (mC (.int 1))) ag)))) (ao (mOp fLt (mOp (fOr fIx av) (af 0) (mC (.int 1))) (mC (.int 1)))))) (aR (mC (.bl false))) aL) (aR (mOp fEq (ai dc [] (aa (mOp (fOr fIx av) (af 0) (mC (.int 0))) (aa (mOp (fOr fIx av) (af 0) (mC (.int 1))) ag))) (mC (.int 1)))))
noncomputable def du:Ms:=bt 0 gw
noncomputable def dF:Ms:=ax (sIf (mOr (fN (ao (ai du [] (aa (aw 0) ag)))) (fN (ao (ai du [] (aa (aw 1) ag))))) (cR "NoSize" (aa (mC (.str "the bounds of a size are numbers")) ag)) aL) (sIf (ao (ai gU [] (aa (aw 1) (aa (aw 0) ag)))) (cR "NoSize" (aa (mC (.str "the least of a size is not above its most")) ag)) aL)
noncomputable def cD:Ms:=bt 0 dF
noncomputable def dB:Ms:=ax (sIf (mOr (fN (ao (mB1 (pG Ty.str) (af 0)))) (fN (ao (eO cLe cLe (mC (.int 1)) (mB1 cW (af 0)) (af 2))))) (aR (mC (.bl false))) aL) (aR (mB1 (oW λbs=>List.all bs id) (cc 1 (cX (af 0)) (aM 3) bj (mOp (fOr (fOr (d9 false) (cY false)) (gq false)) (af 3) (af 1)))))
noncomputable def dC:Ms:=bt 0 dB
noncomputable def jh:Ms:=aR (ai dC [] (aa (aw 0) (aa (mC (.str "abcdefghijklmnopqrstuvwxyz0123456789.")) (aa (mC (.int 30)) ag))))
noncomputable def g7:Ms:=bt 0 jh
noncomputable def dU:Ms:=ax (aA 1 rO) (iM (cX (af 0)) (aM 2) (ax (sIf (fN (ao (ai g7 [] (aa (aw 2) ag)))) (cR "NoSize" (aa (mC (.str "a name has one to thirty small letters, figures and dots")) ag)) aL) (ax (sIf (ao (mOp (fOr (fOr (d9 false) (cY false)) (gq false)) (af 2) (af 1))) (cR "NoSize" (aa (mJs (mJ (mC (.str "the name ")) (mJ (mFv (af 2)) (mJ (mC (.str " comes twice")) (dG []))))) ag)) aL) (lE 1 (af 2) (mC (.bl true))))))
noncomputable def bC:Ms:=bt 2 dU
noncomputable def d5:Ms:=ax (sIf (mOr (fN (ao (ai du [] (aa (mOp (fOr fIx av) (af 0) (mC (.int 1))) ag)))) (ao (ai gU [] (aa (mOp (fOr fIx av) (af 0) (mC (.int 1))) (aa (mC (.tup [.int 0,.int 1])) ag))))) (cR "NoSize" (aa (mC (.str "an allowance is a number from 0 on")) ag)) aL) (sIf (ao (mOp (fOr (fOr (d9 true) (cY true)) (gq true)) (mOp (fOr fIx av) (af 0) (mC (.int 2))) (mC (.tup [.str "fixed",.str "big",.str "small"])))) (cR "NoSize" (aa (mC (.str "a way is fixed, big or small")) ag)) aL)
noncomputable def cg:Ms:=bt 0 d5
noncomputable def dJ:Ms:=aR (mOp aJ (bF (aa (mUn (aW ["Size"] "name") (af 0)) ag)) (cc 1 (cX (mUn (aW ["Size"] "shifts") (af 0))) (aM 1) bj (mOp (fOr fIx av) (af 1) (mC (.int 0)))))
noncomputable def aK:Ms:=bt 0 dJ
noncomputable def dt:Ms:=ax (aA 1 (bF ag)) (ax (iM (cX (mUn (aW ["Stock"] "kept") (af 0))) (aM 2) (aP (fj 1 (eS 1 (ai aK [] (aa (bc "Size" "names" (aw 2)) ag)))))) (aR (af 1)))
noncomputable def aI:Ms:=bt 2 dt
noncomputable def gN:Ms:=ax (eJ ["Size"] 0 "name" (af 1)) (ax (eJ ["Size"] 0 "least" (af 2)) (ax (eJ ["Size"] 0 "most" (af 3)) (ax (eJ ["Size"] 0 "shifts" (mIf (ao (mOp (fIs false) (af 4) (mC .non))) (aF ag) (mB1 fQ (cc 1 (cX (af 4)) (aM 6) bj (aF (aa (mOp (fOr fIx av) (af 6) (mC (.int 0))) (aa (mOp (fOr fIx av) (af 6) (mC (.int 1))) (aa (mOp (fOr fIx av) (af 6) (mC (.int 2))) ag)))))))) (ax (aP (ai cD [] (aa (aw 2) (aa (aw 3) ag)))) (ax (iM (cX (mUn (aW ["Size"] "shifts") (af 0))) (aM 5) (aP (ai cg [] (aa (aw 5) ag)))) (aP (ai bC [] (aa (mFz (g9 (ai aI [] (aa (bc "Stock" "names" (af 0)) ag)) (ai aK [] (aa (bc "Size" "names" (af 0)) ag)))) ag))))))))
noncomputable def aX:Ms:=bt 1 gN
noncomputable def jC:Ms:=ax (aA 2 (bF ag)) (ax (iM (cX (af 1)) (gR 4 (aU (aM 3) (aU (aM 4) (aU (aM 5) (aU (aM 6) hZ))))) (ax (aA 7 (ai ah [] (aa (af 0) (aa (mC (.int 2)) ag)))) (sIf (jL (ao (mOp fEq (af 6) (aF ag))) (ao (mOp fEq (af 7) (mC (.int 1))))) (aP (fj 2 (cQ 2 (cI "Size" aX [.non] (aa (aw 3) (aa (aw 4) (aa (aw 5) ag))))))) (aP (fj 2 (cQ 2 (cI "Size" aX [] (aa (aw 3) (aa (aw 4) (aa (aw 5) (aa (mOp (fOr fIx av) (bF (aa (af 6) (aa (mB1 rT (af 6)) ag))) (af 7)) ag))))))))))) (aR (af 2)))
noncomputable def cJ:Ms:=bt 6 jC
noncomputable def bJ:Ms:=aR (cI "Size" aX [] (aa (mUn (aW ["Size"] "name") (af 0)) (aa (aw 1) (aa (aw 2) (aa (mUn (aW ["Size"] "shifts") (af 0)) ag)))))
noncomputable def aQ:Ms:=bt 0 bJ
noncomputable def fg:Ms:=aR (ai aQ [] (aa (aw 0) (aa (mUn (aW ["Size"] "least") (af 0)) (aa (mUn (aW ["Size"] "most") (af 0)) ag))))
noncomputable def bR:Ms:=bt 0 fg
noncomputable def fO:Ms:=ax (eJ ["Stock"] 0 "kept" (cc 1 (cX (af 1)) (aM 2) bj (ai bR [] (aa (aw 2) ag)))) (aP (ai bC [] (aa (mFz (g9 (ai aI [] (aa (bc "Stock" "names" (af 0)) ag)) (ai aK [] (aa (bc "Size" "names" (af 0)) ag)))) ag)))
noncomputable def a9:Ms:=bt 0 fO
noncomputable def gb:Ms:=ax (aA 2 (bF (aa (mC (.str "")) (aa (mOp bL (mC (.str "a")) (mC (.int 31))) (aa (mC (.str "A")) (aa (mC (.str "a b")) (aa (mC (.str "a-b")) (aa (mOp aJ (af 1) (mC (.str " "))) (aa (mC (.str "a_b")) (aa (mOp bL (mC (.str "b")) (mC (.int 300))) (aa (mC (.str "(a)")) ag))))))))))) (aR (mOp (fOr fIx av) (af 2) (ai ah [] (aa (af 0) (aa (mC (.int 9)) ag)))))
noncomputable def bP:Ms:=bt 1 gb
noncomputable def gx:Ms:=aR (ai dX [] (aa (aw 0) (aa (aF (aa (mOp fM (mC (.int 0)) (mOp (fOr fIx av) (af 1) (mC (.int 0)))) (aa (mOp (fOr fIx av) (af 1) (mC (.int 1))) ag))) ag)))
noncomputable def cH:Ms:=bt 0 gx
noncomputable def gc:Ms:=ax (Eh (af 1) (gR 4 (aU (aM 2) (aU (aM 3) (aU (aM 4) (aU (aM 5) hZ)))))) (ax (aA 6 (ai ah [] (aa (af 0) (aa (mC (.int 7)) ag)))) (ax (aA 7 (ai ah [] (aa (af 0) (aa (mFz (mOp aJ (mB1 cW (af 5)) (mC (.int 1)))) ag)))) (ax (sIf (ao (mOp fEq (af 6) (mC (.int 0)))) (aR (aF (aa (ai bP [] (aa (af 0) (aa (aw 2) ag))) (aa (af 3) (aa (af 4) (aa (af 5) ag)))))) aL) (ax (sIf (ao (mOp fEq (af 6) (mC (.int 1)))) (ax (aA 8 (mOp (fOr fIx av) (bF (aa (aF (aa (mC (.int 1)) (aa (mOp (fOr fIx av) (af 3) (mC (.int 1))) ag))) (aa (aF (aa (mC (.int 1)) (aa (mC (.int 1)) ag))) (aa (aF (aa (mOp aJ (mC (.int 1)) (ai ah [] (aa (af 0) (aa (mOp cp (mC (.int 10)) (mC (.int 12))) ag)))) (aa (mC (.int 1)) ag))) ag)))) (ai ah [] (aa (af 0) (aa (mC (.int 3)) ag))))) (ax (sIf (ao (mOp fEq (ai ah [] (aa (af 0) (aa (mC (.int 4)) ag))) (mC (.int 1)))) (ax (aA 3 (aF (aa (mOp fM (ai ah [] (aa (af 0) (aa (mFz (mOp aJ (mOp bL (mC (.int 2)) (mOp cp (mC (.int 10)) (mC (.int 8)))) (mC (.int 1)))) ag))) (mOp cp (mC (.int 10)) (mC (.int 8)))) (aa (mC (.int 1)) ag)))) (aA 8 (aF (aa (mC (.int 1)) (aa (mOp cp (mC (.int 10)) (mC (.int 9))) ag))))) aL) (aR (aF (aa (af 2) (aa (af 3) (aa (ai cH [] (aa (aw 3) (aa (aw 8) ag))) (aa (af 5) ag)))))))) aL) (ax (aA 9 (mOp (fOr fIx av) (bF (aa (mOp bL (mC (.str "q")) (mC (.int 7))) (aa (mOp bL (mC (.str "r")) (mC (.int 7))) ag))) (mB1 p8 (mOp fEq (af 2) (mOp bL (mC (.str "q")) (mC (.int 7))))))) (ax (aA 10 (aF (aa (af 9) (aa (aF (aa (mUn vy (mC (.int 1))) (aa (mOp aJ (mC (.int 1)) (ai ah [] (aa (af 0) (aa (mOp cp (mC (.int 10)) (mC (.int 9))) ag)))) ag))) (aa (mOp (fOr fIx av) (bF (aa (mC (.str "fixed")) (aa (mC (.str "big")) ag))) (mOp gk (af 6) (mC (.int 2)))) ag))))) (ax (sIf (ao (mOp fEq (af 6) (mC (.int 3)))) (aA 10 (aF (aa (af 9) (aa (aF (aa (mC (.int 0)) (aa (mC (.int 1)) ag))) (aa (mOp (fOr fIx av) (bF (aa (mC (.str "")) (aa (mC (.str "Fixed")) (aa (mC (.str "fix")) (aa (mC (.str "bigger")) (aa (mC (.str "least")) (aa (mC (.str "small ")) ag))))))) (ai ah [] (aa (af 0) (aa (mC (.int 6)) ag)))) ag))))) aL) (ax (sIf (ao (mOp fEq (af 6) (mC (.int 4)))) (aA 10 (aF (aa (ai bP [] (aa (af 0) (aa (aw 2) ag))) (aa (aF (aa (mC (.int 0)) (aa (mC (.int 1)) ag))) (aa (mC (.str "fixed")) ag))))) aL) (ax (sIf (ao (mOp fEq (af 6) (mC (.int 5)))) (aA 10 (aF (aa (af 2) (aa (aF (aa (mC (.int 1)) (aa (mC (.int 1)) ag))) (aa (mC (.str "big")) ag))))) aL) (ax (sIf (jL (ao (mOp fEq (af 6) (mC (.int 6)))) (ao (mOp fNe (af 5) (aF ag)))) (aA 10 (aF (aa (mOp (fOr fIx av) (mOp (fOr fIx av) (af 5) (ai ah [] (aa (af 0) (aa (mB1 cW (af 5)) ag)))) (mC (.int 0))) (aa (aF (aa (mC (.int 1)) (aa (mC (.int 1)) ag))) (aa (mC (.str "fixed")) ag))))) aL) (aR (aF (aa (af 2) (aa (af 3) (aa (af 4) (aa (mOp aJ (mOp aJ (mSl (af 5) bK (cM (af 7))) (aF (aa (af 10) ag))) (mSl (af 5) (cM (af 7)) bK)) ag))))))))))))))))
noncomputable def cF:Ms:=bt 9 gc
noncomputable def jE:Ms:=ax (sIf (ao (mB1 (fG (jj [[("NoSize",false)],[("NoSize",false)],[("NoSize",false)],[("NoSize",false)],[("NoSize",false)],[("NoSize",false)],[("NoSize",false)],[("NoSize",false)]])) (af 0))) (aR (mC (.bl false))) aL) (ax (sIf (ao (mB1 (fG (jj [[("NoSize",false)],[("NoSize",false)],[("NoSize",false)],[("NoSize",false)],[("NoSize",false)]])) (af 0))) (aR (mC (.bl false))) aL) (aR (lY (mB1 (fG (EU [("NoSize",true)])) (af 0)) (mB1 (fG (EU [("NoSize",true)])) (af 0)))))
noncomputable def eR:Ms:=bt 0 jE
noncomputable def bg:Ms:=ax (sIf (ao (mOp (fOr (fOr (d9 true) (cY true)) (gq true)) (af 1) (gF 1 (cX (mUn (aW ["Stock"] "kept") (af 0))) (aM 4) bj (mUn (aW ["Size"] "name") (af 4))))) (cR "NoSize" (aa (mJs (mJ (mC (.str "the stock has no size ")) (mJ (mFv (af 1)) (dG [])))) ag)) aL) (aR (cI "Stock" a9 [] (aa (mFz (gF 1 (cX (mUn (aW ["Stock"] "kept") (af 0))) (aM 4) bj (mIf (ao (mOp fEq (mUn (aW ["Size"] "name") (af 4)) (af 1))) (ai aQ [] (aa (aw 4) (aa (aw 2) (aa (aw 3) ag)))) (af 4)))) ag)))
noncomputable def bf:Ms:=bt 0 bg
noncomputable def dW:Ms:=ax (aA 3 (mC (.bl false))) (ax (tV 4 (DE ["NoSize"]) (sIf (aS (ao (mOp fEq (af 0) (mC (.str "size"))))) (aP (cI "Size" aX [] (aS (aa (mOp (fOr fIx av) (af 2) (mC (.int 0))) (aa (mOp (fOr fIx av) (af 2) (mC (.int 1))) (aa (mOp (fOr fIx av) (af 2) (mC (.int 2))) (aa (mOp (fOr fIx av) (af 2) (mC (.int 3))) ag))))))) (sIf (aS (ao (mOp fEq (af 0) (mC (.str "stock"))))) (aP (cI "Stock" a9 [] (aS (aa (aw 2) ag)))) (aP (ai bf [] (aa (bc "Stock" "with_bounds" (aS (aw 1))) (aS (aa (mOp (fOr fIx av) (af 2) (mC (.int 0))) (aa (mOp (fOr fIx av) (af 2) (mC (.int 1))) (aa (mOp (fOr fIx av) (af 2) (mC (.int 2))) ag))))))))) (aA 3 (aS (ai eR [] (aS (aa (af 4) ag)))))) (aR (af 3)))
noncomputable def aN:Ms:=bt 2 dW
noncomputable def hY:Ms:=ax (aA 1 (ai ah [] (aa (af 0) (aa (mC (.int 8)) ag)))) (ax (sIf (ao (mOp fEq (af 1) (mC (.int 7)))) (aR (aF (aa (mOp fM (ai ah [] (aa (af 0) (aa (mFz (mOp aJ (mOp bL (mC (.int 2)) (mOp cp (mC (.int 10)) (mC (.int 17)))) (mC (.int 1)))) ag))) (mOp cp (mC (.int 10)) (mC (.int 17)))) (aa (mC (.int 1)) ag)))) aL) (ax (sIf (ao (mOp fEq (af 1) (mC (.int 6)))) (aR (ai cf [] (aa (mOp fM (ai ah [] (aa (af 0) (aa (mFz (mOp aJ (mOp bL (mC (.int 2)) (mOp cp (mC (.int 10)) (mC (.int 8)))) (mC (.int 1)))) ag))) (mOp cp (mC (.int 10)) (mC (.int 8)))) (aa (mFz (mOp aJ (mC (.int 1)) (ai ah [] (aa (af 0) (aa (mOp cp (mC (.int 10)) (mC (.int 8))) ag))))) ag)))) aL) (ax (sIf (ao (mOp fGt (af 1) (mC (.int 3)))) (aR (ai cf [] (aa (mOp fM (ai ah [] (aa (af 0) (aa (mC (.int 201)) ag))) (mC (.int 100))) (aa (mFz (mOp aJ (mC (.int 1)) (ai ah [] (aa (af 0) (aa (mC (.int 6)) ag))))) ag)))) aL) (aR (aF (aa (mOp fM (ai ah [] (aa (af 0) (aa (mC (.int 9)) ag))) (mC (.int 4))) (aa (mC (.int 1)) ag)))))))
noncomputable def eZ:Ms:=bt 1 hY
noncomputable def eF:Ms:=ax (aA 2 (bF (aa (mC (.str "")) (aa (mC (.str "nothing")) (aa (mC (.str "zz.zz")) (aa (mC (.str "A")) ag)))))) (ax (iM (cX (af 1)) (gR 4 (aU (aM 3) (aU (aM 4) (aU (aM 5) (aU (aM 6) hZ))))) (aP (fj 2 (eS 2 (cc 3 (cX (af 6)) (gR 3 (aU (aM 8) (aU (aM 9) (aU (aM 10) hZ)))) bj (af 8)))))) (ax (aA 7 (cc 1 (cX (af 1)) (aM 8) bj (mOp (fOr fIx av) (af 8) (mC (.int 0))))) (ax (aA 2 (cc 1 (cX (af 2)) (aM 8) (ao (mOp (fOr (fOr (d9 true) (cY true)) (gq true)) (af 8) (af 7))) (af 8))) (ax (sIf (ao (mOp fGt (ai ah [] (aa (af 0) (aa (mC (.int 3)) ag))) (mC (.int 0)))) (aR (aF (aa (mOp (fOr fIx av) (af 2) (ai ah [] (aa (af 0) (aa (mB1 cW (af 2)) ag)))) (aa (aF (aa (mC (.int 0)) (aa (mC (.int 1)) ag))) (aa (aF (aa (mC (.int 1)) (aa (mC (.int 1)) ag))) ag))))) aL) (ax (aA 4 (ai eZ [] (aa (af 0) ag))) (aR (aF (aa (mOp (fOr fIx av) (af 7) (ai ah [] (aa (af 0) (aa (mB1 cW (af 7)) ag)))) (aa (af 4) (aa (ai cH [] (aa (aw 4) (aa (aF (aa (mC (.int 1)) (aa (mOp (fOr fIx av) (af 4) (mC (.int 1))) ag))) ag))) ag))))))))))
noncomputable def bU:Ms:=bt 6 eF
noncomputable def gz:Ms:=ax (aA 2 (mOp (fOr fIx av) (af 1) (ai ah [] (aa (af 0) (aa (mB1 cW (af 1)) ag))))) (ax (aA 3 (mOp aJ (bF (aa (mOp (fOr fIx av) (af 2) (mC (.int 0))) ag)) (cc 3 (cX (mOp (fOr fIx av) (af 2) (mC (.int 3)))) (gR 3 (aU (aM 8) (aU (aM 9) (aU (aM 10) hZ)))) bj (af 8)))) (ax (aA 4 (mOp (fOr fIx av) (af 3) (ai ah [] (aa (af 0) (aa (mB1 cW (af 3)) ag))))) (ax (aA 5 (mOp (fOr fIx av) (bF (aa (mOp bL (mC (.str "q")) (mC (.int 7))) (aa (mOp bL (mC (.str "r")) (mC (.int 7))) ag))) (mB1 p8 (mOp fEq (af 4) (mOp bL (mC (.str "q")) (mC (.int 7))))))) (ax (aA 6 (mOp (fOr fIx av) (bF (aa (aF (aa (af 4) (aa (aF (aa (mC (.int 0)) (aa (mC (.int 1)) ag))) (aa (aF (aa (mC (.int 1)) (aa (mC (.int 1)) ag))) (aa (aF ag) ag))))) (aa (aF (aa (af 5) (aa (aF (aa (mC (.int 0)) (aa (mC (.int 1)) ag))) (aa (aF (aa (mC (.int 1)) (aa (mC (.int 1)) ag))) (aa (aF (aa (aF (aa (af 4) (aa (aF (aa (mC (.int 0)) (aa (mC (.int 1)) ag))) (aa (mC (.str "fixed")) ag)))) ag)) ag))))) ag))) (ai ah [] (aa (af 0) (aa (mC (.int 2)) ag))))) (ax (aA 7 (ai ah [] (aa (af 0) (aa (mFz (mOp aJ (mB1 cW (af 1)) (mC (.int 1)))) ag)))) (aR (mOp aJ (mOp aJ (mSl (af 1) bK (cM (af 7))) (bF (aa (af 6) ag))) (mSl (af 1) (cM (af 7)) bK))))))))
noncomputable def cP:Ms:=bt 6 gz
noncomputable def ib:Ms:=aR (cc 1 (cX (mUn (aW ["Stock"] "kept") (af 0))) (aM 1) bj (ai bR [] (aa (aw 1) ag)))
noncomputable def dq:Ms:=bt 0 ib
noncomputable def Cz:Ms:=ax (aA 1 (ai cb [] (aa (aw 0) (aa (mC (.int 0)) ag)))) (ax (aA 2 (ai fX [] (aa (af 1) (aa (mFz (mOp aJ (mC (.int 1)) (ai ah [] (aa (af 1) (aa (mC (.int 4)) ag))))) (aa (mC (.int 10)) (aa (mC (.int 5)) ag)))))) (ax (aA 3 (ai cJ [] (aa (af 1) (aa (aw 2) ag)))) (ax (aA 4 (cI "Stock" a9 [] (aa (aw 3) ag))) (ax (aA 5 (g9 (ai aI [] (aa (bc "Stock" "names" (aw 4)) ag)) (ai aK [] (aa (bc "Size" "names" (aw 4)) ag)))) (ax (iM (oG (mC (.int 1)) (mB2 tF (mC (.int 2)) (mB2 t5 (mB1 cW (af 0)) (mC (.int 13))))) (aM 6) (ax (aA 1 (ai cb [] (aa (aw 0) (aa (aw 6) ag)))) (ax (aA 7 (mOp (fOr fIx av) (bF (aa (mC (.str "size")) (aa (mC (.str "size")) (aa (mC (.str "stock")) (aa (mC (.str "bounds")) ag))))) (ai ah [] (aa (af 1) (aa (mC (.int 4)) ag))))) (ax (sIf (ao (mOp fEq (af 7) (mC (.str "size")))) (aA 8 (ai cF [] (aa (af 1) (aa (mOp (fOr fIx av) (af 2) (ai ah [] (aa (af 1) (aa (mB1 cW (af 2)) ag)))) ag)))) (sIf (ao (mOp fEq (af 7) (mC (.str "stock")))) (aA 8 (ai cJ [] (aa (af 1) (aa (ai cP [] (aa (af 1) (aa (aw 2) ag))) ag)))) (aA 8 (ai bU [] (aa (af 1) (aa (aw 2) ag)))))) (ax (sIf (fN (ao (ai aN [] (aa (aw 7) (aa (aw 4) (aa (aw 8) ag)))))) (aR (mC (.bl false))) aL) (sIf (mOr (ao (mOp fNe (g9 (ai aI [] (aa (bc "Stock" "names" (aw 4)) ag)) (ai aK [] (aa (bc "Size" "names" (aw 4)) ag))) (af 5))) (ao (mOp fNe (mB1 cW (ai dq [] (aa (bc "Stock" "sizes" (aw 4)) ag))) (mB1 cW (af 2))))) (aR (mC (.bl false))) aL)))))) (aR (mOp fEq (g9 (ai aI [] (aa (bc "Stock" "names" (mFz (cI "Stock" a9 [] (aa (mB1 fQ (af 3)) ag)))) ag)) (ai aK [] (aa (bc "Size" "names" (mFz (cI "Stock" a9 [] (aa (mB1 fQ (af 3)) ag)))) ag))) (af 5))))))))
noncomputable def CM:Ms:=bt 8 Cz
noncomputable def tb0:Tb:={ fns:=[],cst:=[("ZERO",(.tup [(.int 0),(.int 1)])),("NAME_SIGNS",(.str "abcdefghijklmnopqrstuvwxyz0123456789.")),("NAME_LENGTH",(.int 30)),("WAYS",(.tup [(.str "fixed"),(.str "big"),(.str "small")]))],exs:=["NoSize"],kit:=[("NoBins",[("NoSize",false)]),("NoDealing",[("NoSize",false)]),("NoFace",[("NoSize",false)]),("NoFit",[("NoSize",false)]),("NoJoint",[("NoSize",false)]),("NoMaking",[("NoSize",false)]),("NoNumber",[("NoSize",false)]),("NoPart",[("NoSize",false)]),("NoProgram",[("NoSize",false)]),("NoRow",[("NoSize",false)]),("NoSheet",[("NoSize",false)]),("NoSum",[("NoSize",false)]),("TooMany",[("NoSize",false)]),("NoSize",[("NoSize",true)]),("ValueError",[("NoSize",true)])],exm:=[("FitError",["NoSize"])],fld:=[("Size",["name", "least", "most", "shifts"]),("Stock",["kept"])],ini:=[],mts:=[] }
noncomputable def dsL:List DI:=[
 ⟨none, "_law_well",top 49,["_law_script", "_law_k", "_law_cell"],2,[],[false,false],[],[],eI,[],false⟩,
 ⟨none, "_law_take",top 50,["_law_well_here", "_law_many", "_law_digit", "_law_turn", "_law_number_here"],2,[],[true,false],[],[],gA,[],false⟩,
 ⟨none, "_law_names",top 58,["_law_well_here", "_law_many", "_law_signs", "_law_base", "_law_start", "_law_long", "_law_spot", "_law_first"],2,[],[true,false],[],[],dN,[],false⟩,
 ⟨none, "_law_common",top 51,["_law_one", "_law_other"],2,[],[false,false],[],[],fb,[],false⟩,
 ⟨none, "_law_num",top 52,["_law_top", "_law_bottom", "_law_by"],2,[],[false,false],[],[],iy,[],false⟩,
 ⟨none, "_law_some",top 59,["_law_well_here", "_law_kind"],2,[],[true,false],[],[],jG,[],false⟩,
 ⟨none, "_law_add",top 53,["_law_one", "_law_other"],2,[],[false,false],[],[],iz,[],false⟩,
 ⟨none, "_law_wide",top 60,["_law_well_here", "_law_kind", "_law_wide_here"],2,[],[true,false],[],[],jx,[],false⟩,
 ⟨none, "_law_sizes",top 61,["_law_well_here", "_law_many", "_law_most", "_law_kinds", "_law_kind", "_law_names_here", "_law_sizes_here", "_law_name", "_law_least", "_law_last", "_law_shifts", "_law_k", "_law_room"],4,[],[true,false,false,false],[],[],iQ,[],false⟩,
 ⟨none, "is_less",top 27,["a", "b"],2,[],[false,false],[],[],jg,[],false⟩,
 ⟨none, "common_divisor",top 21,["a", "b", "rest"],2,[],[false,false],[],[],da,[],false⟩,
 ⟨none, "is_whole",top 20,["value"],1,[],[false],[],[],j9,[],false⟩,
 ⟨none, "is_number",top 23,["value"],1,[],[false],[],[],gw,[],false⟩,
 ⟨none, "refuse_bounds",top 37,["least", "most"],2,[],[false,false],[],[],dF,[],false⟩,
 ⟨none, "is_written_in",top 31,["text", "signs", "most"],3,[],[false,false,false],[],[],dB,[],false⟩,
 ⟨none, "is_name",top 32,["text"],1,[],[false],[],[],jh,[],false⟩,
 ⟨none, "refuse_names",top 39,["names", "seen", "name"],1,["seen"],[false],[],[],dU,[],false⟩,
 ⟨none, "refuse_shift",top 38,["shift"],1,[],[false],[],[],d5,[],false⟩,
 ⟨some "Size", "names",topC 36 1,["self"],1,[],[false],[],[],dJ,[],false⟩,
 ⟨some "Stock", "names",topC 47 2,["self", "names", "size"],1,[],[false],[],[],dt,[],false⟩,
 ⟨some "Size", "__init__",topC 36 0,["self", "name", "least", "most", "shifts", "shift"],5,[],[true,false,false,false,false],[.non],[],gN,[],false⟩,
 ⟨none, "_law_made",top 62,["_law_well_here", "_law_sizes_here", "_law_made_here", "_law_name", "_law_least", "_law_last", "_law_shifts", "_law_way"],2,[],[true,false],[],[],jC,[],false⟩,
 ⟨none, "size_with_bounds",top 40,["size", "least", "most"],3,[],[false,false,false],[],[],bJ,[],false⟩,
 ⟨none, "size_copied",top 41,["size"],1,[],[false],[],[],fg,[],false⟩,
 ⟨some "Stock", "__init__",topC 47 0,["self", "sizes"],2,[],[true,false],[],[],fO,[],false⟩,
 ⟨none, "_law_bad_name",top 65,["_law_well_here", "_law_name", "_law_some_here"],2,[],[true,false],[],[],gb,[],false⟩,
 ⟨none, "_law_less",top 55,["_law_one", "_law_other"],2,[],[false,false],[],[],gx,[],false⟩,
 ⟨none, "_law_bad_size",top 66,["_law_well_here", "_law_size", "_law_name", "_law_least", "_law_last", "_law_shifts", "_law_way", "_law_spot", "_law_hair", "_law_other", "_law_odd"],2,[],[true,false],[],[],gc,[],false⟩,
 ⟨none, "_law_only",top 63,["_law_e"],1,[],[false],[],[],jE,["_law_e"],false⟩,
 ⟨some "Stock", "with_bounds",topC 47 9,["self", "name", "least", "most"],4,[],[false,false,false,false],[],[],bg,[],true⟩,
 ⟨none, "_law_refused",top 64,["_law_way", "_law_stock", "_law_thing", "_law_refused_here", "_law_e"],3,[],[false,false,false],[],[],dW,[],false⟩,
 ⟨none, "_law_number",top 57,["_law_well_here", "_law_way"],1,[],[true],[],[],hY,[],false⟩,
 ⟨none, "_law_bad_bounds",top 68,["_law_well_here", "_law_sizes_here", "_law_some_here", "_law_name", "_law_least", "_law_last", "_law_shifts", "_law_known"],2,[],[true,false],[],[],eF,[],false⟩,
 ⟨none, "_law_bad_row",top 67,["_law_well_here", "_law_sizes_here", "_law_twice", "_law_names_here", "_law_name", "_law_other", "_law_odd", "_law_spot"],2,[],[true,false],[],[],gz,[],false⟩,
 ⟨some "Stock", "sizes",topC 47 1,["self"],1,[],[false],[],[],ib,[],false⟩]
noncomputable def jT:DI:=⟨none, "law",top 69,["_law_script", "_law_well_here", "_law_sizes_here", "_law_made_here", "_law_stock", "_law_names_here", "_law_k", "_law_way", "_law_thing"],1,[],[false],[],[],Cz,[],false⟩
theorem Dk:qV tb0 dsL=dsL.map (λd=>some d.m):=by kernel_rfl
theorem DK:jq (trS (lp tb0 dsL) (tr (lp tb0 dsL) iI) iI jT.sc) (bB jT.st)=some jT.m:=by kernel_rfl
theorem FE:(dsL++[jT]).all (λd=>fI d&&ql d)=true:=by decide +kernel
end W
section
open PySem PySem.W PyProof.Rows L2
set_option maxRecDepth 100000 in
theorem W.hl:LeftO PySem.Challenge.rw_fitwhatever_k08_no_sizes.row.prog (W.qOf PySem.Challenge.pw_fitwhatever_k08_no_sizes) (W.rN PySem.Challenge.pw_fitwhatever_k08_no_sizes) (λs=>xlAt (W.qOf PySem.Challenge.pw_fitwhatever_k08_no_sizes) [] s&&recOk PySem.Challenge.rw_fitwhatever_k08_no_sizes.row.records s) (Hook.obs (M.hk (W.dsL++[W.jT]) (M.gdB W.tb0))) (Hook.val (M.hk (W.dsL++[W.jT]) (M.gdB W.tb0))) 20000:=W.xN λw=>by kernel_rfl
set_option maxRecDepth 100000 in
set_option maxHeartbeats 0 in
theorem W.fin(LT:∀ns:List Int,ns.length<=63->∃ρ,W.jT.M [.fr (.lst (ns.map M.A.int))]=some (.rt (.fr (.bl true)),ρ)):PySem.Challenge.rw_fitwhatever_k08_no_sizes.Holds:=by
 w_on
 refine holds_law (by decide +kernel) λsaid=>?_
 refine holds_open (q:=W.qOf PySem.Challenge.pw_fitwhatever_k08_no_sizes) (loose:=W.rN PySem.Challenge.pw_fitwhatever_k08_no_sizes) (Xt:=λs=>xlAt (W.qOf PySem.Challenge.pw_fitwhatever_k08_no_sizes) [] s&&recOk (RowW.records _) s) (XP:=XL (W.qOf PySem.Challenge.pw_fitwhatever_k08_no_sizes) []) (Yf:=Hook.obs (M.hk (W.dsL++[W.jT]) (M.gdB W.tb0))) (Ya:=Hook.val (M.hk (W.dsL++[W.jT]) (M.gdB W.tb0))) (YP:=Hook.says (M.hk (W.dsL++[W.jT]) (M.gdB W.tb0))) (N:=20000) W.hl (Hook.of _) (Hook.keeps _) (λs e=>xl_of s (OZ.mp e).1) XL.keeps (by rfl) (by rfl) (by rfl) (λs e=>recFacts_of (OZ.mp e).2) (by rfl) said (by decide +kernel) ⟨rfl,rfl,rfl,rfl,rfl,by decide +kernel⟩ ?hw ?hc
 case hw=>w_witness2
 case hc=>exact M.y3 rfl rfl rfl W.FE W.Dk W.DK rfl rfl rfl rfl ⟨rfl,by decide,by decide⟩ LT
end
set_option maxHeartbeats 1000000
set_option exponentiation.threshold 100000
namespace W
open PySem L2 M
variable{α:Type}
theorem IP(x:α)(xs:List α):atI (x::xs) 0=some x:=by
 unfold atI L2.ixN
 rw[if_pos (by decide),if_pos (by simp only[LX];omega)]
 rfl
theorem Kj(x y:α)(xs:List α):atI (x::y::xs) 1=some y:=by
 unfold atI L2.ixN
 rw[if_pos (by decide),if_pos (by simp only[LX];omega)]
 rfl
theorem Hh(x y z:α)(xs:List α):atI (x::y::z::xs) 2=some z:=by
 unfold atI L2.ixN
 rw[if_pos (by decide),if_pos (by simp only[LX];omega)]
 rfl
local macro_rules | `(tactic| walk_at "evh")=>do
 let xs:=("M.ER M.zv M.Gg M.rL M.EI M.e_C M.FP M.HR M.Lz M.KW M.uX M.BM M.wm M.Je M.CU M.Gq M.Jt M.Ez M.GO M.JH M.qJ M.CJ M.C8 M.jX M.dw M.E9 M.CW M.rK M.ED M.jw M.uU M.iH M.sX M.rR M.pU M.xX M.ir M.qc M.J1 M.Cg M.Af M.Fm M.EF M.Ac M.KZ M.LB M.wW M.GQ M.e_J M.K9 M.LN M.Gm M.fzK M.opK M.unK M.vW M.asB M.tupK M.lstK M.uy M.EL M.Kp M.oQ M.K7 M.JZ M.Dm M.ixK M.dK M.Kk M.Jp M.s1K M.slK M.CY M.res M.Sl.a M.LO.a M.eC M.aV M.stT M.vf M.HE M.Ke M.Ie M.By M.fOr M.gOr M.fIx M.av M.As M.B7 M.kJ M.D4 M.sL M.rb M.Fn M.FV M.vp M.Ig M.IX M.IU M.KD M.fEq M.fNe M.fIs M.vy M.cW M.uf M.FN M.Gn M.p8 M.rT M.fQ M.Cc M.aM M.hZ M.aU M.gR M.Ku M.K2 M.m8 M.aH M.setAt M.isL M.xD M.jH M.mj M.jK MZ Nf Om Oo Nb MJ MB Og NT L5 Mh LX Oe Nat.reduceAdd Nat.reduceLeDiff Nat.reduceEqDiff Nat.reduceLT if_true if_false ite_true ite_false Rb Bool.not_false Qv Rc Pa IP Kj Hh decide_true decide_false Md Nd M.LK M.pQ M.Ci M.DS M.Ko M.Lm M.pG M.Fe M.fG M.opI M.opS M.Bq M.aJ M.Lh M.bL M.qa M.CQ M.kC M.yk M.CS M.BN M.zj M.chK M.Kl M.cLe M.cLt M.oW M.Fe M.oR M.yc M.Cm M.Bp M.Lc M.LC M.HH M.IS".splitOn " ").toArray.map (Lean.mkIdent ·.toName)
 `(tactic| simp only[$[$xs:ident],*, *])
theorem KU{x y:Int}(h:y≠0)(hb:L2.Bd 9000 y):Val dc [.int x,.int y] (.int (cd x y)):=by
 unfold Val dc da
 walk_at "evh"
 obtain⟨ρ',h1,q,r,h2⟩:=jm (t:=ao (mOp fNe (af 1) (mC (A.int 0)))) (b:=ax (aA 2 (mOp gk (af 0) (af 1))) (ax (aA 0 (af 1)) (aA 1 (af 2)))) (n:=BIG)
  (P:=λk ρ=>∃p q r,ρ=[.fr (.int p),.fr (.int q),r]/\k=q.natAbs/\(∀o,r≠Sl.pv o)/\(q=0->p=cd x y)/\(q≠0->cd p q=cd x y))
  (Q:=λρ=>∃q r,ρ=[.fr (.int (cd x y)),q,r]) (by
   rintro k ρ ⟨p,q,r,rfl,rfl,hr,h1,h2⟩
   by_cases z:q=0
   ·left
    subst z
    refine⟨[.fr (.int p),.fr (.int 0),r],?_,.fr (.int 0),r,by rw[<- h1 rfl]⟩
    walk_at "evh"
    try simp
   ·right
    refine⟨[.fr (.int p),.fr (.int q),r],[.fr (.int q),.fr (.int (p.fmod q)),.fr (.int (p.fmod q))],(p.fmod q).natAbs,?_,.inl ?_,nR p z,q,p.fmod q,_,rfl,rfl,(λo z=>by cases z),λe=>?_,λe=>?_⟩
    ·walk_at "evh"
     try simp[z]
    ·walk_at "evh"
     rw[if_pos (by simpa using z)]
     cases r with
     | pv o=>exact absurd rfl (hr o)
     | un=>rfl
     | fr a=>rfl
     | lv o=>rfl
    ·rw[<- h2 z];exact AJ z e
    ·rw[zy z e];exact h2 z) (k:=y.natAbs) (ρ:=[.fr (.int x),.fr (.int y),.un]) ⟨x,y,.un,rfl,rfl,(λo z=>by cases z),λe=>absurd e h,λ_=>rfl⟩ (qB (L4 hb (MU (by decide) (by decide))))
 refine⟨ρ',?_⟩
 rw[h1]
 subst h2
 rfl
theorem fits_of{n m:Nat}{i:Int}(h:L2.Bd m i)(k:m<=n):fits n i=true:=bq h k
theorem oo{x y:Int}(hb:L2.Bd 9000 y):Val eX [.int x,.int y] (.int (MO x y)):=by
 unfold Val eX fb
 walk_at "evh"
 obtain⟨ρ',h1,q,h2,hg⟩:=jm (t:=ao (mOp fNe (af 1) (mC (A.int 0)))) (b:=tQ 0 1 (aa (af 1) (aa (mOp gk (af 0) (af 1)) ag))) (n:=BIG)
  (P:=λk ρ=>∃p q,ρ=[.fr (.int p),.fr (.int q)]/\k=q.natAbs/\MO p q=MO x y)
  (Q:=λρ=>∃p,ρ=[.fr (.int p),.fr (.int 0)]/\MO p 0=MO x y) (by
   rintro k ρ ⟨p,q,rfl,rfl,h1⟩
   by_cases z:q=0
   ·left
    subst z
    refine⟨[.fr (.int p),.fr (.int 0)],?_,p,rfl,h1⟩
    walk_at "evh"
    try simp
   ·right
    refine⟨[.fr (.int p),.fr (.int q)],[.fr (.int q),.fr (.int (p.fmod q))],(p.fmod q).natAbs,?_,.inl ?_,nR p z,q,p.fmod q,rfl,rfl,?_⟩
    ·walk_at "evh"
     try simp[z]
    ·have hz:(q != 0)=true:=by simpa using z
     walk_at "evh"
    ·rw[kr,h1]) (k:=y.natAbs) (ρ:=[.fr (.int x),.fr (.int y)]) ⟨x,y,rfl,rfl,rfl⟩ (qB (L4 hb (MU (by decide) (by decide))))
 refine⟨ρ',?_⟩
 rw[h1]
 subst h2
 walk_at "evh"
 have:(if q<0 then -q else q)=(MO x y:Int):=by
  rw[<- hg,QG]
  split<;>omega
 rw[this]
theorem xK{t b:Int}(h:b≠0)(hb:L2.Bd 9000 b):Val cf [.int t,.int b] (nm (nrm t b)):=by
 rw[<- BG h]
 unfold Val cf iy
 walk_at "evh"
 have gp:∀t b:Int,b≠0->L2.Bd 9000 b->((MO t b:Int) != 0&&fits 9000 (MO t b:Int))=true:=λt b h hb=>by
  have h1:MO t b<=b.natAbs:=Int.gcd_le_natAbs_right _ h
  have h0:MO t b≠0:=λz=>h (Int.gcd_eq_zero_iff.mp z).2
  rw[LV]
  exact⟨by simpa using h0,bq (show L2.Bd 9000 (MO t b:Int) from Ow (by simpa using h1) hb) (Md _)⟩
 by_cases c:b<0
 ·simp only[c,decide_true]
  walk_at "evh"
  have e1:(0:Int)-t = -t:=by omega
  have e2:(0:Int)-b = -b:=by omega
  simp only[e1,e2]
  have:=aZ (oo (x:=-t) (y:=-b) hb.neg)
  simp only[L5,Mh] at this
  simp only[this]
  have hg:=gp (-t) (-b) (by omega) hb.neg
  have e3:Bj t b=((-t).fdiv (MO (-t) (-b)),(-b).fdiv (MO (-t) (-b))):=if_pos c
  rw[e3]
  simp only[nm]
  walk_at "evh"
  exact⟨_,rfl⟩
 ·simp only[c,decide_false]
  walk_at "evh"
  have:=aZ (oo (x:=t) (y:=b) hb)
  simp only[L5,Mh] at this
  simp only[this]
  have hg:=gp t b h hb
  have e3:Bj t b=(t.fdiv (MO t b),b.fdiv (MO t b)):=if_neg c
  rw[e3]
  simp only[nm]
  walk_at "evh"
  exact⟨_,rfl⟩
variable{x y:Num}
theorem wJ{n:Nat}(hx:NB n x)(hy:NB n y)(hn:n<=4000):Val dX [nm x,nm y] (nm (ik x y)):=by
 unfold Val dX iz
 have f1:=fits_of (n:=20000) hx.b1 (by omega)
 have f2:=fits_of (n:=20000) hx.b2 (by omega)
 have f3:=fits_of (n:=20000) hy.b1 (by omega)
 have f4:=fits_of (n:=20000) hy.b2 (by omega)
 have:=aZ (xK (t:=x.1*y.2+y.1*x.2) (b:=x.2*y.2) (NF hx.nz hy.nz) ((hx.b2.mul hy.b2).mono (by omega)))
 simp only[L5,Mh] at this
 clear hx hy hn
 simp only[nm,L5,Mh]
 walk_at "evh"
 exact⟨_,rfl⟩
def Wl(n:Int)(o:LO):Prop:=∃f c t:Int,o=.lst [.int f,.int c,.int t]/\(f=0\/f=1)/\(f=0->c.natAbs<10^18)/\0<=t/\t<=n
variable{o:LO}
theorem Wl.mono{n m:Int}(h:Wl n o)(k:n<=m):Wl m o:=by
 obtain⟨f,c,t,h1,h2,h3,h4,h5⟩:=h
 exact⟨f,c,t,h1,h2,h3,h4,by omega⟩
theorem Hn:L2.ixN (0+1+1+1) 1=some 1:=by decide
theorem Hf:L2.ixN (0+1+1+1) 2=some 2:=by decide
theorem xW{n:Int}{m:Int}(w:Wl n o)(hn:n<2^40)(m0:0<m)(m1:m<2^64):∃r o',bM ah o [.int m] (.fr (.int r)) o'/\0<=r/\r<m/\Wl (n+1) o':=by
 obtain⟨f,c,t,rfl,hf,hc,t0,t1⟩:=w
 have hm:(m != 0&&fits 9000 m)=true:=by
  rw[LV]
  exact⟨by simp;omega,bq (m:=64) (show m.natAbs<2^64 by omega) (by decide)⟩
 have hm0:(m != 0)=true:=by simp;omega
 unfold bM ah gA
 rcases hf with rfl|rfl
 ·have hc:=hc rfl
  have f1:fits 20000 (t+1)=true:=bq (m:=64) (show (t+1).natAbs<2^64 by omega) (by decide)
  have f2:fits 20000 7919=true:=bq (m:=64) (show (7919:Int).natAbs<2^64 by decide) (by decide)
  have f3:fits 20000 (7919*(t+1))=true:=bq (m:=64) (show (7919*(t+1)).natAbs<2^64 by omega) (by decide)
  have b1:L2.Bd 128 (7919*(t+1)*(t+1)):=(L2.Bd.mul (m:=64) (n:=64) (show (7919*(t+1)).natAbs<2^64 by omega) (show (t+1).natAbs<2^64 by omega))
  have b2:L2.Bd 130 (c+7919*(t+1)*(t+1)+(t+1)):=((L2.Bd.add (m:=128) (n:=128) (show c.natAbs<2^128 by omega) b1).add (n:=128) (show (t+1).natAbs<2^128 by omega)).mono (by decide)
  have f4:fits 20000 (c+7919*(t+1)*(t+1)+(t+1))=true:=bq b2 (by decide)
  have f5:fits 20000 48271=true:=bq (m:=64) (show (48271:Int).natAbs<2^64 by decide) (by decide)
  have hp:(0:Int)<2305843009213693951:=by decide
  have g1:=Q0 ((c+7919*(t+1)*(t+1)+(t+1))*48271) (b:=2305843009213693951) (by decide)
  have g2:=Int.emod_lt_of_pos ((c+7919*(t+1)*(t+1)+(t+1))*48271) hp
  have e1:((c+7919*(t+1)*(t+1)+(t+1))*48271).fmod 2305843009213693951=((c+7919*(t+1)*(t+1)+(t+1))*48271)%2305843009213693951:=Oy _ (by decide)
  have f6:fits 20000 (((c+7919*(t+1)*(t+1)+(t+1))*48271).fmod 2305843009213693951)=true:=bq (m:=64) (show Int.natAbs _<2^64 by rw[e1];omega) (by decide)
  have f7:fits 20000 1442695040888963407=true:=bq (m:=64) (show (1442695040888963407:Int).natAbs<2^64 by decide) (by decide)
  have f8:((2305843009213693921:Int) != 0)=true:=by decide
  have f9:((2305843009213693951:Int) != 0)=true:=by decide
  have f10:((64:Int) != 0&&fits 9000 64)=true:=by
   rw[LV]
   exact⟨by decide,bq (m:=64) (show (64:Int).natAbs<2^64 by decide) (by decide)⟩
  refine⟨((((((c+7919*(t+1)*(t+1)+(t+1))*48271).fmod 2305843009213693951*1442695040888963407+4321).fmod 2305843009213693921).fdiv 64).fmod m),.lst [.int 0,.int c,.int (t+1)],?_,NA _ m0,Ox _ m0,0,c,t+1,rfl,.inl rfl,λ_=>hc,by omega,by omega⟩
  have d0:decide ((0:Int)=1)=false:=by decide
  have i2:=Hf
  clear e1 g1 g2 hp b1 b2 hc m0 m1 hn t0 t1 hm
  walk_at "evh"
  exact⟨_,rfl⟩
 ·refine⟨_,.lst [.int 1,.int (c.fdiv m),.int t],?_,NA c m0,Ox c m0,1,c.fdiv m,t,rfl,.inr rfl,λz=>by omega,t0,by omega⟩
  have d0:decide ((1:Int)=1)=true:=by decide
  have i1:=Hn
  have hf:fits 9000 m=true:=(OZ.mp hm).2
  clear hc m0 m1 hn t0 t1 hm
  walk_at "evh"
  exact⟨_,rfl⟩
variable{f:Ms}{o':LO}{s:Sl}
theorem cw0{as:List A}{r:Rr}(h:bM f o as s o')(hr:jK s=some r):∀ρ,cw f [] (.rf 0::as.map Rr.fr) (.pv o::ρ)=some (.ok r,.pv o'::ρ):=λρ=>rF h hr rfl
theorem tk{n:Int}(m:Int)(w:Wl n o)(hn:n<2^40)(m0:0<m)(m1:m<2^64):∃r o',(∀ρ,cw ah [] [.rf 0,.fr (.int m)] (.pv o::ρ)=some (.ok (.fr (.int r)),.pv o'::ρ))/\0<=r/\r<m/\Wl (n+1) o':=by
 obtain⟨r,o',h,h1,h2,h3⟩:=xW (m:=m) w hn m0 m1
 exact⟨r,o',cw0 h rfl,h1,h2,h3⟩
theorem JC:(10:Int)^(18:Int).toNat=1000000000000000000:=by decide
theorem uW(ns:List Int)(k:Int)(k0:0<=k)(k1:k<=1000):∃o,hJ cb [.lst (ns.map A.int),.int k] o/\Wl 17000 o:=by
 have p18:((0:Int)<=18/\(18:Int)<=1000000/\(10:Int).natAbs<2^64)=True:=by simp
 have q18:=JC
 have f1:fits 20000 17=true:=bq (m:=64) (show (17:Int).natAbs<2^64 by decide) (by decide)
 have f2:fits 20000 k=true:=bq (m:=64) (show k.natAbs<2^64 by omega) (by decide)
 have l1000:(0+1+1+1<=1000)=True:=by simp
 have key:∀c:Int,Wl 17000 (.lst [.int (if decide (1000000000000000000<=(if c<0 then -c else c))=true then 1 else 0),.int c,.int (17*k)]):=λc=>by
  refine⟨_,c,17*k,rfl,?_,λz=>?_,by omega,by omega⟩
  ·generalize decide (1000000000000000000<=(if c<0 then -c else c))=d
   cases d
   ·exact .inl rfl
   ·exact .inr rfl
  ·by_cases h:1000000000000000000<=(if c<0 then -c else c)
   ·simp[h] at z
   ·split at h<;>omega
 have hlen:((ns.map A.int).length:Int)=(ns.length:Int):=by rw[LY]
 by_cases hk:k<(ns.length:Int)
 ·obtain⟨j,rfl⟩:∃j:Nat,k=j:=⟨k.toNat,by omega⟩
  have hj:j<ns.length:=by omega
  have ha:atI (ns.map A.int) (j:Int)=some (.int ns[j]):=fJ (by rw[MA,Mo hj];rfl)
  refine⟨_,?_,key ns[j]⟩
  clear key k0 k1
  unfold hJ cb eI
  walk_at "evh"
  exact⟨_,rfl⟩
 ·refine⟨_,?_,key 0⟩
  clear key k0 k1
  unfold hJ cb eI
  walk_at "evh"
  exact⟨_,rfl⟩
theorem tD{n:Nat}(hx:NB n x)(hy:NB n y)(hn:n<=4000):Val cH [nm x,nm y] (nm (j2 x y)):=by
 have k:=aZ (wJ hx hy.neg hn)
 rw[vt] at k
 have e1:(0:Int)-y.1 = -y.1:=by omega
 unfold Val cH gx
 simp only[nm,L5,Mh] at k ⊢
 walk_at "evh"
 exact⟨_,rfl⟩
theorem kM(i:Int):Val iw [.int i] (.bl true):=⟨[.fr (.int i)],rfl⟩
theorem gD{n:Nat}(hx:NB n x)(hn:n<=9000):Val du [nm x] (.bl true):=by
 have k1:=aZ (kM x.1)
 have k2:=aZ (kM x.2)
 have k3:=aZ (KU (x:=x.1) (y:=x.2) hx.nz (hx.b2.mono hn))
 have e1:cd x.1 x.2=1:=by
  unfold cd
  rw[if_neg (by have:=hx.ok.1;omega),hx.ok.2];rfl
 rw[e1] at k3
 have d1:decide (x.2<1)=false:=decide_eq_false (by have:=hx.ok.1;omega)
 have l2:decide (((0+1+1:Nat):Int)=2)=true:=by decide
 have d2:decide ((1:Int)=1)=true:=by decide
 unfold Val du gw
 simp only[nm,L5,Mh] at k1 k2 k3 ⊢
 walk_at "evh"
 exact⟨_,rfl⟩
theorem ly{n:Nat}(hx:NB n x)(hy:NB n y)(hn:n<=4000):Val gU [nm x,nm y] (.bl (nlt x y)):=by
 have f1:=fits_of (n:=20000) hx.b1 (by omega)
 have f2:=fits_of (n:=20000) hx.b2 (by omega)
 have f3:=fits_of (n:=20000) hy.b1 (by omega)
 have f4:=fits_of (n:=20000) hy.b2 (by omega)
 unfold Val gU jg nlt
 simp only[nm,L5,Mh]
 walk_at "evh"
 exact⟨_,rfl⟩
def nZ(f:Ms)(as:List A)(b:Bool):Prop:=∃ρ,f (as.map Sl.fr)=some (if b then .rt (.fr .non) else .ex "NoSize",ρ)
theorem D1{as:List A}{b:Bool}(h:nZ f as b)(ρ:List Sl):cw f [] (as.map Rr.fr) ρ=some (if b then .ok (.fr .non) else .error "NoSize",ρ):=by
 cases b with
 | true=>exact aZ h ρ
 | false=>exact mW h ρ
variable{ms:Mi (List Rr)}{ρ ρ1:List Sl}
theorem qY{as:List A}{b:Bool}(h:nZ f as b)(e:ms ρ=some (.ok (as.map Rr.fr),ρ1)):aP (ai f [] ms) ρ=some (if b then .nx else .ex "NoSize",ρ1):=by
 rw[jw,jX,e]
 dsimp only
 rw[D1 h]
 cases b<;>rfl
theorem yi{n:Nat}(hx:NB n x)(hy:NB n y)(hn:n<=4000):nZ cD [nm x,nm y] (!nlt y x):=by
 have k1:=aZ (gD hx (by omega))
 have k2:=aZ (gD hy (by omega))
 have k3:=aZ (ly hy hx hn)
 generalize nlt y x=b at k3 ⊢
 unfold nZ cD dF
 simp only[nm,L5,Mh] at k1 k2 k3 ⊢
 cases b<;>(walk_at "evh";exact⟨_,rfl⟩)
structure Sf where
 s:Str
 r:Num
 w:Str
noncomputable def sfA(f:Sf):A:=.tup [.str f.s,nm f.r,.str f.w]
def rp(w:Str):Prop:=w = "fixed" \/ w = "big" \/ w = "small"
structure wg (n:Nat) (f:Sf):Prop where
 nb:NB n f.r
 nn:nlt f.r (0,1)=false
 wy:rp f.w
theorem n4:NB 60 (0,1):=NB.zero
noncomputable def ub(w:Str):Bool:=("fixed" : Str)==w || (("big" : Str)==w || (("small" : Str)==w || false))
theorem B9(w:Str):d9 true (.str w) (.tup [.str "fixed",.str "big",.str "small"])=some (.fr (.bl (!ub w))):=rfl
noncomputable def sfB(f:Sf):Bool:=!nlt f.r (0,1)&&ub f.w
theorem A9{f:Sf}{n:Nat}(h:NB n f.r)(h0:60<=n)(hn:n<=4000):nZ cg [sfA f] (sfB f):=by
 have k1:=aZ (gD h (by omega))
 have k2:=aZ (ly h (n4.mono h0) hn)
 have k3:=B9 f.w
 unfold nZ cg d5 sfB
 generalize nlt f.r (0,1)=b at k2 ⊢
 generalize ub f.w=c at k3 ⊢
 simp only[sfA,nm,L5,Mh] at k1 k2 ⊢
 cases b<;>cases c<;>(walk_at "evh";exact⟨_,rfl⟩)
theorem AM{w:Str}(h:rp w):ub w=true:=by
 unfold ub
 rcases h with rfl|rfl|rfl<;>simp
theorem wg.b{n:Nat}{f:Sf}(h:wg n f):sfB f=true:=by unfold sfB;rw[h.nn,AM h.wy];rfl
variable{i:Nat}{ρ0:List Sl}
theorem km{x:Sl}{t:Sl}(hi:ρ0.length=i)(hx:∀o,x≠Sl.pv o):put i t (ρ0++[x])=some (ρ0++[t]):=by
 subst hi
 unfold put
 rw[MS (Md _),Pr]
 simp only[MZ]
 have e:(ρ0++[x]).set ρ0.length t=ρ0++[t]:=by rw[List.set_append_right _ _ (Md _),Pr];rfl
 cases x with
 | pv o=>exact absurd rfl (hx o)
 | un=>simp only[e]
 | fr a=>simp only[e]
 | lv o=>simp only[e]
variable{e:Mi Rr}
theorem comp_map{as:List A}(g:A->A)(hi:ρ0.length=i)(hl:as.length<=100000)(h:∀a∈as,∃r,e (ρ0++[.fr a])=some (.ok r,ρ0++[.fr a])/\aV r (ρ0++[.fr a])=some (g a,ρ0++[.fr a])) :
  fu 1 (aM i) bj e as ρ0=some (.ok (.nw (.lst (as.map g))),ρ0):=by
 have key:∀(bs acc:List A)(x:Sl),(∀a∈bs,a∈as)->(∀o,x≠Sl.pv o)->∃y,cS (aM i) bj e bs acc (ρ0++[x])=some (acc++bs.map g,ρ0++[y]):=by
  intro bs
  induction bs with
  | nil=>intro acc x _ _;exact⟨x,by rw[cS,Mh,MB]⟩
  | cons b bs ih =>
   intro acc x hm hx
   obtain⟨r,h1,h2⟩:=h b (hm b L8)
   obtain⟨y,h3⟩:=ih (acc++[g b]) (.fr b) (λa ha=>hm a (L6 _ ha)) (λo z=>by cases z)
   refine⟨y,?_⟩
   rw[cS]
   simp only[aM,km hi hx,qc,h1,h2,h3,L5,L7,Nb,MJ]
 obtain⟨y,h3⟩:=key as [] .un (λa ha=>ha) (λo z=>by cases z)
 unfold fu
 rw[if_pos hl]
 have e1:Mn 1 Sl.un=[.un]:=rfl
 rw[e1,h3]
 simp
noncomputable def bG:Str := "abcdefghijklmnopqrstuvwxyz0123456789."
structure hV (z:Str):Prop where
 lo:1<=z.length
 hi:z.length<=30
 sg:∀c∈z.cps.toList,c∈bG.cps.toList
theorem A6:∀c∈bG.cps.toList,gf ⟨#[c]⟩ bG=true:=by decide +kernel
noncomputable def nmB(z:Str):Bool:=decide (1<=z.length/\z.length<=30)&&z.cps.toList.all λc=>gf ⟨#[c]⟩ bG
theorem hV.b{z:Str}(h:hV z):nmB z=true:=by
 unfold nmB
 rw[decide_eq_true ⟨h.lo,h.hi⟩,Rc,MK]
 exact λc hc=>A6 c (h.sg c hc)
theorem lS{α:Type}(f:α->Bool):∀l:List α,gH (l.map λx=>A.bl (f x))=some (l.map f)
 | []=>rfl
 | x::l=>by rw[L5,gH,lS f l];rfl
theorem uh{z:Str}(hz:z.length<=1000):Val dC [.str z,.str bG,.int 30] (.bl (nmB z)):=by
 have l1:(z.length<=100000)=True:=by simp only[eq_iff_iff,iff_true];omega
 have d:decide (1<=z.length/\z.length<=30)=(decide ((1:Int)<=(z.length:Int))&&decide ((z.length:Int)<=30)):=by
  rw[OU];simp only[decide_eq_true_eq,LV];omega
 have k:=comp_map (i:=3) (e:=mOp (fOr (fOr (d9 false) (cY false)) (gq false)) (af 3) (af 1)) (as:=n9 z) (ρ0:=[.fr (.str z),.fr (.str bG),.fr (.int 30)]) (λa=>match a with | .str y=>.bl (gf y bG)|_=>.non) rfl (by simp[n9];unfold QB at hz;omega) (by
  intro a ha
  obtain⟨c,hc,rfl⟩:=Mx.mp ha
  exact⟨.fr (.bl (gf ⟨#[c]⟩ bG)),rfl,rfl⟩)
 have e4:(n9 z).map (λa=>match a with | .str y=>A.bl (gf y bG)|_=>.non)=z.cps.toList.map λc=>A.bl (gf ⟨#[c]⟩ bG):=by
  unfold n9
  rw[M5]
  rfl
 rw[e4] at k
 have e5:=lS (λc=>gf ⟨#[c]⟩ bG) z.cps.toList
 have e6:(z.cps.toList.map λc=>gf ⟨#[c]⟩ bG).all id=z.cps.toList.all λc=>gf ⟨#[c]⟩ bG:=by rw[Qa];rfl
 unfold nmB
 rw[d]
 clear d
 unfold Val dC dB
 clear e4 hz
 cases d1:decide ((1:Int)<=(z.length:Int)) with
 | false=>walk_at "evh";exact⟨_,rfl⟩
 | true=>cases d2:decide ((z.length:Int)<=30)<;>(walk_at "evh";exact⟨_,rfl⟩)
theorem uG{z:Str}(hz:z.length<=1000):Val g7 [.str z] (.bl (nmB z)):=by
 have k:=aZ (uh hz)
 unfold bG at k
 unfold Val g7 jh
 simp only[L5,Mh] at k ⊢
 walk_at "evh"
 exact⟨_,rfl⟩
noncomputable def ck(ss:List Str):List (Key×A):=ss.map λz=>(.inr z,.bl true)
theorem yI(ss:List Str)(z:Str)(h:z∉ss):iX (ck ss) (.inr z)=none:=by
 unfold iX ck
 rw[List.find?_eq_none.mpr]
 ·rfl
 ·intro x hx
  obtain⟨y,hy,rfl⟩:=Mx.mp hx
  simp only[decide_eq_true_eq]
  intro e
  cases e
  exact h hy
theorem yS(ss:List Str)(z:Str)(h:z∉ss):qf (ck ss) (.inr z) (.bl true)=ck (ss++[z]):=by
 unfold qf
 rw[if_neg]
 ·unfold ck;rw[Mw];rfl
 ·intro e
  rw[QO] at e
  obtain⟨x,hx,e⟩:=e
  unfold ck at hx
  obtain⟨y,hy,rfl⟩:=Mx.mp hx
  rw[decide_eq_true_eq] at e
  cases e
  exact h hy
noncomputable def okN(seen:List Str):List Str->Bool
 | []=>true
 | z::zs=>nmB z&&(!decide (z∈seen)&&okN (seen++[z]) zs)
theorem wH(ss:List Str)(z:Str):(iX (ck ss) (.inr z)).isSome=decide (z∈ss):=by
 by_cases h:z∈ss
 ·rw[decide_eq_true h]
  unfold iX ck
  rw[Ov,List.find?_isSome]
  exact⟨_,Mx.mpr ⟨z,h,rfl⟩,by simp⟩
 ·rw[yI ss z h,decide_eq_false h];rfl
noncomputable abbrev rfB:Ms:=ax (sIf (fN (ao (ai g7 [] (aa (aw 2) ag)))) (cR "NoSize" (aa (mC (.str "a name has one to thirty small letters, figures and dots")) ag)) aL) (ax (sIf (ao (mOp (fOr (fOr (d9 false) (cY false)) (gq false)) (af 2) (af 1))) (cR "NoSize" (aa (mJs (mJ (mC (.str "the name ")) (mJ (mFv (af 2)) (mJ (mC (.str " comes twice")) (dG []))))) ag)) aL) (lE 1 (af 2) (mC (.bl true))))
theorem sT(a:Sl):∀(zs seen:List Str)(x:Sl),np x=true->(∀z∈zs,z.length<=1000)->seen.length+zs.length<=1000->∃ρ',forL (aM 2) rfB (zs.map A.str) [a,.lv (.dic (ck seen)),x]=some (if okN seen zs then .nx else .ex "NoSize",ρ')
 | [],seen,x,hx,hl,hc=>⟨_,rfl⟩
 | z::zs,seen,x,hx,hl,hc=>by
  have hp:aM 2 (.str z) [a,.lv (.dic (ck seen)),x]=some [a,.lv (.dic (ck seen)),.fr (.str z)]:=by
   unfold aM
   rw[vf]
   simp only[Nf,MZ,hx,if_true,Oo,Om]
  have k:=aZ (uG (hl z L8))
  have e1:d9 false (.str z) (.dic (ck seen))=none:=rfl
  have e2:cY false (.str z) (.dic (ck seen))=some (.fr (.bl (decide (z∈seen)))):=by
   show some (Rr.fr (A.bl (iX (ck seen) (.inr z)).isSome))=_
   rw[wH]
  have e5:((ck seen).length<=100000)=True:=by simp only[eq_iff_iff,iff_true,ck,LY];rw[LX] at hc;omega
  rw[L5,forL,hp]
  unfold okN
  simp only[L5,Mh] at k
  cases h1:nmB z with
  | false =>
   have hb:rfB [a,.lv (.dic (ck seen)),.fr (.str z)]=some (.ex "NoSize",[a,.lv (.dic (ck seen)),.fr (.str z)]):=by
    rw[h1] at k
    unfold rfB
    clear hl hc hx hp e1 e2 e5
    walk_at "evh"
   dsimp only
   rw[hb]
   exact⟨_,rfl⟩
  | true =>
   rw[h1] at k
   cases h2:decide (z∈seen) with
   | true =>
    rw[h2] at e2
    have hb:rfB [a,.lv (.dic (ck seen)),.fr (.str z)]=some (.ex "NoSize",[a,.lv (.dic (ck seen)),.fr (.str z)]):=by
     have q0:(z.length<=1000)=True:=eq_true (hl z L8)
     have q1:(("the name " : Str).length<=1000)=True:=eq_true (by decide +kernel)
     have q2:((" comes twice" : Str).length<=1000)=True:=eq_true (by decide +kernel)
     unfold rfB
     clear hl hc hx hp e5
     walk_at "evh"
    dsimp only
    rw[hb]
    exact⟨_,rfl⟩
   | false =>
    rw[h2] at e2
    have e3:=yS seen z (of_decide_eq_false h2)
    have hb:rfB [a,.lv (.dic (ck seen)),.fr (.str z)]=some (.nx,[a,.lv (.dic (ck (seen++[z]))),.fr (.str z)]):=by
     unfold rfB
     clear hl hc hx hp
     walk_at "evh"
    dsimp only
    rw[hb]
    exact sT a zs (seen++[z]) (.fr (.str z)) rfl (λy hy=>hl y (L6 _ hy)) (by rw[Ma,MW];rw[LX] at hc;omega)
variable{ss:List Str}
theorem kI(h:∀z∈ss,z.length<=1000)(hl:ss.length<=1000):nZ bC [.lst (ss.map A.str)] (okN [] ss):=by
 obtain⟨ρ1,hf⟩:=sT (.fr (.lst (ss.map A.str))) ss [] .un rfl h (by simpa using hl)
 have e0:ck []=[]:=rfl
 rw[e0] at hf
 unfold rfB at hf
 unfold nZ bC dU
 simp only[L5,Mh]
 generalize okN [] ss=b at hf ⊢
 cases b<;>(walk_at "evh";exact⟨_,rfl⟩)
theorem pS:∀{ss seen:List Str},(∀z∈ss,hV z)->(seen++ss).Nodup->okN seen ss=true
 | [],_,_,_=>rfl
 | z::ss,seen,h,nd=>by
  unfold okN
  have h1:z∉seen:=λhz=>(Mp.mp nd).2.2 z hz z L8 rfl
  rw[(h z L8).b,decide_eq_false h1,pS (λy hy=>h y (L6 _ hy)) (by simpa using nd)]
  rfl
theorem nF:∀{ss seen:List Str},okN seen ss=true->(∀z∈ss,nmB z=true)/\(∀z∈ss,z∉seen)/\ss.Nodup
 | [],_,_=>⟨(λz hz=>by cases hz),(λz hz=>by cases hz),List.nodup_nil⟩
 | z::ss,seen,h=>by
  unfold okN at h
  rw[LV,LV,Mq,decide_eq_false_iff_not] at h
  obtain⟨h1,h2,h3⟩:=h
  obtain⟨a,b,c⟩:=nF h3
  refine⟨λy hy=>?_,λy hy=>?_,MI.mpr ⟨λhz=>b z hz (LW _ (Mj.mpr rfl)),c⟩⟩
  ·rcases Ml.mp hy with rfl|hy
   ·exact h1
   ·exact a y hy
  ·rcases Ml.mp hy with rfl|hy
   ·exact h2
   ·exact λhs=>b y hy (Mm _ hs)
structure Sz where
 n:Str
 l:Num
 m:Num
 f:List Sf
noncomputable def szF(z:Sz):List (Str×A):=[("name",.str z.n),("least",nm z.l),("most",nm z.m),("shifts",.tup (z.f.map sfA))]
noncomputable def szO(z:Sz):A:=.obj "Size" (szF z)
noncomputable def szT(z:Sz):A:=.tup [.str z.n,nm z.l,nm z.m,.tup (z.f.map sfA)]
noncomputable def szN(z:Sz):List Str:=z.n::z.f.map Sf.s
structure dg (b:Nat) (z:Sz):Prop where
 lb:NB b z.l
 mb:NB b z.m
 le:nlt z.m z.l=false
 fs:∀f∈z.f,wg b f
 ns:∀s∈szN z,hV s
 nd:(szN z).Nodup
 ln:z.f.length<=50
variable{z:Sz}
theorem jV(h:z.f.length<=50)(s0:Sl):fu 1 (aM 1) bj (mOp (fOr fIx av) (af 1) (mC (.int 0))) (z.f.map sfA) [s0]=some (.ok (.nw (.lst ((z.f.map Sf.s).map A.str))),[s0]):=by
 have k:=comp_map (i:=1) (e:=mOp (fOr fIx av) (af 1) (mC (.int 0))) (as:=z.f.map sfA) (ρ0:=[s0]) (λa=>match a with | .tup (x::_)=>x|_=>.non) rfl (by rw[LY];omega) (by
  intro a ha
  obtain⟨f,hf,rfl⟩:=Mx.mp ha
  refine⟨.fr (.str f.s),?_,rfl⟩
  unfold sfA nm
  walk_at "evh")
 rw[k]
 congr 5
 rw[M5,M5]
 rfl
theorem i5(z:Sz):aW ["Size"] "name" (szO z)=some (.fr (.str z.n)):=by
 unfold aW szO szF
 simp only
 rw[if_pos (by decide +kernel)]
 rfl
theorem uj(z:Sz):aW ["Size"] "least" (szO z)=some (.fr (nm z.l)):=by
 unfold aW szO szF
 simp only
 rw[if_pos (by decide +kernel)]
 rfl
theorem wV(z:Sz):aW ["Size"] "most" (szO z)=some (.fr (nm z.m)):=by
 unfold aW szO szF
 simp only
 rw[if_pos (by decide +kernel)]
 rfl
theorem dR(z:Sz):aW ["Size"] "shifts" (szO z)=some (.fr (.tup (z.f.map sfA))):=by
 unfold aW szO szF
 simp only
 rw[if_pos (by decide +kernel)]
 rfl
theorem uc(h:z.f.length<=50):hJ aK [szO z] (.lst ((szN z).map A.str)):=by
 have k:=jV h (.fr (szO z))
 have a1:=i5 z
 have a2:=dR z
 have l1:(0+1<=1000)=True:=by simp
 have l2:(1+(OY A.str (OY Sf.s z.f)).length<=100000)=True:=by simp only[eq_iff_iff,iff_true,LY];omega
 unfold hJ aK dJ
 simp only[L5,Mh,szN] at k ⊢
 generalize szO z=o at a1 a2 k ⊢
 walk_at "evh"
 exact⟨_,rfl⟩
theorem uO(h:z.f.length<=50):∃ρ,aK [.pv (.obj "Size" (szF z))]=some (.rt (.lv (.lst ((szN z).map A.str))),.pv (.obj "Size" (szF z))::ρ):=by
 have k:=jV h (.pv (.obj "Size" (szF z)))
 have a1:=i5 z
 have a2:=dR z
 have l1:(0+1<=1000)=True:=by simp
 have l2:(1+(OY A.str (OY Sf.s z.f)).length<=100000)=True:=by simp only[eq_iff_iff,iff_true,LY];omega
 unfold szO at a1 a2
 unfold aK dJ
 simp only[L5,Mh,szN] at k ⊢
 generalize szF z=o at a1 a2 k ⊢
 walk_at "evh"
 exact⟨_,rfl⟩
def DT(sh:A)(f:List Sf):Prop:=(sh=.non/\f=[])\/sh=.lst (f.map sfA)\/sh=.tup (f.map sfA)
theorem AS{f:List Sf}{a0 a1 a2 a3 a4 a5:Sl}(h:f.length<=50):fu 1 (aM 6) bj (aF (aa (mOp (fOr fIx av) (af 6) (mC (.int 0))) (aa (mOp (fOr fIx av) (af 6) (mC (.int 1))) (aa (mOp (fOr fIx av) (af 6) (mC (.int 2))) ag)))) (f.map sfA) [a0,a1,a2,a3,a4,a5]=some (.ok (.nw (.lst (f.map sfA))),[a0,a1,a2,a3,a4,a5]):=by
 have k:=comp_map (i:=6) (e:=aF (aa (mOp (fOr fIx av) (af 6) (mC (.int 0))) (aa (mOp (fOr fIx av) (af 6) (mC (.int 1))) (aa (mOp (fOr fIx av) (af 6) (mC (.int 2))) ag)))) (as:=f.map sfA) (ρ0:=[a0,a1,a2,a3,a4,a5]) id rfl (by rw[LY];omega) (by
  intro a ha
  obtain⟨g,hg,rfl⟩:=Mx.mp ha
  refine⟨.fr (sfA g),?_,rfl⟩
  have l3:(0+1+1+1<=1000)=True:=by simp
  unfold sfA nm
  walk_at "evh")
 rw[k,Qp]
theorem FT{sh:A}{f:List Sf}(h:f.length<=50)(hs:DT sh f)(a0 a1 a2 a3 a5:Sl):mIf (ao (mOp (fIs false) (af 4) (mC .non))) (aF ag) (mB1 fQ (cc 1 (cX (af 4)) (aM 6) bj (aF (aa (mOp (fOr fIx av) (af 6) (mC (.int 0))) (aa (mOp (fOr fIx av) (af 6) (mC (.int 1))) (aa (mOp (fOr fIx av) (af 6) (mC (.int 2))) ag)))))) [a0,a1,a2,a3,.fr sh,a5]=some (.ok (.fr (.tup (f.map sfA))),[a0,a1,a2,a3,.fr sh,a5]):=by
 have k:=AS (a0:=a0) (a1:=a1) (a2:=a2) (a3:=a3) (a4:=.fr sh) (a5:=a5) h
 rcases hs with ⟨rfl,rfl⟩|rfl|rfl
 ·rfl
 ·walk_at "evh"
 ·walk_at "evh"
theorem sa1(a:A)(a2 a3 a4 a5:Sl):eJ ["Size"] 0 "name" (af 1) [.pv (.obj "Size" []),.fr a,a2,a3,a4,a5]=some (.nx,[.pv (.obj "Size" [("name",a)]),.fr a,a2,a3,a4,a5]):=by rfl
theorem sa2(a b:A)(a3 a4 a5:Sl):eJ ["Size"] 0 "least" (af 2) [.pv (.obj "Size" [("name",a)]),.fr a,.fr b,a3,a4,a5]=some (.nx,[.pv (.obj "Size" [("name",a),("least",b)]),.fr a,.fr b,a3,a4,a5]):=by rfl
theorem sa3(a b c:A)(a4 a5:Sl):eJ ["Size"] 0 "most" (af 3) [.pv (.obj "Size" [("name",a),("least",b)]),.fr a,.fr b,.fr c,a4,a5]=some (.nx,[.pv (.obj "Size" [("name",a),("least",b),("most",c)]),.fr a,.fr b,.fr c,a4,a5]):=by rfl
theorem sa4(a b c d:A)(a4 a5:Sl)(m:Mi Rr)(h:m [.pv (.obj "Size" [("name",a),("least",b),("most",c)]),.fr a,.fr b,.fr c,a4,a5]=some (.ok (.fr d),[.pv (.obj "Size" [("name",a),("least",b),("most",c)]),.fr a,.fr b,.fr c,a4,a5])):eJ ["Size"] 0 "shifts" m [.pv (.obj "Size" [("name",a),("least",b),("most",c)]),.fr a,.fr b,.fr c,a4,a5]=some (.nx,[.pv (.obj "Size" [("name",a),("least",b),("most",c),("shifts",d)]),.fr a,.fr b,.fr c,a4,a5]):=by
 rw[qa,h]
 rfl
theorem cm0{r:Rr}{ρc:List Sl}(h:f [.pv o]=some (.rt s,.pv o'::ρc))(hr:jK s=some r)(ρ:List Sl):cw f [] [.rf 0] (.pv o::ρ)=some (.ok r,.pv o'::ρ):=cw0 (as:=[]) ⟨ρc,h⟩ hr ρ
structure SzT (b:Nat) (z:Sz):Prop where
 lb:NB b z.l
 mb:NB b z.m
 fs:∀f∈z.f,NB b f.r
 ns:∀s∈szN z,s.length<=1000
 ln:z.f.length<=50
noncomputable def szB(z:Sz):Bool:=!nlt z.m z.l&&(z.f.all sfB&&okN [] (szN z))
theorem rH{b:Nat}(h:SzT b z)(b0:60<=b)(b1:b<=4000){sh:A}(hs:DT sh z.f):∃x5,aX [.pv (.obj "Size" []),.fr (.str z.n),.fr (nm z.l),.fr (nm z.m),.fr sh]=some (if szB z then .rt (.fr .non) else .ex "NoSize",[.pv (.obj "Size" (szF z)),.fr (.str z.n),.fr (nm z.l),.fr (nm z.m),.fr sh,x5]):=by
 have s4:=λa0 a1 a2 a3 a5=>FT h.ln hs a0 a1 a2 a3 a5
 obtain⟨ρn,kn⟩:=uO h.ln
 have kn2:=cm0 kn rfl
 have a2:=dR z
 obtain⟨ρ1,hf,x5,rfl,hx5⟩:=tW (G:=aM 5) (b:=aP (ai cg [] (aa (aw 5) ag))) (ts:=z.f) sfA "NoSize" sfB
  (λρ=>∃x5:Sl,ρ=[.pv (.obj "Size" (szF z)),.fr (.str z.n),.fr (nm z.l),.fr (nm z.m),.fr sh,x5]/\∀o,x5≠Sl.pv o) (by
   rintro f hf ρ ⟨x5,rfl,hx⟩
   exact⟨_,_,km (ρ0:=[.pv (.obj "Size" (szF z)),.fr (.str z.n),.fr (nm z.l),.fr (nm z.m),.fr sh]) rfl hx,⟨.fr (sfA f),rfl,λo z=>by cases z⟩,qY (A9 (h.fs f hf) b0 b1) rfl⟩) (ρ:=[.pv (.obj "Size" (szF z)),.fr (.str z.n),.fr (nm z.l),.fr (nm z.m),.fr sh,.un]) ⟨.un,rfl,λo z=>by cases z⟩
 have e1:iM (cX (mUn (aW ["Size"] "shifts") (af 0))) (aM 5) (aP (ai cg [] (aa (aw 5) ag))) [.pv (.obj "Size" (szF z)),.fr (.str z.n),.fr (nm z.l),.fr (nm z.m),.fr sh,.un]=some (if z.f.all sfB then .nx else .ex "NoSize",[.pv (.obj "Size" (szF z)),.fr (.str z.n),.fr (nm z.l),.fr (nm z.m),.fr sh,x5]):=by
  rw[sX]
  exact hf
 have s5:aP (ai cD [] (aa (aw 2) (aa (aw 3) ag))) [.pv (.obj "Size" (szF z)),.fr (.str z.n),.fr (nm z.l),.fr (nm z.m),.fr sh,.un]=some (if !nlt z.m z.l then .nx else .ex "NoSize",[.pv (.obj "Size" (szF z)),.fr (.str z.n),.fr (nm z.l),.fr (nm z.m),.fr sh,.un]):=qY (yi h.lb h.mb b1) rfl
 have e6:aP (ai bC [] (aa (mFz (g9 (ai aI [] (aa (bc "Stock" "names" (af 0)) ag)) (ai aK [] (aa (bc "Size" "names" (af 0)) ag)))) ag)) [.pv (.obj "Size" (szF z)),.fr (.str z.n),.fr (nm z.l),.fr (nm z.m),.fr sh,x5]=some (if okN [] (szN z) then .nx else .ex "NoSize",[.pv (.obj "Size" (szF z)),.fr (.str z.n),.fr (nm z.l),.fr (nm z.m),.fr sh,x5]) :=
  qY (kI h.ns (by have:=h.ln;unfold szN;rw[LX,LY];omega)) (aq (iO (zz rfl (au rfl (kn2 _))) rfl) rfl)
 unfold aX gN szB
 rw[iH]
 simp only[Nb,MJ,Og,NT]
 rw[dw,sa1]
 dsimp only
 rw[dw,sa2]
 dsimp only
 rw[dw,sa3]
 dsimp only
 rw[dw,sa4 _ _ _ _ _ _ _ (s4 _ _ _ _ _)]
 dsimp only
 have e0:([("name",A.str z.n),("least",nm z.l),("most",nm z.m),("shifts",.tup (z.f.map sfA))]:List (Str×A))=szF z:=rfl
 rw[e0,dw,s5]
 cases nlt z.m z.l with
 | true=>exact⟨_,rfl⟩
 | false =>
  refine⟨x5,?_⟩
  show (match ax _ _ _ with|some (.nx,ρ')=>_|some (.rt s,ρ')=>_|some (.ex x,ρ')=>_|_=>none)=_
  rw[dw,e1]
  cases z.f.all sfB with
  | false=>rfl
  | true =>
   show (match aP _ _ with|some (.nx,ρ')=>_|some (.rt s,ρ')=>_|some (.ex x,ρ')=>_|_=>none)=_
   rw[e6]
   cases okN [] (szN z)<;>rfl
theorem dg.t{b:Nat}(h:dg b z):SzT b z:=⟨h.lb,h.mb,λf hf=>(h.fs f hf).nb,λs hs=>Mr (h.ns s hs).hi (by decide),h.ln⟩
theorem dg.b{b:Nat}{z:Sz}(h:dg b z):szB z=true:=by
 unfold szB
 rw[h.le,MK.mpr λf hf=>(h.fs f hf).b,pS h.ns h.nd]
 rfl
theorem qr{b:Nat}(h:dg b z)(b0:60<=b)(b1:b<=4000){sh:A}(hs:DT sh z.f):∃x5,aX [.pv (.obj "Size" []),.fr (.str z.n),.fr (nm z.l),.fr (nm z.m),.fr sh]=some (.rt (.fr .non),[.pv (.obj "Size" (szF z)),.fr (.str z.n),.fr (nm z.l),.fr (nm z.m),.fr sh,x5]):=by
 have k:=rH h.t b0 b1 hs
 rw[h.b] at k
 exact k
theorem nS{x:Str}{a b:Nat}(hab:a<=b)(hb:b<=x.length):(Nc x (some (a:Int)) (some (b:Int))).cps.toList=(x.cps.toList.drop a).take (b-a):=by
 have e:=StrLaws.sliced_plain x hab hb
 have e2:=StrLaws.strSliceIndices_plain hab hb
 unfold Nc
 by_cases hl:(Nx (some (a:Int)) (some (b:Int)) 1 x.length).length=x.length
 ·rw[if_pos (by simpa using hl)]
  rw[e2,LY,Pj] at hl
  have h0:a=0:=by omega
  have h1:b=x.length:=by omega
  subst h0 h1
  rw[PL,Qb (by rw[Nr];exact Md _)]
 ·rw[if_neg (by simpa using hl)]
  show List.filterMap _ _=_
  exact e
theorem nQ{x:Str}{b:Nat}(h:b<=x.length):(Nc x none (some (b:Int))).cps.toList=x.cps.toList.take b:=by
 have e:Nc x none (some (b:Int))=Nc x (some ((0:Nat):Int)) (some (b:Int)):=by
  unfold Nc
  have:Nx none (some (b:Int)) 1 x.length=Nx (some ((0:Nat):Int)) (some (b:Int)) 1 x.length:=by
   unfold Nx
   have:max (0:Int) (min 0 (x.length:Int))=0:=by omega
   simp[this]
  rw[this]
 rw[e,nS (Nd _) h,PL,RF]
theorem ui(ss:List Str):(MV ⟨#[]⟩ ss).cps.toList=ss.flatMap (λs=>s.cps.toList):=by
 unfold MV
 cases ss with
 | nil=>rfl
 | cons a r =>
  show (r.foldl (λacc p=>acc++#[]++p.cps) a.cps).toList=_
  rw[NJ]
  have:∀(acc:Array Nat),(r.foldl (λacc p=>acc++#[]++p.cps) acc).toList=acc.toList++r.flatMap (λs=>s.cps.toList):=by
   induction r with
   | nil=>intro acc;simp
   | cons p r ih=>intro acc;rw[QU,ih];simp
  exact this _
theorem vJ:bG.cps.toList.length=37:=by decide +kernel
theorem sO:(bG.length<=100000)=True:=by simp only[eq_iff_iff,iff_true];decide +kernel
noncomputable abbrev bsE:Mi Rr:=mOp (fOr fIx av) (af 2) (ai ah [] (aa (af 0) (aa (mC (.int 37)) ag)))
theorem DM{n:Int}(m:Int)(w:Wl n o)(hn:n<2^38):∃(B:Str) (o':LO),aA 3 (mS1 iR (mC (.str "")) (cc 1 (gB (mC (.int 30))) (aM 8) bj bsE)) [.pv o,.fr (.int m),.fr (.str bG),.un,.un,.un,.un,.un]=some (.nx,[.pv o',.fr (.int m),.fr (.str bG),.fr (.str B),.un,.un,.un,.un])/\B.cps.toList.length=30/\(∀c∈B.cps.toList,c∈bG.cps.toList)/\Wl (n+30) o':=by
 obtain⟨ys,ρ',hc,cs,oz,e1,e2,e4,e3,wz⟩:=lR (G:=aM 8) (t:=bj) (e:=bsE) (as:=cA 0 30)
  (λi acc ρ=>∃(cs:List Nat) (oz:LO),acc=(cs.map λc=>(⟨#[c]⟩:Str)).map A.str/\cs.length=i/\(∀c∈cs,c∈bG.cps.toList)/\(∃x,ρ=[.pv oz,.fr (.int m),.fr (.str bG),.un,.un,.un,.un,.un,x]/\∀q,x≠Sl.pv q)/\Wl (n+i) oz)
  (ρ:=[.pv o,.fr (.int m),.fr (.str bG),.un,.un,.un,.un,.un,.un])
  ⟨[],o,rfl,rfl,(λc hc=>by cases hc),⟨.un,rfl,λq z=>by cases z⟩,w.mono (by simp)⟩ (by
   rintro i a acc ρ ha ⟨cs,oz,rfl,ez,ec,⟨x,rfl,hx⟩,wz⟩
   have hi:i<30:=by
    have:=(Mb.mp ha).1
    simpa[cA] using this
   obtain⟨r3,o3,c3,a3,b3,w3⟩:=tk 37 wz (by omega) (by decide) (by decide)
   obtain⟨j,rfl⟩:∃j:Nat,r3=j:=⟨r3.toNat,by omega⟩
   have hj:j<bG.cps.toList.length:=by rw[vJ];omega
   have hch:=fJ (Mo hj)
   have hm:=NQ hj
   generalize bG.cps.toList[j]=ch at hch hm
   have hlen:=sO
   refine⟨[.pv oz,.fr (.int m),.fr (.str bG),.un,.un,.un,.un,.un,.fr a],?_,.inl ⟨_,.fr (.str ⟨#[ch]⟩),[.pv o3,.fr (.int m),.fr (.str bG),.un,.un,.un,.un,.un,.fr a],.str ⟨#[ch]⟩,_,rfl,?_,rfl,cs++[ch],o3,?_,?_,?_,⟨.fr a,rfl,λq z=>by cases z⟩,w3.mono (by omega)⟩⟩
   ·cases x with
    | pv q=>exact absurd rfl (hx q)
    | _=>rfl
   ·clear ha hi a3 b3 w3 wz hx w ec
    unfold bsE
    walk_at "evh"
   ·rw[Mw,Mw];rfl
   ·rw[Ma,ez];rfl
   ·intro c hc
    rcases Me.mp hc with h|h
    ·exact ec c h
    ·rw[Mj.mp h];exact hm)
 obtain⟨x,e3,_⟩:=e3
 subst e1 e3
 have hlen:(cA 0 30).length=30:=by simp[cA]
 rw[hlen] at e2 wz
 have fl:(cs.map λc=>(⟨#[c]⟩:Str)).flatMap (λs=>s.cps.toList)=cs:=by
  rw[List.flatMap_map]
  induction cs with
  | nil=>rfl
  | cons c cs ih=>rw[NJ];simp
 have gl:=ui (cs.map λc=>(⟨#[c]⟩:Str))
 rw[fl] at gl
 refine⟨MV ⟨#[]⟩ (cs.map λc=>(⟨#[c]⟩:Str)),oz,?_,by rw[gl];exact e2,by rw[gl];exact e4,wz.mono (by simp)⟩
 have k1:((cA 0 (30:Int).toNat).length<=100000)=True:=by simp only[eq_iff_iff,iff_true];simp[cA]
 have k2:(-(2^60)<=(30:Int)/\(30:Int)<2^60)=True:=by simp
 have k3:=zd (cs.map λc=>(⟨#[c]⟩:Str))
 have lz:hG (cs.map λc=>(⟨#[c]⟩:Str))=30:=by
  unfold hG
  rw[M5]
  have:(QB∘λc=>(⟨#[c]⟩:Str))=λ_=>1:=rfl
  rw[this,List.map_const',List.sum_replicate_nat,e2]
 have k4:iR "" (.lst ((cs.map λc=>(⟨#[c]⟩:Str)).map A.str))=some (.fr (.str (MV ⟨#[]⟩ (cs.map λc=>(⟨#[c]⟩:Str))))):=by
  show iR ⟨#[]⟩ _=_
  unfold iR
  simp only[k3]
  rw[if_pos (by rw[lz];show 30+_*0<=100000;omega)]
 generalize MV ⟨#[]⟩ (cs.map λc=>(⟨#[c]⟩:Str))=G at *
 generalize (cs.map λc=>(⟨#[c]⟩:Str)).map A.str=Y at *
 clear k3 lz gl fl wz e2 e4 w hlen
 have kc:fu 1 (aM 8) bj bsE (cA 0 (30:Int).toNat) [.pv o,.fr (.int m),.fr (.str bG),.un,.un,.un,.un,.un]=some (.ok (.nw (.lst Y)),[.pv oz,.fr (.int m),.fr (.str bG),.un,.un,.un,.un,.un]):=by
  unfold fu
  rw[if_pos (of_eq_true k1)]
  show (match cS (aM 8) bj bsE (cA 0 30) [] [.pv o,.fr (.int m),.fr (.str bG),.un,.un,.un,.un,.un,.un] with|some (ys,ρ')=>some ((Except.ok (Rr.nw (.lst ys)):Except Str Rr),ρ'.take 8)|none=>none)=_
  rw[hc]
  rfl
 generalize bsE=be at *
 clear hc k1
 walk_at "evh"
theorem sM(x y:Str):(x++y).length=x.length+y.length:=by
 show (x.cps++y.cps).size=x.cps.size+y.cps.size
 simp
theorem mv(x y:Str):(x++y).cps.toList=x.cps.toList++y.cps.toList:=by
 show (x.cps++y.cps).toList=_
 simp
theorem cE(x:Str):x.length=x.cps.toList.length:=by rw[Nr];rfl
theorem iF{β:Type}(f:α->β){l:List α}(h:(l.map f).Nodup):l.Nodup:=by
 unfold List.Nodup at h ⊢
 rw[List.pairwise_map] at h
 exact h.imp λhab e=>hab (by rw[e])
noncomputable def nA(B:Str)(s k:Nat):Str:=Nc B none (some ((1+(s+7*k)%30:Nat):Int))
variable{B:Str}
theorem qq(hB:B.cps.toList.length=30)(s k:Nat):(nA B s k).cps.toList=B.cps.toList.take (1+(s+7*k)%30):=nQ (by rw[cE,hB];omega)
theorem Jy:∀s,s<30->((MD 12).map λk=>1+(s+7*k)%30).Nodup:=by decide +kernel
theorem Hg(hB:B.cps.toList.length=30)(hc:∀c∈B.cps.toList,c∈bG.cps.toList)(s k:Nat):hV (nA B s k):=by
 have e:=qq hB s k
 refine⟨by rw[cE,e,Mv];omega,by rw[cE,e,Mv];omega,λc h=>?_⟩
 rw[e] at h
 exact hc c (NM h)
theorem Fg(hB:B.cps.toList.length=30){s:Nat}(hs:s<30):((MD 12).map (nA B s)).Nodup:=by
 refine iF (λz:Str=>z.length) ?_
 have:((MD 12).map (nA B s)).map (λz:Str=>z.length)=(MD 12).map λk=>1+(s+7*k)%30:=by
  rw[M5]
  refine O3 λk _=>?_
  show (nA B s k).length=_
  rw[cE,qq hB,Mv]
  omega
 rw[this]
 exact Jy s hs
noncomputable def sgn(first k:Nat):Nat:=bG.cps.toList.getD ((first+5*k)%37) 0
noncomputable def nB(B:Str)(spot long first k:Nat):Str:=Nc B none (some (spot:Int))++⟨#[sgn first k]⟩++Nc B (some ((spot+1:Nat):Int)) (some (long:Int))
theorem qj(first k:Nat):bG.cps.toList[(first+5*k)%37]?=some (sgn first k):=by
 have h:(first+5*k)%37<bG.cps.toList.length:=by rw[vJ];omega
 unfold sgn
 rw[M4,Mo h]
 rfl
variable{spot long:Nat}
theorem qC(hB:B.cps.toList.length=30)(h1:spot<long)(h2:long<=30)(first k:Nat):(nB B spot long first k).cps.toList=B.cps.toList.take spot++(sgn first k::(B.cps.toList.drop (spot+1)).take (long-(spot+1))):=by
 unfold nB
 rw[mv,mv,nQ (by rw[cE,hB];omega),nS (by omega) (by rw[cE,hB];omega)]
 simp
theorem Iw:∀f,f<37->((MD 12).map λk=>(bG.cps.toList[(f+5*k)%37]?)).Nodup:=by decide +kernel
theorem IV(hB:B.cps.toList.length=30)(hc:∀c∈B.cps.toList,c∈bG.cps.toList)(h1:spot<long)(h2:long<=30)(first k:Nat):hV (nB B spot long first k):=by
 have e:=qC hB h1 h2 first k
 have l:(nB B spot long first k).length=long:=by
  rw[cE,e,Ma,LX,Mv,Mv,Ni,hB]
  omega
 refine⟨by omega,by omega,λc h=>?_⟩
 rw[e] at h
 rcases Me.mp h with h|h
 ·exact hc c (NM h)
 ·rcases Ml.mp h with h|h
  ·rw[h];exact MT (qj first k)
  ·exact hc c (O0 (NM h))
theorem Gv(hB:B.cps.toList.length=30){first:Nat}(h1:spot<long)(h2:long<=30)(hf:first<37):((MD 12).map (nB B spot long first)).Nodup:=by
 refine iF (λz:Str=>z.cps.toList[spot]?) ?_
 have:((MD 12).map (nB B spot long first)).map (λz:Str=>z.cps.toList[spot]?)=(MD 12).map λk=>(bG.cps.toList[(first+5*k)%37]?):=by
  rw[M5]
  refine O3 λk _=>?_
  show (nB B spot long first k).cps.toList[spot]?=_
  have hl:(B.cps.toList.take spot).length=spot:=by rw[Mv];omega
  rw[qC hB h1 h2,qj,MS (by omega),hl,Pr]
  rfl
 rw[this]
 exact Iw first hf
noncomputable def gI(f:Nat->Str):A->A:=λa=>match a with | .int i=>.str (f i.toNat)|_=>.non
theorem sV(f:Nat->Str)(n:Nat):(cA 0 n).map (gI f)=((MD n).map f).map A.str:=by
 unfold cA
 rw[M5,M5]
 refine O3 λk _=>?_
 show A.str (f (0+(k:Int)).toNat)=A.str (f k)
 rw[Qm,Np]
theorem JV(k:Nat)(h:k<1000):fits 20000 (0+(k:Int))=true:=bq (m:=64) (show (0+(k:Int)).natAbs<2^64 by omega) (by decide)
variable{K:Nat}
theorem CD{f:Nat->Str}{n:Nat}(h:K<=n)(hn:((MD n).map f).Nodup):((MD K).map f).Nodup :=
 RG (R5 f (List.range_sublist.mpr h)) hn
theorem F7(hB:B.cps.toList.length=30)(s k:Nat):(nA B s k).length<=30:=by
 rw[cE,qq hB,Mv];omega
theorem Dv(hB:B.cps.toList.length=30)(h1:spot<long)(h2:long<=30)(first k:Nat):(nB B spot long first k).length<=30:=by
 rw[cE,qC hB h1 h2,Ma,LX,Mv,Mv,Ni,hB]
 omega
theorem t9(hK:K<=12){n:Int}(w:Wl n o)(hn:n<2^37):∃(ss:List Str) (o':LO),bM dM o [.int (K:Int)] (.lv (.lst (ss.map A.str))) o'/\ss.Nodup/\ss.length=K/\(∀z∈ss,hV z/\z.length<=30)/\Wl (n+40) o':=by
 obtain⟨B,o1,s3,hB,hc,w1⟩:=DM (K:Int) w (by omega)
 obtain⟨r2,o2,c2,a2,b2,w2⟩:=tk 3 w1 (by omega) (by decide) (by decide)
 have lB:(B.length<=100000)=True:=by simp only[eq_iff_iff,iff_true];rw[cE,hB];omega
 have k2:(-(2^60)<=(K:Int)/\(K:Int)<2^60)=True:=by
  simp only[eq_iff_iff,iff_true]
  omega
 have k9:((cA 0 K).length<=100000)=True:=by
  simp only[eq_iff_iff,iff_true]
  simp[cA]
  omega
 have s2:aA 2 (mC (.str "abcdefghijklmnopqrstuvwxyz0123456789.")) [.pv o,.fr (.int (K:Int)),.un,.un,.un,.un,.un,.un]=some (.nx,[.pv o,.fr (.int (K:Int)),.fr (.str bG),.un,.un,.un,.un,.un]):=rfl
 have f7:fits 20000 7=true:=bq (m:=64) (show (7:Int).natAbs<2^64 by decide) (by decide)
 have f5:fits 20000 5=true:=bq (m:=64) (show (5:Int).natAbs<2^64 by decide) (by decide)
 have n30:((30:Int) != 0)=true:=by decide
 have n37:((37:Int) != 0)=true:=by decide
 by_cases hr:r2=1
 ·obtain⟨r4,o4,c4,a4,b4,w4⟩:=tk 30 w2 (by omega) (by decide) (by decide)
  obtain⟨s,rfl⟩:∃s:Nat,r4=s:=⟨r4.toNat,by omega⟩
  refine⟨(MD K).map (nA B s),o4,?_,CD hK (Fg hB (by omega)),by simp,?_,w4.mono (by omega)⟩
  ·have k:=comp_map (i:=8) (e:=mSl (af 3) bK (cM (mOp aJ (mC (.int 1)) (mOp gk (mOp aJ (af 4) (mOp bL (mC (.int 7)) (af 8))) (mC (.int 30)))))) (as:=cA 0 K) (ρ0:=[.pv o4,.fr (.int (K:Int)),.fr (.str bG),.fr (.str B),.fr (.int (s:Int)),.un,.un,.un]) (gI (nA B s)) rfl (of_eq_true k9) (by
    intro a ha
    obtain⟨k,hk,rfl⟩:=Mx.mp ha
    have hk:=Oj.mp hk
    have fk:=JV k (by omega)
    have ek:1+((s:Int)+7*(0+(k:Int))).fmod 30=((1+(s+7*k)%30:Nat):Int):=by
     rw[Oy _ (by decide)];omega
    refine⟨.fr (gI (nA B s) (.int (0+(k:Int)))),?_,rfl⟩
    have eg:gI (nA B s) (.int (0+(k:Int)))=.str (Nc B none (some ((1+(s+7*k)%30:Nat):Int))):=by
     show A.str (nA B s (0+(k:Int)).toNat)=_
     rw[Qm,Np];rfl
    rw[eg]
    walk_at "evh"
    simp only[fSl]
    walk_at "evh")
   rw[sV] at k
   subst hr
   unfold bM dM dN
   rw[iH]
   simp only[L5,Mh,Nb,MJ,Og,NT]
   rw[dw,s2]
   simp only
   unfold bsE at s3
   rw[dw,s3]
   simp only
   have t12:((K:Int)).toNat=K:=Np K
   generalize ((MD K).map (nA B s)).map A.str=Y at *
   walk_at "evh"
   exact⟨_,rfl⟩
  ·intro z hz
   obtain⟨k,_,rfl⟩:=Mx.mp hz
   exact⟨Hg hB hc s k,F7 hB s k⟩
 ·have dr:decide (r2=1)=false:=decide_eq_false hr
  obtain⟨r5,o5,c5,a5,b5,w5⟩:=tk 30 w2 (by omega) (by decide) (by decide)
  obtain⟨r6,o6,c6,a6,b6,w6⟩:=tk (1+r5) w5 (by omega) (by omega) (by omega)
  obtain⟨r7,o7,c7,a7,b7,w7⟩:=tk 37 w6 (by omega) (by decide) (by decide)
  obtain⟨lg,hlg⟩:∃s:Nat,1+r5=s:=⟨(1+r5).toNat,by omega⟩
  obtain⟨sp,rfl⟩:∃s:Nat,r6=s:=⟨r6.toNat,by omega⟩
  obtain⟨fi,rfl⟩:∃s:Nat,r7=s:=⟨r7.toNat,by omega⟩
  have h1:sp<lg:=by omega
  have h2:lg<=30:=by omega
  refine⟨(MD K).map (nB B sp lg fi),o7,?_,CD hK (Gv hB h1 h2 (by omega)),by simp,?_,w7.mono (by omega)⟩
  ·have k:=comp_map (i:=8) (e:=mOp aJ (mOp aJ (mSl (af 3) bK (cM (af 6))) (mOp (fOr fIx av) (af 2) (mOp gk (mOp aJ (af 7) (mOp bL (mC (.int 5)) (af 8))) (mC (.int 37))))) (mSl (af 3) (cM (mOp aJ (af 6) (mC (.int 1)))) (cM (af 5)))) (as:=cA 0 K) (ρ0:=[.pv o7,.fr (.int (K:Int)),.fr (.str bG),.fr (.str B),.un,.fr (.int (lg:Int)),.fr (.int (sp:Int)),.fr (.int (fi:Int))]) (gI (nB B sp lg fi)) rfl (of_eq_true k9) (by
    intro a ha
    obtain⟨k,hk,rfl⟩:=Mx.mp ha
    have hk:=Oj.mp hk
    have fk:=JV k (by omega)
    have ek:((fi:Int)+5*(0+(k:Int))).fmod 37=(((fi+5*k)%37:Nat):Int):=by
     rw[Oy _ (by decide)];omega
    have ea:=fJ (qj fi k)
    have nl:=sO
    have e1:((sp:Int)+1)=((sp+1:Nat):Int):=by omega
    have l1:((Nc B none (some (sp:Int))).length+(⟨#[sgn fi k]⟩:Str).length<=100000)=True:=by
     simp only[eq_iff_iff,iff_true]
     have:=Po B none (some (sp:Int))
     have e:(⟨#[sgn fi k]⟩:Str).length=1:=rfl
     rw[cE B,hB] at this
     omega
    have l2:((Nc B none (some (sp:Int))++(⟨#[sgn fi k]⟩:Str)).length+(Nc B (some ((sp+1:Nat):Int)) (some (lg:Int))).length<=100000)=True:=by
     simp only[eq_iff_iff,iff_true]
     have:=Po B none (some (sp:Int))
     have:=Po B (some ((sp+1:Nat):Int)) (some (lg:Int))
     have e:(⟨#[sgn fi k]⟩:Str).length=1:=rfl
     rw[cE B,hB] at *
     rw[sM]
     omega
    refine⟨.fr (gI (nB B sp lg fi) (.int (0+(k:Int)))),?_,rfl⟩
    have eg:gI (nB B sp lg fi) (.int (0+(k:Int)))=.str (Nc B none (some (sp:Int))++⟨#[sgn fi k]⟩++Nc B (some ((sp+1:Nat):Int)) (some (lg:Int))):=by
     show A.str (nB B sp lg fi (0+(k:Int)).toNat)=_
     rw[Qm,Np];rfl
    rw[eg]
    walk_at "evh"
    simp only[fSl]
    walk_at "evh")
   rw[sV] at k
   rw[hlg] at c6
   unfold bM dM dN
   rw[iH]
   simp only[L5,Mh,Nb,MJ,Og,NT]
   rw[dw,s2]
   simp only
   unfold bsE at s3
   rw[dw,s3]
   simp only
   have t12:((K:Int)).toNat=K:=Np K
   generalize ((MD K).map (nB B sp lg fi)).map A.str=Y at *
   walk_at "evh"
   exact⟨_,rfl⟩
  ·intro z hz
   obtain⟨k,_,rfl⟩:=Mx.mp hz
   exact⟨IV hB hc h1 h2 fi k,Dv hB h1 h2 fi k⟩
theorem cZ{x:Rr}{xs:List A}{i:Int}{a:A}(h:res ρ x=some (.lst xs)\/res ρ x=some (.tup xs))(e:atI xs i=some a):opK (fOr fIx av) x (.fr (.int i)) ρ=some (.ok (.fr a),ρ):=by
 unfold opK
 rcases h with h|h<;>rw[h]<;>simp only[res,fOr,fIx,e]
variable{r:Int}
theorem jo(h0:0<=r)(h1:r<ss.length):∃y∈ss,atI (ss.map A.str) r=some (.str y):=by
 obtain⟨j,rfl⟩:∃j:Nat,r=j:=⟨r.toNat,by omega⟩
 have hj:j<ss.length:=by omega
 refine⟨ss[j],NQ hj,?_⟩
 exact fJ (by rw[MA,Mo hj];rfl)
theorem Wp.sr{m n:Ms}{Q:Fl->List Sl->Prop}(h:m ρ=some (.rt s,ρ1))(q:Q (.rt s) ρ1):Wp (ax m n) ρ Q:=⟨_,_,by rw[dw,h],q⟩
theorem eD{t:Mi Bool}{m n:Ms}{r:Option (Fl×List Sl)}(h:t ρ=some (.ok true,ρ1))(k:m ρ1=r):sIf t m n ρ=r:=by rw[uU,h];exact k
theorem cN{t:Mi Bool}{m n:Ms}{r:Option (Fl×List Sl)}(h:t ρ=some (.ok false,ρ1))(k:n ρ1=r):sIf t m n ρ=r:=by rw[uU,h];exact k
theorem ji(i j:Int)(ρ:List Sl):opK fEq (.fr (.int i)) (.fr (.int j)) ρ=some (.ok (.fr (.bl (decide (i=j)))),ρ):=by
 simp only[opK,res,fEq,m8]
theorem bI{m n:Ms}{r:Option (Fl×List Sl)}(h:m ρ=some (.nx,ρ1))(k:n ρ1=r):ax m n ρ=r:=by rw[dw,h];exact k
variable{m:Mi Rr}{ρ2:List Sl}
theorem DY{r x:Rr}(h0:isL ρ i=true)(h:m ρ=some (.ok x,ρ1))(k:Bp i x ρ1=some (.ok r,ρ2)):fj i (eS i m) ρ=some (.ok r,ρ2):=by
 rw[Cm,if_pos h0,h];exact k
theorem xt{r:Rr}{a:Sl}(h:stT r ρ=some (a,ρ1))(k:ρ1[i]?=some s)(hn:np s=true)(e:ρ1.set i a=ρ2):uy i r ρ=some (.nx,ρ2):=by rw[J8 h k hn,e]
theorem Aq{n:Nat}{mi:Mi (List A)}{G:Mg}{t:Mi Bool}{as:List A}{r:Rr}(h:mi ρ=some (.ok as,ρ1))(k:fu n G t e as ρ1=some (.ok r,ρ2)):cc n mi G t e ρ=some (.ok r,ρ2):=by rw[ir,h];exact k
theorem gO{r:Rr}{a:Sl}(h:m ρ=some (.ok r,ρ1))(h1:stT r ρ1=some (a,ρ1))(k:ρ1[i]?=some s)(hn:np s=true)(e:ρ1.set i a=ρ2):aA i m ρ=some (.nx,ρ2):=aO h (xt h1 k hn e)
theorem kg{x:Rr}{a:A}{xs:List A}(h0:isL ρ i=true)(h:m ρ=some (.ok x,ρ1))(k:aV x ρ1=some (a,ρ1))(l:aH ρ1 i=some (.lst xs))(hl:xs.length<=100000)(e:setAt ρ1 i (.lst (xs++[a]))=ρ2):aP (fj i (cQ i m)) ρ=some (.nx,ρ2):=by
 rw[jw,Cg,if_pos h0,h];dsimp only;unfold Dm;rw[k];dsimp only;rw[l];dsimp only;rw[if_pos hl,e]
variable{pre:List Str}
theorem xH{l:Str}(h:aH ρ i=some (.lst ((pre++[l]).map A.str)))(e:setAt ρ i (.lst (pre.map A.str))=ρ1):kU i ρ=some (.ok (.fr (.str l)),ρ1):=by
 rw[CS,h]
 dsimp only
 rw[show ((pre++[l]).map A.str)[((pre++[l]).map A.str).length-1]?=some (.str l) by rw[Mw];simp,show ((pre++[l]).map A.str).dropLast=pre.map A.str by rw[Mw];simp]
 dsimp only
 rw[e]
theorem J6(x:Int):Ok (x,1):=⟨by show (0:Int)<1;decide,by show MO x 1=1;simp⟩
theorem pw(k v:Int)(h:0<=k/\k<=1000000/\(10:Int).natAbs<2^64)(e:(10:Int)^k.toNat=v)(ρ:List Sl):mOp cp (mC (.int 10)) (mC (.int k)) ρ=some (.ok (.fr (.int v)),ρ):=by
 have:cp (.int 10) (.int k)=some (.fr (.int v)):=by rw[vp];simp only[M.opI];rw[if_pos h,e]
 rw[FP,e_C]
 dsimp only
 rw[e_C]
 simp only[opK,res,this]
theorem tN{x y:Int}(h:m ρ=some (.ok (.fr (.int x)),ρ1)):aF (aa m (aa (mC (.int y)) ag)) ρ=some (.ok (.fr (nm (x,y))),ρ1):=cV (aq h rfl) rfl
variable{j:Int}
theorem uR{i:Int}(hi:i.natAbs<2^64)(hj:j.natAbs<2^64)(ρ:List Sl):opK bL (.fr (.int i)) (.fr (.int j)) ρ=some (.ok (.fr (.int (i*j))),ρ):=by
 have f1:fits 20000 i=true:=bq (m:=64) hi (by decide)
 have f2:fits 20000 j=true:=bq (m:=64) hj (by decide)
 simp only[opK,res,bL,fOr,sL,M.opI,f1,f2,Bool.and_self,if_true]
theorem kL{i:Int}(h:i.natAbs<2^64):NB 64 (i,1):=⟨J6 i,h,by show (1:Int).natAbs<2^64;decide⟩
theorem tw{n:Int}{k v:Int}(w:Wl n o)(hn:n<2^38)(h:0<=k/\k<=1000000/\(10:Int).natAbs<2^64)(e:(10:Int)^k.toNat=v)(hv:0<=v)(hv2:v<2^60):∃u o',0<=u/\u<2*v+1/\Wl (n+1) o'/\∀ρ,mOp fM (ai ah [] (aa (af 0) (aa (mFz (mOp aJ (mOp bL (mC (.int 2)) (mOp cp (mC (.int 10)) (mC (.int k)))) (mC (.int 1)))) ag))) (mOp cp (mC (.int 10)) (mC (.int k))) (.pv o::ρ)=some (.ok (.fr (.int (u-v))),.pv o'::ρ):=by
 obtain⟨u,o',c,a,b,w'⟩:=tk (2*v+1) w (by omega) (by omega) (by omega)
 exact⟨u,o',a,b,w',λρ=>aG (au (aq rfl (aq (iO (aG (aG rfl (pw k v h e _) (uR (by decide) (by omega) _)) rfl rfl) rfl) rfl)) (c _)) (pw k v h e _) rfl⟩
theorem at5:∀r:Nat,r<5->∃t:Int,atI [A.int 1,.int 1,.int 2,.int 3,.int 6] (r:Int)=some (.int t)/\1<=t/\t<=6:=by
 intro r hr
 match r,hr with
 | 0,_=>exact⟨1,rfl,by decide,by decide⟩
 | 1,_=>exact⟨1,rfl,by decide,by decide⟩
 | 2,_=>exact⟨2,rfl,by decide,by decide⟩
 | 3,_=>exact⟨3,rfl,by decide,by decide⟩
 | 4,_=>exact⟨6,rfl,by decide,by decide⟩
theorem kT{i:Int}(b:Bool)(hb:decide (i=j)=b)(h:ρ[1]?=some (.fr (.int i))):ao (mOp fEq (af 1) (mC (.int j))) ρ=some (.ok b,ρ):=by
 rw[<- hb]
 exact bh (aG (by rw[rL,h]) rfl (ji _ _ _))
theorem mX{t b:Int}(h:b≠0)(hb:b.natAbs<2^64)(ρ:List Sl):cw cf [] [.fr (.int t),.fr (.int b)] ρ=some (.ok (.fr (nm (nrm t b))),ρ):=aZ (xK h (show b.natAbs<2^9000 from L4 hb (MU (by decide) (by decide)))) ρ
theorem sC{n:Int}{k:Int}(w:Wl n o)(hn:n<2^38):∃x o',bM dz o [.int k] (.fr (nm x)) o'/\NB 60 x/\Wl (n+2) o':=by
 suffices ∃s o',bM dz o [.int k] s o'/\∃x,s=.fr (nm x)/\NB 60 x/\Wl (n+2) o' by
  obtain⟨s,o',v,x,rfl,h⟩:=this
  exact⟨x,o',v,h⟩
 have n1:∀{i:Int},i.natAbs<2^60->NB 60 (i,1):=λh=>⟨J6 _,h,by show (1:Int).natAbs<2^60;decide⟩
 refine bM.of (Wp.df ?_)
 by_cases h4:k=4
 ·obtain⟨u,o2,a2,b2,w2,e2⟩:=tw (k:=17) (v:=100000000000000000) w (by omega) (by decide) (by decide) (by decide) (by decide)
  exact Wp.sr (eD (kT true (decide_eq_true h4) rfl) (bT (tN (e2 _)) rfl)) ⟨_,_,_,rfl,rfl,_,rfl,n1 (by omega),w2.mono (by omega)⟩
 refine Wp.st (cN (kT false (decide_eq_false h4) rfl) rfl) ?_
 by_cases h3:k=3
 ·obtain⟨u,o2,a2,b2,w2,e2⟩:=tw (k:=6) (v:=1000000) w (by omega) (by decide) (by decide) (by decide) (by decide)
  obtain⟨d,o3,c3,a3,b3,w3⟩:=tk 1000 w2 (by omega) (by decide) (by decide)
  exact Wp.sr (eD (kT true (decide_eq_true h3) rfl) (bT (au (aq (e2 _) (aq (iO (aG rfl (au rfl (c3 _)) rfl) rfl) rfl)) (mX (by omega) (by omega) _)) rfl)) ⟨_,_,_,rfl,rfl,_,rfl,.nrm (by omega) (show (u-1000000).natAbs<2^60 by omega) (show (1+d).natAbs<2^60 by omega),w3.mono (by omega)⟩
 refine Wp.st (cN (kT false (decide_eq_false h3) rfl) rfl) ?_
 by_cases h2:k=2
 ·obtain⟨u,o2,a2,b2,w2,e2⟩:=tw (k:=15) (v:=1000000000000000) w (by omega) (by decide) (by decide) (by decide) (by decide)
  exact Wp.sr (eD (kT true (decide_eq_true h2) rfl) (bT (tN (e2 _)) rfl)) ⟨_,_,_,rfl,rfl,_,rfl,n1 (by omega),w2.mono (by omega)⟩
 refine Wp.st (cN (kT false (decide_eq_false h2) rfl) rfl) ?_
 obtain⟨u,o2,c2,a2,b2,w2⟩:=tk 21 w (by omega) (by decide) (by decide)
 obtain⟨r,o3,c3,a3,b3,w3⟩:=tk 5 w2 (by omega) (by decide) (by decide)
 obtain⟨j,rfl⟩:∃j:Nat,r=j:=⟨r.toNat,by omega⟩
 obtain⟨d,ed,d1,d6⟩:=at5 j (by omega)
 exact Wp.en (bT (au (aq (aG (au rfl (c2 _)) rfl rfl) (aq (aG (cx rfl rfl) (au rfl (c3 _)) (cZ (.inl rfl) ed)) rfl)) (mX (by omega) (by omega) _)) rfl) ⟨_,_,_,rfl,rfl,_,rfl,.nrm (by omega) (show (u-10).natAbs<2^60 by omega) (show d.natAbs<2^60 by omega),w3.mono (by omega)⟩
theorem sy{n:Int}{k:Int}(w:Wl n o)(hn:n<2^37):∃x o',bM cK o [.int k] (.fr (nm x)) o'/\NB 60 x/\0<=x.1/\Wl (n+3) o':=by
 obtain⟨x,o1,v1,nx,w1⟩:=sC (k:=k) w (by omega)
 obtain⟨r,o2,c2,a2,b2,w2⟩:=tk 8 w1 (by omega) (by decide) (by decide)
 suffices ∃s o',bM cK o [.int k] s o'/\∃x,s=.fr (nm x)/\NB 60 x/\0<=x.1/\Wl (n+3) o' by
  obtain⟨s,o',v,x,rfl,h⟩:=this
  exact⟨x,o',v,h⟩
 refine bM.of (Wp.df (Wp.st (ρ1:=[.pv o1,.fr (.int k),.fr (nm x)]) (aO (au rfl (cw0 v1 rfl _)) rfl) ?_))
 have tt:ao (mOp fEq (ai ah [] (aa (af 0) (aa (mC (.int 8)) ag))) (mC (.int 1))) [.pv o1,.fr (.int k),.fr (nm x)]=some (.ok (decide (r=1)),[.pv o2,.fr (.int k),.fr (nm x)]):=bh (aG (au rfl (c2 _)) rfl (ji _ _ _))
 by_cases hr:r=1
 ·rw[decide_eq_true hr] at tt
  exact Wp.sr (eD tt rfl) ⟨_,_,_,rfl,rfl,(0,1),rfl,n4,Int.le_refl 0,w2.mono (by omega)⟩
 ·rw[decide_eq_false hr] at tt
  refine Wp.st (cN tt rfl) (Wp.en (f:=.rt (.fr (nm (if x.1<0 then -x.1 else x.1,x.2)))) (ρ1:=[.pv o2,.fr (.int k),.fr (nm x)]) rfl ⟨_,_,_,rfl,rfl,(if x.1<0 then -x.1 else x.1,x.2),rfl,?_,?_,w2.mono (by omega)⟩)
  ·split
   ·exact nx.neg
   ·exact nx
  ·show 0<=(if x.1<0 then -x.1 else x.1)
   split<;>omega
theorem xw(h:0<=x.1):nlt x (0,1)=false:=by
 unfold nlt
 apply decide_eq_false
 show ¬ (x.1*1<0*x.2)
 omega
theorem AL(hx:Ok x)(hy:Ok y)(h:0<=y.1):nlt (ik x y) x=false:=by
 cases e:nlt (ik x y) x with
 | false=>rfl
 | true =>
  exfalso
  have h1:=(nj (Es hx hy) hx).mp e
  have h2:=xw h
  rw[DU hx hy] at h1
  have h3:nlt y (0,1)=true:=(nj hy AG).mpr (by rw[AI];grind)
  rw[h2] at h3
  cases h3
theorem iJ(i j:Str):eqA (.str i) (.str j)=some (decide (i=j)):=by
 unfold eqA
 simp only[toD]
 rw[if_pos (by simp[D.depth])]
 simp[D.eq,Qj]
noncomputable def sfD(f:Sf):D:=.tup [.str f.s,.tup [.int f.r.1,.int f.r.2],.str f.w]
theorem rQ:∀L:List Sf,gh (L.map sfA)=some (L.map sfD)
 | []=>by simp[gh]
 | p::L=>by rw[L5,gh,rQ L];simp[sfA,sfD,nm,toD,gh]
theorem l8:∀L:List Sf,D.cG (L.map sfD)<=5
 | []=>by simp[D.cG]
 | p::L=>by
  rw[L5]
  have:=l8 L
  simp[sfD,D.cG,D.depth]
  omega
theorem kq:∀L:List Str,gh (L.map A.str)=some (L.map D.str)
 | []=>by simp[gh]
 | p::L=>by rw[L5,gh,kq L];simp[toD]
theorem iD:∀L:List Str,D.cG (L.map D.str)<=5
 | []=>by simp[D.cG]
 | p::L=>by
  rw[L5]
  have:=iD L
  simp[D.cG,D.depth]
  omega
theorem yy(L:List Str):eqA (.lst (L.map A.str)) (.lst (L.map A.str))=some true:=by
 unfold eqA
 simp only[toD,kq,D.gZ]
 rw[if_pos ?_]
 have:=iD L
 simp[D.cG,D.depth]
 omega
theorem vm(L:List Str):eqA (.lst (L.map A.str)) (.lst [])=some (decide (L=[])):=by
 unfold eqA
 simp only[toD,kq,gh]
 rw[if_pos ?_]
 ·cases L with
  | nil=>simp[D.gZ]
  | cons f L=>simp[D.eq,D.eqs]
 ·have:=iD L
  simp[D.cG,D.depth]
  omega
theorem at3:∀r:Nat,r<3->∃w:Str,atI [A.str "fixed",.str "big",.str "small"] (r:Int)=some (.str w)/\rp w:=by
 intro r hr
 match r,hr with
 | 0,_=>exact⟨"fixed",rfl,.inl rfl⟩
 | 1,_=>exact⟨"big",rfl,.inr (.inl rfl)⟩
 | 2,_=>exact⟨"small",rfl,.inr (.inr rfl)⟩
theorem at6:∀r:Nat,r<6->∃t:Nat,atI [A.int 0,.int 0,.int 1,.int 1,.int 2,.int 3] (r:Int)=some (.int (t:Int))/\t<=5:=by
 intro r hr
 match r,hr with
 | 0,_=>exact⟨0,rfl,by decide⟩
 | 1,_=>exact⟨0,rfl,by decide⟩
 | 2,_=>exact⟨1,rfl,by decide⟩
 | 3,_=>exact⟨1,rfl,by decide⟩
 | 4,_=>exact⟨2,rfl,by decide⟩
 | 5,_=>exact⟨3,rfl,by decide⟩
noncomputable abbrev shB:Ms:=sIf (ao (mOp fNe (af 5) (bF ag))) (ax (aA 12 (ai cK [] (aa (af 0) (aa (aw 4) ag)))) (aP (fj 10 (cQ 10 (aF (aa (kU 5) (aa (af 12) (aa (mOp (fOr fIx av) (bF (aa (mC (.str "fixed")) (aa (mC (.str "big")) (aa (mC (.str "small")) ag)))) (ai ah [] (aa (af 0) (aa (mC (.int 3)) ag)))) ag)))))))) aL
structure Drw (pr:List Str) (nm0:Str) (fs:List Sf) (ss:List Str):Prop where
 nd:(pr++((nm0::fs.map Sf.s)++ss)).Nodup
 ok:∀z∈pr++((nm0::fs.map Sf.s)++ss),hV z 
 sf:∀f∈fs,wg 121 f
theorem Drw.next{pr:List Str}{nm0:Str}{fs:List Sf}{l:Str}{wy:Str}(d:Drw pr nm0 fs (pre++[l]))(hx:NB 60 x)(h0:0<=x.1)(hw:rp wy):Drw pr nm0 (fs++[⟨l,x,wy⟩]) pre:=by
 have e:pr++((nm0::(fs++[(⟨l,x,wy⟩:Sf)]).map Sf.s)++pre)=pr++((nm0::fs.map Sf.s)++([l]++pre)):=by simp
 have pm:(pr++((nm0::fs.map Sf.s)++([l]++pre))).Perm (pr++((nm0::fs.map Sf.s)++(pre++[l]))):=(NG.append_left _).append_left _
 refine⟨by rw[e];exact(pm.nodup_iff).mpr d.nd,λz hz=>?_,λf hf=>?_⟩
 ·rw[e] at hz
  exact d.ok z (pm.mem_iff.mp hz)
 ·rcases Me.mp hf with h|h
  ·exact d.sf f h
  ·rw[Mj.mp h];exact⟨hx.mono (by decide),xw h0,hw⟩
noncomputable abbrev zS(o:LO)(many K kd:Int)(ss:List Str)(zs:List Sz)(x7 x8 x9 x10 x11 x12:Sl):List Sl:=[.pv o,.fr (.int many),.fr (.int K),.fr (.int 5),.fr (.int kd),.lv (.lst (ss.map A.str)),.lv (.lst (zs.map szT)),x7,x8,x9,x10,x11,x12]
section
variable{n many K kd:Int}{o:LO}{pr:List Str}{nm0:Str}{ss:List Str}{zs:List Sz}{fs:List Sf}{x7 x8 x9 x10 x11 x12:Sl}
theorem An:ao (mOp fNe (af 5) (bF ag)) (zS o many K kd ss zs x7 x8 x9 x10 x11 x12)=some (.ok (!decide (ss=[])),zS o many K kd ss zs x7 x8 x9 x10 x11 x12) :=
 bh (aG rfl (cx rfl rfl) (by simp only[opK,res,Sl.a,LO.a,Nf,MZ,fNe,vm]))
theorem Aw(w:Wl n o)(hn:n<2^36)(d:Drw pr nm0 fs ss)(hf:fs.length<=100)(h12:np x12=true):∃fs' ss' o' y12,shB (zS o many K kd ss zs x7 x8 x9 (.lv (.lst (fs.map sfA))) x11 x12)=some (.nx,zS o' many K kd ss' zs x7 x8 x9 (.lv (.lst (fs'.map sfA))) x11 y12)/\Drw pr nm0 fs' ss'/\fs'.length<=fs.length+1/\fs'.length+ss'.length<=fs.length+ss.length/\Wl (n+4) o'/\np y12=true:=by
 by_cases hz:ss=[]
 ·exact⟨fs,ss,o,x12,cN (by rw[An,decide_eq_true hz];rfl) rfl,d,by omega,Md _,w.mono (by omega),h12⟩
 ·obtain⟨x,o1,v1,nx,x0,w1⟩:=sy (k:=kd) w (by omega)
  obtain⟨r,o2,c2,a2,b2,w2⟩:=tk 3 w1 (by omega) (by decide) (by decide)
  obtain⟨j,rfl⟩:∃j:Nat,r=j:=⟨r.toNat,by omega⟩
  obtain⟨wy,e3,hw⟩:=at3 j (by omega)
  obtain⟨pre,l,rfl⟩:∃pre l,ss=pre++[l]:=⟨ss.dropLast,ss.getLast hz,(Px hz).symm⟩
  have e5:(fs++[(⟨l,x,wy⟩:Sf)]).map sfA=fs.map sfA++[sfA ⟨l,x,wy⟩]:=Mw
  refine⟨fs++[⟨l,x,wy⟩],pre,o2,.fr (nm x),eD (by rw[An,decide_eq_false hz];rfl) (bI (gO (au rfl (cw0 v1 rfl _)) rfl rfl h12 rfl) (kg rfl (cV (aq (xH rfl rfl) (aq rfl (aq (aG (cx rfl rfl) (au rfl (c2 _)) (cZ (.inl rfl) e3)) rfl))) rfl) rfl rfl (by rw[LY];omega) (by rw[e5];rfl))),d.next nx x0 hw,by simp,by simp;omega,w2.mono (by omega),rfl⟩
noncomputable abbrev vx:Mi Bool:=jL (ao (mOp fNe (af 5) (bF ag))) (ao (mOp fLt (mB1 cW (af 6)) (af 1)))
noncomputable abbrev wN:Ms:=(ax (aA 7 (kU 5)) (ax (aA 8 (ai dz [] (aa (af 0) (aa (aw 4) ag)))) (ax (aA 9 (ai dX [] (aa (aw 8) (aa (ai cK [] (aa (af 0) (aa (aw 4) ag))) ag)))) (ax (aA 10 (bF ag)) (ax (iM (gB (mOp (fOr fIx av) (bF (aa (mC (.int 0)) (aa (mC (.int 0)) (aa (mC (.int 1)) (aa (mC (.int 1)) (aa (mC (.int 2)) (aa (mC (.int 3)) ag))))))) (ai ah [] (aa (af 0) (aa (mC (.int 6)) ag))))) (aM 11) shB) (aP (fj 6 (cQ 6 (aF (aa (af 7) (aa (af 8) (aa (af 9) (aa (mB1 fQ (af 10)) ag)))))))))))))
theorem Dw{r:Rr}{as:List A}(h:m ρ=some (.ok r,ρ1))(k:oQ r ρ1=some (.ok as,ρ2)):gB m ρ=some (.ok as,ρ2):=by rw[xX,h];exact k
theorem zE{t:Nat}(w:Wl n o)(hn:n<2^35)(d:Drw pr nm0 [] ss)(ht:t<=5)(h11:np x11=true)(h12:np x12=true):∃fs ss' o' y11 y12,forL (aM 11) shB (cA 0 t) (zS o many K kd ss zs x7 x8 x9 (.lv (.lst [])) x11 x12)=some (.nx,zS o' many K kd ss' zs x7 x8 x9 (.lv (.lst (fs.map sfA))) y11 y12)/\Drw pr nm0 fs ss'/\fs.length<=5/\fs.length+ss'.length<=ss.length/\Wl (n+20) o'/\np y11=true/\np y12=true:=by
 have hl:=r9 t
 obtain⟨ρ1,hf,fs,ss',o',y11,y12,rfl,d',l1,l2,w',g11,g12⟩:=kO (G:=aM 11) (b:=shB) (as:=cA 0 t)
  (λi ρ=>∃fs ss' o' x11 x12,ρ=zS o' many K kd ss' zs x7 x8 x9 (.lv (.lst (fs.map sfA))) x11 x12/\Drw pr nm0 fs ss'/\fs.length<=i/\fs.length+ss'.length<=ss.length/\Wl (n+4*i) o'/\np x11=true/\np x12=true)
  (ρ:=zS o many K kd ss zs x7 x8 x9 (.lv (.lst [])) x11 x12) ⟨[],ss,o,x11,x12,rfl,d,Md _,(by simp),w.mono (by simp),h11,h12⟩ (by
   rintro i a ρ ha ⟨fs,ss',o',x11,x12,rfl,d',l1,l2,w',g11,g12⟩
   have hi:i<5:=by have:=(EZ ha).1;omega
   obtain⟨fs2,ss2,o2,y12,e,d2,l3,l4,w2,q12⟩:=Aw (x11:=.fr a) w' (by omega) d' (by omega) g12
   exact⟨zS o' many K kd ss' zs x7 x8 x9 (.lv (.lst (fs.map sfA))) (.fr a) x12,_,by cases x11<;>first|(cases g11;done)|rfl,.inl e,fs2,ss2,o2,_,_,rfl,d2,by omega,by omega,w2.mono (by omega),rfl,q12⟩)
 exact⟨fs,ss',o',y11,y12,hf,d',by omega,l2,w'.mono (by omega),g11,g12⟩
theorem B6(w:Wl n o)(hn:n<2^34)(nd:(zs.flatMap szN++ss).Nodup)(ok:∀z∈zs.flatMap szN++ss,hV z)(hz:ss≠[])(hl:zs.length<=100)(h7:np x7=true)(h8:np x8=true)(h9:np x9=true)(h10:np x10=true)(h11:np x11=true)(h12:np x12=true):∃z ss' o' y7 y8 y9 y10 y11 y12,wN (zS o many K kd ss zs x7 x8 x9 x10 x11 x12)=some (.nx,zS o' many K kd ss' (zs++[z]) y7 y8 y9 y10 y11 y12)/\dg 121 z/\((zs++[z]).flatMap szN++ss').Nodup/\(∀x∈(zs++[z]).flatMap szN++ss',hV x)/\z.f.length+1+ss'.length<=ss.length/\Wl (n+30) o'/\np y7=true/\np y8=true/\np y9=true/\np y10=true/\np y11=true/\np y12=true:=by
 obtain⟨pre,l,rfl⟩:∃pre l,ss=pre++[l]:=⟨ss.dropLast,ss.getLast hz,(Px hz).symm⟩
 obtain⟨x,o1,v1,nx,w1⟩:=sC (k:=kd) w (by omega)
 obtain⟨y,o2,v2,ny,y0,w2⟩:=sy (k:=kd) w1 (by omega)
 obtain⟨r3,o3,c3,a3,b3,w3⟩:=tk 6 w2 (by omega) (by decide) (by decide)
 obtain⟨j,rfl⟩:∃j:Nat,r3=j:=⟨r3.toNat,by omega⟩
 obtain⟨t,ht,t3⟩:=at6 j (by omega)
 have pm:(zs.flatMap szN++(pre++[l])).Perm (zs.flatMap szN++([l]++pre)):=NG.append_left _
 have dr:Drw (zs.flatMap szN) l [] pre:=⟨(pm.nodup_iff).mp nd,λz hz=>ok z (pm.mem_iff.mpr hz),λf hf=>by cases hf⟩
 obtain⟨fs,ss',o4,y11,y12,hf,d4,lf,ls,w4,g11,g12⟩:=zE (many:=many) (K:=K) (kd:=kd) (zs:=zs) (x7:=.fr (.str l)) (x8:=.fr (nm x)) (x9:=.fr (nm (ik x y))) w3 (by omega) dr t3 h11 h12
 have fe:(zs++[(⟨l,x,ik x y,fs⟩:Sz)]).flatMap szN=zs.flatMap szN++(l::fs.map Sf.s):=by rw[M7];simp[szN]
 have er:∀ρ,oQ (.fr (.int (t:Int))) ρ=some (.ok (cA 0 t),ρ):=λρ=>by
  unfold oQ
  dsimp only [res]
  rw[if_pos (by omega),Np]
 have e5:(zs++[(⟨l,x,ik x y,fs⟩:Sz)]).map szT=zs.map szT++[szT ⟨l,x,ik x y,fs⟩]:=Mw
 refine⟨⟨l,x,ik x y,fs⟩,ss',o4,.fr (.str l),.fr (nm x),.fr (nm (ik x y)),.lv (.lst (fs.map sfA)),y11,y12,bI (gO (xH rfl rfl) rfl rfl h7 rfl) <| bI (gO (au rfl (cw0 v1 rfl _)) rfl rfl h8 rfl) <| bI (gO (au (aq rfl (aq (au rfl (cw0 v2 rfl _)) rfl)) (aZ (wJ (n:=60) nx ny (by decide)) _)) rfl rfl h9 rfl) <| bI (gO (cx rfl rfl) rfl rfl h10 rfl) <| bI ((sX ..).trans (by rw[Dw (aG (cx rfl rfl) (au rfl (c3 _)) (cZ (.inl rfl) ht)) (er _)];exact hf)) <| kg rfl rfl rfl rfl (by rw[LY];omega) (by unfold zS;rw[e5];rfl),⟨nx.mono (by decide),(nx.add ny).mono (by decide),AL nx.ok ny.ok y0,d4.sf,λs hs=>d4.ok s (LW _ (Mm _ hs)),(Mp.mp (Mp.mp d4.nd).2.1).1,by show fs.length<=50;omega⟩,by rw[fe,L7];exact d4.nd,by rw[fe,L7];exact d4.ok,by simp;omega,w4.mono (by omega),rfl,rfl,rfl,rfl,g11,g12⟩
theorem Jx:vx (zS o many K kd ss zs x7 x8 x9 x10 x11 x12)=some (.ok (!decide (ss=[])&&decide ((zs.length:Int)<many)),zS o many K kd ss zs x7 x8 x9 x10 x11 x12):=by
 have e:ao (mOp fLt (mB1 cW (af 6)) (af 1)) (zS o many K kd ss zs x7 x8 x9 x10 x11 x12)=some (.ok (decide ((zs.length:Int)<many)),zS o many K kd ss zs x7 x8 x9 x10 x11 x12):=by
  rw[show (zs.length:Int)=((zs.map szT).length:Int) by rw[LY]]
  rfl
 cases h:decide (ss=[]) with
 | true=>exact mQ (by rw[An,h];rfl)
 | false=>exact jO (by rw[An,h];rfl) e
theorem B2(w:Wl n o)(hn:n<2^33)(nd:ss.Nodup)(ok:∀z∈ss,hV z)(hl:ss.length<=12)(hne:ss≠[]):∃(zs:List Sz) (o':LO) (ss':List Str) (x7 x8 x9 x10 x11 x12:Sl),dY vx wN BIG (zS o many K kd ss [] .un .un .un .un .un .un)=some (.nx,zS o' many K kd ss' zs x7 x8 x9 x10 x11 x12)/\(∀z∈zs,dg 121 z)/\(zs.flatMap szN).length<=12/\(zs.flatMap szN).Nodup/\(0<many->zs≠[])/\Wl (n+360) o':=by
 obtain⟨ρ',hw,zs,o',ss',x7,x8,x9,x10,x11,x12,rfl,h⟩:=jm (t:=vx) (b:=wN) (n:=BIG)
  (P:=λk ρ=>∃(ss:List Str) (zs:List Sz) (oz:LO) (x7 x8 x9 x10 x11 x12:Sl),ρ=zS oz many K kd ss zs x7 x8 x9 x10 x11 x12/\(zs.flatMap szN++ss).Nodup/\(∀z∈zs.flatMap szN++ss,hV z)/\(∀z∈zs,dg 121 z)/\zs.length+ss.length<=12/\(zs.flatMap szN).length+ss.length<=12/\Wl (n+30*(12-ss.length)) oz/\np x7=true/\np x8=true/\np x9=true/\np x10=true/\np x11=true/\np x12=true/\(zs=[]->ss≠[])/\k=ss.length)
  (Q:=λρ=>∃(zs:List Sz) (oz:LO) (ss:List Str) (x7 x8 x9 x10 x11 x12:Sl),ρ=zS oz many K kd ss zs x7 x8 x9 x10 x11 x12/\(∀z∈zs,dg 121 z)/\(zs.flatMap szN).length<=12/\(zs.flatMap szN).Nodup/\(0<many->zs≠[])/\Wl (n+360) oz) (by
   rintro k ρ ⟨ss,zs,oz,x7,x8,x9,x10,x11,x12,rfl,nd,ok,zk,le,le2,wz,h7,h8,h9,h10,h11,h12,hne,rfl⟩
   by_cases hz:ss≠[]/\(zs.length:Int)<many
   ·right
    obtain⟨z,ss',o',y7,y8,y9,y10,y11,y12,e,z1,n1,k1,l1,w1,q7,q8,q9,q10,q11,q12⟩:=B6 (many:=many) (K:=K) (kd:=kd) wz (by omega) nd ok hz.1 (by omega) h7 h8 h9 h10 h11 h12
    refine⟨_,_,ss'.length,Jx.trans (by rw[decide_eq_false hz.1,decide_eq_true hz.2];rfl),.inl e,by omega,ss',zs++[z],o',_,_,_,_,_,_,rfl,n1,k1,λx hx=>?_,by simp;omega,?_,w1.mono (by omega),q7,q8,q9,q10,q11,q12,(λe=>absurd e (by simp)),rfl⟩
    ·rcases Me.mp hx with h|h
     ·exact zk x h
     ·rw[Mj.mp h];exact z1
    ·rw[M7,OO,Ma]
     have:(szN z).length=z.f.length+1:=by unfold szN;simp
     omega
   ·left
    have hb:(!decide (ss=[])&&decide ((zs.length:Int)<many))=false:=by
     rw[OA]
     simpa using hz
    exact⟨_,Jx.trans (by rw[hb]),zs,oz,ss,_,_,_,_,_,_,rfl,zk,by omega,(Mp.mp nd).1,λm0 e=>hz ⟨hne e,by rw[e];exact m0⟩,wz.mono (by omega)⟩) (k:=ss.length) (ρ:=zS o many K kd ss [] .un .un .un .un .un .un)
  ⟨ss,[],o,.un,.un,.un,.un,.un,.un,rfl,nd,ok,(λz hz=>by cases hz),by simpa using hl,by simpa using hl,w.mono (by omega),rfl,rfl,rfl,rfl,rfl,rfl,λ_=>hne,rfl⟩ (qB (L4 (by omega:ss.length<2^4) (MU (by decide) (by decide))))
 exact⟨zs,o',ss',x7,x8,x9,x10,x11,x12,hw,h⟩
end
theorem wj(hK:K<=12)(hK0:0<K){n:Int}{many:Int}(w:Wl n o)(hn:n<2^32):∃(zs:List Sz) (o':LO),bM fX o [.int many,.int (K:Int),.int 5] (.lv (.lst (zs.map szT))) o'/\(∀z∈zs,dg 121 z)/\(zs.flatMap szN).length<=12/\(zs.flatMap szN).Nodup/\(0<many->zs≠[])/\Wl (n+420) o':=by
 obtain⟨kd,o1,c1,a1,b1,w1⟩:=tk 5 w (by omega) (by decide) (by decide)
 obtain⟨ss,o2,v2,nd,hl,ok,w2⟩:=t9 hK w1 (by omega)
 obtain⟨zs,o3,ss',x7,x8,x9,x10,x11,x12,hw,zk,zl,zn,z0,w3⟩:=B2 (many:=many) (K:=K) (kd:=kd) w2 (by omega) nd (λz hz=>(ok z hz).1) (by omega) (by rintro rfl;rw[Oe] at hl;omega)
 suffices ∃s o',bM fX o [.int many,.int (K:Int),.int 5] s o'/\(s=.lv (.lst (zs.map szT))/\o'=o3) by
  obtain⟨s,o',v,rfl,rfl⟩:=this
  exact⟨zs,o',v,zk,zl,zn,z0,w3.mono (by omega)⟩
 exact bM.of (Wp.df (Wp.st (ρ1:=[.pv o1,.fr (.int many),.fr (.int (K:Int)),.fr (.int 5),.fr (.int kd),.un,.un,.un,.un,.un,.un,.un,.un]) (aO (au rfl (c1 _)) rfl) <| Wp.st (ρ1:=[.pv o2,.fr (.int many),.fr (.int (K:Int)),.fr (.int 5),.fr (.int kd),.lv (.lst (ss.map A.str)),.un,.un,.un,.un,.un,.un,.un]) (aO (au rfl (cw0 v2 rfl _)) rfl) <| Wp.st (ρ1:=zS o2 many K kd ss [] .un .un .un .un .un .un) (aO (cx rfl rfl) rfl) <| Wp.st ((rR ..).trans hw) <| Wp.en (bT rfl rfl) ⟨_,_,_,rfl,rfl,rfl,rfl⟩))
variable{cn:Str}{ρr:List Sl}
theorem BA{c2:Str}{das as:List A}{fs:List (Str×A)}(h:f (.pv (.obj cn [])::(as++das).map Sl.fr)=some (.rt (.fr .non),.pv (.obj c2 fs)::ρr))(ρ:List Sl):fZ cn f das (as.map Rr.fr) ρ=some (.ok (.nw (.obj c2 fs)),ρ):=by
 unfold fZ
 rw[<- Mw,fB]
 simp only[jf,h]
 rw[fS _ _ _ _ (by rw[bu,LY])]
theorem Dt{b:Nat}(h:dg b z)(b0:60<=b)(b1:b<=4000)(e:z.f=[])(ρ:List Sl):fZ "Size" aX [.non] [.fr (.str z.n),.fr (nm z.l),.fr (nm z.m)] ρ=some (.ok (.nw (.obj "Size" (szF z))),ρ):=by
 obtain⟨x5,hi⟩:=qr h b0 b1 (sh:=.non) (.inl ⟨rfl,e⟩)
 exact BA (as:=[.str z.n,nm z.l,nm z.m]) hi ρ
theorem xF{b:Nat}(h:dg b z)(b0:60<=b)(b1:b<=4000)(ρ:List Sl):fZ "Size" aX [] [.fr (.str z.n),.fr (nm z.l),.fr (nm z.m),.fr (.tup (z.f.map sfA))] ρ=some (.ok (.nw (.obj "Size" (szF z))),ρ):=by
 obtain⟨x5,hi⟩:=qr h b0 b1 (sh:=.tup (z.f.map sfA)) (.inr (.inr rfl))
 exact BA (as:=[.str z.n,nm z.l,nm z.m,.tup (z.f.map sfA)]) hi ρ
theorem sW(L:List Sf):eqA (.tup (L.map sfA)) (.tup [])=some (decide (L=[])):=by
 unfold eqA
 simp only[toD,rQ,gh]
 rw[if_pos ?_]
 ·cases L with
  | nil=>simp[D.gZ]
  | cons f L=>simp[D.eq,D.eqs]
 ·have:=l8 L
  simp[D.cG,D.depth]
  omega
theorem E2{b:Nat}(h:dg b z)(b0:60<=b)(b1:b<=4000)(ρ:List Sl):fZ "Size" aX [] [.fr (.str z.n),.fr (nm z.l),.fr (nm z.m),.fr (.lst (z.f.map sfA))] ρ=some (.ok (.nw (.obj "Size" (szF z))),ρ):=by
 obtain⟨x5,hi⟩:=qr h b0 b1 (sh:=.lst (z.f.map sfA)) (.inr (.inl rfl))
 exact BA (as:=[.str z.n,nm z.l,nm z.m,.lst (z.f.map sfA)]) hi ρ
variable{l:Num}
theorem HK{m:Num}{b:Nat}(h:dg b ⟨z.n,l,m,z.f⟩)(b0:60<=b)(b1:b<=4000):hJ aQ [szO z,nm l,nm m] (.obj "Size" (szF ⟨z.n,l,m,z.f⟩)):=by
 have k:=xF h b0 b1
 have a1:=i5 z
 have a4:=dR z
 simp only at k
 unfold hJ aQ bJ
 generalize szF ⟨z.n,l,m,z.f⟩=F at *
 simp only[L5,Mh]
 generalize szO z=o at *
 walk_at "evh"
 exact⟨_,rfl⟩
theorem oY{b:Nat}(h:dg b z)(b0:60<=b)(b1:b<=4000):hJ bR [szO z] (.obj "Size" (szF z)):=by
 have k:=eE (HK (z:=z) (l:=z.l) (m:=z.m) h b0 b1)
 have a2:=uj z
 have a3:=wV z
 simp only[L5,Mh] at k
 have e:(⟨z.n,z.l,z.m,z.f⟩:Sz)=z:=rfl
 rw[e] at k
 unfold hJ bR fg
 generalize szF z=F at *
 simp only[L5,Mh]
 generalize szO z=o at *
 walk_at "evh"
 exact⟨_,rfl⟩
noncomputable def stF(zs:List Sz):List (Str×A):=[("kept",.lst (zs.map szO))]
noncomputable def stO(zs:List Sz):A:=.obj "Stock" (stF zs)
structure fc (b:Nat) (zs:List Sz):Prop where
 sz:∀z∈zs,dg b z
 ln:(zs.flatMap szN).length<=60
theorem gQ:∀zs:List Sz,zs.length<=(zs.flatMap szN).length
 | []=>by simp
 | z::zs=>by
  have:=gQ zs
  have hl:(szN z).length=z.f.length+1:=by unfold szN;simp
  rw[NJ,Ma,LX,hl]
  omega
variable{zs:List Sz}
theorem fc.len{b:Nat}(h:fc b zs):zs.length<=60:=Mr (gQ zs) h.ln
theorem fc.ns{b:Nat}{zs:List Sz}(h:fc b zs):∀x∈zs.flatMap szN,hV x:=λx hx=>by
 obtain⟨z,hz,hx⟩:=OJ.mp hx
 exact(h.sz z hz).ns x hx
theorem iY(zs:List Sz):aW ["Stock"] "kept" (stO zs)=some (.fr (.lst (zs.map szO))):=by
 unfold aW stO stF
 simp only
 rw[if_pos (by decide +kernel)]
 rfl
noncomputable abbrev snB:Ms:=aP (fj 1 (eS 1 (ai aK [] (aa (bc "Size" "names" (aw 2)) ag))))
theorem rM{b:Nat}(h:fc b zs)(s0:Sl):∃x2,forL (aM 2) snB (zs.map szO) [s0,.lv (.lst []),.un]=some (.nx,[s0,.lv (.lst ((zs.flatMap szN).map A.str)),x2]):=by
 obtain⟨ρ1,hf,x2,rfl,_⟩:=kO (G:=aM 2) (b:=snB) (as:=zs.map szO)
  (λi ρ=>∃x2:Sl,ρ=[s0,.lv (.lst (((zs.take i).flatMap szN).map A.str)),x2]/\∀o,x2≠Sl.pv o) (ρ:=[s0,.lv (.lst []),.un]) ⟨.un,rfl,λo z=>by cases z⟩ (by
   rintro i a ρ ha ⟨x2,rfl,hx⟩
   rw[MA] at ha
   cases ez:zs[i]? with
   | none=>rw[ez] at ha;cases ha
   | some z =>
    rw[ez] at ha
    cases ha
    have hz:=(h.sz z (MT ez)).ln
    have k:=eE (uc hz)
    have r1:∀ρ,u6 "Size" "names" (.fr (szO z)) ρ=some (.ok (.fr (szO z)),ρ):=λρ=>rfl
    have e:((zs.take (i+1)).flatMap szN).map A.str=((zs.take i).flatMap szN).map A.str++(szN z).map A.str:=by rw[OD,ez];simp
    have hle:((((zs.take i).flatMap szN).map A.str).length+((szN z).map A.str).length<=100000)=True:=by
     simp only[eq_iff_iff,iff_true]
     have q:=congrArg (λl=>(l.flatMap szN).length) (MQ (i+1) zs)
     have q2:=congrArg Rv e
     simp only[M7,Ma,LY] at q q2 ⊢
     have:=h.ln
     omega
    refine⟨_,[s0,.lv (.lst (((zs.take (i+1)).flatMap szN).map A.str)),.fr (szO z)],km (ρ0:=[s0,.lv (.lst (((zs.take i).flatMap szN).map A.str))]) rfl hx,.inl ?_,.fr (szO z),rfl,λo z=>by cases z⟩
    rw[e]
    simp only[L5,Mh] at k
    unfold snB
    show aP _ [s0,.lv (.lst (((zs.take i).flatMap szN).map A.str)),.fr (szO z)]=_
    generalize ((zs.take i).flatMap szN).map A.str=X at *
    generalize (szN z).map A.str=Y at *
    generalize szO z=o at *
    walk_at "evh")
 rw[LY,OI] at hf
 exact⟨x2,hf⟩
theorem yM{b:Nat}(h:fc b zs):hJ aI [stO zs] (.lst ((zs.flatMap szN).map A.str)):=by
 obtain⟨x2,k⟩:=rM h (.fr (stO zs))
 have a1:=iY zs
 unfold snB at k
 unfold hJ aI dt
 simp only[L5,Mh]
 have z0:(0<=1000)=True:=by simp
 generalize (zs.flatMap szN).map A.str=Y at *
 generalize zs.map szO=X at *
 generalize stO zs=o at *
 walk_at "evh"
 exact⟨_,rfl⟩
theorem qQ{b:Nat}(h:fc b zs):∃ρ,aI [.pv (.obj "Stock" (stF zs))]=some (.rt (.lv (.lst ((zs.flatMap szN).map A.str))),.pv (.obj "Stock" (stF zs))::ρ):=by
 obtain⟨x2,k⟩:=rM h (.pv (.obj "Stock" (stF zs)))
 have a1:=iY zs
 unfold snB at k
 unfold stO at a1
 unfold aI dt
 have z0:(0<=1000)=True:=by simp
 generalize (zs.flatMap szN).map A.str=Y at *
 generalize zs.map szO=X at *
 generalize stF zs=o at *
 walk_at "evh"
 exact⟨_,rfl⟩
noncomputable abbrev cpE:Mi Rr:=ai bR [] (aa (aw 2) ag)
theorem K3{b:Nat}(h:dg b z)(b0:60<=b)(b1:b<=4000)(a0 a1:Sl):cpE [a0,a1,.fr (szO z)]=some (.ok (.nw (.obj "Size" (szF z))),[a0,a1,.fr (szO z)]):=by
 have k:=eE (oY h b0 b1)
 simp only[L5,Mh] at k
 generalize szF z=F at *
 generalize szO z=o at *
 unfold cpE
 walk_at "evh"
theorem HW{b:Nat}(h:fc b zs)(b0:60<=b)(b1:b<=4000)(a0 a1:Sl):fu 1 (aM 2) bj cpE (zs.map szO) [a0,a1]=some (.ok (.nw (.lst (zs.map szO))),[a0,a1]):=by
 have k:=comp_map (i:=2) (e:=cpE) (as:=zs.map szO) (ρ0:=[a0,a1]) id rfl (by rw[LY];have:=h.len;omega) (by
  intro a ha
  obtain⟨z,hz,rfl⟩:=Mx.mp ha
  exact⟨.nw (.obj "Size" (szF z)),K3 (h.sz z hz) b0 b1 a0 a1,rfl⟩)
 rw[k,Qp]
theorem zU(m:Mi Rr)(a1:Sl)(h:m [.pv (.obj "Stock" []),a1]=some (.ok (.nw (.lst (zs.map szO))),[.pv (.obj "Stock" []),a1])):eJ ["Stock"] 0 "kept" m [.pv (.obj "Stock" []),a1]=some (.nx,[.pv (.obj "Stock" (stF zs)),a1]):=by
 rw[qa,h]
 rfl
noncomputable def stB(zs:List Sz):Bool:=okN [] (zs.flatMap szN)
theorem Aj{b:Nat}(h:fc b zs)(a1:Sl):aP (ai bC [] (aa (mFz (g9 (ai aI [] (aa (bc "Stock" "names" (af 0)) ag)) (ai aK [] (aa (bc "Size" "names" (af 0)) ag)))) ag)) [.pv (.obj "Stock" (stF zs)),a1]=some (if stB zs then .nx else .ex "NoSize",[.pv (.obj "Stock" (stF zs)),a1]):=by
 obtain⟨ρn,kn⟩:=qQ h
 exact qY (kI (λz hz=>Mr (h.ns z hz).hi (by decide)) (by have:=h.ln;omega)) (aq (iO (qZ (au rfl (cm0 kn rfl _))) rfl) rfl)
theorem FR{b:Nat}(h:fc b zs)(a1:Sl)(k:cc 1 (cX (af 1)) (aM 2) bj cpE [.pv (.obj "Stock" []),a1]=some (.ok (.nw (.lst (zs.map szO))),[.pv (.obj "Stock" []),a1])):a9 [.pv (.obj "Stock" []),a1]=some (if stB zs then .rt (.fr .non) else .ex "NoSize",[.pv (.obj "Stock" (stF zs)),a1]):=by
 have s:=zU _ a1 k
 unfold a9 fO
 unfold cpE at s
 rw[iH,NT,MB,dw,s]
 show (match aP _ _ with|some (.nx,ρ')=>_|some (.rt s,ρ')=>_|some (.ex x,ρ')=>_|_=>none)=_
 rw[Aj h]
 cases stB zs<;>rfl
theorem sG{b:Nat}{y:A}(h:fc b zs)(b0:60<=b)(b1:b<=4000)(hy:y=.lst (zs.map szO)\/y=.tup (zs.map szO)):a9 [.pv (.obj "Stock" []),.fr y]=some (if stB zs then .rt (.fr .non) else .ex "NoSize",[.pv (.obj "Stock" (stF zs)),.fr y]):=by
 refine FR h _ ?_
 have hs:cX (af 1) [.pv (.obj "Stock" []),.fr y]=some (.ok (zs.map szO),[.pv (.obj "Stock" []),.fr y]):=by
  rcases hy with rfl|rfl<;>rfl
 rw[ir,hs]
 exact HW h b0 b1 _ _
theorem CL{b:Nat}{y:A}(h:fc b zs)(g:stB zs=true)(b0:60<=b)(b1:b<=4000)(hy:y=.lst (zs.map szO)\/y=.tup (zs.map szO))(ρ:List Sl):fZ "Stock" a9 [] [.fr y] ρ=some (.ok (.nw (.obj "Stock" (stF zs))),ρ):=by
 have k:=sG h b0 b1 hy
 rw[g,if_pos rfl] at k
 exact BA (as:=[y]) k ρ
noncomputable abbrev G4(i j k l:Nat):Mg:=gR 4 (aU (aM i) (aU (aM j) (aU (aM k) (aU (aM l) hZ))))
noncomputable abbrev G3(i j k:Nat):Mg:=gR 3 (aU (aM i) (aU (aM j) (aU (aM k) hZ)))
variable{c x3 x4 x5 x6:Sl}
theorem Ck{a b y:Sl}(z:Sz)(h3:np x3=true)(h4:np x4=true)(h5:np x5=true)(h6:np x6=true):G4 3 4 5 6 (szT z) [a,b,c,x3,x4,x5,x6,y]=some [a,b,c,.fr (.str z.n),.fr (nm z.l),.fr (nm z.m),.fr (.tup (z.f.map sfA)),y]:=by
 cases x3<;>first|(cases h3;done)|(cases x4<;>first|(cases h4;done)|(cases x5<;>first|(cases h5;done)|(cases x6<;>first|(cases h6;done)|rfl)))
noncomputable abbrev mS(o:LO)(zs:List Sz)(ys:List A)(z:Sz)(x7:Sl):List Sl:=[.pv o,.fr (.lst (zs.map szT)),.lv (.lst ys),.fr (.str z.n),.fr (nm z.l),.fr (nm z.m),.fr (.tup (z.f.map sfA)),x7]
theorem CC{ys:List A}:jL (ao (mOp fEq (af 6) (aF ag))) (ao (mOp fEq (af 7) (mC (.int 1)))) (mS o zs ys z (.fr (.int r)))=some (.ok (decide (z.f=[])&&decide (r=1)),mS o zs ys z (.fr (.int r))):=by
 have e:ao (mOp fEq (af 6) (aF ag)) (mS o zs ys z (.fr (.int r)))=some (.ok (decide (z.f=[])),mS o zs ys z (.fr (.int r))):=bh (aG rfl rfl (by simp only[opK,res,fEq,sW]))
 cases h:decide (z.f=[]) with
 | false=>rw[h] at e;exact mQ e
 | true=>rw[h] at e;exact jO e (bh (aG rfl rfl (ji _ _ _)))
theorem yN{n:Int}{b:Nat}(w:Wl n o)(hn:n<2^38)(h:fc b zs)(b0:60<=b)(b1:b<=4000):∃o',bM cJ o [.lst (zs.map szT)] (.lv (.lst (zs.map szO))) o'/\Wl (n+60) o':=by
 have hln:=h.len
 suffices ∃s o',bM cJ o [.lst (zs.map szT)] s o'/\(s=.lv (.lst (zs.map szO))/\Wl (n+60) o') by
  obtain⟨s,o',k,rfl,w'⟩:=this
  exact⟨o',k,w'⟩
 refine bM.of (Wp.df (Wp.st (ρ1:=[.pv o,.fr (.lst (zs.map szT)),.lv (.lst []),.un,.un,.un,.un,.un]) rfl ?_))
 refine Wp.sq (Wp.fr (as:=zs.map szT) (λi ρ=>∃(o':LO) (x3 x4 x5 x6 x7:Sl),ρ=[.pv o',.fr (.lst (zs.map szT)),.lv (.lst ((zs.take i).map szO)),x3,x4,x5,x6,x7]/\Wl (n+i) o'/\np x3=true/\np x4=true/\np x5=true/\np x6=true/\np x7=true) rfl ⟨o,.un,.un,.un,.un,.un,rfl,w.mono (by omega),rfl,rfl,rfl,rfl,rfl⟩ ?_ ?_)
 ·rintro i a ρ ha ⟨o',x3,x4,x5,x6,x7,rfl,wz,h3,h4,h5,h6,h7⟩
  rw[MA] at ha
  cases ez:zs[i]? with
  | none=>rw[ez] at ha;cases ha
  | some z =>
   rw[ez] at ha
   cases ha
   have hz:=h.sz z (MT ez)
   have hi:=(Mb.mp ez).1
   obtain⟨r,o2,c2,a2,b2,w2⟩:=tk 2 wz (by omega) (by decide) (by decide)
   have e:(zs.take (i+1)).map szO=(zs.take i).map szO++[szO z]:=by rw[OD,ez];simp
   have l1:((zs.take i).map szO).length<=100000:=by rw[LY,Mv];omega
   refine⟨_,Ck z h3 h4 h5 h6,Wp.st (ρ1:=mS o2 zs ((zs.take i).map szO) z (.fr (.int r))) (gO (au rfl (c2 _)) rfl rfl h7 rfl) ?_⟩
   refine Wp.en (f:=.nx) (ρ1:=mS o2 zs ((zs.take (i+1)).map szO) z (.fr (.int r))) ?_ ⟨.inl rfl,o2,_,_,_,_,_,rfl,w2.mono (by omega),rfl,rfl,rfl,rfl,rfl⟩
   unfold mS
   rw[e]
   by_cases hf:z.f=[]/\r=1
   ·exact eD (CC.trans (by rw[decide_eq_true hf.1,decide_eq_true hf.2];rfl)) (kg rfl (iK rfl (Dt hz b0 b1 hf.1 _)) rfl rfl l1 rfl)
   ·have ht:(decide (z.f=[])&&decide (r=1))=false:=by rw[OA];simpa using hf
    refine cN (CC.trans (by rw[ht])) ?_
    rcases(show r=0\/r=1 by omega) with rfl|rfl
    ·exact kg rfl (iK rfl (xF hz b0 b1 _)) rfl rfl l1 rfl
    ·exact kg rfl (iK rfl (E2 hz b0 b1 _)) rfl rfl l1 rfl
 ·rintro ρ' ⟨o',x3,x4,x5,x6,x7,rfl,wz,_⟩
  rw[LY] at wz ⊢
  rw[OI]
  exact⟨rfl,Wp.en (f:=.rt (.lv (.lst (zs.map szO)))) rfl ⟨_,o',_,rfl,rfl,rfl,wz.mono (by omega)⟩⟩
theorem no_space:gf ⟨#[32]⟩ bG=false:=by decide +kernel
theorem tZ(z:Str):nmB (z ++ " ")=false:=by
 unfold nmB
 have e:(z++(" " : Str)).cps.toList=z.cps.toList++[32]:=mv z " "
 rw[e,QW]
 simp[no_space]
noncomputable def qv(z:Str):List Str:=["",Nu "a" 31, "A", "a b", "a-b",z ++ " ", "a_b",Nu "b" 300, "(a)"]
theorem xJ{z:Str}(hz:z.length<=30):∀y∈qv z,nmB y=false/\y.length<=1000:=by
 have h1:∀y∈(["",Nu "a" 31, "A", "a b", "a-b", "a_b",Nu "b" 300, "(a)"]:List Str),nmB y=false/\y.length<=1000:=by decide +kernel
 intro y hy
 by_cases e:y=z ++ " "
 ·rw[e]
  refine⟨tZ z,?_⟩
  rw[sM]
  have:(" " : Str).length=1:=rfl
  omega
 ·refine h1 y ?_
  unfold qv at hy
  simp only[Ml,QP,or_false] at hy ⊢
  rcases hy with h|h|h|h|h|h|h|h|h
  all_goals first|exact absurd h e|simp only[h,true_or,or_true]
theorem lM{n:Int}{z:Str}(w:Wl n o)(hn:n<2^38)(hz:z.length<=30):∃y o',bM bP o [.str z] (.fr (.str y)) o'/\nmB y=false/\y.length<=1000/\Wl (n+1) o':=by
 obtain⟨r,o1,c1,a1,b1,w1⟩:=tk 9 w (by omega) (by decide) (by decide)
 obtain⟨y,hy,ey⟩:=jo (ss:=qv z) (r:=r) a1 b1
 have hb:=xJ hz y hy
 suffices ∃s o',bM bP o [.str z] s o'/\(s=.fr (.str y)/\Wl (n+1) o') by
  obtain⟨s,o',k,rfl,w'⟩:=this
  exact⟨y,o',k,hb.1,hb.2,w'⟩
 refine bM.of (Wp.df ?_)
 have l1:z.length+(" " : Str).length<=100000:=by have:(" " : Str).length=1:=rfl;omega
 have hs:mOp aJ (af 1) (mC (.str " ")) [.pv o,.fr (.str z),.un]=some (.ok (.fr (.str (z ++ " "))),[.pv o,.fr (.str z),.un]):=by
  have l2:=eq_true l1
  walk_at "evh"
 refine Wp.st (ρ1:=[.pv o,.fr (.str z),.lv (.lst ((qv z).map A.str))]) ?_ ?_
 ·refine aO (r:=.nw (.lst ((qv z).map A.str))) (ρ1:=[.pv o,.fr (.str z),.un]) (cx (rs:=(qv z).map λy=>.fr (.str y)) ?_ rfl) rfl
  refine aq rfl (aq rfl (aq rfl (aq rfl (aq rfl (aq hs (aq rfl (aq rfl (aq rfl rfl))))))))
 ·exact Wp.en (f:=.rt (.fr (.str y))) (ρ1:=[.pv o1,.fr (.str z),.lv (.lst ((qv z).map A.str))]) (bT (aG rfl (au rfl (c1 _)) (cZ (.inl rfl) ey)) rfl) ⟨_,_,_,rfl,rfl,rfl,w1⟩
noncomputable def Sz.ins(z:Sz)(k:Nat)(f:Sf):Sz:=⟨z.n,z.l,z.m,z.f.take k++[f]++z.f.drop k⟩
theorem dP(h:szB z=true):nlt z.m z.l=false/\(∀f∈z.f,sfB f=true)/\(∀s∈szN z,nmB s=true)/\(szN z).Nodup:=by
 unfold szB at h
 rw[LV,LV,Mq,MK] at h
 obtain⟨h3,_,h4⟩:=nF h.2.2
 exact⟨h.1,h.2.1,h3,h4⟩
theorem ix(h:¬ szB z=true):szB z=false:=by cases e:szB z with|false=>rfl|true=>exact absurd e h
theorem wM(z:Sz)(k:Nat)(f:Sf):f∈(z.ins k f).f:=Mm _ (LW _ (Mj.mpr rfl))
theorem Ih(z:Sz)(k:Nat)(f:Sf):f.s∈szN (z.ins k f):=L6 _ (Mx.mpr ⟨f,wM z k f,rfl⟩)
variable{k:Nat}
theorem Im{b:Nat}{f:Sf}(h:SzT b z)(hf:NB b f.r)(hs:f.s.length<=1000)(hl:z.f.length<=49):SzT b (z.ins k f):=by
 have m:∀g∈(z.ins k f).f,g∈z.f\/g=f:=by
  intro g hg
  rcases Me.mp hg with hg|hg
  ·rcases Me.mp hg with hg|hg
   ·exact .inl (NM hg)
   ·exact .inr (Mj.mp hg)
  ·exact .inl (O0 hg)
 refine⟨h.lb,h.mb,λg hg=>?_,λs hs'=>?_,?_⟩
 ·rcases m g hg with hg|rfl
  ·exact h.fs g hg
  ·exact hf
 ·rcases Ml.mp hs' with rfl|hs'
  ·exact h.ns _ L8
  ·obtain⟨g,hg,rfl⟩:=Mx.mp hs'
   rcases m g hg with hg|rfl
   ·exact h.ns _ (L6 _ (Mx.mpr ⟨g,hg,rfl⟩))
   ·exact hs
 ·show (z.f.take k++[f]++z.f.drop k).length<=50
  rw[Ma,Ma,Mv,Ni,MW]
  omega
theorem sR{f:Sf}(h:sfB f=false):szB (z.ins k f)=false:=ix λe=>by
 have:=(dP e).2.1 f (wM z k f)
 rw[h] at this
 cases this
theorem vQ{f:Sf}(h:nmB f.s=false):szB (z.ins k f)=false:=ix λe=>by
 have:=(dP e).2.2.1 f.s (Ih z k f)
 rw[h] at this
 cases this
theorem AO{f:Sf}(h:f.s=z.n):szB (z.ins k f)=false:=ix λe=>by
 have:=(dP e).2.2.2
 refine(MI.mp this).1 ?_
 show z.n∈_
 rw[<- h]
 exact Mx.mpr ⟨f,wM z k f,rfl⟩
theorem t6{f:Sf}(h:∃g∈z.f,g.s=f.s):szB (z.ins k f)=false:=ix λe=>by
 obtain⟨g,hg,es⟩:=h
 have nd:=(MI.mp (dP e).2.2.2).2
 have nd:((z.f.take k++[f]++z.f.drop k).map Sf.s).Nodup:=nd
 rw[L7,Mw] at nd
 obtain⟨_,n2,n3⟩:=Mp.mp nd
 rw[<- MQ k z.f] at hg
 rcases Me.mp hg with hg|hg
 ·exact n3 g.s (Mx.mpr ⟨g,hg,rfl⟩) f.s (Mx.mpr ⟨f,L8,rfl⟩) es
 ·refine(MI.mp n2).1 ?_
  rw[<- es]
  exact Mx.mpr ⟨g,hg,rfl⟩
theorem sub_lt{h:Num}(hx:Ok x)(hh:Ok h)(p:0<h.1):nlt (j2 x h) x=true:=by
 rw[nj (D9 hx hh) hx,Eg hx hh]
 have:(0:Rat)<nv h:=by
  have:=(CZ (x:=(0,1)) (y:=h) n4.ok hh).mp (by show (0:Int)*h.2<h.1*1;omega)
  have z:nv (0,1)=0:=by unfold nv;exact Rat.zero_divInt _
  rwa[z] at this
 grind
theorem yn{xs:List A}(h:k<=xs.length):jJ xs none (some (k:Int))=xs.take k:=by
 unfold jJ
 rw[HT.pj,HT.tu,Q7 h]
 simp
theorem wY{xs:List A}(h:k<=xs.length):jJ xs (some (k:Int)) none=xs.drop k:=by
 unfold jJ
 rw[HT.pj,HT.tu,Q7 h,Qb]
 rw[Ni]
 exact Md _
theorem IA{xs ys:List A}(h:xs.length+ys.length<=100000)(ρ:List Sl):opK aJ (.fr (.tup xs)) (.fr (.tup ys)) ρ=some (.ok (.fr (.tup (xs++ys))),ρ):=by
 simp only[opK,res,fOr,mf,M.opI,lL,M.opS,kJ,if_pos h]
noncomputable abbrev bS(o:LO)(z:Sz)(l:Num)(x6 x7 x8 x9 x10:Sl):List Sl:=[.pv o,.fr (szT z),.fr (.str z.n),.fr (nm l),.fr (nm z.m),.fr (.tup (z.f.map sfA)),x6,x7,x8,x9,x10]
noncomputable abbrev bsR:Ms:=aR (aF (aa (af 2) (aa (af 3) (aa (af 4) (aa (mOp aJ (mOp aJ (mSl (af 5) bK (cM (af 7))) (aF (aa (af 10) ag))) (mSl (af 5) (cM (af 7)) bK)) ag)))))
variable{x8 x9:Sl}
theorem G0{f:Sf}(hl:z.f.length<=50)(hk:k<=z.f.length):bsR (bS o z z.l x6 (.fr (.int k)) x8 x9 (.fr (sfA f)))=some (.rt (.fr (szT (z.ins k f))),bS o z z.l x6 (.fr (.int k)) x8 x9 (.fr (sfA f))):=by
 have hk':k<=(z.f.map sfA).length:=by rw[LY];exact hk
 have e1:=yn hk'
 have e2:=wY hk'
 have l1:((z.f.map sfA).take k).length+[sfA f].length<=100000:=by rw[Mv,LY,MW];omega
 have l2:((z.f.map sfA).take k++[sfA f]).length+((z.f.map sfA).drop k).length<=100000:=by rw[Ma,Mv,Ni,LY,MW];omega
 have a1:mSl (af 5) bK (cM (af 7)) (bS o z z.l x6 (.fr (.int k)) x8 x9 (.fr (sfA f)))=some (.ok (.fr (.tup ((z.f.map sfA).take k))),bS o z z.l x6 (.fr (.int k)) x8 x9 (.fr (sfA f))):=by
  rw[<- e1];rfl
 have a2:mSl (af 5) (cM (af 7)) bK (bS o z z.l x6 (.fr (.int k)) x8 x9 (.fr (sfA f)))=some (.ok (.fr (.tup ((z.f.map sfA).drop k))),bS o z z.l x6 (.fr (.int k)) x8 x9 (.fr (sfA f))):=by
  rw[<- e2];rfl
 have e3:szT (z.ins k f)=.tup [.str z.n,nm z.l,nm z.m,.tup ((z.f.map sfA).take k++[sfA f]++(z.f.map sfA).drop k)]:=by
  unfold szT Sz.ins
  rw[Mw,Mw,Rf,Rg]
  rfl
 rw[e3]
 exact bT (cV (aq rfl (aq rfl (aq rfl (aq (aG (aG a1 rfl (IA l1 _)) a2 (IA l2 _)) rfl)))) rfl) rfl
variable{d:Int}
theorem Co(h:0<d):Ok (1,d):=⟨h,by show MO 1 d=1;exact Int.gcd_one_left ..⟩
theorem Jg(h:0<d):Ok (-1,d):=(Co h).neg
noncomputable abbrev bsL:Ms:=aR (aF (aa (af 2) (aa (af 3) (aa (ai cH [] (aa (aw 3) (aa (aw 8) ag))) (aa (af 5) ag)))))
variable{x7 x10:Sl}
theorem sk{h:Num}(hl:NB 121 l)(hh:NB 121 h):bsL (bS o z l x6 x7 (.fr (nm h)) x9 x10)=some (.rt (.fr (szT ⟨z.n,l,j2 l h,z.f⟩)),bS o z l x6 x7 (.fr (nm h)) x9 x10) :=
 bT (cV (aq rfl (aq rfl (aq (au rfl (aZ (tD hl hh (by decide)) _)) rfl))) rfl) rfl
theorem sZ{b:Nat}(h:0<d)(hb:L2.Bd b d)(b0:1<=b):NB b (1,d):=⟨Co h,L4 (by decide:1<2^1) (MU (by decide) b0),hb⟩
noncomputable abbrev bsB:Ms:=ax (aA 8 (mOp (fOr fIx av) (bF (aa (aF (aa (mC (.int 1)) (aa (mOp (fOr fIx av) (af 3) (mC (.int 1))) ag))) (aa (aF (aa (mC (.int 1)) (aa (mC (.int 1)) ag))) (aa (aF (aa (mOp aJ (mC (.int 1)) (ai ah [] (aa (af 0) (aa (mOp cp (mC (.int 10)) (mC (.int 12))) ag)))) (aa (mC (.int 1)) ag))) ag)))) (ai ah [] (aa (af 0) (aa (mC (.int 3)) ag))))) (ax (sIf (ao (mOp fEq (ai ah [] (aa (af 0) (aa (mC (.int 4)) ag))) (mC (.int 1)))) (ax (aA 3 (aF (aa (mOp fM (ai ah [] (aa (af 0) (aa (mFz (mOp aJ (mOp bL (mC (.int 2)) (mOp cp (mC (.int 10)) (mC (.int 8)))) (mC (.int 1)))) ag))) (mOp cp (mC (.int 10)) (mC (.int 8)))) (aa (mC (.int 1)) ag)))) (aA 8 (aF (aa (mC (.int 1)) (aa (mOp cp (mC (.int 10)) (mC (.int 9))) ag))))) aL) (aR (aF (aa (af 2) (aa (af 3) (aa (ai cH [] (aa (aw 3) (aa (aw 8) ag))) (aa (af 5) ag)))))))
theorem Ey{n:Int}(w:Wl n o)(hn:n<2^37)(hz:dg 121 z):∃l h o' x8,NB 121 l/\NB 121 h/\0<h.1/\Wl (n+4) o'/\bsB (bS o z z.l (.fr (.int 1)) (.fr (.int k)) .un .un .un)=some (.rt (.fr (szT ⟨z.n,l,j2 l h,z.f⟩)),bS o' z l (.fr (.int 1)) (.fr (.int k)) x8 .un .un):=by
 obtain⟨p,o3,c3,a3,b3,w3⟩:=tk 1000000000000 w (by omega) (by decide) (by decide)
 obtain⟨q,o4,c4,a4,b4,w4⟩:=tk 3 w3 (by omega) (by decide) (by decide)
 obtain⟨t,o5,c5,a5,b5,w5⟩:=tk 4 w4 (by omega) (by decide) (by decide)
 obtain⟨h0,e0,n0,p0⟩:∃h0:Num,atI [nm (1,z.l.2),nm (1,1),nm (1+p,1)] q=some (nm h0)/\NB 121 h0/\0<h0.1:=by
  rcases(show q=0\/q=1\/q=2 by omega) with rfl|rfl|rfl
  ·exact⟨_,rfl,sZ hz.lb.ok.1 hz.lb.b2 (by decide),by show (0:Int)<1;decide⟩
  ·exact⟨_,rfl,(kL (by decide)).mono (by decide),by decide⟩
  ·exact⟨_,rfl,(kL (by omega)).mono (by decide),by show 0<1+p;omega⟩
 have s8:aA 8 (mOp (fOr fIx av) (bF (aa (aF (aa (mC (.int 1)) (aa (mOp (fOr fIx av) (af 3) (mC (.int 1))) ag))) (aa (aF (aa (mC (.int 1)) (aa (mC (.int 1)) ag))) (aa (aF (aa (mOp aJ (mC (.int 1)) (ai ah [] (aa (af 0) (aa (mOp cp (mC (.int 10)) (mC (.int 12))) ag)))) (aa (mC (.int 1)) ag))) ag)))) (ai ah [] (aa (af 0) (aa (mC (.int 3)) ag)))) (bS o z z.l (.fr (.int 1)) (.fr (.int k)) .un .un .un)=some (.nx,bS o4 z z.l (.fr (.int 1)) (.fr (.int k)) (.fr (nm h0)) .un .un) :=
  aO (aG (cx (aq rfl (aq rfl (aq (tN (aG rfl (au (aq rfl (aq (pw 12 1000000000000 (by decide) (by decide) _) rfl)) (c3 _)) rfl)) rfl))) rfl) (au rfl (c4 _)) (cZ (.inl rfl) e0)) rfl
 have tt:ao (mOp fEq (ai ah [] (aa (af 0) (aa (mC (.int 4)) ag))) (mC (.int 1))) (bS o4 z z.l (.fr (.int 1)) (.fr (.int k)) (.fr (nm h0)) .un .un)=some (.ok (decide (t=1)),bS o5 z z.l (.fr (.int 1)) (.fr (.int k)) (.fr (nm h0)) .un .un):=bh (aG (au rfl (c5 _)) rfl (ji _ _ _))
 by_cases ht:t=1
 ·rw[decide_eq_true ht] at tt
  obtain⟨u,o6,c6,a6,b6,w6⟩:=tk (2*100000000+1) w5 (by omega) (by decide) (by decide)
  refine⟨(u-100000000,1),(1,1000000000),o6,.fr (nm (1,1000000000)),(kL (by omega)).mono (by decide),sZ (by decide) (by show (1000000000:Int).natAbs<2^121;decide) (by decide),by decide,w6.mono (by omega),?_⟩
  have s3:aA 3 (aF (aa (mOp fM (ai ah [] (aa (af 0) (aa (mFz (mOp aJ (mOp bL (mC (.int 2)) (mOp cp (mC (.int 10)) (mC (.int 8)))) (mC (.int 1)))) ag))) (mOp cp (mC (.int 10)) (mC (.int 8)))) (aa (mC (.int 1)) ag))) (bS o5 z z.l (.fr (.int 1)) (.fr (.int k)) (.fr (nm h0)) .un .un)=some (.nx,bS o6 z (u-100000000,1) (.fr (.int 1)) (.fr (.int k)) (.fr (nm h0)) .un .un) :=
   aO (tN (aG (au (aq rfl (aq (iO (aG (aG rfl (pw 8 100000000 (by decide) (by decide) _) (uR (by decide) (by decide) _)) rfl rfl) rfl) rfl)) (c6 _)) (pw 8 100000000 (by decide) (by decide) _) rfl)) rfl
  have s9:aA 8 (aF (aa (mC (.int 1)) (aa (mOp cp (mC (.int 10)) (mC (.int 9))) ag))) (bS o6 z (u-100000000,1) (.fr (.int 1)) (.fr (.int k)) (.fr (nm h0)) .un .un)=some (.nx,bS o6 z (u-100000000,1) (.fr (.int 1)) (.fr (.int k)) (.fr (nm (1,1000000000))) .un .un) :=
   aO (cV (aq rfl (aq (pw 9 1000000000 (by decide) (by decide) _) rfl)) rfl) rfl
  exact bI s8 <| bI (eD tt (bI s3 s9)) <| sk ((kL (by omega)).mono (by decide)) (sZ (by decide) (by show (1000000000:Int).natAbs<2^121;decide) (by decide))
 ·rw[decide_eq_false ht] at tt
  refine⟨z.l,h0,o5,.fr (nm h0),hz.lb,n0,p0,w5.mono (by omega),?_⟩
  exact bI s8 <| bI (cN tt rfl) <| sk hz.lb n0
structure Odd (z:Sz) (k:Nat) (f:Sf):Prop where
 nb:NB 400 f.r
 ln:f.s.length<=1000
 bad:szB (z.ins k f)=false
noncomputable abbrev oS(o:LO)(z:Sz)(r:Int)(k:Nat)(q:Str)(x10:Sl):List Sl:=bS o z z.l (.fr (.int r)) (.fr (.int k)) .un (.fr (.str q)) x10
variable{q:Str}
theorem mO(c:Int):ao (mOp fEq (af 6) (mC (.int c))) (oS o z r k q x10)=some (.ok (decide (r=c)),oS o z r k q x10):=bh (aG rfl rfl (ji _ _ _))
theorem o9:∃q:Str,q.length<=1000/\(aA 9 (mOp (fOr fIx av) (bF (aa (mOp bL (mC (.str "q")) (mC (.int 7))) (aa (mOp bL (mC (.str "r")) (mC (.int 7))) ag))) (mB1 p8 (mOp fEq (af 2) (mOp bL (mC (.str "q")) (mC (.int 7))))))) (bS o z z.l (.fr (.int r)) (.fr (.int k)) .un .un .un)=some (.nx,oS o z r k q .un):=by
 obtain⟨q,hq,e⟩:∃q:Str,q.length<=1000/\atI [A.str (Nu "q" 7),.str (Nu "r" 7)] (if decide (z.n=Nu "q" 7) then 1 else 0)=some (.str q):=by
  cases decide (z.n=Nu "q" 7)
  ·exact⟨_,by decide +kernel,rfl⟩
  ·exact⟨_,by decide +kernel,rfl⟩
 have ee:∀ρ,opK fEq (.fr (.str z.n)) (.fr (.str (Nu "q" 7))) ρ=some (.ok (.fr (.bl (decide (z.n=Nu "q" 7)))),ρ):=λρ=>by simp only[opK,res,fEq,iJ]
 exact⟨q,hq,aO (aG (cx rfl rfl) (iG (aG rfl rfl (ee _)) rfl) (cZ (.inl rfl) e)) rfl⟩
theorem o10{n:Int}(w:Wl n o)(hn:n<2^38)(hq:q.length<=1000):∃f o',Odd z k f/\Wl (n+1) o'/\(aA 10 (aF (aa (af 9) (aa (aF (aa (mUn vy (mC (.int 1))) (aa (mOp aJ (mC (.int 1)) (ai ah [] (aa (af 0) (aa (mOp cp (mC (.int 10)) (mC (.int 9))) ag)))) ag))) (aa (mOp (fOr fIx av) (bF (aa (mC (.str "fixed")) (aa (mC (.str "big")) ag))) (mOp gk (af 6) (mC (.int 2)))) ag))))) (oS o z r k q .un)=some (.nx,oS o' z r k q (.fr (sfA f))):=by
 obtain⟨p,o3,c3,a3,b3,w3⟩:=tk 1000000000 w (by omega) (by decide) (by decide)
 obtain⟨y,hy,e⟩:=jo (ss:=["fixed", "big"]) (r:=r.fmod 2) (NA _ (by decide)) (by have:=Ox r (show (0:Int)<2 by decide);exact this)
 refine⟨⟨q,(-1,1+p),y⟩,o3,⟨⟨Jg (by omega),by show (-1:Int).natAbs<2^400;decide,by show (1+p).natAbs<2^400;omega⟩,hq,sR ?_⟩,w3,aO (cV (aq rfl (aq (cV (aq rfl (aq (aG rfl (au (aq rfl (aq (pw 9 1000000000 (by decide) (by decide) _) rfl)) (c3 _)) rfl) rfl)) rfl) (aq (aG (cx rfl rfl) rfl (cZ (.inl rfl) e)) rfl))) rfl) rfl⟩
 unfold sfB nlt
 rw[show decide ((-1:Int)*1<0*(1+p))=true from decide_eq_true (by omega)]
 rfl
theorem o3{n:Int}{o:LO}{z:Sz}{r:Int}{k:Nat}{q:Str}{f0:Sf}(w:Wl n o)(hn:n<2^38)(hq:q.length<=1000)(hf:Odd z k f0):∃f o',Odd z k f/\Wl (n+1) o'/\(sIf (ao (mOp fEq (af 6) (mC (.int 3)))) (aA 10 (aF (aa (af 9) (aa (aF (aa (mC (.int 0)) (aa (mC (.int 1)) ag))) (aa (mOp (fOr fIx av) (bF (aa (mC (.str "")) (aa (mC (.str "Fixed")) (aa (mC (.str "fix")) (aa (mC (.str "bigger")) (aa (mC (.str "least")) (aa (mC (.str "small ")) ag))))))) (ai ah [] (aa (af 0) (aa (mC (.int 6)) ag)))) ag))))) aL) (oS o z r k q (.fr (sfA f0)))=some (.nx,oS o' z r k q (.fr (sfA f))):=by
 by_cases h:r=3
 ·obtain⟨p,o3,c3,a3,b3,w3⟩:=tk 6 w (by omega) (by decide) (by decide)
  obtain⟨y,hy,e⟩:=jo (ss:=["", "Fixed", "fix", "bigger", "least", "small "]) (r:=p) a3 b3
  have by':∀y∈(["", "Fixed", "fix", "bigger", "least", "small "]:List Str),ub y=false:=by decide +kernel
  refine⟨⟨q,(0,1),y⟩,o3,⟨n4.mono (by decide),hq,sR ?_⟩,w3,eD (by rw[mO,decide_eq_true h]) (aO (cV (aq rfl (aq rfl (aq (aG (cx rfl rfl) (au rfl (c3 _)) (cZ (.inl rfl) e)) rfl))) rfl) rfl)⟩
  unfold sfB
  rw[by' y hy,N5]
 ·exact⟨_,o,hf,w.mono (by omega),cN (by rw[mO,decide_eq_false h]) rfl⟩
variable{f0:Sf}
theorem o4{n:Int}(w:Wl n o)(hn:n<2^38)(hz:z.n.length<=30)(hf:Odd z k f0):∃f o',Odd z k f/\Wl (n+1) o'/\(sIf (ao (mOp fEq (af 6) (mC (.int 4)))) (aA 10 (aF (aa (ai bP [] (aa (af 0) (aa (aw 2) ag))) (aa (aF (aa (mC (.int 0)) (aa (mC (.int 1)) ag))) (aa (mC (.str "fixed")) ag))))) aL) (oS o z r k q (.fr (sfA f0)))=some (.nx,oS o' z r k q (.fr (sfA f))):=by
 by_cases h:r=4
 ·obtain⟨y,o3,v3,y1,y2,w3⟩:=lM w (by omega) hz
  have c3:=cw0 v3 rfl
  exact⟨⟨y,(0,1), "fixed"⟩,o3,⟨n4.mono (by decide),y2,vQ y1⟩,w3,eD (by rw[mO,decide_eq_true h]) (aO (cV (aq (au rfl (c3 _)) rfl) rfl) rfl)⟩
 ·exact⟨_,o,hf,w.mono (by omega),cN (by rw[mO,decide_eq_false h]) rfl⟩
theorem AA:NB 64 (1,1):=kL (by decide)
theorem o5(hz:z.n.length<=30)(hf:Odd z k f0):∃f,Odd z k f/\(sIf (ao (mOp fEq (af 6) (mC (.int 5)))) (aA 10 (aF (aa (af 2) (aa (aF (aa (mC (.int 1)) (aa (mC (.int 1)) ag))) (aa (mC (.str "big")) ag))))) aL) (oS o z r k q (.fr (sfA f0)))=some (.nx,oS o z r k q (.fr (sfA f))):=by
 by_cases h:r=5
 ·exact⟨⟨z.n,(1,1), "big"⟩,⟨AA.mono (by decide),Mr hz (by decide),AO rfl⟩,eD (by rw[mO,decide_eq_true h]) (aO (cV (aq rfl (aq rfl (aq rfl rfl))) rfl) rfl)⟩
 ·exact⟨_,hf,cN (by rw[mO,decide_eq_false h]) rfl⟩
theorem o6{n:Int}(w:Wl n o)(hn:n<2^38)(hl:z.f.length<=50)(hs:∀s∈szN z,s.length<=1000)(hf:Odd z k f0):∃f o',Odd z k f/\Wl (n+1) o'/\(sIf (jL (ao (mOp fEq (af 6) (mC (.int 6)))) (ao (mOp fNe (af 5) (aF ag)))) (aA 10 (aF (aa (mOp (fOr fIx av) (mOp (fOr fIx av) (af 5) (ai ah [] (aa (af 0) (aa (mB1 cW (af 5)) ag)))) (mC (.int 0))) (aa (aF (aa (mC (.int 1)) (aa (mC (.int 1)) ag))) (aa (mC (.str "fixed")) ag))))) aL) (oS o z r k q (.fr (sfA f0)))=some (.nx,oS o' z r k q (.fr (sfA f))):=by
 have te:ao (mOp fNe (af 5) (aF ag)) (oS o z r k q (.fr (sfA f0)))=some (.ok (!decide (z.f=[])),oS o z r k q (.fr (sfA f0))):=bh (aG rfl rfl (by simp only[opK,res,fNe,sW]))
 by_cases h:r=6
 ·by_cases h0:z.f=[]
  ·rw[decide_eq_true h0] at te
   exact⟨_,o,hf,w.mono (by omega),cN (jO (by rw[mO,decide_eq_true h]) te) rfl⟩
  ·rw[decide_eq_false h0] at te
   have hp:0<z.f.length:=Oh.mpr h0
   have ll:((z.f.map sfA).length:Int)=(z.f.length:Int):=by rw[LY]
   obtain⟨p,o3,c3,a3,b3,w3⟩:=tk (z.f.map sfA).length w (by omega) (by omega) (by omega)
   obtain⟨j,rfl⟩:∃j:Nat,p=j:=⟨p.toNat,by omega⟩
   have hj:j<z.f.length:=by omega
   have e:atI (z.f.map sfA) (j:Int)=some (sfA z.f[j]):=fJ (by rw[MA,Mo hj];rfl)
   have mg:z.f[j]∈z.f:=NQ hj
   exact⟨⟨z.f[j].s,(1,1), "fixed"⟩,o3,⟨AA.mono (by decide),hs _ (L6 _ (Mx.mpr ⟨_,mg,rfl⟩)),t6 ⟨_,mg,rfl⟩⟩,w3,eD (jO (by rw[mO,decide_eq_true h]) te) (aO (cV (aq (aG (aG rfl (au rfl (c3 _)) (cZ (.inr rfl) e)) rfl (cZ (.inr rfl) rfl)) rfl) rfl) rfl)⟩
 ·exact⟨_,o,hf,w.mono (by omega),cN (mQ (by rw[mO,decide_eq_false h])) rfl⟩
theorem IL(c:Int)(h:r≠c):ao (mOp fEq (af 6) (mC (.int c))) (bS o z z.l (.fr (.int r)) x7 x8 x9 x10)=some (.ok false,bS o z z.l (.fr (.int r)) x7 x8 x9 x10):=by rw[<- decide_eq_false h];exact bh (aG rfl rfl (ji _ _ _))
theorem uA{n:Int}(w:Wl n o)(hn:n<2^36)(hz:dg 121 z)(hl:z.f.length<=49):∃z' o',bM cF o [szT z] (.fr (szT z')) o'/\SzT 400 z'/\szB z'=false/\Wl (n+10) o':=by
 have hnm:=hz.ns z.n L8
 have zt:SzT 400 z:=⟨hz.lb.mono (by decide),hz.mb.mono (by decide),λf hf=>(hz.fs f hf).nb.mono (by decide),λs hs=>Mr (hz.ns s hs).hi (by decide),hz.ln⟩
 obtain⟨r,o1,c1,a1,b1,w1⟩:=tk 7 w (by omega) (by decide) (by decide)
 have ll:((z.f.map sfA).length:Int)=(z.f.length:Int):=by rw[LY]
 obtain⟨k,o2,c2,a2,b2,w2⟩:=tk ((z.f.map sfA).length+1) w1 (by omega) (by omega) (by omega)
 obtain⟨k,rfl⟩:∃j:Nat,k=j:=⟨k.toNat,by omega⟩
 have hk:k<=z.f.length:=by omega
 suffices ∃s o',bM cF o [szT z] s o'/\∃z',s=.fr (szT z')/\SzT 400 z'/\szB z'=false/\Wl (n+10) o' by
  obtain⟨s,o',v,z',rfl,h⟩:=this
  exact⟨z',o',v,h⟩
 refine bM.of (Wp.df ?_)
 refine Wp.st (ρ1:=bS o z z.l .un .un .un .un .un) rfl ?_
 refine Wp.st (ρ1:=bS o1 z z.l (.fr (.int r)) .un .un .un .un) (aO (au rfl (c1 _)) rfl) ?_
 refine Wp.st (ρ1:=bS o2 z z.l (.fr (.int r)) (.fr (.int k)) .un .un .un) (aO (au rfl (c2 _)) rfl) ?_
 have r07:r=0\/r=1\/2<=r:=by omega
 rcases r07 with rfl|rfl|hr2
 ·obtain⟨y,o3,v3,y1,y2,w3⟩:=lM w2 (by omega) hnm.hi
  have c3:=cw0 v3 rfl
  refine Wp.sr (s:=.fr (szT ⟨y,z.l,z.m,z.f⟩)) (ρ1:=bS o3 z z.l (.fr (.int 0)) (.fr (.int k)) .un .un .un) (eD rfl (bT (cV (aq (au rfl (c3 _)) rfl) rfl) rfl)) ⟨_,_,_,rfl,rfl,_,rfl,⟨zt.lb,zt.mb,zt.fs,λs hs=>?_,zt.ln⟩,ix λe=>?_,w3.mono (by omega)⟩
  ·rcases Ml.mp hs with rfl|hs
   ·exact y2
   ·exact zt.ns _ (L6 _ hs)
  ·have:=(dP e).2.2.1 y L8
   rw[y1] at this
   cases this
 ·refine Wp.st (ρ1:=bS o2 z z.l (.fr (.int 1)) (.fr (.int k)) .un .un .un) rfl ?_
  obtain⟨l,h,o',x8,nl,nh,p,w',e⟩:=Ey (k:=k) w2 (by omega) hz
  refine Wp.sr (eD rfl e) ⟨_,_,_,rfl,rfl,_,rfl,⟨nl.mono (by decide),(nl.sub nh).mono (by decide),zt.fs,zt.ns,zt.ln⟩,ix λe=>?_,w'.mono (by omega)⟩
  have:=(dP e).1
  rw[sub_lt nl.ok nh.ok p] at this
  cases this
 ·obtain⟨q,hq,e9⟩:=o9 (o:=o2) (z:=z) (r:=r) (k:=k)
  obtain⟨f0,o3,h0,w3,e10⟩:=o10 (r:=r) (z:=z) (k:=k) w2 (by omega) hq
  obtain⟨f1,o4,h1,w4,e3⟩:=W.o3 (r:=r) w3 (by omega) hq h0
  obtain⟨f2,o5,h2,w5,e4⟩:=W.o4 (r:=r) (q:=q) w4 (by omega) hnm.hi h1
  obtain⟨f3,h3,e5⟩:=W.o5 (o:=o5) (r:=r) (q:=q) hnm.hi h2
  obtain⟨f4,o6,h4,w6,e6⟩:=W.o6 (r:=r) (q:=q) w5 (by omega) hz.ln zt.ns h3
  refine Wp.st (cN (IL 0 (by omega)) rfl) <| Wp.st (cN (IL 1 (by omega)) rfl) <| Wp.st e9 <| Wp.st e10 <| Wp.st e3 <| Wp.st e4 <| Wp.st e5 <| Wp.st e6 <| Wp.en (G0 hz.ln hk) ⟨_,_,_,rfl,rfl,_,rfl,Im zt h4.nb h4.ln hl,h4.bad,w6.mono (by omega)⟩
theorem names3{fs:List Sf}(h:fs.length<=50)(a b c d e f g i:Sl):fu 3 (G3 8 9 10) bj (af 8) (fs.map sfA) [a,b,c,d,e,f,g,i]=some (.ok (.nw (.lst ((fs.map Sf.s).map A.str))),[a,b,c,d,e,f,g,i]):=by
 obtain⟨ys,ρ',h1,x4,x5,x6,rfl,rfl,_⟩:=lR (G:=G3 8 9 10) (t:=bj) (e:=af 8) (as:=fs.map sfA)
  (λj acc ρ=>∃x4 x5 x6:Sl,ρ=[a,b,c,d,e,f,g,i,x4,x5,x6]/\acc=((fs.take j).map Sf.s).map A.str/\np x4=true/\np x5=true/\np x6=true) (ρ:=[a,b,c,d,e,f,g,i,.un,.un,.un]) ⟨.un,.un,.un,rfl,rfl,rfl,rfl,rfl⟩ (by
   rintro j q acc ρ hq ⟨x4,x5,x6,rfl,rfl,h4,h5,h6⟩
   rw[MA] at hq
   cases ez:fs[j]? with
   | none=>rw[ez] at hq;cases hq
   | some s =>
    rw[ez] at hq
    cases hq
    refine⟨[a,b,c,d,e,f,g,i,.fr (.str s.s),.fr (nm s.r),.fr (.str s.w)],?_,.inl ⟨_,_,_,.str s.s,_,rfl,rfl,rfl,.fr (.str s.s),.fr (nm s.r),.fr (.str s.w),rfl,?_,rfl,rfl,rfl⟩⟩
    ·cases x4<;>first|(cases h4;done)|(cases x5<;>first|(cases h5;done)|(cases x6<;>first|(cases h6;done)|rfl))
    ·rw[OD,ez,Mw,Mw];rfl)
 unfold fu
 rw[if_pos (by rw[LY];omega)]
 have e1:[a,b,c,d,e,f,g,i]++Mn 3 Sl.un=[a,b,c,d,e,f,g,i,.un,.un,.un]:=rfl
 rw[e1,h1]
 simp
theorem Em{xs ys:List A}(h:xs.length+ys.length<=100000)(ρ:List Sl):opK aJ (.nw (.lst xs)) (.nw (.lst ys)) ρ=some (.ok (.nw (.lst (xs++ys))),ρ):=by
 simp only[opK,res,LO.a,fOr,mf,M.opI,lL,M.opS,kJ,oR,if_pos h]
noncomputable abbrev rS(o:LO)(zs:List Sz)(x2 x3 x4 x5 x6 x7:Sl):List Sl:=[.pv o,.fr (.lst (zs.map szT)),x2,x3,x4,x5,x6,x7]
theorem zJ{d:Sz}{x:Str}(hz:z∈zs)(h1:x∈szN z)(h2:x∈szN d):stB (zs.take k++[d]++zs.drop k)=false:=by
 cases e:stB (zs.take k++[d]++zs.drop k) with
 | false=>rfl
 | true =>
  exfalso
  have nd:=(nF e).2.2
  rw[L7,M7,M7,OO] at nd
  obtain⟨_,n2,n3⟩:=Mp.mp nd
  rw[<- MQ k zs] at hz
  rcases Me.mp hz with hz|hz
  ·exact n3 x (OJ.mpr ⟨z,hz,h1⟩) x (Mm _ h2) rfl
  ·exact(Mp.mp n2).2.2 x h2 x (OJ.mpr ⟨z,hz,h1⟩) rfl
theorem EX{d:Sz}(h:∀z∈zs,dg 121 z)(hl:(zs.flatMap szN).length<=12)(hd:dg 121 d)(h2:d.f.length<=1):fc 121 (zs.take k++[d]++zs.drop k):=by
 refine⟨λz hz=>?_,?_⟩
 ·rcases Me.mp hz with hz|hz
  ·rcases Me.mp hz with hz|hz
   ·exact h z (NM hz)
   ·rw[Mj.mp hz];exact hd
  ·exact h z (O0 hz)
 ·have e:=congrArg (λl=>(l.flatMap szN).length) (MQ k zs)
  simp only[M7,Ma,OO] at e ⊢
  have:(szN d).length=d.f.length+1:=by unfold szN;simp
  omega
theorem Hx(x:Str):∃q:Str,hV q/\q≠x/\atI [A.str (Nu "q" 7),.str (Nu "r" 7)] (if decide (x=Nu "q" 7) then 1 else 0)=some (.str q):=by
 by_cases h:x=Nu "q" 7
 ·rw[decide_eq_true h]
  exact⟨_,⟨by decide +kernel,by decide +kernel,by decide +kernel⟩,λe=>absurd (e.trans h) (by decide +kernel),rfl⟩
 ·rw[decide_eq_false h]
  exact⟨_,⟨by decide +kernel,by decide +kernel,by decide +kernel⟩,λe=>h e.symm,rfl⟩
theorem K8:nlt (1,1) (0,1)=false:=by decide
theorem Ll:nlt (0,1) (0,1)=false:=by decide
theorem J2{fs:List Sf}{x:Str}(hx:hV x)(hf:∀f∈fs,wg 121 f/\hV f.s)(nd:(x::fs.map Sf.s).Nodup)(hl:fs.length<=1):dg 121 ⟨x,(0,1),(1,1),fs⟩ :=
 ⟨n4.mono (by decide),AA.mono (by decide),K8,λf h=>(hf f h).1,λs hs=>by
  rcases Ml.mp hs with rfl|hs
  ·exact hx
  ·obtain⟨f,h,rfl⟩:=Mx.mp hs
   exact(hf f h).2,nd,by show fs.length<=50;omega⟩
theorem vG{n:Int}(w:Wl n o)(hn:n<2^36)(h:∀z∈zs,dg 121 z)(hl:(zs.flatMap szN).length<=12)(h0:zs≠[]):∃zs' o',bM cP o [.lst (zs.map szT)] (.lv (.lst (zs'.map szT))) o'/\fc 121 zs'/\stB zs'=false/\Wl (n+10) o':=by
 have hzl:=Mr (gQ zs) hl
 have hp:0<zs.length:=Oh.mpr h0
 have ll:((zs.map szT).length:Int)=(zs.length:Int):=by rw[LY]
 obtain⟨i,o1,c1,a1,b1,w1⟩:=tk (zs.map szT).length w (by omega) (by omega) (by omega)
 obtain⟨i,rfl⟩:∃j:Nat,i=j:=⟨i.toNat,by omega⟩
 have hi:i<zs.length:=by omega
 have ei:atI (zs.map szT) (i:Int)=some (szT zs[i]):=fJ (by rw[MA,Mo hi];rfl)
 have mz:zs[i]∈zs:=NQ hi
 generalize zs[i]=z at ei mz
 have hz:=h z mz
 have sl:(szN z).length=z.f.length+1:=by unfold szN;simp
 have lm:(((szN z).map A.str).length:Int)=((szN z).length:Int):=by rw[LY]
 have hzf:=hz.ln
 obtain⟨j,o2,c2,a2,b2,w2⟩:=tk ((szN z).map A.str).length w1 (by omega) (by omega) (by omega)
 obtain⟨x,hx,ex⟩:=jo (ss:=szN z) (r:=j) a2 (by omega)
 obtain⟨q,hq,qx,eq⟩:=Hx x
 have ee:∀ρ,opK fEq (.fr (.str x)) (.fr (.str (Nu "q" 7))) ρ=some (.ok (.fr (.bl (decide (x=Nu "q" 7)))),ρ):=λρ=>by simp only[opK,res,fEq,iJ]
 obtain⟨t,o3,c3,a3,b3,w3⟩:=tk 2 w2 (by omega) (by decide) (by decide)
 obtain⟨d,ed,hd,hdl,hdx⟩:∃d:Sz,atI [szT ⟨x,(0,1),(1,1),[]⟩,szT ⟨q,(0,1),(1,1),[⟨x,(0,1), "fixed"⟩]⟩] t=some (szT d)/\dg 121 d/\d.f.length<=1/\x∈szN d:=by
  have nx:=hz.ns x hx
  rcases(show t=0\/t=1 by omega) with rfl|rfl
  ·exact⟨_,rfl,J2 nx (λf hf=>by cases hf) (by simp) (by decide),by simp,L8⟩
  ·refine⟨_,rfl,J2 hq (λf hf=>?_) (by simpa using qx) (by simp),by simp,L6 _ L8⟩
   rw[Mj.mp hf]
   exact⟨⟨n4.mono (by decide),Ll,.inl rfl⟩,nx⟩
 obtain⟨k,o4,c4,a4,b4,w4⟩:=tk ((zs.map szT).length+1) w3 (by omega) (by omega) (by omega)
 obtain⟨k,rfl⟩:∃j:Nat,k=j:=⟨k.toNat,by omega⟩
 have hk:k<=(zs.map szT).length:=by omega
 refine⟨zs.take k++[d]++zs.drop k,o4,?_,EX h hl hd hdl,zJ mz hx hdx,w4.mono (by omega)⟩
 have e3:(zs.take k++[d]++zs.drop k).map szT=(zs.map szT).take k++[szT d]++(zs.map szT).drop k:=by rw[Mw,Mw,Rf,Rg];rfl
 have s1:jJ (zs.map szT) none (some (k:Int))=_:=yn hk
 have s2:jJ (zs.map szT) (some (k:Int)) none=_:=wY hk
 have l1:((zs.map szT).take k).length+[szT d].length<=100000:=by rw[Mv,LY,MW];omega
 have l2:((zs.map szT).take k++[szT d]).length+((zs.map szT).drop k).length<=100000:=by rw[Ma,Mv,Ni,LY,MW];omega
 have lz:[A.str z.n].length+((z.f.map Sf.s).map A.str).length<=100000:=by rw[LY,LY,MW];omega
 suffices ∃s o',bM cP o [.lst (zs.map szT)] s o'/\(s=.lv (.lst ((zs.take k++[d]++zs.drop k).map szT))/\o'=o4) by
  obtain⟨s,o',v,rfl,rfl⟩:=this
  exact v
 rw[e3]
 refine bM.of (Wp.df ?_)
 refine Wp.st (ρ1:=rS o1 zs (.fr (szT z)) .un .un .un .un .un) (aO (aG rfl (au rfl (c1 _)) (cZ (.inl rfl) ei)) rfl) ?_
 refine Wp.st (ρ1:=rS o1 zs (.fr (szT z)) (.lv (.lst ((szN z).map A.str))) .un .un .un .un) (aO (aG (cx (aq rfl rfl) rfl) ((ir ..).trans (names3 hzf ..)) (Em lz _)) rfl) ?_
 refine Wp.st (ρ1:=rS o2 zs (.fr (szT z)) (.lv (.lst ((szN z).map A.str))) (.fr (.str x)) .un .un .un) (aO (aG rfl (au rfl (c2 _)) (cZ (.inl rfl) ex)) rfl) ?_
 refine Wp.st (ρ1:=rS o2 zs (.fr (szT z)) (.lv (.lst ((szN z).map A.str))) (.fr (.str x)) (.fr (.str q)) .un .un) (aO (aG (cx rfl rfl) (iG (aG rfl rfl (ee _)) rfl) (cZ (.inl rfl) eq)) rfl) ?_
 refine Wp.st (ρ1:=rS o3 zs (.fr (szT z)) (.lv (.lst ((szN z).map A.str))) (.fr (.str x)) (.fr (.str q)) (.fr (szT d)) .un) (aO (aG (cx rfl rfl) (au rfl (c3 _)) (cZ (.inl rfl) ed)) rfl) ?_
 refine Wp.st (ρ1:=rS o4 zs (.fr (szT z)) (.lv (.lst ((szN z).map A.str))) (.fr (.str x)) (.fr (.str q)) (.fr (szT d)) (.fr (.int k))) (aO (au rfl (c4 _)) rfl) ?_
 refine Wp.en (bT (aG (aG (x:=.nw (.lst ((zs.map szT).take k))) (by rw[<- s1];rfl) (cx (aq rfl rfl) rfl) (Em l1 _)) (y:=.nw (.lst ((zs.map szT).drop k))) (by rw[<- s2];rfl) (Em l2 _)) rfl) ⟨_,_,_,rfl,rfl,rfl,rfl⟩
theorem wZ{n:Int}(w:Wl n o)(hn:n<2^37):∃x o',bM eZ o [] (.fr (nm x)) o'/\NB 64 x/\Wl (n+3) o':=by
 obtain⟨r,o1,c1,a1,b1,w1⟩:=tk 8 w (by omega) (by decide) (by decide)
 suffices ∃s o',bM eZ o [] s o'/\∃x,s=.fr (nm x)/\NB 64 x/\Wl (n+3) o' by
  obtain⟨s,o',v,x,rfl,h⟩:=this
  exact⟨x,o',v,h⟩
 refine bM.of (Wp.df ?_)
 refine Wp.st (ρ1:=[.pv o1,.fr (.int r)]) (aO (au rfl (c1 _)) rfl) ?_
 by_cases h7:r=7
 ·obtain⟨u,o2,a2,b2,w2,e2⟩:=tw (k:=17) (v:=100000000000000000) w1 (by omega) (by decide) (by decide) (by decide) (by decide)
  exact Wp.sr (eD (kT true (decide_eq_true h7) rfl) (bT (tN (e2 _)) rfl)) ⟨_,_,_,rfl,rfl,_,rfl,kL (by omega),w2.mono (by omega)⟩
 refine Wp.st (cN (kT false (decide_eq_false h7) rfl) rfl) ?_
 by_cases h6:r=6
 ·obtain⟨u,o2,a2,b2,w2,e2⟩:=tw (k:=8) (v:=100000000) w1 (by omega) (by decide) (by decide) (by decide) (by decide)
  obtain⟨d,o3,c3,a3,b3,w3⟩:=tk 100000000 w2 (by omega) (by decide) (by decide)
  exact Wp.sr (eD (kT true (decide_eq_true h6) rfl) (bT (au (aq (e2 _) (aq (iO (aG rfl (au (aq rfl (aq (pw 8 100000000 (by decide) (by decide) _) rfl)) (c3 _)) rfl) rfl) rfl)) (mX (by omega) (by omega) _)) rfl)) ⟨_,_,_,rfl,rfl,_,rfl,.nrm (by omega) (show (u-100000000).natAbs<2^64 by omega) (show (1+d).natAbs<2^64 by omega),w3.mono (by omega)⟩
 refine Wp.st (cN (kT false (decide_eq_false h6) rfl) rfl) ?_
 by_cases h3:r > 3
 ·obtain⟨u,o2,c2,a2,b2,w2⟩:=tk 201 w1 (by omega) (by decide) (by decide)
  obtain⟨d,o3,c3,a3,b3,w3⟩:=tk 6 w2 (by omega) (by decide) (by decide)
  have tt:ao (mOp fGt (af 1) (mC (.int 3))) [.pv o1,.fr (.int r)]=some (.ok true,[.pv o1,.fr (.int r)]):=by rw[<- decide_eq_true h3];rfl
  exact Wp.sr (eD tt (bT (au (aq (aG (au rfl (c2 _)) rfl rfl) (aq (iO (aG rfl (au rfl (c3 _)) rfl) rfl) rfl)) (mX (by omega) (by omega) _)) rfl)) ⟨_,_,_,rfl,rfl,_,rfl,.nrm (by omega) (show (u-100).natAbs<2^64 by omega) (show (1+d).natAbs<2^64 by omega),w3.mono (by omega)⟩
 have tt:ao (mOp fGt (af 1) (mC (.int 3))) [.pv o1,.fr (.int r)]=some (.ok false,[.pv o1,.fr (.int r)]):=by rw[<- decide_eq_false h3];rfl
 obtain⟨u,o2,c2,a2,b2,w2⟩:=tk 9 w1 (by omega) (by decide) (by decide)
 exact Wp.st (cN tt rfl) (Wp.en (bT (tN (aG (au rfl (c2 _)) rfl rfl)) rfl) ⟨_,_,_,rfl,rfl,_,rfl,kL (by omega),w2.mono (by omega)⟩)
theorem tf(neg:Bool)(x:Str)(ss:List Str):d9 neg (.str x) (.lst (ss.map A.str))=some (.fr (.bl (if neg then !decide (x∈ss) else decide (x∈ss)))):=by
 have e:inV (nX (.str x)) ((ss.map A.str).map nX)=decide (x∈ss):=by
  unfold inV
  rw[M5,List.any_map,OU,QO,decide_eq_true_eq]
  constructor
  ·rintro⟨y,hy,h⟩
   have h:(y==x)=true:=h
   rw[<- (beq_iff_eq.mp h)]
   exact hy
  ·exact λh=>⟨x,h,show (x==x)=true from beq_self_eq_true x⟩
 have f:(lq (.str x)&&(ss.map A.str).all lq)=true:=by
  rw[LV,MK]
  refine⟨rfl,λa ha=>?_⟩
  obtain⟨y,_,rfl⟩:=Mx.mp ha
  rfl
 show inA neg (.str x) (ss.map A.str)=_
 unfold inA
 rw[if_pos f,e]
theorem uv{t:Mi Bool}(p:Str->Bool)(hi:ρ0.length=i)(hl:ss.length<=1000)(h:∀a∈ss,t (ρ0++[.fr (.str a)])=some (.ok (p a),ρ0++[.fr (.str a)])) :
  fu 1 (aM i) t (af i) (ss.map A.str) ρ0=some (.ok (.nw (.lst ((ss.filter p).map A.str))),ρ0):=by
 have key:∀(bs:List Str)(acc:List A)(x:Sl),(∀a∈bs,a∈ss)->(∀o,x≠Sl.pv o)->∃y,cS (aM i) t (af i) (bs.map A.str) acc (ρ0++[x])=some (acc++(bs.filter p).map A.str,ρ0++[y]):=by
  intro bs
  induction bs with
  | nil=>intro acc x _ _;exact⟨x,by rw[Mh,cS];simp⟩
  | cons b bs ih =>
   intro acc x hm hx
   have hb:=h b (hm b L8)
   have hv:af i (ρ0++[.fr (.str b)])=some (.ok (.fr (.str b)),ρ0++[.fr (.str b)]):=by
    rw[rL,MS (by omega),hi,Pr];rfl
   have hg:aM i (.str b) (ρ0++[x])=some (ρ0++[.fr (.str b)]):=km hi hx
   have ih':=λacc=>ih acc (.fr (.str b)) (λa ha=>hm a (L6 _ ha)) (λo z=>by cases z)
   rw[L5,cS,hg]
   simp only[hb]
   cases e:p b with
   | true =>
    obtain⟨y,h3⟩:=ih' (acc++[.str b])
    have f:aV (.fr (.str b)) (ρ0++[.fr (.str b)])=some (.str b,ρ0++[.fr (.str b)]):=rfl
    exact⟨y,by simp only[hv,f,h3,List.filter_cons_of_pos e,L5,L7,Nb,MJ]⟩
   | false =>
    obtain⟨y,h3⟩:=ih' acc
    exact⟨y,by simp only[h3];rw[List.filter_cons_of_neg (by rw[e];exact Mt)]⟩
 obtain⟨y,h3⟩:=key ss [] .un (λa ha=>ha) (λo z=>by cases z)
 unfold fu
 rw[if_pos (by rw[LY];omega)]
 have e1:Mn 1 Sl.un=[.un]:=rfl
 rw[e1,h3]
 simp
noncomputable abbrev dS(o:LO)(zs:List Sz)(x2 x3 x4 x5 x6 x7:Sl):List Sl:=[.pv o,.fr (.lst (zs.map szT)),x2,x3,x4,x5,x6,x7]
theorem Fp{a b y:Sl}(z:Sz)(h3:np x3=true)(h4:np x4=true)(h5:np x5=true)(h6:np x6=true):G4 3 4 5 6 (szT z) [a,b,c,x3,x4,x5,x6,y]=some [a,b,c,.fr (.str z.n),.fr (nm z.l),.fr (nm z.m),.fr (.tup (z.f.map sfA)),y]:=Ck z h3 h4 h5 h6
noncomputable def sNm(z:Sz):List Str:=z.f.map Sf.s
theorem mT:∀l:List Sz,(l.flatMap sNm).length<=(l.flatMap szN).length
 | []=>Md _
 | a::l=>by
  have:=mT l
  have e:(szN a).length=(sNm a).length+1:=LX
  rw[NJ,NJ,Ma,Ma]
  omega
noncomputable def noN:List Str:=["", "nothing", "zz.zz", "A"]
structure BdB (zs:List Sz) (x:Str) (l m:Num):Prop where
 ln:x.length<=1000
 lb:NB 400 l
 mb:NB 400 m
 bad:x∉zs.map Sz.n\/nlt m l=true
theorem oB{n:Int}(w:Wl n o)(hn:n<2^36)(h:∀z∈zs,dg 121 z)(hl:(zs.flatMap szN).length<=12)(h0:zs≠[]):∃x l m o',bM bU o [.lst (zs.map szT)] (.fr (.tup [.str x,nm l,nm m])) o'/\BdB zs x l m/\Wl (n+10) o':=by
 have hzl:=Mr (gQ zs) hl
 have hp:0<zs.length:=Oh.mpr h0
 suffices ∃s o',bM bU o [.lst (zs.map szT)] s o'/\∃x l m,s=.fr (.tup [.str x,nm l,nm m])/\BdB zs x l m/\Wl (n+10) o' by
  obtain⟨s,o',v,x,l,m,rfl,h⟩:=this
  exact⟨x,l,m,o',v,h⟩
 refine bM.of (Wp.df ?_)
 refine Wp.st (ρ1:=dS o zs (.lv (.lst (noN.map A.str))) .un .un .un .un .un) rfl ?_
 refine Wp.sq (Wp.fr (as:=zs.map szT) (ρ1:=dS o zs (.lv (.lst (noN.map A.str))) .un .un .un .un .un) (λi ρ=>∃x3 x4 x5 x6:Sl,ρ=dS o zs (.lv (.lst ((noN++(zs.take i).flatMap sNm).map A.str))) x3 x4 x5 x6 .un/\np x3=true/\np x4=true/\np x5=true/\np x6=true) rfl ⟨.un,.un,.un,.un,rfl,rfl,rfl,rfl,rfl⟩ ?_ ?_)
 ·rintro i a ρ ha ⟨x3,x4,x5,x6,rfl,h3,h4,h5,h6⟩
  rw[MA] at ha
  cases ez:zs[i]? with
  | none=>rw[ez] at ha;cases ha
  | some z =>
   rw[ez] at ha
   cases ha
   have hz:=(h z (MT ez)).ln
   refine⟨_,Fp z h3 h4 h5 h6,?_⟩
   have e:(noN++(zs.take (i+1)).flatMap sNm).map A.str=(noN++(zs.take i).flatMap sNm).map A.str++(z.f.map Sf.s).map A.str:=by rw[OD,ez];simp[sNm]
   have lx:((noN++(zs.take i).flatMap sNm).map A.str).length+((z.f.map Sf.s).map A.str).length<=100000:=by
    have q:=congrArg (λl=>(l.flatMap szN).length) (MQ i zs)
    have q4:=mT (zs.take i)
    have q5:noN.length=4:=rfl
    simp only[M7,Ma,LY] at q ⊢
    omega
   refine Wp.en (f:=.nx) (AR (DY (r:=.fr .non) rfl ((ir ..).trans (names3 hz ..)) ?_)) ⟨.inl rfl,.fr (.str z.n),.fr (nm z.l),.fr (nm z.m),.fr (.tup (z.f.map sfA)),rfl,rfl,rfl,rfl,rfl⟩
   rw[e]
   unfold Bp
   dsimp only [aV,LO.a,aH,Nf,MZ]
   rw[if_pos lx]
   rfl
 ·rintro ρ' ⟨x3,x4,x5,x6,rfl,h3,h4,h5,h6⟩
  refine⟨rfl,?_⟩
  rw[LY,OI]
  have ks:=comp_map (i:=8) (e:=mOp (fOr fIx av) (af 8) (mC (.int 0))) (as:=zs.map szT) (ρ0:=dS o zs (.lv (.lst ((noN++zs.flatMap sNm).map A.str))) x3 x4 x5 x6 .un) (λa=>match a with | .tup (x::_)=>x|_=>.non) rfl (by rw[LY];omega) (by
   intro a ha
   obtain⟨z,hz,rfl⟩:=Mx.mp ha
   exact⟨.fr (.str z.n),rfl,rfl⟩)
  have ke:(zs.map szT).map (λa=>match a with | .tup (x::_)=>x|_=>.non)=(zs.map Sz.n).map A.str:=by rw[M5,M5];rfl
  rw[ke] at ks
  refine Wp.st (ρ1:=dS o zs (.lv (.lst ((noN++zs.flatMap sNm).map A.str))) x3 x4 x5 x6 (.lv (.lst ((zs.map Sz.n).map A.str)))) (aO ((ir ..).trans ks) rfl) ?_
  have fm:∀y∈noN++zs.flatMap sNm,y.length<=1000:=by
   intro y hy
   rcases Me.mp hy with hy|hy
   ·exact(by decide +kernel:∀y∈noN,y.length<=1000) y hy
   ·obtain⟨z,hz,hy⟩:=OJ.mp hy
    exact Mr ((h z hz).ns y (L6 _ hy)).hi (by decide)
  have fl:(noN++zs.flatMap sNm).length<=1000:=by
   have:=mT zs
   have q5:noN.length=4:=rfl
   rw[Ma]
   omega
  have f0:("" : Str)∈noN++zs.flatMap sNm:=Mm _ L8
  generalize noN++zs.flatMap sNm=Y at fm fl f0 ⊢
  have kf:=uv (i:=8) (t:=ao (mOp (fOr (fOr (d9 true) (cY true)) (gq true)) (af 8) (af 7))) (ss:=Y) (ρ0:=dS o zs (.fr (.lst (Y.map A.str))) x3 x4 x5 x6 (.lv (.lst ((zs.map Sz.n).map A.str)))) (λy=>!decide (y∈zs.map Sz.n)) rfl fl (λy hy=>bh (aG rfl rfl (by simp only[opK,res,Sl.a,LO.a,dS,Nb,MJ,Nf,MZ,fOr,tf,if_true])))
  have fn:∀y∈Y.filter (λy=>!decide (y∈zs.map Sz.n)),y∉zs.map Sz.n/\y.length<=1000:=by
   intro y hy
   obtain⟨hy,e⟩:=NX.mp hy
   rw[Mq,decide_eq_false_iff_not] at e
   exact⟨e,fm y hy⟩
  have f1:("" : Str)∈Y.filter (λy=>!decide (y∈zs.map Sz.n)):=by
   refine NX.mpr ⟨f0,?_⟩
   rw[Mq,decide_eq_false_iff_not]
   intro hm
   obtain⟨z,hz,e⟩:=Mx.mp hm
   have:=((h z hz).ns z.n L8).lo
   rw[e] at this
   exact absurd this (by decide +kernel)
  have f2:(Y.filter (λy=>!decide (y∈zs.map Sz.n))).length<=1000:=Mr (List.length_filter_le _ _) fl
  generalize Y.filter (λy=>!decide (y∈zs.map Sz.n))=F at kf fn f1 f2
  refine Wp.st (ρ1:=dS o zs (.lv (.lst (F.map A.str))) x3 x4 x5 x6 (.lv (.lst ((zs.map Sz.n).map A.str)))) (aO ((ir ..).trans kf) rfl) ?_
  obtain⟨r,o1,c1,a1,b1,w1⟩:=tk 3 w (by omega) (by decide) (by decide)
  have tt:ao (mOp fGt (ai ah [] (aa (af 0) (aa (mC (.int 3)) ag))) (mC (.int 0))) (dS o zs (.lv (.lst (F.map A.str))) x3 x4 x5 x6 (.lv (.lst ((zs.map Sz.n).map A.str))))=some (.ok (decide (r > 0)),dS o1 zs (.lv (.lst (F.map A.str))) x3 x4 x5 x6 (.lv (.lst ((zs.map Sz.n).map A.str)))):=bh (aG (au rfl (c1 _)) rfl rfl)
  by_cases hr:r > 0
  ·rw[decide_eq_true hr] at tt
   have fp:0<F.length:=List.length_pos_of_mem f1
   have lf:((F.map A.str).length:Int)=(F.length:Int):=by rw[LY]
   obtain⟨j,o2,c2,a2,b2,w2⟩:=tk (F.map A.str).length w1 (by omega) (by omega) (by omega)
   obtain⟨x,hx,ex⟩:=jo (ss:=F) (r:=j) a2 (by omega)
   exact Wp.sr (eD tt (bT (cV (aq (aG rfl (au rfl (c2 _)) (cZ (.inl rfl) ex)) rfl) rfl) rfl)) ⟨_,_,_,rfl,rfl,x,(0,1),(1,1),rfl,⟨(fn x hx).2,n4.mono (by decide),AA.mono (by decide),.inl (fn x hx).1⟩,w2.mono (by omega)⟩
  ·rw[decide_eq_false hr] at tt
   refine Wp.st (cN tt rfl) ?_
   obtain⟨l,o2,v2,nl,w2⟩:=wZ w1 (by omega)
   have c2:=cw0 v2 rfl
   have lk:(((zs.map Sz.n).map A.str).length:Int)=(zs.length:Int):=by rw[LY,LY]
   obtain⟨j,o3,c3,a3,b3,w3⟩:=tk ((zs.map Sz.n).map A.str).length w2 (by omega) (by omega) (by omega)
   obtain⟨x,hx,ex⟩:=jo (ss:=zs.map Sz.n) (r:=j) a3 (by rw[LY];omega)
   have n1:NB 64 (1,l.2):=sZ nl.ok.1 nl.b2 (by decide)
   refine Wp.st (ρ1:=dS o2 zs (.lv (.lst (F.map A.str))) x3 (.fr (nm l)) x5 x6 (.lv (.lst ((zs.map Sz.n).map A.str)))) (aO (au rfl (c2 _)) (xt rfl rfl h4 rfl)) ?_
   refine Wp.en (bT (cV (aq (aG rfl (au rfl (c3 _)) (cZ (.inl rfl) ex)) (aq rfl (aq (au rfl (aZ (tD nl n1 (by decide)) _)) rfl))) rfl) rfl) ⟨_,_,_,rfl,rfl,x,l,j2 l (1,l.2),rfl,⟨?_,nl.mono (by decide),(nl.sub n1).mono (by decide),.inr (sub_lt nl.ok n1.ok (by show (0:Int)<1;decide))⟩,w3.mono (by omega)⟩
   obtain⟨z,hz,rfl⟩:=Mx.mp hx
   exact Mr ((h z hz).ns z.n L8).hi (by decide)
theorem FX:Val eR [.exc "NoSize"] (.bl true):=⟨[.fr (.exc "NoSize")],by kernel_rfl⟩
noncomputable abbrev rfT:Ms:=sIf (aS (ao (mOp fEq (af 0) (mC (.str "size"))))) (aP (cI "Size" aX [] (aS (aa (mOp (fOr fIx av) (af 2) (mC (.int 0))) (aa (mOp (fOr fIx av) (af 2) (mC (.int 1))) (aa (mOp (fOr fIx av) (af 2) (mC (.int 2))) (aa (mOp (fOr fIx av) (af 2) (mC (.int 3))) ag))))))) (sIf (aS (ao (mOp fEq (af 0) (mC (.str "stock"))))) (aP (cI "Stock" a9 [] (aS (aa (aw 2) ag)))) (aP (ai bf [] (aa (bc "Stock" "with_bounds" (aS (aw 1))) (aS (aa (mOp (fOr fIx av) (af 2) (mC (.int 0))) (aa (mOp (fOr fIx av) (af 2) (mC (.int 1))) (aa (mOp (fOr fIx av) (af 2) (mC (.int 2))) ag))))))))
theorem qI{a b:Sl}(h:rfT [a,b,c,.fr (.bl false),.un]=some (.ex "NoSize",[a,b,c,.fr (.bl false),.un])):aN [a,b,c]=some (.rt (.fr (.bl true)),[a,b,c,.fr (.bl true),.un]):=by
 have k:aA 3 (aS (ai eR [] (aS (aa (af 4) ag)))) [a,b,c,.fr (.bl false),.fr (.exc "NoSize")]=some (.nx,[a,b,c,.fr (.bl true),.fr (.exc "NoSize")]) :=
  aO (by rw[pQ,au (rs:=[.fr (.exc "NoSize")]) rfl (aZ FX _)]) rfl
 have e:tV 4 (DE ["NoSize"]) rfT (aA 3 (aS (ai eR [] (aS (aa (af 4) ag))))) [a,b,c,.fr (.bl false),.un]=some (.nx,[a,b,c,.fr (.bl true),.un]):=by
  rw[Ci,h]
  dsimp only
  rw[if_pos (by decide +kernel)]
  have p:put 4 (.fr (.exc "NoSize")) [a,b,c,.fr (.bl false),.un]=some [a,b,c,.fr (.bl false),.fr (.exc "NoSize")]:=rfl
  rw[p]
  dsimp only
  rw[k]
  rfl
 unfold aN dW
 rw[iH]
 rw[bI (ρ1:=[a,b,c,.fr (.bl false),.un]) rfl (bI e rfl)]
 rfl
theorem Hi{as:List A}{x:Str}(h:f (.pv (.obj cn [])::as.map Sl.fr)=some (.ex x,s::ρr))(ρ:List Sl):fZ cn f [] (as.map Rr.fr) ρ=some (.error x,ρ):=by
 unfold fZ
 rw[Mh,MB,fB]
 simp only[jf,h]
 rw[fS _ _ _ _ (by rw[bu,LY])]
theorem Hu(h:SzT 400 z)(hb:szB z=false)(ρ:List Sl):fZ "Size" aX [] [.fr (.str z.n),.fr (nm z.l),.fr (nm z.m),.fr (.tup (z.f.map sfA))] ρ=some (.error "NoSize",ρ):=by
 obtain⟨x5,k⟩:=rH h (by decide) (by decide) (sh:=.tup (z.f.map sfA)) (.inr (.inr rfl))
 rw[hb] at k
 exact Hi (as:=[.str z.n,nm z.l,nm z.m,.tup (z.f.map sfA)]) k ρ
theorem lD{rs:List Rr}{x:Str}(h:ms ρ=some (.ok rs,ρ1))(k:fZ cn f [] rs ρ1=some (.error x,ρ2)):aP (cI cn f [] ms) ρ=some (.ex x,ρ2):=by
 rw[jw,kC,h];dsimp only;rw[k]
theorem pC{i j:Str}(b:Bool)(hb:decide (i=j)=b)(h:ρ[k]?=some (.fr (.str i))):aS (ao (mOp fEq (af k) (mC (.str j)))) ρ=some (.ok b,ρ):=by
 have ee:opK fEq (.fr (.str i)) (.fr (.str j)) ρ=some (.ok (.fr (.bl (decide (i=j)))),ρ):=by simp only[opK,res,fEq,iJ]
 rw[<- hb,pQ,bh (b:=decide (i=j)) (aG (x:=.fr (.str i)) (by rw[rL,h]) rfl ee)]
theorem vR(h:SzT 400 z)(hb:szB z=false):aN [.fr (.str "size"),.fr (stO zs),.fr (szT z)]=some (.rt (.fr (.bl true)),[.fr (.str "size"),.fr (stO zs),.fr (szT z),.fr (.bl true),.un]) :=
 qI (eD (pC true (by decide +kernel) rfl) (lD rfl (Hu h hb _)))
theorem uP{zs':List Sz}(h:fc 121 zs')(hb:stB zs'=false):aN [.fr (.str "stock"),.fr (stO zs),.fr (.lst (zs'.map szO))]=some (.rt (.fr (.bl true)),[.fr (.str "stock"),.fr (stO zs),.fr (.lst (zs'.map szO)),.fr (.bl true),.un]):=by
 have k:=sG h (by decide) (by decide) (.inl rfl)
 rw[hb] at k
 exact qI (cN (pC false (by decide +kernel) rfl) (eD (pC true (by decide +kernel) rfl) (lD rfl (Hi (as:=[.lst (zs'.map szO)]) k _))))
noncomputable def qA(n:Nat)(G:Mg)(t:Mi Bool)(e:Mi Rr)(as:List A)(ρ:List Sl):Option (Except Str Rr×List Sl):=if as.length<=100000 then match dA G t e as [] (ρ++Mn n .un) with
 | some (r,ρ')=>some (zL r,ρ'.take ρ.length)
 | none=>none else none
theorem sx(ρ:List Sl)(n:Nat)(mi:Mi (List A))(G:Mg)(t:Mi Bool)(e:Mi Rr):gF n mi G t e ρ=(match mi ρ with|some (.ok as,ρ1)=>qA n G t e as ρ1|some (.error x,ρ1)=>some (.error x,ρ1)|none=>none):=by
 unfold gF ay
 cases mi ρ with
 | none=>rfl
 | some p =>
  obtain⟨o,ρ1⟩:=p
  cases o<;>rfl
theorem lJ{T:Type}{ts:List T}(f g:T->A)(good:T->Bool)(x:Str)(hi:ρ0.length=i)(hl:ts.length<=1000)
  (h:∀t∈ts,(good t=true->∃r,e (ρ0++[.fr (f t)])=some (.ok r,ρ0++[.fr (f t)])/\aV r (ρ0++[.fr (f t)])=some (g t,ρ0++[.fr (f t)]))/\(good t=false->e (ρ0++[.fr (f t)])=some (.error x,ρ0++[.fr (f t)]))) :
  qA 1 (aM i) bj e (ts.map f) ρ0=some (if ts.all good then .ok (.nw (.lst (ts.map g))) else .error x,ρ0):=by
 have key:∀(bs:List T)(acc:List A)(y:Sl),(∀a∈bs,a∈ts)->(∀o,y≠Sl.pv o)->∃y',dA (aM i) bj e (bs.map f) acc (ρ0++[y])=some (if bs.all good then .ok (acc++bs.map g) else .error x,ρ0++[y']):=by
  intro bs
  induction bs with
  | nil=>intro acc y _ _;exact⟨y,by simp[dA]⟩
  | cons b bs ih =>
   intro acc y hm hy
   obtain⟨h1,h2⟩:=h b (hm b L8)
   have hg:aM i (f b) (ρ0++[y])=some (ρ0++[.fr (f b)]):=km hi hy
   rw[L5,dA,hg,Mu]
   simp only[qc]
   cases eg:good b with
   | false=>simp only[h2 eg];exact⟨_,rfl⟩
   | true =>
    obtain⟨r,e1,e2⟩:=h1 eg
    obtain⟨y',e3⟩:=ih (acc++[g b]) (.fr (f b)) (λa ha=>hm a (L6 _ ha)) (λo z=>by cases z)
    simp only[e1,e2,e3]
    exact⟨y',by simp⟩
 obtain⟨y',e3⟩:=key ts [] .un (λa ha=>ha) (λo z=>by cases z)
 unfold qA
 rw[if_pos (by rw[LY];omega)]
 have e1:Mn 1 Sl.un=[.un]:=rfl
 rw[e1,e3]
 cases ts.all good<;>simp[zL]
theorem u4(z:Sz)(ρ:List Sl):unK (aW ["Size"] "name") (.fr (szO z)) ρ=some (.ok (.fr (.str z.n)),ρ):=by unfold unK;simp only[res,i5]
theorem Js(z:Sz)(ρ:List Sl):unK (aW ["Size"] "shifts") (.fr (szO z)) ρ=some (.ok (.fr (.tup (z.f.map sfA))),ρ):=by unfold unK;simp only[res,dR]
theorem HV{m:Num}(h:SzT 400 ⟨z.n,l,m,z.f⟩)(hb:szB ⟨z.n,l,m,z.f⟩=false):GY aQ [szO z,nm l,nm m] "NoSize" := by
 refine⟨[.fr (szO z),.fr (nm l),.fr (nm m)],?_⟩
 have k:=Hu h hb
 have e:aa (mUn (aW ["Size"] "name") (af 0)) (aa (aw 1) (aa (aw 2) (aa (mUn (aW ["Size"] "shifts") (af 0)) ag))) [.fr (szO z),.fr (nm l),.fr (nm m)]=some (.ok [.fr (.str z.n),.fr (nm l),.fr (nm m),.fr (.tup (z.f.map sfA))],[.fr (szO z),.fr (nm l),.fr (nm m)]) :=
  aq (iG rfl (u4 z _)) (aq rfl (aq rfl (aq (iG rfl (Js z _)) rfl)))
 unfold aQ bJ
 rw[iH]
 show (match aR _ [.fr (szO z),.fr (nm l),.fr (nm m)] with|some (.nx,ρ')=>_|some (.rt s,ρ')=>_|some (.ex x,ρ')=>_|_=>none)=_
 rw[rK,kC,e]
 dsimp only
 rw[k]
noncomputable abbrev wS(zs:List Sz)(x:Str)(l m:Num):List Sl:=[.fr (stO zs),.fr (.str x),.fr (nm l),.fr (nm m)]
theorem pd{x:Str}{m:Num}:cX (mUn (aW ["Stock"] "kept") (af 0)) (wS zs x l m)=some (.ok (zs.map szO),wS zs x l m):=by
 rw[pU,iG (r:=.fr (.lst (zs.map szO))) (ρ2:=wS zs x l m) rfl (by unfold unK;simp only[res,iY])]
 rfl
theorem Gh{x:Str}{m:Num}(h:∀z∈zs,dg 121 z)(hl:zs.length<=60)(hb:BdB zs x l m):GY bf [stO zs,.str x,nm l,nm m] "NoSize" := by
 have c1:=lJ (ts:=zs) (e:=mUn (aW ["Size"] "name") (af 4)) (ρ0:=wS zs x l m) (i:=4) szO (λz=>.str z.n) (λ_=>true) "NoSize" rfl (by omega) (λz hz=>⟨λ_=>⟨.fr (.str z.n),iG rfl (u4 z _),rfl⟩,λe=>by cases e⟩)
 have ea:(zs.all λ_=>true)=true:=MK.mpr λ_ _=>rfl
 rw[ea,if_pos rfl] at c1
 have en:zs.map (λz=>A.str z.n)=(zs.map Sz.n).map A.str:=by rw[M5];rfl
 rw[en] at c1
 have t1:ao (mOp (fOr (fOr (d9 true) (cY true)) (gq true)) (af 1) (gF 1 (cX (mUn (aW ["Stock"] "kept") (af 0))) (aM 4) bj (mUn (aW ["Size"] "name") (af 4)))) (wS zs x l m)=some (.ok (!decide (x∈zs.map Sz.n)),wS zs x l m) :=
  bh (aG rfl ((sx ..).trans (by rw[pd];exact c1)) (by simp only[opK,res,LO.a,fOr,tf,if_true]))
 suffices ∃ρ',bg (wS zs x l m)=some (.ex "NoSize",ρ') by
  obtain⟨ρ',e⟩:=this
  exact⟨ρ',by unfold bf;rw[iH];show (match bg (wS zs x l m) with|some (.nx,ρ')=>_|some (.rt s,ρ')=>_|some (.ex x,ρ')=>_|_=>none)=_;rw[e]⟩
 unfold bg
 by_cases hx:x∈zs.map Sz.n
 ·rw[decide_eq_true hx] at t1
  have hlt:nlt m l=true:=hb.bad.resolve_left λn=>n hx
  have c2:=lJ (ts:=zs) (e:=mIf (ao (mOp fEq (mUn (aW ["Size"] "name") (af 4)) (af 1))) (ai aQ [] (aa (aw 4) (aa (aw 2) (aa (aw 3) ag)))) (af 4)) (ρ0:=wS zs x l m) (i:=4) szO szO (λz=>!decide (z.n=x)) "NoSize" rfl (by omega) (λz hz=>by
   have te:ao (mOp fEq (mUn (aW ["Size"] "name") (af 4)) (af 1)) (wS zs x l m++[.fr (szO z)])=some (.ok (decide (z.n=x)),wS zs x l m++[.fr (szO z)]):=bh (aG (iG rfl (u4 z _)) rfl (by simp only[opK,res,fEq,iJ]))
   have hz':=h z hz
   refine⟨λe=>⟨.fr (szO z),?_,rfl⟩,λe=>?_⟩
   ·rw[Mq] at e
    rw[e] at te
    rw[GO,te]
    rfl
   ·rw[Bool.not_eq_false'] at e
    rw[e] at te
    rw[GO,te]
    dsimp only
    have kx:=mW (HV (z:=z) (l:=l) (m:=m) ⟨hb.lb,hb.mb,λf hf=>(hz'.fs f hf).nb.mono (by decide),λs hs=>Mr (hz'.ns s hs).hi (by decide),hz'.ln⟩ (ix λe=>by
     have:=(dP e).1
     rw[hlt] at this
     cases this))
    rw[jX]
    exact kx _)
  have ef:(zs.all λz=>!decide (z.n=x))=false:=by
   rw[List.all_eq_false]
   obtain⟨z,hz,e⟩:=Mx.mp hx
   exact⟨z,hz,by rw[decide_eq_true e];exact Mt⟩
  rw[ef] at c2
  refine⟨wS zs x l m,bI (cN t1 rfl) ?_⟩
  rw[rK,kC,qJ,Gm,sx,pd]
  dsimp only
  rw[c2]
  rfl
 ·rw[decide_eq_false hx] at t1
  have hr:cR "NoSize" (aa (mJs (mJ (mC (.str "the stock has no size ")) (mJ (mFv (af 1)) (dG [])))) ag) (wS zs x l m)=some (.ex "NoSize",wS zs x l m):=by
   have q0:=eq_true hb.ln
   have q1:(("the stock has no size " : Str).length<=1000)=True:=eq_true (by decide +kernel)
   clear c1 t1 h
   unfold wS
   generalize stO zs=o
   walk_at "evh"
  refine⟨wS zs x l m,?_⟩
  rw[dw,eD t1 hr]
theorem qw{x:Str}{m:Num}(h:∀z∈zs,dg 121 z)(hl:zs.length<=60)(hb:BdB zs x l m):aN [.fr (.str "bounds"),.fr (stO zs),.fr (.tup [.str x,nm l,nm m])]=some (.rt (.fr (.bl true)),[.fr (.str "bounds"),.fr (stO zs),.fr (.tup [.str x,nm l,nm m]),.fr (.bl true),.un]):=by
 refine qI (cN (pC false (by decide +kernel) rfl) (cN (pC false (by decide +kernel) rfl) ?_))
 rw[jw,jX]
 show (match cw bf [] [.fr (stO zs),.fr (.str x),.fr (nm l),.fr (nm m)] _ with|some (.ok r,ρ1)=>_|some (.error e,ρ1)=>_|none=>none)=_
 rw[show [Rr.fr (stO zs),.fr (.str x),.fr (nm l),.fr (nm m)]=([stO zs,.str x,nm l,nm m]:List A).map Rr.fr from rfl,mW (Gh h hl hb)]
theorem cw1{as:List A}{r:Rr}(h:bM f o as s o')(hr:jK s=some r):∀a ρ,cw f [] (.rf 1::as.map Rr.fr) (a::.lv o::ρ)=some (.ok r,a::.lv o'::ρ):=λa ρ=>rF (i:=1) h hr rfl
theorem tk1{n:Int}(m:Int)(w:Wl n o)(hn:n<2^40)(m0:0<m)(m1:m<2^64):∃r o',(∀a ρ,cw ah [] [.rf 1,.fr (.int m)] (a::.lv o::ρ)=some (.ok (.fr (.int r)),a::.lv o'::ρ))/\0<=r/\r<m/\Wl (n+1) o':=by
 obtain⟨r,o',h,h1,h2,h3⟩:=xW (m:=m) w hn m0 m1
 exact⟨r,o',cw1 h rfl,h1,h2,h3⟩
theorem Li{c:Nat}{a:A}(h:(cA 1 c)[i]?=some a):i<c/\a=.int (1+(i:Int)):=by
 unfold cA at h
 rw[MA] at h
 by_cases hi:i<c
 ·rw[NS hi] at h
  exact⟨hi,(Mc h).symm⟩
 ·rw[Oa (by rw[Pj];omega)] at h
  cases h
theorem vw(h:fc 121 zs):hJ dq [stO zs] (.lst (zs.map szO)):=by
 have hl:=h.len
 have k:=comp_map (i:=1) (e:=ai bR [] (aa (aw 1) ag)) (as:=zs.map szO) (ρ0:=[.fr (stO zs)]) id rfl (by rw[LY];omega) (by
  intro a ha
  obtain⟨z,hz,rfl⟩:=Mx.mp ha
  exact⟨.nw (.obj "Size" (szF z)),au rfl (eE (oY (h.sz z hz) (by decide) (by decide)) _),rfl⟩)
 rw[Qp] at k
 have hs:cX (mUn (aW ["Stock"] "kept") (af 0)) [.fr (stO zs)]=some (.ok (zs.map szO),[.fr (stO zs)]):=by
  rw[pU,iG (r:=.fr (.lst (zs.map szO))) (ρ2:=[.fr (stO zs)]) rfl (by unfold unK;simp only[res,iY])]
  rfl
 exact hJ.of (Wp.df (Wp.en (bT (Aq hs k) rfl) rfl))
theorem yK{x:Rr}(h1:res ρ x=some (.lst (ss.map A.str)))(h2:res ρ (.rf i)=some (.lst (ss.map A.str))):opK fNe x (.rf i) ρ=some (.ok (.fr (.bl false)),ρ)/\opK fEq x (.rf i) ρ=some (.ok (.fr (.bl true)),ρ):=by
 refine⟨?_,?_⟩<;>simp only[opK,h1,h2,fNe,fEq,yy]<;>rfl
noncomputable abbrev LS(sc:A)(zs:List Sz)(o:LO)(x6 x7 x8:Sl):List Sl:=[.fr sc,.lv o,.fr (.lst (zs.map szT)),.fr (.lst (zs.map szO)),.fr (stO zs),.lv (.lst ((zs.flatMap szN).map A.str)),x6,x7,x8]
structure Row (zs:List Sz):Prop where
 st:fc 121 zs
 ok:stB zs=true
 ln:(zs.flatMap szN).length<=12
 ne:zs≠[]
theorem nms(h:fc 121 zs)(ρ:List Sl)(m:Mi Rr)(ρ0:List Sl)(hm:m ρ0=some (.ok (.fr (stO zs)),ρ))(n:Mi Rr):g9 (ai aI [] (aa (bc "Stock" "names" m) ag)) n ρ0=some (.ok (.nw (.lst ((zs.flatMap szN).map A.str))),ρ) :=
 qZ (au (aq (sF hm rfl) rfl) (eE (yM h) _))
theorem mB{sc:A}(h:fc 121 zs):mOr (ao (mOp fNe (g9 (ai aI [] (aa (bc "Stock" "names" (aw 4)) ag)) (ai aK [] (aa (bc "Size" "names" (aw 4)) ag))) (af 5))) (ao (mOp fNe (mB1 cW (ai dq [] (aa (bc "Stock" "sizes" (aw 4)) ag))) (mB1 cW (af 2)))) (LS sc zs o x6 x7 x8)=some (.ok false,LS sc zs o x6 x7 x8):=by
 have e:∀ρ,opK fNe (.fr (.int (zs.map szO).length)) (.fr (.int (zs.map szT).length)) ρ=some (.ok (.fr (.bl false)),ρ):=λρ=>by
  simp only[opK,res,fNe,m8,LY,decide_true,Rb]
 exact DQ (bh (aG (nms h _ _ _ rfl _) rfl (yK rfl rfl).1)) (bh (aG (iG (au (aq (sF rfl rfl) rfl) (eE (vw h) _)) rfl) rfl (e _)))
theorem wk{sc:A}{i:Str}(j:Str)(b:Bool)(hb:decide (i=j)=b):ao (mOp fEq (af 7) (mC (.str j))) (LS sc zs o x6 (.fr (.str i)) x8)=some (.ok b,LS sc zs o x6 (.fr (.str i)) x8):=by
 rw[<- hb]
 exact bh (aG rfl rfl (by simp only[opK,res,fEq,iJ]))
theorem yT{sc:A}{i:Str}{t:A}(h:Val aN [.str i,stO zs,t] (.bl true)):sIf (fN (ao (ai aN [] (aa (aw 7) (aa (aw 4) (aa (aw 8) ag)))))) (aR (mC (.bl false))) aL (LS sc zs o x6 (.fr (.str i)) (.fr t))=some (.nx,LS sc zs o x6 (.fr (.str i)) (.fr t)) :=
 cN (vA (b:=true) (bh (au rfl (aZ h _)))) rfl
theorem AK{sc:A}{i:Str}{t:List A}(h:Val aN [.str i,stO zs,.lst t] (.bl true)):sIf (fN (ao (ai aN [] (aa (aw 7) (aa (aw 4) (aa (aw 8) ag)))))) (aR (mC (.bl false))) aL (LS sc zs o x6 (.fr (.str i)) (.lv (.lst t)))=some (.nx,LS sc zs o x6 (.fr (.str i)) (.fr (.lst t))) :=
 cN (vA (b:=true) (bh (au rfl (aZ h _)))) rfl
theorem Lx(h0:0<=r)(h4:r<4):∃y∈(["size", "stock", "bounds"]:List Str),atI [A.str "size",.str "size",.str "stock",.str "bounds"] r=some (.str y):=by
 rcases(show r=0\/r=1\/r=2\/r=3 by omega) with rfl|rfl|rfl|rfl
 ·exact⟨"size",by simp,rfl⟩
 ·exact⟨"size",by simp,rfl⟩
 ·exact⟨"stock",by simp,rfl⟩
 ·exact⟨"bounds",by simp,rfl⟩
theorem Ln{x:LO}{r:Rr}(h:bM f o [x.a] s o')(hr:jK s=some r):∀a ρ,cw f [] [.rf 1,.nw x] (a::.lv o::ρ)=some (.ok r,a::.lv o'::ρ):=λa ρ=>by
 obtain⟨ρc,h⟩:=h
 have h':f [.pv o,.fr x.a]=some (.rt s,.pv o'::ρc):=h
 unfold cw
 simp only[Mh,MB,cB,take1,Nf,MZ,Oo,Om,L5,toP,h',hr]
 cases ρc with
 | nil=>rfl
 | cons t ts=>cases t<;>rfl
theorem AU{ns:List Int}{sc:A}{i:Int}(hsc:A.lst (ns.map A.int)=sc)(h:Row zs)(i0:0<=i)(i1:i<=1000)(h7:np x7=true)(h8:np x8=true):∃o' y7 y8,np y7=true/\np y8=true/\(ax (aA 1 (ai cb [] (aa (aw 0) (aa (aw 6) ag)))) (ax (aA 7 (mOp (fOr fIx av) (bF (aa (mC (.str "size")) (aa (mC (.str "size")) (aa (mC (.str "stock")) (aa (mC (.str "bounds")) ag))))) (ai ah [] (aa (af 1) (aa (mC (.int 4)) ag))))) (ax (sIf (ao (mOp fEq (af 7) (mC (.str "size")))) (aA 8 (ai cF [] (aa (af 1) (aa (mOp (fOr fIx av) (af 2) (ai ah [] (aa (af 1) (aa (mB1 cW (af 2)) ag)))) ag)))) (sIf (ao (mOp fEq (af 7) (mC (.str "stock")))) (aA 8 (ai cJ [] (aa (af 1) (aa (ai cP [] (aa (af 1) (aa (aw 2) ag))) ag)))) (aA 8 (ai bU [] (aa (af 1) (aa (aw 2) ag)))))) (ax (sIf (fN (ao (ai aN [] (aa (aw 7) (aa (aw 4) (aa (aw 8) ag)))))) (aR (mC (.bl false))) aL) (sIf (mOr (ao (mOp fNe (g9 (ai aI [] (aa (bc "Stock" "names" (aw 4)) ag)) (ai aK [] (aa (bc "Size" "names" (aw 4)) ag))) (af 5))) (ao (mOp fNe (mB1 cW (ai dq [] (aa (bc "Stock" "sizes" (aw 4)) ag))) (mB1 cW (af 2))))) (aR (mC (.bl false))) aL))))) (LS sc zs o (.fr (.int i)) x7 x8)=some (.nx,LS sc zs o' (.fr (.int i)) y7 y8):=by
 have hzl:=Mr (gQ zs) h.ln
 obtain⟨o1,v1,w1⟩:=uW ns i i0 i1
 rw[hsc] at v1
 obtain⟨r,o2,c2,a2,b2,w2⟩:=tk1 4 w1 (by decide) (by decide) (by decide)
 obtain⟨y,hy,ey⟩:=Lx a2 b2
 have s1:aA 1 (ai cb [] (aa (aw 0) (aa (aw 6) ag))) (LS sc zs o (.fr (.int i)) x7 x8)=some (.nx,LS sc zs o1 (.fr (.int i)) x7 x8):=gO (au rfl (eE v1 _)) rfl rfl rfl rfl
 have s7:aA 7 (mOp (fOr fIx av) (bF (aa (mC (.str "size")) (aa (mC (.str "size")) (aa (mC (.str "stock")) (aa (mC (.str "bounds")) ag))))) (ai ah [] (aa (af 1) (aa (mC (.int 4)) ag)))) (LS sc zs o1 (.fr (.int i)) x7 x8)=some (.nx,LS sc zs o2 (.fr (.int i)) (.fr (.str y)) x8):=gO (aG (cx rfl rfl) (au rfl (c2 _ _)) (cZ (.inl rfl) ey)) rfl rfl h7 rfl
 simp only[Ml,QP,or_false] at hy
 rcases hy with rfl|rfl|rfl
 ·have hp:0<zs.length:=Oh.mpr h.ne
  have ll:((zs.map szT).length:Int)=(zs.length:Int):=by rw[LY]
  obtain⟨j,o3,c3,a3,b3,w3⟩:=tk1 (zs.map szT).length w2 (by decide) (by omega) (by omega)
  obtain⟨j,rfl⟩:∃k:Nat,j=k:=⟨j.toNat,by omega⟩
  have hj:j<zs.length:=by omega
  have ej:atI (zs.map szT) (j:Int)=some (szT zs[j]):=fJ (by rw[MA,Mo hj];rfl)
  have mz:zs[j]∈zs:=NQ hj
  generalize zs[j]=z at ej mz
  have hz:=h.st.sz z mz
  have hzf:z.f.length<=49:=by
   have q:(szN z).length<=(zs.flatMap szN).length:=by
    obtain⟨s,t,e⟩:=List.append_of_mem mz
    rw[e,M7,NJ,Ma,Ma]
    omega
   have:(szN z).length=z.f.length+1:=by unfold szN;simp
   have:=h.ln
   omega
  obtain⟨z',o4,v4,t4,b4,w4⟩:=uA w3 (by decide) hz hzf
  exact⟨o4,_,_,rfl,rfl,bI s1 <| bI s7 <| bI (eD (wk "size" true (by decide +kernel)) (gO (au (aq rfl (aq (aG rfl (au rfl (c3 _ _)) (cZ (.inl rfl) ej)) rfl)) (cw1 v4 rfl _ _)) rfl rfl h8 rfl)) <| bI (yT ⟨_,vR t4 b4⟩) <| cN (mB h.st) rfl⟩
 ·obtain⟨zs',o3,v3,t3,b3,w3⟩:=vG w2 (by decide) h.st.sz h.ln h.ne
  obtain⟨o4,v4,w4⟩:=yN w3 (by decide) t3 (by decide) (by decide)
  have c4:∀a ρ,cw cJ [] [.rf 1,.nw (.lst (zs'.map szT))] (a::.lv o3::ρ)=some (.ok (.nw (.lst (zs'.map szO))),a::.lv o4::ρ):=Ln v4 rfl
  exact⟨o4,_,_,rfl,rfl,bI s1 <| bI s7 <| bI (cN (wk "size" false (by decide +kernel)) (eD (wk "stock" true (by decide +kernel)) (gO (au (aq rfl (aq (au rfl (cw1 v3 rfl _ _)) rfl)) (c4 _ _)) rfl rfl h8 rfl))) <| bI (AK ⟨_,uP t3 b3⟩) <| cN (mB h.st) rfl⟩
 ·obtain⟨x,l,m,o3,v3,b3,w3⟩:=oB w2 (by decide) h.st.sz h.ln h.ne
  exact⟨o3,_,_,rfl,rfl,bI s1 <| bI s7 <| bI (cN (wk "size" false (by decide +kernel)) (cN (wk "stock" false (by decide +kernel)) (gO (au rfl (cw1 v3 rfl _ _)) rfl rfl h8 rfl))) <| bI (yT ⟨_,qw h.st.sz (by omega) b3⟩) <| cN (mB h.st) rfl⟩
theorem law_true:∀ns:List Int,ns.length<=63->∃ρ,jT.M [.fr (.lst (ns.map A.int))]=some (.rt (.fr (.bl true)),ρ):=by
 intro ns hns
 show ∃ρ,CM [.fr (.lst (ns.map A.int))]=some (.rt (.fr (.bl true)),ρ)
 generalize hsc:A.lst (ns.map A.int)=sc
 obtain⟨t,et,t1,t2⟩:∃t:Int,(∀ρ,mB2 tF (mC (.int 2)) (mB2 t5 (mB1 cW (af 0)) (mC (.int 13))) (.fr sc::ρ)=some (.ok (.fr (.int t)),.fr sc::ρ))/\2<=t/\t<=13:=by
  subst hsc
  refine⟨if (if (13:Int)<((ns.map A.int).length:Int) then 13 else ((ns.map A.int).length:Int)) > 2 then (if (13:Int)<((ns.map A.int).length:Int) then 13 else ((ns.map A.int).length:Int)) else 2,λρ=>?_,?_,?_⟩
  ·walk_at "evh"
  ·(repeat' split)<;>omega
  ·(repeat' split)<;>omega
 have er:∀ρ,oG (mC (.int 1)) (mB2 tF (mC (.int 2)) (mB2 t5 (mB1 cW (af 0)) (mC (.int 13)))) (.fr sc::ρ)=some (.ok (cA 1 (t-1).toNat),.fr sc::ρ):=λρ=>by
  unfold oG ay
  simp only[M.e_C,et,res]
  rw[if_pos (by omega)]
 suffices Wp CM [.fr sc] λg _=>g=.rt (.fr (.bl true)) by
  obtain⟨f,ρ,e,rfl⟩:=this
  exact⟨ρ,e⟩
 obtain⟨o,v1,w1⟩:=uW ns 0 (by decide) (by decide)
 rw[hsc] at v1
 obtain⟨r,o1,c2,a2,b2,w2⟩:=tk1 4 w1 (by decide) (by decide) (by decide)
 obtain⟨zs,o2,v2,zk,z12,znd,zne,w3⟩:=wj (K:=10) (by decide) (by decide) (many:=1+r) w2 (by decide)
 have h:fc 121 zs:=⟨zk,by omega⟩
 have row:Row zs:=⟨h,pS h.ns znd,z12,zne (by omega)⟩
 obtain⟨o3,v3,w4⟩:=yN w3 (by decide) h (by decide) (by decide)
 refine Wp.df ?_
 refine Wp.st (ρ1:=[.fr sc,.lv o,.un,.un,.un,.un,.un,.un,.un]) (aO (au rfl (eE v1 _)) rfl) ?_
 refine Wp.st (ρ1:=[.fr sc,.lv o2,.lv (.lst (zs.map szT)),.un,.un,.un,.un,.un,.un]) (aO (au (aq rfl (aq (iO (aG rfl (au rfl (c2 _ _)) rfl) rfl) rfl)) (cw1 v2 rfl _ _)) rfl) ?_
 refine Wp.st (ρ1:=[.fr sc,.lv o3,.fr (.lst (zs.map szT)),.lv (.lst (zs.map szO)),.un,.un,.un,.un,.un]) (aO (au rfl (cw1 v3 rfl _ _)) rfl) ?_
 refine Wp.st (ρ1:=[.fr sc,.lv o3,.fr (.lst (zs.map szT)),.fr (.lst (zs.map szO)),.lv (.obj "Stock" (stF zs)),.un,.un,.un,.un]) (aO (iK rfl (CL h row.ok (by decide) (by decide) (.inl rfl) _)) rfl) ?_
 refine Wp.st (ρ1:=LS sc zs o3 .un .un .un) (aO (nms h _ _ _ rfl _) rfl) ?_
 refine Wp.sq (Wp.fr (as:=cA 1 (t-1).toNat) (λ_ ρ=>∃(o:LO) (x6 x7 x8:Sl),ρ=LS sc zs o x6 x7 x8/\np x6=true/\np x7=true/\np x8=true) (er _) ⟨_,_,_,_,rfl,rfl,rfl,rfl⟩ ?_ ?_)
 ·rintro i a ρ ha ⟨o,x6,x7,x8,rfl,h6,h7,h8⟩
  obtain⟨hi,rfl⟩:=Li ha
  obtain⟨o',y7,y8,q7,q8,e⟩:=AU (o:=o) (i:=1+(i:Int)) hsc row (by omega) (by omega) h7 h8
  exact⟨LS sc zs o (.fr (.int (1+(i:Int)))) x7 x8,by cases x6<;>first|(cases h6;done)|rfl,Wp.en e ⟨.inl rfl,_,_,_,_,rfl,rfl,q7,q8⟩⟩
 ·rintro ρ' ⟨o,x6,x7,x8,rfl,h6,h7,h8⟩
  exact⟨rfl,Wp.en (f:=.rt (.fr (.bl true))) (bT (aG (nms h _ _ _ (iO (iK (rs:=[.fr (.tup (zs.map szO))]) rfl (CL h row.ok (by decide) (by decide) (.inr rfl) _)) rfl) _) rfl (yK rfl rfl).2) rfl) rfl⟩
end W
set_option maxHeartbeats 4000000
theorem PySem.Challenge.cw_fitwhatever_k08_no_sizes_holds : PySem.Challenge.rw_fitwhatever_k08_no_sizes.Holds :=
 W.fin W.law_true
#print axioms PySem.Challenge.cw_fitwhatever_k08_no_sizes_holds
