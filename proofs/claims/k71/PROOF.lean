import PyProof.Rows.All
import Wide.All
import OpenK.AllK
import Wide.FinOn
import Lean
import PyProof.EqAt
import PyProof.EqKinds
import PyProof.TupleCall
import PyProof.StrLaws
import PySem.Challenge.RW_fitwhatever_k71_numbers_as_texts
set_option genSizeOf false
set_option genInjectivity false
set_option bootstrap.genMatcherCode false
set_option compiler.extract_closed false
open PySem.W renaming Frag->JH,kitOne->Ko,keepIn->Ks,findIn->KO,kitAny->K8,fnOf->Lc,excIn->LG,codeIn->LS,cellsFrom_some->Me,hideAll->Ml,exmOne->Mu,callWith_K->My,methodObj->MC,kitx_list->MI,kitx_dict->MJ,nsIn->MK,plainGet->MN,instObj->MY,lookIn->M7,mroIn->Ni,isFn->Nu,hideAll_get->NO,of_hideAll->NY,codeRec_of->N3,kitx_tuple->N7,mg_none_of->Od,hasDictIn->Of,plainOver->Og,specialIn->Oh,takesIn->Ow,makesIn->Oy,OpenLaw->OD,WalkO->O0,Hook->O5
open Bool renaming and_eq_true->JK,false_ne_true->Kc,not_eq_true'->Kd,or_eq_true->KI,false_and->Ll,true_and->Lx,and_false->LY,false_eq_true->LZ,beq_eq_decide_eq->Mw,and_true->MH,eq_false_iff->MS,not_eq_false'->OG,eq_iff_iff->O3
open List renaming mem_append_right->JL,mem_cons_self->JN,size_toArray->JO,mem_cons_of_mem->JQ,map_cons->JU,append_assoc->JY,length_cons->JZ,getElem?_eq_some_iff->J0,mem_append->J5,mem_cons->J6,map_nil->J7,replicate->J8,mem_singleton->J9,mem_append_left->Ka,length_map->Ke,length_append->Kg,all_cons->Ki,nodup_append->Kj,getElem?_set_self->Kk,getElem?_eq_getElem->Kl,append_nil->Km,lookup_cons->Kq,getElem?_map->Kr,nodup_cons->Kt,nil_append->Ku,all_eq_true->Kw,getElem?_set_ne->Kz,getElem?_append_right->KA,map_append->KD,drop_eq_getElem_cons->KG,range->KH,isEmpty_iff->KN,filterMap_cons->KP,getElem?_append_left->KQ,find?_cons->KY,length_nil->KZ,getD_eq_getElem?_getD->K1,contains_iff_mem->Li,mem_of_getElem?->Lm,length_take->Lu,cons_append->Lv,any_cons->Lw,zip_cons_cons->LB,take_append_drop->LI,drop_length->LJ,length->LN,mem_filter->LQ,mem_filterMap->LX,sublist_append_right->L6,ext_getElem?->L9,reverse_cons->Ma,filter_cons->Mm,filter_eq_nil_iff->Mq,mem_map->Mr,of_mem_zip->Mt,getElem?_eq_none->Mv,getElem?_range->MA,perm_iff_count->MB,take_sublist->MR,count_append->MU,map_map->MV,eq_nil_of_length_eq_zero->Nb,mem_range->Nn,drop_zero->Nq,take_left->Nt,getElem?_take_of_lt->NB,eq_of_mem_replicate->ND,getElem?_replicate->NG,drop->NI,getElem?_cons_zero->NM,all_map->NR,take_of_length_le->NS,length_replicate->NZ,perm_append_comm->N9,set_append_right->Oa,filterMap_append->Oc,map->Oi,mem_map_of_mem->Ot,map_congr_left->Ou,toList_toArray->Ov,set_cons_zero->OA,set_cons_succ->OB,pairwise_cons->OC,lookup_append->OE,any_eq_false->OI,push_toArray->OL,all_eq_false->OP,length_drop->OR,nil_sublist->OT,map_reverse->OU,take_length->OW,perm_middle->OX,getElem_mem->OY,mem_reverse->OZ,cons_ne_nil->O1,count_cons->O4,all_append->O6,foldl_cons->O7,head?_cons->O8,not_lt->PB
open PySem.Heap renaming get?_push_of_some->JM,lt_size->J2,get?_push_size->Kb,SameBut->Le,get?_update_other->Lf,get?_update_self->LH,get?_none_of_le->LM,FlyingW->MT,MadeExcOf->Pa,size_push->Pc
open Nat renaming lt_of_lt_of_le->JR,le_refl->J1,ne_of_lt->Kf,le_trans->Kh,lt_irrefl->Kp,le_of_lt->KU,lt_of_le_of_lt->K3,le_of_ble_eq_true->K4,zero_le->K7,pow_le_pow_right->Ln,mul_le_mul->LF,le_succ->LP,lt_trans->LW,lt_succ_of_lt->Mb,ble->Md,add_sub_cancel_left->Mo,digitChar->MM,lt_succ_self->M9,le_add_right->Nc,le_mul_of_pos_right->NX,pow_succ->N5,min_self->N6,zero_add->Ob,gcd->Oe,log2_lt->Oo,le_max_right->O2,le_max_left->Pb,ne_of_gt->Po,sub_self->PH,lt_or_ge->PL
open Option.some renaming inj->JV,injEq->Qu
open PySem.Str renaming ofString->J4,empty->M8,length->Nv
open PySem.Builtin.Str renaming occurrences->Kn,strKind->K6,partsBetween->M5,glued->NF,tooLong->Qr,subAt->Qt
open Array renaming length_toList->Kv,append_assoc->MD,toList_inj->M0,getElem?_toList->NU,toArray_toList->N8,toList_append->Oj,toList->Pg
open PyProof.Rows renaming slot_tuple_getitem->Ky,sortedS->Mc,envOfC->Mn,callWith_type1->ME,risingS->Ng,callWith_builtin1->PM,tuple_addW0->PU,ltCps_eq->PV,strKind->PY,list_addW->P0,signs_ofString->Qk,digit_range->Ql,split_pos->Qm,split_le->Qn,part_short->Qo,slice_from_eq->Qp
open Int renaming gcd->KC,natAbs_mul->KW,gcd_pos_of_ne_zero_right->Lh,mul_fdiv_cancel_left->Ly,fmod_nonneg_of_pos->LC,lt_or_gt_of_ne->MP,fmod_lt_of_pos->MQ,gcd_dvd_right->MZ,gcd_dvd_left->Na,fdiv_mul_cancel->OH,gcd_zero_right->OM,natAbs->OQ,emod_nonneg->Pd,mul_comm->Px,lt_or_le->Py,le_of_lt->Pz,neg_dvd->PR,negSucc->Qj
open Ne renaming symm->KJ
open PySem.Value renaming ref->KL,none->LU,builtin->L8,str->MX,int->Ny,isStrOf->O9,isInt->Pj,bool->Pn
open False renaming elim->KR
open List.Sublist renaming append->KS,refl->K0
open ForInStep renaming yield->K2
open PySem.NumText renaming digitsVal->K5,AllDigits->PK
open PySem renaming mem_of_lookup->K9,intText?->Nj,Str->Nx,call->Om,Within->Pf
open PySem.NameKind renaming free->Ld
open PySem.Builtin.Slice renaming slicePlaces->Lg,sliceAdjust->LL,sliceApplied->MF,slicePartIndex->Pq,sliceFields->Pt
open PySem.Builtin.Tuple renaming tupleExact->Lk,tupleItemsOf->MG,tupleIsExact->PD
open List.cons renaming inj->Lo
open Sum renaming inr->LA,inl->MW
open PySem.Around renaming under_plainId->LK,frames_deeper->NP
open PySem.SeqAt renaming EqAt->LV
open PySem.F renaming args_tuple_add_2->L4,entry_tuple_add->L7,slot_tuple_add->Mf,slot_tuple_getattribute->Mh,args_str_split_2->M6,entry_str_split->Nd,slot_dict_delitem->Nf,slot_str_split->Nk,plainAttrs_str->Nw,slot_dict_pop->NC,slot_list_ne->NJ,excAttr_ValueError->OJ,excBase_ValueError->OK
open True renaming intro->Mp
open PySem.Calls renaming evalArgs_plain->Mx,Name_function_global->Nh,call_function_entry->Nr,callWith_builtin->NH,spliced_cons->Ol,spliced_nil->Ox
open PySem.Txt renaming slice->Mz,split->NW,mul->OV,slice_le->Pw
open Option renaming isSome_map->ML,isNone_iff_eq_none->Nl,getD_none->Oz,getD_some->OF
open PySem.Obj renaming mapSeq->MO,data_mapFields->ON
open PySem.Builtin.Dict renaming updateFrom->M4,addKeywords->P1,pairItems->P2,selfAndRest->P4
open PySem.Paired renaming length->Nm,snoc->Ph
open PySem.Builtin.Int renaming intBits->Np
open PySem.SeqAt.EqAt renaming int_str->Nz,str_int->NA,same->N4
open PySem.ScopeKind renaming function->NK
open PySem.Heap.DictOf renaming new->NQ
open PySem.Spec renaming ltCps->NV
open PySem.Env renaming kindOf->OO
open PySem.Builtin.ObjectAttr renaming bindTo->OS
open PySem.W.SharedT renaming abs->Pe
open PySem.Heap.IsSliceOf renaming new->Pk
open PySem.W.WShape renaming has->Pl
open Or renaming inr->Pm
open PySem.Builtin.Range renaming rangeSize->Pp
open List.Pairwise renaming nil->Pu
open PySem.W.WData renaming int->PN
open PySem.Heap.SameBut renaming refl->PQ
open PySem.Str.mk renaming injEq->PZ
open PySem.W.Fast renaming tw11892475500146522536->P5,tw14364793385576792824->P6,tw6613529449190102663->P7,tw10156331382660048174->P8,tw10274390034422433532->P9,tw14289696077712309145->Qa,tw4187177175401517315->Qb,te11892475500146522536->Qc,te14364793385576792824->Qd,te6613529449190102663->Qe,te10156331382660048174->Qf,te10274390034422433532->Qg,te14289696077712309145->Qh,te4187177175401517315->Qi
open PySem.Flow renaming next->Qq
open PySem.W.KIN renaming call_text->Qs,signs_num->Qv,val_back->Qw
set_option Elab.async false
set_option linter.all false
set_option maxRecDepth 100000
abbrev NDb(x:Nx):Prop:=(x==("__debug__" : Nx))=false
abbrev NCd(x:Nx):Prop:=(x==("__classdict__" : Nx))=false
namespace L2
open PySem PySem.Spec PyProof.Rows
noncomputable abbrev Key:=Sum Int Str
noncomputable def hW:Key->Value->Bool
 | .inl k,v=>Pj k v
 | .inr x,v=>O9 x v
noncomputable def Jy(w:World):Key->Int
 | .inl k=>hashInt k
 | .inr x=>hashStr w x
theorem aO:∀{k:Key}{v:Value},hW k v=true->(∃i t,k=MW i/\v=Ny i t)\/(∃x t,k=LA x/\v=MX x t)
 | .inl i,v,h=>by
  obtain⟨t,e⟩:=Value.isInt_shape (k:=i) (v:=v) h
  exact .inl ⟨i,t,rfl,e⟩
 | .inr x,v,h=>by
  obtain⟨t,e⟩:=Value.isStrOf_shape (x:=x) (v:=v) h
  exact .inr ⟨x,t,rfl,e⟩
theorem rE(i:Int)(t:Tok):hW (.inl i) (.int i t)=true:=by simp[hW,Pj]
theorem sI(x:Str)(t:Tok):hW (.inr x) (.str x t)=true:=by simp[hW,O9]
theorem Bt(a b:Int):decide ((MW a:Key)=MW b)=(a==b):=by
 by_cases e:a=b
 ·subst e;simp
 ·have h:¬ (MW a:Key)=MW b:=λq=>e (MW.inj q)
  rw[decide_eq_false h]
  exact(beq_eq_false_iff_ne.mpr e).symm
theorem EI(a b:Str):decide ((LA a:Key)=LA b)=decide (a=b):=by
 by_cases e:a=b
 ·subst e;simp
 ·have h:¬ (LA a:Key)=LA b:=λq=>e (LA.inj q)
  rw[decide_eq_false h,decide_eq_false e]
theorem Bx(a:Int)(b:Str):decide ((MW a:Key)=LA b)=false:=decide_eq_false (λq=>nomatch q)
theorem Cm(a:Str)(b:Int):decide ((LA a:Key)=MW b)=false:=decide_eq_false (λq=>nomatch q)
noncomputable def aG(prog:Program)(w:World):PySem.KeyKind prog w Key where
 is:=hW
 hash:=Jy w
 inj:=λv a b ha hb=>by
  rcases aO ha with ⟨i,t,rfl,rfl⟩|⟨x,t,rfl,rfl⟩
  ·rcases aO hb with ⟨j,u,rfl,e⟩|⟨y,u,rfl,e⟩
   ·injection e with e1 _;rw[e1]
   ·exact nomatch e
  ·rcases aO hb with ⟨j,u,rfl,e⟩|⟨y,u,rfl,e⟩
   ·exact nomatch e
   ·injection e with e1 _;rw[e1]
 byValue:=λk v h=>by
  rcases aO h with ⟨i,t,rfl,rfl⟩|⟨x,t,rfl,rfl⟩<;>rfl
 pyHash:=λhv h=>by
  rcases aO hv with ⟨i,t,rfl,rfl⟩|⟨x,t,rfl,rfl⟩
  ·exact wpAny_pyHash_int h
  ·exact wpAny_pyHash_str h
 eqBool:=λhu hv h=>by
  rcases aO hu with ⟨i,t,rfl,rfl⟩|⟨x,t,rfl,rfl⟩
  ·rcases aO hv with ⟨j,u,rfl,rfl⟩|⟨y,u,rfl,rfl⟩
   ·rw[Bt] at h;exact wpAny_eqBool_int h
   ·rw[Bx] at h;exact Nz i t y u _ _ _ _ h
  ·rcases aO hv with ⟨j,u,rfl,rfl⟩|⟨y,u,rfl,rfl⟩
   ·rw[Cm] at h;exact NA x t j u _ _ _ _ h
   ·rw[EI] at h;exact wpAny_eqBool_str h
 «strs»:=λk x t v h=>by
  rcases aO h with ⟨i,u,rfl,e⟩|⟨y,u,rfl,e⟩
  ·exact nomatch e
  ·injection e with e1 _
   subst e1
   cases v<;>rfl
theorem mV(prog:Program)(w:World)(i:Int)(t:Tok):(aG prog w).is (.inl i) (.int i t)=true:=rE i t
theorem mq(prog:Program)(w:World)(x:Str)(t:Tok):(aG prog w).is (.inr x) (.str x t)=true:=sI x t
end L2
namespace L2
open PySem PySem.Spec PyProof.Rows
inductive V where
 | non|bl (b:Bool)|int (i:Int)|str (x:Str)|byt (b:Array UInt8)|flt (b:UInt64)|ref (a:Addr)|ty (n:String)
 deriving DecidableEq
noncomputable def RelV:V->Value->Prop
 | .non,u=>u=LU
 | .bl b,u=>u=Pn b
 | .int i,u=>∃t,u=Ny i t
 | .str x,u=>∃t,u=MX x t
 | .byt b,u=>∃t,u=Value.bytes b t
 | .flt b,u=>∃t,u=Value.float b t
 | .ref a,u=>u=KL a
 | .ty n,u=>u=Value.type n
noncomputable abbrev Vals:List V->List Value->Prop:=Paired RelV
theorem Vals.length{xs:List V}{us:List Value}(r:Vals xs us):xs.length=us.length:=Nm r
theorem Vals.get:∀{xs:List V}{us:List Value}{i:Nat}{x:V},Vals xs us->xs[i]?=some x->∃u,us[i]?=some u/\RelV x u
 | _,_,_,_,.nil,e=>by simp at e
 | _,_,0,_,.cons r _,e=>by simp at e;subst e;exact⟨_,rfl,r⟩
 | _,_,i+1,x,.cons _ t,e=>by
  obtain⟨u,h1,h2⟩:=Vals.get (i:=i) (x:=x) t (by simpa using e)
  exact⟨u,by simpa using h1,h2⟩
theorem Vals.set{x:V}{u:Value}(r:RelV x u):∀{xs:List V}{us:List Value}(i:Nat),Vals xs us->Vals (xs.set i x) (us.set i u)
 | _,_,_,.nil=>.nil
 | _,_,0,.cons _ t=>.cons r t
 | _,_,i+1,.cons q t=>.cons q (Vals.set r i t)
theorem Vals.append:∀{xs ys:List V}{us ws:List Value},Vals xs us->Vals ys ws->Vals (xs++ys) (us++ws)
 | _,_,_,_,.nil,s=>s
 | _,_,_,_,.cons r t,s=>.cons r (Vals.append t s)
theorem Vals.take:∀{xs:List V}{us:List Value}(n:Nat),Vals xs us->Vals (xs.take n) (us.take n)
 | _,_,0,_=>.nil
 | _,_,_+1,.nil=>.nil
 | _,_,n+1,.cons r t=>.cons r (Vals.take n t)
theorem Vals.drop:∀{xs:List V}{us:List Value}(n:Nat),Vals xs us->Vals (xs.drop n) (us.drop n)
 | _,_,0,r=>r
 | _,_,_+1,.nil=>.nil
 | _,_,n+1,.cons _ t=>Vals.drop n t
noncomputable def fL:Option V->Option Value->Prop
 | some v,some u=>RelV v u
 | none,none=>True
 | _,_=>False
noncomputable def KV{κ:Type}:List (κ×V)->List (κ×Value)->Prop:=Paired λ(p:κ×V) (q:κ×Value)=>p.1=q.1/\RelV p.2 q.2
noncomputable def kV:Key->V
 | .inl i=>.int i
 | .inr x=>.str x
inductive HO where
  | lst (xs:List V)
  | tup (xs:List V)
  | dK (kvs:List (Key×V))|dT (kvs:List (List Key×V))
  | set (S:Int->Bool) (n:Nat)
  | ins (C dx:Addr) (fs:List (Str×V))
  | own (x:Addr)
  | xd (fs:List (Str×V))
  | met (f x:Addr)
  | rng (lo hi:Int)
  | frz (o:Obj) (u:HO)
  | tbl (ps:Array Value)
  | ext (φ:Heap->Prop)
noncomputable abbrev Hp:=Addr->Option HO
noncomputable def upd(H:Hp)(a:Addr)(o:HO):Hp:=λb=>if b=a then some o else H b
theorem aI{H:Hp}{a:Addr}{o:HO}:upd H a o a=some o:=by unfold upd;rw[if_pos rfl]
theorem aj{H:Hp}{a b:Addr}{o:HO}(h:b≠a):upd H a o b=H b:=by unfold upd;rw[if_neg h]
theorem Gn{H:Hp}{a b:Addr}{o u:HO}(h:H a=some o)(h':H b=some u)(d:o≠u):a≠b:=by
 intro e;subst e;rw[h] at h';exact d (JV h')
theorem aB{H:Hp}{a b:Addr}{o:HO}(h:H a=some o)(h':H b=none):a≠b:=by
 intro e;subst e;rw[h] at h';cases h'
section
variable(P:Program)(w:World)
def cG(h:Heap)(a:Addr)(items:Array Value):Prop:=∃o,h.get? a=some o/\o.cls=.type "tuple" /\ ∃n,o.data=.seq items n/\o.dict=none
theorem cG.t{h:Heap}{a:Addr}{items:Array Value}(x:cG h a items):IsTup h a items:=let ⟨o,e,c,n,d,_⟩:=x;⟨o,e,c,n,d⟩
theorem cG.new(h:Heap)(items:Array Value):cG (h.push { cls:=.type "tuple",data:=.seq items }) h.objs.size items:=⟨_,Kb _ rfl,rfl,_,rfl,rfl⟩
noncomputable def aK(H:Hp)(h:Heap)(a:Addr):HO->Prop
 | .lst xs=>xs.length<=sizeLine/\∃(its:List Value) (n:Nat),Vals xs its/\h.get? a=some { cls:=.type "list",data:=.seq its.toArray n }
 | .tup xs=>xs.length<=sizeLine/\∃its:List Value,Vals xs its/\cG h a its.toArray
 | .dK kvs=>kvs.length<=sizeLine/\(a==sysModules)=false/\∃vs,KV kvs vs/\h.DictOf (aG P w) a vs
 | .dT kvs=>kvs.length<=sizeLine/\(a==sysModules)=false/\∃xs:List (List Key×Addr×Value),
   Paired (λ(p:List Key×V) (q:List Key×Addr×Value)=>p.1=q.1/\H q.2.1=some (.tup (p.1.map kV))/\RelV p.2 q.2.2) kvs xs /\
   ∃o es ep,h.get? a=some o/\o.ExactDict/\o.data=.dict es ep/\es.toList=xs.map (entryOfKey (tupleKind (aG P w)))/\(xs.map (·.1)).Nodup
 | .set S n=>h.SetOf (intKind P w) a S n
 | .ins C dx fs=>H dx=some (.own a)/\fs.length<=1000/\dx≠a/\h.get? a=some (MY C dx) /\
   ∃mA,h.Ns1 dx mA/\(∀f,fL (fs.lookup f) (mA f))/\Pf mA (fs.map (·.1))
 | .own _=>∃o,h.get? a=some o
 | .xd fs=>∃mA,h.Ns1 a mA/\∀f,fL (fs.lookup f) (mA f)
 | .rng lo hi=>∃t u v,h.get? a=some { cls:=.type "range",data:=.fields #[.int lo t,.int hi u,.int 1 v] }
 | .frz o u=>h.get? a=some o/\aK H h a u
 | .tbl ps=>h.get? a=some { cls:=.none,data:=.fields ps }
 | .met f x=>h.get? a=some (MC (.ref f) (.ref x))
 | .ext φ=>φ h/\(∃o,h.get? a=some o)/\∀h1 h2:Heap,φ h1->(∀o,h1.get? a=some o->h2.get? a=some o)->φ h2
def HOk(H:Hp)(h:Heap):Prop:=∀a o,H a=some o->aK P w H h a o
end
section
variable{P:Program}{w:World}{H H':Hp}{h h':Heap}{a:Addr}{o:HO}
theorem aK.lt(x:aK P w H h a o):a<h.objs.size:=by
 cases o with
 | lst xs=>obtain⟨_,_,_,_,e⟩:=x;exact J2 e
 | tup xs=>obtain⟨_,_,_,p⟩:=x;exact p.t.lt
 | dK kvs=>obtain⟨_,_,_,_,o,_,_,e,_⟩:=x;exact J2 e
 | dT kvs=>obtain⟨_,_,_,_,o,_,_,e,_⟩:=x;exact J2 e
 | set S n=>obtain⟨o,_,_,_,e,_⟩:=x;exact J2 e
 | ins C dx fs=>obtain⟨_,_,_,e,_⟩:=x;exact J2 e
 | own y=>obtain⟨_,e⟩:=x;exact J2 e
 | xd fs=>obtain⟨_,⟨_,_,_,e,_⟩,_⟩:=x;exact J2 e
 | rng lo hi=>obtain⟨_,_,_,e⟩:=x;exact J2 e
 | frz ob u=>obtain⟨e,_⟩:=x;exact J2 e
 | tbl ps=>exact J2 (show h.get? a=some _ from x)
 | met f y=>exact J2 (show h.get? a=some _ from x)
 | ext φ=>obtain⟨_,⟨_,e⟩,_⟩:=x;exact J2 e
theorem Paired.B2{α β:Type}{F G:α->β->Prop}:∀{l₁:List α}{l₂:List β},Paired F l₁ l₂->(∀a b,F a b->G a b)->Paired G l₁ l₂
 | _,_,.nil,_=>.nil
 | _,_,.cons r t,f=>.cons (f _ _ r) (Paired.B2 t f)
theorem aK.fZ(x:aK P w H h a o)(k:∀b u,(b=a\/H b=some (.own a))->h.get? b=some u->h'.get? b=some u)
  (ho:∀b,H b=some (.own a)->H' b=some (.own a))(ht:∀b xs,H b=some (.tup xs)->H' b=some (.tup xs)):aK P w H' h' a o:=by
 induction o with
 | lst xs=>obtain⟨z,its,n,r,e⟩:=x;exact⟨z,its,n,r,k _ _ (.inl rfl) e⟩
 | tup xs=>obtain⟨z,its,r,ob,e,c⟩:=x;exact⟨z,its,r,ob,k _ _ (.inl rfl) e,c⟩
 | dK kvs=>obtain⟨z,y,vs,r,ob,es,ep,e,c⟩:=x;exact⟨z,y,vs,r,ob,es,ep,k _ _ (.inl rfl) e,c⟩
 | dT kvs =>
  obtain⟨z,y,xs,r,ob,es,ep,e,c⟩:=x
  exact⟨z,y,xs,Paired.B2 r λp q z=>⟨z.1,ht _ _ z.2.1,z.2.2⟩,ob,es,ep,k _ _ (.inl rfl) e,c⟩
 | set S n=>obtain⟨ob,es,ep,t,e,c⟩:=x;exact⟨ob,es,ep,t,k _ _ (.inl rfl) e,c⟩
 | ins C dx fs =>
  obtain⟨d,z,ne,e,mA,⟨od,es,ep,e2,c⟩,r⟩:=x
  exact⟨ho _ d,z,ne,k _ _ (.inl rfl) e,mA,⟨od,es,ep,k _ _ (.inr d) e2,c⟩,r⟩
 | own y=>obtain⟨ob,e⟩:=x;exact⟨ob,k _ _ (.inl rfl) e⟩
 | xd fs=>obtain⟨mA,⟨od,es,ep,e,c⟩,r⟩:=x;exact⟨mA,⟨od,es,ep,k _ _ (.inl rfl) e,c⟩,r⟩
 | rng lo hi=>obtain⟨t,u,v,e⟩:=x;exact⟨t,u,v,k _ _ (.inl rfl) e⟩
 | frz ob u ih=>obtain⟨e,q⟩:=x;exact⟨k _ _ (.inl rfl) e,ih q⟩
 | tbl ps =>
  have e:h.get? a=some { cls:=.none,data:=.fields ps }:=x
  show h'.get? a=some { cls:=.none,data:=.fields ps }
  exact k a _ (.inl rfl) e
 | met f y =>
  have e:h.get? a=some (MC (.ref f) (.ref y)):=x
  show h'.get? a=some (MC (.ref f) (.ref y))
  exact k a _ (.inl rfl) e
 | ext φ=>obtain⟨p,⟨o,e⟩,st⟩:=x;exact⟨st _ _ p λo q=>k _ _ (.inl rfl) q,⟨o,k _ _ (.inl rfl) e⟩,st⟩
theorem HOk.lt(x:HOk P w H h)(e:H a=some o):a<h.objs.size:=(x a o e).lt
theorem HOk.fresh(x:HOk P w H h)(e:h.objs.size<=a):H a=none:=by
 cases q:H a with
 | none=>rfl
 | some u=>exact absurd (JR (x.lt q) e) (Kp _)
theorem HOk.kept(x:HOk P w H h)(k:∀b u,h.get? b=some u->h'.get? b=some u):HOk P w H h':=λa o e =>
 (x a o e).fZ (λb u _ q=>k b u q) (λ_ q=>q) λ_ _ q=>q
theorem HOk.laid(x:HOk P w H h)(k:∀b u,h.get? b=some u->h'.get? b=some u)(hp:h.objs.size<=a)(new:aK P w (upd H a o) h' a o):HOk P w (upd H a o) h':=λb u e=>by
 have hn:=x.fresh hp
 by_cases hb:b=a
 ·subst hb;rw[aI] at e;cases e;exact new
 ·rw[aj hb] at e
  exact(x b u e).fZ (λc v _ q=>k c v q) (λc q=>by rw[aj (aB q hn)];exact q) λc xs q=>by rw[aj (aB q hn)];exact q
end
def Rd(H:Hp)(a:Addr)(u:HO):Prop:=H a=some u\/∃o,H a=some (.frz o u)
theorem Rd.ok{P:Program}{w:World}{H:Hp}{h:Heap}{a:Addr}{u:HO}(r:Rd H a u)(x:HOk P w H h):aK P w H h a u:=by
 rcases r with r|⟨o,r⟩
 ·exact x a u r
 ·obtain⟨_,q⟩:=x a _ r
  exact q
noncomputable def Mut:Option HO->Prop
 | some (.lst _)=>True
 | some (.dK _)=>True
 | some (.dT _)=>True
 | some (.set _ _)=>True
 | some (.ins _ _ _)=>True
 | some (.ext _)=>True
 | _=>False
section
variable{P:Program}{w:World}{H:Hp}{h h':Heap}{x e:Addr}{o':HO}
theorem HOk.write(ok:HOk P w H h)(mu:Mut (H x))(he:e=x\/H e=some (.own x))(k:∀b u,b≠e->h.get? b=some u->h'.get? b=some u)(heo:∃u,h'.get? e=some u)
  (new:aK P w (upd H x o') h' x o'):HOk P w (upd H x o') h':=λb u q=>by
 have nown:∀c y,H c=some (.own y)->c≠x:=λc y r z=>by subst z;rw[r] at mu;exact mu
 have ntup:∀c xs,H c=some (.tup xs)->c≠x:=λc xs r z=>by subst z;rw[r] at mu;exact mu
 by_cases hb:b=x
 ·subst hb;rw[aI] at q;cases q;exact new
 ·rw[aj hb] at q
  by_cases hbe:b=e
  ·have q':H b=some (.own x):=by
    rcases he with z|z
    ·exact absurd (hbe.trans z) hb
    ·rw[hbe];exact z
   rw[q] at q';cases q'
   obtain⟨v,hv⟩:=heo
   exact⟨v,by rw[hbe];exact hv⟩
  ·refine(ok b u q).fZ (λc v hc r=>k c v ?_ r) (λc r=>by rw[aj (nown c b r)];exact r) λc xs r=>by rw[aj (ntup c xs r)];exact r
   rcases hc with rfl|hc
   ·exact hbe
   ·rintro rfl
    rcases he with z|z
    ·exact nown c b hc z
    ·rw[hc] at z;cases z;exact hb rfl
end
structure Un (fs ex:List Addr) (H H':Hp) (h h':Heap):Prop where
 keep:∀b o,h.get? b=some o->H b=none->b∉fs->b∉ex->h'.get? b=some o
 slot:∀b o,h.get? b=some o->H b=none->b∈fs->b∉ex->∃sl,h'.get? b=some { o with slots:=sl }
 free:∀b o,h.get? b=some o->H b=none->b∉ex->H' b=none
 there:∀b o,h.get? b=some o->b∉ex->∃o',h'.get? b=some o'
 tups:∀b xs,H b=some (.tup xs)->H' b=some (.tup xs)
 frzs:∀b o u,H b=some (.frz o u)->H' b=some (.frz o u)
 tbls:∀b ps,H b=some (.tbl ps)->∃more,H' b=some (.tbl (ps++more))
section
variable{fs fs' ex ex':List Addr}{H H1 H2:Hp}{h h1 h2 h':Heap}{a x e:Addr}{o:HO}
theorem Un.any(u:Un fs ex H H1 h h1){b:Addr}{ob:Obj}(q:h.get? b=some ob)(n:H b=none)(hx:b∉ex):∃sl,h1.get? b=some { ob with slots:=sl }:=by
 by_cases hb:b∈fs
 ·exact u.slot b ob q n hb hx
 ·exact⟨ob.slots,u.keep b ob q n hb hx⟩
theorem Un.kept(k:∀b u,h.get? b=some u->h'.get? b=some u):Un fs ex H H h h' :=
 ⟨λb ob q _ _ _=>k b ob q,λb ob q _ _ _=>⟨ob.slots,k b ob q⟩,λ_ _ _ n _=>n,λb ob q _=>⟨ob,k b ob q⟩,λ_ _ q=>q,λ_ _ _ q=>q,λ_ ps q=>⟨#[],by rw[q];simp⟩⟩
theorem Un.refl:Un fs ex H H h h:=Un.kept λ_ _ q=>q
theorem Un.laid(k:∀b u,h.get? b=some u->h'.get? b=some u)(hp:h.objs.size<=a)(hn:H a=none):Un fs ex H (upd H a o) h h' where
 keep:=λb u q _ _ _=>k b u q
 slot:=λb u q _ _ _=>⟨u.slots,k b u q⟩
 free:=λb u q n _=>by rw[aj (Kf (JR (J2 q) hp))];exact n
 there:=λb u q _=>⟨u,k b u q⟩
 tups:=λb xs q=>by rw[aj (aB q hn)];exact q
 frzs:=λb u xs q=>by rw[aj (aB q hn)];exact q
 tbls:=λb ps q=>⟨#[],by rw[aj (aB q hn),q];simp⟩
theorem Un.write(mu:Mut (H x))(he:e=x\/H e=some (.own x))(k:∀b u,b≠e->h.get? b=some u->h'.get? b=some u)(heo:∃u,h'.get? e=some u):Un fs ex H (upd H x o) h h':=by
 have hx:∀b,H b=none->b≠x:=λb n z=>by subst z;rw[n] at mu;exact mu
 have hb:∀b,H b=none->b≠e:=λb n z=>by
  subst z
  rcases he with r|r
  ·exact hx b n r
  ·rw[n] at r;cases r
 have hm:∀b u,H b=some u->¬ Mut (some u)->b≠x:=λb u q nm z=>by subst z;rw[q] at mu;exact nm mu
 refine⟨λb u q n _ _=>k b u (hb b n) q,λb u q n _ _=>⟨u.slots,k b u (hb b n) q⟩,λb u q n _=>by rw[aj (hx b n)];exact n,λb u q _=>?_,
  λb xs q=>by rw[aj (hm b _ q λz=>z)];exact q,λb u xs q=>by rw[aj (hm b _ q λz=>z)];exact q,λb ps q=>⟨#[],by rw[aj (hm b _ q λz=>z),q];simp⟩⟩
 by_cases hbe:b=e
 ·subst hbe;exact heo
 ·exact⟨u,k b u hbe q⟩
end
noncomputable def trk(h:Heap)(H:Hp):List Addr:=(KH h.objs.size).filter λa=>(H a).isSome
noncomputable def kR(h:Heap)(H:Hp):Heap:=Ml h (trk h H)
theorem rD(h:Heap)(H:Hp):(kR h H).objs.size=h.objs.size:=PySem.W.hideAll_size _ _
theorem t5{h:Heap}{H:Hp}{b:Addr}{o:Obj}(e:h.get? b=some o)(n:H b=none):(kR h H).get? b=some o :=
 NO _ e λhm=>by
  have q:(H b).isSome=true:=(LQ.mp hm).2
  rw[n] at q;simp at q
theorem z9{h:Heap}{H:Hp}{b:Addr}{o:Obj}(e:(kR h H).get? b=some o):h.get? b=some o/\H b=none:=by
 have e':h.get? b=some o:=NY (trk h H) e
 refine⟨e',?_⟩
 cases q:H b with
 | none=>rfl
 | some x =>
  have hm:b∈trk h H:=LQ.mpr ⟨Nn.mpr (J2 e'),by simp[q]⟩
  have z:(kR h H).get? b=none:=PySem.W.hideAll_none (trk h H) hm
  rw[z] at e;cases e
noncomputable def Am(g h:Heap)(L:Addr):List (Addr×Obj):=(KH h.objs.size).filterMap λa=>if a=L\/(g.get? a).isSome=true then none else (h.get? a).map λo=>(a,o)
noncomputable def rest(g h:Heap)(L d:Addr):List (Addr×Obj):=(Am g h L).filter λp=>decide (p.1≠d)
end L2
namespace L2
open PySem PySem.Spec PyProof.Rows
structure Mod (K:JH) (mg:Str->Option Value) (base:Heap):Prop where
 kin:K.In base
 glob:base.Ns mainGlobals mg
 blt:∃mb,base.Ns builtinsNs mb/\∀x:Str,x ≠ "__name__" -> mb x=bootBuiltins x
 nolimit:base.NoLimit
structure Cx where
 prog:Program
 w:World
 K:JH
 mg:Str->Option Value
 base:Heap
 A:Around
 N:List Str
 s₀:Shared
 H₀:Hp
 env:Env
 outer:List Env
 stack:List Env
 ex:List Addr
 fn:Str->Bool
 calm:Bool
 pn:List (Addr×Obj)
 xe:Value->Shared->Prop
noncomputable def frs(l:List Env):List Addr:=l.filterMap (·.frame)
noncomputable abbrev Cx.fs(X:Cx):List Addr:=frs X.outer
def Vis(sc:Scope)(x:Str):Prop:=sc.names.lookup x=some .local\/sc.names.lookup x=some .cell\/sc.names.lookup x=some .free
def Loc(sc:Scope)(x:Str):Prop:=sc.names.lookup x=some .local\/sc.names.lookup x=some .cell
noncomputable def Look(env:Env)(h:Heap)(m:Str->Option Value)(x:Str)(u:Value):Prop :=
 (env.kindOf x=some .local/\m x=some u)\/((env.kindOf x=some .cell\/env.kindOf x=some .free)/\∃c,env.cells.lookup x=some c/\h.IsCell c (some u))
structure Cx.Ok (X:Cx):Prop where
 mod:Mod X.K X.mg X.base
 kind:X.env.scope.kind=.function
 glob:X.env.globals=mainGlobals
 blt:X.env.builtins=builtinsNs
 above:X.s₀.heap.objs.size<=X.env.locals
 inj:∀x y c,X.env.cells.lookup x=some c->X.env.cells.lookup y=some c->x=y
 has:∀x,(X.env.kindOf x=some .cell\/X.env.kindOf x=some .free)->∃c,X.env.cells.lookup x=some c
 cab:∀x c,X.fn x=true->X.env.cells.lookup x=some c->X.s₀.heap.objs.size<=c
 hd:X.calm=true->X.A.handled=none
 frames:X.A.frames=some X.stack
 stk:X.stack=X.outer\/(X.stack=X.env::X.outer/\X.env.frame=some X.env.locals)
 exf:∀b∈X.ex,b≠X.env.locals/\∀x c,X.env.cells.lookup x=some c->c≠b
 bs:∀b o,X.base.get? b=some o->X.s₀.heap.get? b=some o/\X.H₀ b=none
 bsz:X.base.objs.size<=X.s₀.heap.objs.size
 noex:∀b o,X.base.get? b=some o->b∉X.ex
 exfs:∀b∈X.ex,b∉X.fs
 fN:X.s₀.heap.FunFrames X.base X.outer
 frf:∀b∈X.fs,X.H₀ b=none
structure Inv (X:Cx) (pins:List (Addr×Obj)) (σ:List (Option V)) (H:Hp) (s:Shared):Prop where
 ok:X.Ok
 os:s.os=X.s₀.os
 bare:AllBare s.gens
 base:Un X.fs X.ex X.H₀ H X.s₀.heap s.heap
 loc:∃m,s.heap.Ns X.env.locals m/\∀(i:Nat)(x:Str)(v:V),X.N[i]?=some x->σ[i]?=some (some v)->Vis X.env.scope x->∃u,RelV v u/\Look X.env s.heap m x u
 cell:∀x c,X.env.cells.lookup x=some c->∃v,s.heap.IsCell c v
 free:H X.env.locals=none
 freeC:∀x c,X.env.cells.lookup x=some c->H c=none
 pin:∀p∈X.pn++pins,s.heap.get? p.1=some p.2/\H p.1=none/\p.1≠X.env.locals/\p.1∉X.fs/\∀v,p.2.data≠.cell v
 hok:HOk X.prog X.w H s.heap
 len:σ.length=X.N.length
section
variable{X:Cx}{pins:List (Addr×Obj)}{σ:List (Option V)}{H H':Hp}{s:Shared}{h':Heap}
theorem Cx.Ok.IQ(ok:X.Ok){b:Addr}{o:Obj}(e:X.base.get? b=some o):b∉X.fs:=λhb=>by
 have:=(ok.fN.mem hb).1
 rw[e] at this;cases this
theorem Inv.bs(I:Inv X pins σ H s):∀b o,X.base.get? b=some o->s.heap.get? b=some o/\H b=none:=λb o e =>
 ⟨I.base.keep b o (I.ok.bs b o e).1 (I.ok.bs b o e).2 (I.ok.IQ e) (I.ok.noex b o e),I.base.free b o (I.ok.bs b o e).1 (I.ok.bs b o e).2 (I.ok.noex b o e)⟩
theorem Inv.bk(I:Inv X pins σ H s):∀b o,X.base.get? b=some o->s.heap.get? b=some o:=λb o e=>(I.bs b o e).1
theorem Inv.mod(I:Inv X pins σ H s):Mod X.K X.mg X.base:=I.ok.mod
theorem Inv.kIn(I:Inv X pins σ H s):X.K.In s.heap:=I.ok.mod.kin.keeps I.bk
theorem Inv.lt(I:Inv X pins σ H s):X.env.locals<s.heap.objs.size:=let ⟨_,hn,_⟩:=I.loc;hn.lt
theorem Inv.sz(I:Inv X pins σ H s):X.s₀.heap.objs.size<=s.heap.objs.size:=Kh I.ok.above (KU I.lt)
theorem Inv.Hv(I:Inv X pins σ H s){a:Addr}(h:s.heap.objs.size<=a):a∉X.fs:=λhb=>by
 obtain⟨_,o,ho,_⟩:=I.ok.fN.mem hb
 exact absurd (JR (J2 ho) (Kh I.sz h)) (Kp _)
theorem Inv.cne(I:Inv X pins σ H s):∀x c,X.env.cells.lookup x=some c->c≠X.env.locals:=λx c e z=>by
 obtain⟨v,o,ho,hd⟩:=I.cell x c e
 obtain⟨m,⟨o',es,ep,ho',hd',_⟩,_⟩:=I.loc
 rw[z,ho'] at ho;cases ho;rw[hd'] at hd;cases hd
theorem Inv.fN(I:Inv X pins σ H s):s.heap.FunFrames X.base X.outer:=by
 have all:∀(l:List Env),(∀b∈frs l,b∈X.fs)->X.s₀.heap.FunFrames X.base l->s.heap.FunFrames X.base l:=by
  intro l
  induction l with
  | nil=>intro _ _;trivial
  | cons env r ih =>
   intro hs hl
   obtain⟨hk,⟨L,o,hf,hn,ho,hd⟩,hr⟩:=hl
   have hL:L∈X.fs:=hs L (by unfold frs;rw[KP,hf];exact JN)
   obtain⟨sl,e⟩:=I.base.slot L o ho (I.ok.frf L hL) hL λz=>I.ok.exfs L z hL
   exact⟨hk,⟨L,_,hf,hn,e,hd⟩,ih (λb hb=>hs b (by unfold frs;rw[KP,hf];exact JQ _ hb)) hr⟩
 exact all X.outer (λ_ hb=>hb) I.ok.fN
theorem Inv.stack(I:Inv X pins σ H s):s.heap.FunFrames X.base X.stack:=by
 rcases I.ok.stk with e|⟨e,hf⟩
 ·rw[e];exact I.fN
 ·rw[e]
  obtain⟨m,hn,_⟩:=I.loc
  refine .cons (by rw[I.ok.kind];decide) hf hn ?_ I.fN
  exact LM (Kh I.ok.bsz I.ok.above)
theorem Inv.fV(I:Inv X pins σ H s):∀b∈frs X.stack,b∈X.env.locals::X.fs:=λb hb=>by
 rcases I.ok.stk with e|⟨e,hf⟩
 ·rw[e] at hb;exact JQ _ hb
 ·rw[e] at hb
  unfold frs at hb
  rw[KP,hf] at hb
  exact hb
theorem Inv.lI(I:Inv X pins σ H s):∀b∈frs X.stack,H b=none:=λb hb=>by
 rcases J6.mp (I.fV b hb) with e|hb
 ·rw[e];exact I.free
 ·obtain⟨_,o,ho,_⟩:=I.ok.fN.mem hb
  exact I.base.free b o ho (I.ok.frf b hb) λz=>I.ok.exfs b z hb
theorem Inv.step{g':Array GenState}{t':Nat}{d':Drawn}{ch:List Addr}(I:Inv X pins σ H s)
  (hch:∀b∈ch,(b∈X.ex\/X.s₀.heap.objs.size<=b)/\b≠X.env.locals/\(∀x c,X.env.cells.lookup x=some c->c≠b)/\∀p∈X.pn++pins,p.1≠b)
  (keep:∀b o,b≠X.env.locals->b∉X.fs->b∉ch->s.heap.get? b=some o->H b=none->h'.get? b=some o)
  (slot:∀b o,b≠X.env.locals->b∈X.fs->b∉ch->s.heap.get? b=some o->H b=none->∃sl,h'.get? b=some { o with slots:=sl })(free:∀b o,b∉ch->s.heap.get? b=some o->H b=none->H' b=none)
  (there:∀b o,b∉ch->s.heap.get? b=some o->∃o',h'.get? b=some o')
  (tups:∀b xs,H b=some (.tup xs)->H' b=some (.tup xs))(frzs:∀b o u,H b=some (.frz o u)->H' b=some (.frz o u))(tbls:∀b ps,H b=some (.tbl ps)->∃more,H' b=some (.tbl (ps++more)))
  (ns:∀m,s.heap.Ns X.env.locals m->h'.Ns X.env.locals m)(hok:HOk X.prog X.w H' h')(hg:AllBare g') :
  Inv X pins σ H' { s with heap:=h',gens:=g',drawn:=d',toks:=t' }:=by
 have neL:∀b o,X.s₀.heap.get? b=some o->b≠X.env.locals:=λb o e=>Kf (JR (J2 e) I.ok.above)
 have neC:∀b o,X.s₀.heap.get? b=some o->b∉X.ex->b∉ch:=λb o e hx hb=>by
  rcases(hch b hb).1 with z|z
  ·exact hx z
  ·exact absurd (JR (J2 e) z) (Kp _)
 have cellK:∀x c,X.env.cells.lookup x=some c->∀v,s.heap.IsCell c v->h'.IsCell c v:=λx c e v ⟨o,ho,hd⟩=>by
  have nch:c∉ch:=λz=>(hch c z).2.2.1 x c e rfl
  by_cases hc:c∈X.fs
  ·obtain⟨sl,q⟩:=slot c o (I.cne x c e) hc nch ho (I.freeC x c e)
   exact⟨_,q,hd⟩
  ·exact⟨o,keep c o (I.cne x c e) hc nch ho (I.freeC x c e),hd⟩
 refine⟨I.ok,I.os,hg,⟨λb o e n hb hx=>?_,λb o e n hb hx=>?_,λb o e n hx=>?_,λb o e hx=>?_,λb xs e=>tups b xs (I.base.tups b xs e),λb o xs e=>frzs b o xs (I.base.frzs b o xs e),λb ps e=>?_⟩,?_,λx c e=>?_,?_,λx c e=>?_,λp hp=>?_,hok,I.len⟩
 ·exact keep b o (neL b o e) hb (neC b o e hx) (I.base.keep b o e n hb hx) (I.base.free b o e n hx)
 ·obtain⟨sl,e1⟩:=I.base.slot b o e n hb hx
  obtain⟨sl',e2⟩:=slot b _ (neL b o e) hb (neC b o e hx) e1 (I.base.free b o e n hx)
  exact⟨sl',e2⟩
 ·obtain⟨o',e1⟩:=I.base.there b o e hx
  exact free b o' (neC b o e hx) e1 (I.base.free b o e n hx)
 ·obtain⟨o',e1⟩:=I.base.there b o e hx
  exact there b o' (neC b o e hx) e1
 ·obtain⟨m1,e1⟩:=I.base.tbls b ps e
  obtain⟨m2,e2⟩:=tbls b _ e1
  exact⟨m1++m2,by rw[e2,MD]⟩
 ·obtain⟨m,hn,hl⟩:=I.loc
  refine⟨m,ns m hn,λi x v e1 e2 e3=>?_⟩
  obtain⟨u,r,l⟩:=hl i x v e1 e2 e3
  refine⟨u,r,?_⟩
  rcases l with l|⟨k,c,e,z⟩
  ·exact .inl l
  ·exact .inr ⟨k,c,e,cellK x c e _ z⟩
 ·obtain⟨v,z⟩:=I.cell x c e
  exact⟨v,cellK x c e v z⟩
 ·obtain⟨m,⟨o,_,_,ho,_⟩,_⟩:=I.loc
  exact free _ o (λz=>(hch _ z).2.1 rfl) ho I.free
 ·obtain⟨v,o,ho,hd⟩:=I.cell x c e
  exact free c o (λz=>(hch c z).2.2.1 x c e rfl) ho (I.freeC x c e)
 ·obtain⟨e,n,ne,nf,d⟩:=I.pin p hp
  have nch:p.1∉ch:=λz=>(hch p.1 z).2.2.2 p hp rfl
  exact⟨keep p.1 p.2 ne nf nch e n,free p.1 p.2 nch e n,ne,nf,d⟩
theorem Inv.un{t':Nat}(I:Inv X pins σ H s)(u:Un X.fs [] H H' s.heap h')(hok:HOk X.prog X.w H' h'):Inv X pins σ H' { s with heap:=h',toks:=t' }:=by
 obtain⟨m,⟨o,es,ep,ho,r⟩,_⟩:=id I.loc
 obtain⟨sl,hL⟩:=u.any ho I.free (by simp)
 exact I.step (g':=s.gens) (d':=s.drawn) (ch:=[]) (λ_ z=>nomatch z) (λb o _ hb _ e n=>u.keep b o e n hb (by simp)) (λb o _ hb _ e n=>u.slot b o e n hb (by simp)) (λb o _ e n=>u.free b o e n (by simp)) (λb o _ e=>u.there b o e (by simp)) u.tups u.frzs u.tbls (λm' hm=>by
  obtain⟨o',es',ep',ho',r'⟩:=hm
  rw[ho] at ho';cases ho'
  exact⟨_,es',ep',hL,r'⟩) hok I.bare
theorem Inv.call{g':Array GenState}{t':Nat}{d':Drawn}{ch:List Addr}(I:Inv X pins σ H s)(u:Un (frs X.stack) ch H H' s.heap h')(hok:HOk X.prog X.w H' h')(hg:AllBare g')
  (hch:∀b∈ch,(b∈X.ex\/X.s₀.heap.objs.size<=b)/\b≠X.env.locals/\(∀x c,X.env.cells.lookup x=some c->c≠b)/\∀p∈X.pn++pins,p.1≠b) :
  Inv X pins σ H' { s with heap:=h',gens:=g',drawn:=d',toks:=t' }:=by
 obtain⟨m,⟨o,es,ep,ho,r⟩,_⟩:=id I.loc
 obtain⟨sl,hL⟩:=u.any ho I.free λz=>(hch _ z).2.1 rfl
 exact I.step (ch:=ch) hch (λb o hL hb hc e n=>u.keep b o e n (λz=>(J6.mp (I.fV b z)).elim hL hb) hc) (λb o _ _ hc e n=>u.any e n hc) (λb o hc e n=>u.free b o e n hc) (λb o hc e=>u.there b o e hc) u.tups u.frzs u.tbls (λm' hm=>by
  obtain⟨o',es',ep',ho',r'⟩:=hm
  rw[ho] at ho';cases ho'
  exact⟨_,es',ep',hL,r'⟩) hok hg
theorem Inv.turned{t':Nat}{it:Addr}(I:Inv X pins σ H s)(k:∀b o,b≠it->s.heap.get? b=some o->h'.get? b=some o)(hn:H it=none)(hL:it≠X.env.locals)
  (h1:it∈X.ex\/X.s₀.heap.objs.size<=it)(h2:∀x c,X.env.cells.lookup x=some c->c≠it)(h3:∀p∈X.pn++pins,p.1≠it):Inv X pins σ H { s with heap:=h',toks:=t' }:=by
 have nit:∀b u,H b=some u->b≠it:=λb u e z=>by rw[z,hn] at e;cases e
 refine I.step (g':=s.gens) (d':=s.drawn) (ch:=[it]) (λb hb=>?_) (λb o _ _ hc e _=>k b o (λz=>hc (by simp[z])) e) (λb o _ _ hc e _=>⟨o.slots,k b o (λz=>hc (by simp[z])) e⟩) (λ_ _ _ _ n=>n)
  (λb o hc e=>⟨o,k b o (λz=>hc (by simp[z])) e⟩) (λ_ _ e=>e) (λ_ _ _ e=>e) (λb ps e=>⟨#[],by rw[e];simp⟩) (λm hm=>?_) (λb u e=>?_) I.bare
 ·have e:b=it:=by simpa using hb
  subst e
  exact⟨h1,hL,h2,h3⟩
 ·obtain⟨o,es,ep,ho,r⟩:=hm
  exact⟨o,es,ep,k _ o (KJ hL) ho,r⟩
 ·refine(I.hok b u e).fZ (λc v hc q=>k c v ?_ q) (λ_ q=>q) λ_ _ q=>q
  rcases hc with z|z
  ·rw[z];exact nit b u e
  ·exact nit c _ z
theorem Inv.tok(I:Inv X pins σ H s)(t:Nat):Inv X pins σ H { s with toks:=t }:=I.un (h':=s.heap) (t':=t) Un.refl I.hok
theorem Inv.kept{t':Nat}(I:Inv X pins σ H s)(k:∀b u,s.heap.get? b=some u->h'.get? b=some u):Inv X pins σ H { s with heap:=h',toks:=t' }:=I.un (Un.kept k) (I.hok.kept k)
theorem Inv.laid{a:Addr}{o:HO}{t':Nat}(I:Inv X pins σ H s)(k:∀b u,s.heap.get? b=some u->h'.get? b=some u)(hp:s.heap.objs.size<=a)(new:aK X.prog X.w (upd H a o) h' a o) :
  Inv X pins σ (upd H a o) { s with heap:=h',toks:=t' }:=I.un (Un.laid k hp (I.hok.fresh hp)) (I.hok.laid k hp new)
theorem Inv.write{x e:Addr}{o:HO}{t':Nat}(I:Inv X pins σ H s)(mu:Mut (H x))(he:e=x\/H e=some (.own x))(k:∀b u,b≠e->s.heap.get? b=some u->h'.get? b=some u)(heo:∃u,h'.get? e=some u)
  (new:aK X.prog X.w (upd H x o) h' x o):Inv X pins σ (upd H x o) { s with heap:=h',toks:=t' }:=I.un (Un.write mu he k heo) (I.hok.write mu he k heo new)
theorem Inv.iI{pins':List (Addr×Obj)}(I:Inv X pins σ H s)(h:∀p∈pins',s.heap.get? p.1=some p.2/\H p.1=none/\p.1≠X.env.locals/\p.1∉X.fs/\∀v,p.2.data≠.cell v):Inv X pins' σ H s :=
 ⟨I.ok,I.os,I.bare,I.base,I.loc,I.cell,I.free,I.freeC,λp hp=>(J5.mp hp).elim (λz=>I.pin p (Ka _ z)) (h p),I.hok,I.len⟩
theorem jd{N:List Str}(hN:N.Nodup){i j:Nat}{x:Str}(a:N[i]?=some x)(b:N[j]?=some x):i=j:=by
 obtain⟨h1,e1⟩:=J0.mp a
 obtain⟨h2,e2⟩:=J0.mp b
 exact(List.getElem_inj hN).mp (e1.trans e2.symm)
theorem hU{M:Model}{A:Around}{E:Value->Shared->Prop}{i:Nat}{x:Str}{v:V}{u:Value}{Q:Unit->Shared->Prop}(I:Inv X pins σ H s)(hN:X.N.Nodup)(hi:X.N[i]?=some x)(hx:Loc X.env.scope x)(r:RelV v u)
  (h:∀s',Inv X pins (σ.set i (some v)) H s'->(∃a,Le a s.heap s'.heap/\(a=X.env.locals\/X.env.cells.lookup x=some a))->Q () s')(hf:X.fn x=true\/X.env.scope.names.lookup x=some .local:=by first|exact .inl rfl|exact .inr rfl|assumption):wpAny M A (storeName X.env x u) Q E s:=by
 obtain⟨m,hn,hl⟩:=id I.loc
 have hcls:(X.env.scope.kind==.class || (X.env.scope.kind==.module&&X.env.locals != X.env.globals))=false:=by rw[I.ok.kind];rfl
 have hiσ:i<σ.length:=by rw[I.len];exact(J0.mp hi).1
 have cne:=I.cne
 have tracked:∀{a:Addr}{h':Heap},(∃o,s.heap.get? a=some o/\H a=none)->Le a s.heap h'->HOk X.prog X.w H h':=λ{a h'} ha hs b ob e=>by
  obtain⟨_,_,hfree⟩:=ha
  refine(I.hok b ob e).fZ (λc w' hc q=>(hs.2 c ?_).trans q) (λ_ q=>q) λ_ _ q=>q
  rintro rfl
  rcases hc with rfl|hc
  ·rw[hfree] at e;cases e
  ·rw[hfree] at hc;cases hc
 rcases hx with hk|hk
 ·refine wpAny_storeName_local hk hn (λh' hn' hs=>?_) hcls
  obtain⟨oL,_,_,hoL,_⟩:=id hn
  refine h _ ⟨I.ok,I.os,I.bare,⟨λb o e n hb hx=>?_,λb o e n hb hx=>?_,I.base.free,λb o e hx=>?_,I.base.tups,I.base.frzs,I.base.tbls⟩,⟨_,hn',λj y v' e1 e2 e3=>?_⟩,λy c e=>?_,I.free,I.freeC,λp hp=>?_,tracked ⟨oL,hoL,I.free⟩ hs,by simpa using I.len⟩ ⟨_,hs,.inl rfl⟩
  ·exact(hs.2 b (Kf (JR (J2 e) I.ok.above))).trans (I.base.keep b o e n hb hx)
  ·obtain⟨sl,e1⟩:=I.base.slot b o e n hb hx
   exact⟨sl,(hs.2 b (Kf (JR (J2 e) I.ok.above))).trans e1⟩
  ·obtain⟨o',e1⟩:=I.base.there b o e hx
   exact⟨o',(hs.2 b (Kf (JR (J2 e) I.ok.above))).trans e1⟩
  ·by_cases hj:j=i
   ·subst hj
    rw[hi] at e1;cases e1
    rw[Kk hiσ] at e2
    cases e2
    exact⟨u,r,.inl ⟨hk,by simp⟩⟩
   ·rw[Kz (KJ hj)] at e2
    obtain⟨u',r',q⟩:=hl j y v' e1 e2 e3
    refine⟨u',r',?_⟩
    rcases q with ⟨k,e⟩|⟨k,c,e,z⟩
    ·refine .inl ⟨k,?_⟩
     have:y≠x:=λe=>hj (jd hN e1 (e▸hi))
     simp[this,e]
    ·exact .inr ⟨k,c,e,z.sameBut hs (cne y c e)⟩
  ·obtain⟨w',z⟩:=I.cell y c e
   exact⟨w',z.sameBut hs (cne y c e)⟩
  ·obtain⟨e,n,ne,nf,d⟩:=I.pin p hp
   exact⟨(hs.2 p.1 ne).trans e,n,ne,nf,d⟩
 ·have hfn:X.fn x=true:=by
   rcases hf with z|z
   ·exact z
   ·rw[z] at hk;cases hk
  obtain⟨c,hc⟩:=I.ok.has x (.inl hk)
  obtain⟨w',z⟩:=I.cell x c hc
  refine wpAny_storeName_cell I.ok.kind hk hc z (λh' hc' hs=>?_)
  obtain⟨oc,hoc,hocd⟩:=id z
  refine h { s with heap:=h' } ⟨I.ok,I.os,I.bare,⟨λb o e n hb hx=>?_,λb o e n hb hx=>?_,I.base.free,λb o e hx=>?_,I.base.tups,I.base.frzs,I.base.tbls⟩,⟨m,hn.sameBut hs (KJ (cne x c hc)),λj y v' e1 e2 e3=>?_⟩,λy c' e=>?_,I.free,I.freeC,λp hp=>?_,tracked ⟨oc,hoc,I.freeC x c hc⟩ hs,by simpa using I.len⟩ ⟨c,hs,.inr hc⟩
  ·exact(hs.2 b (Kf (JR (J2 e) (I.ok.cab x c hfn hc)))).trans (I.base.keep b o e n hb hx)
  ·obtain⟨sl,e1⟩:=I.base.slot b o e n hb hx
   exact⟨sl,(hs.2 b (Kf (JR (J2 e) (I.ok.cab x c hfn hc)))).trans e1⟩
  ·obtain⟨o',e1⟩:=I.base.there b o e hx
   exact⟨o',(hs.2 b (Kf (JR (J2 e) (I.ok.cab x c hfn hc)))).trans e1⟩
  ·by_cases hj:j=i
   ·subst hj
    rw[hi] at e1;cases e1
    rw[Kk hiσ] at e2
    cases e2
    exact⟨u,r,.inr ⟨.inl hk,c,hc,hc'⟩⟩
   ·rw[Kz (KJ hj)] at e2
    obtain⟨u',r',q⟩:=hl j y v' e1 e2 e3
    refine⟨u',r',?_⟩
    rcases q with q|⟨k,c',e,z'⟩
    ·exact .inl q
    ·refine .inr ⟨k,c',e,z'.sameBut hs ?_⟩
     rintro rfl
     exact hj (jd hN e1 (I.ok.inj _ _ _ e hc▸hi))
  ·by_cases hcc:c'=c
   ·subst hcc;exact⟨_,hc'⟩
   ·obtain⟨w2,z2⟩:=I.cell y c' e
    exact⟨w2,z2.sameBut hs hcc⟩
  ·obtain⟨e,n,ne,nf,d⟩:=I.pin p hp
   refine⟨(hs.2 p.1 ?_).trans e,n,ne,nf,d⟩
   intro q
   rw[q,hoc] at e
   have q':oc=p.2:=JV e
   exact d w' (by rw[<- q'];exact hocd)
theorem dB{M:Model}{A:Around}{E:Value->Shared->Prop}{i:Nat}{x:Str}{v:V}{u:Value}{Q:Unit->Shared->Prop}(I:Inv X pins σ H s)(hN:X.N.Nodup)(hi:X.N[i]?=some x)(hx:Loc X.env.scope x)(r:RelV v u)
  (h:∀s',Inv X pins (σ.set i (some v)) H s'->Q () s')(hf:X.fn x=true\/X.env.scope.names.lookup x=some .local:=by first|exact .inl rfl|exact .inr rfl|assumption):wpAny M A (storeName X.env x u) Q E s :=
 hU I hN hi hx r (λs' I' _=>h s' I') hf
theorem Inv.wI{s':Shared}{ch:List Addr}(I:Inv X pins σ H s)(ho:s'.os=s.os)(u:Un (frs X.stack) ch H H' s.heap s'.heap)(hok:HOk X.prog X.w H' s'.heap)(hg:AllBare s'.gens)
  (hch:∀b∈ch,(b∈X.ex\/X.s₀.heap.objs.size<=b)/\b≠X.env.locals/\(∀x c,X.env.cells.lookup x=some c->c≠b)/\∀p∈X.pn++pins,p.1≠b):Inv X pins σ H' s':=by
 obtain⟨h',g',d',t',o'⟩:=s'
 have e:o'=s.os:=ho
 subst e
 exact I.call (g':=g') (t':=t') (d':=d') u hok hg hch
end
noncomputable abbrev XK:=Value->Option Addr->Hp->Prop
noncomputable abbrev St:=List (Option V)
noncomputable abbrev VK:=V->Hp->Prop
noncomputable abbrev TE:=St->Hp->VK->Prop
noncomputable abbrev TT:=St->Hp->(Bool->Hp->Prop)->Prop
noncomputable abbrev TA:=St->Hp->(List V->Hp->Prop)->Prop
structure Ends where
 nx:St->Hp->Prop
 rt:VK
 bk:St->Hp->Prop:=λ_ _=>False
 ct:St->Hp->Prop:=λ_ _=>False
noncomputable abbrev TS:=Ends->St->Hp->Prop
def EP(X:Cx)(pins:List (Addr×Obj))(σ:St)(Q:VK)(u:Value)(s':Shared):Prop:=∃v H',Inv X pins σ H' s'/\RelV v u/\Q v H'
def TP(X:Cx)(pins:List (Addr×Obj))(σ:St)(Q:Bool->Hp->Prop)(b:Bool)(s':Shared):Prop:=∃H',Inv X pins σ H' s'/\Q b H'
def AP(X:Cx)(pins:List (Addr×Obj))(σ:St)(Q:List V->Hp->Prop)(us:List Value)(s':Shared):Prop:=∃vs H',Inv X pins σ H' s'/\Vals vs us/\Q vs H'
noncomputable def SP(X:Cx)(pins:List (Addr×Obj))(D:Ends)(f:Flow)(s':Shared):Prop :=
 match f with
 | .next=>∃σ' H',Inv X pins σ' H' s'/\D.nx σ' H'
 | .brk=>∃σ' H',Inv X pins σ' H' s'/\D.bk σ' H'
 | .cont=>∃σ' H',Inv X pins σ' H' s'/\D.ct σ' H'
 | .ret u=>∃v σ' H',Inv X pins σ' H' s'/\RelV v u/\D.rt v H'
noncomputable def PE(X:Cx)(e:Expr)(t:TE):Prop :=
 ∀(pins:List (Addr×Obj))(s:Shared)(σ:St)(H:Hp)(Q:VK),Inv X pins σ H s->t σ H Q->wpAny (model X.prog X.w) X.A (eval e X.env) (EP X pins σ Q) X.xe s
noncomputable def PT(X:Cx)(e:Expr)(t:TT):Prop :=
 ∀(pins:List (Addr×Obj))(s:Shared)(σ:St)(H:Hp)(Q:Bool->Hp->Prop),Inv X pins σ H s->t σ H Q->wpAny (model X.prog X.w) X.A (isTrue e X.env (eval e X.env)) (TP X pins σ Q) X.xe s
noncomputable def PW(X:Cx)(e:Expr)(t:TT):Prop :=
 ∀(whole:Sem Value)(pins:List (Addr×Obj))(s:Shared)(σ:St)(H:Hp)(Q:Bool->Hp->Prop),Inv X pins σ H s->t σ H Q->wpAny (model X.prog X.w) X.A (isTrue e X.env whole) (TP X pins σ Q) X.xe s
theorem PW.pt{X:Cx}{e:Expr}{t:TT}(h:PW X e t):PT X e t:=h _
noncomputable def PA(X:Cx)(es:List Expr)(t:TA):Prop :=
 ∀(pos:Pos)(pins:List (Addr×Obj))(s:Shared)(σ:St)(H:Hp)(Q:List V->Hp->Prop),Inv X pins σ H s->t σ H Q->wpAny (model X.prog X.w) X.A (spliced (backTo pos (starEach es X.env))) (AP X pins σ Q) X.xe s
noncomputable def PS(X:Cx)(st:Stmt)(t:TS):Prop :=
 ∀(pins:List (Addr×Obj))(s:Shared)(σ:St)(H:Hp)(D:Ends),Inv X pins σ H s->t D σ H->wpAny (model X.prog X.w) X.A (exec st X.env) (SP X pins D) X.xe s
noncomputable def PSs(X:Cx)(st:List Stmt)(t:TS):Prop :=
 ∀(pins:List (Addr×Obj))(s:Shared)(σ:St)(H:Hp)(D:Ends),Inv X pins σ H s->t D σ H->wpAny (model X.prog X.w) X.A (execs st X.env) (SP X pins D) X.xe s
theorem thn{α:Type}{t:Sem α}{Q Q':α->Shared->Prop}{M:Model}{A:Around}{E:Value->Shared->Prop}{s:Shared}(h:wpAny M A t Q E s)(hQ:∀a s,Q a s->Q' a s):wpAny M A t Q' E s:=wpAny_mono h hQ λ_ _ x=>x
end L2
namespace L2
open PySem PySem.Spec PyProof.Rows
section
variable{X:Cx}
theorem bin{a b:Expr}{ta tb:TE}(ha:PE X a ta)(hb:PE X b tb){pins:List (Addr×Obj)}{s:Shared}{σ:St}{H:Hp}{R:V->V->Hp->Prop}(I:Inv X pins σ H s)(h:ta σ H λx H1=>tb σ H1 λy H2=>R x y H2)
  {α:Type}{Q:α->Shared->Prop}{f:Value->Value->Sem α}
  (hf:∀v u s2 x y H2,Inv X pins σ H2 s2->RelV x v->RelV y u->R x y H2->wpAny (model X.prog X.w) X.A (f v u) Q X.xe s2) :
  wpAny (model X.prog X.w) X.A (eval a X.env) (λv s₁=>wpAny (model X.prog X.w) X.A (eval b X.env) (λu s₂=>wpAny (model X.prog X.w) X.A (f v u) Q X.xe s₂) X.xe s₁) X.xe s:=by
 refine thn (ha pins s σ H _ I h) λv s1 ⟨x,H1,I1,r1,q1⟩=>?_
 refine thn (hb pins s1 σ H1 _ I1 q1) λu s2 ⟨y,H2,I2,r2,q2⟩=>?_
 exact hf v u s2 x y H2 I2 r1 r2 q2
noncomputable def Ht(i:Nat):TE:=λσ H Q=>∃v,σ[i]?=some (some v)/\Q v H
noncomputable def tC(v:V):TE:=λ_ H Q=>Q v H
theorem dN{i:Nat}{x:Str}{pos:Pos}(hN:X.N[i]?=some x)(hv:Vis X.env.scope x)(hd:NDb x:=by decide)(hcd:NCd x:=by decide):PE X (.Name x pos) (Ht i):=by
 intro pins s σ H Q I h
 obtain⟨v,e,h⟩:=h
 obtain⟨m,hn,hl⟩:=I.loc
 obtain⟨u,r,l⟩:=hl i x v hN e hv
 have fin:EP X pins σ Q u s:=⟨v,H,I,r,h⟩
 rcases l with ⟨hk,hm⟩|⟨hk,c,hc,hcell⟩
 ·exact wpAny_Name (wpAny_loadName_local I.ok.kind hk hn hm fin) hd
 ·rcases hk with hk|hk
  ·exact wpAny_Name (wpAny_loadName_cell I.ok.kind hk hc hcell fin) hd
  ·exact wpAny_Name (wpAny_loadName_free I.ok.kind hk hc hcell fin hcd) hd
theorem CY{i j pos}:PE X (.Constant (.int i) j pos) (tC (.int i)):=λ_ _ _ H _ I h=>wpAny_Constant_int ⟨.int i,H,I.tok _,⟨_,rfl⟩,h⟩
theorem Fe{b j pos}:PE X (.Constant (.bool b) j pos) (tC (.bl b)):=λ_ _ _ H _ I h=>Constant_bool ⟨.bl b,H,I,rfl,h⟩
theorem D2{j pos}:PE X (.Constant .none j pos) (tC .non):=λ_ _ _ H _ I h=>Constant_none ⟨.non,H,I,rfl,h⟩
theorem BY{x j pos}:PE X (.Constant (.str x) j pos) (tC (.str x)):=λ_ _ _ H _ I h=>Calls.Constant_str ⟨.str x,H,I.tok _,⟨_,rfl⟩,h⟩
def Gl(X:Cx)(x:Str):Prop:=X.env.kindOf x=some .globalImplicit
theorem fz{E:Value->Shared->Prop}{pins:List (Addr×Obj)}{s:Shared}{σ:St}{H:Hp}{x:Str}{u:Value}{pos:Pos}{Q:Value->Shared->Prop}(I:Inv X pins σ H s)(hg:Gl X x)(hm:X.mg x=some u)(h:Q u s)
  (hd:NDb x:=by decide):wpAny (model X.prog X.w) X.A (eval (.Name x pos) X.env) Q E s :=
 Nh I.ok.kind hg (Calls.loadGlobal_global (by rw[I.ok.glob];exact I.mod.glob.keeps I.bk) hm h) hd
theorem lT{E:Value->Shared->Prop}{pins:List (Addr×Obj)}{s:Shared}{σ:St}{H:Hp}{x:Str}{u:Value}{pos:Pos}{Q:Value->Shared->Prop}(I:Inv X pins σ H s)(hg:Gl X x)(hm:X.mg x=none)(hv:bootBuiltins x=some u)(h:Q u s)
  (hn:x ≠ "__name__" := by decide)(hd:NDb x:=by decide):wpAny (model X.prog X.w) X.A (eval (.Name x pos) X.env) Q E s:=by
 obtain⟨mb,h1,h2⟩:=I.mod.blt
 exact Nh I.ok.kind hg (Calls.loadGlobal_builtin (by rw[I.ok.glob];exact I.mod.glob.keeps I.bk) hm (by rw[I.ok.blt];exact h1.keeps I.bk) ((h2 x hn).trans hv) h) hd
theorem lJ{x:Str}{v:V}{u:Value}{pos:Pos}(hg:Gl X x)(hm:X.mg x=some u)(r:RelV v u)(hd:NDb x:=by decide):PE X (.Name x pos) (tC v) :=
 λ_ _ _ H _ I h=>fz I hg hm ⟨v,H,I,r,h⟩ hd
theorem kO{x:Str}{v:V}{u:Value}{pos:Pos}(hg:Gl X x)(hm:X.mg x=none)(hv:bootBuiltins x=some u)(r:RelV v u)(hn:x ≠ "__name__" := by decide)(hd:NDb x:=by decide):PE X (.Name x pos) (tC v) :=
 λ_ _ _ H _ I h=>lT I hg hm hv ⟨v,H,I,r,h⟩ hn hd
variable{a b:Expr}{ta tb:TE}{pos:Pos}
noncomputable def PC(X:Cx)(op:CmpOp)(a b:Expr)(t:TE):Prop :=
 ∀(pins:List (Addr×Obj))(s:Shared)(σ:St)(H:Hp)(Q:VK),Inv X pins σ H s->t σ H Q ->
  wpAny (model X.prog X.w) X.A (eval a X.env) (λv s₁=>wpAny (model X.prog X.w) X.A (eval b X.env) (λu s₂=>wpAny (model X.prog X.w) X.A (compareOp op v u) (EP X pins σ Q) X.xe s₂) X.xe s₁) X.xe s
noncomputable def tB(t:TE):TT:=λσ H Q=>t σ H λx H1=>∃c,x=.bl c/\Q c H1
theorem wJ{op:CmpOp}{t:TE}(h:PC X op a b t)(h1:behindInMarks op b=false:=by first|exact nobehind _ (by decide) (by decide)|rfl):PE X (.Compare a [op] [b] pos) t:=λpins s σ H Q I hw=>wpAny_Compare1 (h pins s σ H Q I hw) h1
theorem vO{op:CmpOp}{t:TE}(h:PC X op a b t)(h1:behindInMarks op b=false:=by first|exact nobehind _ (by decide) (by decide)|rfl):PT X (.Compare a [op] [b] pos) (tB t):=by
 intro pins s σ H Q I hw
 refine wpAny_isTrue_Compare1 (thn (h pins s σ H _ I hw) λv s1 h1=>thn h1 λu s2 h2=>thn h2 λc s3 ⟨x,H1,I1,r1,q1⟩=>?_) h1
 obtain⟨d,rfl,q⟩:=q1
 cases r1
 exact wpAny_truthy_bool ⟨H1,I1,q⟩
theorem Bn{e:Expr}{t:TE}(h:PE X e t)(he:∀whole,isTrue e X.env whole=(do let v <- whole;standAt e.pos;holding [v] (truthy v)):=by intro _;rfl):PT X e (tB t):=by
 intro pins s σ H Q I hw
 refine isTrue_plain (thn (h pins s σ H _ I hw) λv s1 ⟨x,H1,I1,r1,q1⟩=>?_) (he _)
 obtain⟨d,rfl,q⟩:=q1
 cases r1
 exact wpAny_truthy_bool ⟨H1,I1,q⟩
variable{tA tB':TT}{rest:List Expr}
noncomputable def IY(t u:TT):TT:=λσ H Q=>t σ H λc H1=>if c=true then u σ H1 Q else Q false H1
noncomputable def tOr(t u:TT):TT:=λσ H Q=>t σ H λc H1=>if c=true then Q true H1 else u σ H1 Q
noncomputable def Jk(t:TT):TT:=λσ H Q=>t σ H λc H1=>Q (!c) H1
theorem yp(ha:PT X a tA):PW X (.BoolOp .And [a] pos) tA:=by
 intro wh pins s σ H Q I h
 refine isTrue_and (thn (ha pins s σ H Q I h) λc s1 e=>?_)
 cases c with
 | true=>exact isTrue_and_nil e
 | false=>exact e
theorem BP(ha:PT X a tA):PW X (.BoolOp .Or [a] pos) tA:=by
 intro wh pins s σ H Q I h
 refine isTrue_or (thn (ha pins s σ H Q I h) λc s1 e=>?_)
 cases c with
 | false=>exact isTrue_or_nil e
 | true=>exact e
theorem E2(ha:PT X a tA)(hb:PW X (.BoolOp .And (b::rest) pos) tB'):PW X (.BoolOp .And (a::b::rest) pos) (IY tA tB'):=by
 intro wh pins s σ H Q I h
 refine isTrue_and (thn (ha pins s σ H _ I h) λc s1 ⟨H1,I1,q1⟩=>?_)
 cases c with
 | true=>exact hb wh pins s1 σ H1 Q I1 q1
 | false=>exact⟨H1,I1,q1⟩
theorem E7(ha:PT X a tA)(hb:PW X (.BoolOp .Or (b::rest) pos) tB'):PW X (.BoolOp .Or (a::b::rest) pos) (tOr tA tB'):=by
 intro wh pins s σ H Q I h
 refine isTrue_or (thn (ha pins s σ H _ I h) λc s1 ⟨H1,I1,q1⟩=>?_)
 cases c with
 | true=>exact⟨H1,I1,q1⟩
 | false=>exact hb wh pins s1 σ H1 Q I1 q1
theorem C8(ha:PT X a tA):PT X (.UnaryOp .Not a pos) (Jk tA):=by
 intro pins s σ H Q I h
 exact isTrue_not (ha pins s σ H (λc H1=>Q (!c) H1) I h)
noncomputable def Fm(ta tb:TE):TE:=λσ H Q=>ta σ H λx H1=>∃c,x=.bl c/\if c=true then tb σ H1 Q else Q (.bl false) H1
noncomputable def IL(ta tb:TE):TE:=λσ H Q=>ta σ H λx H1=>∃c,x=.bl c/\if c=true then Q (.bl true) H1 else tb σ H1 Q
noncomputable def Fn(ta:TE):TE:=λσ H Q=>ta σ H λx H1=>∃c,x=.bl c/\Q (.bl (!c)) H1
theorem Dl{op}{t:TE}(h:PE X a t):PE X (.BoolOp op [a] pos) t:=λpins s σ H Q I hw=>BoolOp_one (h pins s σ H Q I hw)
theorem EG(ha:PE X a ta)(hb:PE X (.BoolOp .And (b::rest) pos) tb):PE X (.BoolOp .And (a::b::rest) pos) (Fm ta tb):=by
 intro pins s σ H Q I h
 refine BoolOp_and (thn (ha pins s σ H _ I h) λv s1 ⟨x,H1,I1,r1,q1⟩=>?_)
 obtain⟨c,rfl,q1⟩:=q1
 cases r1
 refine wpAny_truthy_bool ?_
 cases c with
 | true=>exact hb pins s1 σ H1 Q I1 q1
 | false=>exact⟨.bl false,H1,I1,rfl,q1⟩
theorem FN(ha:PE X a ta)(hb:PE X (.BoolOp .Or (b::rest) pos) tb):PE X (.BoolOp .Or (a::b::rest) pos) (IL ta tb):=by
 intro pins s σ H Q I h
 refine BoolOp_or (thn (ha pins s σ H _ I h) λv s1 ⟨x,H1,I1,r1,q1⟩=>?_)
 obtain⟨c,rfl,q1⟩:=q1
 cases r1
 refine wpAny_truthy_bool ?_
 cases c with
 | false=>exact hb pins s1 σ H1 Q I1 q1
 | true=>exact⟨.bl true,H1,I1,rfl,q1⟩
theorem BC(ha:PE X a ta):PE X (.UnaryOp .Not a pos) (Fn ta):=by
 intro pins s σ H Q I h
 refine UnaryOp_ (thn (ha pins s σ H _ I h) λv s1 ⟨x,H1,I1,r1,q1⟩=>?_)
 obtain⟨c,rfl,q1⟩:=q1
 cases r1
 exact not_of (wpAny_truthy_bool ⟨.bl (!c),H1,I1,rfl,q1⟩)
noncomputable def tIf(t:TT)(ta tb:TE):TE:=λσ H Q=>t σ H λc H1=>if c=true then ta σ H1 Q else tb σ H1 Q
theorem uT{c:Expr}(hc:PT X c tA)(ha:PE X a ta)(hb:PE X b tb):PE X (.IfExp c a b pos) (tIf tA ta tb):=by
 intro pins s σ H Q I h
 refine wpAny_IfExp (thn (hc pins s σ H _ I h) λd s1 ⟨H1,I1,q1⟩=>?_)
 cases d with
 | true=>exact ha pins s1 σ H1 Q I1 q1
 | false=>exact hb pins s1 σ H1 Q I1 q1
end
end L2
namespace L2
open PySem PySem.Spec PyProof.Rows
noncomputable def SqL(K:JH)(H:Hp)(a:Addr)(xs:List V):Prop :=
 Rd H a (.lst xs) \/
  ∃(o:Obj) (its:Array Value) (n:Nat),K.lookup a=some o/\o.cls=.type "list" /\ o.dict=none/\o.data=.seq its n/\its.size<=sizeLine/\Vals xs its.toList
noncomputable def SqT(K:JH)(H:Hp)(a:Addr)(xs:List V):Prop :=
 Rd H a (.tup xs) \/
  ∃(o:Obj) (its:Array Value) (n:Nat),K.lookup a=some o/\(o.cls=.type "tuple" /\ o.dict=none)/\o.data=.seq its n/\its.size<=sizeLine/\Vals xs its.toList
noncomputable def Iy:Value->Option V
 | .none=>some .non
 | .bool b=>some (.bl b)
 | .int i _=>some (.int i)
 | .str x _=>some (.str x)
 | .bytes b _=>some (.byt b)
 | .float b _=>some (.flt b)
 | .ref a=>some (.ref a)
 | .type n=>some (.ty n)
 | _=>none
theorem RelV.abs{x:V}{u:Value}(r:RelV x u):Iy u=some x:=by
 cases x with
 | non=>cases r;rfl
 | bl _=>cases r;rfl
 | int _=>obtain⟨t,rfl⟩:=r;rfl
 | str _=>obtain⟨t,rfl⟩:=r;rfl
 | byt _=>obtain⟨t,rfl⟩:=r;rfl
 | flt _=>obtain⟨t,rfl⟩:=r;rfl
 | ref _=>cases r;rfl
 | ty _=>cases r;rfl
theorem RelV.inj{x y:V}{u:Value}(r:RelV x u)(q:RelV y u):x=y:=JV (r.abs.symm.trans q.abs)
theorem Vals.inj:∀{xs ys:List V}{us:List Value},Vals xs us->Vals ys us->xs=ys
 | _,_,_,.nil,.nil=>rfl
 | _,_,_,.cons r t,.cons r' t'=>by rw[r.inj r',Vals.inj t t']
section
variable{X:Cx}{pins:List (Addr×Obj)}{σ:St}{H:Hp}{s:Shared}{a:Addr}{xs ys:List V}
theorem Inv.list(I:Inv X pins σ H s)(h:SqL X.K H a xs):∃its:List Value,Vals xs its/\PlainL s.heap a its.toArray/\xs.length<=sizeLine:=by
 rcases h with h|⟨o,its,n,hk,hc,hd,hs,hz,r⟩
 ·obtain⟨z,its,n,r,e⟩:=h.ok I.hok
  exact⟨its,r,⟨_,n,e,rfl,rfl,rfl⟩,z⟩
 ·refine⟨its.toList,r,⟨o,n,I.kIn a o hk,hc,hd,by simpa using hs⟩,?_⟩
  have e:=r.length
  simp only[Kv] at e
  omega
theorem Inv.tuple(I:Inv X pins σ H s)(h:SqT X.K H a xs):∃its:List Value,Vals xs its/\IsTup s.heap a its.toArray/\xs.length<=sizeLine:=by
 rcases h with h|⟨o,its,n,hk,hc,hs,hz,r⟩
 ·obtain⟨z,its,r,p⟩:=h.ok I.hok
  exact⟨its,r,p.t,z⟩
 ·refine⟨its.toList,r,⟨o,I.kIn a o hk,hc.1,n,by simpa using hs⟩,?_⟩
  have e:=r.length
  simp only[Kv] at e
  omega
theorem Inv.Cg(I:Inv X pins σ H s)(h:SqT X.K H a xs):∃its:List Value,Vals xs its/\cG s.heap a its.toArray/\xs.length<=sizeLine:=by
 rcases h with h|⟨o,its,n,hk,hc,hs,hz,r⟩
 ·obtain⟨z,its,r,p⟩:=h.ok I.hok
  exact⟨its,r,p,z⟩
 ·refine⟨its.toList,r,⟨o,I.kIn a o hk,hc.1,n,by simpa using hs,hc.2⟩,?_⟩
  have e:=r.length
  simp only[Kv] at e
  omega
theorem Inv.nu(I:Inv X pins σ H s)(h:SqL X.K H a xs)(h':SqL X.K H a ys):xs=ys:=by
 obtain⟨its,r,⟨o,n,e,_,_,d⟩,_⟩:=I.list h
 obtain⟨its',r',⟨o',n',e',_,_,d'⟩,_⟩:=I.list h'
 rw[e] at e';cases e'
 rw[d] at d'
 injection d' with d1 _
 have:its=its':=by simpa using congrArg Pg d1
 subst this
 exact r.inj r'
theorem Inv.kG(I:Inv X pins σ H s)(h:SqT X.K H a xs)(h':SqT X.K H a ys):xs=ys:=by
 obtain⟨its,r,⟨o,e,_,n,d⟩,_⟩:=I.tuple h
 obtain⟨its',r',⟨o',e',_,n',d'⟩,_⟩:=I.tuple h'
 rw[e] at e';cases e'
 rw[d] at d'
 injection d' with d1 _
 have:its=its':=by simpa using congrArg Pg d1
 subst this
 exact r.inj r'
end
noncomputable abbrev Cx.hV(X:Cx)(E:Value->Shared->Prop):Cx:={ X with xe:=E }
noncomputable abbrev Cx.nox(X:Cx):Cx:=X.hV λ_ _=>False
theorem Cx.Ok.hV{X:Cx}(ok:X.Ok)(E:Value->Shared->Prop):(X.hV E).Ok :=
 ⟨ok.mod,ok.kind,ok.glob,ok.blt,ok.above,ok.inj,ok.has,ok.cab,ok.hd,ok.frames,ok.stk,ok.exf,ok.bs,ok.bsz,ok.noex,ok.exfs,ok.fN,ok.frf⟩
theorem Cx.Ok.dP{X:Cx}{E:Value->Shared->Prop}(ok:(X.hV E).Ok):X.Ok :=
 ⟨ok.mod,ok.kind,ok.glob,ok.blt,ok.above,ok.inj,ok.has,ok.cab,ok.hd,ok.frames,ok.stk,ok.exf,ok.bs,ok.bsz,ok.noex,ok.exfs,ok.fN,ok.frf⟩
section
variable{X:Cx}{pins:List (Addr×Obj)}{σ:St}{H:Hp}{s:Shared}{E:Value->Shared->Prop}
theorem Inv.hV(I:Inv X pins σ H s)(E:Value->Shared->Prop):Inv (X.hV E) pins σ H s:=⟨I.ok.hV E,I.os,I.bare,I.base,I.loc,I.cell,I.free,I.freeC,I.pin,I.hok,I.len⟩
theorem Inv.dP(I:Inv (X.hV E) pins σ H s):Inv X pins σ H s:=⟨I.ok.dP,I.os,I.bare,I.base,I.loc,I.cell,I.free,I.freeC,I.pin,I.hok,I.len⟩
end
section
variable{X:Cx}{st:Stmt}{rest:List Stmt}{t u:TS}{e:Expr}{te:TE}{pos:Pos}
noncomputable def AA:TS:=λD σ H=>D.nx σ H
noncomputable def Jr(t u:TS):TS:=λD σ H=>t { D with nx:=u D } σ H
theorem zB:PSs X [] AA:=λ_ _ σ H _ I h=>wpAny_execs_nil ⟨σ,H,I,h⟩
theorem uB(h1:PS X st t)(h2:PSs X rest u):PSs X (st::rest) (Jr t u):=by
 intro pins s σ H D I h
 refine wpAny_execs_cons (thn (h1 pins s σ H { D with nx:=u D } I h) λf s1 q=>?_)
 cases f with
 | next =>
  obtain⟨σ',H',I',q⟩:=q
  exact h2 pins s1 σ' H' D I' q
 | ret v=>exact q
 | brk=>exact q
 | cont=>exact q
theorem yh(h1:PS X st t):PSs X [st] t:=by
 intro pins s σ H D I h
 refine wpAny_execs_cons (thn (h1 pins s σ H D I h) λf s1 q=>?_)
 cases f with
 | next=>exact wpAny_execs_nil q
 | ret v=>exact q
 | brk=>exact q
 | cont=>exact q
noncomputable def Ct:TS:=λD σ H=>D.bk σ H
noncomputable def FX:TS:=λD σ H=>D.ct σ H
theorem z6:PS X (.Pass pos) AA:=λ_ _ σ H _ I h=>wpAny_Pass ⟨σ,H,I,h⟩
theorem tG:PS X (.Break pos) Ct:=λ_ _ σ H _ I h=>wpAny_Break ⟨σ,H,I,h⟩
theorem nK:PS X (.Continue pos) FX:=λ_ _ σ H _ I h=>wpAny_Continue ⟨σ,H,I,h⟩
theorem Inv.quiet{pins:List (Addr×Obj)}{σ:St}{H:Hp}{s:Shared}(I:Inv X pins σ H s):interactive X.env=false:=by simp[interactive,I.ok.kind]
noncomputable def Gs(te:TE):TS:=λD σ H=>te σ H λ_ H1=>D.nx σ H1
theorem zc(he:PE X e te)(hs:swapsWith e none pos.line X.env=pure false:=by rfl):PS X (.Expr e pos) (Gs te):=by
 intro pins s σ H D I h
 exact wpAny_Expr_any (thn (he pins s σ H _ I h) λv s1 ⟨x,H1,I1,r1,q1⟩=>⟨σ,H1,I1,q1⟩) I.quiet hs
noncomputable def IX(te:TE):TS:=λD σ H=>te σ H D.rt
theorem Dg(he:PE X e te):PS X (.Return (some e) pos) (IX te):=by
 intro pins s σ H D I h
 exact wpAny_Return_some (thn (he pins s σ H _ I h) λv s1 ⟨x,H1,I1,r1,q1⟩=>⟨x,σ,H1,I1,r1,q1⟩)
noncomputable def Fq:TS:=λD _ H=>D.rt .non H
theorem Ak:PS X (.Return none pos) Fq:=λ_ _ σ H _ I h=>wpAny_Return_none ⟨.non,σ,H,I,rfl,h⟩
noncomputable def IA(c:TT)(t u:TS):TS:=λD σ H=>c σ H λb H1=>if b=true then t D σ H1 else u D σ H1
theorem GX{c:Expr}{a b:List Stmt}{tc:TT}(hc:PT X c tc)(ha:PSs X a t)(hb:PSs X b u):PS X (.If c a b pos) (IA tc t u):=by
 intro pins s σ H D I h
 refine wpAny_If (thn (hc pins s σ H _ I h) λd s1 ⟨H1,I1,q1⟩=>?_)
 cases d with
 | true=>exact ha pins s1 σ H1 D I1 q1
 | false=>exact hb pins s1 σ H1 D I1 q1
end
noncomputable abbrev TG:=V->St->Hp->(St->Hp->Prop)->Prop
noncomputable abbrev TGs:=List V->St->Hp->(St->Hp->Prop)->Prop
noncomputable def PG(X:Cx)(target:Expr)(t:TG):Prop :=
 ∀(pins:List (Addr×Obj))(s:Shared)(σ:St)(H:Hp)(v:V)(u:Value)(Q:St->Hp->Prop),Inv X pins σ H s->RelV v u->t v σ H Q ->
  wpAny (model X.prog X.w) X.A (assign target X.env u) (λ_ s'=>∃σ' H',Inv X pins σ' H' s'/\Q σ' H') X.xe s
noncomputable def PGs(X:Cx)(ts:List Expr)(t:TGs):Prop :=
 ∀(pins:List (Addr×Obj))(s:Shared)(σ:St)(H:Hp)(vs:List V)(us:List Value)(Q:St->Hp->Prop),Inv X pins σ H s->Vals vs us->t vs σ H Q ->
  wpAny (model X.prog X.w) X.A (assignInOrder ((assignEach ts X.env).map (·.2)) us) (λ_ s'=>∃σ' H',Inv X pins σ' H' s'/\Q σ' H') X.xe s
noncomputable abbrev Ea:=V->V->V->Hp->(Hp->Prop)->Prop
noncomputable def Ih(X:Cx)(t:Ea):Prop :=
 ∀(pins:List (Addr×Obj))(s:Shared)(σ:St)(H:Hp)(o i v:V)(ov iv u:Value)(Q:Hp->Prop),Inv X pins σ H s->RelV o ov->RelV i iv->RelV v u->t o i v H Q ->
  wpAny (model X.prog X.w) X.A (setItem ov iv u) (λ_ s'=>∃H',Inv X pins σ H' s'/\Q H') X.xe s
section
variable{X:Cx}{pos:Pos}
noncomputable def qR(i:Nat):TG:=λv σ H Q=>Q (σ.set i (some v)) H
theorem zp{i:Nat}{x:Str}(hN:X.N.Nodup)(hi:X.N[i]?=some x)(hx:Loc X.env.scope x)(hf:X.fn x=true\/X.env.scope.names.lookup x=some .local:=by first|exact .inl rfl|exact .inr rfl|assumption):PG X (.Name x pos) (qR i):=by
 intro pins s σ H v u Q I r h
 exact wpAny_assign_Name (dB I hN hi hx r (λs' I'=>⟨_,H,I',h⟩) hf)
noncomputable def Iq:TGs:=λvs σ H Q=>vs=[]/\Q σ H
noncomputable def AF(t:TG)(u:TGs):TGs:=λvs σ H Q=>∃v r,vs=v::r/\t v σ H λσ' H'=>u r σ' H' Q
theorem xW:PGs X [] Iq:=by
 intro pins s σ H vs us Q I r h
 obtain⟨e,h⟩:=h
 subst e
 cases r
 exact assignInOrder_nil ⟨σ,H,I,h⟩
theorem wY{e:Expr}{es:List Expr}{t:TG}{u:TGs}(h1:PG X e t)(h2:PGs X es u)
  (hs:(assignEach (e::es) X.env).map (·.2)=assign e X.env::(assignEach es X.env).map (·.2):=by rfl):PGs X (e::es) (AF t u):=by
 intro pins s σ H vs us Q I r h
 obtain⟨v,vr,e1,h⟩:=h
 subst e1
 cases r with
 | cons r rr =>
  rw[hs]
  refine assignInOrder_cons (thn (h1 pins s σ H _ _ _ I r h) λ_ s1 ⟨σ1,H1,I1,q1⟩=>?_)
  exact h2 pins s1 σ1 H1 _ _ Q I1 rr q1
noncomputable def Jw(K:JH)(n:Nat)(t:TGs):TG:=λv σ H Q=>∃a xs,v=.ref a/\SqT K H a xs/\xs.length=n/\t xs σ H Q
theorem CC{es:List Expr}{k:Nat}{t:TGs}{n:Nat}(hc:X.calm=true)(h:PGs X es t)
  (hn:(assignEach es X.env).length=n:=by rfl)(hst:(assignEach es X.env).findIdx? (·.1)=none:=by rfl):PG X (.Tuple es k pos) (Jw X.K n t):=by
 intro pins s σ H v u Q I r hw
 obtain⟨a,xs,e1,hq,hl,hw⟩:=hw
 subst e1
 cases r
 obtain⟨its,rv,ht,hz⟩:=I.tuple hq
 refine assign_Tuple_tuple (I.ok.hd hc) ht (by simp[hn,<- hl,rv.length]) hst λh' hx=>?_
 have I1:Inv X pins σ H { s with heap:=h' }:=I.kept (t':=s.toks) λb o e=>hx b o (Kf (J2 e)) e
 exact h pins _ σ H xs _ Q I1 (by simpa using rv) hw
noncomputable def Hb(to ti:TE)(t:Ea):TG:=λv σ H Q=>to σ H λo H1=>ti σ H1 λi H2=>t o i v H2 λH3=>Q σ H3
theorem Cw{o i:Expr}{to ti:TE}{t:Ea}(ho:PE X o to)(hi:PE X i ti)(hs:Ih X t)
  (ha:∀v,assign (.Subscript o i pos) X.env v=(do
   let ov <- holding [v] (eval o X.env)
   let iv <- holding [v,ov] (eval i X.env)
   standAt pos
   holding [v,ov,iv] (setItem ov iv v)
   release [v,ov,iv] []):=by intro _;rfl):PG X (.Subscript o i pos) (Hb to ti t):=by
 intro pins s σ H v u Q I r h
 rw[ha]
 refine wpAny_bind (wpAny_holding (thn (ho pins s σ H _ I h) λov s1 ⟨x,H1,I1,r1,q1⟩=>?_))
 refine wpAny_bind (wpAny_holding (thn (hi pins s1 σ H1 _ I1 q1) λiv s2 ⟨y,H2,I2,r2,q2⟩=>?_))
 refine wpAny_bind (wpAny_standAt (wpAny_bind (wpAny_holding (thn (hs pins s2 σ H2 x y v ov iv u _ I2 r1 r2 r q2) λ_ s3 ⟨H3,I3,q3⟩=>?_))))
 exact wpAny_release ⟨σ,H3,I3,q3⟩
noncomputable def rM(te:TE)(g:TG):TS:=λD σ H=>te σ H λx H1=>g x σ H1 D.nx
theorem vT{tg e:Expr}{te:TE}{g:TG}(he:PE X e te)(hg:PG X tg g)(hs:swapsWithSole [tg] e pos.line X.env=pure false:=by rfl)(hw:swappedStores [tg] e X.env=pure none:=by rfl)
  (h1:(assignEach [tg] X.env).map (·.2)=[assign tg X.env]:=by rfl):PS X (.Assign [tg] e pos) (rM te g):=by
 intro pins s σ H D I h
 refine wpAny_Assign_stores (thn (he pins s σ H _ I h) λv s1 ⟨x,H1,I1,r1,q1⟩=>?_) hs hw
 rw[h1]
 exact thn (hg pins s1 σ H1 x v _ I1 r1 q1) λ_ s2 q=>q
theorem ER{i:Nat}{x:Str}{e:Expr}{te:TE}{pos':Pos}(hN:X.N.Nodup)(hi:X.N[i]?=some x)(hx:Loc X.env.scope x)(he:PE X e te)(hs:swapsWith e (some (.Name x pos')) pos.line X.env=pure false:=by rfl)(hf:X.fn x=true\/X.env.scope.names.lookup x=some .local:=by first|exact .inl rfl|exact .inr rfl|assumption) :
  PS X (.Assign [.Name x pos'] e pos) (rM te (qR i)):=by
 intro pins s σ H D I h
 refine wpAny_Assign_Name (thn (he pins s σ H _ I h) λv s1 ⟨y,H1,I1,r1,q1⟩=>?_) hs
 exact dB I1 hN hi hx r1 (λs2 I2=>⟨_,H1,I2,q1⟩) hf
noncomputable def HX(i j:Nat)(ta:TA):TS:=λD σ H=>ta σ H λvs H1=>∃v w,vs=[v,w]/\D.nx ((σ.set i (some v)).set j (some w)) H1
theorem EA{i j:Nat}{x y:Str}{a b:Expr}{ta:TA}{px py pt:Pos}{kt k2 pt2}(hc:X.calm=true)(hN:X.N.Nodup)(hi:X.N[i]?=some x)(hj:X.N[j]?=some y)(hij:i≠j)
  (hx:X.env.scope.names.lookup x=some .local)(hy:X.env.scope.names.lookup y=some .local)(ha:PA X [a,b] ta)
  (hw:swappedStores [.Tuple [.Name x px,.Name y py] kt pt] (.Tuple [a,b] k2 pt2) X.env=pure (some [x,y]))
  (hs:swapsWithSole [.Tuple [.Name x px,.Name y py] kt pt] (.Tuple [a,b] k2 pt2) pos.line X.env=pure false:=by rfl) :
  PS X (.Assign [.Tuple [.Name x px,.Name y py] kt pt] (.Tuple [a,b] k2 pt2) pos) (HX i j ta):=by
 intro pins s σ H D I h
 rw[exec_Assign_arm]
 refine wpAny_bind (wpAny_standAt ?_)
 rw[hs]
 refine wpAny_bind (wpAny_pure ?_)
 rw[if_neg (by decide)]
 refine wpAny_bind (Tuple_ (thn (ha _ pins s σ H _ I h) λus s1 ⟨vs,H1,I1,r1,q1⟩=>?_))
 obtain⟨v,w,e1,q1⟩:=q1
 subst e1
 obtain⟨u1,u2,rfl,rv,rw'⟩:∃u1 u2,us=[u1,u2]/\RelV v u1/\RelV w u2:=by
  cases r1 with
  | cons p q =>
   cases q with
   | cons p' q' =>
    cases q'
    exact⟨_,_,rfl,p,p'⟩
 refine wpAny_newObj_type ?_ (by show 2<=sizeLine;decide)
 have I2:Inv X pins σ H1 { s1 with heap:=s1.heap.push { cls:=.type "tuple",data:=.seq [u1,u2].toArray } }:=I1.kept (t':=s1.toks) λb o e=>JM _ e
 rw[hw]
 refine wpAny_bind (wpAny_pure ?_)
 show wpAny (model X.prog X.w) X.A (do rule "assign.swapped-stores";let items <- unpackItems (.ref s1.heap.objs.size) 2 none;assignInOrder [λv=>bindName X.env y v,λv=>bindName X.env x v] items.reverse;pure Qq) _ _ _
 refine wpAny_bind (wpAny_rule (wpAny_bind (unpackItems_tuple (items:=#[u1,u2]) (I.ok.hd hc) (IsTup.new s1.heap _) λh' hx'=>?_)))
 have I3:=I2.kept (h':=h') (t':=s1.toks) λb o e=>hx' b o (Kf (J2 e)) e
 show wpAny _ _ (assignInOrder [λv=>bindName X.env y v,λv=>bindName X.env x v] [u2,u1] >>= λ_=>pure Qq) _ _ _
 refine wpAny_bind (assignInOrder_cons (wpAny_bindName (dB I3 hN hj (.inl hy) rw' (λs2 I4=>?_) (.inr hy))))
 refine assignInOrder_cons (wpAny_bindName (dB I4 hN hi (.inl hx) rv (λs3 I5=>assignInOrder_nil (wpAny_pure ?_)) (.inr hx)))
 rw[List.set_comm _ _ (KJ hij)] at I5
 exact⟨_,H1,I5,q1⟩
end
section
variable{X:Cx}{pos:Pos}
noncomputable def Dw(c:TT)(tb:TS):TS:=λD σ H=>∃W:Nat->St->Hp->Prop,(∃m,W m σ H)/\∀m σ H,W m σ H ->
 c σ H λb H1=>if b=true then ∃N:St->Hp->Prop,(∀σ' H',N σ' H'->∃m',m'<m/\W m' σ' H')/\tb { D with nx:=N,ct:=N,bk:=D.nx } σ H1 else D.nx σ H1
theorem uD{c:Expr}{body:List Stmt}{tc:TT}{tb:TS}(hp:PassesOwn (model X.prog X.w) X.A X.env X.xe)(hc:PT X c tc)(hb:PSs X body tb):PS X (.While c body [] pos) (Dw tc tb):=by
 intro pins s σ H D I h
 obtain ⟨W,⟨m0,w0⟩,turn⟩:=h
 refine wpAny_While (codeAny_whileLoop (fun n s'=>∃ σ' H',Inv X pins σ' H' s' ∧ W n σ' H') ?_ m0 ⟨σ,H,I,w0⟩)
 rintro n s1 ⟨σ1,H1,I1,w1⟩
 refine wpAny_passesOwn hp (thn (hc pins s1 σ1 H1 _ I1 (turn n σ1 H1 w1)) fun b s2 ⟨H2,I2,q2⟩=>?_)
 cases b with
 | true =>
  obtain ⟨N,hN,q2⟩:=q2
  rw [if_pos rfl]
  refine wpAny_passesOwn hp (thn (hb pins s2 σ1 H2 _ I2 q2) fun f s3 q3=>?_)
  cases f with
  | next =>
   obtain⟨σ3,H3,I3,n3⟩:=q3
   obtain⟨m',hm,w3⟩:=hN σ3 H3 n3
   exact⟨m',hm,σ3,H3,I3,w3⟩
  | cont =>
   obtain⟨σ3,H3,I3,n3⟩:=q3
   obtain⟨m',hm,w3⟩:=hN σ3 H3 n3
   exact⟨m',hm,σ3,H3,I3,w3⟩
  | brk=>exact q3
  | ret v=>exact q3
 | false =>
  rw[if_neg Kc]
  exact wpAny_execs_nil ⟨σ1,H2,I2,q2⟩
end
structure It where
 go:Nat->Hp->Prop
 yld:Nat->Hp->V->Hp->Prop
 stop:Nat->Hp->Prop
noncomputable def gk(X:Cx)(pins:List (Addr×Obj))(H:Hp)(b:Addr):Prop :=
 H b=none/\b≠X.env.locals/\b∉X.fs/\(b∈X.ex\/X.s₀.heap.objs.size<=b)/\(∀x c,X.env.cells.lookup x=some c->c≠b)/\∀p∈X.pn++pins,p.1≠b
theorem Inv.rQ{X:Cx}{pins:List (Addr×Obj)}{σ:St}{H H':Hp}{s:Shared}{b:Addr}(I:Inv X pins σ H s)(hb:s.heap.objs.size<=b)(hn:H' b=none):gk X pins H' b:=by
 refine⟨hn,Po (JR I.lt hb),I.Hv hb,.inr (Kh I.sz hb),λx c e z=>?_,λp hp z=>?_⟩
 ·obtain⟨v,q⟩:=I.cell x c e
  exact absurd (JR q.lt (by rw[z];exact hb)) (Kp _)
 ·exact absurd (JR (J2 (I.pin p hp).1) (by rw[z];exact hb)) (Kp _)
structure Turn (P:Program) (w:World) (K:JH) (tg:Expr) (J:It) (fp:List Addr) (it:Addr) (tn:Nat->Heap->Prop):Prop where
 mem:it∈fp
 obj:∀i h,tn i h->∀b∈fp,∃o,h.get? b=some o/\∀v,o.data≠.cell v
 keep:∀i h h',tn i h->(∀b∈fp,∀o,h.get? b=some o->h'.get? b=some o)->tn i h'
 item:∀(X:Cx),X.prog=P->X.w=w->X.K=K->X.calm=true->∀(i:Nat)(pins:List (Addr×Obj))(s:Shared)(σ:St)(H:Hp)(E:Value->Shared->Prop),Inv X pins σ H s->(∀b∈fp,gk X pins H b)->tn i s.heap->J.go i H ->
  wpAny (model P w) X.A (pyNext (.ref it)) (λr s1=>∃u,r=some u /\
   wpAny (model P w) X.A (letOwnedTupleGo tg (.ref it) u) (λ_ s2=>∃x H',Inv X pins σ H' s2/\RelV x u/\J.yld i H x H'/\tn (i+1) s2.heap/\∀b∈fp,H' b=none) E s1) E s
 done:∀(X:Cx),X.prog=P->X.w=w->X.K=K->X.calm=true->∀(i:Nat)(pins:List (Addr×Obj))(s:Shared)(σ:St)(H:Hp)(E:Value->Shared->Prop),Inv X pins σ H s->(∀b∈fp,gk X pins H b)->tn i s.heap->J.stop i H ->
  wpAny (model P w) X.A (pyNext (.ref it)) (λr s1=>r=none/\Inv X pins σ H s1) E s
 self:∀(A:Around)(i:Nat)(s:Shared)(Q:Value->Shared->Prop)(E:Value->Shared->Prop),tn i s.heap->Q (.ref it) s->wpAny (model P w) A (pyIter (.ref it)) Q E s
noncomputable abbrev TI:=St->Hp->(It->Hp->Prop)->Prop
noncomputable def PIE(X:Cx)(pins:List (Addr×Obj))(σ:St)(tg:Expr)(R:It->Hp->Prop)(itv:Value)(s2:Shared):Prop :=
 ∃(it:Addr) (fp:List Addr) (tn:Nat->Heap->Prop) (J:It) (H':Hp),itv=.ref it/\Inv X pins σ H' s2/\Turn X.prog X.w X.K tg J fp it tn/\tn 0 s2.heap/\(∀b∈fp,gk X pins H' b)/\R J H'
noncomputable def PI(X:Cx)(tg iter:Expr)(wi:TI):Prop :=
 ∀(pins:List (Addr×Obj))(s:Shared)(σ:St)(H:Hp)(R:It->Hp->Prop),Inv X pins σ H s->wi σ H R ->
  wpAny (model X.prog X.w) X.A (eval iter X.env) (λv s1=>wpAny (model X.prog X.w) X.A (pyIter v) (PIE X pins σ tg R) X.xe s1) X.xe s
theorem my{M:Model}{A:Around}{E:Value->Shared->Prop}{s:Shared}{tg:Expr}{it:Addr}{u:Value}{o:Obj}{n:String}{vs:Array Value}{Q:Unit->Shared->Prop}(ho:s.heap.get? it=some o)(hc:o.cls=.type n)(hd:o.data=.fields vs)
    (hn:["enumerate", "zip", "dict_itemiterator", "dict_reverseitemiterator", "odict_iterator", "itertools.zip_longest", "itertools.pairwise"].contains n=false)(hQ:Q () s):wpAny M A (letOwnedTupleGo tg (.ref it) u) Q E s:=by
  unfold letOwnedTupleGo
  cases tg<;>first
    | exact wpAny_pure hQ
    | (cases u<;>first
        | exact wpAny_pure hQ
        | (refine wpAny_bind (wpAny_load ho ?_)
           rw[hc,hd]
           show wpAny M A (if (["enumerate", "zip", "dict_itemiterator", "dict_reverseitemiterator", "odict_iterator", "itertools.zip_longest", "itertools.pairwise"].contains n&&vs[0]?==some (rawInt _))=true then _ else _) Q E s
           rw[if_neg (by intro h;rw[hn,Ll] at h;cases h)]
           exact wpAny_pure hQ))
noncomputable def Itl(K:JH)(a:Addr):It :=
 ⟨λi H=>∃xs x,SqL K H a xs/\xs[i]?=some x,λi H x H'=>H'=H/\∀xs,SqL K H a xs->xs[i]?=some x,λi H=>∃xs,SqL K H a xs/\xs.length<=i⟩
noncomputable def Itt(K:JH)(a:Addr):It :=
 ⟨λi H=>∃xs x,SqT K H a xs/\xs[i]?=some x,λi H x H'=>H'=H/\∀xs,SqT K H a xs->xs[i]?=some x,λi H=>∃xs,SqT K H a xs/\xs.length<=i⟩
noncomputable def Itr(lo:Int)(n:Nat):It:=⟨λi _=>i<n,λi H x H'=>H'=H/\x=.int (lo+i),λi _=>n<=i⟩
theorem sd{P:Program}{w:World}{K:JH}{tg:Expr}(a it:Addr):Turn P w K tg (Itl K a) [it] it (λi h=>h.IsListIter it a i) where
 mem:=by simp
 obj:=λi h st b hb=>by
  have e:b=it:=by simpa using hb
  subst e
  obtain⟨o,e,c,d⟩:=st
  exact⟨o,e,λv z=>by rw[d] at z;cases z⟩
 keep:=λi h h' st k=>st.at λo e=>k it (by simp) o e
 item:=by
  intro X hP hw hK hc i pins s σ H E I hf st hg
  subst hP hw hK
  obtain⟨xs,x,hq,hx⟩:=hg
  obtain⟨its,rv,p,hz⟩:=I.list hq
  obtain⟨u,hu,ru⟩:=rv.get hx
  obtain⟨f0,f1,f2,f3,f4,f5⟩:=hf it (by simp)
  refine wpAny_pyNext_list_item st p.isList (x:=u) (by simpa using hu) λh' st' sb=>?_
  have I1:Inv X pins σ H { s with heap:=h' }:=I.turned (t':=s.toks) (λb o hb e=>(sb.2 b hb).trans e) f0 f1 f3 f4 f5
  obtain⟨o,e,c,d⟩:=id st'
  exact⟨u,rfl,my (s:={ s with heap:=h' }) e c d (by decide) ⟨x,H,I1,ru,⟨rfl,λys hy=>by rw[I.nu hy hq];exact hx⟩,st',λb hb=>(hf b hb).1⟩⟩
 done:=by
  intro X hP hw hK hc i pins s σ H E I hf st hg
  subst hP hw hK
  obtain⟨xs,hq,hx⟩:=hg
  obtain⟨its,rv,p,hz⟩:=I.list hq
  obtain⟨f0,f1,f2,f3,f4,f5⟩:=hf it (by simp)
  have hl:=rv.length
  exact wpAny_pyNext_list_end (I.ok.hd hc) st p.isList (by simp;omega) λh' eb=>⟨rfl,I.turned (t':=s.toks) (λb o hb e=>eb b o hb e) f0 f1 f3 f4 f5⟩
 self:=λ_ _ _ _ _ st h=>wpAny_pyIter_listiter st h
theorem n4{P:Program}{w:World}{K:JH}{tg:Expr}(a it:Addr):Turn P w K tg (Itt K a) [it] it (λi h=>h.IsTupleIter it a i) where
 mem:=by simp
 obj:=λi h st b hb=>by
  have e:b=it:=by simpa using hb
  subst e
  obtain⟨o,e,c,d⟩:=st
  exact⟨o,e,λv z=>by rw[d] at z;cases z⟩
 keep:=λi h h' st k=>st.at λo e=>k it (by simp) o e
 item:=by
  intro X hP hw hK hc i pins s σ H E I hf st hg
  subst hP hw hK
  obtain⟨xs,x,hq,hx⟩:=hg
  obtain⟨its,rv,p,hz⟩:=I.tuple hq
  obtain⟨u,hu,ru⟩:=rv.get hx
  obtain⟨f0,f1,f2,f3,f4,f5⟩:=hf it (by simp)
  refine wpAny_pyNext_tuple_item st (show s.heap.IsTuple a its.toArray from p) (x:=u) (by simpa using hu) λh' st' sb=>?_
  have I1:Inv X pins σ H { s with heap:=h' }:=I.turned (t':=s.toks) (λb o hb e=>(sb.2 b hb).trans e) f0 f1 f3 f4 f5
  obtain⟨o,e,c,d⟩:=id st'
  exact⟨u,rfl,my (s:={ s with heap:=h' }) e c d (by decide) ⟨x,H,I1,ru,⟨rfl,λys hy=>by rw[I.kG hy hq];exact hx⟩,st',λb hb=>(hf b hb).1⟩⟩
 done:=by
  intro X hP hw hK hc i pins s σ H E I hf st hg
  subst hP hw hK
  obtain⟨xs,hq,hx⟩:=hg
  obtain⟨its,rv,p,hz⟩:=I.tuple hq
  obtain⟨f0,f1,f2,f3,f4,f5⟩:=hf it (by simp)
  have hl:=rv.length
  exact wpAny_pyNext_tuple_end (I.ok.hd hc) st (show s.heap.IsTuple a its.toArray from p) (by simp;omega) λh' eb=>⟨rfl,I.turned (t':=s.toks) (λb o hb e=>eb b o hb e) f0 f1 f3 f4 f5⟩
 self:=λ_ _ _ _ _ st h=>wpAny_pyIter_tupleiter st h
theorem pH{P:Program}{w:World}{K:JH}{tg:Expr}(it:Addr)(lo:Int)(n:Nat):Turn P w K tg (Itr lo n) [it] it (λi h=>IsRangeIter h it (lo+(i:Nat)*1) ((n:Int)-(i:Nat)) 1) where
 mem:=by simp
 obj:=λi h st b hb=>by
  have e:b=it:=by simpa using hb
  subst e
  exact⟨_,st,λv z=>by
   have z':Data.fields _=Data.cell v:=z
   cases z'⟩
 keep:=λi h h' st k=>k it (by simp) _ st
 item:=by
  intro X hP hw hK hc i pins s σ H E I hf st hg
  subst hP hw hK
  obtain⟨f0,f1,f2,f3,f4,f5⟩:=hf it (by simp)
  have W:=Walks.range (prog:=X.prog) (w:=X.w) (I.ok.hd hc) it lo 1 n
  refine W.item i s _ _ hg st λv h' tk hv st' kk=>?_
  obtain⟨t,rfl⟩:=hv
  have I1:Inv X pins σ H { s with heap:=h',toks:=tk }:=I.turned (λb o hb e=>kk b o (by simpa using hb) e) f0 f1 f3 f4 f5
  refine⟨_,rfl,my (s:={ s with heap:=h',toks:=tk }) (n := "range_iterator") st' rfl rfl (by decide) ⟨.int (lo+i),H,I1,⟨t,?_⟩,⟨rfl,rfl⟩,st',λb hb=>(hf b hb).1⟩⟩
  rw[Int.mul_one]
 done:=by
  intro X hP hw hK hc i pins s σ H E I hf st hg
  subst hP hw hK
  obtain⟨f0,f1,f2,f3,f4,f5⟩:=hf it (by simp)
  exact wpAny_pyNext_range_end (I.ok.hd hc) st (by have:n<=i:=hg;omega) λh' eb=>⟨rfl,I.turned (t':=s.toks) (λb o hb e=>eb b o hb e) f0 f1 f3 f4 f5⟩
 self:=λ_ _ _ _ _ st h=>wpAny_pyIter_rangeiter st h
end L2
namespace L2
open PySem PySem.Spec PyProof.Rows
section
variable{X:Cx}{tg:Expr}
theorem tQ{pins:List (Addr×Obj)}{σ:St}{H:Hp}{s:Shared}{R:It->Hp->Prop}{E:Value->Shared->Prop}{lo hi:Int}{t u v:Tok}{tk:Nat}(I:Inv X pins σ H s)(h1:-(2^62)<=lo)(h2:lo<2^62)(h3:-(2^62)<=hi)(h4:hi<2^62)
  (q:R (Itr lo (hi-lo).toNat) H):wpAny (model X.prog X.w) X.A (pyIter (.ref s.heap.objs.size)) (PIE X pins σ tg R) E { s with heap:=s.heap.push { cls:=.type "range",data:=.fields #[.int lo t,.int hi u,.int 1 v] },toks:=tk }:=by
 refine wpAny_pyIter_range (IsRange.new ..) (small_one h1 h2 h3 h4) ?_
 have I1:Inv X pins σ H { s with heap:=s.heap.push { cls:=.type "range",data:=.fields #[.int lo t,.int hi u,.int 1 v] },toks:=tk }:=I.kept λb o e=>JM _ e
 refine⟨(s.heap.push { cls:=.type "range",data:=.fields #[.int lo t,.int hi u,.int 1 v] }).objs.size,[(s.heap.push { cls:=.type "range",data:=.fields #[.int lo t,.int hi u,.int 1 v] }).objs.size],_,_,H,rfl,
  I1.kept (t':=tk) λb o e=>JM _ e,pH _ lo (hi-lo).toNat,?_,λb hb=>?_,q⟩
 ·have e1:lo+((0:Nat):Int)*1=lo:=by simp
  have e2:(((hi-lo).toNat:Nat):Int)-((0:Nat):Int)=Pp lo hi 1:=by rw[rangeSize_one];split<;>omega
  show IsRangeIter _ _ (lo+((0:Nat):Int)*1) ((((hi-lo).toNat:Nat):Int)-((0:Nat):Int)) 1
  rw[e1,e2]
  exact Kb _ rfl
 ·have e:b=(s.heap.push { cls:=.type "range",data:=.fields #[.int lo t,.int hi u,.int 1 v] }).objs.size:=by simpa using hb
  subst e
  exact I1.rQ (J1 _) (I1.hok.fresh (J1 _))
noncomputable def GJ(ta:TA):TI:=λσ H R=>ta σ H λvs H1=>∃j:Int,vs=[.int j] /\ -(2^62)<=j/\j<2^62/\R (Itr 0 j.toNat) H1
theorem rY{a:Expr}{ta:TA}{p pos:Pos}(hg:Gl X "range")(hm:X.mg "range" = none)(ha:PA X [a] ta)(hs:starEach [a] X.env=[(false,eval a X.env)]:=by rfl):PI X tg (.Call (.Name "range" p) [a] [] pos) (GJ ta):=by
 intro pins s σ H R I h
 refine Call_ (lT I hg hm boot_range (ME (thn (ha pos pins s σ H _ I h) λus s1 ⟨vs,H1,I1,r1,q1⟩=>?_) hs rfl))
 obtain⟨j,e,q1,q2,q⟩:=q1
 subst e
 cases r1 with
 | cons r rr =>
  cases rr
  obtain⟨t,rfl⟩:=r
  exact call_range_1 (tQ I1 (by omega) (by omega) q1 q2 (by simpa using q))
noncomputable def IV(wi:TI)(g:TG)(tb:TS):TS:=λD σ H=>wi σ H λJ H1=>∃W:Nat->Nat->St->Hp->Prop,(∃m,W 0 m σ H1)/\∀i m σ H,W i m σ H ->
 (J.stop i H/\D.nx σ H)\/(J.go i H/\∃N:St->Hp->Prop,(∀σ' H',N σ' H'->∃m',m'<m/\W (i+1) m' σ' H')/\∀x H',J.yld i H x H'->g x σ H' λσ2 H2=>tb { D with nx:=N,ct:=N,bk:=D.nx } σ2 H2)
noncomputable def gZ(fp:List Addr)(h:Heap):List (Addr×Obj):=fp.filterMap λb=>(h.get? b).map λo=>(b,o)
theorem bT{fp:List Addr}{h:Heap}{b:Addr}{o:Obj}(hb:b∈fp)(e:h.get? b=some o):(b,o)∈gZ fp h:=LX.mpr ⟨b,hb,by rw[e];rfl⟩
theorem rJ{fp:List Addr}{h:Heap}{p:Addr×Obj}(hp:p∈gZ fp h):p.1∈fp/\h.get? p.1=some p.2:=by
 obtain⟨b,hb,e⟩:=LX.mp hp
 cases q:h.get? b with
 | none=>rw[q] at e;cases e
 | some o =>
  rw[q] at e
  have e':(b,o)=p:=JV e
  subst e'
  exact⟨hb,q⟩
theorem Inv.pinned{pins:List (Addr×Obj)}{σ:St}{H:Hp}{s:Shared}{fp:List Addr}(I:Inv X pins σ H s)(hf:∀b∈fp,gk X pins H b)(ho:∀b∈fp,∃o,s.heap.get? b=some o/\∀v,o.data≠.cell v):Inv X (pins++gZ fp s.heap) σ H s :=
 I.iI λp hp=>(J5.mp hp).elim (λz=>I.pin p (JL _ z)) λz=>by
  obtain⟨hb,e⟩:=rJ z
  obtain⟨f0,f1,f2,_⟩:=hf p.1 hb
  obtain⟨o,e',d⟩:=ho p.1 hb
  rw[e] at e';cases e'
  exact⟨e,f0,f1,f2,d⟩
theorem Inv.a9{pins pl:List (Addr×Obj)}{σ:St}{H:Hp}{s:Shared}(I:Inv X (pins++pl) σ H s):Inv X pins σ H s:=I.iI λp hp=>I.pin p (JL _ (Ka _ hp))
theorem oj{iter:Expr}{body:List Stmt}{wi:TI}{g:TG}{tb:TS}{pos:Pos}(hp:PassesOwn (model X.prog X.w) X.A X.env X.xe)(hc:X.calm=true)(hi:PI X tg iter wi)(hg:PG X tg g)(hb:PSs X body tb)
  (hs:∀x,foldedSetIterable iter X.env x=pure x:=by intro _;rfl):PS X (.For tg iter body [] pos) (IV wi g tb):=by
 intro pins s σ H D I h
 refine wpAny_For (thn (hi pins s σ H _ I h) λv s1 h1=>thn h1 λitv s2 h2=>?_) hs
 obtain⟨it,fp,tn,J,H2,e,I2,T,st2,f2,W,⟨m0,w0⟩,turn⟩:=h2
 subst e
 have stat:∀{H':Hp},(∀b∈fp,H' b=none)->∀b∈fp,gk X pins H' b:=λhn b hb=>⟨hn b hb,(f2 b hb).2⟩
 refine codeAny_forLoop_any (λn s'=>∃i σ' H',Inv X pins σ' H' s'/\tn i s'.heap/\(∀b∈fp,H' b=none)/\W i n σ' H') ?_ m0 ⟨0,σ,H2,I2,st2,λb hb=>(f2 b hb).1,w0⟩
 rintro n s3 ⟨i,σ3,H3,I3,st3,fr3,w3⟩
 rcases turn i n σ3 H3 w3 with ⟨stop,qn⟩|⟨go,N,hN,step⟩
 ·refine wpAny_passesOwn hp (thn (T.done X rfl rfl rfl hc i pins s3 σ3 H3 X.xe I3 (stat fr3) st3 stop) λr s4 ⟨hr,I4⟩=>?_)
  subst hr
  exact wpAny_execs_nil ⟨σ3,H3,I4,qn⟩
 ·refine wpAny_passesOwn hp (thn (T.item X rfl rfl rfl hc i pins s3 σ3 H3 X.xe I3 (stat fr3) st3 go) λr s4 ⟨u,hr,h4⟩=>?_)
  subst hr
  refine wpAny_passesOwn hp (thn h4 λ_ s5 ⟨x,H5,I5,r5,y5,st5,fr5⟩=>?_)
  have I5':=I5.pinned (stat fr5) (T.obj _ _ st5)
  refine wpAny_passesOwn hp (thn (hg _ s5 σ3 H5 x u _ I5' r5 (step x H5 y5)) λ_ s6 ⟨σ6,H6,I6,q6⟩=>?_)
  refine wpAny_passesOwn hp (thn (hb _ s6 σ6 H6 _ I6 q6) λf s7 q7=>?_)
  have again:∀{σ7:St}{H7:Hp},Inv X (pins++gZ fp s5.heap) σ7 H7 s7->N σ7 H7->∃m,m<n/\∃i σ' H',Inv X pins σ' H' s7/\tn i s7.heap/\(∀b∈fp,H' b=none)/\W i m σ' H':=λ{σ7 H7} I7 n7=>by
   obtain⟨m',hm,w7⟩:=hN σ7 H7 n7
   refine⟨m',hm,i+1,σ7,H7,I7.a9,T.keep _ _ _ st5 λb hb o e=>(I7.pin (b,o) (JL _ (JL _ (bT hb e)))).1,λb hb=>?_,w7⟩
   obtain⟨o,e,d⟩:=T.obj _ _ st5 b hb
   exact(I7.pin (b,o) (JL _ (JL _ (bT hb e)))).2.1
  cases f with
  | next=>obtain⟨σ7,H7,I7,n7⟩:=q7;exact again I7 n7
  | cont=>obtain⟨σ7,H7,I7,n7⟩:=q7;exact again I7 n7
  | brk=>obtain⟨σ7,H7,I7,q7⟩:=q7;exact⟨σ7,H7,I7.a9,q7⟩
  | ret v=>obtain⟨x7,σ7,H7,I7,r7,q7⟩:=q7;exact⟨x7,σ7,H7,I7.a9,r7,q7⟩
end
end L2
namespace L2
open PySem PySem.Spec PyProof.Rows
noncomputable abbrev R2:=V->V->Hp->VK->Prop
noncomputable def OpR(X:Cx)(f:Value->Value->Sem Value)(r:R2):Prop :=
 ∀(pins:List (Addr×Obj))(s:Shared)(σ:St)(H:Hp)(x y:V)(v u:Value)(Q:VK),Inv X pins σ H s->RelV x v->RelV y u->r x y H Q ->
  wpAny (model X.prog X.w) X.A (f v u) (EP X pins σ Q) X.xe s
noncomputable def UnR(X:Cx)(f:Value->Sem Value)(r:V->Hp->VK->Prop):Prop :=
 ∀(pins:List (Addr×Obj))(s:Shared)(σ:St)(H:Hp)(x:V)(v:Value)(Q:VK),Inv X pins σ H s->RelV x v->r x H Q ->
  wpAny (model X.prog X.w) X.A (f v) (EP X pins σ Q) X.xe s
noncomputable def aY(X:Cx)(f:Value)(r:List V->Hp->VK->Prop):Prop :=
 ∀(pins:List (Addr×Obj))(s:Shared)(σ:St)(H:Hp)(xs:List V)(us:List Value)(Q:VK),Inv X pins σ H s->Vals xs us->r xs H Q ->
  wpAny (model X.prog X.w) X.A (call f us) (EP X pins σ Q) X.xe s
noncomputable def tOp(r:R2)(ta tb:TE):TE:=λσ H Q=>ta σ H λx H1=>tb σ H1 λy H2=>r x y H2 Q
noncomputable def tUn(r:V->Hp->VK->Prop)(ta:TE):TE:=λσ H Q=>ta σ H λx H1=>r x H1 Q
noncomputable def rI(C:Int->Int->Prop)(g:Int->Int->V):R2:=λx y H Q=>∃i j,x=.int i/\y=.int j/\C i j/\Q (g i j) H
noncomputable def rI0(g:Int->Int->V):R2:=λx y H Q=>∃i j,x=.int i/\y=.int j/\Q (g i j) H
noncomputable def rU(g:Int->V):V->Hp->VK->Prop:=λx H Q=>∃i,x=.int i/\Q (g i) H
section
variable{X:Cx}{a b c:Expr}{ta tb tc:TE}{pos:Pos}
theorem Cc(ha:PE X a ta)(hb:PE X b tb){pins:List (Addr×Obj)}{s:Shared}{σ:St}{H:Hp}{R:V->V->Hp->Prop}(I:Inv X pins σ H s)
  (h:ta σ H λx H1=>tb σ H1 λy H2=>R x y H2){Q:Value->Shared->Prop}{f:Value->Value->Sem Value}
  (hf:∀v u s2 x y H2,Inv X pins σ H2 s2->RelV x v->RelV y u->R x y H2->wpAny (model X.prog X.w) X.A (f v u) Q X.xe s2) :
  wpAny (model X.prog X.w) X.A (eval a X.env) (λv s₁=>wpAny (model X.prog X.w) X.A (eval b X.env) (λu s₂=>wpAny (model X.prog X.w) X.A (f v u) Q X.xe s₂) X.xe s₁) X.xe s:=by
 refine thn (ha pins s σ H _ I h) λv s1 ⟨x,H1,I1,r1,q1⟩=>?_
 refine thn (hb pins s1 σ H1 _ I1 q1) λu s2 ⟨y,H2,I2,r2,q2⟩=>?_
 exact hf v u s2 x y H2 I2 r1 r2 q2
theorem Ik{op:Operator}{r:R2}(ho:OpR X (binaryOp op) r)(ha:PE X a ta)(hb:PE X b tb):PE X (.BinOp a op b pos) (tOp r ta tb):=by
 intro pins s σ H Q I h
 exact wpAny_BinOp (Cc ha hb I h λv u s2 x y H2 I2 rx ry q=>ho pins s2 σ H2 x y v u Q I2 rx ry q)
theorem Ib{op:UnaryOp}{r:V->Hp->VK->Prop}(ho:UnR X (unaryOp op) r)(ha:PE X a ta):PE X (.UnaryOp op a pos) (tUn r ta):=by
 intro pins s σ H Q I h
 exact UnaryOp_ (thn (ha pins s σ H _ I h) λv s1 ⟨x,H1,I1,r1,q1⟩=>ho pins s1 σ H1 x v Q I1 r1 q1)
theorem opI{f:Value->Value->Sem Value}{C:Int->Int->Prop}{g:Int->Int->Int}
  (rule:∀(i j:Int)(t u:Tok)(s:Shared)(Q:Value->Shared->Prop)(E:Value->Shared->Prop),C i j->Q (.int (g i j) s.toks) { s with toks:=s.toks+1 }->wpAny (model X.prog X.w) X.A (f (.int i t) (.int j u)) Q E s) :
  OpR X f (rI C λi j=>.int (g i j)):=by
 intro pins s σ H x y v u Q I rx ry h
 obtain⟨i,j,rfl,rfl,hc,q⟩:=h
 obtain⟨t,rfl⟩:=rx
 obtain⟨t',rfl⟩:=ry
 exact rule i j t t' s _ _ hc ⟨.int (g i j),H,I.tok _,⟨_,rfl⟩,q⟩
theorem HJ{f:Value->Value->Sem Value}{g:Int->Int->Int}
  (rule:∀(i j:Int)(t u:Tok)(s:Shared)(Q:Value->Shared->Prop)(E:Value->Shared->Prop),Q (.int (g i j) s.toks) { s with toks:=s.toks+1 }->wpAny (model X.prog X.w) X.A (f (.int i t) (.int j u)) Q E s) :
  OpR X f (rI0 λi j=>.int (g i j)):=by
 intro pins s σ H x y v u Q I rx ry h
 obtain⟨i,j,rfl,rfl,q⟩:=h
 obtain⟨t,rfl⟩:=rx
 obtain⟨t',rfl⟩:=ry
 exact rule i j t t' s _ _ ⟨.int (g i j),H,I.tok _,⟨_,rfl⟩,q⟩
theorem xM{f:Value->Value->Sem Value}{g:Int->Int->Bool}
  (rule:∀(i j:Int)(t u:Tok)(s:Shared)(Q:Value->Shared->Prop)(E:Value->Shared->Prop),Q (.bool (g i j)) s->wpAny (model X.prog X.w) X.A (f (.int i t) (.int j u)) Q E s) :
  OpR X f (rI0 λi j=>.bl (g i j)):=by
 intro pins s σ H x y v u Q I rx ry h
 obtain⟨i,j,rfl,rfl,q⟩:=h
 obtain⟨t,rfl⟩:=rx
 obtain⟨t',rfl⟩:=ry
 exact rule i j t t' s _ _ ⟨.bl (g i j),H,I,rfl,q⟩
def Fw(i j:Int):Prop:=0<=j/\j<=1000000/\i.natAbs<2^64
theorem BZ:OpR X (binaryOp .Add) (rI0 λi j=>.int (i+j)):=HJ λ_ _ _ _ _ _ _ q=>add_int q
theorem DA:OpR X (binaryOp .Sub) (rI0 λi j=>.int (i-j)):=HJ λ_ _ _ _ _ _ _ q=>sub_int q
theorem zv:OpR X (binaryOp .Mod) (rI (λ_ j=>j≠0) λi j=>.int (i.fmod j)):=opI λ_ _ _ _ _ _ _ hc q=>mod_int' hc q
theorem EN:OpR X (binaryOp .Pow) (rI Fw λi j=>.int (i^j.toNat)):=opI λ_ _ _ _ _ _ _ hc q=>pow_int_small hc.1 hc.2.1 hc.2.2 q
theorem unI{f:Value->Sem Value}{g:Int->Int}
  (rule:∀(i:Int)(t:Tok)(s:Shared)(Q:Value->Shared->Prop)(E:Value->Shared->Prop),Q (.int (g i) s.toks) { s with toks:=s.toks+1 }->wpAny (model X.prog X.w) X.A (f (.int i t)) Q E s) :
  UnR X f (rU λi=>.int (g i)):=by
 intro pins s σ H x v Q I rx h
 obtain⟨i,rfl,q⟩:=h
 obtain⟨t,rfl⟩:=rx
 exact rule i t s _ _ ⟨.int (g i),H,I.tok _,⟨_,rfl⟩,q⟩
theorem BV:UnR X (unaryOp .USub) (rU λi=>.int (-i)):=unI λ_ _ _ _ _ q=>neg_int q
end
section
variable{X:Cx}{a b c:Expr}{ta tb tc:TE}{pos:Pos}
theorem hJ{pins:List (Addr×Obj)}{σ:St}{H:Hp}{s:Shared}{Q:VK}{k k':Bool}(I:Inv X pins σ H s)(q:Q (.bl k) H)(e:k=k'):EP X pins σ Q (.bool k') s:=by
 subst e
 exact⟨.bl k,H,I,rfl,q⟩
theorem qU:OpR X (compareOp .Lt) (rI0 λi j=>.bl (decide (i<j))):=xM λ_ _ _ _ _ _ _ q=>lt_int q
theorem qT:OpR X (compareOp .LtE) (rI0 λi j=>.bl (decide (i<=j))):=xM λ_ _ _ _ _ _ _ q=>le_int q
theorem wZ:OpR X (compareOp .Gt) (rI0 λi j=>.bl (decide (j<i))):=xM λ_ _ _ _ _ _ _ q=>gt_int q
theorem um:OpR X (compareOp .GtE) (rI0 λi j=>.bl (decide (j<=i))):=xM λ_ _ _ _ _ _ _ q=>ge_int q
theorem jR:OpR X (compareOp .In) (λx y H Q=>∃i j,x=.str i/\y=.str j/\Q (.bl (!(Kn j i 0 j.length 1).isEmpty)) H):=by
 intro pins s σ H x y v u Q I rx ry h
 obtain⟨i,j,rfl,rfl,q⟩:=h
 obtain⟨t,rfl⟩:=rx
 obtain⟨t',rfl⟩:=ry
 exact in_str (hJ I q rfl)
theorem lD:OpR X (compareOp .Is) (λx y H Q=>y=.non/\Q (.bl (decide (x=.non))) H):=by
 intro pins s σ H x y v u Q I rx ry h
 obtain⟨rfl,q⟩:=h
 cases ry
 refine is_none_gen (hJ I q ?_)
 cases x<;>first
  | (cases rx;rfl)
  | (obtain⟨t,rfl⟩:=rx;rfl)
theorem iN:OpR X (compareOp .IsNot) (λx y H Q=>y=.non/\Q (.bl (!decide (x=.non))) H):=by
 intro pins s σ H x y v u Q I rx ry h
 obtain⟨rfl,q⟩:=h
 cases ry
 refine isnot_none_gen (hJ I q ?_)
 cases x<;>first
  | (cases rx;rfl)
  | (obtain⟨t,rfl⟩:=rx;rfl)
theorem gB:OpR X (compareOp .NotIn) (λx y H Q=>∃i j,x=.str i/\y=.str j/\Q (.bl (!(!(Kn j i 0 j.length 1).isEmpty))) H):=by
 intro pins s σ H x y v u Q I rx ry h
 obtain⟨i,j,rfl,rfl,q⟩:=h
 obtain⟨t,rfl⟩:=rx
 obtain⟨t',rfl⟩:=ry
 exact notIn_str (hJ I q rfl)
theorem aV(b:Expr){op:CmpOp}(h:op≠.In:=by decide)(h2:op≠.NotIn:=by decide):behindInMarks op b=false:=by
 have e1:(op==CmpOp.In)=false:=by cases op<;>first|rfl|exact absurd rfl h
 have e2:(op==CmpOp.NotIn)=false:=by cases op<;>first|rfl|exact absurd rfl h2
 cases b<;>simp[behindInMarks,e1,e2]
theorem Ap{op:CmpOp}{r:R2}(ho:OpR X (compareOp op) r)(ha:PE X a ta)(hb:PE X b tb)(hm:behindInMarks op b=false):PE X (.Compare a [op] [b] pos) (tOp r ta tb):=by
 intro pins s σ H Q I h
 exact wpAny_Compare1 (Cc ha hb I h λv u s2 x y H2 I2 rx ry q=>ho pins s2 σ H2 x y v u Q I2 rx ry q) hm
noncomputable def AN(t:TE):TT:=λσ H Q=>t σ H λx H'=>∃k,x=.bl k/\Q k H'
theorem xH{op:CmpOp}{r:R2}(ho:OpR X (compareOp op) r)(ha:PE X a ta)(hb:PE X b tb)(hm:behindInMarks op b=false):PT X (.Compare a [op] [b] pos) (AN (tOp r ta tb)):=by
 intro pins s σ H Q I h
 refine wpAny_isTrue_Compare1 (thn (ha pins s σ H _ I h) λv s1 ⟨x,H1,I1,r1,q1⟩=>thn (hb pins s1 σ H1 _ I1 q1) λu s2 ⟨y,H2,I2,r2,q2⟩ =>
  thn (ho pins s2 σ H2 x y v u _ I2 r1 r2 q2) λc s3 ⟨z,H3,I3,r3,k,e,q3⟩=>?_) hm
 subst e
 cases r3
 exact wpAny_truthy_bool ⟨H3,I3,q3⟩
noncomputable def pF(r r':R2)(ta tb tc:TE):TE:=λσ H Q=>ta σ H λx H1=>tb σ H1 λy H2=>r x y H2 λz H3=>∃k,z=.bl k /\
 (if k=true then tc σ H3 λw' H4=>r' y w' H4 Q else Q (.bl false) H3)
theorem vZ{op op':CmpOp}{r r':R2}(ho:OpR X (compareOp op) r)(ho':OpR X (compareOp op') r')(ha:PE X a ta)(hb:PE X b tb)(hc:PE X c tc)
  (hm:lastMarks [op,op'] [b,c]=false:=by with_unfolding_all rfl):PE X (.Compare a [op,op'] [b,c] pos) (pF r r' ta tb tc):=by
 intro pins s σ H Q I h
 refine Compare_chain (thn (ha pins s σ H _ I h) λv s1 ⟨x,H1,I1,r1,q1⟩=>chain_link (thn (hb pins s1 σ H1 _ I1 q1) λu s2 ⟨y,H2,I2,r2,q2⟩ =>
  thn (ho pins s2 σ H2 x y v u _ I2 r1 r2 q2) λd s3 ⟨z,H3,I3,r3,k,e,q3⟩=>?_)) hm
 subst e
 cases r3
 refine wpAny_truthy_bool ?_
 cases k with
 | false=>exact ite_ff ⟨.bl false,H3,I3,rfl,q3⟩
 | true=>exact ite_tt (chain_last (thn (hc pins s3 σ H3 _ I3 q3) λw' s4 ⟨z',H4,I4,r4,q4⟩=>ho' pins s4 σ H4 y z' u w' Q I4 r2 r4 q4))
theorem wK{op op':CmpOp}{r r':R2}(ho:OpR X (compareOp op) r)(ho':OpR X (compareOp op') r')(ha:PE X a ta)(hb:PE X b tb)(hc:PE X c tc)
  (hm:lastMarks [op,op'] [b,c]=false:=by with_unfolding_all rfl):PT X (.Compare a [op,op'] [b,c] pos) (AN (pF r r' ta tb tc)):=by
 intro pins s σ H Q I h
 refine isTrue_chain (thn (ha pins s σ H _ I h) λv s1 ⟨x,H1,I1,r1,q1⟩=>test_link (thn (hb pins s1 σ H1 _ I1 q1) λu s2 ⟨y,H2,I2,r2,q2⟩ =>
  thn (ho pins s2 σ H2 x y v u _ I2 r1 r2 q2) λd s3 ⟨z,H3,I3,r3,k,e,q3⟩=>?_)) hm
 subst e
 cases r3
 refine wpAny_truthy_bool ?_
 cases k with
 | false =>
  obtain⟨k',e',q'⟩:=q3
  cases e'
  exact ite_ff ⟨H3,I3,q'⟩
 | true =>
  refine ite_tt (test_last (thn (hc pins s3 σ H3 _ I3 q3) λw' s4 ⟨z',H4,I4,r4,q4⟩=>thn (ho' pins s4 σ H4 y z' u w' _ I4 r2 r4 q4) λd' s5 ⟨z2,H5,I5,r5,k2,e2,q5⟩=>?_))
  subst e2
  cases r5
  exact wpAny_truthy_bool ⟨H5,I5,q5⟩
theorem jy:(sizeLine:Nat)<2^63:=by rw[sizeLine_eq];decide
theorem oI:OpR X (binaryOp .Add) (λx y H Q=>∃i j,x=.str i/\y=.str j/\i.length+j.length<=sizeLine/\Q (.str (i++j)) H):=by
 intro pins s σ H x y v u Q I rx ry h
 obtain⟨i,j,rfl,rfl,hz,q⟩:=h
 obtain⟨t,rfl⟩:=rx
 obtain⟨t',rfl⟩:=ry
 exact add_str (λt' tk=>⟨.str (i++j),H,I.tok _,⟨_,rfl⟩,q⟩) hz
theorem vals1{x:V}{us:List Value}(r:Vals [x] us):∃u,us=[u]/\RelV x u:=by
 cases r with
 | cons r1 r2=>cases r2;exact⟨_,rfl,r1⟩
theorem vals2{x y:V}{us:List Value}(r:Vals [x,y] us):∃u w',us=[u,w']/\RelV x u/\RelV y w':=by
 cases r with
 | cons r1 r2 =>
  cases r2 with
  | cons r3 r4=>cases r4;exact⟨_,_,rfl,r1,r3⟩
theorem vN:aY X (.builtin "abs") (λxs H Q=>∃i,xs=[.int i]/\Q (.int (if i<0 then -i else i)) H):=by
 intro pins s σ H xs us Q I r h
 obtain⟨i,rfl,q⟩:=h
 obtain⟨u,rfl,t,rfl⟩:=vals1 r
 exact call_abs_int λu tk=>⟨.int (if i<0 then -i else i),H,I.tok _,⟨_,rfl⟩,q⟩
theorem sg(hc:X.calm=true):aY X (.builtin "max") (λxs H Q=>∃i j,xs=[.int i,.int j]/\Q (.int (if j > i then j else i)) H):=by
 intro pins s σ H xs us Q I r h
 obtain⟨i,j,rfl,q⟩:=h
 obtain⟨u,w',rfl,⟨t,rfl⟩,⟨t',rfl⟩⟩:=vals2 r
 refine max_two_ints (I.ok.hd hc) λh' tk k=>⟨_,H,I.kept k,?_,q⟩
 by_cases hj:j > i
 ·rw[if_pos hj,if_pos hj];exact⟨_,rfl⟩
 ·rw[if_neg hj,if_neg hj];exact⟨_,rfl⟩
theorem sk(hc:X.calm=true):aY X (.builtin "min") (λxs H Q=>∃i j,xs=[.int i,.int j]/\Q (.int (if j<i then j else i)) H):=by
 intro pins s σ H xs us Q I r h
 obtain⟨i,j,rfl,q⟩:=h
 obtain⟨u,w',rfl,⟨t,rfl⟩,⟨t',rfl⟩⟩:=vals2 r
 refine min_two_ints (I.ok.hd hc) λh' tk k=>⟨_,H,I.kept k,?_,q⟩
 by_cases hj:j<i
 ·rw[if_pos hj,if_pos hj];exact⟨_,rfl⟩
 ·rw[if_neg hj,if_neg hj];exact⟨_,rfl⟩
theorem sF:aY X (.type "int") (λxs H Q=>(∃i,xs=[.int i]/\Q (.int i) H)\/∃k,xs=[.bl k]/\Q (.int (if k then 1 else 0)) H):=by
 intro pins s σ H xs us Q I r h
 rcases h with ⟨i,rfl,q⟩|⟨k,rfl,q⟩
 ·obtain⟨u,rfl,t,rfl⟩:=vals1 r
  exact call_int_int ⟨.int i,H,I,⟨_,rfl⟩,q⟩
 ·obtain⟨u,rfl,r1⟩:=vals1 r
  cases r1
  exact call_int_bool ⟨.int (if k then 1 else 0),H,I.tok _,⟨_,rfl⟩,q⟩
noncomputable def G7(K:JH)(x:V)(H:Hp)(n:Nat):Prop :=
 match x with
 | .str y=>y.length<=sizeLine/\n=y.length
 | .byt y=>y.size<=sizeLine/\n=y.size
 | .ref p=>(∃xs,SqL K H p xs/\n=xs.length)\/∃xs,SqT K H p xs/\n=xs.length
 | _=>False
theorem tU:aY X (.builtin "len") (λxs H Q=>∃x n,xs=[x]/\G7 X.K x H n/\Q (.int n) H):=by
 intro pins s σ H xs us Q I r h
 obtain⟨x,n,rfl,e,q⟩:=h
 obtain⟨u,rfl,rx⟩:=vals1 r
 have hl:=jy
 have hs:sizeLine=16777216:=sizeLine_eq
 cases x with
 | str y =>
  obtain⟨t,rfl⟩:=rx
  obtain⟨hy,e'⟩:y.length<=sizeLine/\n=y.length:=e
  subst e'
  exact len_str (by omega) ⟨.int _,H,I.tok _,⟨_,rfl⟩,q⟩
 | byt y =>
  obtain⟨t,rfl⟩:=rx
  obtain⟨hy,e'⟩:y.size<=sizeLine/\n=y.size:=e
  subst e'
  exact PySem.W.len_bytes (by omega) ⟨.int _,H,I.tok _,⟨_,rfl⟩,q⟩
 | ref p =>
  cases rx
  have e':(∃xs,SqL X.K H p xs/\n=xs.length)\/∃xs,SqT X.K H p xs/\n=xs.length:=e
  rcases e' with ⟨xs,hx,e'⟩|⟨xs,hx,e'⟩
  ·subst e'
   obtain⟨its,r',pl,hz⟩:=I.list hx
   have hlen:=r'.length
   exact Calls.call_len_list pl.isList (by simp only[JO];omega) ⟨.int xs.length,H,I.tok _,⟨_,by simp only[JO];rw[hlen]⟩,q⟩
  ·subst e'
   obtain⟨its,r',pl,hz⟩:=I.tuple hx
   have hlen:=r'.length
   exact len_tuple pl (by simp only[JO];omega) ⟨.int xs.length,H,I.tok _,⟨_,by simp only[JO];rw[hlen]⟩,q⟩
 | _=>exact(show False from e).elim
end
end L2
namespace L2
open PySem PySem.Spec PyProof.Rows
structure DM (h:Heap) (x dx C:Addr) (mA:Str->Option Value):Prop where
 obj:h.get? x=some (MY C dx)
 ns:h.Ns1 dx mA
 ne:dx≠x
theorem rG{h:Heap}{dx:Addr}{mA:Str->Option Value}(n:h.Ns1 dx mA):∃od,h.get? dx=some od/\∀name,M7 name od=some (mA name):=by
 obtain⟨o,es,ep,ho,hd,hk,_,hm⟩:=n
 refine⟨o,ho,λname=>?_⟩
 have e:=hm name
 unfold nsFind findBy at e
 rw[<- Array.find?_toList] at e
 unfold M7
 rw[hd]
 dsimp only
 split
 ·rename_i y q
  rw[q] at e
  exact congrArg some e
 ·rename_i q
  rw[q] at e
  have a:es.toList.any (·.refKey)=false:=by
   rw[OI]
   intro y hy
   obtain⟨z,t,hkey⟩:=hk y (Array.mem_toList_iff.mp hy)
   simp[DictEntry.refKey,hkey]
  have a':¬ es.toList.any (·.refKey)=true:=by rw[a];exact Kc
  rw[if_neg a']
  exact congrArg some e
theorem DM.look{h:Heap}{x dx C:Addr}{mA:Str->Option Value}(I:DM h x dx C mA):∃od,PySem.W.InstAt h x (MY C dx) C (some od)/\∀name,M7 name od=some (mA name) :=
 let ⟨od,ho,hl⟩:=rG I.ns
 ⟨od,⟨I.obj,rfl,rfl,ho⟩,hl⟩
theorem fL.some_of{v:V}{o:Option Value}(r:fL (some v) o):∃u,o=some u/\RelV v u:=by
 cases o with
 | none=>exact(show False from r).elim
 | some u=>exact⟨u,rfl,r⟩
theorem fL.none_of{o:Option Value}(r:fL none o):o=none:=by
 cases o with
 | none=>rfl
 | some u=>exact(show False from r).elim
section
variable{P:Program}{w:World}{H H':Hp}{h h':Heap}{a C dx:Addr}{fs fs':List (Str×V)}
theorem yF(hok:HOk P w H h)(e:H a=some (.ins C dx fs)):∃mA,DM h a dx C mA/\(∀f,fL (fs.lookup f) (mA f))/\Pf mA (fs.map (·.1))/\fs.length<=1000/\H dx=some (.own a):=by
 obtain⟨d,z,ne,ob,mA,n,r,q⟩:=(show aK P w H h a (.ins C dx fs) from hok a _ e)
 exact⟨mA,⟨ob,n,ne⟩,r,q,z,d⟩
end
structure Cls (K:JH) (C:Addr):Prop where
 pg:MN K C M8=true
 hd:Of K C=true
 po:Og K C=true
 sa:KO K (.ref C) "__setattr__" = some (some (.builtin "object.__setattr__"))
theorem Cls.get{K:JH}{C:Addr}(c:Cls K C)(f:Str):MN K C f=true:=c.pg
def CB(K:JH)(C:Addr)(f:Str):Prop:=KO K (.ref C) f=some none
structure Meth (K:JH) (C:Addr) (m:Str) (f:Addr):Prop where
 at_:KO K (.ref C) m=some (some (.ref f))
 fn:Nu K (.ref f)=true
 kp:Ks K (.ref f)=true
section
variable{X:Cx}{pins:List (Addr×Obj)}{σ:St}{H:Hp}{s:Shared}{A:Around}{E:Value->Shared->Prop}{Q:Value->Shared->Prop}{c:Value}{b:Bool}
inductive iz (K:JH) (H:Hp):V->Value->Prop where
 | non:iz K H .non (.type "NoneType")
 | bl (x:Bool):iz K H (.bl x) (.type "bool")
 | int (i:Int):iz K H (.int i) (.type "int")
 | str (x:Str):iz K H (.str x) (.type "str")
 | flt (x:UInt64):iz K H (.flt x) (.type "float")
 | lst {a:Addr} {xs:List V} (e:H a=some (.lst xs)):iz K H (.ref a) (.type "list")
 | frz {a:Addr} {o:Obj} {xs:List V} (e:H a=some (.frz o (.lst xs))):iz K H (.ref a) (.type "list")
 | tup {a:Addr} {xs:List V} (e:H a=some (.tup xs)):iz K H (.ref a) (.type "tuple")
 | dK {a:Addr} {kvs:List (Key×V)} (e:H a=some (.dK kvs)):iz K H (.ref a) (.type "dict")
 | dT {a:Addr} {kvs:List (List Key×V)} (e:H a=some (.dT kvs)):iz K H (.ref a) (.type "dict")
 | ins {a C dx:Addr} {fs:List (Str×V)} (e:H a=some (.ins C dx fs)) (cl:Cls K C) (ha:KO K (.ref C) "__class__" = some (some (.builtin "object.__class__")))
   (hn:Oh K (.builtin "object.__class__") "__get__" = some (some (.builtin "getset_descriptor.__get__"))) (htk:Ow K (.builtin "object.__class__")=some true)
   (hm:Ni K C (.type "object")=some true):iz K H (.ref a) (.ref C)
end
end L2
namespace L2
open PySem PySem.Spec PyProof.Rows
structure bR (k:Nat) (A:Around):Prop where
 hd:A.handled=none
 dp:A.depth+3*k+5<recursionLimit
 un:A.units+16*k+200<cLine
theorem bR.mono{j k:Nat}{A:Around}(r:bR k A)(h:j<=k):bR j A:=⟨r.hd,by have:=r.dp;omega,by have:=r.un;omega⟩
theorem bR.deeper{k:Nat}{A:Around}(r:bR (k+1) A)(env:Env):bR k (A.deeper env) :=
 ⟨r.hd,by have:=r.dp;show A.depth+1+3*k+5<_;omega,by have:=r.un;show A.units+3+16*k+200<_;omega⟩
theorem bR.depth{k:Nat}{A:Around}(r:bR k A):A.depth<recursionLimit:=by have:=r.dp;omega
theorem bR.units{k:Nat}{A:Around}(r:bR k A):A.units+64<cLine:=by have:=r.un;omega
noncomputable def Dv:TA:=λ_ H Q=>Q [] H
noncomputable def uU(ta:TE)(tr:TA):TA:=λσ H Q=>ta σ H λx H1=>tr σ H1 λxs H2=>Q (x::xs) H2
section
variable{X:Cx}{e:Expr}{es:List Expr}{te:TE}{t:TA}{pos:Pos}
theorem cg:PA X [] Dv:=λ_ _ _ _ H Q I h=>Ox ⟨[],H,I,.nil,h⟩
theorem a6(ha:PE X e te)(hr:PA X es t)(hs:starEach (e::es) X.env=(false,eval e X.env)::starEach es X.env:=by rfl):PA X (e::es) (uU te t):=by
 intro pos pins s σ H Q I h
 rw[hs]
 show wpAny _ _ (spliced ((false,eval e X.env)::backTo pos (starEach es X.env))) _ _ s
 refine Ol (thn (ha pins s σ H _ I h) λu s1 ⟨x,H1,I1,r1,q1⟩=>?_)
 exact thn (hr pos pins s1 σ H1 _ I1 q1) λus s2 ⟨xs,H2,I2,r2,q2⟩=>⟨x::xs,H2,I2,.cons r1 r2,q2⟩
noncomputable def IT(t:TA):TE:=λσ H Q=>t σ H λxs H1=>xs.length<=sizeLine/\∀p,H1 p=none->Q (.ref p) (upd H1 p (.tup xs))
noncomputable def Jn(t:TA):TE:=λσ H Q=>t σ H λxs H1=>xs.length<=sizeLine/\∀p,H1 p=none->Q (.ref p) (upd H1 p (.lst xs))
theorem wg{x1}(h:PA X es t):PE X (.Tuple es x1 pos) (IT t):=by
 intro pins s σ H Q I hq
 refine wpAny_Tuple_spliced (thn (h pos pins s σ H _ I hq) λus s1 ⟨xs,H1,I1,r,z,q⟩=>⟨by rw[<- r.length];exact z,?_⟩)
 have hf:H1 s1.heap.objs.size=none:=I1.hok.fresh (J1 _)
 refine⟨.ref s1.heap.objs.size,upd H1 s1.heap.objs.size (.tup xs),I1.laid (t':=s1.toks) (λb u e=>JM _ e) (J1 _) ?_,rfl,q _ hf⟩
 exact⟨z,us,r,⟨_,Kb _ rfl,rfl,_,rfl,rfl⟩⟩
theorem Ew(h:PA X es t):PE X (.List es pos) (Jn t):=by
 intro pins s σ H Q I hq
 refine wpAny_List_spliced (thn (h pos pins s σ H _ I hq) λus s1 ⟨xs,H1,I1,r,z,q⟩=>⟨by rw[<- r.length];exact z,?_⟩)
 have hf:H1 s1.heap.objs.size=none:=I1.hok.fresh (J1 _)
 refine⟨.ref s1.heap.objs.size,upd H1 s1.heap.objs.size (.lst xs),I1.laid (t':=s1.toks) (λb u e=>JM _ e) (J1 _) ?_,rfl,q _ hf⟩
 exact⟨z,us,0,r,Kb _ rfl⟩
end
noncomputable abbrev Sp:=List V->Hp->VK->XK->Prop
noncomputable abbrev CXT:=List Env->Hp->Shared->XK->Value->Shared->Prop
structure n9 (P:Program) (w:World) (K:JH) (mg:Str->Option Value) (base:Heap) (A:Around) (outer:List Env) (s:Shared) (H:Hp):Prop where
 frames:A.frames=some outer
 mod:Mod K mg base
 bs:∀b o,base.get? b=some o->s.heap.get? b=some o/\H b=none
 bsz:base.objs.size<=s.heap.objs.size
 fN:s.heap.FunFrames base outer
 frf:∀b∈frs outer,H b=none
 hok:HOk P w H s.heap
 bare:AllBare s.gens
noncomputable def CE(outer:List Env)(P:Program)(w:World)(H:Hp)(s:Shared)(Q:VK)(u:Value)(s':Shared):Prop :=
 ∃v H',s'.os=s.os/\AllBare s'.gens/\Un (frs outer) [] H H' s.heap s'.heap/\HOk P w H' s'.heap/\RelV v u/\Q v H'
noncomputable def CR(CX:CXT)(outer:List Env)(P:Program)(w:World)(H:Hp)(s:Shared)(Q:VK)(E:XK)(r:Result)(s':Shared):Prop :=
 match r with
 | .ok (.ret u)=>CE outer P w H s Q u s'
 | .ok _=>False
 | .error e=>CX outer H s E e s'
structure cu (P:Program) (w:World) (K:JH) (mg:Str->Option Value) (base:Heap) (CX:CXT) (k:Nat) (f:Addr) (fd:FuncData) (ps:List Str) (sp:Sp):Prop where
 len:∀vs H Q E,sp vs H Q E->vs.length=ps.length
 run:∀(A:Around)(outer:List Env)(s:Shared)(H:Hp)(args:Args)(us:List Value)(vs:List V)(Q:VK)(E:XK),bR k A->n9 P w K mg base A outer s H->BindsTo s fd args (ps.zip us)->Vals vs us->sp vs H Q E ->
  codeAny (model P w) A (.call (.ref f) args) (CR CX outer P w H s Q E) s
theorem cu.mono{P:Program}{w:World}{K:JH}{mg:Str->Option Value}{base:Heap}{CX:CXT}{j k:Nat}{f:Addr}{fd:FuncData}{ps:List Str}{sp:Sp}(F:cu P w K mg base CX j f fd ps sp)(h:j<=k) :
  cu P w K mg base CX k f fd ps sp:=⟨F.len,λA outer s H args us vs Q E hr=>F.run A outer s H args us vs Q E (hr.mono h)⟩
theorem cu.imp{P:Program}{w:World}{K:JH}{mg:Str->Option Value}{base:Heap}{CX:CXT}{k:Nat}{f:Addr}{fd:FuncData}{ps:List Str}{sp sp':Sp}(F:cu P w K mg base CX k f fd ps sp)
  (h:∀vs H Q E,sp' vs H Q E->sp vs H Q E):cu P w K mg base CX k f fd ps sp' :=
 ⟨λvs H Q E q=>F.len vs H Q E (h _ _ _ _ q),λA outer s H args us vs Q E hr he hb hv hs=>F.run A outer s H args us vs Q E hr he hb hv (h _ _ _ _ hs)⟩
section
variable{X:Cx}{pins:List (Addr×Obj)}{σ:St}{H:Hp}{s s':Shared}
theorem Inv.DN(I:Inv X pins σ H s):n9 X.prog X.w X.K X.mg X.base X.A X.stack s H :=
 ⟨I.ok.frames,I.ok.mod,I.bs,Kh I.ok.bsz I.sz,I.stack,I.lI,I.hok,I.bare⟩
theorem Inv.after{Q:VK}{u:Value}(I:Inv X pins σ H s)(h:CE X.stack X.prog X.w H s Q u s'):EP X pins σ Q u s':=by
 obtain⟨v,H',os,bare,un,hok,r,q⟩:=h
 obtain⟨hh,g,d,t,os'⟩:=s'
 obtain rfl:os'=s.os:=os
 exact⟨v,H',I.call (h':=hh) (g':=g) (d':=d) (t':=t) (ch:=[]) un hok bare (λb z=>absurd z (by simp)),r,q⟩
end
noncomputable def Ay(sp:Sp)(dvs:List V)(E:XK)(t:TA):TE:=λσ H Q=>t σ H λvs H1=>sp (vs++dvs) H1 Q E
noncomputable def Binds(K:JH)(fd:FuncData)(ps:List Str)(ds:List Value):Prop :=
 ∀(s:Shared)(us:List Value),K.In s.heap->(us++ds).length=ps.length->BindsTo s fd ⟨us,[]⟩ (ps.zip (us++ds))
theorem Binds.all{K:JH}{fd:FuncData}{ps:List Str}(h:∀us:List Value,us.length=ps.length->bindArgs fd ⟨us,[]⟩=pure (ps.zip us)):Binds K fd ps []:=λs us _ hl=>by
 rw[Km] at hl ⊢
 exact .of_eq (h us hl)
def Passes(CX:CXT)(X:Cx)(E:XK):Prop:=∀(pins:List (Addr×Obj))(σ:St)(H:Hp)(s:Shared)(e:Value)(s':Shared),Inv X pins σ H s->CX X.stack H s E e s'->X.xe e s'
section
variable{X:Cx}{CX:CXT}{k:Nat}{f C:Addr}{fd:FuncData}{ps:List Str}{sp:Sp}{dvs:List V}{ds:List Value}{E:XK}{x m:Str}{p pos apos:Pos}{e o:Expr}{es:List Expr}{ta:TE}{t:TA}
theorem A9{pins:List (Addr×Obj)}{σ:St}{H:Hp}{s:Shared}{Q:VK}{us:List Value}{vs:List V}(F:cu X.prog X.w X.K X.mg X.base CX k f fd ps sp)(hr:bR k X.A)(hb:Binds X.K fd ps ds)(hd:Vals dvs ds)(hx:Passes CX X E)
  (I:Inv X pins σ H s)(r:Vals vs us)(h:sp (vs++dvs) H Q E):wpAny (model X.prog X.w) X.A (call (.ref f) us) (EP X pins σ Q) X.xe s:=by
 have r2:Vals (vs++dvs) (us++ds):=r.append hd
 have hl:(us++ds).length=ps.length:=by rw[<- r2.length];exact F.len _ _ _ _ h
 refine wpAny_call (codeAny_mono (F.run X.A X.stack s H ⟨us,[]⟩ (us++ds) (vs++dvs) Q E hr I.DN (hb s us I.kIn hl) r2 h) λr s' hq=>?_)
 cases r with
 | error e=>exact hx pins σ H s e s' I hq
 | ok fl =>
  cases fl with
  | ret u=>exact I.after hq
  | next=>exact KR hq
  | brk=>exact KR hq
  | cont=>exact KR hq
theorem yb(F:cu X.prog X.w X.K X.mg X.base CX k f fd ps sp)(hr:bR k X.A)(hg:Gl X x)(hm:X.mg x=some (.ref f))(hk:Ks X.K (.ref f)=true)(hb:Binds X.K fd ps ds)(hd:Vals dvs ds)(hx:Passes CX X E)
  (ha:PA X (e::es) t)(hdb:NDb x:=by decide)(he:starEach (e::es) X.env=(false,eval e X.env)::starEach es X.env:=by rfl)(hpl:(backTo pos (starEach es X.env)).any (·.1)=false:=by rfl) :
  PE X (.Call (.Name x p) (e::es) [] pos) (Ay sp dvs E t):=by
 intro pins s σ H Q I h
 refine wpAny_Call_Name_kw (fz I hg hm ?_ hdb)
 refine My (h₀:=X.base) I.ok.mod.kin hk (thn (ha pos pins s σ H _ I h) λus s1 ⟨vs,H1,I1,r,q⟩=>⟨I1.kIn,?_⟩) he hpl
 exact A9 F hr hb hd hx I1 r q
structure Mk (K:JH) (C f:Addr):Prop where
 makes:Oy K C=true
 init:KO K (.ref C) "__init__" = some (some (.ref f))
 fn:Nu K (.ref f)=true
 kp:Ks K (.ref C)=true
end
structure cR (N P:List Str) (sc:Scope):Prop where
 kind:sc.kind=.function
 co:sc.isCoroutine=false
 gen:sc.isGenerator=false
 nd:N.Nodup
 pre:N.take P.length=P
 par:∀x∈P,sc.names.lookup x=some .local\/sc.names.lookup x=some .cell
 nofree:∀y∈sc.names,y.2≠.free
theorem jY{kindOf:Str->Option NameKind}{x:Str}:∀{binds:List (Str×Value)}{m:Str->Option Value},(∀v,(x,v)∉binds)->bindL kindOf binds m x=m x
 | [],_,_=>rfl
 | (n,v)::r,m,h=>by
  unfold bindL
  rw[jY λw hw=>h w (JQ _ hw)]
  split
  ·have:x≠n:=by rintro rfl;exact h v JN
   simp[this]
  ·rfl
theorem kh{kindOf:Str->Option NameKind}{x:Str}:∀{binds:List (Str×Value)}{m:Str->Option Value},(∀v,(x,v)∉binds)->bindC kindOf binds m x=m x
 | [],_,_=>rfl
 | (n,v)::r,m,h=>by
  unfold bindC
  rw[kh λw hw=>h w (JQ _ hw)]
  split
  ·rfl
  ·have:x≠n:=by rintro rfl;exact h v JN
   simp[this]
theorem j4{kindOf:Str->Option NameKind}{x:Str}{v:Value}:∀{P:List Str}{vs:List Value}{i:Nat}{m:Str->Option Value},P.Nodup->P[i]?=some x->vs[i]?=some v->kindOf x=some .local ->
  bindL kindOf (P.zip vs) m x=some v
 | [],_,_,_,_,h,_,_=>by simp at h
 | _::_,[],_,_,_,_,h,_=>by simp at h
 | p::P,w::vs,0,m,nd,h1,h2,hk=>by
  simp at h1 h2;subst h1;subst h2
  show bindL kindOf ((p,w)::P.zip vs) m p=_
  unfold bindL
  rw[jY λv hv=>(Kt.mp nd).1 (Mt hv).1,if_pos hk]
  simp
 | p::P,w::vs,i+1,m,nd,h1,h2,hk=>by
  show bindL kindOf ((p,w)::P.zip vs) m x=_
  unfold bindL
  exact j4 (i:=i) (Kt.mp nd).2 (by simpa using h1) (by simpa using h2) hk
theorem j8{kindOf:Str->Option NameKind}{x:Str}{v:Value}:∀{P:List Str}{vs:List Value}{i:Nat}{m:Str->Option Value},P.Nodup->P[i]?=some x->vs[i]?=some v->kindOf x≠some .local ->
  bindC kindOf (P.zip vs) m x=some v
 | [],_,_,_,_,h,_,_=>by simp at h
 | _::_,[],_,_,_,_,h,_=>by simp at h
 | p::P,w::vs,0,m,nd,h1,h2,hk=>by
  simp at h1 h2;subst h1;subst h2
  show bindC kindOf ((p,w)::P.zip vs) m p=_
  unfold bindC
  rw[kh λv hv=>(Kt.mp nd).1 (Mt hv).1,if_neg hk]
  simp
 | p::P,w::vs,i+1,m,nd,h1,h2,hk=>by
  show bindC kindOf ((p,w)::P.zip vs) m x=_
  unfold bindC
  exact j8 (i:=i) (Kt.mp nd).2 (by simpa using h1) (by simpa using h2) hk
noncomputable def start(N:List Str)(vs:List V):St:=vs.map some++J8 (N.length-vs.length) none
noncomputable def jC(CX:CXT)(P:Program)(w:World)(K:JH)(mg:Str->Option Value)(base:Heap)(N:List Str)(qual:Str)(scope:Scope)(f:Addr)(cd:Value)(A:Around)(outer:List Env)(s:Shared)(H:Hp)(E:XK):Cx where
 prog:=P
 w:=w
 K:=K
 mg:=mg
 base:=base
 A:=A.deeper (envOfC qual scope s.heap.objs.size f cd)
 N:=N
 s₀:=s
 H₀:=H
 env:=envOfC qual scope s.heap.objs.size f cd
 outer:=outer
 stack:=envOfC qual scope s.heap.objs.size f cd::outer
 ex:=[]
 calm:=true
 fn:=λ_=>true
 pn:=[]
 xe:=λe s'=>wpAny (model P w) (A.deeper (envOfC qual scope s.heap.objs.size f cd)) (leaving (envOfC qual scope s.heap.objs.size f cd) e) (λ_ s''=>CX outer H s E e s'') (λe' s''=>CX outer H s E e' s'') s'
theorem nF{sc:Scope}{n:Nat}{x:Str}(h:sc.names.lookup x=some .cell):∃c,(cellsFrom n sc.names []).lookup x=some c:=by
 have q:=Me sc.names n [] (.inl h)
 exact Option.isSome_iff_exists.mp q
theorem jM{CX:CXT}{P:Program}{w:World}{K:JH}{mg:Str->Option Value}{base:Heap}{N ps:List Str}{qual:Str}{scope:Scope}{f:Addr}{cd:Value}{A:Around}{outer:List Env}{s s1:Shared}{H:Hp}{E:XK}{us:List Value}{vs:List V}
  (S:cR N ps scope)(hd:A.handled=none)(e0:n9 P w K mg base A outer s H)(hl:vs.length=ps.length)(r:Vals vs us)
  (x:InCallC s s.heap.objs.size (bindL (envOfC qual scope s.heap.objs.size f cd).kindOf (ps.zip us) λ_=>none) (cellsFrom (s.heap.objs.size+1) scope.names []) (bindC (envOfC qual scope s.heap.objs.size f cd).kindOf (ps.zip us) λ_=>none) s1) :
  Inv (jC CX P w K mg base N qual scope f cd A outer s H E) [] (start N vs) H s1:=by
 have hpl:ps.length<=N.length:=by have:=congrArg LN S.pre;rw[Lu] at this;omega
 obtain⟨h1,tk,rfl,hk⟩:=x.done
 have noA:∀b:Addr,b∉(jC CX P w K mg base N qual scope f cd A outer s H E).ex:=λb z=>absurd (show b∈([]:List Addr) from z) (by simp)
 refine⟨⟨e0.mod,S.kind,rfl,rfl,J1 _,λy z c h1 h2=>?_,λy hy=>?_,λy c _ h=>?_,λ_=>hd,NP e0.frames,.inr ⟨rfl,rfl⟩,λb z=>absurd z (noA b),e0.bs,e0.bsz,λb _ _=>noA b,λb z=>absurd z (noA b),e0.fN,e0.frf⟩,
  rfl,e0.bare,Un.kept hk,⟨_,x.toInCall.ns,λi y v h1 h2 h3=>?_⟩,λy c h=>⟨_,x.cell y c h⟩,e0.hok.fresh (J1 _),λy c h=>?_,λp hp=>absurd (show p∈([]:List (Addr×Obj)) from hp) (by simp),e0.hok.kept hk,?_⟩
 ·exact name_of_addr x.apart (K9 h1) (K9 h2)
 ·have hy:scope.names.lookup y=some .cell\/scope.names.lookup y=some .free:=hy
  rcases hy with hy|hy
  ·exact nF hy
  ·exact absurd rfl (S.nofree _ (K9 hy))
 ·exact KU (x.above y c (K9 h))
 ·have hi:i<vs.length:=by
   unfold start at h2
   by_cases hi:i<vs.length
   ·exact hi
   ·rw[KA (by simpa using hi)] at h2
    rw[NG] at h2
    split at h2<;>cases h2
  have ha:vs[i]?=some v:=by
   unfold start at h2
   rw[KQ (by simpa using hi),Kr] at h2
   cases e:vs[i]? with
   | none=>rw[e] at h2;cases h2
   | some a=>rw[e] at h2;cases h2;rfl
  obtain⟨u,hu,rv⟩:=r.get ha
  have hp:ps[i]?=some y:=by
   rw[<- S.pre,NB (by omega)];exact h1
  have ndP:ps.Nodup:=by rw[<- S.pre];exact S.nd.sublist (MR _ _)
  refine⟨u,rv,?_⟩
  rcases S.par y (Lm hp) with k|k
  ·exact .inl ⟨k,j4 ndP hp hu k⟩
  ·obtain⟨c,e⟩:=nF (n:=s.heap.objs.size+1) k
   refine .inr ⟨.inl k,c,e,?_⟩
   have q:=x.cell y c e
   rw[j8 ndP hp hu (by show scope.names.lookup y≠_;rw[k];decide)] at q
   exact q
 ·exact e0.hok.fresh (KU (x.above y c (K9 h)))
 ·unfold start
  show _=N.length
  rw[Kg,Ke,NZ]
  omega
theorem F9{CX:CXT}{P:Program}{w:World}{K:JH}{mg:Str->Option Value}{base:Heap}{k:Nat}{f:Addr}{name qual:Str}{params:Arguments}{body:List Stmt}{scope:Scope}{dV kV doc pm cdv ct oc:Value}{an od:Option Addr}
  {osl:Array (Option Value)}{N ps:List Str}{sp:Sp}(lk:K.lookup f=some ⟨oc,od,.func (Lc name qual params body scope dV kV doc pm an cdv ct),osl⟩)(hcd:LS K cdv qual=true)(S:cR N ps scope)
  (len:∀vs H Q E,sp vs H Q E->vs.length=ps.length)
  (hbody:∀(A:Around)(outer:List Env)(s:Shared)(H:Hp)(vs:List V)(Q:VK)(E:XK),bR k (A.deeper (envOfC qual scope s.heap.objs.size f cdv))->sp vs H Q E ->
   ∃t,PSs (jC CX P w K mg base N qual scope f cdv A outer s H E) body t/\t { nx:=λ_ H'=>Q .non H',rt:=Q } (start N vs) H) :
  cu P w K mg base CX (k+1) f (Lc name qual params body scope dV kV doc pm an cdv ct) ps sp:=by
 refine⟨len,λA outer s H args us vs Q E hr e0 hb r hsp=>?_⟩
 have hl:=len _ _ _ _ hsp
 have KX:K.In s.heap:=e0.mod.kin.keeps λb o e=>(e0.bs b o e).1
 have lim:s.heap.NoLimit:=e0.mod.nolimit.keeps λb o e=>(e0.bs b o e).1
 have hkind:∀y∈ps.zip us,scope.names.lookup y.1=some .local\/(scope.names.lookup y.1=some .cell/\((cellsFrom (s.heap.objs.size+1) scope.names []).lookup y.1).isSome=true):=λ⟨n,v⟩ hy=>by
  rcases S.par n (Mt hy).1 with q|q
  ·exact .inl q
  ·exact .inr ⟨q,Me _ _ _ (.inl q)⟩
 refine codeAny_call_function hr.depth (KX _ _ lk) rfl S.co S.gen rfl (N3 KX hcd) (hb _ _ _ _ ?_)
 refine wpAny_newFunctionEnv_cells S.kind hkind λenv he s1 x=>?_
 subst he
 refine⟨lim.keeps x.toInCall.keep,codeAny_func ?_⟩
 obtain⟨t,ht,hq⟩:=hbody A outer s H vs Q E (hr.deeper _) hsp
 have I:Inv (jC CX P w K mg base N qual scope f cdv A outer s H E) [] (start N vs) H s1:=jM S hr.hd e0 hl r x
 refine wpAny_mono (ht [] s1 (start N vs) H _ I hq) (λfl s' hs=>?_) λe s' hs=>hs
 have fin:∀{σ':St}{H':Hp}{v:V}{u:Value},Inv (jC CX P w K mg base N qual scope f cdv A outer s H E) [] σ' H' s'->RelV v u->Q v H'->CE outer P w H s Q u s' :=
  λ{σ' H' v u} J rv q=>⟨v,H',J.os,J.bare,J.base,J.hok,rv,q⟩
 cases fl with
 | ret u =>
  obtain⟨v,σ',H',J,rv,q⟩:=hs
  exact fin J rv q
 | next =>
  obtain⟨σ',H',J,q⟩:=hs
  exact fin (v:=V.non) (u:=LU) J rfl q
 | brk =>
  obtain⟨_,_,_,q⟩:=hs
  exact KR q
 | cont =>
  obtain⟨_,_,_,q⟩:=hs
  exact KR q
end L2
namespace L2
open PySem PySem.Spec PyProof.Rows
section
variable{X:Cx}{x:Str}{p pos:Pos}{e:Expr}{es:List Expr}{t:TA}{id T:String}{r:List V->Hp->VK->Prop}
noncomputable def tCB(r:List V->Hp->VK->Prop)(t:TA):TE:=λσ H Q=>t σ H λvs H1=>r vs H1 Q
theorem eZ(hc:aY X (.builtin id) r)(hg:Gl X x)(hm:X.mg x=none)(hv:bootBuiltins x=some (.builtin id))(ha:PA X (e::es) t)(hn:x ≠ "__name__" := by decide)(hdb:NDb x:=by decide)
  (he:starEach (e::es) X.env=(false,eval e X.env)::starEach es X.env:=by rfl)(hpl:(backTo pos (starEach es X.env)).any (·.1)=false:=by rfl):PE X (.Call (.Name x p) (e::es) [] pos) (tCB r t):=by
 intro pins s σ H Q I h
 refine wpAny_Call_Name_kw (lT I hg hm hv ?_ hn hdb)
 exact PM (thn (ha pos pins s σ H _ I h) λus s1 ⟨vs,H1,I1,r1,q1⟩=>hc pins s1 σ H1 vs us Q I1 r1 q1) he hpl
theorem rT(hc:aY X (.type T) r)(hg:Gl X x)(hm:X.mg x=none)(hv:bootBuiltins x=some (.type T))(ha:PA X (e::es) t)(hn:x ≠ "__name__" := by decide)(hdb:NDb x:=by decide)
  (he:starEach (e::es) X.env=(false,eval e X.env)::starEach es X.env:=by rfl)(hpl:(backTo pos (starEach es X.env)).any (·.1)=false:=by rfl):PE X (.Call (.Name x p) (e::es) [] pos) (tCB r t):=by
 intro pins s σ H Q I h
 refine wpAny_Call_Name_kw (lT I hg hm hv ?_ hn hdb)
 exact ME (thn (ha pos pins s σ H _ I h) λus s1 ⟨vs,H1,I1,r1,q1⟩=>hc pins s1 σ H1 vs us Q I1 r1 q1) he hpl
end
end L2
namespace HT
open PySem PyProof.Rows
section
variable{prog:Program}{w:World}{A:Around}{E:Value->Shared->Prop}{s:Shared}
theorem yy{t b:Addr}{vs ws:List Value}{Q:Value->Shared->Prop}(ht:IsTup s.heap t vs.toArray)(hb:IsTup s.heap b ws.toArray)(hv:vs≠[])
  (h1:ws=[]->Q (.ref t) s)(h2:ws≠[]->Q (.ref s.heap.objs.size) { s with heap:=s.heap.push { cls:=.type "tuple",data:=.seq (vs++ws).toArray } })
  (hsz:vs.length+ws.length<=sizeLine):wpAny (model prog w) A (binaryOp .Add (.ref t) (.ref b)) Q E s:=by
 obtain⟨⟨cls,dd,data,sl⟩,ho,hc,n,hd⟩:=id ht
 obtain⟨⟨cls2,dd2,data2,sl2⟩,ho2,hc2,n2,hd2⟩:=id hb
 simp only at hc hd hc2 hd2
 subst hc hd hc2 hd2
 have e:vs.toArray++ws.toArray=(vs++ws).toArray:=by simp
 by_cases hw:ws=[]
 ·exact concat_meets ⟨_,ho,rfl⟩ ⟨_,ho2,rfl⟩ noFill_tuple_add seq_tuple_add Mf L7 (L4 _ _)
   (tuple_addW1 t b vs.toArray ws.toArray n n2 dd dd2 sl sl2 (by simpa using hv) (by simp[hw])) ⟨ho,ho2,h1 hw⟩
 ·refine concat_meets ⟨_,ho,rfl⟩ ⟨_,ho2,rfl⟩ noFill_tuple_add seq_tuple_add Mf L7 (L4 _ _)
   (tuple_addW2 t b vs.toArray ws.toArray n n2 dd dd2 sl sl2 (by simpa using hv) (by simpa using hw) (by rw[JO,JO];exact hsz)) ⟨ho,ho2,?_⟩
  rw[e]
  exact h2 hw
noncomputable def sIx(n d:Nat):Option Int->Nat
 | none=>d
 | some v=>if v<0 then (v+(n:Int)).toNat else min v.toNat n
theorem EH(n d:Nat)(hd:d<=n)(o:Option Int):sIx n d o<=n:=by
 cases o with
 | none=>exact hd
 | some v =>
  show (if v<0 then (v+(n:Int)).toNat else min v.toNat n)<=n
  by_cases hv:v<0
  ·rw[if_pos hv];omega
  ·rw[if_neg hv];exact Nat.min_le_right _ _
theorem qL(v:Int)(n d:Nat):(if v<0 then max (v+(n:Int)) 0 else min v (n:Int))=((sIx n d (some v):Nat):Int):=by
 show (if v<0 then max (v+(n:Int)) 0 else min v (n:Int))=(((if v<0 then (v+(n:Int)).toNat else min v.toNat n):Nat):Int)
 by_cases hv:v<0
 ·simp only[if_pos hv];omega
 ·simp only[if_neg hv];omega
theorem ph(lo hi:Option Int)(n:Nat):LL lo hi 1 (n:Int)=(((sIx n 0 lo:Nat):Int),((sIx n n hi:Nat):Int)):=by
 have h1:¬ ((1:Int)<0):=by omega
 unfold LL
 simp only[h1,if_false]
 refine Prod.ext ?_ ?_
 ·cases lo with
  | none=>rfl
  | some v=>exact qL v n 0
 ·cases hi with
  | none=>rfl
  | some v=>exact qL v n n
theorem nZ(i j:Nat):Lg (i:Int) (j:Int) 1=j-i:=by
 unfold Lg
 have h1:(1:Int) > 0:=by omega
 simp only[h1,if_true,Int.ediv_one]
 split<;>omega
theorem ja{v:Value}{o:Option Int}{Q:Option Int->Shared->Prop}(p:IsPart v o)(h:Q o s):wpAny (model prog w) A (Pq v) Q E s:=by
 cases p with
 | none=>exact slicePart_none h
 | int i t=>exact slicePart_int h
theorem dz{sl:Addr}{vl vu:Value}{lo hi:Option Int}{n:Nat}{Q:Int×Int×Nat->Shared->Prop}(hs:s.heap.IsSliceOf sl vl vu .none)(pl:IsPart vl lo)(pu:IsPart vu hi)
  (h:Q (((sIx n 0 lo:Nat):Int),1,sIx n n hi-sIx n 0 lo) s):wpAny (model prog w) A (MF (.ref sl) (pure (n:Int))) Q E s:=by
 obtain⟨os,hos,hcs,hds⟩:=id hs
 unfold MF Pt
 refine wpAny_bind (wpAny_bind (wpAny_field hos hds (x:=vl) rfl (wpAny_bind (wpAny_field hos hds (x:=vu) rfl (wpAny_bind (wpAny_field hos hds (x:=.none) rfl (wpAny_pure ?_)))))))
 refine wpAny_bind (slicePart_none ?_)
 show wpAny _ _ (if ((1:Int)==0)=true then _ else _) _ _ s
 rw[if_neg (by decide)]
 refine wpAny_bind (ja pl (wpAny_bind (ja pu (wpAny_bind (wpAny_pure ?_)))))
 show wpAny _ _ (match LL lo hi 1 (n:Int) with|(lo,hi)=>pure (lo,(1:Int),Lg lo hi 1)) _ _ s
 rw[ph lo hi n]
 show wpAny _ _ (pure (((sIx n 0 lo:Nat):Int),(1:Int),Lg ((sIx n 0 lo:Nat):Int) ((sIx n n hi:Nat):Int) 1)) _ _ s
 rw[nZ]
 exact wpAny_pure h
theorem vd(xs:Array Value)(i k:Nat):((KH k).filterMap λ(m:Nat)=>xs[((i:Int)+(m:Int)*1).toNat]?).toArray=((xs.toList.drop i).take k).toArray:=by
 have e:(λ(m:Nat)=>xs[((i:Int)+(m:Int)*1).toNat]?)=λm=>xs[i+m]?:=by
  funext m
  have:((i:Int)+(m:Int)*1).toNat=i+m:=by omega
  rw[this]
 rw[e]
 have:=pick_run xs i k
 rw[List.filterMap_map] at this
 have e2:((λx=>xs[x]?)∘λx=>i+x)=λm=>xs[i+m]?:=rfl
 rw[e2] at this
 rw[this]
theorem gM{t sl:Addr}{items:Array Value}{vl vu:Value}{lo hi:Option Int}{Q:Value->Shared->Prop}(ht:IsTup s.heap t items)(hs:s.heap.IsSliceOf sl vl vu .none)(pl:IsPart vl lo)(pu:IsPart vu hi)
  (hw:¬ (sIx items.size 0 lo=0/\sIx items.size items.size hi=items.size))
  (h:Q (.ref s.heap.objs.size) { s with heap:=s.heap.push { cls:=.type "tuple",data:=.seq ((items.toList.drop (sIx items.size 0 lo)).take (sIx items.size items.size hi-sIx items.size 0 lo)).toArray } })
  (hsz:items.size<=sizeLine):wpAny (model prog w) A (getItem (.ref t) (.ref sl)) Q E s:=by
 have htake:sizeOk (.seq ((items.toList.drop (sIx items.size 0 lo)).take (sIx items.size items.size hi-sIx items.size 0 lo)).toArray):=by
  show ((items.toList.drop (sIx items.size 0 lo)).take (sIx items.size items.size hi-sIx items.size 0 lo)).toArray.size<=sizeLine
  rw[JO,Lu,OR,Kv]
  omega
 have hj:sIx items.size items.size hi<=items.size:=EH _ _ (J1 _) hi
 obtain⟨os,hos,hcs,hds⟩:=id hs
 have hTs:s.TypeIs (.ref sl) "slice" := ⟨os,hos,hcs⟩
 unfold getItem
 try with_reducible refine wpAny_holding ?_
 first|refine wpAny_bind (wpAny_pure ?_)|skip
 refine wpAny_bind (wpAny_sequenceKey ht.typeIs (by decide) ?_)
 refine wpAny_bind (wpAny_callSpecial?_slot (name:=J4 "__getitem__") ht.typeIs Ky
  (wpAny_call_entry Ky ht.typeIs entry_tuple_getitem ?_ (args_tuple_getitem _ _)))
 show wpAny _ _ (MG (.ref t) >>= _) _ _ s
 refine wpAny_bind (tupleItemsOf_ ht ?_)
 refine wpAny_bind (wpAny_typeOf hTs ?_)
 rw[if_pos (by decide)]
 refine wpAny_bind (dz hs pl pu ?_)
 have hno:¬ ((((sIx items.size 0 lo:Nat):Int)==0&&(1:Int)==1&&(sIx items.size items.size hi-sIx items.size 0 lo)==items.size)=true):=by
  intro q
  rw[JK,JK] at q
  have q1:((sIx items.size 0 lo:Nat):Int)=0:=eq_of_beq q.1.1
  have q2:sIx items.size items.size hi-sIx items.size 0 lo=items.size:=eq_of_beq q.2
  exact hw ⟨by omega,by omega⟩
 show wpAny _ _ (if (((sIx items.size 0 lo:Nat):Int)==0&&(1:Int)==1&&(sIx items.size items.size hi-sIx items.size 0 lo)==items.size)=true then _ else _) _ _ s
 rw[if_neg hno,vd]
 first
  | exact wpAny_bind (m:=Lk _) (wpAny_newObj_type (wpAny_pure ⟨_,rfl,wpAny_pure h⟩) htake)
  | exact wpAny_bind (m:=Lk _) (wpAny_newObj_type (wpAny_bind (wpAny_pure (wpAny_pure ⟨_,rfl,wpAny_pure h⟩))) htake)
  | exact wpAny_bind (wpAny_bind (m:=Lk _) (wpAny_newObj_type (wpAny_pure (wpAny_pure ⟨_,rfl,wpAny_pure h⟩)) htake))
  | exact wpAny_bind (wpAny_bind (m:=Lk _) (wpAny_newObj_type (wpAny_pure ⟨_,rfl,wpAny_pure h⟩) htake))
end
end HT
namespace L2
open PySem PySem.Spec PyProof.Rows
noncomputable abbrev TO:=St->Hp->(Option Int->Hp->Prop)->Prop
noncomputable def PO(X:Cx)(e:Option Expr)(t:TO):Prop :=
 ∀(pins:List (Addr×Obj))(s:Shared)(σ:St)(H:Hp)(Q:Option Int->Hp->Prop),Inv X pins σ H s->t σ H Q ->
  wpAny (model X.prog X.w) X.A (evalPart e X.env) (λu s'=>∃o H',Inv X pins σ H' s'/\IsPart u o/\Q o H') X.xe s
noncomputable def z8:TO:=λ_ H Q=>Q none H
noncomputable def HZ(t:TE):TO:=λσ H Q=>t σ H λx H1=>∃i,x=.int i/\Q (some i) H1
section
variable{X:Cx}{e:Expr}{te:TE}{lo hi:Option Expr}{tl th:TO}{pos p2:Pos}
theorem Ac:PO X none z8:=by
 intro pins s σ H Q I h
 rw[evalPart_none]
 exact wpAny_pure ⟨none,H,I,.none,h⟩
theorem zA(h:PE X e te):PO X (some e) (HZ te):=by
 intro pins s σ H Q I hw
 rw[evalPart_some]
 refine thn (h pins s σ H _ I hw) λu s1 ⟨x,H1,I1,r1,q1⟩=>?_
 obtain⟨i,rfl,q⟩:=q1
 obtain⟨t,rfl⟩:=r1
 exact⟨some i,H1,I1,.int i t,q⟩
noncomputable def SlR(X:Cx)(r:V->Option Int->Option Int->Hp->VK->Prop):Prop :=
 ∀(pins:List (Addr×Obj))(s:Shared)(σ:St)(H:Hp)(x:V)(v vl vu:Value)(lo hi:Option Int)(sl:Addr)(Q:VK),Inv X pins σ H s->RelV x v->s.heap.IsSliceOf sl vl vu .none->IsPart vl lo->IsPart vu hi->r x lo hi H Q ->
  ∃T id,typeLookup (.type T) "__getitem__" = pure (some (.builtin id))/\s.TypeIs v T/\wpAny (model X.prog X.w) X.A (getItem v (.ref sl)) (EP X pins σ Q) X.xe s
theorem SlR.or{r r':V->Option Int->Option Int->Hp->VK->Prop}(h:SlR X r)(h':SlR X r'):SlR X (λx lo hi H Q=>r x lo hi H Q\/r' x lo hi H Q):=by
 intro pins s σ H x v vl vu lo hi sl Q I rx hs pl pu q
 rcases q with q|q
 ·exact h pins s σ H x v vl vu lo hi sl Q I rx hs pl pu q
 ·exact h' pins s σ H x v vl vu lo hi sl Q I rx hs pl pu q
noncomputable def tSl(r:V->Option Int->Option Int->Hp->VK->Prop)(te:TE)(tl th:TO):TE:=λσ H Q=>te σ H λx H1=>tl σ H1 λl H2=>th σ H2 λu H3=>r x l u H3 Q
theorem uV{r:V->Option Int->Option Int->Hp->VK->Prop}(hr:SlR X r)(he:PE X e te)(hl:PO X lo tl)(hu:PO X hi th):PE X (.Subscript e (.Slice lo hi none p2) pos) (tSl r te tl th):=by
 intro pins s σ H Q I h
 refine Subscript_ (thn (he pins s σ H _ I h) λv s1 ⟨x,H1,I1,r1,q1⟩=>?_)
 refine wpAny_Slice (thn (hl pins s1 σ H1 _ I1 q1) λvl s2 ⟨l,H2,I2,pl,q2⟩=>thn (hu pins s2 σ H2 _ I2 q2) λvu s3 ⟨u,H3,I3,pu,q3⟩=>?_)
 rw[evalPart_none]
 refine wpAny_pure ?_
 have I4:Inv X pins σ H3 { s3 with heap:=s3.heap.push { cls:=.type "slice",data:=.fields #[vl,vu,.none] } }:=I3.kept (t':=s3.toks) λb ob q=>JM _ q
 obtain⟨T,id,hT,ht,hg⟩:=hr pins { s3 with heap:=s3.heap.push { cls:=.type "slice",data:=.fields #[vl,vu,.none] } } σ H3 x v vl vu l u s3.heap.objs.size Q I4 r1 (Pk ..) pl pu q3
 show wpAny (model X.prog X.w) X.A (subscriptTail e (.Slice lo hi none p2) v (.ref s3.heap.objs.size)) (EP X pins σ Q) X.xe { s3 with heap:=s3.heap.push { cls:=.type "slice",data:=.fields #[vl,vu,.none] } }
 exact tail_any (ops:=[.ref s3.heap.objs.size,v]) ht hT hg (by with_unfolding_all rfl)
noncomputable def kY(xs:List V)(lo hi:Option Int):List V:=(xs.drop (HT.sIx xs.length 0 lo)).take (HT.sIx xs.length xs.length hi-HT.sIx xs.length 0 lo)
theorem hY(xs:List V)(lo hi:Option Int):(kY xs lo hi).length<=xs.length:=by
 unfold kY
 rw[Lu,OR]
 omega
noncomputable def Jh(K:JH):V->Option Int->Option Int->Hp->VK->Prop:=λx lo hi H Q=>∃a xs,x=.ref a/\SqT K H a xs /\
 ¬ (HT.sIx xs.length 0 lo=0/\HT.sIx xs.length xs.length hi=xs.length)/\∀p,H p=none->Q (.ref p) (upd H p (.tup (kY xs lo hi)))
theorem CI:SlR X (Jh X.K):=by
 intro pins s σ H x v vl vu lo hi sl Q I rx hs pl pu h
 obtain⟨a,xs,rfl,hx,hw,q⟩:=h
 cases rx
 obtain⟨its,r,ht,hz⟩:=I.tuple hx
 have hlen:its.toArray.size=xs.length:=by rw[JO];exact r.length.symm
 refine⟨"tuple",_,Ky.lookup,ht.typeIs,?_⟩
 refine HT.gM ht hs pl pu (by rw[hlen];exact hw) ?_ (by rw[hlen];exact hz)
 rw[hlen]
 refine⟨.ref s.heap.objs.size,_,I.laid (t':=s.toks) (o:=.tup (kY xs lo hi)) (λb ob q=>JM _ q) (J1 _) ?_,rfl,q _ (I.hok.fresh (J1 _))⟩
 exact⟨Kh (hY xs lo hi) hz,_,(r.drop (HT.sIx xs.length 0 lo)).take (HT.sIx xs.length xs.length hi-HT.sIx xs.length 0 lo),cG.new _ _⟩
noncomputable def FL(K:JH):R2:=λx y H Q=>∃a b xs ys,x=.ref a/\y=.ref b/\SqT K H a xs/\SqT K H b ys/\xs≠[]/\xs.length+ys.length<=sizeLine /\
 (ys=[]->Q (.ref a) H)/\(ys≠[]->∀p,H p=none->Q (.ref p) (upd H p (.tup (xs++ys))))
theorem Vals.lp{xs:List V}{us:List Value}(r:Vals xs us):us=[]↔xs=[]:=by
 cases r with
 | nil=>simp
 | cons _ _=>simp
theorem zU:OpR X (binaryOp .Add) (FL X.K):=by
 intro pins s σ H x y v u Q I rx ry h
 obtain⟨a,b,xs,ys,rfl,rfl,ha,hb,hx,hz,q1,q2⟩:=h
 cases rx
 cases ry
 obtain⟨its,r1,p1,_⟩:=I.tuple ha
 obtain⟨its2,r2,p2,_⟩:=I.tuple hb
 refine HT.yy p1 p2 (λz=>hx (r1.lp.mp z)) (λz=>⟨.ref a,H,I,rfl,q1 (r2.lp.mp z)⟩) (λz=>?_) (by rw[<- r1.length,<- r2.length];exact hz)
 refine⟨.ref s.heap.objs.size,_,I.laid (t':=s.toks) (o:=.tup (xs++ys)) (λb ob q=>JM _ q) (J1 _) ?_,rfl,q2 (λw=>z (r2.lp.mpr w)) _ (I.hok.fresh (J1 _))⟩
 exact⟨by rw[Kg];exact hz,_,r1.append r2,cG.new _ _⟩
end
end L2
namespace L2
open PySem PySem.Spec PyProof.Rows
noncomputable def ixN(n:Nat)(i:Int):Option Nat:=if 0<=i then (if i<n then some i.toNat else none) else if -(n:Int)<=i then some (i+n).toNat else none
noncomputable def atI{α:Type}(xs:List α)(i:Int):Option α:=(ixN xs.length i).bind λj=>xs[j]?
theorem qP{n:Nat}{i:Int}{j:Nat}(h:ixN n i=some j):seqIndex? i n=some j/\j<n /\ -(n:Int)<=i/\i<n:=by
 unfold ixN at h
 by_cases h0:0<=i
 ·rw[if_pos h0] at h
  by_cases h1:i<n
  ·rw[if_pos h1] at h
   have e:i.toNat=j:=JV h
   exact⟨by rw[seqIndex_of h0 h1,e],by omega,by omega,h1⟩
  ·rw[if_neg h1] at h;cases h
 ·rw[if_neg h0] at h
  by_cases h1:-(n:Int)<=i
  ·rw[if_pos h1] at h
   have e:(i+n).toNat=j:=JV h
   exact⟨by rw[seqIndex_neg (by omega) h1,e],by omega,h1,by omega⟩
  ·rw[if_neg h1] at h;cases h
theorem k9{α:Type}{xs:List α}{i:Int}{v:α}(h:atI xs i=some v):∃j,seqIndex? i xs.length=some j/\xs[j]?=some v/\j<xs.length /\ -(xs.length:Int)<=i/\i<xs.length:=by
 unfold atI at h
 cases e:ixN xs.length i with
 | none=>rw[e] at h;cases h
 | some j =>
  rw[e] at h
  obtain⟨h1,h2,h3,h4⟩:=qP e
  exact⟨j,h1,h,h2,h3,h4⟩
theorem zS{α:Type}{xs:List α}{j:Nat}{v:α}(h:xs[j]?=some v):atI xs (j:Int)=some v:=by
 have hj:j<xs.length:=(J0.mp h).1
 have e:ixN xs.length (j:Int)=some j:=by
  unfold ixN
  rw[if_pos (by omega),if_pos (by omega)];simp
 unfold atI;rw[e];exact h
def iK(b:Expr):Prop:=∀o i,subscripted b false o i=operate [o,i] (getItem o i)
noncomputable def IxR(X:Cx)(r:R2):Prop :=
 ∀(value slice:Expr)(pins:List (Addr×Obj))(s:Shared)(σ:St)(H:Hp)(x y:V)(v u:Value)(Q:VK),Inv X pins σ H s->RelV x v->RelV y u->r x y H Q ->
  subscripted slice false v u=operate [v,u] (getItem v u)->wpAny (model X.prog X.w) X.A (subscriptTail value slice v u) (EP X pins σ Q) X.xe s
noncomputable def MtR(X:Cx)(id:String)(r:V->List V->Hp->VK->Prop):Prop :=
 ∀(pins:List (Addr×Obj))(s:Shared)(σ:St)(H:Hp)(x:V)(xs:List V)(v:Value)(us:List Value)(Q:VK),Inv X pins σ H s->RelV x v->Vals xs us->r x xs H Q ->
  wpAny (model X.prog X.w) X.A (call (.builtin id) (v::us)) (EP X pins σ Q) X.xe s
section
variable{X:Cx}{a b:Expr}{ta tb:TE}{pos:Pos}
theorem IxR.or{r r':R2}(h:IxR X r)(h':IxR X r'):IxR X (λx y H Q=>r x y H Q\/r' x y H Q):=by
 intro value slice pins s σ H x y v u Q I rx ry q hs
 rcases q with q|q
 ·exact h value slice pins s σ H x y v u Q I rx ry q hs
 ·exact h' value slice pins s σ H x y v u Q I rx ry q hs
theorem Ft{r:R2}(hr:IxR X r)(ha:PE X a ta)(hb:PE X b tb)(hs:iK b):PE X (.Subscript a b pos) (tOp r ta tb):=by
 intro pins s σ H Q I h
 exact Subscript_ (Cc ha hb I h λv u s2 x y H2 I2 rx ry q=>hr a b pins s2 σ H2 x y v u Q I2 rx ry q (hs _ _))
noncomputable def G0(K:JH):R2:=λx y H Q=>∃p xs i v,x=.ref p/\y=.int i/\SqL K H p xs/\atI xs i=some v/\Q v H
noncomputable def FP(K:JH):R2:=λx y H Q=>∃p xs i v,x=.ref p/\y=.int i/\SqT K H p xs/\atI xs i=some v/\Q v H
noncomputable def Fx:R2:=λx y H Q=>∃z i c,x=.str z/\y=.int i/\z.length<=sizeLine/\atI z.cps.toList i=some c/\Q (.str ⟨#[c]⟩) H
theorem yi:IxR X (G0 X.K):=by
 intro value slice pins s σ H x y v u Q I rx ry h hs
 obtain⟨p,xs,i,z,rfl,rfl,hq,he,q⟩:=h
 cases rx
 obtain⟨t,rfl⟩:=ry
 obtain⟨its,r,pl,hz⟩:=I.list hq
 obtain⟨j,h1,h2,h3,h4,h5⟩:=k9 he
 obtain⟨w,ew,rw'⟩:=r.get h2
 have hl:=r.length
 have hn:=jy
 have fin:EP X pins σ Q w s:=⟨z,H,I,rw',q⟩
 by_cases h0:0<=i
 ·have hj:i.toNat=j:=by
   rw[seqIndex_of h0 h5] at h1
   exact JV h1
  exact item_listR pl.isList h0 (by omega) (by rw[hj];simpa using ew) fin hs
 ·have hj:(i+(its.toArray.size:Int)).toNat=j:=by
   rw[seqIndex_neg (by omega) h4] at h1
   rw[JO,<- hl]
   exact JV h1
  exact subscriptTail_builtinR (x:=w) pl.isList.typeIs slot_list_getitem.lookup
   (wpAny_getItem_list_neg (Q:=λr s'=>r=w/\EP X pins σ Q r s') pl.isList (by omega) (by rw[JO]<;>omega) (by omega) (by rw[hj];simpa using ew) ⟨rfl,fin⟩) hs
theorem Dr:IxR X (FP X.K):=by
 intro value slice pins s σ H x y v u Q I rx ry h hs
 obtain⟨p,xs,i,z,rfl,rfl,hq,he,q⟩:=h
 cases rx
 obtain⟨t,rfl⟩:=ry
 obtain⟨its,r,pl,hz⟩:=I.tuple hq
 obtain⟨j,h1,h2,h3,h4,h5⟩:=k9 he
 obtain⟨w,ew,rw'⟩:=r.get h2
 have hl:=r.length
 have hn:=jy
 have fin:EP X pins σ Q w s:=⟨z,H,I,rw',q⟩
 exact subscriptTail_builtinR (x:=w) pl.typeIs slot_tuple_getitem.lookup
  (getItem_tuple (j:=j) (Q:=λr s'=>r=w/\EP X pins σ Q r s') pl (by omega) (by omega) (by rw[JO,<- hl];exact h1) (by simpa using ew) ⟨rfl,fin⟩) hs
theorem Dk:IxR X Fx:=by
 intro value slice pins s σ H x y v u Q I rx ry h hs
 obtain⟨z,i,c,rfl,rfl,hz,he,q⟩:=h
 obtain⟨t,rfl⟩:=rx
 obtain⟨t',rfl⟩:=ry
 obtain⟨j,h1,h2,h3,h4,h5⟩:=k9 he
 have hl:z.cps.toList.length=z.length:=by simp[Nv]
 rw[hl] at h1 h4 h5
 have hn:=jy
 exact tail_any (typeIs_str s z t) slot_str_getitem.lookup (getItem_str (c:=c) (by
  have e1:decide (i < -(2^63:Int))=false:=decide_eq_false (by omega)
  have e2:decide (i≥2^63)=false:=decide_eq_false (by omega)
  rw[e1,e2,Bool.or_false]) (by rw[h1];simpa using h2) ⟨.str ⟨#[c]⟩,H,I.tok _,⟨_,rfl⟩,q⟩) hs
noncomputable def rIx(K:JH):R2:=λx y H Q=>G0 K x y H Q\/FP K x y H Q\/Fx x y H Q
theorem Bq:IxR X (rIx X.K):=yi.or (Dr.or Dk)
theorem nX(its:List Value)(n j:Nat)(u:Value):MO (·.setIfInBounds j u) { cls:=.type "list",data:=.seq its.toArray n }={ cls:=.type "list",data:=.seq (its.set j u).toArray n }:=by
 simp[MO]
theorem Inv.lst{pins:List (Addr×Obj)}{σ:St}{H:Hp}{s:Shared}{p:Addr}{xs:List V}(I:Inv X pins σ H s)(h:H p=some (.lst xs)) :
  ∃(its:List Value) (n:Nat),Vals xs its/\s.heap.get? p=some { cls:=.type "list",data:=.seq its.toArray n }/\xs.length<=sizeLine:=by
 obtain⟨z,its,n,r,e⟩:=I.hok p _ h
 exact⟨its,n,r,e,z⟩
theorem Inv.Es{pins:List (Addr×Obj)}{σ:St}{H:Hp}{s:Shared}{p:Addr}{xs ys:List V}{its its':List Value}{n n':Nat}{f:Obj->Obj}(I:Inv X pins σ H s)(h:H p=some (.lst xs))
  (ho:s.heap.get? p=some { cls:=.type "list",data:=.seq its.toArray n })(hf:f { cls:=.type "list",data:=.seq its.toArray n }={ cls:=.type "list",data:=.seq its'.toArray n' })(r:Vals ys its')(hz:ys.length<=sizeLine)(t:Nat) :
  Inv X pins σ (upd H p (.lst ys)) { s with heap:=s.heap.update p f,toks:=t }:=by
 have e:(s.heap.update p f).get? p=some { cls:=.type "list",data:=.seq its'.toArray n' }:=by
  rw[LH f ho (by rw[hf]<;>rfl),hf]
 refine I.write (x:=p) (e:=p) (by rw[h];trivial) (.inl rfl) (λb u hb q=>(Lf _ _ (KJ hb)).trans q) ⟨_,e⟩ ?_
 exact⟨hz,its',n',r,e⟩
noncomputable def AE:V->V->V->Hp->(Hp->Prop)->Prop:=λo i v H Q=>∃p xs k j,o=.ref p/\i=.int k/\H p=some (.lst xs)/\ixN xs.length k=some j/\Q (upd H p (.lst (xs.set j v)))
theorem set_list:Ih X AE:=by
 intro pins s σ H o i v ov iv u Q I ro ri rv h
 obtain⟨p,xs,k,j,rfl,rfl,hp,hj,q⟩:=h
 cases ro
 obtain⟨t,rfl⟩:=ri
 obtain⟨its,n,r,ho,hz⟩:=I.lst hp
 obtain⟨h1,h2,h3,h4⟩:=qP hj
 have hl:=r.length
 have hn:=jy
 have I':Inv X pins σ (upd H p (.lst (xs.set j v))) { s with heap:=s.heap.update p (MO (·.setIfInBounds j u)) } :=
  I.Es hp ho (nX its n j u) (r.set rv j) (by rw[List.length_set];exact hz) s.toks
 by_cases h0:0<=k
 ·have hk:k.toNat=j:=by
   rw[seqIndex_of h0 h4] at h1
   exact JV h1
  exact PySem.W.ki_setAt ho h0 (by omega) (by rw[JO,<- hl];exact h4) (by rw[hk];exact⟨_,I',q⟩)
 ·have hk:(k+(its.toArray.size:Int)).toNat=j:=by
   rw[seqIndex_neg (by omega) h3] at h1
   rw[JO,<- hl]
   exact JV h1
  exact PySem.W.ki_setBack ho (by omega) (by rw[JO,<- hl];exact h3) (by omega) (by rw[hk];exact⟨_,I',q⟩)
theorem kU(lo hi:Option Int)(n:Nat):(sliceBounds lo hi none n).1=((HT.sIx n 0 lo:Nat):Int)/\(sliceBounds lo hi none n).2.1=((HT.sIx n n hi:Nat):Int)/\(sliceBounds lo hi none n).2.2=1:=by
 refine⟨?_,?_,rfl⟩
 ·cases lo with
  | none=>simp[sliceBounds,HT.sIx]
  | some i =>
   simp only[sliceBounds,HT.sIx,Oz,show (1:Int) > 0 by decide,if_true]
   by_cases h:i<0
   ·simp only[h,if_true]<;>omega
   ·simp only[h,if_false]<;>omega
 ·cases hi with
  | none=>simp[sliceBounds,HT.sIx]
  | some i =>
   simp only[sliceBounds,HT.sIx,Oz,show (1:Int) > 0 by decide,if_true]
   by_cases h:i<0
   ·simp only[h,if_true]<;>omega
   ·simp only[h,if_false]<;>omega
theorem jG(its:List Value)(lo hi:Option Int):slicePick its.toArray lo hi none=((its.drop (HT.sIx its.length 0 lo)).take (HT.sIx its.length its.length hi-HT.sIx its.length 0 lo)).toArray:=by
 obtain⟨h1,h2,h3⟩:=kU lo hi its.toArray.size
 unfold slicePick
 rw[h1,h2,h3]
 simp only[sliceRange_one,pick_run,JO]<;>rfl
noncomputable def IJ(K:JH):V->Option Int->Option Int->Hp->VK->Prop:=λx lo hi H Q=>∃a xs,x=.ref a/\SqL K H a xs/\∀p,H p=none->Q (.ref p) (upd H p (.lst (kY xs lo hi)))
theorem zY:SlR X (IJ X.K):=by
 intro pins s σ H x v vl vu lo hi sl Q I rx hs pl pu h
 obtain⟨a,xs,rfl,hx,q⟩:=h
 cases rx
 obtain⟨its,r,ht,hz⟩:=I.list hx
 have hlen:=r.length
 refine⟨"list",_,slot_list_getitem.lookup,ht.isList.typeIs,?_⟩
 refine wpAny_getItem_list_slice ht.isList hs pl pu .none (by simp) ?_ (by rw[JO]<;>omega)
 rw[jG,<- hlen]
 refine⟨.ref s.heap.objs.size,_,I.laid (t':=s.toks) (o:=.lst (kY xs lo hi)) (λb ob q=>JM _ q) (J1 _) ?_,rfl,q _ (I.hok.fresh (J1 _))⟩
 exact⟨Kh (hY xs lo hi) hz,_,0,(r.drop (HT.sIx xs.length 0 lo)).take (HT.sIx xs.length xs.length hi-HT.sIx xs.length 0 lo),Kb _ rfl⟩
noncomputable def eX:V->Bool
 | .non=>true
 | .bl _=>true
 | .int _=>true
 | .str _=>true
 | _=>false
noncomputable def eqV:V->V->Bool
 | .non,.non=>true
 | .bl a,.bl b=>a==b
 | .bl a,.int b=>(if a then 1 else 0)==b
 | .int a,.bl b=>a==(if b then 1 else 0)
 | .int a,.int b=>a==b
 | .str a,.str b=>a==b
 | _,_=>false
theorem bt{A:Around}{s:Shared}{y x:V}{u v:Value}(ry:RelV y u)(rx:RelV x v)(fy:eX y=true)(fx:eX x=true):LV A s u v (eqV y x):=by
 cases y with
 | non =>
  cases ry
  cases x with
  | non=>cases rx;exact N4 _
  | bl b=>cases rx;exact LV.none_bool b
  | int b=>obtain⟨t,rfl⟩:=rx;exact LV.none_int b t
  | str b=>obtain⟨t,rfl⟩:=rx;exact LV.none_str b t
  | _=>exact absurd (show false=true from fx) Kc
 | bl a =>
  cases ry
  cases x with
  | non=>cases rx;exact LV.bool_none a
  | bl b=>cases rx;exact LV.bool_bool a b
  | int b=>obtain⟨t,rfl⟩:=rx;exact LV.bool_int a b t
  | str b=>obtain⟨t,rfl⟩:=rx;exact LV.bool_str a b t
  | _=>exact absurd (show false=true from fx) Kc
 | int a =>
  obtain⟨t',rfl⟩:=ry
  cases x with
  | non=>cases rx;exact LV.int_none a t'
  | bl b=>cases rx;exact LV.int_bool a t' b
  | int b=>obtain⟨t,rfl⟩:=rx;exact LV.int_int a t' b t
  | str b=>obtain⟨t,rfl⟩:=rx;exact Nz a t' b t
  | _=>exact absurd (show false=true from fx) Kc
 | str a =>
  obtain⟨t',rfl⟩:=ry
  cases x with
  | non=>cases rx;exact LV.str_none a t'
  | bl b=>cases rx;exact LV.str_bool a t' b
  | int b=>obtain⟨t,rfl⟩:=rx;exact NA a t' b t
  | str b=>obtain⟨t,rfl⟩:=rx;exact LV.str_str a t' b t
  | _=>exact absurd (show false=true from fx) Kc
 | _=>exact absurd (show false=true from fy) Kc
noncomputable def eqU(x:V)(u:Value):Bool:=match u with
 | .none=>eqV .non x
 | .bool b=>eqV (.bl b) x
 | .int i _=>eqV (.int i) x
 | .str z _=>eqV (.str z) x
 | _=>false
theorem wk{x y:V}{u:Value}(r:RelV y u)(f:eX y=true):eqU x u=eqV y x:=by
 cases y with
 | non=>cases r;rfl
 | bl b=>cases r;rfl
 | int i=>obtain⟨t,rfl⟩:=r;rfl
 | str z=>obtain⟨t,rfl⟩:=r;rfl
 | _=>exact absurd (show false=true from f) Kc
theorem gy{x:V}:∀{xs:List V}{us:List Value},Vals xs us->xs.all eX=true->us.any (eqU x)=xs.any λy=>eqV y x
 | _,_,.nil,_=>rfl
 | y::xs,u::us,.cons r t,f=>by
  rw[Ki,JK] at f
  rw[Lw,Lw,wk r f.1,gy t f.2]
theorem eP{A:Around}{s:Shared}{x:V}{v:Value}(rx:RelV x v)(fx:eX x=true):∀{xs:List V}{us:List Value},Vals xs us->xs.all eX=true->∀u∈us,LV A s u v (eqU x u)
 | _,_,.nil,_=>λu hu=>by cases hu
 | y::xs,u::us,.cons r t,f=>λu' hu=>by
  rw[Ki,JK] at f
  rcases J6.mp hu with rfl|hu
  ·rw[wk r f.1];exact bt r rx f.1 fx
  ·exact eP rx fx t f.2 u' hu
noncomputable def inV(x:V)(xs:List V):Bool:=xs.any λy=>eqV y x
noncomputable def rIn(K:JH)(neg:Bool):R2:=λx y H Q=>∃p xs,y=.ref p/\(SqL K H p xs\/SqT K H p xs)/\eX x=true/\xs.all eX=true/\Q (.bl (if neg then !inV x xs else inV x xs)) H
theorem kg:OpR X (compareOp .In) (rIn X.K false):=by
 intro pins s σ H x y v u Q I rx ry h
 obtain⟨p,xs,rfl,hq,fx,fs,q⟩:=h
 cases ry
 rcases hq with hq|hq
 ·obtain⟨its,r,pl,hz⟩:=I.list hq
  refine SeqAt.in_listAt (eqU x) pl.isList (λw hw=>eP rx fx r fs w (by simpa using hw)) ⟨.bl _,H,I,rfl,?_⟩
  rw[show its.toArray.any (eqU x)=its.any (eqU x) by simp,gy r fs]
  exact q
 ·obtain⟨its,r,pl,hz⟩:=I.tuple hq
  refine SeqAt.in_tupleAt (eqU x) pl (λw hw=>eP rx fx r fs w (by simpa using hw)) ⟨.bl _,H,I,rfl,?_⟩
  rw[show its.toArray.any (eqU x)=its.any (eqU x) by simp,gy r fs]
  exact q
theorem gQ:OpR X (compareOp .NotIn) (rIn X.K true):=by
 intro pins s σ H x y v u Q I rx ry h
 obtain⟨p,xs,rfl,hq,fx,fs,q⟩:=h
 cases ry
 rcases hq with hq|hq
 ·obtain⟨its,r,pl,hz⟩:=I.list hq
  refine SeqAt.notIn_listAt (eqU x) pl.isList (λw hw=>eP rx fx r fs w (by simpa using hw)) ⟨.bl _,H,I,rfl,?_⟩
  rw[show its.toArray.any (eqU x)=its.any (eqU x) by simp,gy r fs]
  exact q
 ·obtain⟨its,r,pl,hz⟩:=I.tuple hq
  refine SeqAt.notIn_tupleAt (eqU x) pl (λw hw=>eP rx fx r fs w (by simpa using hw)) ⟨.bl _,H,I,rfl,?_⟩
  rw[show its.toArray.any (eqU x)=its.any (eqU x) by simp,gy r fs]
  exact q
theorem kZ:aY X (.type "list") (λxs H Q=>∃p ys,xs=[.ref p]/\(SqL X.K H p ys\/SqT X.K H p ys)/\∀l,H l=none->Q (.ref l) (upd H l (.lst ys))):=by
 intro pins s σ H xs us Q I r h
 obtain⟨p,ys,rfl,hq,q⟩:=h
 obtain⟨u,rfl,rx⟩:=vals1 r
 cases rx
 have fin:∀(its:List Value),Vals ys its->ys.length<=sizeLine->∀(h':Heap)(c':Nat),(∀b o',s.heap.get? b=some o'->h'.get? b=some o') ->
   h'.get? s.heap.objs.size=some { cls:=.type "list",dict:=none,data:=.seq its.toArray c',slots:=#[] }->EP X pins σ Q (.ref s.heap.objs.size) { s with heap:=h' }:=λits r' hz h' c' kp e =>
  ⟨.ref s.heap.objs.size,_,I.laid (t':=s.toks) kp (J1 _) (show aK X.prog X.w _ h' _ (.lst ys) from ⟨hz,its,c',r',e⟩),rfl,q _ (I.hok.fresh (J1 _))⟩
 rcases hq with hq|hq
 ·obtain⟨its,r',pl,hz⟩:=I.list hq
  have hlen:=r'.length
  obtain⟨o,ho,hc,n,hd⟩:=pl.isList
  exact call_list_seq p (.inl rfl) ho hc hd (λh' c' kp e=>fin its r' hz h' c' kp e) (by simp only[JO]<;>omega)
 ·obtain⟨its,r',pl,hz⟩:=I.tuple hq
  have hlen:=r'.length
  obtain⟨o,ho,hc,n,hd⟩:=pl
  exact call_list_seq p (.inr rfl) ho hc hd (λh' c' kp e=>fin its r' hz h' c' kp e) (by simp only[JO]<;>omega)
theorem jE:aY X (.type "tuple") (λxs H Q=>∃p ys,xs=[.ref p]/\((SqL X.K H p ys/\∀l,H l=none->Q (.ref l) (upd H l (.tup ys)))\/(SqT X.K H p ys/\Q (.ref p) H))):=by
 intro pins s σ H xs us Q I r h
 obtain⟨p,ys,rfl,h⟩:=h
 obtain⟨u,rfl,rx⟩:=vals1 r
 cases rx
 rcases h with ⟨hq,q⟩|⟨hq,q⟩
 ·obtain⟨its,r',pl,hz⟩:=I.list hq
  have hlen:=r'.length
  refine call_tuple_list pl.isList (λh' kp=>?_) (by simp only[JO]<;>omega)
  have I1:Inv X pins σ H { s with heap:=h' }:=I.kept (t':=s.toks) kp
  have I2:Inv X pins σ (upd H h'.objs.size (.tup ys)) { s with heap:=h'.push { cls:=.type "tuple",data:=.seq its.toArray } } :=
   I1.laid (t':=s.toks) (λb o e=>JM _ e) (J1 _) (show aK X.prog X.w _ _ _ (.tup ys) from ⟨hz,its,r',cG.new _ _⟩)
  exact⟨.ref h'.objs.size,_,I2,rfl,q _ (I1.hok.fresh (J1 _))⟩
 ·obtain⟨its,r',pl,hz⟩:=I.tuple hq
  exact call_tuple_same pl ⟨.ref p,H,I,rfl,q⟩
def tyV(K:JH)(T:String)(x:V)(H:Hp):Prop:=match x with
 | .str _=>T = "str"
 | .int _=>T = "int"
 | .ref p=>(T = "list" /\ ∃xs,SqL K H p xs)\/(T = "tuple" /\ ∃o,K.lookup p=some o/\o.cls=.type "tuple" /\ o.dict=none) \/
   (T = "dict" /\ ((∃kvs,H p=some (.dK kvs))\/∃kvs,H p=some (.dT kvs)))\/(T = "set" /\ ∃S n,H p=some (.set S n))
 | _=>False
theorem EM{pins:List (Addr×Obj)}{σ:St}{H:Hp}{s:Shared}{T:String}{x:V}{v:Value}(I:Inv X pins σ H s)(r:RelV x v)(ty:tyV X.K T x H) :
  s.TypeIs v T/\∀a,v=.ref a->∃ob,s.heap.get? a=some ob/\ob.dict=none:=by
 cases x with
 | str z =>
  obtain⟨t,rfl⟩:=r
  cases (show T = "str" from ty)
  exact⟨typeIs_str s z t,λ_ e=>nomatch e⟩
 | int i =>
  obtain⟨t,rfl⟩:=r
  cases (show T = "int" from ty)
  exact⟨typeIs_int s i t,λ_ e=>nomatch e⟩
 | ref p =>
  cases r
  rcases ty with ⟨rfl,xs,hq⟩|⟨rfl,o,hk,hc,hd⟩|⟨rfl,hk⟩|⟨rfl,S,n,hk⟩
  ·obtain⟨its,_,pl,_⟩:=I.list hq
   refine⟨pl.isList.typeIs,λa e=>?_⟩
   cases e
   obtain⟨o,n,e,c,hd,_⟩:=pl
   exact⟨o,e,hd⟩
  ·refine⟨⟨o,I.kIn p o hk,hc⟩,λa e=>?_⟩
   cases e
   exact⟨o,I.kIn _ o hk,hd⟩
  ·have z:∃o,s.heap.get? p=some o/\o.ExactDict:=by
    rcases hk with ⟨kvs,hk⟩|⟨kvs,hk⟩
    ·obtain⟨_,_,_,_,o,_,_,e,ex,_⟩:=I.hok p _ hk
     exact⟨o,e,ex⟩
    ·obtain⟨_,_,_,_,o,_,_,e,ex,_⟩:=I.hok p _ hk
     exact⟨o,e,ex⟩
   obtain⟨o,e,ex⟩:=z
   refine⟨⟨o,e,ex.1⟩,λa e2=>?_⟩
   cases e2
   exact⟨o,e,ex.2.1⟩
  ·obtain⟨o,_,_,_,e,ex,_⟩:=I.hok p _ hk
   refine⟨⟨o,e,ex.1⟩,λa e2=>?_⟩
   cases e2
   exact⟨o,e,ex.2.1⟩
 | _=>exact KR ty
noncomputable def tBM(K:JH)(T:String)(r:V->List V->Hp->VK->Prop)(to:TE)(t:TA):TE:=λσ H Q=>to σ H λx H1=>tyV K T x H1/\t σ H1 λxs H2=>r x xs H2 Q
variable{o e:Expr}{es:List Expr}{to:TE}{t:TA}{name:Str}{apos cpos:Pos}{T id:String}{r:V->List V->Hp->VK->Prop}
theorem tT(pa:PlainAttrs T)(slot:Slot T name id)(hty:typeOf (.builtin id)=pure (.type "method_descriptor"))(hm:MtR X id r)(ho:PE X o to)(ha:PA X (e::es) t)
  (hbase:attributeBase o name X.env (eval o X.env)=eval o X.env:=by rfl)
  (hfew:((backTo cpos (starEach (e::es) X.env)).all (λx=>!x.1)&&(backToKw cpos (keywordEach [] X.env)).all (λx=>x.1.isSome)
   && decide ((e::es).length+([]:List Keyword).length+(if ([]:List Keyword).isEmpty then 0 else 1)<30))=true:=by rfl)
  (hline:(apos.endLine==cpos.line)=true:=by rfl) (hs:starEach (e::es) X.env=(false,eval e X.env)::starEach es X.env:=by rfl) (hplain:(backTo cpos (starEach es X.env)).any (·.1)=false:=by rfl) :
  PE X (.Call (.Attribute o name apos) (e::es) [] cpos) (tBM X.K T r to t):=by
 intro pins s σ H Q I h
 refine wpAny_Call_method_late hbase hfew hline rfl (thn (ho pins s σ H _ I h) λv s1 ⟨x,H1,I1,r1,ty,q1⟩=>?_)
 obtain⟨h1,h2⟩:=EM I1 r1 ty
 refine⟨T,id,pa,slot,hty,h1,h2,?_⟩
 have hA:=ha cpos pins s1 σ H1 _ I1 q1
 rw[hs] at hA ⊢
 refine NH (by show (false || (backTo cpos (starEach es X.env)).any (·.1))=false;rw[hplain]<;>rfl) (Mx ?_)
 exact thn hA λus s2 ⟨vs,H2,I2,r2,q2⟩=>hm pins s2 σ H2 x vs v us Q I2 r1 r2 q2
end
end L2
namespace L2
open PySem PySem.Spec PyProof.Rows
noncomputable def MtM(X:Cx)(id:String)(r:V->List V->Hp->VK->Prop):Prop :=
 ∀(pins:List (Addr×Obj))(s:Shared)(σ:St)(H:Hp)(x:V)(xs:List V)(v:Value)(us:List Value)(Q:VK),Inv X pins σ H s->RelV x v->Vals xs us->r x xs H Q ->
  wpAny (model X.prog X.w) X.A (call (.builtin id) (v::us)) (EP X pins σ Q) X.xe s
theorem Vals.one:∀{x:V}{us:List Value},Vals [x] us->∃u,us=[u]/\RelV x u
 | _,_,.cons r .nil=>⟨_,rfl,r⟩
section
variable{X:Cx}{pins:List (Addr×Obj)}{σ:St}{H:Hp}{s:Shared}{l b:Addr}{xs ys zs:List V}
theorem Inv.IB{its its':List Value}{n:Nat}{f:Array Value->Array Value}{t':Nat}(I:Inv X pins σ H s)(hH:H l=some (.lst xs))
  (e:s.heap.get? l=some { cls:=.type "list",data:=.seq its.toArray n })(hf:f its.toArray=its'.toArray)(hv:Vals ys its')(hz:ys.length<=sizeLine) :
  Inv X pins σ (upd H l (.lst ys)) { s with heap:=s.heap.update l (MO f),toks:=t' }:=by
 have q:=PySem.IsL.update e f
 rw[hf] at q
 refine I.write (x:=l) (e:=l) (by rw[hH];exact trivial) (.inl rfl) (λb' u hb hu=>(Lf s.heap (MO f) (KJ hb)).trans hu) ⟨_,q⟩ ?_
 exact⟨hz,its',_,hv,q⟩
theorem Inv.Ja{its:List Value}{t':Nat}(I:Inv X pins σ H s)(hv:Vals ys its)(hz:ys.length<=sizeLine) :
  Inv X pins σ (upd H s.heap.objs.size (.lst ys)) { s with heap:=s.heap.push { cls:=.type "list",data:=.seq its.toArray },toks:=t' } :=
 I.laid (λ_ _ q=>JM _ q) (J1 _) ⟨hz,its,0,hv,Kb _ rfl⟩
theorem Inv.fresh(I:Inv X pins σ H s):H s.heap.objs.size=none:=I.hok.fresh (J1 _)
theorem Inv.Jf(I:Inv X pins σ H s)(hH:H l=some (.lst xs)):xs.length<=sizeLine/\∃(its:List Value) (n:Nat),Vals xs its/\xs.length=its.length/\s.heap.get? l=some { cls:=.type "list",data:=.seq its.toArray n }:=by
 obtain⟨z,its,n,r,e⟩:=I.hok l _ hH
 exact⟨z,its,n,r,r.length,e⟩
end
section
variable{X:Cx}
noncomputable def y0:V->List V->Hp->VK->Prop:=λx vs H Q=>∃l xs y,x=.ref l/\vs=[y]/\H l=some (.lst xs)/\xs.length<sizeLine/\Q .non (upd H l (.lst (xs++[y])))
theorem sQ:MtM X "list.append" y0:=by
 intro pins s σ H x vs v us Q I rx rv h
 obtain⟨l,xs,y,rfl,rfl,hH,hz,q⟩:=h
 cases rx
 obtain⟨u,rfl,ru⟩:=rv.one
 obtain⟨z,its,n,r,hl,e⟩:=I.Jf hH
 refine call_meets F.slot_list_append ⟨_,e,rfl⟩ F.entry_list_append (F.args_list_append_2 _ _) (PySem.list_append l its.toArray n u (by rw[JO];omega)) ⟨e,?_⟩
 refine⟨.non,_,I.IB (its':=its++[u]) hH e (by simp) (r.append (.cons ru .nil)) ?_,rfl,q⟩
 rw[Kg,List.length_singleton]
 omega
end
section
variable{prog:Program}{w:World}{A:Around}{E:Value->Shared->Prop}{s:Shared}
set_option maxRecDepth 100000 in
end
end L2
namespace L2
open PySem PySem.Spec PyProof.Rows
section
variable{κ:Type}[DecidableEq κ]
noncomputable def cJ(kvs:List (κ×V))(k:κ):Option V:=(kvs.find? λkv=>decide (kv.1=k)).map (·.2)
noncomputable def putK(kvs:List (κ×V))(k:κ)(v:V):List (κ×V) :=
 if (kvs.any λkv=>decide (kv.1=k))=true then kvs.map (λkv=>if kv.1=k then (kv.1,v) else kv) else kvs++[(k,v)]
noncomputable def eM(kvs:List (κ×V))(k:κ):List (κ×V):=kvs.filter λkv=>decide (kv.1≠k)
theorem iX{p:κ×V}{r:List (κ×V)}{k:κ}(e:p.1=k):cJ (p::r) k=some p.2:=by simp[cJ,KY,e]
theorem ju{p:κ×V}{r:List (κ×V)}{k:κ}(e:¬ p.1=k):cJ (p::r) k=cJ r k:=by simp[cJ,KY,e]
theorem nk(k:κ):∀kvs:List (κ×V),(kvs.any λkv=>decide (kv.1=k))=(cJ kvs k).isSome
 | []=>rfl
 | p::r=>by
  rw[Lw]
  by_cases e:p.1=k
  ·simp only[iX e,decide_eq_true e,Bool.true_or,Option.isSome_some]
  ·rw[ju e,decide_eq_false e,Bool.false_or];exact nk k r
theorem fj(kvs:List (κ×V))(k:κ)(v:V):(putK kvs k v).length<=kvs.length+1:=by
 unfold putK
 split
 ·rw[Ke];omega
 ·rw[Kg,JZ,KZ];omega
theorem fL.cA{o:Option V}{u:Option Value}(r:fL o u):o.isSome=u.isSome:=by
 cases o with
 | none=>cases u with
  | none=>rfl
  | some _=>exact(show False from r).elim
 | some _=>cases u with
  | none=>exact(show False from r).elim
  | some _=>rfl
theorem KV.val{kvs:List (κ×V)}{vs:List (κ×Value)}(r:KV kvs vs)(k:κ):fL (cJ kvs k) (valueAt vs k):=by
 unfold KV at r
 induction r with
 | nil=>exact Mp
 | @cons p q ps qs h t ih =>
  obtain⟨h1,h2⟩:=h
  by_cases e:p.1=k
  ·have e':q.1=k:=h1.symm.trans e
   have b:valueAt (q::qs) k=some q.2:=by simp[valueAt,KY,e']
   rw[iX e,b];exact h2
  ·have e':¬ q.1=k:=λz=>e (h1.trans z)
   have b:valueAt (q::qs) k=valueAt qs k:=by simp[valueAt,KY,e']
   rw[ju e,b];exact ih
theorem KV.any{kvs:List (κ×V)}{vs:List (κ×Value)}(r:KV kvs vs)(k:κ):(kvs.any λkv=>decide (kv.1=k))=vs.any λkv=>decide (kv.1=k):=by
 unfold KV at r
 induction r with
 | nil=>rfl
 | cons h t ih=>rw[Lw,Lw,ih,h.1]
theorem KV.De{kvs:List (κ×V)}{vs:List (κ×Value)}(r:KV kvs vs)(k:κ){y:V}{u:Value}(ry:RelV y u) :
  KV (kvs.map λkv=>if kv.1=k then (kv.1,y) else kv) (vs.map λkv=>if kv.1=k then (kv.1,u) else kv):=by
 unfold KV at r ⊢
 induction r with
 | nil=>exact .nil
 | @cons p q ps qs h t ih =>
  rw[JU,JU]
  refine .cons ?_ ih
  obtain⟨h1,h2⟩:=h
  by_cases e:p.1=k
  ·rw[if_pos e,if_pos (h1.symm.trans e)];exact⟨h1,ry⟩
  ·rw[if_neg e,if_neg (λz=>e (h1.trans z))];exact⟨h1,h2⟩
theorem KV.put{kvs:List (κ×V)}{vs:List (κ×Value)}(r:KV kvs vs)(k:κ){y:V}{u:Value}(ry:RelV y u):KV (putK kvs k y) (stored vs k u):=by
 unfold putK stored
 rw[r.any k]
 by_cases e:(vs.any λkv=>decide (kv.1=k))=true
 ·rw[if_pos e,if_pos e];exact r.De k ry
 ·rw[if_neg e,if_neg e];exact Ph r ⟨rfl,ry⟩
theorem KV.drop{kvs:List (κ×V)}{vs:List (κ×Value)}(r:KV kvs vs)(k:κ):KV (eM kvs k) (without vs k):=by
 unfold KV at r ⊢
 unfold eM without
 induction r with
 | nil=>exact .nil
 | @cons p q ps qs h t ih =>
  obtain⟨h1,h2⟩:=h
  rw[Mm,Mm]
  by_cases e:p.1=k
  ·have a:¬ decide (p.1≠k)=true:=by simp[e]
   have b:¬ decide (q.1≠k)=true:=by simp[h1.symm.trans e]
   rw[if_neg a,if_neg b];exact ih
  ·have e':¬ q.1=k:=λz=>e (h1.trans z)
   have a:decide (p.1≠k)=true:=by simp[e]
   have b:decide (q.1≠k)=true:=by simp[e']
   rw[if_pos a,if_pos b];exact .cons ⟨h1,h2⟩ ih
theorem KV.keys{kvs:List (κ×V)}{vs:List (κ×Value)}(r:KV kvs vs):kvs.map (·.1)=vs.map (·.1):=by
 unfold KV at r
 induction r with
 | nil=>rfl
 | cons h t ih=>rw[JU,JU,ih,h.1]
theorem KV.length{kvs:List (κ×V)}{vs:List (κ×Value)}(r:KV kvs vs):kvs.length=vs.length:=Nm r
theorem m8(kvs:List (κ×V))(k:κ):(eM kvs k).length<=kvs.length:=List.length_filter_le _ _
end
theorem ir{P:Program}{w:World}{k:Key}{u:Value}(r:RelV (kV k) u):(aG P w).is k u=true:=by
 cases k with
 | inl i=>obtain⟨t,e⟩:=(show ∃t,u=Ny i t from r);subst e;exact mV P w i t
 | inr x=>obtain⟨t,e⟩:=(show ∃t,u=MX x t from r);subst e;exact mq P w x t
theorem jS{P:Program}{w:World}:∀{ks:List Key}{us:List Value},Vals (ks.map kV) us->ItemsAre (aG P w) ks us
 | [],_,r=>by rw[J7] at r;cases r;exact .nil
 | k::ks,_,r=>by
  rw[JU] at r
  cases r with
  | cons h t=>exact .cons (ir h) (jS t)
noncomputable abbrev KT(H:Hp):List (List Key×V)->List (List Key×Addr×Value)->Prop:=Paired λp q=>p.1=q.1/\H q.2.1=some (.tup (p.1.map kV))/\RelV p.2 q.2.2
theorem KT.val{H:Hp}{kvs:List (List Key×V)}{xs:List (List Key×Addr×Value)}(r:KT H kvs xs)(k:List Key):fL (cJ kvs k) ((atKey xs k).map (·.2)):=by
 induction r with
 | nil=>exact Mp
 | @cons p q ps qs h t ih =>
  obtain⟨h1,_,h2⟩:=h
  by_cases e:p.1=k
  ·have e':q.1=k:=h1.symm.trans e
   have b:atKey (q::qs) k=some q.2:=by simp[atKey,KY,e']
   rw[iX e,b];exact h2
  ·have e':¬ q.1=k:=λz=>e (h1.trans z)
   have b:atKey (q::qs) k=atKey qs k:=by simp[atKey,KY,e']
   rw[ju e,b];exact ih
theorem KT.De{H:Hp}{kvs:List (List Key×V)}{xs:List (List Key×Addr×Value)}(r:KT H kvs xs)(k:List Key){y:V}{u:Value}(ry:RelV y u) :
  KT H (kvs.map λkv=>if kv.1=k then (kv.1,y) else kv) (xs.map (putAt k u)):=by
 induction r with
 | nil=>exact .nil
 | @cons p q ps qs h t ih =>
  rw[JU,JU]
  refine .cons ?_ ih
  obtain⟨h1,h2,h3⟩:=h
  unfold putAt
  by_cases e:p.1=k
  ·rw[if_pos e,if_pos (h1.symm.trans e)];exact⟨h1,h2,ry⟩
  ·rw[if_neg e,if_neg (λz=>e (h1.trans z))];exact⟨h1,h2,h3⟩
theorem KT.put{H:Hp}{kvs:List (List Key×V)}{xs:List (List Key×Addr×Value)}(r:KT H kvs xs)(k:List Key){b:Addr}{y:V}{u:Value}(hb:H b=some (.tup (k.map kV)))(ry:RelV y u) :
  KT H (putK kvs k y) (storedH xs k b u):=by
 have e:(kvs.any λkv=>decide (kv.1=k))=(atKey xs k).isSome:=by
  rw[nk,(r.val k).cA,ML]
 unfold putK storedH
 rw[e]
 by_cases q:(atKey xs k).isSome=true
 ·rw[if_pos q,if_pos q];exact r.De k ry
 ·rw[if_neg q,if_neg q];exact Ph r ⟨rfl,hb,ry⟩
theorem KT.keeps{H H':Hp}{kvs:List (List Key×V)}{xs:List (List Key×Addr×Value)}(r:KT H kvs xs)(ht:∀b ys,H b=some (.tup ys)->H' b=some (.tup ys)):KT H' kvs xs :=
 Paired.B2 r λ_ _ z=>⟨z.1,ht _ _ z.2.1,z.2.2⟩
section
variable{P:Program}{w:World}{H:Hp}{h:Heap}{a:Addr}
theorem A6{u:HO}(ok:HOk P w H h)(e:Rd H a u):aK P w H h a u:=e.ok ok
theorem cc{kvs:List (Key×V)}(ok:HOk P w H h)(e:Rd H a (.dK kvs)):kvs.length<=sizeLine/\(a==sysModules)=false/\∃vs,KV kvs vs/\h.DictOf (aG P w) a vs :=
 show aK P w H h a (.dK kvs) from A6 ok e
theorem nQ{kvs:List (Key×V)}(ok:HOk P w H h)(e:H a=some (.dK kvs)):kvs.length<=sizeLine/\(a==sysModules)=false/\∃vs,KV kvs vs/\h.DictOf (aG P w) a vs:=cc ok (.inl e)
theorem jA{ks:List Key}(ok:HOk P w H h)(e:H a=some (.tup (ks.map kV))):(tupleKind (aG P w)).is h ks a:=by
 obtain⟨_,its,r,o,h1,h2,n,h3,_⟩:=(show aK P w H h a (.tup (ks.map kV)) from ok a _ e)
 exact⟨o,its.toArray,n,h1,h2,h3,by simpa using jS r⟩
theorem jL{kvs:List (List Key×V)}(ok:HOk P w H h)(e:Rd H a (.dT kvs)):kvs.length<=sizeLine/\(a==sysModules)=false /\
  ∃xs,KT H kvs xs/\h.DictOfH (tupleKind (aG P w)) a xs:=by
 obtain⟨z,y,xs,r,o,es,ep,h1,h2,h3,h4,h5⟩:=(show aK P w H h a (.dT kvs) from A6 ok e)
 refine⟨z,y,xs,r,o,es,ep,h1,h2,h3,h4,λx hx=>?_,h5⟩
 have all:∀{l:List (List Key×V)}{m:List (List Key×Addr×Value)},KT H l m->∀x∈m,(tupleKind (aG P w)).is h x.1 x.2.1:=by
  intro l m q
  induction q with
  | nil=>intro x hx;exact nomatch hx
  | @cons p q ps qs hq t ih =>
   intro x hx
   rcases J6.mp hx with e|hx
   ·subst e
    exact jA ok (by rw[<- hq.1];exact hq.2.1)
   ·exact ih x hx
 exact all r x hx
theorem GC{kvs:List (List Key×V)}(ok:HOk P w H h)(e:H a=some (.dT kvs)):kvs.length<=sizeLine/\(a==sysModules)=false /\
  ∃xs,KT H kvs xs/\h.DictOfH (tupleKind (aG P w)) a xs:=jL ok (.inl e)
end
noncomputable def fX(H:Hp)(a:Addr)(y:V)(r:Option V):Prop :=
 (∃kvs k,Rd H a (.dK kvs)/\y=kV k/\r=cJ kvs k)\/∃kvs k b,Rd H a (.dT kvs)/\y=.ref b/\H b=some (.tup (k.map kV))/\r=cJ kvs k
noncomputable def Gp(H:Hp)(a:Addr)(y v:V)(H':Hp):Prop :=
 (∃kvs k,H a=some (.dK kvs)/\y=kV k/\kvs.length<sizeLine/\H'=upd H a (.dK (putK kvs k v))) \/
 ∃kvs k b,H a=some (.dT kvs)/\y=.ref b/\H b=some (.tup (k.map kV))/\kvs.length<sizeLine/\H'=upd H a (.dT (putK kvs k v))
section
variable{X:Cx}{pins:List (Addr×Obj)}{σ:St}{H:Hp}{s:Shared}{a:Addr}{y v:V}{u r:Value}{o:Option V}{A:Around}{E:Value->Shared->Prop}
theorem Inv.big(I:Inv X pins σ H s):sysModules<s.heap.objs.size:=by
 have h:mainGlobals<s.heap.objs.size:=(I.mod.glob.keeps I.bk).lt
 exact LW (by decide) h
theorem rK{Q:Value->Shared->Prop}(hu:A.units+1<cLine)(I:Inv X pins σ H s)(g:fX H a y (some v))(ry:RelV y u)(h:∀w' s',Inv X pins σ H s'->RelV v w'->Q w' s') :
  wpAny (model X.prog X.w) A (getItem (.ref a) u) Q E s:=by
 rcases g with ⟨kvs,k,e,ey,l⟩|⟨kvs,k,b,e,ey,eb,l⟩
 ·subst ey
  obtain⟨z,hd,vs,rel,dd⟩:=cc I.hok e
  obtain⟨w',hw,rw'⟩:=fL.some_of (v:=v) (o:=valueAt vs k) (by rw[l];exact rel.val k)
  exact wpAny_getItem_of (ir ry) dd.mapOf hw (h w' _ (I.tok _) rw')
 ·subst ey
  cases (show u=KL b from ry)
  obtain⟨z,hd,xs,rel,dd⟩:=jL I.hok e
  obtain⟨w',hw,rw'⟩:=fL.some_of (v:=v) (o:=(atKey xs k).map (·.2)) (by rw[l];exact rel.val k)
  obtain⟨p,hp,hp2⟩:=Option.map_eq_some_iff.mp hw
  refine wpAny_getItem_heap (tupleKind_room_in1 hu) (jA I.hok eb) dd hp ?_
  rw[hp2]
  exact h w' _ (I.tok _) rw'
theorem Jd{Q:Value->Shared->Prop}(hu:A.units+1<cLine)(I:Inv X pins σ H s)(g:fX H a y o)(ry:RelV y u)(h:∀s',Inv X pins σ H s'->Q (.bool o.isSome) s') :
  wpAny (model X.prog X.w) A (compareOp .In u (.ref a)) Q E s:=by
 rcases g with ⟨kvs,k,e,ey,l⟩|⟨kvs,k,b,e,ey,eb,l⟩
 ·subst ey
  obtain⟨z,hd,vs,rel,dd⟩:=cc I.hok e
  refine wpAny_in_of (ir ry) hd dd.mapOf ?_
  rw[<- (rel.val k).cA,<- l]
  exact h _ (I.tok _)
 ·subst ey
  cases (show u=KL b from ry)
  obtain⟨z,hd,xs,rel,dd⟩:=jL I.hok e
  refine wpAny_in_heap (tupleKind_room_in1 hu) (jA I.hok eb) hd dd ?_
  have q:=(rel.val k).cA
  rw[ML] at q
  rw[<- q,<- l]
  exact h _ (I.tok _)
theorem Ab{Q:Value->Shared->Prop}(hu:A.units+1<cLine)(I:Inv X pins σ H s)(g:fX H a y o)(ry:RelV y u)(h:∀s',Inv X pins σ H s'->Q (.bool (!o.isSome)) s') :
  wpAny (model X.prog X.w) A (compareOp .NotIn u (.ref a)) Q E s:=by
 rcases g with ⟨kvs,k,e,ey,l⟩|⟨kvs,k,b,e,ey,eb,l⟩
 ·subst ey
  obtain⟨z,hd,vs,rel,dd⟩:=cc I.hok e
  refine wpAny_notIn_of (ir ry) hd dd.mapOf ?_
  rw[<- (rel.val k).cA,<- l]
  exact h _ (I.tok _)
 ·subst ey
  cases (show u=KL b from ry)
  obtain⟨z,hd,xs,rel,dd⟩:=jL I.hok e
  refine wpAny_notIn_heap (tupleKind_room_in1 hu) (jA I.hok eb) hd dd ?_
  have q:=(rel.val k).cA
  rw[ML] at q
  rw[<- q,<- l]
  exact h _ (I.tok _)
theorem iD{h':Heap}{t':Nat}{ob:HO}(I:Inv X pins σ H s)(mu:Mut (H a))(hs:Le a s.heap h')(he:∃q,h'.get? a=some q)(new:aK X.prog X.w (upd H a ob) h' a ob) :
  Inv X pins σ (upd H a ob) { s with heap:=h',toks:=t' } :=
 I.write (x:=a) (e:=a) mu (.inl rfl) (λb q hb z=>(hs.2 b hb).trans z) he new
theorem jb{P:Program}{w:World}{H':Hp}{h':Heap}{kvs:List (Key×V)}{vs:List (Key×Value)}(z:kvs.length<=sizeLine)(hd:(a==sysModules)=false)(rel:KV kvs vs)(dd:h'.DictOf (aG P w) a vs) :
  aK P w H' h' a (.dK kvs):=⟨z,hd,vs,rel,dd⟩
theorem sY{H':Hp}{Q:Unit->Shared->Prop}(hu:A.units+1<cLine)(I:Inv X pins σ H s)(g:Gp H a y v H')(ry:RelV y u)(rv:RelV v r)(h:∀s',Inv X pins σ H' s'->Q () s') :
  wpAny (model X.prog X.w) A (setItem (.ref a) u r) Q E s:=by
 rcases g with ⟨kvs,k,e,ey,l,eH⟩|⟨kvs,k,b,e,ey,eb,l,eH⟩
 ·subst ey eH
  obtain⟨z,hd,vs,rel,dd⟩:=nQ I.hok e
  have hz:vs.length<=sizeLine:=by rw[<- rel.length];exact z
  have hl:(putK kvs k v).length<=sizeLine:=by have:=fj kvs k v;omega
  refine wpAny_setItem_pairs (hsz:=hz) (ir ry) dd λh' dd' hs=>h _ ?_
  have he:∃q,h'.get? a=some q:=let ⟨q,_,_,hq,_⟩:=dd';⟨q,hq⟩
  exact iD I (by rw[e];exact Mp) hs he (jb hl hd (rel.put k rv) dd')
 ·subst ey eH
  cases (show u=KL b from ry)
  obtain⟨z,hd,xs,rel,dd⟩:=GC I.hok e
  have hz:xs.length<=sizeLine:=by rw[<- Nm rel];exact z
  have hl:(putK kvs k v).length<=sizeLine:=by have:=fj kvs k v;omega
  refine wpAny_setItem_heap (hsz:=hz) (tupleKind_room_in1 hu) (jA I.hok eb) dd λh' dd' hs=>h _ ?_
  obtain⟨q,es,ep,hq,h2,h3,h4,_,h5⟩:=dd'
  refine iD I (by rw[e];exact Mp) hs ⟨q,hq⟩ ⟨hl,hd,_,(rel.put k eb rv).keeps λc ys ec=>?_,q,es,ep,hq,h2,h3,h4,h5⟩
  rw[aj (Gn ec e (λz=>nomatch z))]
  exact ec
end
section
variable{X:Cx}{pins:List (Addr×Obj)}{σ:St}{H:Hp}{s:Shared}{a:Addr}{kvs:List (Key×V)}{k:Key}{u:Value}{A:Around}{E:Value->Shared->Prop}
theorem E6{Q:Unit->Shared->Prop}(I:Inv X pins σ H s)(e:H a=some (.dK kvs))(ry:RelV (kV k) u)(l:(cJ kvs k).isSome=true)(h:∀s',Inv X pins σ (upd H a (.dK (eM kvs k))) s'->Q () s') :
  wpAny (model X.prog X.w) A (delItem (.ref a) u) Q E s:=by
 obtain⟨z,hd,vs,rel,dd⟩:=nQ I.hok e
 refine wpAny_delItem_slot dd.typeIs (by decide) Nf
  (call_meetsIn Nf dd.typeIs PySem.F.entry_dict_delitem (PySem.F.args_dict_delitem_2 _ _) (meets_dict_delitem_pairs (aG X.prog X.w) a (ir ry)) ⟨vs,dd,by rw[<- rel.length];exact z,by rw[<- (rel.val k).cA];exact l,λh' dd' hs=>h _ ?_⟩)
 have he:∃q,h'.get? a=some q:=let ⟨q,_,_,hq,_⟩:=dd';⟨q,hq⟩
 exact iD I (by rw[e];exact Mp) hs he (jb (Kh (m8 kvs k) z) hd (rel.drop k) dd')
theorem GY{v:V}{more:List Value}{Q:Value->Shared->Prop}(I:Inv X pins σ H s)(e:H a=some (.dK kvs))(ry:RelV (kV k) u)(l:cJ kvs k=some v)(hm:more=[]\/∃x,more=[x])
  (h:∀w' s',Inv X pins σ (upd H a (.dK (eM kvs k))) s'->RelV v w'->Q w' s'):wpAny (model X.prog X.w) A (call (.builtin "dict.pop") (.ref a::u::more)) Q E s:=by
 obtain⟨z,hd,vs,rel,dd⟩:=nQ I.hok e
 obtain⟨w',hw,rw'⟩:=fL.some_of (v:=v) (o:=valueAt vs k) (by rw[<- l];exact rel.val k)
 have hp:(keyPart u).isSome=true:=by
  cases k with
  | inl i=>obtain⟨t,q⟩:=(show ∃t,u=Ny i t from ry);subst q;rfl
  | inr x=>obtain⟨t,q⟩:=(show ∃t,u=MX x t from ry);subst q;rfl
 have ha:argsOk "dict.pop" ⟨.ref a::u::more,[]⟩:=by
  rcases hm with q|⟨x,q⟩
  ·subst q;exact PySem.F.args_dict_pop_2 _ _
  ·subst q;exact PySem.F.args_dict_pop_3 _ _ _
 refine call_meetsIn NC dd.typeIs PySem.F.entry_dict_pop ha (meets_dict_pop_there (aG X.prog X.w) a (ir ry) more hm hp)
  ⟨vs,w',dd,by rw[<- rel.length];exact z,hw,λh' dd' hs=>h w' _ ?_ rw'⟩
 have he:∃q,h'.get? a=some q:=let ⟨q,_,_,hq,_⟩:=dd';⟨q,hq⟩
 exact iD I (by rw[e];exact Mp) hs he (jb (Kh (m8 kvs k) z) hd (rel.drop k) dd')
end
def vL(i:Expr):Prop:=∀ov iv,subscripted i false ov iv=operate [ov,iv] (getItem ov iv)
theorem y8{prog:Program}{w:World}{A:Around}{E:Value->Shared->Prop}{s:Shared}{env:Env}{value slice:Expr}{pos:Pos}{T id:String}{Q:Value->Shared->Prop}
  (hl:typeLookup (.type T) "__getitem__" = pure (some (.builtin id)))(hs:vL slice)
  (h:wpAny (model prog w) A (eval value env) (λo s₁=>wpAny (model prog w) A (eval slice env) (λi s₂=>s₂.TypeIs o T/\wpAny (model prog w) A (getItem o i) Q E s₂) E s₁) E s) :
  wpAny (model prog w) A (eval (.Subscript value slice pos) env) Q E s:=by
 refine Subscript_ (wpAny_mono h (λo s₁ h₁=>wpAny_mono h₁ (λi s₂ h₂=>?_) λ_ _ x=>x) λ_ _ x=>x)
 obtain⟨hT,h₂⟩:=h₂
 unfold subscriptTail
 refine wpAny_bind ?_
 rw[getitemInPython_of_ne hT.not_modules]
 refine wpAny_bind (wpAny_specialOf hT hl ?_)
 have fin:wpAny (model prog w) A (subscripted slice false o i) (λr s₃=>wpAny (model prog w) A (letTemporaryGo value o r >>= λ_=>pure r) Q E s₃) E s₂:=by
  rw[hs o i]
  exact wpAny_operating (wpAny_mono h₂ (λr s₃ h₃=>wpAny_bind (wpAny_letTemporaryGo (wpAny_pure h₃))) λ_ _ x=>x)
 first
  | exact wpAny_pure (wpAny_bind fin)
  | exact wpAny_bind (wpAny_pure (wpAny_bind fin))
  | exact wpAny_bind fin
theorem m6{X:Cx}{pins:List (Addr×Obj)}{σ:St}{H:Hp}{s:Shared}{a:Addr}{y:V}{o:Option V}(I:Inv X pins σ H s)(g:fX H a y o):s.TypeIs (.ref a) "dict" := by
 rcases g with ⟨kvs,k,e,_,_⟩|⟨kvs,k,b,e,_,_,_⟩
 ·obtain⟨_,_,vs,_,dd⟩:=cc I.hok e
  exact dd.typeIs
 ·obtain⟨_,_,xs,_,dd⟩:=jL I.hok e
  exact dd.typeIs
noncomputable def HU(td ty:TE):TE:=λσ H Q=>td σ H λx H1=>ty σ H1 λy H2=>∃a v,x=.ref a/\fX H2 a y (some v)/\Q v H2
noncomputable def Ir(ty td:TE):TE:=λσ H Q=>ty σ H λy H1=>td σ H1 λx H2=>∃a o,x=.ref a/\fX H2 a y o/\Q (.bl o.isSome) H2
noncomputable def yX(ty td:TE):TE:=λσ H Q=>ty σ H λy H1=>td σ H1 λx H2=>∃a o,x=.ref a/\fX H2 a y o/\Q (.bl (!o.isSome)) H2
noncomputable def Gr(td ty tv:TE):TS:=λD σ H=>tv σ H λv H1=>td σ H1 λx H2=>ty σ H2 λy H3=>∃a H4,x=.ref a/\Gp H3 a y v H4/\D.nx σ H4
section
variable{X:Cx}{o i e value:Expr}{pos pos' tpos:Pos}{td ty tv:TE}
theorem ya(hu:X.A.units+1<cLine)(ho:PE X o td)(hi:PE X i ty)(hs:vL i):PE X (.Subscript o i pos) (HU td ty):=by
 intro pins s σ H Q I h
 refine y8 PySem.F.slot_dict_getitem.lookup hs (thn (ho pins s σ H _ I h) λu s1 ⟨x,H1,I1,rx,q1⟩=>thn (hi pins s1 σ H1 _ I1 q1) λiv s2 ⟨y,H2,I2,ry,a,v,ex,g,q2⟩=>?_)
 subst ex
 obtain rfl:u=KL a:=rx
 exact⟨m6 I2 g,rK hu I2 g ry λw' s3 I3 rw'=>⟨v,H2,I3,rw',q2⟩⟩
theorem uW(hu:X.A.units+1<cLine)(hi:PE X i ty)(ho:PE X o td):PC X .In i o (Ir ty td):=by
 intro pins s σ H Q I h
 refine thn (hi pins s σ H _ I h) λiv s1 ⟨y,H1,I1,ry,q1⟩=>thn (ho pins s1 σ H1 _ I1 q1) λu s2 ⟨x,H2,I2,rx,a,ov,ex,g,q2⟩=>?_
 subst ex
 obtain rfl:u=KL a:=rx
 exact Jd hu I2 g ry λs3 I3=>⟨.bl ov.isSome,H2,I3,rfl,q2⟩
theorem kB(hu:X.A.units+1<cLine)(hi:PE X i ty)(ho:PE X o td):PC X .NotIn i o (yX ty td):=by
 intro pins s σ H Q I h
 refine thn (hi pins s σ H _ I h) λiv s1 ⟨y,H1,I1,ry,q1⟩=>thn (ho pins s1 σ H1 _ I1 q1) λu s2 ⟨x,H2,I2,rx,a,ov,ex,g,q2⟩=>?_
 subst ex
 obtain rfl:u=KL a:=rx
 exact Ab hu I2 g ry λs3 I3=>⟨.bl (!ov.isSome),H2,I3,rfl,q2⟩
theorem zH(hu:X.A.units+1<cLine)(ho:PE X o td)(hi:PE X i ty)(hv:PE X value tv)(hs:swapsWith value (some (.Subscript o i pos')) pos.line X.env=pure false) :
  PS X (.Assign [.Subscript o i pos'] value pos) (Gr td ty tv):=by
 intro pins s σ H D I h
 refine wpAny_Assign_Subscript (thn (hv pins s σ H _ I h) λr s1 ⟨v,H1,I1,rv,q1⟩=>thn (ho pins s1 σ H1 _ I1 q1) λu s2 ⟨x,H2,I2,rx,q2⟩=>thn (hi pins s2 σ H2 _ I2 q2) λiv s3 ⟨y,H3,I3,ry,a,H4,ex,g,q3⟩=>?_) hs
 subst ex
 obtain rfl:u=KL a:=rx
 exact sY hu I3 g ry rv λs4 I4=>⟨σ,H4,I4,q3⟩
end
theorem uC{P:Program}{w:World}{H:Hp}(h:Heap)(hb:sysModules<h.objs.size):aK P w H (h.push { cls:=.type "dict",data:=.dict #[] }) h.objs.size (.dK []) :=
 ⟨K7 _,beq_eq_false_iff_ne.mpr (KJ (Kf hb)),[],.nil,NQ h⟩
noncomputable def Cu:TE:=λ_ H Q=>∀p,H p=none->Q (.ref p) (upd H p (.dK []))
section
variable{X:Cx}{pos:Pos}
theorem wR:PE X (.Dict [] [] pos) Cu:=λpins s σ H Q I h =>
 wpAny_Dict_empty ⟨.ref s.heap.objs.size,_,I.laid (a:=s.heap.objs.size) (o:=.dK []) (t':=s.toks) (λ_ _ q=>JM _ q) (J1 _) (uC s.heap I.big),rfl,h _ (I.hok.fresh (J1 _))⟩
end
noncomputable def gi(kvs more:List (Key×V)):List (Key×V):=more.foldl (λacc kv=>putK acc kv.1 kv.2) kvs
theorem KV.merge:∀{more:List (Key×V)}{rs:List (Key×Value)}{kvs:List (Key×V)}{vs:List (Key×Value)},KV more rs->KV kvs vs->KV (gi kvs more) (merged vs rs):=by
 intro more rs kvs vs r
 unfold KV at r
 induction r generalizing kvs vs with
 | nil=>intro q;exact q
 | @cons p q ps qs h t ih =>
  intro r0
  have e:KV (putK kvs p.1 p.2) (stored vs q.1 q.2):=by
   have:=r0.put p.1 h.2
   rw[<- h.1];exact this
  exact ih e
theorem fR:∀(more kvs:List (Key×V)),(gi kvs more).length<=kvs.length+more.length
 | [],kvs=>by show kvs.length<=kvs.length+0;omega
 | p::r,kvs=>by
  have h1:=fR r (putK kvs p.1 p.2)
  have h2:=fj kvs p.1 p.2
  show (gi (putK kvs p.1 p.2) r).length<=_
  rw[JZ];omega
structure M1 (X:Cx) (o:Expr) (m:Str) (apos:Pos) (e:Expr) (cpos:Pos):Prop where
 base:attributeBase o m X.env (eval o X.env)=eval o X.env
 few:((backTo cpos (starEach [e] X.env)).all (λx=>!x.1)&&(backToKw cpos (keywordEach [] X.env)).all (λx=>x.1.isSome)
  && decide (([e]:List Expr).length+([]:List Keyword).length+(if ([]:List Keyword).isEmpty then 0 else 1)<30))=true
 line:(apos.endLine==cpos.line)=true
 trees:backTo cpos (starEach [e] X.env)=[(false,eval e X.env)]
def IsD(H:Hp)(a:Addr):Prop:=(∃kvs,Rd H a (.dK kvs))\/∃kvs,Rd H a (.dT kvs)
theorem B8{X:Cx}{pins:List (Addr×Obj)}{σ:St}{H:Hp}{s:Shared}{a:Addr}(I:Inv X pins σ H s)(d:IsD H a) :
  s.TypeIs (.ref a) "dict" /\ (∀b,KL a=.ref b->∃ob,s.heap.get? b=some ob/\ob.dict=none)/\(a==sysModules)=false:=by
 rcases d with ⟨kvs,e⟩|⟨kvs,e⟩
 ·obtain⟨_,hd,vs,_,dd⟩:=cc I.hok e
  refine⟨dd.typeIs,λb q=>?_,hd⟩
  cases q
  obtain⟨ob,_,_,h1,h2,_⟩:=dd
  exact⟨ob,h1,h2.2.1⟩
 ·obtain⟨_,hd,xs,_,dd⟩:=jL I.hok e
  refine⟨dd.typeIs,λb q=>?_,hd⟩
  cases q
  obtain⟨ob,_,_,h1,h2,_⟩:=dd
  exact⟨ob,h1,h2.2.1⟩
noncomputable def BO(td ty:TE):TE:=λσ H Q=>td σ H λx H1=>∃a,x=.ref a/\IsD H1 a/\ty σ H1 λy H2=>∃kvs k v,H2 a=some (.dK kvs)/\y=kV k/\cJ kvs k=some v/\Q v (upd H2 a (.dK (eM kvs k)))
section
variable{X:Cx}{o e f:Expr}{apos cpos:Pos}{td ty tx:TE}
theorem vE(ho:PE X o td)(he:PE X e ty)(m:M1 X o "pop" apos e cpos):PE X (.Call (.Attribute o "pop" apos) [e] [] cpos) (BO td ty):=by
 intro pins s σ H Q I h
 refine wpAny_Call_method m.base m.few m.line PySem.F.plainAttrs_dict NC PySem.F.type_dict_pop (thn (ho pins s σ H _ I h) λu s1 ⟨x,H1,I1,rx,a,ex,d,q1⟩=>?_)
 subst ex
 obtain rfl:u=KL a:=rx
 obtain⟨t1,t2,_⟩:=B8 I1 d
 refine⟨t1,t2,?_⟩
 rw[m.trees]
 refine NH rfl (Mx (Ol (thn (he pins s1 σ H1 _ I1 q1) λiv s2 ⟨y,H2,I2,ry,kvs,k,v,ea,ey,l,q2⟩=>Ox ?_)))
 subst ey
 exact GY I2 ea ry l (.inl rfl) λw' s3 I3 rw'=>⟨v,_,I3,rw',q2⟩
end
section
variable{X:Cx}{pins:List (Addr×Obj)}{σ:St}{H:Hp}{s:Shared}{a:Addr}{kvs:List (Key×V)}{A:Around}{E:Value->Shared->Prop}
theorem xj{Q:Value->Shared->Prop}(I:Inv X pins σ H s)(e:Rd H a (.dK kvs))(h:∀p s',H p=none->Inv X pins σ (upd H p (.dK kvs)) s'->Q (.ref p) s'):wpAny (model X.prog X.w) A (call (.type "dict") [.ref a]) Q E s:=by
 obtain⟨z,hd,vs,rel,dd⟩:=cc I.hok e
 refine kt_call_dict hd dd (by rw[<- rel.length];exact z) λh' dd' hs=>?_
 refine h _ _ (I.hok.fresh (J1 _)) (I.laid (a:=s.heap.objs.size) (o:=.dK kvs) (t':=s.toks) (λb q hq=>?_) (J1 _) (jb z (beq_eq_false_iff_ne.mpr (KJ (Kf I.big))) rel dd'))
 exact(hs.2 b (Kf (J2 hq))).trans (JM _ hq)
end
end L2
namespace Att
open PySem PySem.W PySem.Calls PyProof.Rows
theorem iA{P:Params}{h:Heap}:∀(ns:List Int)(vs:List Value),WellAll P h vs (ns.map PN)->IntsAre vs ns:=by
 intro ns
 induction ns with
 | nil =>
  intro vs w
  rw[J7] at w
  cases w
  exact .nil
 | cons n ns ih =>
  intro vs w
  rw[JU] at w
  cases w with
  | cons a b =>
   cases a
   exact .cons _ _ (ih _ b)
theorem rB{l:OpenLaw}{n:Nat}(hn:l.most=some n){P:Params}{h:Heap}{args:List WData}{vals:List Value}
  (hpre:l.row.toRowW.claim.pre args=true)(hwl:WellAll P h vals args) :
  ∃a vs ns,vals=[KL a]/\args=[WData.list (ns.map PN)]/\h.get? a=some { cls:=.type "list",data:=.seq vs.toArray }/\IntsAre vs ns/\ns.length<=n:=by
 have hsh:WShape.hasAll [] args [.list .int]=true:=(pre_splitW hpre).1
 have hc:l.pre.holds [] { args:=args }=true:=(pre_splitW hpre).2
 obtain⟨d,r,rfl,h1,h2⟩:=hasAllW_cons hsh
 obtain rfl:=hasAllW_nil h2
 obtain⟨xs,rfl,h3⟩:=hasW_list h1
 obtain⟨ns,rfl⟩:=items_int h3
 have hlen:ns.length<=n:=by
  unfold OpenLaw.pre at hc
  have h4:(WTm.not (.lt (.lit (.int (n:Int))) (.len (.arg 0)))).holds [] { args:=[.list (ns.map .int)] }=true:=by
   have h4:=(holds_andW hc).1
   rw[hn] at h4
   exact h4
  have h5:=condW_of h4 (w_not (w_lt w_lit (w_len_list (w_arg rfl))))
  rw[Ke] at h5
  refine Nat.le_of_not_lt λq=>?_
  have q':(n:Int)<((ns.length:Nat):Int):=by omega
  first
   | (rw[decide_eq_true q'] at h5;exact absurd h5 (by decide))
   | (simp at h5;omega)
 cases hwl with
 | cons w1 w2 =>
  cases w2
  cases w1 with
  | list ho hall=>exact⟨_,_,ns,rfl,rfl,ho,iA ns _ hall,hlen⟩
theorem sR(l:OpenLaw)(args:List WData):l.row.toRowW.claim.post args (.bool true) args=true :=
 postW_of (r:=l.row.toRowW) (X:=(true==true))
  (show Pl [] (.bool true) .bool=true by first|rfl|decide|simp[Pl,WShape.arms,WShape.armsAll])
  (show (WTm.eq .res (.lit (.bool true))).value [] { args:=args,res:=some (.bool true),after:=args }=some (.bool (true==true)) from w_eq_bool (w_res rfl) w_lit) rfl
theorem nI{l:OpenLaw}{n:Nat}{q:Program}{loose:List Str}{XP:(Str->Option Value)->Heap->Prop}{YP:World->Heap->Prop}{d:DefRec}
  (hn:l.most=some n)(hdf:d.params.defaults=[])
  (call:∀(w:World)(s₀ s₁:Shared)(mg mb:Str->Option Value)(fa:Addr)(o:Obj)(pm cd doc:Value)(a:Addr)(vs:List Value)(ns:List Int),
   Ground q loose [] XP w s₀ mg mb s₁.heap->YP w s₁.heap ->
   s₁.heap.get? fa=some o->o.data=.func (docDef d.name d.params d.body d.scope pm cd doc)->s₁.heap.CodeRec cd d.name->mg d.name=some (.ref fa) ->
   s₁.heap.get? a=some { cls:=.type "list",data:=.seq vs.toArray }->IntsAre vs ns->ns.length<=n->s₁.gens=#[] ->
   codeAny (model l.prog w) callerA (.call (.ref fa) ⟨[.ref a],[]⟩) (λr s'=>r=.ok (.ret (.bool true))/\OldK s₁.heap s'.heap/\s'.os=s₁.os/\AllBare s'.gens) s₁) :
  WalkO q loose XP YP l.row.toRowW d [] (λf vs=>Om f vs):=by
 intro w s₀ s₁ mg mb G Y fa o pm cd doc dV kV ho hd hcd hD hmg hg args vals as hpre hlay hrd hwl hlo
 obtain rfl:dV=.none:=Dflts.none hD hdf
 obtain rfl:kV=.none:=Dflts.noKw hD
 obtain⟨a,vs,ns,rfl,rfl,hobj,hints,hlen⟩:=rB hn hpre hwl
 refine enter_call (codeAny_mono (call w s₀ s₁ mg mb fa o pm cd doc a vs ns G Y ho (fd_plain hd) hcd hmg hobj hints hlen hg) λr s' hq=>?_)
 obtain⟨rfl,h2,h3,h4⟩:=hq
 exact⟨.inl ⟨.bool true,.bool true,[],rfl,λ_=>rfl,.bool true,sR l _,λ_=>⟨Pu,λ_ hm=>(nomatch hm)⟩⟩,h2,h3,h4⟩
end Att
namespace L2
open PySem PySem.Spec PyProof.Rows
theorem jZ:∀{vs:List Value}{ns:List Int},IntsAre vs ns->Vals (ns.map V.int) vs
 | _,_,.nil=>.nil
 | _,_,.cons n t h=>.cons ⟨t,rfl⟩ (jZ h)
def A8(H:Hp):Prop:=∀b,H b=none\/∃o xs,H b=some (.frz o (.lst xs))
theorem uv{P:Program}{w:World}{K:JH}{mg mb:Str->Option Value}{CX:CXT}{k:Nat}{fa a:Addr}{fd:FuncData}{x:Str}{sp:Sp}{s₁:Shared}{vs:List Value}{ns:List Int}
  (KX:K.In s₁.heap)(hns:s₁.heap.Ns mainGlobals mg)(hb:s₁.heap.Ns builtinsNs mb)(hbb:∀x:Str,x ≠ "__name__" -> mb x=bootBuiltins x)(hlim:s₁.heap.NoLimit)(hg:s₁.gens=#[])
  (ha:s₁.heap.get? a=some { cls:=.type "list",data:=.seq vs.toArray })(hi:IntsAre vs ns)(hl:ns.length<=sizeLine)(hr:bR k callerA)
  (F:∀base:Heap,K.In base->base.Ns mainGlobals mg->cu P w K mg base CX k fa fd [x] sp)(hbind:∀(s:Shared)(u:Value),BindsTo s fd ⟨[u],[]⟩ [(x,u)])
  (hsp:∀H:Hp,A8 H->SqL K H a (ns.map V.int)->sp [.ref a] H (λv _=>v=.bl true) λ_ _ _=>False)
  (hCX:∀H e s',CX [] H s₁ (λ_ _ _=>False) e s'->False) :
  codeAny (model P w) callerA (.call (.ref fa) ⟨[.ref a],[]⟩) (λr s'=>r=.ok (.ret (.bool true))/\OldK s₁.heap s'.heap/\s'.os=s₁.os/\AllBare s'.gens) s₁:=by
 have rv:=jZ hi
 have lenV:=hi.length
 have core:∀H:Hp,A8 H->SqL K H a (ns.map V.int)->HOk P w H s₁.heap->(∀b,H b≠none->b=a)->(H a≠none->K.lookup a=none) ->
   codeAny (model P w) callerA (.call (.ref fa) ⟨[.ref a],[]⟩) (λr s'=>r=.ok (.ret (.bool true))/\OldK s₁.heap s'.heap/\s'.os=s₁.os/\AllBare s'.gens) s₁:=by
  intro H hO hS hok hA hK
  have fE:∀{b:Addr}{o:Obj},s₁.heap.get? b=some o->H b=none->(kR s₁.heap H).get? b=some o:=λe n=>t5 e n
  have noA:∀{b:Addr}{o:Obj}{es:Array DictEntry}{ep:Nat},s₁.heap.get? b=some o->o.data=.dict es ep->H b=none:=λ{b o es ep} e d=>by
   cases q:H b with
   | none=>rfl
   | some u =>
    have e':b=a:=hA b (by rw[q];simp)
    subst e'
    rw[ha] at e;cases e
    have d':Data.seq vs.toArray _=Data.dict es ep:=d
    cases d'
  have nsK:∀{b:Addr}{m:Str->Option Value},s₁.heap.Ns b m->(kR s₁.heap H).Ns b m:=λ{b m} ⟨o,es,ep,e,d,r⟩=>⟨o,es,ep,fE e (noA e d),d,r⟩
  have hKb:K.In (kR s₁.heap H):=λb o e=>fE (KX b o e) (by
   cases q:H b with
   | none=>rfl
   | some u =>
    have e':b=a:=hA b (by rw[q];simp)
    subst e'
    rw[hK (by rw[q];simp)] at e;cases e)
  have hM:Mod K mg (kR s₁.heap H):=⟨hKb,nsK hns,⟨mb,nsK hb,hbb⟩,let ⟨mc,h1,h2⟩:=hlim;⟨mc,nsK h1,h2⟩⟩
  have e0:n9 P w K mg (kR s₁.heap H) callerA [] s₁ H:=⟨rfl,hM,λb o e=>z9 e,Nat.le_of_eq (rD _ _),trivial,λb hb=>absurd (show b∈([]:List Addr) from hb) (by simp),hok,.of_eq hg⟩
  refine codeAny_mono ((F _ hKb (nsK hns)).run callerA [] s₁ H ⟨[.ref a],[]⟩ [.ref a] [.ref a] _ _ hr e0 (hbind s₁ (.ref a)) (.cons rfl .nil) (hsp H hO hS)) λr s' h=>?_
  cases r with
  | error e=>exact(hCX H e s' h).elim
  | ok fl =>
   cases fl with
   | next=>exact KR h
   | brk=>exact KR h
   | cont=>exact KR h
   | ret u =>
    obtain⟨v,H',os,bare,un,hok',r',q⟩:=h
    have q':v=.bl true:=q
    subst q'
    obtain rfl:u=Pn true:=r'
    refine⟨rfl,OldK.of_keep λb o e=>?_,os,bare⟩
    cases q:H b with
    | none=>exact un.keep b o e q (by intro z;exact absurd (show b∈([]:List Addr) from z) (by simp)) (by simp)
    | some u =>
     rcases hO b with z|⟨ob,xs,z⟩
     ·rw[q] at z;cases z
     ·have z2:=un.frzs b ob _ z
      obtain⟨e1,_⟩:=hok b _ z
      obtain⟨e2,_⟩:=hok' b _ z2
      rw[e] at e1;cases e1
      exact e2
 cases hk:K.lookup a with
 | some o =>
  have e:=KX a o hk
  rw[ha] at e
  cases e
  refine core (λ_=>none) (λ_=>.inl rfl) (.inr ⟨_,vs.toArray,_,hk,rfl,rfl,rfl,by rw[JO,lenV];exact hl,by simpa using rv⟩) (λb u z=>by have z':(none:Option HO)=some u:=z;cases z') (λb z=>absurd rfl z) λz=>absurd rfl z
 | none =>
  refine core (λb=>if b=a then some (.frz { cls:=.type "list",data:=.seq vs.toArray } (.lst (ns.map V.int))) else none) (λb=>?_) (.inl (.inr ⟨{ cls:=.type "list",data:=.seq vs.toArray },if_pos rfl⟩)) (λb u z=>?_) (λb z=>?_) λ_=>hk
  ·by_cases hb:b=a
   ·exact .inr ⟨_,_,if_pos hb⟩
   ·exact .inl (if_neg hb)
  ·by_cases hb:b=a
   ·have z':=(if_pos hb).symm.trans z
    cases z'
    subst hb
    exact⟨ha,by rw[Ke];exact hl,vs,_,rv,ha⟩
   ·have z':=(if_neg hb).symm.trans z
    cases z'
  ·by_cases hb:b=a
   ·exact hb
   ·exact absurd (if_neg hb) z
end L2
namespace L2
open PySem PySem.Spec PyProof.Rows
noncomputable def bQ(s:Stmt):Arguments:=match s with
 | .FunctionDef _ a _ _ _ _ _ _ _ _=>a
 | _=>{ posonlyargs:=[],args:=[],vararg:=none,kwonlyargs:=[],kw_defaults:=[],kwarg:=none,defaults:=[] }
noncomputable def a7(s:Stmt):List Stmt:=match s with
 | .FunctionDef _ _ b _ _ _ _ _ _ _=>b
 | _=>[]
noncomputable def ay(s:Stmt):Scope:=match s with
 | .FunctionDef _ _ _ _ _ _ sc _ _ _=>sc
 | _=>{ kind:=.function,names:=[],isGenerator:=false,isCoroutine:=false }
noncomputable abbrev E0:XK:=λ_ _ _=>False
theorem ql{A:Around}{k:Nat}(hr:bR k A):A.units+1<cLine:=K3 (Nat.add_le_add_left (by decide:1<=64) _) hr.units
section
variable{X:Cx}
theorem pv(i:Nat){x:Str}{pos:Pos}(hN:X.N[i]?=some x:=by rfl)(hv:Vis X.env.scope x:=by first|exact Or.inl rfl|exact Pm (Or.inl rfl)|exact Pm (Pm rfl))(hd:NDb x:=by decide)
  (hcd:NCd x:=by decide):PE X (.Name x pos) (Ht i):=dN hN hv hd hcd
end
def IP(H H':Hp):Prop:=∀b o,H b=some o->H' b=some o
end L2
set_option maxHeartbeats 4000000
namespace L2
open PySem PySem.Spec PyProof.Rows PySem.W
open PySem.Builtin.ObjectAttr (find dataDescriptor? getOf)
open PySem.Builtin.Getset_descriptor (descrGet descrGetter descrCheckInstance descrNameAndClass)
section
variable{prog:Program}{w:World}{A:Around}{E:Value->Shared->Prop}{h:Heap}{g:Array GenState}{d:Drawn}{t:Nat}{os:OsState}{K:Frag}{x C:Addr}
structure dJ (K:Frag) (C:Addr):Prop where
 ga:findIn K (.ref C) "__getattribute__" = some (some (.builtin "BaseException.__getattribute__"))
 gt:findIn K (.ref C) "__getattr__" = some none
 cl:findIn K (.ref C) "__class__" = some (some (.builtin "object.__class__"))
 gg:specialIn K (.builtin "object.__class__") "__get__" = some (some (.builtin "getset_descriptor.__get__"))
 tk:takesIn K (.builtin "object.__class__")=some true
 ob:mroIn K C (.type "object")=some true
 be:mroIn K C (.type "BaseException")=some true
def ExcAt(a C:Addr)(h:Heap):Prop:=∃oa,h.get? a=some oa/\oa.cls=.ref C
theorem ExcAt.type{M:Model}(I:ExcAt x C h):Looks M h (typeOf (.ref x)) (.ref C):=by
 obtain⟨oa,e1,e2⟩:=I
 exact e2▸(Looks.ld e1).andThen .now
theorem B3{M:Model}{nameV:Value}{Q:Unit->Shared->Prop}(X:K.In h)(T:dJ K C)(I:ExcAt x C h)(hq:Q () ⟨h,g,d,t,os⟩) :
  wpAny M A (checkBuiltinCall "BaseException.__getattribute__" ⟨[.ref x,nameV],[]⟩) Q E ⟨h,g,d,t,os⟩:=by
 have k1:builtinKind "BaseException.__getattribute__" = some .slot:=by decide +kernel
 have k2:splitId "BaseException.__getattribute__" = some ("BaseException", "__getattribute__"):=by decide +kernel
 have k3:=F.args_bexc_ga (.ref x) nameV
 have L2:Looks M h (isInstance (.ref x) (.type "BaseException")) true:=I.type.andThen (looks_mroIn (M:=M) X T.be)
 simp only[checkBuiltinCall,k1,k2]
 refine wpAny_bind (L2.at ?_)
 repeat (first|exact hq|wp_step)
theorem Hz{M:Model}(X:K.In h)(T:dJ K C):Looks M h (find (.ref x) (.ref C) "__class__") (.bind (.builtin "getset_descriptor.__get__") (.builtin "object.__class__")):=by
 have l1:=looks_findIn (M:=M) X T.cl
 have l2:Looks M h (getOf (some (.builtin "object.__class__"))) (some (.builtin "getset_descriptor.__get__")):=looks_specialIn X T.gg
 have l3:Looks M h (dataDescriptor? (some (.builtin "object.__class__")) (some (.builtin "getset_descriptor.__get__"))) (some (.builtin "getset_descriptor.__get__",.builtin "object.__class__")):=(looks_takesIn (M:=M) X T.tk).andThen .now
 exact l1.andThen (l2.andThen (l3.andThen (Looks.tag .now)))
theorem IK{tp:Value}{R:Result->Shared->Prop}(X:K.In h)(T:dJ K C)(I:ExcAt x C h)(q:R (.ok (.ret (.ref C))) ⟨h,g,d,t,os⟩) :
  codeAny (model prog w) A (.call (.builtin "getset_descriptor.__get__") ⟨[.builtin "object.__class__",.ref x,tp],[]⟩) R ⟨h,g,d,t,os⟩:=by
 have l0:=I.type (M:=model prog w)
 have l1:=looks_mroIn (M:=model prog w) X T.ob
 refine codeAny_call_builtin (KF.slot_gs).plain (KF.entry_gs) ((KF.slot_gs).check _ _ _ _ _ _ _ _ (KF.type_class) (KF.args_gs _ _ _) ?_)
 unfold Builtin.«getset_descriptor.__get__»
 unfold descrGet
 rw[dga_obj _ tp x]
 refine wpAny_bind (wpAny_pure ?_)
 unfold descrGetter descrCheckInstance
 unfold descrNameAndClass isInstance
 simp only[KF.owner_class,id]
 repeat (first|lk)
 refine⟨Code.quiet_builtin _ (by decide +kernel),codeAny_builtin (KF.entry_class) ?_⟩
 unfold Builtin.«object.__class__»
 unfold shownTypeOf
 repeat (first|lk)
 exact q
theorem Bf{tk:Tok}{Q:Fin->Shared->Prop}(X:K.In h)(T:dJ K C)(I:ExcAt x C h)(hq:Q (.done (.ret (.ref C))) ⟨h,g,d,t,os⟩) :
  wpAny (model prog w) A (Builtin.«object.__getattribute__» ⟨[.ref x,.str "__class__" tk],[]⟩) Q E ⟨h,g,d,t,os⟩:=by
 have L0:=I.type (M:=model prog w)
 have L1:=Hz (x:=x) (M:=model prog w) X T
 unfold Builtin.«object.__getattribute__»
 refine wpAny_bind (wpAny_pure ?_)
 refine wpAny_bind (wpAny_pure ?_)
 refine wpAny_bind (L0.at ?_)
 refine wpAny_bind (L1.at ?_)
 unfold OS
 refine wpAny_bind (wpAny_call ?_)
 refine IK X T I ?_
 exact wpAny_pure hq
theorem FG{tk:Tok}{R:Result->Shared->Prop}(X:K.In h)(T:dJ K C)(I:ExcAt x C h)(hq:R (.ok (.ret (.ref C))) ⟨h,g,d,t,os⟩) :
  codeAny (model prog w) A (.call (.builtin "BaseException.__getattribute__") ⟨[.ref x,.str "__class__" tk],[]⟩) R ⟨h,g,d,t,os⟩ :=
 codeAny_call_builtin OJ.ga.plain F.entry_bexc_ga (B3 X T I (Bf X T I hq))
theorem xby{tk:Tok}{Q:Value->Shared->Prop}(X:K.In h)(T:dJ K C)(I:ExcAt x C h)(hq:Q (.ref C) ⟨h,g,d,t,os⟩) :
  wpAny (model prog w) A (getAttrBy (.ref x) (.str "__class__" tk) false) Q E ⟨h,g,d,t,os⟩:=by
 have f3:=OJ.ga.bind (.ref x)
 have z2:(L8 "BaseException.__getattribute__" == L8 "object.__getattribute__")=false:=by decide +kernel
 have z1:(onTheHeap (KL C)&&L8 "BaseException.__getattribute__" == L8 "object.__getattribute__")=false:=by rw[z2];rfl
 have L0:=I.type (M:=model prog w)
 have L1:=looks_findIn (M:=model prog w) X T.ga
 have L2:=looks_findIn (M:=model prog w) X T.gt
 unfold getAttrBy
 refine wpAny_holding (wpAny_bind (L0.at (wpAny_bind (L1.at ?_))))
 dsimp only
 rw[if_neg (by rw[z1];exact Kc)]
 unfold getAttrByItsOwn hookBefore
 repeat (any_goals (first|assumption|with_reducible refine wpAny_bind (L2.at ?_)|with_reducible refine wpAny_bind (L1.at ?_)|wp_step))
 refine FG X T I ?_
 repeat (any_goals (first|assumption|wp_step))
theorem Fi{Q:Option Value->Shared->Prop}(X:K.In h)(T:dJ K C)(I:ExcAt x C h)(hq:Q (some (.ref C)) ⟨h,g,d,t+1,os⟩) :
  wpAny (model prog w) A (getAttr? (.ref x) "__class__") Q E ⟨h,g,d,t,os⟩:=by
 unfold getAttr? getAttrBy?
 repeat (any_goals (first|assumption|with_reducible apply xby X T I|wp_step))
end
theorem dJ.there{K:Frag}{C:Addr}(T:dJ K C):∃oc od cd sl,K.lookup C=some ⟨oc,od,.cls cd,sl⟩:=by
 have q:=T.ob
 unfold mroIn clsIn at q
 split at q
 ·rename_i a b c e f
  exact⟨a,b,c,e,f⟩
 ·cases q
theorem vS{K:Frag}{a C:Addr}(T:dJ K C):KitX K (.ref a) (.ref C) (ExcAt a C) where
 ty:=λ_ _ _ I=>I.type
 it:=λ_ _ X _=>by
  obtain⟨_,_,_,_,lk⟩:=T.there
  intro A1 Q1 E1 s1 k1 q1
  unfold isType loadHead
  exact wpAny_bind (wpAny_loadPart (k1 _ _ (X _ _ lk)) (wpAny_pure q1))
 ne:=λh tp dd its n sl X htp=>by
  obtain⟨_,_,_,_,lk⟩:=T.there
  refine MS.mpr λq=>?_
  cases KL.inj (beq_iff_eq.mp q)
  cases (X _ _ lk).symm.trans htp
 ca:=λ{_ _ _ _ _ s} X I k=>by
  obtain⟨h,g,d,t,os⟩:=s
  exact Fi X T I k
end L2
namespace L2
open PySem PySem.Spec PyProof.Rows
noncomputable abbrev rq:List Value:=[.type "ValueError",.type "Exception",.type "BaseException",.type "object"]
theorem yI{K:JH}{h:Heap}{C:Addr}{bmB:List Value}{newId:String}(X:K.In h)(q:LG K C bmB newId=true) :
  ∃bm N nm qn bs hdct sn sub ab col dd k0 k1 k2 k3 k5 mN,h.get? C=some (excClassObj nm qn C N bs bm hdct sn sub ab col dd k0 k1 k2 k3 k5 newId)/\h.Ns N mN/\mN "__init__" = none/\OwnTail h bmB bm:=by
 unfold LG at q
 split at q
 case h_2=>cases q
 rename_i dd cd sl lk
 split at q
 case h_2=>cases q
 rename_i C1 bm k0 k1 k2 k3 n k5 em es
 rw[JK,JK,JK,JK,JK,beq_iff_eq,beq_iff_eq,beq_iff_eq,Kd] at q
 obtain⟨⟨⟨⟨⟨rfl,rfl⟩,nd⟩,tl⟩,ok⟩,ni⟩:=q
 obtain⟨nm,bs,mro,ns,qn,hd,sn,sub,ab,col,del⟩:=cd
 have em:mro=.ref C1::bm:=em
 have nd:del=false:=nd
 subst em nd
 have esl:sl=#[k0,k1,k2,k3,some (.builtin n),k5]:=by
  obtain⟨l⟩:=sl
  have es:l=[k0,k1,k2,k3,some (.builtin n),k5]:=es
  rw[es]
 subst esl
 exact⟨bm,ns,nm,qn,bs,hd,sn,sub,ab,col,dd,k0,k1,k2,k3,k5,_,X _ _ lk,.of_isNs (PySem.W.isNs_of_in X ok),PySem.W.nsMap_none_of_in X ok ni,PySem.W.tail_of_in X tl⟩
theorem aK.is{P:Program}{w:World}{H:Hp}{h:Heap}{a:Addr}{o:HO}(x:aK P w H h a o):∃ob,h.get? a=some ob:=by
 cases o with
 | lst xs=>obtain⟨_,_,_,_,e⟩:=x;exact⟨_,e⟩
 | tup xs=>obtain⟨_,_,_,ob,e,_⟩:=x;exact⟨_,e⟩
 | dK kvs=>obtain⟨_,_,_,_,ob,_,_,e,_⟩:=x;exact⟨_,e⟩
 | dT kvs=>obtain⟨_,_,_,_,ob,_,_,e,_⟩:=x;exact⟨_,e⟩
 | set S n=>obtain⟨ob,_,_,_,e,_⟩:=x;exact⟨_,e⟩
 | ins C dx fs=>obtain⟨_,_,_,e,_⟩:=x;exact⟨_,e⟩
 | own y=>obtain⟨_,e⟩:=x;exact⟨_,e⟩
 | xd fs=>obtain⟨_,⟨_,_,_,e,_⟩,_⟩:=x;exact⟨_,e⟩
 | rng lo hi=>obtain⟨_,_,_,e⟩:=x;exact⟨_,e⟩
 | frz ob u=>obtain⟨e,_⟩:=x;exact⟨_,e⟩
 | tbl ps=>exact⟨_,x⟩
 | met f y=>exact⟨_,x⟩
 | ext φ=>obtain⟨_,⟨_,e⟩,_⟩:=x;exact⟨_,e⟩
theorem aK.qy{P:Program}{w:World}{H:Hp}{h:Heap}{a:Addr}{o:HO}{A:Prop}(x:aK P w H h a o)(g:h.get? a=none):A:=by
 obtain⟨ob,e⟩:=x.is
 rw[g] at e;cases e
structure Fly (P:Program) (w:World) (outer:List Env) (H:Hp) (s:Shared) (a C:Addr) (H':Hp) (s':Shared):Prop where
 os:s'.os=s.os
 bare:AllBare s'.gens
 un:Un (frs outer) [] H H' s.heap s'.heap
 hok:HOk P w H' s'.heap
 new:s.heap.get? a=none
 free:H' a=none
 fl:∃(base:Heap) (a0:Value),MT base outer a (.ref C) a0 s'.heap /\
  ∀b o,s'.heap.get? b=some o->(H' b≠none\/((∃ob,s.heap.get? b=some ob)/\b∉frs outer))->base.get? b=some o
noncomputable def CXE(P:Program)(w:World):CXT:=λouter H s E ev s'=>∃(a C:Addr) (H':Hp),ev=.ref a/\Fly P w outer H s a C H' s'/\E (.ref C) none H'
section
variable{P:Program}{w:World}{outer:List Env}{H H':Hp}{s s':Shared}{a C:Addr}
theorem eV{h h' base:Heap}(x:HOk P w H h)(hb:∀b o,h.get? b=some o->H b≠none->base.get? b=some o)(st:base.StaysIn h'):HOk P w H h':=λb u e=>by
 refine(x b u e).fZ (λc v hc q=>st c v (hb c v q ?_)) (λ_ q=>q) λ_ _ q=>q
 rcases hc with z|z
 ·rw[z,e];intro k;cases k
 ·rw[z];intro k;cases k
theorem gw{l:List Env}{h base:Heap}(f:h.FunFrames base l){b:Addr}(hb:b∈frs l):base.get? b=none/\∃o,h.get? b=some o/\∀vs,o.data≠.fields vs:=f.mem hb
theorem sU{M:Model}{A:Around}{E:Value->Shared->Prop}{Q:Unit->Shared->Prop}{env:Env}{L:Addr}{Hc:Hp}{sc:Shared}
  (hA:A.frames=some (env::outer))(hf:env.frame=some L)(hL:s.heap.get? L=none)(fF:∀b∈frs outer,H b=none)(fT:∀b∈frs outer,∃o,s.heap.get? b=some o)
  (u:Un (frs outer) [] H Hc s.heap sc.heap)(ho:sc.os=s.os)(x:Fly P w (env::outer) Hc sc a C H' s')
  (q:∀s'',Fly P w outer H s a C H' s''->Q () s''):wpAny M A (leaving env (.ref a)) Q E s':=by
 obtain⟨base,a0,fl,hb⟩:=x.fl
 have ef:frs (env::outer)=L::frs outer:=by unfold frs;rw[KP,hf]
 refine wpAny_leaves_onW hA hf fl λh' fl' up=>q _ ?_
 have old:∀b ob,s.heap.get? b=some ob->b≠L:=λb ob e z=>by rw[z,hL] at e;cases e
 have inb:∀b ob o,s.heap.get? b=some ob->b∉frs outer->s'.heap.get? b=some o->base.get? b=some o:=λb ob o e n e'=>by
  obtain⟨oc,ec⟩:=u.there b ob e (λz=>nomatch z)
  refine hb b o e' (.inr ⟨⟨oc,ec⟩,?_⟩)
  rw[ef]
  exact λz=>(J6.mp z).elim (old b ob e) n
 have fdata:∀b o,b∈frs outer->s'.heap.get? b=some o->∀vs,o.data≠.fields vs:=λb o m e=>by
  obtain⟨_,o2,e2,nf⟩:=gw fl.2.2.1 (show b∈frs (env::outer) by rw[ef];exact JQ _ m)
  rw[e2] at e;cases e;exact nf
 refine⟨x.os.trans ho,x.bare,⟨λb o e n nb nx=>?_,λb o e n mb nx=>?_,λb o e n nx=>?_,λb o e nx=>?_,λb xs e=>x.un.tups b xs (u.tups b xs e),λb o v e=>x.un.frzs b o v (u.frzs b o v e),λb ps e=>?_⟩,eV x.hok (λb o e n=>hb b o e (.inl n)) fl'.1,?_,x.free,base,a0,fl',λb o e r=>?_⟩
 ·have e1:=x.un.keep b o (u.keep b o e n nb nx) (u.free b o e n nx) (by rw[ef];exact λz=>(J6.mp z).elim (old b o e) nb) nx
  exact fl'.1 b o (inb b o o e nb e1)
 ·obtain⟨sl,e1⟩:=u.slot b o e n mb nx
  obtain⟨sl2,e2⟩:=x.un.slot b _ e1 (u.free b o e n nx) (by rw[ef];exact JQ _ mb) nx
  obtain⟨sl3,e3⟩:=up b _ e2 (fdata b _ mb e2)
  exact⟨sl3,e3⟩
 ·obtain⟨oc,ec⟩:=u.there b o e nx
  exact x.un.free b oc ec (u.free b o e n nx) nx
 ·obtain⟨oc,ec⟩:=u.there b o e nx
  obtain⟨o2,e2⟩:=x.un.there b oc ec nx
  by_cases mb:b∈frs outer
  ·obtain⟨sl,e3⟩:=up b o2 e2 (fdata b o2 mb e2)
   exact⟨_,e3⟩
  ·exact⟨o2,fl'.1 b o2 (inb b o o2 e mb e2)⟩
 ·obtain⟨m1,e1⟩:=u.tbls b ps e
  obtain⟨m2,e2⟩:=x.un.tbls b _ e1
  exact⟨m1++m2,by rw[e2,MD]⟩
 ·cases z:s.heap.get? a with
  | none=>rfl
  | some oa =>
   obtain⟨o1,e1⟩:=u.there a oa z (λz=>nomatch z)
   rw[x.new] at e1;cases e1
 ·have e:h'.get? b=some o:=e
  have key:∀o2,s'.heap.get? b=some o2->base.get? b=some o2->base.get? b=some o:=λo2 e2 e3=>by
   have:=fl'.1 b o2 e3
   rw[e] at this;cases this;exact e3
  rcases r with r|⟨⟨ob,eb⟩,nb⟩
  ·cases z:H' b with
   | none=>exact absurd z r
   | some v =>
    have lt:=x.hok.lt z
    obtain⟨o2,e2⟩:∃o2,s'.heap.get? b=some o2:=by
     cases g:s'.heap.get? b with
     | some o2=>exact⟨o2,rfl⟩
     | none=>exact(x.hok b v z).qy g
    exact key o2 e2 (hb b o2 e2 (.inl r))
  ·obtain⟨oc,ec⟩:=u.there b ob eb (λz=>nomatch z)
   obtain⟨o2,e2⟩:=x.un.there b oc ec (λz=>nomatch z)
   exact key o2 e2 (inb b ob o2 eb nb e2)
theorem xb{M:Model}{A:Around}{E:Value->Shared->Prop}{Q:Unit->Shared->Prop}{env:Env}{L:Addr}{Hc:Hp}{sc:Shared}{h1 base0:Heap}{vs:List Value}
  (hA:A.frames=some (env::outer))(hf:env.frame=some L)(hL:s.heap.get? L=none)(u:Un (frs outer) [] H Hc s.heap sc.heap)(ho:sc.os=s.os)(bare:AllBare sc.gens)(hok:HOk P w Hc sc.heap)
  (fr:sc.heap.FunFrames base0 (env::outer))(fU:∀b∈frs (env::outer),Hc b=none)(hx:Pa sc.heap h1 a (.ref C) vs)
  (q:∀s'',Fly P w outer H s a C Hc s''->Q () s''):wpAny M A (leaving env (.ref a)) Q E { sc with heap:=h1 }:=by
 have ef:frs (env::outer)=L::frs outer:=by unfold frs;rw[KP,hf]
 have old:∀b ob,s.heap.get? b=some ob->b≠L:=λb ob e z=>by rw[z,hL] at e;cases e
 have inb:∀b o,sc.heap.get? b=some o->b∉frs (env::outer)->(Ml sc.heap (frs (env::outer))).get? b=some o:=λb o e n=>NO _ e n
 have trk:∀b,Hc b≠none->b∉frs (env::outer):=λb n m=>n (fU b m)
 have fdata:∀b o,b∈frs (env::outer)->sc.heap.get? b=some o->∀vs,o.data≠.fields vs:=λb o m e=>by
  obtain⟨_,o2,e2,nf⟩:=gw fr m
  rw[e2] at e;cases e;exact nf
 refine wpAny_leaves_madeW (base:=Ml sc.heap (frs (env::outer))) hA hf (λb o z=>NY _ z) (PySem.W.funFrames_hide fr λen he b hb=>LX.mpr ⟨en,he,hb⟩) hx λh' t fl _ _ up=>q _ ?_
 have notin:∀b ob,s.heap.get? b=some ob->b∉frs outer->b∉frs (env::outer):=λb ob e n=>by rw[ef];exact λz=>(J6.mp z).elim (old b ob e) n
 refine⟨ho,bare,⟨λb o e n nb nx=>?_,λb o e n mb nx=>?_,λb o e n nx=>u.free b o e n nx,λb o e nx=>?_,u.tups,u.frzs,u.tbls⟩,eV hok (λb o e n=>inb b o e (trk b n)) fl.1,?_,?_,_,_,fl,λb o e r=>?_⟩
 ·exact fl.1 b o (inb b o (u.keep b o e n nb nx) (notin b o e nb))
 ·obtain⟨sl,e1⟩:=u.slot b o e n mb nx
  obtain⟨sl3,e3⟩:=up b _ (hx.keeps _ _ e1) (fdata b _ (by rw[ef];exact JQ _ mb) e1)
  exact⟨sl3,e3⟩
 ·obtain⟨o2,e2⟩:=u.there b o e nx
  by_cases mb:b∈frs (env::outer)
  ·obtain⟨sl,e3⟩:=up b o2 (hx.keeps _ _ e2) (fdata b o2 mb e2)
   exact⟨_,e3⟩
  ·exact⟨o2,fl.1 b o2 (inb b o2 e2 mb)⟩
 ·cases z:s.heap.get? a with
  | none=>rfl
  | some oa =>
   obtain⟨o1,e1⟩:=u.there a oa z (λz=>nomatch z)
   rw[hx.new] at e1;cases e1
 ·cases z:Hc a with
  | none=>rfl
  | some v=>exact(hok a v z).qy hx.new
 ·have e:h'.get? b=some o:=e
  have key:∀o2,sc.heap.get? b=some o2->b∉frs (env::outer)->(Ml sc.heap (frs (env::outer))).get? b=some o:=λo2 e2 n=>by
   have e3:=inb b o2 e2 n
   have:=fl.1 b o2 e3
   rw[e] at this;cases this;exact e3
  rcases r with r|⟨⟨ob,eb⟩,nb⟩
  ·cases z:Hc b with
   | none=>exact absurd z r
   | some v =>
    obtain⟨o2,e2⟩:=(hok b v z).is
    exact key o2 e2 (trk b r)
  ·obtain⟨o2,e2⟩:=u.there b ob eb (λz=>nomatch z)
   exact key o2 e2 (notin b ob eb nb)
end
structure Xc (X:Cx) (E:XK):Prop where
 pass:Passes (CXE X.prog X.w) X E
 made:∀(pins:List (Addr×Obj))(σ:St)(H:Hp)(s:Shared)(h':Heap)(e C:Addr)(vs:List Value),Inv X pins σ H s->Pa s.heap h' e (.ref C) vs->E (.ref C) none H->X.xe (.ref e) { s with heap:=h' }
theorem Inv.pD{X:Cx}{pins:List (Addr×Obj)}{σ:St}{H:Hp}{s:Shared}(I:Inv X pins σ H s):X.s₀.heap.get? X.env.locals=none:=LM I.ok.above
theorem AD{P:Program}{w:World}{K:JH}{mg:Str->Option Value}{base:Heap}{N:List Str}{qual:Str}{scope:Scope}{f:Addr}{cd:Value}{A:Around}{outer:List Env}{s:Shared}{H:Hp}{E:XK} :
  Xc (jC (CXE P w) P w K mg base N qual scope f cd A outer s H E) E:=by
 refine⟨λpins σ Hc sc e s' I x=>?_,λpins σ Hc sc h' e C vs I hx q=>?_⟩
 ·obtain⟨a,C,H',rfl,fl,q⟩:=x
  exact sU (L:=(envOfC qual scope s.heap.objs.size f cd).locals) I.ok.frames rfl I.pD I.ok.frf (λb hb=>let ⟨_,o,ho,_⟩:=I.ok.fN.mem hb;⟨o,ho⟩) I.base I.os fl λs'' fl'=>⟨a,C,H',rfl,fl',q⟩
 ·exact xb (L:=(envOfC qual scope s.heap.objs.size f cd).locals) I.ok.frames rfl I.pD I.base I.os I.bare I.hok I.stack I.lI hx λs'' fl'=>⟨e,C,Hc,rfl,fl',q⟩
noncomputable def Ec(C:Addr)(E:XK)(t:TA):TS:=λ_ σ H=>t σ H λvs H1=>vs.length<=sizeLine/\E (.ref C) none H1
theorem vB{X:Cx}{E:XK}{x:Str}{C:Addr}{e:Expr}{es:List Expr}{t:TA}{np cpos pos:Pos}(xc:Xc X E)(hc:X.calm=true)(hg:Gl X x)(hm:X.mg x=some (.ref C))(hex:LG X.K C rq "ValueError.__new__" = true)
  (ha:PA X (e::es) t)(hd:NDb x:=by decide)(he:starEach (e::es) X.env=(false,eval e X.env)::starEach es X.env:=by rfl)(hpl:(backTo cpos (starEach es X.env)).any (·.1)=false:=by rfl) :
  PS X (.Raise (some (.Call (.Name x np) (e::es) [] cpos)) none pos) (Ec C E t):=by
 intro pins s σ H D I h
 obtain⟨tl,N,nm,q,bs,hdct,sn,sub,ab,col,dd,k0,k1,k2,k3,k5,mN,hC,hN,hni,T⟩:=yI I.ok.mod.kin hex
 refine wpAny_Raise_call_subT (nm:=nm) (q:=q) (N:=N) (bs:=bs) (hdct:=hdct) (sn:=sn) (sub:=sub) (ab:=ab) (col:=col) (dd:=dd) (k0:=k0) (k1:=k1) (k2:=k2) (k3:=k3) (k5:=k5) (bm:=tl) (mN:=mN) OK (T.hasType OK.hasBase) (I.ok.hd hc) (by rw[he];show (false || (backTo cpos (starEach es X.env)).any (·.1))=false;rw[hpl];rfl) hni (fz I hg hm ⟨rfl,?_⟩ hd)
 have h1:=ha cpos pins s σ H _ I h
 rw[he] at h1 ⊢
 refine Mx (wpAny_mono h1 (λus s2 h2=>?_) λ_ _ y=>y)
 obtain⟨vs,H2,I2,r2,hl,q2⟩:=h2
 exact⟨rfl,by rw[<- r2.length];exact hl,I2.bk _ _ hC,hN.keeps I2.bk,T.keeps I2.bk,λh' ex hx=>xc.made pins σ H2 s2 h' ex C us I2 hx q2⟩
end L2
namespace L2
open PySem PySem.Spec PyProof.Rows
theorem mG{P:Program}{w:World}{l:List Env}{Hc H':Hp}{sc s':Shared}{a C:Addr}{base h':Heap}{a0:Value}(x:Fly P w l Hc sc a C H' s')(fl:MT base l a (.ref C) a0 s'.heap)
  (hb:∀b o,s'.heap.get? b=some o->(H' b≠none\/((∃ob,sc.heap.get? b=some ob)/\b∉frs l))->base.get? b=some o)
  (fl':MT base l a (.ref C) a0 h')(up:s'.heap.UpToSlots h'):Fly P w l Hc sc a C H' { s' with heap:=h' }:=by
 have fdata:∀b o,b∈frs l->s'.heap.get? b=some o->∀vs,o.data≠.fields vs:=λb o m e=>by
  obtain⟨_,o2,e2,nf⟩:=gw fl.2.2.1 m
  rw[e2] at e;cases e;exact nf
 refine⟨x.os,x.bare,⟨λb o e n nb nx=>?_,λb o e n mb nx=>?_,x.un.free,λb o e nx=>?_,x.un.tups,x.un.frzs,x.un.tbls⟩,eV x.hok (λb o e n=>hb b o e (.inl n)) fl'.1,x.new,x.free,base,a0,fl',λb o e r=>?_⟩
 ·exact fl'.1 b o (hb b o (x.un.keep b o e n nb nx) (.inr ⟨⟨o,e⟩,nb⟩))
 ·obtain⟨sl2,e2⟩:=x.un.slot b o e n mb nx
  obtain⟨sl3,e3⟩:=up b _ e2 (fdata b _ mb e2)
  exact⟨sl3,e3⟩
 ·obtain⟨o2,e2⟩:=x.un.there b o e nx
  by_cases mb:b∈frs l
  ·obtain⟨sl,e3⟩:=up b o2 e2 (fdata b o2 mb e2)
   exact⟨_,e3⟩
  ·exact⟨o2,fl'.1 b o2 (hb b o2 e2 (.inr ⟨⟨o,e⟩,mb⟩))⟩
 ·have e:h'.get? b=some o:=e
  have key:∀o2,base.get? b=some o2->base.get? b=some o:=λo2 e3=>by
   have:=fl'.1 b o2 e3
   rw[e] at this;cases this;exact e3
  rcases id r with q|⟨⟨ob,eb⟩,nb⟩
  ·cases z:H' b with
   | none=>exact absurd z q
   | some v =>
    obtain⟨o2,e2⟩:=(x.hok b v z).is
    exact key o2 (hb b o2 e2 r)
  ·obtain⟨o2,e2⟩:=x.un.there b ob eb (λz=>nomatch z)
   exact key o2 (hb b o2 e2 r)
theorem Fly.at{P:Program}{w:World}{l:List Env}{Hc H':Hp}{sc s':Shared}{a C:Addr}(x:Fly P w l Hc sc a C H' s'):ExcAt a C s'.heap:=by
 obtain⟨base,a0,fl,_⟩:=x.fl
 exact fl.there
noncomputable abbrev XS:=Value->St->Hp->Prop
noncomputable def XP(X:Cx)(pins:List (Addr×Obj))(E:XS)(ev:Value)(s':Shared):Prop :=
 ∃(a C:Addr) (σ:St) (Hc:Hp) (sc:Shared) (H':Hp),ev=.ref a/\Inv X pins σ Hc sc/\Fly X.prog X.w X.stack Hc sc a C H' s'/\E (.ref C) σ H'
noncomputable def PXE(X:Cx)(e:Expr)(t:St->Hp->VK->XK->Prop):Prop :=
 ∀(pins:List (Addr×Obj))(s:Shared)(σ:St)(H:Hp)(Q:VK)(E:XK),Inv X pins σ H s->t σ H Q E ->
  wpAny (model X.prog X.w) X.A (eval e X.env) (EP X pins σ Q) (XP X pins λc σ' H'=>σ'=σ/\E c none H') s
noncomputable abbrev TX:=Ends->XS->St->Hp->Prop
noncomputable def PX(X:Cx)(st:Stmt)(t:TX):Prop :=
 ∀(pins:List (Addr×Obj))(s:Shared)(σ:St)(H:Hp)(D:Ends)(E:XS),Inv X pins σ H s->t D E σ H->wpAny (model X.prog X.w) X.A (exec st X.env) (SP X pins D) (XP X pins E) s
noncomputable def PXs(X:Cx)(st:List Stmt)(t:TX):Prop :=
 ∀(pins:List (Addr×Obj))(s:Shared)(σ:St)(H:Hp)(D:Ends)(E:XS),Inv X pins σ H s->t D E σ H->wpAny (model X.prog X.w) X.A (execs st X.env) (SP X pins D) (XP X pins E) s
section
variable{X:Cx}
theorem XP.mono{pins:List (Addr×Obj)}{E E':XS}{ev:Value}{s':Shared}(h:XP X pins E ev s')(k:∀c σ H,E c σ H->E' c σ H):XP X pins E' ev s':=by
 obtain⟨a,C,σ,Hc,sc,H',e1,e2,e3,e4⟩:=h
 exact⟨a,C,σ,Hc,sc,H',e1,e2,e3,k _ _ _ e4⟩
theorem TP.dP{pins:List (Addr×Obj)}{σ:St}{Q:Bool->Hp->Prop}{u:Bool}{s:Shared}{E:Value->Shared->Prop}(h:TP (X.hV E) pins σ Q u s):TP X pins σ Q u s:=by
 obtain⟨H',I,q⟩:=h
 exact⟨H',I.dP,q⟩
variable{k:Nat}{f C:Addr}{fd:FuncData}{ps:List Str}{sp:Sp}{dvs:List V}{ds:List Value}{x m:Str}{p pos apos:Pos}{e o:Expr}{es:List Expr}{ta:TE}{t:TA}
theorem zg{pins:List (Addr×Obj)}{σ:St}{H:Hp}{s:Shared}{Q:VK}{E:XK}{us:List Value}{vs:List V}(F:cu X.prog X.w X.K X.mg X.base (CXE X.prog X.w) k f fd ps sp)(hr:bR k X.A)(hb:Binds X.K fd ps ds)(hd:Vals dvs ds)
  (I:Inv X pins σ H s)(r:Vals vs us)(h:sp (vs++dvs) H Q E):wpAny (model X.prog X.w) X.A (call (.ref f) us) (EP X pins σ Q) (XP X pins λc σ' H'=>σ'=σ/\E c none H') s:=by
 have r2:Vals (vs++dvs) (us++ds):=r.append hd
 have hl:(us++ds).length=ps.length:=by rw[<- r2.length];exact F.len _ _ _ _ h
 refine wpAny_call (codeAny_mono (F.run X.A X.stack s H ⟨us,[]⟩ (us++ds) (vs++dvs) Q E hr I.DN (hb s us I.kIn hl) r2 h) λres s' hq=>?_)
 cases res with
 | error ev =>
  obtain⟨a,C,H',rfl,fl,q⟩:=hq
  exact⟨a,C,σ,H,s,H',rfl,I,fl,rfl,q⟩
 | ok fl =>
  cases fl with
  | ret u=>exact I.after hq
  | _=>exact KR hq
noncomputable def CT(sp:Sp)(dvs:List V)(t:TA):St->Hp->VK->XK->Prop:=λσ H Q E=>t σ H λvs H1=>sp (vs++dvs) H1 Q E
theorem mX(F:cu X.prog X.w X.K X.mg X.base (CXE X.prog X.w) k f fd ps sp)(hr:bR k X.A)(hg:Gl X x)(hm:X.mg x=some (.ref f))(hk:Ks X.K (.ref f)=true)(hb:Binds X.K fd ps ds)(hd:Vals dvs ds)
  (ha:PA X.nox (e::es) t)(hdb:NDb x:=by decide)(he:starEach (e::es) X.env=(false,eval e X.env)::starEach es X.env:=by rfl)(hpl:(backTo pos (starEach es X.env)).any (·.1)=false:=by rfl) :
  PXE X (.Call (.Name x p) (e::es) [] pos) (CT sp dvs t):=by
 intro pins s σ H Q E I h
 refine wpAny_Call_Name_kw (fz I hg hm ?_ hdb)
 refine My (h₀:=X.base) I.ok.mod.kin hk (wpAny_mono (ha pos pins s σ H _ (I.hV _) h) (λus s1 z=>?_) (λ_ _ z=>z.elim)) he hpl
 obtain⟨vs,H1,I1,r,q⟩:=z
 exact⟨I1.dP.kIn,zg F hr hb hd I1.dP r q⟩
theorem xV{t:St->Hp->VK->XK->Prop}(he:PXE X e t)(hs:swapsWith e none pos.line X.env=pure false:=by rfl) :
  PX X (.Expr e pos) (λD E σ H=>t σ H (λ_ H1=>D.nx σ H1) (λc _ H1=>E c σ H1)):=by
 intro pins s σ H D E I h
 refine wpAny_Expr_any (wpAny_mono (he pins s σ H _ _ I h) (λu s1 z=>?_) λev s1 z=>z.mono λc σ' H' q=>?_) I.quiet hs
 ·obtain⟨v,H',I',_,q⟩:=z
  exact⟨σ,H',I',q⟩
 ·obtain⟨rfl,q⟩:=q
  exact q
theorem Em{i:Nat}{pos':Pos}{t:St->Hp->VK->XK->Prop}(hN:X.N.Nodup)(hi:X.N[i]?=some x)(hx:Loc X.env.scope x)(he:PXE X e t)(hs:swapsWith e (some (.Name x pos')) pos.line X.env=pure false:=by rfl)
  (hf:X.fn x=true\/X.env.scope.names.lookup x=some .local:=by first|exact .inl rfl|exact .inr rfl|assumption) :
  PX X (.Assign [.Name x pos'] e pos) (λD E σ H=>t σ H (λv H1=>D.nx (σ.set i (some v)) H1) (λc _ H1=>E c σ H1)):=by
 intro pins s σ H D E I h
 refine wpAny_Assign_Name (wpAny_mono (he pins s σ H _ _ I h) (λu s1 z=>?_) λev s1 z=>z.mono λc σ' H' q=>?_) hs
 ·obtain⟨v,H',I',r,q⟩:=z
  exact dB I' hN hi hx r (λs2 I2=>⟨_,H',I2,q⟩) hf
 ·obtain⟨rfl,q⟩:=q
  exact q
theorem qS{st:Stmt}{t:TX}(h:PX X st t):PXs X [st] t:=by
 intro pins s σ H D E I q
 refine wpAny_execs_cons (wpAny_mono (h pins s σ H D E I q) (λfl s1 z=>?_) λ_ _ z=>z)
 cases fl with
 | next=>exact wpAny_execs_nil z
 | _=>exact z
noncomputable abbrev Cx.marked(X:Cx)(a:Addr):Cx:={ X with A:=X.A.mark (some (.ref a)),calm:=false,xe:=λ_ _=>False }
theorem Inv.mark{pins:List (Addr×Obj)}{σ:St}{H:Hp}{s:Shared}(I:Inv X pins σ H s)(a:Addr):Inv (X.marked a) pins σ H s :=
 have k:=I.ok
 ⟨⟨k.mod,k.kind,k.glob,k.blt,k.above,k.inj,k.has,k.cab,(λz=>nomatch z),k.frames,k.stk,k.exf,k.bs,k.bsz,k.noex,k.exfs,k.fN,k.frf⟩,I.os,I.bare,I.base,I.loc,I.cell,I.free,I.freeC,I.pin,I.hok,I.len⟩
theorem Inv.unmark{pins:List (Addr×Obj)}{σ:St}{H:Hp}{s:Shared}{a:Addr}(I:Inv (X.marked a) pins σ H s)(k0:X.Ok):Inv X pins σ H s :=
 ⟨k0,I.os,I.bare,I.base,I.loc,I.cell,I.free,I.freeC,I.pin,I.hok,I.len⟩
theorem Inv.Gf{pins:List (Addr×Obj)}{σ:St}{H:Hp}{s:Shared}{a:Addr}{ho:HO}(I:Inv X pins σ H s)(n0:X.s₀.heap.get? a=none)(nL:a≠X.env.locals)(nC:∀x c,X.env.cells.lookup x=some c->c≠a)(nP:∀p∈X.pn++pins,p.1≠a)
  (hn:H a=none)(ok:aK X.prog X.w (upd H a ho) s.heap a ho):Inv X pins σ (upd H a ho) s:=by
 have ne:∀b u,H b=some u->b≠a:=λb u e z=>by rw[z,hn] at e;cases e
 refine⟨I.ok,I.os,I.bare,⟨I.base.keep,I.base.slot,λb o e n nx=>?_,I.base.there,λb xs e=>?_,λb o v e=>?_,λb ps e=>?_⟩,I.loc,I.cell,by rw[aj (KJ nL)];exact I.free,λx c e=>by rw[aj (nC x c e)];exact I.freeC x c e,λp hp=>?_,λb u e=>?_,I.len⟩
 ·rw[aj (λz=>by rw[z,n0] at e;cases e)]
  exact I.base.free b o e n nx
 ·have q:=I.base.tups b xs e
  rw[aj (ne b _ q)];exact q
 ·have q:=I.base.frzs b o v e
  rw[aj (ne b _ q)];exact q
 ·obtain⟨more,q⟩:=I.base.tbls b ps e
  exact⟨more,by rw[aj (ne b _ q)];exact q⟩
 ·obtain⟨e1,e2,e3⟩:=I.pin p hp
  exact⟨e1,by rw[aj (nP p hp)];exact e2,e3⟩
 ·by_cases z:b=a
  ·subst z
   rw[aI] at e;cases e
   exact ok
  ·rw[aj z] at e
   exact(I.hok b u e).fZ (λ_ _ _ q=>q) (λc q=>by rw[aj (ne c _ q)];exact q) λc xs q=>by rw[aj (ne c _ q)];exact q
theorem fA{M:Model}{A:Around}{E:Value->Shared->Prop}{pins:List (Addr×Obj)}{σ:St}{H:Hp}{s:Shared}{i:Nat}{n:Str}{Q:Unit->Shared->Prop}(I:Inv X pins σ H s)(hN:X.N.Nodup)(hi:X.N[i]?=some n)
  (hn:X.env.scope.names.lookup n=some .local)(q:∀s',Inv X pins (σ.set i none) H s'->Q () s'):wpAny M A (do bindName X.env n .none;unbindBehindTheSuite X.env n pos) Q E s:=by
 obtain⟨m,nsm,hl⟩:=id I.loc
 refine wpAny_nameGoes_keeps hn nsm (by rw[I.ok.kind];rfl) λh' v ns' hs=>q _ ?_
 obtain⟨oL,_,_,hoL,_⟩:=id nsm
 have fl:∀b o,X.s₀.heap.get? b=some o->b≠X.env.locals:=λb o e=>Kf (JR (J2 e) I.ok.above)
 refine⟨I.ok,I.os,I.bare,⟨λb o e n hb hx=>(hs.2 b (fl b o e)).trans (I.base.keep b o e n hb hx),λb o e n hb hx=>?_,I.base.free,λb o e hx=>?_,I.base.tups,I.base.frzs,I.base.tbls⟩,⟨_,ns',λj y w' e1 e2 e3=>?_⟩,λy c e=>?_,I.free,I.freeC,λp hp=>?_,λb u e=>?_,by simpa using I.len⟩
 ·obtain⟨sl,e1⟩:=I.base.slot b o e n hb hx
  exact⟨sl,(hs.2 b (fl b o e)).trans e1⟩
 ·obtain⟨o1,e1⟩:=I.base.there b o e hx
  exact⟨o1,(hs.2 b (fl b o e)).trans e1⟩
 ·by_cases hj:j=i
  ·subst hj
   have:j<σ.length:=by rw[I.len];exact(J0.mp hi).1
   rw[Kk this] at e2
   cases e2
  ·rw[Kz (KJ hj)] at e2
   obtain⟨u,r,z⟩:=hl j y w' e1 e2 e3
   refine⟨u,r,?_⟩
   rcases z with ⟨k,e⟩|⟨k,c,e,z⟩
   ·refine .inl ⟨k,?_⟩
    have:y≠n:=λe=>hj (jd hN e1 (e▸hi))
    simp[this,e]
   ·exact .inr ⟨k,c,e,z.sameBut hs (I.cne y c e)⟩
 ·obtain⟨w1,z⟩:=I.cell y c e
  exact⟨w1,z.sameBut hs (I.cne y c e)⟩
 ·obtain⟨e,nn,ne,r⟩:=I.pin p hp
  exact⟨(hs.2 p.1 ne).trans e,nn,ne,r⟩
 ·refine(I.hok b u e).fZ (λc w1 hc z=>(hs.2 c ?_).trans z) (λ_ z=>z) λ_ _ z=>z
  intro ec
  rcases hc with hc|hc
  ·rw[<- hc,ec,I.free] at e;cases e
  ·rw[ec,I.free] at hc;cases hc
noncomputable def m5(a C:Addr):HO:=.ext (ExcAt a C)
theorem zb{P:Program}{w:World}{H:Hp}{h:Heap}{a C:Addr}(x:ExcAt a C h):aK P w H h a (m5 a C) :=
 ⟨x,let ⟨o,e,_⟩:=x;⟨o,e⟩,λh1 h2 ⟨o,e,c⟩ k=>⟨o,k o e,c⟩⟩
noncomputable def Ends.un(D:Ends)(i:Nat):Ends:={ nx:=λσ H=>D.nx (σ.set i none) H,rt:=D.rt,bk:=λσ H=>D.bk (σ.set i none) H,ct:=λσ H=>D.ct (σ.set i none) H }
noncomputable def Jl(K:JH)(T:Addr)(i:Nat)(tb:TX)(ts:TS):TS:=λD σ H=>tb D (λc σ' H'=>∃C,c=.ref C/\Mu K (.ref C) (.ref T)=some true/\∀a,H' a=none->ts (D.un i) (σ'.set i (some (.ref a))) (upd H' a (m5 a C))) σ H
theorem BW{T:Addr}{n:Str}{i:Nat}{body suite:List Stmt}{b0:Stmt}{tb:TX}{ts:TS}{np hp:Pos}(hst:X.stack=X.env::X.outer)(hfr:X.env.frame=some X.env.locals)(hex:X.ex=[])(hN:X.N.Nodup)(hi:X.N[i]?=some n)(hn:X.env.scope.names.lookup n=some .local)
  (hg:Gl X x)(hm:X.mg x=some (.ref T))(hb:PXs X body tb)(hs:∀a,PSs (X.marked a) (b0::suite) ts)(hd:NDb x:=by decide)(hf:X.fn n=true\/X.env.scope.names.lookup n=some .local:=by first|exact .inl rfl|exact .inr rfl|assumption) :
  PS X (.Try body [.ExceptHandler (some (.Name x np)) (some n) (b0::suite) hp] [] [] pos) (Jl X.K T i tb ts):=by
 intro pins s σ H D I h
 refine wpAny_Try_except (wpAny_mono (hb pins s σ H D _ I h) (λf s1 z=>?_) λev s1 z=>?_)
 ·cases f with
  | next=>exact wpAny_execs_nil z
  | _=>exact z
 obtain⟨a,C,σ',Hc,sc,H',rfl,Ic,fl,C',e',hx,q⟩:=z
 cases e'
 obtain⟨base,a0,f0,hb0⟩:=fl.fl
 have hA:X.A.frames=some (X.env::X.outer):=hst▸I.ok.frames
 rw[hst] at f0
 refine wpAny_looks_onW hA hfr f0 λh1 held up1=>?_
 refine wpAny_landsW held λh2 fl2 up2=>?_
 have fly2:Fly X.prog X.w X.stack Hc sc a C H' { s1 with heap:=h2 }:=mG fl (hst▸f0) hb0 (hst▸fl2) (up1.trans up2)
 have back:∀{s2:Shared},Fly X.prog X.w X.stack Hc sc a C H' s2->Inv X pins σ' H' s2:=λy=>Ic.wI (ch:=[]) y.os y.un y.hok y.bare (λb hb=>nomatch hb)
 have I2:=back fly2
 refine wpAny_handleBy_cons (codeAny_handlers_test ?_) (by intro q;cases q)
 refine fz (X:=X.marked a) (I2.mark a) hg hm ?_ hd
 refine(PySem.W.exm_one (M:=model X.prog X.w) I2.kIn fly2.at.type hx) _ _ _ _ (λ_ _ k=>k) ?_
 refine codeAny_handlers_suite_as ?_
 obtain⟨base2,a2,f2,hb2⟩:=fly2.fl
 refine lands_againW f2 λh3 fl3 up3=>?_
 have fly3:=mG fly2 f2 hb2 fl3 up3
 have I3:=back fly3
 have n1:∀b ob,sc.heap.get? b=some ob->b≠a:=λb ob e z=>by rw[z,fl.new] at e;cases e
 have I4:Inv X pins σ' (upd H' a (m5 a C)) { s1 with heap:=h3 }:=by
  refine I3.Gf ?_ ?_ ?_ ?_ fly3.free (zb fly3.at)
  ·cases z:X.s₀.heap.get? a with
   | none=>rfl
   | some oa =>
    obtain⟨o1,e1⟩:=Ic.base.there a oa z (by rw[hex];exact λz=>nomatch z)
    rw[fl.new] at e1;cases e1
  ·obtain⟨m,⟨oL,_,_,eL,_⟩,_⟩:=Ic.loc
   exact(n1 _ _ eL).symm
  ·intro y c e
   obtain⟨v,oc,ec,_⟩:=Ic.cell y c e
   exact n1 c oc ec
  ·intro p hp
   exact n1 _ _ (Ic.pin p hp).1
 refine dB I4 hN hi (.inl hn) (v:=.ref a) rfl (λs5 I5=>?_) hf
 refine wpAny_mono (hs a pins s5 _ _ (D.un i) (I5.mark a) (q a fly3.free)) (λf s6 z=>?_) λ_ _ z=>z.elim
 cases f with
 | next =>
  obtain⟨σ6,H6,I6,q6⟩:=z
  exact fA (I6.unmark I.ok) hN hi hn λs7 I7=>⟨_,_,I7,q6⟩
 | ret u =>
  obtain⟨v,σ6,H6,I6,r6,q6⟩:=z
  exact fA (I6.unmark I.ok) hN hi hn λs7 I7=>⟨v,_,_,I7,r6,q6⟩
 | brk =>
  obtain⟨σ6,H6,I6,q6⟩:=z
  exact fA (I6.unmark I.ok) hN hi hn λs7 I7=>⟨_,_,I7,q6⟩
 | cont =>
  obtain⟨σ6,H6,I6,q6⟩:=z
  exact fA (I6.unmark I.ok) hN hi hn λs7 I7=>⟨_,_,I7,q6⟩
end
end L2
namespace L2
open PySem PySem.Spec PyProof.Rows
def Bd(n:Nat)(x:Int):Prop:=x.natAbs<2^n
theorem Bd.mono{m n:Nat}{x:Int}(h:Bd m x)(k:m<=n):Bd n x:=JR h (Ln (by decide) k)
theorem Bd.bits{n:Nat}{x:Int}(h:Bd n x):Np x<=n:=by
 unfold Np
 split
 ·exact K7 _
 ·rename_i z
  have h0:x.natAbs≠0:=λq=>z (by simp[Int.natAbs_eq_zero.mp q])
  exact(Oo h0).mpr h
theorem Bd.Gk{m n:Nat}{x y:Int}(h:Bd m x)(k:Bd n y)(hs:m+n<=134217728):IntMulOk x y:=IntMulOk.of_le h.bits k.bits hs
theorem Bd.mul{m n:Nat}{x y:Int}(h:Bd m x)(k:Bd n y):Bd (m+n) (x*y):=by
 unfold Bd at *
 rw[KW,Nat.pow_add]
 exact Nat.mul_lt_mul'' h k
theorem Bd.add{m n:Nat}{x y:Int}(h:Bd m x)(k:Bd n y):Bd (max m n+1) (x+y):=by
 have h1:=h.mono (Pb m n)
 have k1:=k.mono (O2 m n)
 unfold Bd at *
 have:=Int.natAbs_add_le x y
 rw[N5]
 omega
theorem Bd.log{n:Nat}{x:Int}(h:Bd n x)(hn:n<=9000):x.natAbs.log2<9000:=by
 by_cases z:x.natAbs=0
 ·rw[z];decide
 ·exact JR ((Oo z).mpr h) hn
section
variable{X:Cx}
def CDv(_ j:Int):Prop:=j≠0/\Bd 9000 j
theorem zt:OpR X (binaryOp .Mult) (rI IntMulOk λi j=>.int (i*j)):=opI λ_ _ _ _ _ _ _ hc q=>mul_int q hc
theorem xh:OpR X (binaryOp .FloorDiv) (rI CDv λi j=>.int (i.fdiv j)):=opI λ_ _ _ _ _ _ _ hc q=>floordiv_int hc.1 q (.inl (PyProof.noPylong_of_log2 (hc.2.log (J1 _))))
end
inductive D where
 | non|bl (b:Bool)|int (i:Int)|str (x:Str)|tup (ds:List D)|lst (ds:List D)
mutual
noncomputable def D.eq:D->D->Bool
 | .non,.non=>true
 | .bl a,.bl b=>a==b
 | .bl a,.int b=>(if a then 1 else 0)==b
 | .int a,.bl b=>a==(if b then 1 else 0)
 | .int a,.int b=>a==b
 | .str a,.str b=>a==b
 | .tup xs,.tup ys=>D.eqs xs ys
 | .lst xs,.lst ys=>D.eqs xs ys
 | _,_=>false
noncomputable def D.eqs:List D->List D->Bool
 | [],[]=>true
 | x::xs,y::ys=>D.eq x y&&D.eqs xs ys
 | _,_=>false
end
mutual
noncomputable def D.depth:D->Nat
 | .tup xs=>D.gh xs+1
 | .lst xs=>D.gh xs+1
 | _=>0
noncomputable def D.gh:List D->Nat
 | []=>0
 | x::xs=>max (D.depth x) (D.gh xs)
end
mutual
theorem D.iC:∀d:D,D.eq d d=true
 | .non=>rfl
 | .bl b=>by simp[D.eq]
 | .int i=>by simp[D.eq]
 | .str x=>by simp[D.eq]
 | .tup xs=>by rw[D.eq];exact D.jv xs
 | .lst xs=>by rw[D.eq];exact D.jv xs
theorem D.jv:∀ds:List D,D.eqs ds ds=true
 | []=>rfl
 | x::xs=>by rw[D.eqs,D.iC x,D.jv xs];rfl
end
mutual
inductive Den (K:JH) (H:Hp):V->D->Prop
 | non:Den K H .non .non
 | bl (b:Bool):Den K H (.bl b) (.bl b)
 | int (i:Int):Den K H (.int i) (.int i)
 | str (x:Str):Den K H (.str x) (.str x)
 | tup {a:Addr} {xs:List V} {ds:List D} (e:SqT K H a xs) (r:dD K H xs ds):Den K H (.ref a) (.tup ds)
 | lst {a:Addr} {xs:List V} {ds:List D} (e:SqL K H a xs) (r:dD K H xs ds):Den K H (.ref a) (.lst ds)
inductive dD (K:JH) (H:Hp):List V->List D->Prop
 | nil:dD K H [] []
 | cons {x:V} {d:D} {xs:List V} {ds:List D} (h:Den K H x d) (r:dD K H xs ds):dD K H (x::xs) (d::ds)
end
theorem dD.len{K:JH}{H:Hp}:∀{xs:List V}{ds:List D},dD K H xs ds->xs.length=ds.length
 | _,_,.nil=>rfl
 | _,_,.cons _ r=>by rw[JZ,JZ,r.len]
theorem dD.at{K:JH}{H:Hp}:∀{xs:List V}{ds:List D}(j:Nat){x:V}{d:D},dD K H xs ds->xs[j]?=some x->ds[j]?=some d->Den K H x d
 | _,_,0,_,_,.cons h _,e1,e2=>by cases e1;cases e2;exact h
 | _,_,j+1,_,_,.cons _ r,e1,e2=>r.at j e1 e2
theorem D.kA:∀{ds:List D}(j:Nat){d:D},ds[j]?=some d->D.depth d<=D.gh ds
 | x::xs,0,_,e=>by cases e;exact Pb _ _
 | x::xs,j+1,_,e=>Kh (D.kA (ds:=xs) j e) (O2 _ _)
theorem D.dY:∀(xs ys:List D),D.eqs xs ys=((KH (min xs.length ys.length)).all (λj=>D.eq (xs.getD j .non) (ys.getD j .non))&&xs.length==ys.length)
 | [],[]=>rfl
 | [],_::_=>rfl
 | _::_,[]=>rfl
 | x::xs,y::ys=>by
  rw[D.eqs,D.dY xs ys,JZ,JZ,Nat.succ_min_succ,List.range_succ_eq_map,Ki,NR]
  have e:(xs.length+1==ys.length+1)=(xs.length==ys.length):=by
   rw[O3];simp
  rw[e,Bool.and_assoc]
  rfl
section
variable{X:Cx}{pins:List (Addr×Obj)}{σ:St}{H:Hp}{s:Shared}
theorem qk{a:Addr}{xs ys:List V}(I:Inv X pins σ H s)(h1:SqT X.K H a xs)(h2:SqL X.K H a ys):False:=by
 obtain⟨_,_,⟨o,e,c,_⟩,_⟩:=I.tuple h1
 obtain⟨_,_,⟨o',n',e',c',_,d'⟩,_⟩:=I.list h2
 rw[e] at e';cases e'
 rw[c] at c'
 injection c' with q
 exact absurd q (by decide)
mutual
theorem Den.inj(I:Inv X pins σ H s):∀{v:V}{d e:D},Den X.K H v d->Den X.K H v e->d=e
 | _,_,_,.non,h=>by cases h;rfl
 | _,_,_,.bl b,h=>by cases h;rfl
 | _,_,_,.int i,h=>by cases h;rfl
 | _,_,_,.str x,h=>by cases h;rfl
 | _,_,_,.tup e r,h=>by
  cases h with
  | tup e' r'=>cases I.kG e e';rw[dD.inj I r r']
  | lst e' r'=>exact(qk I e e').elim
 | _,_,_,.lst e r,h=>by
  cases h with
  | lst e' r'=>cases I.nu e e';rw[dD.inj I r r']
  | tup e' r'=>exact(qk I e' e).elim
theorem dD.inj(I:Inv X pins σ H s):∀{v:List V}{d e:List D},dD X.K H v d->dD X.K H v e->d=e
 | _,_,_,.nil,h=>by cases h;rfl
 | _,_,_,.cons a r,h=>by
  cases h with
  | cons a' r'=>rw[Den.inj I a a',dD.inj I r r']
end
theorem jJ(I:Inv X pins σ H s){A:Around}{x y:V}{d e:D}{u v:Value}(hu:A.units<cLine)(hf:eX x=true)(hd:Den X.K H x d)(he:Den X.K H y e)(ru:RelV x u)(rv:RelV y v):LV A s u v (D.eq d e):=by
 cases hd with
 | tup=>cases hf
 | lst=>cases hf
 | non  =>
  cases he with
  | tup q r=>cases ru;cases rv;rw[D.eq.eq_def];obtain⟨_,_,p,_⟩:=I.tuple q;exact .none_tuple p hu
  | lst q r=>cases ru;cases rv;rw[D.eq.eq_def];obtain⟨_,_,p,_⟩:=I.list q;exact .none_list p.isList hu
  | non  => exact bt ru rv rfl rfl
  | bl b1=>exact bt ru rv rfl rfl
  | int i1=>exact bt ru rv rfl rfl
  | str x1=>exact bt ru rv rfl rfl
 | bl b0 =>
  cases he with
  | tup q r=>cases ru;cases rv;rw[D.eq.eq_def];obtain⟨_,_,p,_⟩:=I.tuple q;exact .bool_tuple _ p hu
  | lst q r=>cases ru;cases rv;rw[D.eq.eq_def];obtain⟨_,_,p,_⟩:=I.list q;exact .bool_list _ p.isList hu
  | non  => exact bt ru rv rfl rfl
  | bl b1=>exact bt ru rv rfl rfl
  | int i1=>exact bt ru rv rfl rfl
  | str x1=>exact bt ru rv rfl rfl
 | int i0 =>
  cases he with
  | tup q r=>obtain⟨_,rfl⟩:=ru;cases rv;rw[D.eq.eq_def];obtain⟨_,_,p,_⟩:=I.tuple q;exact .int_tuple _ _ p hu
  | lst q r=>obtain⟨_,rfl⟩:=ru;cases rv;rw[D.eq.eq_def];obtain⟨_,_,p,_⟩:=I.list q;exact .int_list _ _ p.isList hu
  | non  => exact bt ru rv rfl rfl
  | bl b1=>exact bt ru rv rfl rfl
  | int i1=>exact bt ru rv rfl rfl
  | str x1=>exact bt ru rv rfl rfl
 | str x0 =>
  cases he with
  | tup q r=>obtain⟨_,rfl⟩:=ru;cases rv;rw[D.eq.eq_def];obtain⟨_,_,p,_⟩:=I.tuple q;exact .str_tuple _ _ p hu
  | lst q r=>obtain⟨_,rfl⟩:=ru;cases rv;rw[D.eq.eq_def];obtain⟨_,_,p,_⟩:=I.list q;exact .str_list _ _ p.isList hu
  | non  => exact bt ru rv rfl rfl
  | bl b1=>exact bt ru rv rfl rfl
  | int i1=>exact bt ru rv rfl rfl
  | str x1=>exact bt ru rv rfl rfl
theorem Vals.x8{xs:List V}{us:List Value}(r:Vals xs us){j:Nat}(hj:j<us.toArray.size):∃x,xs[j]?=some x/\RelV x us.toArray[j]:=by
 have hl:=r.length
 have hj':j<us.length:=by simpa using hj
 have hx:j<xs.length:=by omega
 obtain⟨u,e,ru⟩:=r.get (Kl hx)
 rw[Kl hj'] at e
 cases e
 exact⟨xs[j],Kl hx,by simpa using ru⟩
theorem dD.getD{K:JH}{H:Hp}{xs:List V}{ds:List D}(r:dD K H xs ds){j:Nat}{x:V}(e:xs[j]?=some x):Den K H x (ds.getD j .non)/\D.depth (ds.getD j .non)<=D.gh ds:=by
 have hj:j<ds.length:=by rw[<- r.len];exact(J0.mp e).1
 have e2:ds[j]?=some ds[j]:=Kl hj
 have e3:ds.getD j .non=ds[j]:=by rw[K1,e2];rfl
 rw[e3]
 exact⟨r.at j e e2,D.kA j e2⟩
theorem gS(I:Inv X pins σ H s){n:Nat}(ih:∀{A:Around}{x y:V}{d e:D}{u v:Value},A.units+n<cLine->D.depth d<=n->Den X.K H x d->Den X.K H y e->RelV x u->RelV y v->LV A s u v (D.eq d e))
  {A:Around}(hu:A.units+(n+1)<cLine){xs ys:List V}{ds es:List D}{us vs:List Value}(hn:D.gh ds<=n)(r:dD X.K H xs ds)(q:dD X.K H ys es)(ru:Vals xs us)(rv:Vals ys vs) :
  ∀j (h1:j<us.toArray.size) (h2:j<vs.toArray.size),LV A.in1 s us.toArray[j] vs.toArray[j] (D.eq (ds.getD j .non) (es.getD j .non)):=λj h1 h2=>by
 obtain⟨x,ex,rx⟩:=ru.x8 h1
 obtain⟨y,ey,ry⟩:=rv.x8 h2
 obtain⟨d1,d2⟩:=r.getD ex
 exact ih (by show A.units+1+n<cLine;omega) (Kh d2 hn) d1 (q.getD ey).1 rx ry
theorem fc(I:Inv X pins σ H s):∀(n:Nat){A:Around}{x y:V}{d e:D}{u v:Value},A.units+n<cLine->D.depth d<=n->Den X.K H x d->Den X.K H y e->RelV x u->RelV y v->LV A s u v (D.eq d e):=by
 intro n
 induction n with
 | zero =>
  intro A x y d e u v hu hn hd he ru rv
  cases id hd with
  | tup=>simp[D.depth] at hn
  | lst=>simp[D.depth] at hn
  | _=>exact jJ I hu rfl hd he ru rv
 | succ n ih =>
  intro A x y d e u v hu hn hd he ru rv
  have hu0:A.units<cLine:=by omega
  cases id hd with
  | @tup a xs ds ea r =>
   cases ru
   obtain⟨us,rus,p,_⟩:=I.tuple ea
   cases id he with
   | @tup b ys es eb r2 =>
    cases rv
    obtain⟨vs,rvs,p2,_⟩:=I.tuple eb
    by_cases hab:a=b
    ·subst hab
     rw[hd.inj I he,D.iC]
     exact .same _
    ·refine .of_refs hab ?_
     rw[D.eq.eq_def]
     simp only[]
     rw[D.dY]
     have l1:us.toArray.size=ds.length:=by rw[JO,<- rus.length,r.len]
     have l2:vs.toArray.size=es.length:=by rw[JO,<- rvs.length,r2.len]
     rw[<- l1,<- l2]
     exact .tuples p p2 hu0 (gS I ih hu (by rw[D.depth] at hn;omega) r r2 rus rvs)
   | @lst b ys es eb r2 =>
    cases rv
    obtain⟨vs,rvs,p2,_⟩:=I.list eb
    rw[D.eq.eq_def]
    exact .tuple_list p p2.isList hu0
   | non  => cases rv;rw[D.eq.eq_def];exact .tuple_none p hu0
   | bl b0=>cases rv;rw[D.eq.eq_def];exact .tuple_bool _ p hu0
   | int i0=>obtain⟨_,rfl⟩:=rv;rw[D.eq.eq_def];exact .tuple_int _ _ p hu0
   | str x0=>obtain⟨_,rfl⟩:=rv;rw[D.eq.eq_def];exact .tuple_str _ _ p hu0
  | @lst a xs ds ea r =>
   cases ru
   obtain⟨us,rus,p,_⟩:=I.list ea
   cases id he with
   | @lst b ys es eb r2 =>
    cases rv
    obtain⟨vs,rvs,p2,_⟩:=I.list eb
    by_cases hab:a=b
    ·subst hab
     rw[hd.inj I he,D.iC]
     exact .same _
    ·refine .of_refs hab ?_
     rw[D.eq.eq_def]
     simp only[]
     rw[D.dY]
     have l1:us.toArray.size=ds.length:=by rw[JO,<- rus.length,r.len]
     have l2:vs.toArray.size=es.length:=by rw[JO,<- rvs.length,r2.len]
     rw[<- l1,<- l2]
     by_cases hl:us.toArray.size=vs.toArray.size
     ·have e1:(us.toArray.size==vs.toArray.size)=true:=beq_iff_eq.mpr hl
      rw[e1,MH,<- hl,N6]
      exact .lists p.isList p2.isList hl hu0 (gS I ih hu (by rw[D.depth] at hn;omega) r r2 rus rvs)
     ·have e1:(us.toArray.size==vs.toArray.size)=false:=beq_eq_false_iff_ne.mpr hl
      rw[e1,LY]
      exact .lists_lengths p.isList p2.isList (by simpa using hl) hu0
   | @tup b ys es eb r2 =>
    cases rv
    obtain⟨vs,rvs,p2,_⟩:=I.tuple eb
    rw[D.eq.eq_def]
    exact .list_tuple p.isList p2 hu0
   | non  => cases rv;rw[D.eq.eq_def];exact .list_none p.isList hu0
   | bl b0=>cases rv;rw[D.eq.eq_def];exact .list_bool _ p.isList hu0
   | int i0=>obtain⟨_,rfl⟩:=rv;rw[D.eq.eq_def];exact .list_int _ _ p.isList hu0
   | str x0=>obtain⟨_,rfl⟩:=rv;rw[D.eq.eq_def];exact .list_str _ _ p.isList hu0
  | _=>exact jJ I hu0 rfl hd he ru rv
end
end L2
namespace L2
open PySem PySem.Spec PyProof.Rows
section
variable{X:Cx}{pins:List (Addr×Obj)}{σ:St}{H:Hp}{s:Shared}
theorem uj(I:Inv X pins σ H s){n:Nat}{A:Around}{x y:V}{d e:D}{u v:Value}(hu:A.units+n<cLine)(hn:D.depth d<=n)(hd:Den X.K H x d)(he:Den X.K H y e)(ru:RelV x u)(rv:RelV y v):SeqAt.RcAt A s u v (D.eq d e):=by
 have hu0:A.units<cLine:=by omega
 cases id hd with
 | non  =>
  cases ru
  cases id he with
  | non  => cases rv;rw[D.eq.eq_def];exact .none_none
  | bl y1=>cases rv;rw[D.eq.eq_def];exact .none_bool _
  | int y1=>obtain⟨_,rfl⟩:=rv;rw[D.eq.eq_def];exact .none_int _ _
  | str y1=>obtain⟨_,rfl⟩:=rv;rw[D.eq.eq_def];exact .none_str _ _
  | @tup b ys es eb r2=>cases rv;rw[D.eq.eq_def];obtain⟨_,_,p2,_⟩:=I.tuple eb;exact .none_tuple p2 hu0
  | @lst b ys es eb r2=>cases rv;rw[D.eq.eq_def];obtain⟨_,_,p2,_⟩:=I.list eb;exact .none_list p2.isList hu0
 | bl x1 =>
  cases ru
  cases id he with
  | non  => cases rv;rw[D.eq.eq_def];exact .bool_none _
  | bl y1=>cases rv;rw[D.eq.eq_def];exact .bool_bool _ _
  | int y1=>obtain⟨_,rfl⟩:=rv;rw[D.eq.eq_def];exact .bool_int _ _ _
  | str y1=>obtain⟨_,rfl⟩:=rv;rw[D.eq.eq_def];exact .bool_str _ _ _
  | @tup b ys es eb r2=>cases rv;rw[D.eq.eq_def];obtain⟨_,_,p2,_⟩:=I.tuple eb;exact .bool_tuple _ p2 hu0
  | @lst b ys es eb r2=>cases rv;rw[D.eq.eq_def];obtain⟨_,_,p2,_⟩:=I.list eb;exact .bool_list _ p2.isList hu0
 | int x1 =>
  obtain⟨_,rfl⟩:=ru
  cases id he with
  | non  => cases rv;rw[D.eq.eq_def];exact .int_none _ _
  | bl y1=>cases rv;rw[D.eq.eq_def];exact .int_bool _ _ _
  | int y1=>obtain⟨_,rfl⟩:=rv;rw[D.eq.eq_def];exact .int_int _ _ _ _
  | str y1=>obtain⟨_,rfl⟩:=rv;rw[D.eq.eq_def];exact .int_str _ _ _ _
  | @tup b ys es eb r2=>cases rv;rw[D.eq.eq_def];obtain⟨_,_,p2,_⟩:=I.tuple eb;exact .int_tuple _ _ p2 hu0
  | @lst b ys es eb r2=>cases rv;rw[D.eq.eq_def];obtain⟨_,_,p2,_⟩:=I.list eb;exact .int_list _ _ p2.isList hu0
 | str x1 =>
  obtain⟨_,rfl⟩:=ru
  cases id he with
  | non  => cases rv;rw[D.eq.eq_def];exact .str_none _ _
  | bl y1=>cases rv;rw[D.eq.eq_def];exact .str_bool _ _ _
  | int y1=>obtain⟨_,rfl⟩:=rv;rw[D.eq.eq_def];exact .str_int _ _ _ _
  | str y1=>obtain⟨_,rfl⟩:=rv;rw[D.eq.eq_def];exact .str_str _ _ _ _
  | @tup b ys es eb r2=>cases rv;rw[D.eq.eq_def];obtain⟨_,_,p2,_⟩:=I.tuple eb;exact .str_tuple _ _ p2 hu0
  | @lst b ys es eb r2=>cases rv;rw[D.eq.eq_def];obtain⟨_,_,p2,_⟩:=I.list eb;exact .str_list _ _ p2.isList hu0
 | @tup a xs ds ea r =>
  cases ru
  obtain⟨us,rus,p,_⟩:=I.tuple ea
  cases id he with
  | non  => cases rv;rw[D.eq.eq_def];exact .tuple_none p hu0
  | bl y1=>cases rv;rw[D.eq.eq_def];exact .tuple_bool _ p hu0
  | int y1=>obtain⟨_,rfl⟩:=rv;rw[D.eq.eq_def];exact .tuple_int _ _ p hu0
  | str y1=>obtain⟨_,rfl⟩:=rv;rw[D.eq.eq_def];exact .tuple_str _ _ p hu0
  | @tup b ys es eb r2 =>
   cases rv
   obtain⟨vs,rvs,p2,_⟩:=I.tuple eb
   rw[D.depth] at hn
   obtain⟨n,rfl⟩:∃m,n=m+1:=⟨n-1,by omega⟩
   rw[D.eq.eq_def]
   simp only[]
   rw[D.dY]
   have l1:us.toArray.size=ds.length:=by rw[JO,<- rus.length,r.len]
   have l2:vs.toArray.size=es.length:=by rw[JO,<- rvs.length,r2.len]
   rw[<- l1,<- l2]
   exact .tuples p p2 hu0 (gS I (fc I n) hu (by omega) r r2 rus rvs)
  | @lst b ys es eb r2=>cases rv;rw[D.eq.eq_def];obtain⟨_,_,p2,_⟩:=I.list eb;exact .tuple_list p p2.isList hu0
 | @lst a xs ds ea r =>
  cases ru
  obtain⟨us,rus,p,_⟩:=I.list ea
  cases id he with
  | non  => cases rv;rw[D.eq.eq_def];exact .list_none p.isList hu0
  | bl y1=>cases rv;rw[D.eq.eq_def];exact .list_bool _ p.isList hu0
  | int y1=>obtain⟨_,rfl⟩:=rv;rw[D.eq.eq_def];exact .list_int _ _ p.isList hu0
  | str y1=>obtain⟨_,rfl⟩:=rv;rw[D.eq.eq_def];exact .list_str _ _ p.isList hu0
  | @tup b ys es eb r2=>cases rv;rw[D.eq.eq_def];obtain⟨_,_,p2,_⟩:=I.tuple eb;exact .list_tuple p.isList p2 hu0
  | @lst b ys es eb r2 =>
   cases rv
   obtain⟨vs,rvs,p2,_⟩:=I.list eb
   rw[D.depth] at hn
   obtain⟨n,rfl⟩:∃m,n=m+1:=⟨n-1,by omega⟩
   rw[D.eq.eq_def]
   simp only[]
   rw[D.dY]
   have l1:us.toArray.size=ds.length:=by rw[JO,<- rus.length,r.len]
   have l2:vs.toArray.size=es.length:=by rw[JO,<- rvs.length,r2.len]
   rw[<- l1,<- l2]
   by_cases hl:us.toArray.size=vs.toArray.size
   ·have e1:(us.toArray.size==vs.toArray.size)=true:=beq_iff_eq.mpr hl
    rw[e1,MH,<- hl,N6]
    exact .lists p.isList p2.isList hl hu0 (gS I (fc I n) hu (by omega) r r2 rus rvs)
   ·have e1:(us.toArray.size==vs.toArray.size)=false:=beq_eq_false_iff_ne.mpr hl
    rw[e1,LY]
    exact .lists_lengths p.isList p2.isList (by simpa using hl) hu0
theorem oG(I:Inv X pins σ H s){n:Nat}{A:Around}{x y:V}{d e:D}{u v:Value}(hu:A.units+n<cLine)(hn:D.depth d<=n)(hd:Den X.K H x d)(he:Den X.K H y e)(ru:RelV x u)(rv:RelV y v):SeqAt.RcNeAt A s u v (!D.eq d e):=by
 have hu0:A.units<cLine:=by omega
 cases id hd with
 | non  =>
  cases ru
  cases id he with
  | non  => cases rv;rw[D.eq.eq_def];exact .none_none
  | bl y1=>cases rv;rw[D.eq.eq_def];exact .none_bool _
  | int y1=>obtain⟨_,rfl⟩:=rv;rw[D.eq.eq_def];exact .none_int _ _
  | str y1=>obtain⟨_,rfl⟩:=rv;rw[D.eq.eq_def];exact .none_str _ _
  | @tup b ys es eb r2=>cases rv;rw[D.eq.eq_def];obtain⟨_,_,p2,_⟩:=I.tuple eb;exact .none_tuple p2 hu0
  | @lst b ys es eb r2=>cases rv;rw[D.eq.eq_def];obtain⟨_,_,p2,_⟩:=I.list eb;exact .none_list p2.isList hu0
 | bl x1 =>
  cases ru
  cases id he with
  | non  => cases rv;rw[D.eq.eq_def];exact .bool_none _
  | bl y1=>cases rv;rw[D.eq.eq_def];exact .bool_bool _ _
  | int y1=>obtain⟨_,rfl⟩:=rv;rw[D.eq.eq_def];exact .bool_int _ _ _
  | str y1=>obtain⟨_,rfl⟩:=rv;rw[D.eq.eq_def];exact .bool_str _ _ _
  | @tup b ys es eb r2=>cases rv;rw[D.eq.eq_def];obtain⟨_,_,p2,_⟩:=I.tuple eb;exact .bool_tuple _ p2 hu0
  | @lst b ys es eb r2=>cases rv;rw[D.eq.eq_def];obtain⟨_,_,p2,_⟩:=I.list eb;exact .bool_list _ p2.isList hu0
 | int x1 =>
  obtain⟨_,rfl⟩:=ru
  cases id he with
  | non  => cases rv;rw[D.eq.eq_def];exact .int_none _ _
  | bl y1=>cases rv;rw[D.eq.eq_def];exact .int_bool _ _ _
  | int y1=>obtain⟨_,rfl⟩:=rv;rw[D.eq.eq_def];exact .int_int _ _ _ _
  | str y1=>obtain⟨_,rfl⟩:=rv;rw[D.eq.eq_def];exact .int_str _ _ _ _
  | @tup b ys es eb r2=>cases rv;rw[D.eq.eq_def];obtain⟨_,_,p2,_⟩:=I.tuple eb;exact .int_tuple _ _ p2 hu0
  | @lst b ys es eb r2=>cases rv;rw[D.eq.eq_def];obtain⟨_,_,p2,_⟩:=I.list eb;exact .int_list _ _ p2.isList hu0
 | str x1 =>
  obtain⟨_,rfl⟩:=ru
  cases id he with
  | non  => cases rv;rw[D.eq.eq_def];exact .str_none _ _
  | bl y1=>cases rv;rw[D.eq.eq_def];exact .str_bool _ _ _
  | int y1=>obtain⟨_,rfl⟩:=rv;rw[D.eq.eq_def];exact .str_int _ _ _ _
  | str y1=>obtain⟨_,rfl⟩:=rv;rw[D.eq.eq_def];exact .str_str _ _ _ _
  | @tup b ys es eb r2=>cases rv;rw[D.eq.eq_def];obtain⟨_,_,p2,_⟩:=I.tuple eb;exact .str_tuple _ _ p2 hu0
  | @lst b ys es eb r2=>cases rv;rw[D.eq.eq_def];obtain⟨_,_,p2,_⟩:=I.list eb;exact .str_list _ _ p2.isList hu0
 | @tup a xs ds ea r =>
  cases ru
  obtain⟨us,rus,p,_⟩:=I.tuple ea
  cases id he with
  | non  => cases rv;rw[D.eq.eq_def];exact .tuple_none p hu0
  | bl y1=>cases rv;rw[D.eq.eq_def];exact .tuple_bool _ p hu0
  | int y1=>obtain⟨_,rfl⟩:=rv;rw[D.eq.eq_def];exact .tuple_int _ _ p hu0
  | str y1=>obtain⟨_,rfl⟩:=rv;rw[D.eq.eq_def];exact .tuple_str _ _ p hu0
  | @tup b ys es eb r2 =>
   cases rv
   obtain⟨vs,rvs,p2,_⟩:=I.tuple eb
   rw[D.depth] at hn
   obtain⟨n,rfl⟩:∃m,n=m+1:=⟨n-1,by omega⟩
   rw[D.eq.eq_def]
   simp only[]
   rw[D.dY]
   have l1:us.toArray.size=ds.length:=by rw[JO,<- rus.length,r.len]
   have l2:vs.toArray.size=es.length:=by rw[JO,<- rvs.length,r2.len]
   rw[<- l1,<- l2]
   exact .tuples p p2 hu0 (gS I (fc I n) hu (by omega) r r2 rus rvs)
  | @lst b ys es eb r2=>cases rv;rw[D.eq.eq_def];obtain⟨_,_,p2,_⟩:=I.list eb;exact .tuple_list p p2.isList hu0
 | @lst a xs ds ea r =>
  cases ru
  obtain⟨us,rus,p,_⟩:=I.list ea
  cases id he with
  | non  => cases rv;rw[D.eq.eq_def];exact .list_none p.isList hu0
  | bl y1=>cases rv;rw[D.eq.eq_def];exact .list_bool _ p.isList hu0
  | int y1=>obtain⟨_,rfl⟩:=rv;rw[D.eq.eq_def];exact .list_int _ _ p.isList hu0
  | str y1=>obtain⟨_,rfl⟩:=rv;rw[D.eq.eq_def];exact .list_str _ _ p.isList hu0
  | @tup b ys es eb r2=>cases rv;rw[D.eq.eq_def];obtain⟨_,_,p2,_⟩:=I.tuple eb;exact .list_tuple p.isList p2 hu0
  | @lst b ys es eb r2 =>
   cases rv
   obtain⟨vs,rvs,p2,_⟩:=I.list eb
   rw[D.depth] at hn
   obtain⟨n,rfl⟩:∃m,n=m+1:=⟨n-1,by omega⟩
   rw[D.eq.eq_def]
   simp only[]
   rw[D.dY]
   have l1:us.toArray.size=ds.length:=by rw[JO,<- rus.length,r.len]
   have l2:vs.toArray.size=es.length:=by rw[JO,<- rvs.length,r2.len]
   rw[<- l1,<- l2]
   by_cases hl:us.toArray.size=vs.toArray.size
   ·have e1:(us.toArray.size==vs.toArray.size)=true:=beq_iff_eq.mpr hl
    rw[e1,MH,<- hl,N6]
    exact .lists p.isList p2.isList hl hu0 (gS I (fc I n) hu (by omega) r r2 rus rvs)
   ·have e1:(us.toArray.size==vs.toArray.size)=false:=beq_eq_false_iff_ne.mpr hl
    rw[e1,LY]
    exact .lists_lengths p.isList p2.isList (by simpa using hl) hu0
noncomputable def Hq(K:JH):R2:=λx y H Q=>∃d e,Den K H x d/\Den K H y e/\D.depth d<=40/\Q (.bl (D.eq d e)) H
noncomputable def Ho(K:JH):R2:=λx y H Q=>∃d e,Den K H x d/\Den K H y e/\D.depth d<=40/\Q (.bl (!D.eq d e)) H
theorem vi(hu:X.A.units+64<cLine):OpR X (compareOp .Eq) (Hq X.K):=by
 intro pins s σ H x y v u Q I rx ry h
 obtain⟨d,e,hd,he,dp,q⟩:=h
 exact uj I (n:=64) hu (by omega) hd he rx ry _ _ _ _ ⟨.bl _,H,I,rfl,q⟩
theorem k7(hu:X.A.units+64<cLine):OpR X (compareOp .NotEq) (Ho X.K):=by
 intro pins s σ H x y v u Q I rx ry h
 obtain⟨d,e,hd,he,dp,q⟩:=h
 exact oG I (n:=64) hu (by omega) hd he rx ry _ _ _ _ ⟨.bl _,H,I,rfl,q⟩
inductive TyX (K:JH) (H:Hp):V->Value->Prop where
 | of {v:V} {t:Value} (h:iz K H v t):TyX K H v t
 | tup {a:Addr} {xs:List V} (e:SqT K H a xs):TyX K H (.ref a) (.type "tuple")
 | lst {a:Addr} {xs:List V} (e:SqL K H a xs):TyX K H (.ref a) (.type "list")
 | exc {a C:Addr} (e:H a=some (m5 a C)) (c:dJ K C):TyX K H (.ref a) (.ref C)
 | dic {a:Addr} {kvs:List (Key×V)} (e:Rd H a (.dK kvs)):TyX K H (.ref a) (.type "dict")
noncomputable def eD:V->Value
 | .ref a=>.ref a
 | .ty n=>.type n
 | _=>.none
noncomputable def ck:V->Bool
 | .ref _=>true
 | .ty _=>true
 | _=>false
theorem qN{x:V}{u:Value}(h:ck x=true)(r:RelV x u):u=eD x:=by
 cases x<;>first|exact r|cases h
theorem nM:∀{xs:List V}{us:List Value},xs.all ck=true->Vals xs us->us=xs.map eD
 | _,_,_,.nil=>rfl
 | _,_,h,.cons r t=>by
  rw[Ki,JK] at h
  rw[JU,qN h.1 r,nM h.2 t]
theorem jc{pins:List (Addr×Obj)}{σ:St}{H:Hp}{s:Shared}{x:V}{u t:Value}(I:Inv X pins σ H s)(rx:RelV x u)(ty:TyX X.K H x t):∃P,PySem.W.KitX X.K u t P/\P s.heap/\u≠.builtin "__main__.__loader__#opaque" := by
 cases ty with
 | tup e =>
  cases rx
  obtain⟨_,_,⟨o,h1,h2,_⟩,_⟩:=I.tuple e
  exact⟨_,N7,⟨o,h1,h2⟩,λz=>nomatch z⟩
 | lst e =>
  cases rx
  obtain⟨_,_,⟨o,_,h1,h2,_⟩,_⟩:=I.list e
  exact⟨_,MI,⟨o,h1,h2⟩,λz=>nomatch z⟩
 | dic e =>
  cases rx
  obtain⟨_,_,vs,_,o,es,ep,h1,h2,_⟩:=cc I.hok e
  exact⟨_,MJ,⟨o,h1,h2.1⟩,λz=>nomatch z⟩
 | exc e c =>
  cases rx
  obtain⟨p,_⟩:=(show aK X.prog X.w H s.heap _ (m5 _ _) from I.hok _ _ e)
  exact⟨_,vS c,p,λz=>nomatch z⟩
 | of h =>
  cases h with
  | non=>cases rx;exact⟨_,PySem.W.kitx_none,trivial,λz=>nomatch z⟩
  | bl y=>cases rx;exact⟨_,PySem.W.kitx_bool,trivial,λz=>nomatch z⟩
  | int i=>obtain⟨_,rfl⟩:=rx;exact⟨_,PySem.W.kitx_int,trivial,λz=>nomatch z⟩
  | str i=>obtain⟨_,rfl⟩:=rx;exact⟨_,PySem.W.kitx_str,trivial,λz=>nomatch z⟩
  | flt i=>obtain⟨_,rfl⟩:=rx;exact⟨_,PySem.W.kitx_float,trivial,λz=>nomatch z⟩
  | @lst a xs ea =>
   cases rx
   obtain⟨_,_,n,_,h1⟩:=(show aK X.prog X.w H s.heap a (.lst xs) from I.hok a _ ea)
   exact⟨_,MI,⟨_,h1,rfl⟩,λz=>nomatch z⟩
  | @frz a ob xs ea =>
   cases rx
   obtain⟨_,_,_,n,_,h1⟩:=(show aK X.prog X.w H s.heap a (.frz ob (.lst xs)) from I.hok a _ ea)
   exact⟨_,MI,⟨_,h1,rfl⟩,λz=>nomatch z⟩
  | @tup a xs ea =>
   cases rx
   obtain⟨_,_,_,o,h1,h2,_⟩:=(show aK X.prog X.w H s.heap a (.tup xs) from I.hok a _ ea)
   exact⟨_,N7,⟨o,h1,h2⟩,λz=>nomatch z⟩
  | @dK a kvs ea =>
   cases rx
   obtain⟨_,_,vs,_,o,es,ep,h1,h2,_⟩:=(show aK X.prog X.w H s.heap a (.dK kvs) from I.hok a _ ea)
   exact⟨_,MJ,⟨o,h1,h2.1⟩,λz=>nomatch z⟩
  | @dT a kvs ea =>
   cases rx
   obtain⟨_,_,xs,_,o,es,ep,h1,h2,_⟩:=(show aK X.prog X.w H s.heap a (.dT kvs) from I.hok a _ ea)
   exact⟨_,MJ,⟨o,h1,h2.1⟩,λz=>nomatch z⟩
  | @ins a C dx fs ea cl ha hn htk hm =>
   cases rx
   obtain⟨mA,O,_⟩:=yF I.hok ea
   obtain⟨od,J,_⟩:=O.look
   exact⟨_,PySem.W.kitx_own (cl.get _) cl.hd ha hn htk hm,J,λz=>nomatch z⟩
theorem nc:aY X (.builtin "isinstance") (λxs H Q=>∃x c t b,xs=[x,c]/\TyX X.K H x t/\ck c=true/\Ko X.K t (eD c)=some b/\Q (.bl b) H):=by
 intro pins s σ H xs us Q I r h
 obtain⟨x,c,t,b,rfl,ty,hc,hk,q⟩:=h
 obtain⟨u,w',rfl,ru,rw'⟩:=vals2 r
 rw[qN hc rw']
 obtain⟨P,Z,p,nb⟩:=jc I ru ty
 exact PySem.W.kia_one Z I.kIn p hk nb λtk=>⟨.bl b,H,I.tok tk,rfl,q⟩
theorem si:aY X (.builtin "isinstance") (λxs H Q=>∃x a cs t b,xs=[x,.ref a]/\H a=some (.tup cs)/\cs.all ck=true/\TyX X.K H x t/\K8 X.K t (cs.map eD)=some b/\Q (.bl b) H):=by
 intro pins s σ H xs us Q I r h
 obtain⟨x,a,cs,t,b,rfl,ha,hc,ty,hk,q⟩:=h
 obtain⟨u,w',rfl,ru,rw'⟩:=vals2 r
 cases rw'
 obtain⟨P,Z,p,nb⟩:=jc I ru ty
 obtain⟨_,its,rv,o,e,c,n,dd,_⟩:=(show aK X.prog X.w H s.heap a (.tup cs) from I.hok a _ ha)
 obtain⟨oc,od,odt,osl⟩:=o
 simp only at c dd
 subst c dd
 rw[nM hc rv] at e
 exact PySem.W.kia_tup Z I.kIn p e hk nb λtk=>⟨.bl b,H,I.tok tk,rfl,q⟩
end
end L2
namespace L2
open PySem PySem.Spec PyProof.Rows
theorem CO:bootBuiltins "len" = some (.builtin "len"):=by decide +kernel
theorem c8:bootBuiltins "isinstance" = some (.builtin "isinstance"):=by decide +kernel
theorem EJ:bootBuiltins "abs" = some (.builtin "abs"):=by decide +kernel
theorem B6:bootBuiltins "max" = some (.builtin "max"):=by decide +kernel
theorem Cv:bootBuiltins "min" = some (.builtin "min"):=by decide +kernel
theorem rL:bootBuiltins "sorted" = some (.builtin "sorted"):=by decide +kernel
theorem vK:bootBuiltins "all" = some (.builtin "all"):=by decide +kernel
theorem n6:bootBuiltins "int" = some (.type "int"):=by decide +kernel
theorem yA:bootBuiltins "bool" = some (.type "bool"):=by decide +kernel
theorem oC:bootBuiltins "str" = some (.type "str"):=by decide +kernel
theorem mU:bootBuiltins "tuple" = some (.type "tuple"):=by decide +kernel
theorem qg:bootBuiltins "list" = some (.type "list"):=by decide +kernel
theorem qC:bootBuiltins "dict" = some (.type "dict"):=by decide +kernel
theorem kX{P:Program}{w:World}{X:Cx}:Passes (CXE P w) X E0:=λ_ _ _ _ _ _ _ ⟨_,_,_,_,_,z⟩=>z.elim
structure jr (K:JH) (x qual:Str) (st:Stmt) (f:Addr) (fd:FuncData) (dV:Value):Prop where
 ex:∃(oc:Value) (od:Option Addr) (kV doc pm:Value) (an:Option Addr) (cdv ct:Value) (osl:Array (Option Value)),
  fd=Lc x qual (bQ st) (a7 st) (ay st) dV kV doc pm an cdv ct/\K.lookup f=some ⟨oc,od,.func fd,osl⟩/\LS K cdv qual=true
 kp:Ks K (.ref f)=true
section
variable{P:Program}{w:World}{K:JH}{mg:Str->Option Value}{base:Heap}{dV:Value}
theorem jr.ok{x qual:Str}{st:Stmt}{f:Addr}{fd:FuncData}{N ps:List Str}{k:Nat}{sp:Sp}(F:jr K x qual st f fd dV)(S:cR N ps (ay st))(len:∀vs H Q E,sp vs H Q E->vs.length=ps.length)
  (hbody:∀(cdv:Value)(A:Around)(outer:List Env)(s:Shared)(H:Hp)(vs:List V)(Q:VK)(E:XK),bR k (A.deeper (envOfC qual (ay st) s.heap.objs.size f cdv))->sp vs H Q E ->
   ∃t,PSs (jC (CXE P w) P w K mg base N qual (ay st) f cdv A outer s H E) (a7 st) t/\t { nx:=λ_ H'=>Q .non H',rt:=Q } (start N vs) H):cu P w K mg base (CXE P w) (k+1) f fd ps sp:=by
 obtain⟨oc,od,kV,doc,pm,an,cdv,ct,osl,rfl,lk,hcd⟩:=F.ex
 exact F9 lk hcd S len λA outer s H vs Q E hr hsp=>hbody cdv A outer s H vs Q E hr hsp
end
end L2
namespace L2
open PySem PySem.Spec PyProof.Rows
section
variable{K:JH}{D:Ends}{σ:St}{H:Hp}{Q:VK}{QT:Bool->Hp->Prop}{QA:List V->Hp->Prop}{QS:St->Hp->Prop}{E:XK}{EX:XS}{ta tb tc te:TE}{tt tu:TT}{t u:TS}{tA tr:TA}{tx:TX}{g:TG}{gs:TGs}{i j n:Nat}{v x y:V}{vs:List V}{r r':R2}{C:Addr}{sp:Sp}{dvs:List V}
def Js(J:It)(g:TG)(tb:TS)(D:Ends)(σ:St)(H:Hp):Prop:=∃W:Nat->Nat->St->Hp->Prop,(∃m,W 0 m σ H)/\∀i m σ H,W i m σ H ->
 (J.stop i H/\D.nx σ H)\/(J.go i H/\∃N:St->Hp->Prop,(∀σ' H',N σ' H'->∃m',m'<m/\W (i+1) m' σ' H')/\∀x H',J.yld i H x H'->g x σ H' λσ2 H2=>tb { D with nx:=N,ct:=N,bk:=D.nx } σ2 H2)
end
end L2
namespace L2
open PySem PySem.Spec PyProof.Rows
@[irreducible] def QS (X:Cx) (s:Stmt) (t:TS):Prop:=PS X s t
@[irreducible] def QT (X:Cx) (s:Expr) (t:TT):Prop:=PT X s t
@[irreducible] def QA (X:Cx) (s:List Expr) (t:TA):Prop:=PA X s t
set_option autoImplicit true
set_option relaxedAutoImplicit true
end L2
namespace L2
open PySem PySem.Spec PyProof.Rows
section
variable{prog:Program}{w:World}{A:Around}{R:Result->Shared->Prop}{s:Shared}
theorem kT{elt target iter:Expr}{ifs:List Expr}{scope:Scope}{pos:Pos}{it acc:Value}{env:Env}(I:Nat->Shared->Prop)
  (turn:∀n s,I n s->wpAny (model prog w) A (pyNext it) (λr s₁=>match r with
   | none=>R (.ok .next) s₁
   | some v=>wpAny (model prog w) A (letOwnedTupleGo target it v) (λ_ s₁'=>wpAny (model prog w) A (assign target env v) (λ_ s₂ =>
     wpAny (model prog w) A (forIn ifs true λc r=>if r=true then do let ok <- isTrue c env (eval c env);pure (K2 ok) else pure (K2 r)) (λok s₃ =>
      if ok=true then wpAny (model prog w) A (eval elt env) (λx s₄ =>
       wpAny (model prog w) A (call (.builtin "list.append") [acc,x]) (λ_ s₅=>∃m,m<n/\I m s₅) (λ_ _=>False) s₄) (λ_ _=>False) s₃
      else ∃m,m<n/\I m s₃) (λ_ _=>False) s₂) (λ_ _=>False) s₁') (λ_ _=>False) s₁) (λ_ _=>False) s)
  (n:Nat) (h:I n s):codeAny (model prog w) A (.compLoop (.ListComp elt [⟨target,iter,ifs,0⟩] scope pos) 0 it acc env) R s:=by
 refine codeAny_loop rfl I (λn s hI=>?_) n h
 show wpAny _ A ((compTurn (.ListComp elt [⟨target,iter,ifs,0⟩] scope pos) 0 it acc env).onRaise (λx=>do noteFrame x env;theTreesLotGoes x)) _ _ s
 refine wpAny_noted ?_
 rw[compTurn_list]
 refine wpAny_bind (wpAny_standAt (wpAny_bind (wpAny_mono (turn n s hI) (λr s₁ h₁=>?_) λ_ _ h'=>h'.elim)))
 cases r with
 | none=>exact wpAny_pure h₁
 | some v =>
  refine wpAny_bind (wpAny_mono h₁ (λ_ s₁' h₁'=>?_) λ_ _ h'=>h'.elim)
  refine wpAny_bind (wpAny_mono h₁' (λ_ s₂ h₂=>wpAny_bind (wpAny_mono h₂ (λok s₃ h₃=>?_) λ_ _ h'=>h'.elim)) λ_ _ h'=>h'.elim)
  cases ok with
  | false=>exact wpAny_pure ⟨rfl,h₃⟩
  | true =>
   exact wpAny_bind (wpAny_bind (wpAny_mono h₃ (λx s₄ h₄=>wpAny_bind (wpAny_mono h₄ (λ_ s₅ h₅=>wpAny_pure (wpAny_pure ⟨rfl,h₅⟩)) λ_ _ h'=>h'.elim)) λ_ _ h'=>h'.elim))
end
theorem ji{env:Env}{f:Str×NameKind->List (Str×Addr)->Sem (ForInStep (List (Str×Addr)))}
  (hf:∀x cs,f x cs=if (x.2==Ld)=true then (do let c <- cellOf env x.1;pure (K2 ((x.1,c)::cs))) else pure (K2 cs)) :
  ∀(l:List (Str×NameKind))(cs:List (Str×Addr)),(∀x∈l,x.2=.free->∃c,env.cells.lookup x.1=some c) ->
   ∃cl,forIn l cs f=(pure cl:Sem _)/\(∀x c,cl.lookup x=some c->cs.lookup x=some c\/env.cells.lookup x=some c) /\
    (∀x,(∃c,cs.lookup x=some c)\/(x,Ld)∈l->∃c,cl.lookup x=some c)
 | [],cs,_=>⟨cs,rfl,λ_ _ h=>.inl h,λx h=>h.elim id (λz=>by cases z)⟩
 | (n,k)::l,cs,h=>by
  rw[List.forIn_cons,hf]
  by_cases hk:k=.free
  ·subst hk
   obtain⟨c,hc⟩:=h (n,.free) JN rfl
   obtain⟨cl,e,h1,h2⟩:=ji hf l ((n,c)::cs) λx hx=>h x (JQ _ hx)
   refine⟨cl,?_,λx c' q=>?_,λx q=>h2 x ?_⟩
   ·have e1:cellOf env n=pure c:=by unfold cellOf;rw[hc]
    simp only[beq_self_eq_true,if_true,e1,pure_bind]
    exact e
   ·rcases h1 x c' q with z|z
    ·rw[Kq] at z
     by_cases hx:(x==n)=true
     ·rw[hx] at z
      have:x=n:=eq_of_beq hx
      subst this
      exact .inr (by rw[hc];exact z)
     ·rw[MS.mpr hx] at z
      exact .inl z
    ·exact .inr z
   ·rcases q with ⟨c',z⟩|z
    ·left
     rw[Kq]
     cases x==n with
     | true=>exact⟨c,rfl⟩
     | false=>exact⟨c',z⟩
    ·rcases J6.mp z with z|z
     ·left
      cases z
      rw[Kq,beq_self_eq_true]
      exact⟨c,rfl⟩
     ·exact .inr z
  ·obtain⟨cl,e,h1,h2⟩:=ji hf l cs λx hx=>h x (JQ _ hx)
   refine⟨cl,?_,h1,λx q=>h2 x ?_⟩
   ·have e1:((n,k).2==Ld)=false:=by
     cases k<;>first|rfl|exact absurd rfl hk
    rw[e1]
    simp only[LZ,if_false,pure_bind]
    exact e
   ·rcases q with z|z
    ·exact .inl z
    ·rcases J6.mp z with z|z
     ·cases z;exact absurd rfl hk
     ·exact .inr z
theorem pb{scope:Scope}{env:Env}(h:∀x∈scope.names,x.2=.free->∃c,env.cells.lookup x.1=some c) :
  ∃cl,closureFor scope env=pure cl/\(∀x c,cl.lookup x=some c->env.cells.lookup x=some c)/\(∀x,(x,Ld)∈scope.names->∃c,cl.lookup x=some c):=by
 obtain⟨cl,e,h1,h2⟩:=ji (env:=env) (λ_ _=>rfl) scope.names [] h
 refine⟨cl,?_,λx c q=>(h1 x c q).elim (λz=>by cases z) id,λx q=>h2 x (.inr q)⟩
 unfold closureFor
 exact(congrArg (λz:Sem (List (Str×Addr))=>z >>= λr=>pure r) e).trans (by rw[pure_bind])
section
variable{env:Env}
noncomputable def mI(env:Env):Str×NameKind->Str×NameKind:=λ(n,k)=>if (k==.free&&env.scope.kind==.function&&env.kindOf n==some .cell) then (n,.cell) else (n,k)
theorem mE(p:Str×NameKind):(mI env p).1=p.1:=by
 obtain⟨n,k⟩:=p
 show (if _ then _ else _:Str×NameKind).1=n
 split<;>rfl
theorem nG(p:Str×NameKind):(mI env p).2=p.2\/(p.2=.free/\(mI env p).2=.cell):=by
 obtain⟨n,k⟩:=p
 show (if _ then _ else _:Str×NameKind).2=k\/_
 split
 ·rename_i h
  right
  rw[JK,JK] at h
  refine⟨eq_of_beq h.1.1,?_⟩
  show (if _ then _ else _:Str×NameKind).2=_
  rw[if_pos (by rw[JK,JK];exact h)]
 ·left;rfl
theorem cS:∀{names:List (Str×NameKind)}{x:Str}{k:NameKind},names.lookup x=some k->(names.map (mI env)).lookup x=some k\/(k=.free/\(names.map (mI env)).lookup x=some .cell)
 | [],_,_,h=>by cases h
 | p::r,x,k,h=>by
  rw[JU]
  obtain⟨n,k0⟩:=p
  have e1:=mE (env:=env) (n,k0)
  have e2:=nG (env:=env) (n,k0)
  generalize mI env (n,k0)=q at e1 e2 ⊢
  obtain⟨n',k'⟩:=q
  have e1:n'=n:=e1
  subst e1
  rw[Kq] at h ⊢
  cases hx:x==n' with
  | true =>
   rw[hx] at h
   cases h
   rcases e2 with e2|⟨e2,e3⟩
   ·left;exact congrArg some e2
   ·right;exact⟨e2,congrArg some e3⟩
  | false =>
   rw[hx] at h
   exact cS h
theorem br:∀{names:List (Str×NameKind)}{x:Str}{k:NameKind},(names.map (mI env)).lookup x=some k->names.lookup x=some k\/(k=.cell/\names.lookup x=some .free)
 | [],_,_,h=>by cases h
 | p::r,x,k,h=>by
  rw[JU] at h
  obtain⟨n,k0⟩:=p
  have e1:=mE (env:=env) (n,k0)
  have e2:=nG (env:=env) (n,k0)
  generalize mI env (n,k0)=q at e1 e2 h
  obtain⟨n',k'⟩:=q
  have e1:n'=n:=e1
  subst e1
  rw[Kq] at h ⊢
  cases hx:x==n' with
  | true =>
   rw[hx] at h
   cases h
   rcases e2 with e2|⟨e2,e3⟩
   ·left;exact congrArg some e2.symm
   ·right;exact⟨e3,congrArg some e2⟩
  | false =>
   rw[hx] at h
   exact br h
theorem fu{sc:Scope}{x:Str}(h:sc.names.lookup x=some .local):(relabel sc env).names.lookup x=some .local:=by
 rcases cS (env:=env) h with z|⟨z,_⟩
 ·exact z
 ·cases z
theorem wd{sc:Scope}{x:Str}(h:sc.names.lookup x=some .globalImplicit):(relabel sc env).names.lookup x=some .globalImplicit:=by
 rcases cS (env:=env) h with z|⟨z,_⟩
 ·exact z
 ·cases z
theorem mZ{sc:Scope}{x:Str}(h:sc.names.lookup x=some .free):Vis (relabel sc env) x:=by
 rcases cS (env:=env) h with z|⟨_,z⟩
 ·exact .inr (.inr z)
 ·exact .inr (.inl z)
end
structure bE (N0 N:List Str) (k:Nat) (sc de:Scope):Prop where
 kind:sc.kind=.function
 cell:∀y∈sc.names,y.2≠.cell
 names:∀y∈sc.names,y.2=.local->sc.names.lookup y.1=some .local
 len:N.length=N0.length+k
 nd:N.Nodup
 old:∀p∈(N.take N0.length).zip N0,p.1=p.2\/sc.names.lookup p.1=none
 nl:∀n∈N.take N0.length,sc.names.lookup n≠some .local
 fr:∀y∈sc.names,y.2=.free->de.names.lookup y.1=some .cell\/de.names.lookup y.1=some .free
noncomputable def cxC(X:Cx)(N:List Str)(sc:Scope)(cl:List (Str×Addr))(C:Addr)(s:Shared)(H:Hp)(ex:List Addr):Cx where
 prog:=X.prog
 w:=X.w
 K:=X.K
 mg:=X.mg
 base:=X.base
 A:=X.A
 N:=N
 s₀:=s
 H₀:=H
 env:=compEnvC sc cl C X.env
 outer:=X.stack
 stack:=X.stack
 ex:=ex
 fn:=λ_=>false
 calm:=X.calm
 pn:=[]
 xe:=λ_ _=>False
theorem mem_of_lookupK{names:List (Str×NameKind)}{x:Str}{k:NameKind}(h:names.lookup x=some k):(x,k)∈names:=K9 h
section
variable{X:Cx}{pins:List (Addr×Obj)}{σ:St}{H:Hp}{s:Shared}{N:List Str}{k:Nat}{sc:Scope}{cl:List (Str×Addr)}{C:Addr}{fp:List Addr}{h1:Heap}{tk:Nat}
theorem nh(I:Inv X pins σ H s)(S:bE X.N N k sc X.env.scope)(hcl1:∀x c,cl.lookup x=some c->X.env.cells.lookup x=some c)
  (hcl2:∀x,(x,Ld)∈sc.names->∃c,cl.lookup x=some c)(hC:s.heap.objs.size<=C)(hf:∀b∈fp,gk X pins H b)(hfp:∀b∈fp,b<s.heap.objs.size)
  (hk:∀b o,s.heap.get? b=some o->h1.get? b=some o)(hn:∃m,h1.Ns C m) :
  Inv (cxC X N sc cl C s H fp) (X.pn++pins) (σ++J8 k none) H { s with heap:=h1,toks:=tk }:=by
 have oldlt:∀b o,s.heap.get? b=some o->b≠C:=λb o e=>Kf (JR (J2 e) hC)
 have kind:∀x,((cxC X N sc cl C s H fp).env.kindOf x=some .cell\/(cxC X N sc cl C s H fp).env.kindOf x=some .free)->sc.names.lookup x=some .free:=λx hx=>by
  rcases hx with hx|hx
  ·rcases br (env:=X.env) hx with z|⟨_,z⟩
   ·exact absurd rfl (S.cell _ (mem_of_lookupK z))
   ·exact z
  ·rcases br (env:=X.env) hx with z|⟨z,_⟩
   ·exact z
   ·cases z
 refine⟨⟨I.ok.mod,S.kind,I.ok.glob,I.ok.blt,hC,λx y c h1 h2=>I.ok.inj x y c (hcl1 _ _ h1) (hcl1 _ _ h2),λx hx=>hcl2 x (mem_of_lookupK (kind x hx)),λx c z _=>absurd (show false=true from z) Kc,
  I.ok.hd,I.ok.frames,.inl rfl,λb hb=>⟨Kf (JR (hfp b hb) hC),λx c e=>(hf b hb).2.2.2.2.1 x c (hcl1 _ _ e)⟩,I.bs,Kh I.ok.bsz I.sz,λb o e hb=>?_,λb hb hb2=>?_,I.stack,I.lI⟩,
  rfl,I.bare,Un.kept hk,?_,λx c e=>?_,I.hok.fresh hC,λx c e=>I.freeC x c (hcl1 _ _ e),λp hp=>?_,I.hok.kept hk,?_⟩
 ·rcases(hf b hb).2.2.2.1 with z|z
  ·exact I.ok.noex b o e z
  ·exact absurd (JR (J2 e) (Kh I.ok.bsz z)) (Kp _)
 ·rcases J6.mp (I.fV b hb2) with z|z
  ·exact(hf b hb).2.1 z
  ·exact(hf b hb).2.2.1 z
 ·obtain⟨m,hn⟩:=hn
  refine⟨m,hn,λi x v e1 e2 e3=>?_⟩
  have hi:i<σ.length:=by
   by_cases hi:i<σ.length
   ·exact hi
   ·rw[KA (by omega),NG] at e2
    split at e2<;>cases e2
  rw[KQ hi] at e2
  have hi0:i<X.N.length:=by rw[<- I.len];exact hi
  have hiN:(N.take X.N.length)[i]?=some x:=by rw[NB hi0];exact e1
  have nloc:=S.nl x (Lm hiN)
  have hfree:sc.names.lookup x=some .free:=by
   rcases e3 with z|z|z
   ·rcases br (env:=X.env) z with z|⟨z,_⟩
    ·exact absurd z nloc
    ·cases z
   ·exact kind x (.inl z)
   ·exact kind x (.inr z)
  have hX:X.N[i]?=some x:=by
   have hz:((N.take X.N.length).zip X.N)[i]?=some (x,X.N[i]):=by
    rw[List.getElem?_zip_eq_some]
    exact⟨hiN,Kl hi0⟩
   rcases S.old _ (Lm hz) with z|z
   ·have z:x=X.N[i]:=z
    rw[Kl hi0,<- z]
   ·have z:sc.names.lookup x=none:=z
    rw[hfree] at z;cases z
  obtain⟨m0,hn0,hl0⟩:=I.loc
  have vis:Vis X.env.scope x:=by
   rcases S.fr _ (mem_of_lookupK hfree) rfl with z|z
   ·exact .inr (.inl z)
   ·exact .inr (.inr z)
  obtain⟨u,r,l⟩:=hl0 i x v hX e2 vis
  refine⟨u,r,.inr ⟨?_,?_⟩⟩
  ·rcases mZ (env:=X.env) hfree with z|z|z
   ·rcases br (env:=X.env) z with z|⟨z,_⟩
    ·rw[hfree] at z;cases z
    ·cases z
   ·exact .inl z
   ·exact .inr z
  ·rcases l with ⟨z,_⟩|⟨_,c,ec,ic⟩
   ·have z:X.env.scope.names.lookup x=some .local:=z
    rcases S.fr _ (mem_of_lookupK hfree) rfl with z2|z2
    ·have z2:X.env.scope.names.lookup x=some .cell:=z2
     rw [z] at z2; cases z2
    ·have z2:X.env.scope.names.lookup x = some .free:=z2
     rw [z] at z2; cases z2
   ·obtain ⟨c',ec'⟩:=hcl2 x (mem_of_lookupK hfree)
    have:=hcl1 _ _ ec'
    rw[ec] at this
    cases this
    obtain⟨o,ho,hd⟩:=ic
    exact⟨c,ec',o,hk _ _ ho,hd⟩
 ·obtain⟨v,o,ho,hd⟩:=I.cell x c (hcl1 _ _ e)
  exact⟨v,o,hk _ _ ho,hd⟩
 ·have hp:p∈X.pn++pins:=hp
  obtain⟨e,n,ne,nf,d⟩:=I.pin p hp
  refine⟨hk _ _ e,n,oldlt _ _ e,λhb=>?_,d⟩
  rcases J6.mp (I.fV _ hb) with z|z
  ·exact ne z
  ·exact nf z
 ·show (σ++J8 k none).length=N.length
  rw[Kg,NZ,I.len,S.len]
theorem mw{H':Hp}{σ':St}{s':Shared}{D:Addr}{ys:List V}{its:List Value}(I:Inv X pins σ H s)(I':Inv (cxC X N sc cl C s H fp) (X.pn++pins) σ' H' s')(hD:s.heap.objs.size<=D)(hDn:H' D=none)
  (pl:s'.heap.PlainList D its.toArray)(rv:Vals ys its)(hl:ys.length<=sizeLine)(hf:∀b∈fp,gk X pins H b):Inv X pins σ (upd H' D (.lst ys)) s':=by
 obtain⟨n,hpl⟩:=pl
 have u:=I'.base
 have ne:∀b o,s.heap.get? b=some o->b≠D:=λb o e=>Kf (JR (J2 e) hD)
 have nH:∀b o,H' b=some o->b≠D:=λb o e=>aB e hDn
 refine I.wI I'.os ⟨u.keep,u.slot,λb o e n nx=>?_,u.there,λb xs e=>?_,λb o v e=>?_,λb ps e=>?_⟩ (λb o e=>?_) I'.bare (ch:=fp) λb hb=>?_
 ·rw[aj (ne b o e)];exact u.free b o e n nx
 ·have:=u.tups b xs e
  rw[aj (nH _ _ this)];exact this
 ·have:=u.frzs b o v e
  rw[aj (nH _ _ this)];exact this
 ·obtain⟨more,this⟩:=u.tbls b ps e
  exact⟨more,by rw[aj (nH _ _ this)];exact this⟩
 ·by_cases hb:b=D
  ·subst hb
   rw[aI] at e
   cases e
   exact⟨hl,its,n,rv,hpl⟩
  ·rw[aj hb] at e
   exact(I'.hok b o e).fZ (λ_ _ _ q=>q) (λc q=>by rw[aj (nH _ _ q)];exact q) λc xs q=>by rw[aj (nH _ _ q)];exact q
 ·obtain⟨f0,f1,f2,f3,f4,f5⟩:=hf b hb
  exact⟨f3,f1,f4,f5⟩
end
theorem Inv.fW{X:Cx}{pins:List (Addr×Obj)}{σ:St}{H:Hp}{s:Shared}(I:Inv X pins σ H s){a:Addr}(h:s.heap.objs.size<=a):a∉frs X.stack:=λhb=>by
 rcases J6.mp (I.fV a hb) with z|z
 ·exact absurd (JR I.lt (by rw[<- z];exact h)) (Kp _)
 ·exact I.Hv h z
def PF(X:Cx)(ifs:List Expr)(t:TT):Prop:=∀(pins:List (Addr×Obj))(s:Shared)(σ:St)(H:Hp)(Q:Bool->Hp->Prop),Inv X pins σ H s->t σ H Q ->
 wpAny (model X.prog X.w) X.A (forIn ifs true λc r=>if r=true then do let ok <- isTrue c X.env (eval c X.env);pure (K2 ok) else pure (K2 r)) (TP X pins σ Q) X.xe s
noncomputable def Fp:TT:=λ_ H Q=>Q true H
theorem D3{X:Cx}:PF X [] Fp:=λ_ _ _ H _ I h=>wpAny_tests_nil ⟨H,I,h⟩
theorem Eg{X:Cx}{c:Expr}{t:TT}(hc:PT X c t):PF X [c] t:=λpins s σ H Q I h=>wpAny_tests_one (hc pins s σ H Q I h)
def mR(J:It)(g:TG)(tt:TT)(te:TE)(Q:VK)(σ:St)(H:Hp):Prop:=∃W:Nat->Nat->St->List V->Hp->Prop,(∃m,W 0 m σ [] H)/\∀i m σ ys H,W i m σ ys H->ys.length<=sizeLine /\
  ((J.stop i H/\∀r,H r=none->Q (.ref r) (upd H r (.lst ys))) \/
   (J.go i H/\∃N:St->List V->Hp->Prop,(∀σ' ys' H',N σ' ys' H'->∃m',m'<m/\W (i+1) m' σ' ys' H') /\
     ∀x H',J.yld i H x H'->g x σ H' λσ2 H2=>tt σ2 H2 λb H3=>if b=true then te σ2 H3 λy H4=>N σ2 (ys++[y]) H4 else N σ2 ys H3))
noncomputable def j2(n:Nat)(wi:TI)(g:TG)(tt:TT)(te:TE):TE:=λσ H Q=>wi σ H λJ H1=>mR J g tt te Q (σ++J8 n none) H1
section
variable{X:Cx}{pins:List (Addr×Obj)}{σ:St}{H:Hp}{s:Shared}{N:List Str}{k:Nat}{sc:Scope}{cl:List (Str×Addr)}{C:Addr}{fp:List Addr}{J:It}{it:Addr}{tn:Nat->Heap->Prop}
 {tg elt iter:Expr} {ifs:List Expr} {pos:Pos} {g:TG} {tt:TT} {te:TE} {Q:VK} {E:Value->Shared->Prop} {RR:Value->Addr->Result->Shared->Prop}
theorem jx(hc:X.calm=true)(S:bE X.N N k sc X.env.scope)(hcl1:∀x c,cl.lookup x=some c->X.env.cells.lookup x=some c)
  (hcl2:∀x,(x,Ld)∈sc.names->∃c,cl.lookup x=some c)(I:Inv X pins σ H s)(T:Turn X.prog X.w X.K tg J fp it tn)(st:tn 0 s.heap)(hf:∀b∈fp,gk X pins H b)
  (B:mR J g tt te Q (σ++J8 k none) H)
  (hg:∀C,PG (cxC X N sc cl C s H fp) tg g)(ht:∀C,PF (cxC X N sc cl C s H fp) ifs tt)(he:∀C,PE (cxC X N sc cl C s H fp) elt te)
  (hRR:∀D C s' H' ys,Inv X pins σ (upd H' D (.lst ys)) s'->s.heap.objs.size<=C->upd H' D (.lst ys) C=none->(∃m,s'.heap.Ns C m)->Q (.ref D) (upd H' D (.lst ys))->RR (.ref D) C (.ok .next) s') :
  wpAny (model X.prog X.w) X.A (newList []) (λacc s₃=>wpAny (model X.prog X.w) X.A (newFunctionEnv sc X.env.globals cl [] X.env.qual none .none (some X.env)) (λcenv s₄ =>
   codeAny (model X.prog X.w) X.A (.compStart (.ListComp elt [⟨tg,iter,ifs,0⟩] sc pos) 0 (.ref it) acc { cenv with scope:=relabel sc X.env }) (RR acc cenv.locals) s₄) E s₃) E s:=by
 refine wpAny_newObj_type (wpAny_newFunctionEnv S.cell (by intro y hy;simp at hy) (λh₁ hns₁ hsb₁=>?_) S.kind)
 dsimp only at hns₁ hsb₁ ⊢
 generalize hH2:s.heap.push { cls:=.type "list",dict:=none,data:=.seq ([]:List Value).toArray }=H2 at hns₁ hsb₁ ⊢
 have hC:H2.objs.size=s.heap.objs.size+1:=by rw[<- hH2,Pc]
 have hDC:s.heap.objs.size≠H2.objs.size:=by rw[hC];exact Kf (M9 _)
 have hCle:s.heap.objs.size<=H2.objs.size:=by rw[hC];exact LP _
 have below:∀b,b<s.heap.objs.size->b≠H2.objs.size/\b≠s.heap.objs.size:=λb hb=>⟨by rw[hC];exact Kf (Mb hb),Kf hb⟩
 have old:∀b o,s.heap.get? b=some o->h₁.get? b=some o:=λb o e=>hsb₁.extBut b o (below b (J2 e)).1 (JM _ (hH2▸JM _ e))
 have hacc:h₁.PlainList s.heap.objs.size #[]:=⟨_,hsb₁.extBut _ _ hDC (JM _ (hH2▸Kb _ rfl))⟩
 have hfp:∀b∈fp,b<s.heap.objs.size:=λb hb=>let ⟨o,e,_⟩:=T.obj 0 _ st b hb;J2 e
 have st1:tn 0 h₁:=T.keep _ _ _ st λb hb o e=>old b o e
 have I0:=nh (tk:=s.toks+([]:List (Str×Value)).length) I S hcl1 hcl2 hCle hf hfp old ⟨_,hns₁⟩
 generalize H2.objs.size=C at hns₁ hsb₁ hC hDC hCle below I0 ⊢
 generalize hD:s.heap.objs.size=D at hC hDC hCle below hacc hfp ⊢
 have hDle:s.heap.objs.size<=D:=by rw[hD];exact J1 _
 have fpok:∀{H':Hp}{o:Obj},(∀b∈fp,H' b=none)->∀b∈fp,gk (cxC X N sc cl C s H fp) ((X.pn++pins)++[(D,o)]) H' b:=λ{H' o} hn b hb=>by
  obtain⟨f0,f1,f2,f3,f4,f5⟩:=hf b hb
  refine⟨hn b hb,(below b (hfp b hb)).1,λz=>?_,.inl hb,λx c e=>f4 x c (hcl1 _ _ e),λp hp=>?_⟩
  ·rcases J6.mp (I.fV b z) with z|z
   ·exact f1 z
   ·exact f2 z
  ·have hp:p∈(X.pn++pins)++[(D,o)]:=hp
   rcases J5.mp hp with z|z
   ·exact f5 p z
   ·have:p=(D,o):=by simpa using z
    rw[this]
    exact KJ (below b (hfp b hb)).2
 have loop:∀s₃:Shared,s₃={ s with heap:=h₁,toks:=s.toks+([]:List (Str×Value)).length } ->
   codeAny (model X.prog X.w) X.A (.compLoop (.ListComp elt [⟨tg,iter,ifs,0⟩] sc pos) 0 (.ref it) (.ref D) (compEnvC sc cl C X.env)) (RR (.ref D) C) s₃:=by
  rintro s₃ rfl
  obtain⟨W,⟨m0,w0⟩,step⟩:=B
  refine kT (λn s'=>∃i σ' H' ys its,Inv (cxC X N sc cl C s H fp) (X.pn++pins) σ' H' s'/\tn i s'.heap/\(∀b∈fp,H' b=none)/\H' D=none/\s'.heap.PlainList D (its:List Value).toArray/\Vals ys its/\W i n σ' ys H') ?_ m0
   ⟨0,_,H,[],[],I0,st1,λb hb=>(hf b hb).1,I.hok.fresh hDle,hacc,.nil,w0⟩
  rintro n s3 ⟨i,σ3,H3,ys,its,I3,st3,fr3,hD3,⟨nn,pl3⟩,rv3,w3⟩
  obtain⟨hl,cs⟩:=step i n σ3 ys H3 w3
  have pinD:∀{σ':St}{H':Hp}{s':Shared}{o:Obj},Inv (cxC X N sc cl C s H fp) (X.pn++pins) σ' H' s'->H' D=none->s'.heap.get? D=some o->(∀v,o.data≠.cell v)->Inv (cxC X N sc cl C s H fp) ((X.pn++pins)++[(D,o)]) σ' H' s':=λ{σ' H' s' o} I' hn e d =>
   I'.iI λp hp=>(J5.mp hp).elim (λz=>I'.pin p (JL _ z)) λz=>by
    have:p=(D,o):=by simpa using z
    subst this
    exact⟨e,hn,hDC,λz=>I.fW hDle z,d⟩
  have I3p:=pinD I3 hD3 pl3 λv z=>by cases z
  rcases cs with ⟨stop,q⟩|⟨go,NN,hN,nx⟩
  ·refine thn (T.done (cxC X N sc cl C s H fp) rfl rfl rfl hc i _ s3 σ3 H3 _ I3p (fpok fr3) st3 stop) λr s4 ⟨hr,I4⟩=>?_
   subst hr
   have d4:=I4.pin (D,_) (JL _ (JL _ (J9.mpr rfl)))
   have I5:=mw I I4.a9 hDle d4.2.1 ⟨nn,d4.1⟩ rv3 hl hf
   refine hRR D C s4 H3 ys I5 (by rw[hD];exact hCle) ?_ (let ⟨m,hm,_⟩:=I4.loc;⟨m,hm⟩) (q D d4.2.1)
   rw[aj (KJ hDC)]
   exact I4.free
  ·refine thn (T.item (cxC X N sc cl C s H fp) rfl rfl rfl hc i _ s3 σ3 H3 _ I3p (fpok fr3) st3 go) λr s4 ⟨u,hr,h4⟩=>?_
   subst hr
   refine thn h4 λ_ s5 ⟨x,H5,I5,r5,y5,st5,fr5⟩=>?_
   have I5':=I5.pinned (fpok fr5) (T.obj _ _ st5)
   refine thn (hg C _ s5 σ3 H5 x u _ I5' r5 (nx x H5 y5)) λ_ s6 ⟨σ6,H6,I6,q6⟩=>?_
   refine thn (ht C _ s6 σ6 H6 _ I6 q6) λb s7 ⟨H7,I7,q7⟩=>?_
   have itK:∀{s8:Shared}{H8:Hp},Inv (cxC X N sc cl C s H fp) (((X.pn++pins)++[(D,({ cls:=.type "list",data:=.seq its.toArray nn }:Obj))])++gZ fp s5.heap) σ6 H8 s8->tn (i+1) s8.heap/\∀b∈fp,H8 b=none:=λ{s8 H8} I8=>by
    refine⟨T.keep _ _ _ st5 λb hb o e=>(I8.pin (b,o) (JL _ (JL _ (bT hb e)))).1,λb hb=>?_⟩
    obtain⟨o,e,d⟩:=T.obj _ _ st5 b hb
    exact(I8.pin (b,o) (JL _ (JL _ (bT hb e)))).2.1
   cases b with
   | false =>
    have q7:NN σ6 ys H7:=by simpa using q7
    obtain⟨m',hm,w7⟩:=hN _ _ _ q7
    obtain⟨t7,f7⟩:=itK I7
    have d7:=I7.pin (D,_) (JL _ (Ka _ (JL _ (J9.mpr rfl))))
    show ∃m,m<n/\_
    exact⟨m',hm,i+1,σ6,H7,ys,its,I7.a9.a9,t7,f7,d7.2.1,⟨nn,d7.1⟩,rv3,w7⟩
   | true =>
    have q7:te σ6 H7 λy H4=>NN σ6 (ys++[y]) H4:=by simpa using q7
    show wpAny _ _ _ _ _ _
    refine thn (he C _ s7 σ6 H7 _ I7 q7) λyv s8 ⟨y,H8,I8,r8,q8⟩=>?_
    obtain⟨m',hm,w9⟩:=hN _ _ _ q8
    obtain⟨t8,f8⟩:=itK I8
    have d8:=I8.pin (D,_) (JL _ (Ka _ (JL _ (J9.mpr rfl))))
    refine wpAny_list_append_plain (hsz:=by rw[JO,<- rv3.length];exact hl) ⟨nn,d8.1⟩ λh9 pl9 sb9=>?_
    have I9:Inv (cxC X N sc cl C s H fp) (X.pn++pins) σ6 H8 { s8 with heap:=h9 }:=I8.a9.a9.turned (t':=s8.toks) (it:=D) (λb o hb e=>(sb9.2 b hb).trans e) d8.2.1 hDC (.inr hDle) (λx c e z=>?_) (λp hp z=>?_)
    ·refine⟨m',hm,i+1,σ6,H8,ys++[y],its++[yv],I9,T.keep _ _ _ t8 λb hb o e=>(sb9.2 b (below b (hfp b hb)).2).trans e,f8,d8.2.1,?_,rv3.append (.cons r8 .nil),w9⟩
     rw[<- OL]
     exact pl9
    ·obtain⟨v,q⟩:=I.cell x c (hcl1 _ _ e)
     exact absurd (JR q.lt (by rw[z];exact hDle)) (Kp _)
    ·have hp:p∈X.pn++pins:=hp
     exact absurd (JR (J2 (I.pin p hp).1) (by rw[z];exact hDle)) (Kp _)
 exact codeAny_compStart_list (loop _ rfl) (T.self _ _ _ _ _ st1 (loop _ rfl))
end
section
variable{X:Cx}{N:List Str}{k:Nat}{sc:Scope}{tg elt iter:Expr}{ifs:List Expr}{pos:Pos}{g:TG}{tt:TT}{te:TE}{wi:TI}
theorem dR{pins:List (Addr×Obj)}{σ:St}{H:Hp}{s:Shared}(I:Inv X pins σ H s)(S:bE X.N N k sc X.env.scope) :
  ∃cl,closureFor sc X.env=pure cl/\(∀x c,cl.lookup x=some c->X.env.cells.lookup x=some c)/\(∀x,(x,Ld)∈sc.names->∃c,cl.lookup x=some c) :=
 pb λx hx e=>I.ok.has x.1 (S.fr x hx e)
theorem Inv.letGo{pins:List (Addr×Obj)}{σ:St}{H H0:Hp}{s s0:Shared}{h':Heap}{C:Addr}(I0:Inv X pins σ H0 s0){σ':St}(I:Inv X pins σ' H s)(hC:s0.heap.objs.size<=C)(hn:H C=none)(sb:Le C s.heap h'):Inv X pins σ' H { s with heap:=h' } :=
 I.turned (t':=s.toks) (it:=C) (λb o hb e=>(sb.2 b hb).trans e) hn (Po (JR I0.lt hC)) (.inr (Kh I0.sz hC))
  (λx c e z=>by
   obtain⟨v,q⟩:=I0.cell x c e
   exact absurd (JR q.lt (by rw[z];exact hC)) (Kp _))
  (λp hp z=>absurd (JR (J2 (I0.pin p hp).1) (by rw[z];exact hC)) (Kp _))
theorem xt(hc:X.calm=true)(S:bE X.N N k sc X.env.scope)(hi:PI X tg iter wi)(hg:∀cl C s H fp,PG (cxC X N sc cl C s H fp) tg g)(ht:∀cl C s H fp,PF (cxC X N sc cl C s H fp) ifs tt)
  (he:∀cl C s H fp,PE (cxC X N sc cl C s H fp) elt te)(hs:∀x,foldedSetIterable iter X.env x=pure x:=by intro _;rfl):PE X (.ListComp elt [⟨tg,iter,ifs,0⟩] sc pos) (j2 k wi g tt te):=by
 intro pins s σ H Q I h
 obtain⟨cl,hclos,h1,h2⟩:=dR I S
 rw[eval_ListComp]
 refine wpAny_comprehension_free (use:=none) rfl hs hclos S.kind S.names (thn (hi pins s σ H _ I h) λv s1 q1=>thn q1 λitv s2 q2=>?_)
 obtain⟨it,fp,tn,J,H2,rfl,I2,T,st2,f2,B⟩:=q2
 refine jx (RR:=λacc C=>compPost (model X.prog X.w) X.A X.xe none (EP X pins σ Q) acc C) hc S h1 h2 I2 T st2 f2 B (λC=>hg cl C s2 H2 fp) (λC=>ht cl C s2 H2 fp) (λC=>he cl C s2 H2 fp) ?_
 intro D C s' H' ys I' hC hn hm q
 obtain⟨m,hm⟩:=hm
 exact⟨m,hm,λh' sb=>⟨.ref D,_,I2.letGo I' hC hn sb,rfl,q⟩⟩
theorem Ad{i:Nat}{x:Str}{px spos:Pos}(hc:X.calm=true)(S:bE X.N N k sc X.env.scope)(hN:X.N.Nodup)(hx:X.N[i]?=some x)(hl:X.env.scope.names.lookup x=some .local)
  (hsw:swapsWith (.ListComp elt [⟨tg,iter,ifs,0⟩] sc pos) (some (.Name x px)) spos.line X.env=pure true)(hi:PI X tg iter wi)(hg:∀cl C s H fp,PG (cxC X N sc cl C s H fp) tg g)(ht:∀cl C s H fp,PF (cxC X N sc cl C s H fp) ifs tt)
  (he:∀cl C s H fp,PE (cxC X N sc cl C s H fp) elt te)(hs:∀x,foldedSetIterable iter X.env x=pure x:=by intro _;rfl):PS X (.Assign [.Name x px] (.ListComp elt [⟨tg,iter,ifs,0⟩] sc pos) spos) (rM (j2 k wi g tt te) (qR i)):=by
 intro pins s σ H D0 I h
 obtain⟨cl,hclos,h1,h2⟩:=dR I S
 rw[exec_Assign_Name_used _ _ _ _ hsw]
 refine wpAny_bind (wpAny_standAt (wpAny_bind ?_))
 show wpAny _ X.A (do let _ <- comprehension (.ListComp elt [⟨tg,iter,ifs,0⟩] sc pos) sc X.env _ (newList []) false (eval iter X.env) (some (assign (.Name x px) X.env))) _ _ s
 refine wpAny_bind (thn (wpAny_comprehension_free (use:=some (assign (.Name x px) X.env)) (Q:=λ_ s'=>SP X pins D0 .next s') rfl hs hclos S.kind S.names
  (thn (hi pins s σ H _ I h) λv s1 q1=>thn q1 λitv s2 q2=>?_)) λ_ s' hq=>wpAny_pure (wpAny_pure hq))
 obtain⟨it,fp,tn,J,H2,rfl,I2,T,st2,f2,B⟩:=q2
 refine jx (RR:=λacc C=>compPost (model X.prog X.w) X.A X.xe (some (assign (.Name x px) X.env)) (λ_ s'=>SP X pins D0 .next s') acc C) hc S h1 h2 I2 T st2 f2 B (λC=>hg cl C s2 H2 fp) (λC=>ht cl C s2 H2 fp) (λC=>he cl C s2 H2 fp) ?_
 intro D C s' H' ys I' hC hn hm q
 obtain⟨m,hm⟩:=hm
 show wpAny _ X.A (assign (.Name x px) X.env (.ref D)) _ _ _
 refine wpAny_assign_Name (hU I' hN hx (.inl hl) (v:=.ref D) rfl (λs'' I'' ch=>?_) (.inr hl))
 obtain⟨a,sb,ha⟩:=ch
 refine⟨m,hm.sameBut sb ?_,λh' sb'=>⟨_,_,I2.letGo I'' hC hn sb',q⟩⟩
 rintro rfl
 rcases ha with z|z
 ·exact absurd (JR I2.lt (by rw[<- z];exact hC)) (Kp _)
 ·obtain⟨v,q⟩:=I2.cell x _ z
  exact absurd (JR q.lt hC) (Kp _)
end
end L2
namespace L2
open PySem PySem.Spec PyProof.Rows
section
variable{prog:Program}{w:World}{A:Around}{E:Value->Shared->Prop}
theorem j9{it l:Addr}{items:Array Value}(hne:l≠it):∀(n i:Nat)(s:Shared)(Q:List Value->Shared->Prop),s.heap.IsListIter it l i->s.heap.IsList l items->i+n<=items.size ->
  (∀h',h'.IsListIter it l (i+n)->Le it s.heap h'->Q ((items.toList.drop i).take n) { s with heap:=h' })->wpAny (model prog w) A (draw (.ref it) n) Q E s
 | 0,i,s,Q,hit,_,_,hQ=>by
  show wpAny _ _ (pure []) Q E s
  exact wpAny_pure (by simpa using hQ s.heap hit (PQ ..))
 | n+1,i,s,Q,hit,ht,hle,hQ=>by
  have hlt:i<items.size:=by omega
  show wpAny _ _ (pyNext (.ref it) >>= _) Q E s
  refine wpAny_bind (wpAny_pyNext_list_item hit ht (x:=items[i]) (by simp[hlt]) λh₁ hit₁ hs₁=>?_)
  refine wpAny_bind (wpAny_holding (j9 hne n (i+1) _ _ hit₁ (ht.extBut hs₁.extBut hne) (by omega) λh₂ hit₂ hs₂=>wpAny_pure ?_))
  have hd:items.toList.drop i=items[i]::items.toList.drop (i+1):=by simp[KG,hlt]
  have:=hQ h₂ (by rw[show i+(n+1)=i+1+n by omega];exact hit₂) (hs₁.trans hs₂)
  rw[hd,List.take_succ_cons] at this
  exact this
theorem hG{s:Shared}{l:Addr}{items:Array Value}{Q:List Value->Shared->Prop}(hh:A.handled=none)(ht:s.heap.IsList l items)
  (hQ:∀h',Heap.ExtBut s.heap.objs.size s.heap h'->Q items.toList { s with heap:=h' }):wpAny (model prog w) A (unpackItems (.ref l) items.size none) Q E s:=by
 have hlt:l≠s.heap.objs.size:=by obtain⟨o,ho,_⟩:=ht;exact Kf (J2 ho)
 have htp:∀ob,(s.heap.push ob).IsList l items:=λob=>by obtain⟨o,ho,r⟩:=ht;exact⟨o,JM _ ho,r⟩
 unfold unpackItems
 refine wpAny_bind ?_
 ·unfold notIterableAtAll
  refine wpAny_bind (wpAny_specialOf ht.typeIs slot_list_iter.lookup ?_)
  refine wpAny_pure ?_
  simp only[LZ,if_false]
  refine wpAny_bind (wpAny_holding (wpAny_pyIter_list ht ?_))
  refine wpAny_bind (wpAny_holding (j9 hlt items.size 0 _ _ ⟨_,Kb _ rfl,rfl,rfl⟩ (htp _) (by omega) λh₁ hit₁ hs₁=>?_))
  have hall:List.take items.size (NI 0 items.toList)=items.toList:=by
   rw[Nq];exact NS (by simp)
  rw[hall]
  rw[if_neg (by simp)]
  have ht₁:h₁.IsList l items:=(htp _).extBut hs₁.extBut hlt
  refine wpAny_bind (wpAny_holding (wpAny_pyNext_list_end hh hit₁ ht₁ (by simp) λh₂ he₂=>?_))
  simp only[Option.isSome_none,LZ,if_false]
  refine wpAny_pure (hQ h₂ λb o hb e=>he₂ b o hb (hs₁.extBut b o hb (JM _ e)))
end
section
variable{X:Cx}{pos:Pos}
noncomputable def Jm(K:JH)(n:Nat)(t:TGs):TG:=λv σ H Q=>∃a xs,v=.ref a/\SqL K H a xs/\xs.length=n/\t xs σ H Q
theorem Bh{es:List Expr}{k:Nat}{t:TGs}{n:Nat}(hc:X.calm=true)(h:PGs X es t)
  (hn:(assignEach es X.env).length=n:=by rfl)(hst:(assignEach es X.env).findIdx? (·.1)=none:=by rfl):PG X (.Tuple es k pos) (Jm X.K n t):=by
 intro pins s σ H v u Q I r hw
 obtain⟨a,xs,e1,hq,hl,hw⟩:=hw
 subst e1
 cases r
 obtain⟨its,rv,ht,hz⟩:=I.list hq
 rw[assign_Tuple]
 refine wpAny_bind (wpAny_standAt ?_)
 unfold unpack
 have e:(assignEach es X.env).length=its.toArray.size:=by rw[hn,<- hl,rv.length,JO]
 rw[e,hst]
 refine wpAny_bind (wpAny_holding (hG (I.ok.hd hc) ht.isList λh' hx=>?_))
 have I1:Inv X pins σ H { s with heap:=h' }:=I.kept (t':=s.toks) λb o e=>hx b o (Kf (J2 e)) e
 exact h pins _ σ H xs _ Q I1 (by simpa using rv) hw
end
theorem jw{env:Env}{elt:Expr}{gs:List Comprehension}{sc:Scope}{pos px:Pos}{x:Str}{line:Nat}(h1:env.blockKind=.function)(h2:env.kindOf x=some .local)(h3:(px.line==pos.line)=true)
  (h4:(sc.names.any λp=>p.1==x&&(p.2==.local || p.2==.cell))=false):swapsWith (.ListComp elt gs sc pos) (some (.Name x px)) line env=pure true:=by
 unfold swapsWith
 show (pure (env.blockKind==.function&&env.kindOf x==some .local&&px.line==pos.line&&!(sc.names.any λp=>p.1==x&&(p.2==.local || p.2==.cell))):Sem Bool)=pure true
 rw[h1,h2,h3,h4]
 rfl
end L2
namespace L2
open PySem PySem.Spec PyProof.Rows PySem.W
section
variable{X:Cx}{tg:Expr}
theorem Inv.ly{pins:List (Addr×Obj)}{σ:St}{H:Hp}{s:Shared}{a:Addr}(I:Inv X pins σ H s)(hf:∀b o,s.heap.get? b=some o->b≠a):H a=none:=by
 cases e:H a with
 | none=>rfl
 | some u =>
  obtain⟨ob,z⟩:=(I.hok a u e).is
  exact absurd rfl (hf a ob z)
theorem Inv.AO{pins:List (Addr×Obj)}{σ:St}{H:Hp}{s:Shared}{a:Addr}{o:HO}{t':Nat}{h':Heap}(I:Inv X pins σ H s)(k:∀b u,s.heap.get? b=some u->h'.get? b=some u)(hf:∀b o,s.heap.get? b=some o->b≠a)
  (new:aK X.prog X.w (upd H a o) h' a o):Inv X pins σ (upd H a o) { s with heap:=h',toks:=t' }:=by
 have hn:=I.ly hf
 refine I.un ⟨λb u e _ _ _=>k b u e,λb u e _ _ _=>⟨u.slots,k b u e⟩,λb u e n _=>by rw[aj (hf b u e)];exact n,λb u e _=>⟨u,k b u e⟩,λb xs e=>by rw[aj (aB e hn)];exact e,λb u v e=>by rw[aj (aB e hn)];exact e,
  λb ps e=>⟨#[],by rw[aj (aB e hn),e];simp⟩⟩ λb u e=>?_
 by_cases hb:b=a
 ·subst hb;rw[aI] at e;cases e;exact new
 ·rw[aj hb] at e
  exact(I.hok b u e).fZ (λc v _ q=>k c v q) (λc q=>by rw[aj (aB q hn)];exact q) λc xs q=>by rw[aj (aB q hn)];exact q
theorem oY{ss:List Str}:∀{us:List Value},Vals (ss.map V.str) us->StrsAre us ss:=by
 induction ss with
 | nil=>intro us r;rw[J7] at r;cases r;exact .nil
 | cons n ns ih =>
  intro us r
  rw[JU] at r
  cases r with
  | cons r1 r2 =>
   obtain⟨t,e⟩:=r1
   subst e
   exact .cons n t (ih r2)
theorem dM:∀{ss:List Str}{us:List Value},StrsAre us ss->Vals (ss.map V.str) us
 | _,_,.nil=>.nil
 | _,_,.cons y t r=>.cons ⟨t,rfl⟩ (dM r)
noncomputable def iB(K:JH):List V->Hp->VK->Prop:=λvs H Q=>∃a ss,vs=[.ref a]/\(SqL K H a (ss.map V.str)\/∃kvs,H a=some (.dK kvs)/\kvs.map (·.1)=ss.map LA)/\ss.length<64 /\
 ∀r ss',H r=none->ss'.Perm ss->sortedS ss'=true->Q (.ref r) (upd H r (.lst (ss'.map V.str)))
theorem gq:64<=sizeLine:=by rw[sizeLine_eq];decide
theorem j6{P:Program}{w:World}{ss:List Str}{vs:List (Key×Value)}{acc:Array Value}(e:vs.map (·.1)=ss.map LA)
  (h:ItemsOf (λi v=>∃k x,vs[i]?=some (k,x)/\(aG P w).is k v=true) acc vs.length):StrsAre acc.toList ss:=by
 obtain⟨hs,hi⟩:=h
 have hl:ss.length=vs.length:=by have:=congrArg LN e;simpa using this.symm
 have key:∀(j:Nat)(v:Value),acc.toList[j]?=some v->∃(x:Str) (t:Tok),ss[j]?=some x/\v=MX x t:=λj v hv=>by
  obtain⟨k,x,hx,hk⟩:=hi j v (by rw[<- NU];exact hv)
  have hk:hW k v=true:=hk
  have e2:(vs.map (·.1))[j]?=some k:=by rw[Kr,hx];rfl
  rw[e,Kr] at e2
  cases ez:ss[j]? with
  | none=>rw[ez] at e2;cases e2
  | some z =>
   rw[ez] at e2
   have e3:k=LA z:=(JV e2).symm
   subst e3
   rcases aO hk with ⟨i,t,q,_⟩|⟨y,t,q,rfl⟩
   ·cases q
   ·cases q
    exact⟨z,t,rfl,rfl⟩
 have hl2:acc.toList.length=ss.length:=by rw[Kv,hs,hl]
 clear hs hi e hl
 generalize acc.toList=l at key hl2
 induction l generalizing ss with
 | nil =>
  cases ss with
  | nil=>exact .nil
  | cons a b=>cases hl2
 | cons v l ih =>
  cases ss with
  | nil=>cases hl2
  | cons z ss =>
   obtain⟨x,t,hx,rfl⟩:=key 0 v rfl
   have hx:z=x:=JV hx
   subst hx
   exact .cons z t (ih (λj u hu=>key (j+1) u hu) (by simpa using hl2))
theorem lC(hc:X.calm=true):aY X (.builtin "sorted") (iB X.K):=by
 intro pins s σ H vs us Q I rv h
 obtain⟨a,ss,rfl,hq,h64,q⟩:=h
 obtain⟨u,rfl,ru⟩:=rv.one
 cases ru
 rcases hq with hq|⟨kvs,hd,ek⟩
 ·obtain⟨its,r,p,hz⟩:=I.list hq
  have hS:=oY r
  have hlen:its.length=ss.length:=by have:=r.length;simpa using this.symm
  refine sorted_strs p.isList hS (by omega) λout ss' a1 a2 a3=>?_
  obtain⟨e,he⟩:=sortedAll_at s.heap its out
  refine⟨.ref _,_,I.laid (t':=s.toks) (o:=.lst (ss'.map V.str)) (λb o z=>sortedAll_old z) (LP _) ⟨?_,out.toList,e,dM a1,by simpa using he⟩,rfl,q _ ss' (I.hok.fresh (LP _)) a2 a3⟩
  rw[Ke,a2.length_eq]
  exact Kh (KU h64) gq
 ·obtain⟨hz,lo,vs,kv,hD⟩:=nQ I.hok hd
  obtain⟨ep,hat⟩:=hD.dictAt
  have ek2:vs.map (·.1)=ss.map LA:=by rw[<- kv.keys];exact ek
  have hlen:vs.length=ss.length:=by have:=congrArg LN ek2;simpa using this
  refine Nr kind_sorted plain_sorted entry_sorted (args_sorted1 _) ?_
  unfold Builtin.«sorted»
  refine wpAny_bind (m:=checkCount "sorted" 1 1 _) (wpAny_pure ?_)
  refine wpAny_bind (kdu_collect (A:=X.A.in1) (kdl_dict (knd:=aG X.prog X.w) (kvs:=vs) (ep:=ep) lo) (I.ok.hd hc) hat (by have:=gq;omega) λh' tk acc hk hacc=>?_)
  have hS:=j6 ek2 hacc
  have hl2:acc.toList.length=ss.length:=by rw[Kv,hacc.1,hlen]
  refine wpAny_bind (wpAny_newList ?_ (by have:=gq;omega))
  have hoL:(h'.push (seqObj "list" acc.toList.toArray 0)).get? h'.objs.size=some (seqObj "list" acc.toList.toArray 0):=Kb _ rfl
  refine wpAny_bind (wpAny_holding (wpAny_call_entry slot_list_sort ⟨_,hoL,rfl⟩ entry_list_sort (list_sort_treeK strKind_oneLt hoL hS.keysOf (λv₁ v₂ rest e=>keyKind_strs (by rw[<- e];exact hS)) (by omega) λst' hp hs=>⟨_,rfl,?_⟩) (args_list_sort _)))
  obtain⟨ss',b1,b2,b3⟩:=sorted_out_str hS hp hs
  obtain⟨e,he⟩:=sortedHeap_at (vs:=acc.toList) (n:=0) (out:=(arrOf st').map (·.2)) hoL
  have hf:∀b o,s.heap.get? b=some o->b≠h'.objs.size:=λb o z=>Kf (J2 (hk b o z))
  refine wpAny_pure ⟨_,rfl,.ref _,_,I.AO (t':=tk) (a:=h'.objs.size) (o:=.lst (ss'.map V.str)) (λb o z=>?_) hf ⟨?_,((arrOf st').map (·.2)).toList,e,dM b1,?_⟩,rfl,q _ ss' (I.ly hf) b2 b3⟩
  ·rw[sortedHeap_old (hf b o z) (by rw[size_push'];exact Mb (J2 (hk b o z)))]
   exact JM _ (hk b o z)
  ·rw[Ke,b2.length_eq]
   exact Kh (KU h64) gq
  ·rw[N8]
   exact he
noncomputable def Jq:V->Option Int->Option Int->Hp->VK->Prop:=λx lo hi H Q=>∃z,x=.str z/\z.length<=sizeLine/\Q (.str (Mz z lo hi)) H
theorem nT{v:Value}{o:Option Int}(p:IsPart v o):∃l:Option (Int×Tok),v=partValue l/\l.map (·.1)=o:=by
 cases p with
 | none=>exact⟨none,rfl,rfl⟩
 | int i t=>exact⟨some (i,t),rfl,rfl⟩
theorem Df:SlR X Jq:=by
 intro pins s σ H x v vl vu lo hi sl Q I rx hs pl pu h
 obtain⟨z,rfl,hz,q⟩:=h
 obtain⟨t,rfl⟩:=rx
 obtain⟨l,rfl,rfl⟩:=nT pl
 obtain⟨u,rfl,rfl⟩:=nT pu
 refine⟨"str",_,F.slot_str_getitem.lookup,typeIs_str _ _ _,wpAny_getItem_str_slice (l:=l) (u:=u) (st:=none) hs rfl ?_⟩
 exact post_val_or_str ⟨Kh (Pw z _ _) hz,λt' k=>⟨.str _,H,I.tok _,⟨t',rfl⟩,q⟩⟩
noncomputable def sL(ss:List Str):Nat:=(ss.map (λz=>z.length)).sum
end
end L2
namespace L2
open PySem PySem.Spec PyProof.Rows PySem.W
section
variable{X:Cx}{pos:Pos}
noncomputable abbrev TJ:=St->Hp->(List Str->Hp->Prop)->Prop
def PJ(X:Cx)(es:List Expr)(t:TJ):Prop:=∀(out:Str)(pins:List (Addr×Obj))(s:Shared)(σ:St)(H:Hp)(Q:VK),out.length+1000*es.length<=sizeLine->Inv X pins σ H s ->
 t σ H (λzs H'=>Q (.str (zs.foldl (λa b=>a++b) out)) H')->wpAny (model X.prog X.w) X.A (joinParts out (evalEach es X.env)) (EP X pins σ Q) X.xe s
theorem len_app(x y:Str):(x++y).length=x.length+y.length:=by
 show (x.cps++y.cps).size=x.cps.size+y.cps.size
 simp
theorem Eu:PJ X [] (λ_ H R=>R [] H):=λout pins s σ H Q hl I h=>joinParts_nil (show EP X pins σ Q _ _ from ⟨.str out,H,I.tok _,⟨_,rfl⟩,h⟩) (by simpa using hl)
noncomputable def tJ(te:TE)(t:TJ):TJ:=λσ H R=>te σ H λx H1=>∃z,x=.str z/\z.length<=1000/\t σ H1 λzs H2=>R (z::zs) H2
theorem yD{e:Expr}{es:List Expr}{te:TE}{t:TJ}(h1:PE X e te)(h2:PJ X es t)(hs:evalEach (e::es) X.env=eval e X.env::evalEach es X.env:=by rfl):PJ X (e::es) (tJ te t):=by
 intro out pins s σ H Q hl I h
 rw[hs]
 refine joinParts_cons (thn (h1 pins s σ H _ I h) λv s1 ⟨x,H1,I1,r1,q1⟩=>?_)
 obtain⟨z,rfl,hz,q⟩:=q1
 obtain⟨tk,rfl⟩:=r1
 rw[JZ] at hl
 have e1:=len_app out z
 exact⟨by omega,h2 (out++z) pins s1 σ H1 Q (by omega) I1 q⟩
noncomputable def tFv(te:TE):TE:=λσ H Q=>te σ H λx H1=>∃z,x=.str z/\z.length<=1000/\Q (.str z) H1
theorem GV{e:Expr}{te:TE}(h1:PE X e te):PE X (.FormattedValue e (-1) none pos) (tFv te):=by
 intro pins s σ H Q I h
 refine FormattedValue_plain (thn (h1 pins s σ H _ I h) λv s1 ⟨x,H1,I1,r1,q1⟩=>?_)
 obtain⟨z,rfl,hz,q⟩:=q1
 obtain⟨tk,rfl⟩:=r1
 have l1:1000<=sizeLine:=by rw[sizeLine_eq];decide
 exact formatField_str (λt' k=>⟨.str z,H1,I1.tok _,⟨t',rfl⟩,q⟩) (Kh hz l1)
noncomputable def wL(zs:List Str):Str:=zs.foldl (λa b=>a++b) M8
noncomputable def Ae(t:TJ):TE:=λσ H Q=>t σ H λzs H1=>Q (.str (wL zs)) H1
theorem FK{v1 v2:Expr}{es:List Expr}{t:TJ}(h:PJ X (v1::v2::es) t)(hl:(v1::v2::es).length<=100:=by decide)(hs:evalEach (v1::v2::es) X.env=eval v1 X.env::eval v2 X.env::evalEach es X.env:=by rfl):PE X (.JoinedStr (v1::v2::es) pos) (Ae t):=by
 intro pins s σ H Q I hw
 refine JoinedStr_many ?_
 rw[<- hs]
 refine h M8 pins s σ H Q ?_ I hw
 have:200000<=sizeLine:=by rw[sizeLine_eq];decide
 show 0+1000*_<=_
 omega
end
end L2
namespace L2
open PySem PySem.Spec PyProof.Rows PySem.W
section
variable{X:Cx}{pins:List (Addr×Obj)}{σ:St}{H:Hp}{s:Shared}{d:Addr}{ob:Obj}{kvs:List (Key×V)}
theorem Inv.swap{o o':HO}(I:Inv X pins σ H s)(e:H d=some o)(n1:∀xs,o≠.tup xs)(n2:∀y,o≠.own y)(n3:∀ps,o≠.tbl ps)(h0:∀u v,X.H₀ d≠some (.frz u v))(new:aK X.prog X.w (upd H d o') s.heap d o'):Inv X pins σ (upd H d o') s:=by
 have nd:∀b,H b=none->b≠d:=λb hb z=>by rw[z,e] at hb;cases hb
 refine⟨I.ok,I.os,I.bare,⟨I.base.keep,I.base.slot,λb u q n hx=>?_,I.base.there,λb xs q=>?_,λb u v q=>?_,λb ps q=>?_⟩,I.loc,I.cell,?_,λx c q=>?_,λp hp=>?_,λb u q=>?_,I.len⟩
 ·have:=I.base.free b u q n hx
  rw[aj (nd b this)];exact this
 ·have:=I.base.tups b xs q
  rw[aj (λz=>by rw[z,e] at this;exact n1 _ (JV this))];exact this
 ·have:=I.base.frzs b u v q
  rw[aj (λz=>by rw[z] at q;exact h0 _ _ q)];exact this
 ·obtain⟨more,this⟩:=I.base.tbls b ps q
  exact⟨more,by rw[aj (λz=>by rw[z,e] at this;exact n3 _ (JV this))];exact this⟩
 ·rw[aj (nd _ I.free)];exact I.free
 ·have:=I.freeC x c q
  rw[aj (nd _ this)];exact this
 ·obtain⟨q1,q2,q3⟩:=I.pin p hp
  exact⟨q1,by rw[aj (nd _ q2)];exact q2,q3⟩
 ·by_cases hb:b=d
  ·subst hb
   rw[aI] at q
   cases q
   exact new
  ·rw[aj hb] at q
   refine(I.hok b u q).fZ (λ_ _ _ z=>z) (λc z=>?_) λc xs z=>?_
   ·rw[aj (λy=>by rw[y,e] at z;exact n2 _ (JV z))];exact z
   ·rw[aj (λy=>by rw[y,e] at z;exact n1 _ (JV z))];exact z
theorem Inv.freeze(I:Inv X pins σ H s)(e:H d=some (.dK kvs)):(∀u v,X.H₀ d≠some (.frz u v))/\∃ob,s.heap.get? d=some ob/\Inv X pins σ (upd H d (.frz ob (.dK kvs))) s:=by
 have h0:∀u v,X.H₀ d≠some (.frz u v):=λu v z=>by
  have:=I.base.frzs d u v z
  rw[e] at this;cases this
 obtain⟨ob,hob⟩:=(I.hok d _ e).is
 exact⟨h0,ob,hob,I.swap e (λ_ z=>by cases z) (λ_ z=>by cases z) (λ_ z=>by cases z) h0 ⟨hob,I.hok d _ e⟩⟩
theorem Inv.oD(I:Inv X pins σ H s)(e:H d=some (.frz ob (.dK kvs)))(h0:∀u v,X.H₀ d≠some (.frz u v)):Inv X pins σ (upd H d (.dK kvs)) s :=
 I.swap e (λ_ z=>by cases z) (λ_ z=>by cases z) (λ_ z=>by cases z) h0 (I.hok d _ e).2
end
noncomputable def Itk(d:Addr)(ob:Obj)(kvs:List (Key×V)):It :=
 ⟨λi H=>H d=some (.frz ob (.dK kvs))/\i<kvs.length,λi H x H'=>H'=H/\∃p,kvs[i]?=some p/\x=kV p.1,λi H=>H d=some (.frz ob (.dK kvs))/\kvs.length<=i⟩
theorem Al{P:Program}{w:World}{k:Key}{v:Value}(h:(aG P w).is k v=true):RelV (kV k) v:=by
 have h:hW k v=true:=h
 rcases aO h with ⟨i,t,rfl,rfl⟩|⟨y,t,rfl,rfl⟩
 ·exact⟨t,rfl⟩
 ·exact⟨t,rfl⟩
theorem ke{P:Program}{w:World}{K:JH}{x:Str}{px:Pos}{d it:Addr}{ob:Obj}{kvs:List (Key×V)}{vs:List (Key×Value)}{ep:Nat}(kv:KV kvs vs)
  (hD:∀h:Heap,h.get? d=some ob->h.DictAt (aG P w) d vs ep):Turn P w K (.Name x px) (Itk d ob kvs) [it] it (λi h=>h.IsKeyIter it d i vs.length ep) where
 mem:=by simp
 obj:=λi h st b hb=>by
  rw[J9.mp hb]
  obtain⟨o,e,c,dt⟩:=st
  exact⟨o,e,λv z=>by rw[dt] at z;cases z⟩
 keep:=λi h h' st k=>by
  obtain⟨o,e,r⟩:=st
  exact⟨o,k it (by simp) o e,r⟩
 item:=by
  intro X hP hw hK hc i pins s σ H E I hf st hg
  subst hP hw hK
  obtain⟨e,hi⟩:=hg
  obtain⟨f0,f1,f2,f3,f4,f5⟩:=hf it (by simp)
  have hl:kvs.length=vs.length:=by have:=congrArg LN kv.keys;simpa using this
  have hob:=(I.hok d _ e).1
  obtain⟨⟨k,v⟩,hx⟩:∃p,vs[i]?=some p:=⟨vs[i]'(by omega),by simp[show i<vs.length by omega]⟩
  refine wpAny_pyNext_dict_item st (hD _ hob) hx λkey h' hkey st' sb=>?_
  have I1:Inv X pins σ H { s with heap:=h' }:=I.turned (t':=s.toks) (λb o hb e=>(sb.2 b hb).trans e) f0 f1 f3 f4 f5
  refine⟨key,rfl,wpAny_pure ⟨kV k,H,I1,Al hkey,⟨rfl,?_⟩,st',λb hb=>(hf b hb).1⟩⟩
  have e2:(kvs.map (·.1))[i]?=some k:=by rw[kv.keys,Kr,hx];rfl
  rw[Kr] at e2
  cases ez:kvs[i]? with
  | none=>rw[ez] at e2;cases e2
  | some p=>rw[ez] at e2;exact⟨p,rfl,by rw[<- JV e2]⟩
 done:=by
  intro X hP hw hK hc i pins s σ H E I hf st hg
  subst hP hw hK
  obtain⟨e,hi⟩:=hg
  obtain⟨f0,f1,f2,f3,f4,f5⟩:=hf it (by simp)
  have hl:kvs.length=vs.length:=by have:=congrArg LN kv.keys;simpa using this
  exact wpAny_pyNext_dict_end (I.ok.hd hc) st (hD _ (I.hok d _ e).1) (by simp;omega) λh' eb=>⟨rfl,I.turned (t':=s.toks) (λb o hb e=>eb b o hb e) f0 f1 f3 f4 f5⟩
 self:=λ_ _ _ _ _ st h=>wpAny_pyIter_keyiter st h
section
variable{X:Cx}
noncomputable def GG(te:TE):TI:=λσ H R=>te σ H λx H1=>∃d kvs,x=.ref d/\H1 d=some (.dK kvs)/\∀ob,R (Itk d ob kvs) (upd H1 d (.frz ob (.dK kvs)))
theorem yR{l:Expr}{te:TE}{x:Str}{px:Pos}(hl:PE X l te):PI X (.Name x px) l (GG te):=by
 intro pins s σ H R I h
 refine thn (hl pins s σ H _ I h) λv s1 ⟨y,H1,I1,r1,q1⟩=>?_
 obtain⟨d,kvs,rfl,hd,q⟩:=q1
 cases r1
 obtain⟨hz,lo,vs,kv,hD⟩:=nQ I1.hok hd
 obtain⟨ep,hat⟩:=hD.dictAt
 obtain⟨h0,ob,hob,I2⟩:=I1.freeze hd
 refine wpAny_pyIter_dict lo hat ?_
 refine⟨s1.heap.objs.size,[s1.heap.objs.size],_,_,_,rfl,I2.kept (t':=s1.toks) λb o e=>JM _ e,ke (it:=s1.heap.objs.size) (vs:=vs) (ep:=ep) kv (λh e=>?_),⟨_,Kb _ rfl,rfl,rfl⟩,λb hb=>?_,q ob⟩
 ·obtain⟨o,es,e1,r⟩:=hat
  rw[hob] at e1
  cases e1
  exact⟨ob,es,e,r⟩
 ·rw[J9.mp hb]
  exact I2.rQ (J1 _) I2.fresh
noncomputable def Ends.oD(D:Ends)(d:Addr)(kvs:List (Key×V)):Ends where
 nx:=λσ H=>(∃ob,H d=some (.frz ob (.dK kvs)))/\D.nx σ (upd H d (.dK kvs))
 rt:=λv H=>(∃ob,H d=some (.frz ob (.dK kvs)))/\D.rt v (upd H d (.dK kvs))
 bk:=λσ H=>(∃ob,H d=some (.frz ob (.dK kvs)))/\D.bk σ (upd H d (.dK kvs))
 ct:=λσ H=>(∃ob,H d=some (.frz ob (.dK kvs)))/\D.ct σ (upd H d (.dK kvs))
noncomputable def Fu(t:TS):TS:=λD σ H=>∃d kvs,H d=some (.dK kvs)/\t (D.oD d kvs) σ H
theorem xB{st:Stmt}{t:TS}(h:PS X st t):PS X st (Fu t):=by
 intro pins s σ H D I hw
 obtain⟨d,kvs,e,hw⟩:=hw
 have h0:=(I.freeze e).1
 refine thn (h pins s σ H _ I hw) λf s' q=>?_
 cases f with
 | next=>obtain⟨σ',H',I',⟨ob,e'⟩,q⟩:=q;exact⟨σ',_,I'.oD e' h0,q⟩
 | brk=>obtain⟨σ',H',I',⟨ob,e'⟩,q⟩:=q;exact⟨σ',_,I'.oD e' h0,q⟩
 | cont=>obtain⟨σ',H',I',⟨ob,e'⟩,q⟩:=q;exact⟨σ',_,I'.oD e' h0,q⟩
 | ret u=>obtain⟨v,σ',H',I',r,⟨ob,e'⟩,q⟩:=q;exact⟨v,σ',_,I'.oD e' h0,r,q⟩
end
end L2
namespace L2
open PySem PySem.Spec PyProof.Rows
noncomputable def Its(x:Str):It:=⟨λi _=>i<x.cps.size,λi H v H'=>H'=H/\∃c,x.cps[i]?=some c/\v=.str ⟨#[c]⟩,λi _=>x.cps.size<=i⟩
theorem oM{P:Program}{w:World}{K:JH}{tg:Expr}(it:Addr)(x:Str)(t:Tok):Turn P w K tg (Its x) [it] it (λi h=>h.IsStrIter it "str_ascii_iterator" x t i) where
 mem:=by simp
 obj:=λi h st b hb=>by
  have e:b=it:=by simpa using hb
  subst e
  obtain⟨o,e,c,d⟩:=st
  exact⟨o,e,λv z=>by rw[d] at z;cases z⟩
 keep:=λi h h' st k=>by
  obtain⟨o,e,r⟩:=st
  exact⟨o,k it (by simp) o e,r⟩
 item:=by
  intro X hP hw hK hc i pins s σ H E I hf st hg
  subst hP hw hK
  have hg:i<x.cps.size:=hg
  obtain⟨f0,f1,f2,f3,f4,f5⟩:=hf it (by simp)
  refine wpAny_pyNext_ascii_item st (c:=x.cps[i]) (by simp[hg]) λh' st' sb=>?_
  have I1:Inv X pins σ H { s with heap:=h',toks:=s.toks+1 }:=I.turned (t':=s.toks+1) (λb o hb e=>(sb.2 b hb).trans e) f0 f1 f3 f4 f5
  obtain⟨o,e,c,d⟩:=id st'
  exact⟨_,rfl,my (s:={ s with heap:=h',toks:=s.toks+1 }) e c d (by decide) ⟨.str ⟨#[x.cps[i]]⟩,H,I1,⟨_,rfl⟩,⟨rfl,_,by simp[hg],rfl⟩,st',λb hb=>(hf b hb).1⟩⟩
 done:=by
  intro X hP hw hK hc i pins s σ H E I hf st hg
  subst hP hw hK
  have hg:x.cps.size<=i:=hg
  obtain⟨f0,f1,f2,f3,f4,f5⟩:=hf it (by simp)
  exact wpAny_pyNext_ascii_end (I.ok.hd hc) st (by simp;omega) λh' eb=>⟨rfl,I.turned (t':=s.toks) (λb o hb e=>eb b o hb e) f0 f1 f3 f4 f5⟩
 self:=λ_ _ _ _ _ st h=>wpAny_pyIter_striter_ascii st h
theorem rA{P:Program}{w:World}{K:JH}{tg:Expr}(it:Addr)(x:Str)(t:Tok):Turn P w K tg (Its x) [it] it (λi h=>h.IsStrIter it "str_iterator" x t i) where
 mem:=by simp
 obj:=λi h st b hb=>by
  have e:b=it:=by simpa using hb
  subst e
  obtain⟨o,e,c,d⟩:=st
  exact⟨o,e,λv z=>by rw[d] at z;cases z⟩
 keep:=λi h h' st k=>by
  obtain⟨o,e,r⟩:=st
  exact⟨o,k it (by simp) o e,r⟩
 item:=by
  intro X hP hw hK hc i pins s σ H E I hf st hg
  subst hP hw hK
  have hg:i<x.cps.size:=hg
  obtain⟨f0,f1,f2,f3,f4,f5⟩:=hf it (by simp)
  refine wpAny_pyNext_wide_item st (c:=x.cps[i]) (by simp[hg]) λh' st' sb=>?_
  have I1:Inv X pins σ H { s with heap:=h',toks:=s.toks+1 }:=I.turned (t':=s.toks+1) (λb o hb e=>(sb.2 b hb).trans e) f0 f1 f3 f4 f5
  obtain⟨o,e,c,d⟩:=id st'
  exact⟨_,rfl,my (s:={ s with heap:=h',toks:=s.toks+1 }) e c d (by decide) ⟨.str ⟨#[x.cps[i]]⟩,H,I1,⟨_,rfl⟩,⟨rfl,_,by simp[hg],rfl⟩,st',λb hb=>(hf b hb).1⟩⟩
 done:=by
  intro X hP hw hK hc i pins s σ H E I hf st hg
  subst hP hw hK
  have hg:x.cps.size<=i:=hg
  obtain⟨f0,f1,f2,f3,f4,f5⟩:=hf it (by simp)
  exact wpAny_pyNext_wide_end (I.ok.hd hc) st (by simp;omega) λh' eb=>⟨rfl,I.turned (t':=s.toks) (λb o hb e=>eb b o hb e) f0 f1 f3 f4 f5⟩
 self:=λ_ _ _ _ _ st h=>wpAny_pyIter_striter_wide st h
section
variable{X:Cx}{tg:Expr}
noncomputable def Ia(K:JH)(tl:TE):TI:=λσ H R=>tl σ H λx H1=>(∃a,x=.ref a/\(((∃xs,SqL K H1 a xs)/\R (Itl K a) H1)\/((∃xs,SqT K H1 a xs)/\R (Itt K a) H1)))\/∃t,x=.str t/\R (Its t) H1
theorem xu{l:Expr}{tl:TE}(hl:PE X l tl):PI X tg l (Ia X.K tl):=by
 intro pins s σ H R I h
 refine thn (hl pins s σ H _ I h) λv s1 ⟨x,H1,I1,r1,q1⟩=>?_
 rcases q1 with ⟨a,e,⟨⟨xs,hq⟩,q⟩|⟨⟨xs,hq⟩,q⟩⟩|⟨t,e,q⟩
 ·subst e
  cases r1
  obtain⟨its,rv,p,hz⟩:=I1.list hq
  refine wpAny_pyIter_list p.isList ?_
  refine⟨s1.heap.objs.size,[s1.heap.objs.size],_,_,H1,rfl,I1.kept (t':=s1.toks) λb o e=>JM _ e,sd a _,⟨_,Kb _ rfl,rfl,rfl⟩,λb hb=>?_,q⟩
  have e:b=s1.heap.objs.size:=by simpa using hb
  subst e
  exact I1.rQ (J1 _) (I1.hok.fresh (J1 _))
 ·subst e
  cases r1
  obtain⟨its,rv,p,hz⟩:=I1.tuple hq
  refine wpAny_pyIter_tuple (show s1.heap.IsTuple a its.toArray from p) ?_
  refine⟨s1.heap.objs.size,[s1.heap.objs.size],_,_,H1,rfl,I1.kept (t':=s1.toks) λb o e=>JM _ e,n4 a _,⟨_,Kb _ rfl,rfl,rfl⟩,λb hb=>?_,q⟩
  have e:b=s1.heap.objs.size:=by simpa using hb
  subst e
  exact I1.rQ (J1 _) (I1.hok.fresh (J1 _))
 ·subst e
  obtain⟨tk,rfl⟩:=r1
  have fin:∀b,b∈[s1.heap.objs.size]->gk X pins H1 b:=λb hb=>by
   have e:b=s1.heap.objs.size:=by simpa using hb
   subst e
   exact I1.rQ (J1 _) (I1.hok.fresh (J1 _))
  cases ha:t.cps.all (·<128)
  ·refine wpAny_pyIter_wide ha ?_
   exact⟨s1.heap.objs.size,[s1.heap.objs.size],_,_,H1,rfl,I1.kept (t':=s1.toks) λb o e=>JM _ e,rA _ t tk,⟨_,Kb _ rfl,rfl,rfl⟩,fin,q⟩
  ·refine wpAny_pyIter_ascii ha ?_
   exact⟨s1.heap.objs.size,[s1.heap.objs.size],_,_,H1,rfl,I1.kept (t':=s1.toks) λb o e=>JM _ e,oM _ t tk,⟨_,Kb _ rfl,rfl,rfl⟩,fin,q⟩
noncomputable def Hm(K:JH)(g:List Bool->Bool):List V->Hp->VK->Prop:=λxs H Q=>∃p ys bs,xs=[.ref p]/\SqL K H p ys/\ys=bs.map V.bl/\Q (.bl (g bs)) H
theorem range_all{bs:List Bool}{tr:Nat->Bool}(h:∀i b,bs[i]?=some b->tr i=b):(KH bs.length).all tr=bs.all id:=by
 have:(KH bs.length).map tr=bs:=by
  apply L9
  intro i
  rw[Kr]
  by_cases hi:i<bs.length
  ·rw[MA hi,Kl hi,Option.map_some,h i _ (Kl hi)]
  ·rw[Mv (by simpa using hi),Mv (by simpa using hi)];rfl
 calc (KH bs.length).all tr=((KH bs.length).map tr).all id:=by rw[NR];rfl
  _=bs.all id:=by rw[this]
theorem vg(hc:X.calm=true):aY X (.builtin "all") (Hm X.K λbs=>bs.all id):=by
 intro pins s σ H xs us Q I r h
 obtain⟨p,ys,bs,rfl,hq,rfl,q⟩:=h
 obtain⟨u,rfl,rx⟩:=vals1 r
 cases rx
 obtain⟨its,r',pl,hz⟩:=I.list hq
 have hlen:=r'.length
 refine call_all_walk (wpAny_pyIter_list pl.isList ?_)
 refine⟨s.heap.objs.size,_,_,_,_,_,(λi=>bs.getD i false),rfl,Walks.list (A:=X.A.in1) (I.ok.hd hc) _ p (by obtain⟨o,ho,_⟩:=pl.isList;exact Kf (J2 ho)) its.toArray,⟨⟨_,Kb _ rfl,rfl,rfl⟩,pl.isList.at λo e=>JM _ e⟩,λi v s1 Q1 E1 hP hQ=>?_,λh' tk hk=>?_⟩
 ·have hv:its[i]?=some v:=by simpa using hP
  cases eb:bs[i]? with
  | none =>
   have h1:=List.getElem?_eq_none_iff.mp eb
   have h2:=(J0.mp hv).1
   rw[Ke] at hlen
   omega
  | some b =>
   obtain⟨u,hu,ru⟩:=r'.get (i:=i) (x:=.bl b) (by rw[Kr,eb];rfl)
   rw[hv] at hu
   cases hu
   cases ru
   have:bs.getD i false=b:=by rw[K1,eb];rfl
   replace hQ:Q1 (bs.getD i false) s1:=hQ
   rw[this] at hQ
   exact wpAny_pure hQ
 ·have e1:its.toArray.size=bs.length:=by simp at hlen ⊢;omega
  rw[e1,range_all (bs:=bs) λi b e=>by show bs.getD i false=b;rw[K1,e];rfl]
  exact⟨.bl _,H,I.kept (t':=tk) λb o e=>hk b o (λz=>by have:=J9.mp z;subst this;exact absurd (J2 e) (Kp _)) (JM _ e),rfl,q⟩
end
end L2
namespace W
theorem eR(p:Int){q:Int}(h:q<0):q<p.fmod q/\p.fmod q<=0:=by
 rw[Int.fmod_eq_emod]
 have h1:=Pd p (show q≠0 by omega)
 have h2:=Int.emod_lt_of_neg p h
 by_cases d:q ∣ p
 ·rw[if_pos (Pm d),Int.emod_eq_zero_of_dvd d];omega
 ·rw[if_neg (by intro z;rcases z with z|z;omega;exact d z)]
  have h3:p%q≠0:=λz=>d (Int.dvd_of_emod_eq_zero z)
  omega
theorem mT(p:Int){q:Int}(h:q≠0):(p.fmod q).natAbs<q.natAbs:=by
 rcases MP h with z|z
 ·have:=eR p z;omega
 ·have h1:=MQ p z
  have h2:=LC p z
  omega
theorem jk(p q:Int):KC q (p.fmod q)=KC p q:=by
 have h:p.fmod q=p-p.fdiv q*q:=by rw[Int.fmod_def,Px]
 rw[h,Int.gcd_sub_mul_right_right,Int.gcd_comm]
noncomputable def cd(x y:Int):Int:=if y<0 then -(KC x y:Int) else (KC x y:Int)
theorem zz{p q:Int}(h:q≠0)(z:p.fmod q=0):q=cd p q:=by
 have e:=jk p q
 rw[z,OM] at e
 unfold cd
 rw[<- e]
 split<;>omega
theorem z4{p q:Int}(h:q≠0)(z:p.fmod q≠0):cd q (p.fmod q)=cd p q:=by
 unfold cd
 rw[jk]
 rcases MP h with g|g
 ·have:=eR p g
  rw[if_pos (by omega),if_pos g]
 ·have h2:=LC p g
  rw[if_neg (by omega),if_neg (by omega)]
theorem ip(x y:Int):cd x y ∣ x:=by
 unfold cd;split
 ·exact(PR).mpr (Na x y)
 ·exact Na x y
theorem gH(x y:Int):cd x y ∣ y:=by
 unfold cd;split
 ·exact(PR).mpr (MZ x y)
 ·exact MZ x y
theorem Fv{x y:Int}(h:y≠0):cd x y≠0:=by
 have:=Lh x h
 unfold cd;split<;>omega
theorem EB(x y:Int):(cd x y).natAbs=KC x y:=by unfold cd;split<;>omega
noncomputable abbrev Num:=Int×Int
noncomputable def nrm(t b:Int):Num:=(t.fdiv (cd t b),b.fdiv (cd t b))
noncomputable def Cj(t b:Int):Num:=if b<0 then ((-t).fdiv (KC (-t) (-b)),(-b).fdiv (KC (-t) (-b))) else (t.fdiv (KC t b),b.fdiv (KC t b))
theorem gz{t g:Int}(hg:g≠0)(d:g ∣ t):(-t).fdiv g=t.fdiv (-g):=by
 obtain⟨k,rfl⟩:=d
 have e1:-(g*k)=g*(-k):=by rw[Int.mul_neg]
 have e2:g*k=(-g)*(-k):=by rw[Int.neg_mul_neg]
 rw[e1,Ly _ hg,e2,Ly _ (by omega)]
theorem Af{t b:Int}(h:b≠0):Cj t b=nrm t b:=by
 unfold Cj nrm cd
 by_cases z:b<0
 ·rw[if_pos z,if_pos z,Int.gcd_neg,Int.neg_gcd]
  have g0:=Lh t h
  rw[gz (by omega) (Na t b),gz (by omega) (MZ t b)]
 ·rw[if_neg z,if_neg z]
end W
namespace W
open L2
def Ok(q:Num):Prop:=0<q.2/\KC q.1 q.2=1
theorem qD{t b:Int}(h:b≠0):cd t b*(nrm t b).1=t/\cd t b*(nrm t b).2=b:=by
 have h0:=Fv (x:=t) h
 obtain⟨k,hk⟩:=ip t b
 obtain⟨m,hm⟩:=gH t b
 have e1:t.fdiv (cd t b)=k:=by
  have:=Ly k h0
  rwa[<- hk] at this
 have e2:b.fdiv (cd t b)=m:=by
  have:=Ly m h0
  rwa[<- hm] at this
 exact⟨by show cd t b*t.fdiv (cd t b)=t;rw[e1];exact hk.symm,by show cd t b*b.fdiv (cd t b)=b;rw[e2];exact hm.symm⟩
theorem qF{t b:Int}(h:b≠0):(0<b->0<cd t b)/\(b<0->cd t b<0):=by
 have:=Lh t h
 unfold cd
 constructor
 ·intro z;rw[if_neg (by omega)];omega
 ·intro z;rw[if_pos z];omega
theorem rp{t b:Int}(h:b≠0):0<(nrm t b).2:=by
 obtain⟨_,e⟩:=qD (t:=t) h
 obtain⟨s1,s2⟩:=qF (t:=t) h
 rcases MP h with z|z
 ·have c:=s2 z
  rcases Py 0 (nrm t b).2 with q|q
  ·exact q
  ·have:=Int.mul_nonneg_of_nonpos_of_nonpos (Pz c) q
   omega
 ·have c:=s1 z
  rcases Py 0 (nrm t b).2 with q|q
  ·exact q
  ·have:=Int.mul_nonpos_of_nonneg_of_nonpos (Pz c) q
   omega
theorem A7{t b:Int}(h:b≠0):Ok (nrm t b):=by
 refine⟨rp h,?_⟩
 obtain⟨e1,e2⟩:=qD (t:=t) h
 have g:KC (cd t b*(nrm t b).1) (cd t b*(nrm t b).2)=(cd t b).natAbs*KC (nrm t b).1 (nrm t b).2:=Int.gcd_mul_left _ _ _
 rw[e1,e2,EB] at g
 have p:=Lh t h
 have:KC t b*1=KC t b*KC (nrm t b).1 (nrm t b).2:=by rw[Nat.mul_one];exact g
 exact(Nat.eq_of_mul_eq_mul_left p this).symm
noncomputable def IW(x y:Num):Num:=nrm (x.1*y.2+y.1*x.2) (x.2*y.2)
end W
set_option maxHeartbeats 1000000
namespace W
open L2 PySem
noncomputable abbrev Pr:=Str×Num
noncomputable def tot(ps:List Pr)(n:Str):Num:=ps.foldl (λacc p=>if p.1=n then IW acc p.2 else acc) (0,1)
end W
namespace M
open PySem L2
inductive A where
 | non|bl (b:Bool)|int (i:Int)|str (x:Str)|tup (xs:List A)|lst (xs:List A)|dic (kvs:List (Key×A))|exc (c:Str)|obj (c:Str) (fs:List (Str×A))
structure Kx where
 K:JH
 mg:Str->Option Value
mutual
inductive RA (k:Kx) (G:Hp):V->A->Prop
 | non:RA k G .non .non
 | bl (b:Bool):RA k G (.bl b) (.bl b)
 | int (i:Int):RA k G (.int i) (.int i)
 | str (x:Str):RA k G (.str x) (.str x)
 | tup {p:Addr} {vs:List V} {as:List A} (e:SqT k.K G p vs) (r:RAs k G vs as):RA k G (.ref p) (.tup as)
 | lst {p:Addr} {vs:List V} {as:List A} (e:SqL k.K G p vs) (r:RAs k G vs as):RA k G (.ref p) (.lst as)
 | dic {p:Addr} {vs:List (Key×V)} {as:List (Key×A)} (e:Rd G p (.dK vs)) (r:RKs k G vs as):RA k G (.ref p) (.dic as)
 | exc {p C:Addr} {c:Str} (e:G p=some (m5 p C)) (m:k.mg c=some (.ref C)):RA k G (.ref p) (.exc c)
 | obj {p C dx:Addr} {c:Str} {vs:List (Str×V)} {fs:List (Str×A)} (e:G p=some (.ins C dx vs)) (m:k.mg c=some (.ref C)) (r:RFs k G vs fs):RA k G (.ref p) (.obj c fs)
inductive RAs (k:Kx) (G:Hp):List V->List A->Prop
 | nil:RAs k G [] []
 | cons {v:V} {a:A} {vs:List V} {as:List A} (h:RA k G v a) (r:RAs k G vs as):RAs k G (v::vs) (a::as)
inductive RFs (k:Kx) (G:Hp):List (Str×V)->List (Str×A)->Prop
 | nil:RFs k G [] []
 | cons {y:Str} {v:V} {a:A} {vs:List (Str×V)} {as:List (Str×A)} (h:RA k G v a) (r:RFs k G vs as):RFs k G ((y,v)::vs) ((y,a)::as)
inductive RKs (k:Kx) (G:Hp):List (Key×V)->List (Key×A)->Prop
 | nil:RKs k G [] []
 | cons {y:Key} {v:V} {a:A} {vs:List (Key×V)} {as:List (Key×A)} (h:RA k G v a) (r:RKs k G vs as):RKs k G ((y,v)::vs) ((y,a)::as)
end
noncomputable def sS:HO->Option (List (Key×V))
 | .dK kvs=>some kvs
 | .frz _ (.dK kvs)=>some kvs
 | _=>none
def Oq(o o':HO):Prop:=o'=o\/∃kvs,sS o=some kvs/\sS o'=some kvs
theorem cc{G:Hp}{b:Addr}{o:HO}{kvs:List (Key×V)}(h:G b=some o)(e:sS o=some kvs):Rd G b (.dK kvs):=by
 unfold sS at e
 split at e
 ·cases e;exact .inl h
 ·cases e;exact .inr ⟨_,h⟩
 ·cases e
theorem p7{G:Hp}{b:Addr}{kvs:List (Key×V)}(h:Rd G b (.dK kvs)):∃o,G b=some o/\sS o=some kvs:=by
 rcases h with h|⟨o,h⟩
 ·exact⟨_,h,rfl⟩
 ·exact⟨_,h,rfl⟩
def Sq(G G':Hp):Prop:=∀b o,G b=some o->∃o',G' b=some o'/\Oq o o'
theorem Sq.of{G G':Hp}(h:IP G G'):Sq G G':=λb o e=>⟨o,h b o e,.inl rfl⟩
theorem Sq.refl(G:Hp):Sq G G:=λb o e=>⟨o,e,.inl rfl⟩
theorem Sq.keep{G G':Hp}(h:Sq G G'){b:Addr}{o:HO}(e:G b=some o)(n:sS o=none):G' b=some o:=by
 obtain⟨o',h1,h2⟩:=h b o e
 rcases h2 with rfl|⟨kvs,h3,_⟩
 ·exact h1
 ·rw[n] at h3;cases h3
theorem Sq.rdD{G G':Hp}(h:Sq G G'){b:Addr}{kvs:List (Key×V)}(r:Rd G b (.dK kvs)):Rd G' b (.dK kvs):=by
 obtain⟨o,e,d⟩:=p7 r
 obtain⟨o',h1,h2⟩:=h b o e
 rcases h2 with rfl|⟨kvs',h3,h4⟩
 ·exact cc h1 d
 ·rw[d] at h3;cases h3;exact cc h1 h4
theorem bU{K:JH}{G G':Hp}{p:Addr}{vs:List V}(h:Sq G G')(q:SqT K G p vs):SqT K G' p vs:=q.imp (λr=>by
 rcases r with r|⟨o,r⟩
 ·exact .inl (h.keep r rfl)
 ·exact .inr ⟨o,h.keep r rfl⟩) id
theorem lL{K:JH}{G G':Hp}{p:Addr}{vs:List V}(h:Sq G G')(q:SqL K G p vs):SqL K G' p vs:=q.imp (λr=>by
 rcases r with r|⟨o,r⟩
 ·exact .inl (h.keep r rfl)
 ·exact .inr ⟨o,h.keep r rfl⟩) id
section
variable{k:Kx}{G G':Hp}
mutual
theorem RA.sm(s:Sq G G'):∀{v:V}{a:A},RA k G v a->RA k G' v a
 | _,_,.non=>.non
 | _,_,.bl b=>.bl b
 | _,_,.int i=>.int i
 | _,_,.str x=>.str x
 | _,_,.tup e r=>.tup (bU s e) (RAs.sm s r)
 | _,_,.lst e r=>.lst (lL s e) (RAs.sm s r)
 | _,_,.dic e r=>.dic (s.rdD e) (RKs.sm s r)
 | _,_,.exc e m=>.exc (s.keep e rfl) m
 | _,_,.obj e m r=>.obj (s.keep e rfl) m (RFs.sm s r)
theorem RFs.sm(s:Sq G G'):∀{vs:List (Str×V)}{as:List (Str×A)},RFs k G vs as->RFs k G' vs as
 | _,_,.nil=>.nil
 | _,_,.cons h r=>.cons (RA.sm s h) (RFs.sm s r)
theorem RAs.sm(s:Sq G G'):∀{vs:List V}{as:List A},RAs k G vs as->RAs k G' vs as
 | _,_,.nil=>.nil
 | _,_,.cons h r=>.cons (RA.sm s h) (RAs.sm s r)
theorem RKs.sm(s:Sq G G'):∀{vs:List (Key×V)}{as:List (Key×A)},RKs k G vs as->RKs k G' vs as
 | _,_,.nil=>.nil
 | _,_,.cons h r=>.cons (RA.sm s h) (RKs.sm s r)
end
theorem RAs.len:∀{vs:List V}{as:List A},RAs k G vs as->vs.length=as.length
 | _,_,.nil=>rfl
 | _,_,.cons _ r=>by rw[JZ,JZ,r.len]
theorem RAs.ta:∀{vs:List V}{as:List A}{i:Nat}{a:A},RAs k G vs as->as[i]?=some a->∃v,vs[i]?=some v/\RA k G v a
 | _,_,_,_,.nil,e=>by simp at e
 | _,_,0,_,.cons h _,e=>by cases e;exact⟨_,rfl,h⟩
 | _,_,i+1,_,.cons _ r,e=>r.ta (i:=i) e
theorem RAs.app:∀{vs us:List V}{as bs:List A},RAs k G vs as->RAs k G us bs->RAs k G (vs++us) (as++bs)
 | _,_,_,_,.nil,s=>s
 | _,_,_,_,.cons h r,s=>.cons h (r.app s)
theorem RAs.snoc{vs:List V}{as:List A}{v:V}{a:A}(r:RAs k G vs as)(h:RA k G v a):RAs k G (vs++[v]) (as++[a]):=r.app (.cons h .nil)
theorem RAs.rev:∀{vs:List V}{as:List A},RAs k G vs as->RAs k G vs.reverse as.reverse
 | _,_,.nil=>.nil
 | _,_,.cons h r=>by rw[Ma,Ma];exact r.rev.snoc h
theorem RAs.take:∀{vs:List V}{as:List A}(n:Nat),RAs k G vs as->RAs k G (vs.take n) (as.take n)
 | _,_,0,_=>.nil
 | _,_,_+1,.nil=>.nil
 | _,_,n+1,.cons h r=>.cons h (r.take n)
theorem RAs.drop:∀{vs:List V}{as:List A}(n:Nat),RAs k G vs as->RAs k G (vs.drop n) (as.drop n)
 | _,_,0,r=>r
 | _,_,_+1,.nil=>.nil
 | _,_,n+1,.cons _ r=>r.drop n
theorem RAs.set{v:V}{a:A}(h:RA k G v a):∀{vs:List V}{as:List A}(i:Nat),RAs k G vs as->RAs k G (vs.set i v) (as.set i a)
 | _,_,_,.nil=>.nil
 | _,_,0,.cons _ r=>.cons h r
 | _,_,i+1,.cons q r=>.cons q (r.set h i)
theorem RAs.strs:∀{vs:List V}{ss:List Str},RAs k G vs (ss.map A.str)->vs=ss.map V.str
 | _,[],.nil=>rfl
 | _,_::ss,.cons h r=>by cases h;rw[r.strs (ss:=ss)];rfl
theorem RAs.ofStrs:∀(ss:List Str),RAs k G (ss.map V.str) (ss.map A.str)
 | []=>.nil
 | s::ss=>.cons (.str s) (RAs.ofStrs ss)
noncomputable def xr(f:Str)(a:A):List (Str×A)->List (Str×A)
 | []=>[(f,a)]
 | (g,b)::fs=>if g=f then (g,a)::fs else (g,b)::xr f a fs
noncomputable def iy{α:Type}(as:List (Key×α))(y:Key):Option α:=(as.find? λkv=>decide (kv.1=y)).map (·.2)
noncomputable def sZ{α:Type}(as:List (Key×α))(y:Key)(a:α):List (Key×α) :=
 if (as.any λkv=>decide (kv.1=y))=true then as.map λkv=>if kv.1=y then (kv.1,a) else kv else as++[(y,a)]
theorem RKs.len:∀{vs:List (Key×V)}{as:List (Key×A)},RKs k G vs as->vs.length=as.length
 | _,_,.nil=>rfl
 | _,_,.cons _ r=>by rw[JZ,JZ,r.len]
theorem RKs.keys:∀{vs:List (Key×V)}{as:List (Key×A)},RKs k G vs as->vs.map (·.1)=as.map (·.1)
 | _,_,.nil=>rfl
 | _,_,.cons _ r=>by rw[JU,JU,r.keys]
theorem RKs.app:∀{vs us:List (Key×V)}{as bs:List (Key×A)},RKs k G vs as->RKs k G us bs->RKs k G (vs++us) (as++bs)
 | _,_,_,_,.nil,s=>s
 | _,_,_,_,.cons h r,s=>.cons h (r.app s)
theorem RKs.get:∀{vs:List (Key×V)}{as:List (Key×A)}(y:Key),RKs k G vs as->(∃v a,cJ vs y=some v/\iy as y=some a/\RA k G v a)\/(cJ vs y=none/\iy as y=none)
 | _,_,y,.nil=>.inr ⟨rfl,rfl⟩
 | _,_,y,.cons (y:=z) (v:=v) (a:=a) (vs:=vs) (as:=as) h r=>by
  unfold cJ iy
  by_cases c:z=y
  ·left;exact⟨v,a,by simp[KY,c],by simp[KY,c],h⟩
  ·have:=RKs.get y r
   unfold cJ iy at this
   simpa[KY,c] using this
theorem RKs.any:∀{vs:List (Key×V)}{as:List (Key×A)}(y:Key),RKs k G vs as->(vs.any λkv=>decide (kv.1=y))=(as.any λkv=>decide (kv.1=y))
 | _,_,y,.nil=>rfl
 | _,_,y,.cons h r=>by rw[Lw,Lw,RKs.any y r]
theorem RKs.n5{v:V}{a:A}(y:Key)(h:RA k G v a):∀{vs:List (Key×V)}{as:List (Key×A)},RKs k G vs as->RKs k G (vs.map λkv=>if kv.1=y then (kv.1,v) else kv) (as.map λkv=>if kv.1=y then (kv.1,a) else kv)
 | _,_,.nil=>.nil
 | _,_,.cons (y:=z) q r=>by
  rw[JU,JU]
  by_cases c:z=y
  ·simp only[c,if_true];exact .cons h (RKs.n5 y h r)
  ·simp only[c,if_false];exact .cons q (RKs.n5 y h r)
theorem RKs.put{vs:List (Key×V)}{as:List (Key×A)}{v:V}{a:A}(y:Key)(r:RKs k G vs as)(h:RA k G v a):RKs k G (putK vs y v) (sZ as y a):=by
 unfold putK sZ
 rw[r.any y]
 split
 ·exact RKs.n5 y h r
 ·exact r.app (.cons h .nil)
theorem RKs.filter(y:Key):∀{vs:List (Key×V)}{as:List (Key×A)},RKs k G vs as->RKs k G (eM vs y) (as.filter λkv=>decide (kv.1≠y))
 | _,_,.nil=>.nil
 | _,_,.cons (y:=z) q r=>by
  unfold eM
  rw[Mm,Mm]
  by_cases c:z=y
  ·have:=RKs.filter y r;unfold eM at this;simpa[c] using this
  ·have:=RKs.cons (y:=z) q (RKs.filter y r);unfold eM at this;simpa[c] using this
end
noncomputable def cut(H:Hp)(L:List Addr):Hp:=λa=>if a∈L then none else H a
theorem tW{H:Hp}{L:List Addr}{a:Addr}(h:a∈L):cut H L a=none:=if_pos h
theorem lS{H:Hp}{L:List Addr}{a:Addr}(h:a∉L):cut H L a=H a:=if_neg h
theorem wo(H:Hp)(L:List Addr):Sq (cut H L) H:=Sq.of λb o e=>by
 unfold cut at e
 split at e
 ·cases e
 ·exact e
theorem tE{H:Hp}{L L':List Addr}(h:∀a,a∈L'->a∈L):Sq (cut H L) (cut H L'):=Sq.of λb o e=>by
 by_cases c:b∈L
 ·rw[tW c] at e;cases e
 ·rw[lS c] at e
  rw[lS λz=>c (h b z)];exact e
inductive LO where
 | lst (xs:List A)|dic (kvs:List (Key×A))|obj (c:Str) (fs:List (Str×A))
noncomputable def LO.a:LO->A
 | .lst xs=>.lst xs
 | .dic kvs=>.dic kvs
 | .obj c fs=>.obj c fs
inductive Sl where
 | un|fr (a:A)|lv (o:LO)|pv (o:LO)
inductive LR (k:Kx) (G H:Hp) (p:Addr):LO->Prop
 | lst {vs:List V} {as:List A} (e:H p=some (.lst vs)) (r:RAs k G vs as):LR k G H p (.lst as)
 | dic {vs:List (Key×V)} {as:List (Key×A)} (e:H p=some (.dK vs)) (r:RKs k G vs as):LR k G H p (.dic as)
 | obj {C dx:Addr} {c:Str} {vs:List (Str×V)} {fs:List (Str×A)} (e:H p=some (.ins C dx vs)) (m:k.mg c=some (.ref C)) (r:RFs k G vs fs):LR k G H p (.obj c fs)
inductive SlR (k:Kx) (G H:Hp):Option V->Sl->List Addr->Prop
 | un (x:Option V):SlR k G H x .un []
 | fr {v:V} {a:A} (h:RA k G v a):SlR k G H (some v) (.fr a) []
 | lv {p:Addr} {o:LO} (h:LR k G H p o):SlR k G H (some (.ref p)) (.lv o) [p]
 | pv {p:Addr} {o:LO} (h:LR k G H p o):SlR k G H (some (.ref p)) (.pv o) [p]
inductive ao (k:Kx) (G H:Hp):St->List Sl->List Addr->Prop
 | nil:ao k G H [] [] []
 | cons {x:Option V} {s:Sl} {σ:St} {ρ:List Sl} {L L':List Addr} (h:SlR k G H x s L) (r:ao k G H σ ρ L'):ao k G H (x::σ) (s::ρ) (L++L')
section
variable{k:Kx}{G G' H H':Hp}{L:List Addr}
theorem LR.is{p:Addr}{o:LO}(h:LR k G H p o):∃u,H p=some u:=by cases h with|lst e _=>exact⟨_,e⟩|dic e _=>exact⟨_,e⟩|obj e _ _=>exact⟨_,e⟩
theorem LR.sm(s:Sq G G'){p:Addr}{o:LO}(e:∀u,H p=some u->H' p=some u)(h:LR k G H p o):LR k G' H' p o:=by
 cases h with
 | lst q r=>exact .lst (e _ q) (r.sm s)
 | dic q r=>exact .dic (e _ q) (r.sm s)
 | obj q m r=>exact .obj (e _ q) m (r.sm s)
theorem SlR.is{x:Option V}{t:Sl}(h:SlR k G H x t L):∀p∈L,∃u,H p=some u:=by
 cases h with
 | un=>intro p hp;cases hp
 | fr=>intro p hp;cases hp
 | lv h=>intro p hp;rw[J9.mp hp];exact h.is
 | pv h=>intro p hp;rw[J9.mp hp];exact h.is
theorem SlR.sm(s:Sq G G'){x:Option V}{t:Sl}(e:∀p∈L,∀u,H p=some u->H' p=some u)(h:SlR k G H x t L):SlR k G' H' x t L:=by
 cases h with
 | un=>exact .un _
 | fr h=>exact .fr (h.sm s)
 | lv h=>exact .lv (h.sm s (e _ (J9.mpr rfl)))
 | pv h=>exact .pv (h.sm s (e _ (J9.mpr rfl)))
theorem ao.is:∀{σ:St}{ρ:List Sl}{L:List Addr},ao k G H σ ρ L->∀p∈L,∃u,H p=some u
 | _,_,_,.nil,p,hp=>by cases hp
 | _,_,_,.cons h r,p,hp=>(J5.mp hp).elim (h.is p) (r.is p)
theorem ao.sm(s:Sq G G'):∀{σ:St}{ρ:List Sl}{L:List Addr},(∀p∈L,∀u,H p=some u->H' p=some u)->ao k G H σ ρ L->ao k G' H' σ ρ L
 | _,_,_,_,.nil=>.nil
 | _,_,_,e,.cons h r=>.cons (h.sm s λp hp=>e p (Ka _ hp)) (r.sm s λp hp=>e p (JL _ hp))
theorem ao.len:∀{σ:St}{ρ:List Sl}{L:List Addr},ao k G H σ ρ L->σ.length=ρ.length
 | _,_,_,.nil=>rfl
 | _,_,_,.cons _ r=>by rw[JZ,JZ,r.len]
theorem ao.at:∀{σ:St}{ρ:List Sl}{L:List Addr}{i:Nat}{s:Sl},ao k G H σ ρ L->ρ[i]?=some s ->
  ∃x L1 L2 L3,σ[i]?=some x/\SlR k G H x s L2/\L=L1++L2++L3/\∀{G' H':Hp}{y:Option V}{t:Sl}{L':List Addr},Sq G G'->(∀p∈L1++L3,∀u,H p=some u->H' p=some u)->SlR k G' H' y t L'->ao k G' H' (σ.set i y) (ρ.set i t) (L1++L'++L3)
 | _,_,_,_,_,.nil,e=>by simp at e
 | _,_,_,0,_,.cons (x:=x) (L:=L) (L':=L') h r,e=>by
  cases e
  refine⟨x,[],L,L',rfl,h,by simp,λsm e q=>?_⟩
  simp only[OA,Ku]
  exact .cons q (r.sm sm (by simpa using e))
 | _,_,_,i+1,_,.cons (L:=L) h r,e=>by
  obtain⟨x,L1,L2,L3,e1,e2,e3,e4⟩:=ao.at (i:=i) r e
  refine⟨x,L++L1,L2,L3,e1,e2,by rw[e3];simp,λsm e q=>?_⟩
  simp only[OB]
  have:=ao.cons (h.sm sm λp hp=>e p (by simp[hp])) (e4 sm (λp hp=>e p (by rcases J5.mp hp with z|z<;>simp[z])) q)
  simpa[JY] using this
theorem ao.app:∀{σ τ:St}{ρ θ:List Sl}{L L':List Addr},ao k G H σ ρ L->ao k G H τ θ L'->ao k G H (σ++τ) (ρ++θ) (L++L')
 | _,_,_,_,_,_,.nil,s=>s
 | _,_,_,_,_,_,.cons h r,s=>by have:=ao.cons h (r.app s);simpa[JY] using this
theorem ao.split:∀{σ τ:St}{ρ θ:List Sl}{L:List Addr},σ.length=ρ.length->ao k G H (σ++τ) (ρ++θ) L->∃L1 L2,L=L1++L2/\ao k G H σ ρ L1/\ao k G H τ θ L2
 | [],_,[],_,L,_,h=>⟨[],L,rfl,.nil,h⟩
 | x::σ,τ,s::ρ,θ,_,e,.cons (L:=L) h r=>by
  obtain⟨L1,L2,e1,r1,r2⟩:=ao.split (by simpa using e) r
  exact⟨L++L1,L2,by rw[e1];simp,.cons h r1,r2⟩
 | _::_,_,[],_,_,e,_=>by simp at e
 | [],_,_::_,_,_,e,_=>by simp at e
theorem ao.frs:∀{vs:List V}{as:List A},RAs k G vs as->ao k G H (vs.map some) (as.map Sl.fr) []
 | _,_,.nil=>.nil
 | _,_,.cons h r=>ao.cons (L:=[]) (.fr h) (ao.frs r)
theorem ao.AS:∀{vs:List V}{as:List A}{L:List Addr},ao k G H (vs.map some) (as.map Sl.fr) L->L=[]/\RAs k G vs as
 | [],[],_,.nil=>⟨rfl,.nil⟩
 | v::vs,a::as,_,.cons h r=>by
  cases h with
  | fr h =>
   obtain⟨e,q⟩:=ao.AS r
   exact⟨by rw[e];rfl,.cons h q⟩
end
end M
namespace M
open PySem L2
structure Cn extends Kx where
 σ0:St
 H0:Hp
 Lp:List Addr
 Hd:List Addr
 Wk:List (Addr×HO)
noncomputable def Cn.g(c:Cn)(H:Hp)(L:List Addr):Hp:=cut H (L++c.Hd)
structure Fr (c:Cn) (H:Hp):Prop where
 st:∀b o,c.H0 b=some o->∃u,H b=some u/\(b∉c.Lp->(∀w,(b,w)∉c.Wk)->u=o)
 pk:∀p∈c.Wk,H p.1=some p.2/\(∃ob vs,p.2=.frz ob (.dK vs))/\p.1∉c.Hd
theorem Fr.new{c:Cn}{H:Hp}{p:Addr}{o:HO}(f:Fr c H)(h:H p=none):Fr c (upd H p o):=⟨λb u e=>by
 obtain⟨w,h1,h2⟩:=f.st b u e
 exact⟨w,by rw[aj (aB h1 h)];exact h1,h2⟩,λq hq=>by
 obtain⟨h1,h2⟩:=f.pk q hq
 exact⟨by rw[aj (aB h1 h)];exact h1,h2⟩⟩
theorem Fr.fresh{c:Cn}{H:Hp}{p:Addr}(f:Fr c H)(h:H p=none):c.H0 p=none:=by
 cases e:c.H0 p with
 | none=>rfl
 | some o=>obtain⟨u,h1,_⟩:=f.st p o e;rw[h] at h1;cases h1
def eu(σ0 σ:St)(ρ:List Sl):Prop:=∀(i:Nat)(o:LO),ρ[i]?=some (Sl.pv o)->σ[i]?=σ0[i]?
structure BdL (c:Cn) (σ:St) (H:Hp) (ρ:List Sl) (τ:St) (θ:List Sl) (L:List Addr):Prop where
 nd:L.Nodup
 rel:ao c.toKx (c.g H L) H (τ++σ) (θ++ρ) L
 own:∀p∈L,p∈c.Lp\/c.H0 p=none
 fr:Fr c H
 kp:eu c.σ0 σ ρ
 lt:τ.length=θ.length
 hd:∀p∈c.Hd,(∃u,c.H0 p=some u)/\p∉c.Lp
theorem g_same(c:Cn)(H:Hp)(L:List Addr):Sq (c.g H L) H:=wo _ _
theorem bM{c:Cn}{H:Hp}{L L':List Addr}(h:∀a,a∈L'->a∈L):Sq (c.g H L) (c.g H L'):=tE λa ha=>by
 rcases J5.mp ha with z|z
 ·exact Ka _ (h a z)
 ·exact JL _ z
theorem gC{c:Cn}{H:Hp}{L:List Addr}{a:Addr}(h:a∈L\/a∈c.Hd):c.g H L a=none:=tW (by simpa using h)
theorem aU{c:Cn}{H:Hp}{L:List Addr}{a:Addr}(h:a∉L)(h':a∉c.Hd):c.g H L a=H a:=lS (by simp[h,h'])
theorem BdL.nhd{c:Cn}{σ:St}{H:Hp}{ρ:List Sl}{τ:St}{θ:List Sl}{L:List Addr}(b:BdL c σ H ρ τ θ L){p:Addr}(h:p∈L):p∉c.Hd:=λz=>by
 obtain⟨⟨u,e⟩,n⟩:=b.hd p z
 rcases b.own p h with y|y
 ·exact n y
 ·rw[y] at e;cases e
theorem BdL.fhd{c:Cn}{σ:St}{H:Hp}{ρ:List Sl}{τ:St}{θ:List Sl}{L:List Addr}(b:BdL c σ H ρ τ θ L){p:Addr}(h:H p=none):p∉c.Hd:=λz=>by
 obtain⟨⟨u,e⟩,n⟩:=b.hd p z
 rw[b.fr.fresh h] at e;cases e
def Bd(c:Cn)(σ:St)(H:Hp)(ρ:List Sl)(τ:St)(θ:List Sl):Prop:=∃L,BdL c σ H ρ τ θ L
section
variable{c:Cn}{σ:St}{H:Hp}{ρ:List Sl}{τ:St}{θ:List Sl}
theorem Bd.sL(b:Bd c σ H ρ τ θ):σ.length=ρ.length:=by
 obtain⟨L,b⟩:=b
 have:=b.rel.len
 rw[Kg,Kg,b.lt] at this
 omega
theorem Bd.push{v:V}{a:A}(b:Bd c σ H ρ τ θ)(h:∀G,RA c.toKx G v a):Bd c σ H ρ (some v::τ) (.fr a::θ):=by
 obtain⟨L,b⟩:=b
 exact⟨L,b.nd,ao.cons (L:=[]) (.fr (h _)) b.rel,b.own,b.fr,b.kp,by simp[b.lt],b.hd⟩
theorem Bd.pop{x:Option V}{s:Sl}(b:Bd c σ H ρ (x::τ) (s::θ)):Bd c σ H ρ τ θ:=by
 obtain⟨L,b⟩:=b
 obtain⟨nd,rel,own,fr,kp,lt,hdd⟩:=b
 have rel:ao c.toKx (c.g H L) H (x::(τ++σ)) (s::(θ++ρ)) L:=rel
 cases rel with
 | cons h r =>
  rename_i L1 L2
  exact⟨L2,(Kj.mp nd).2.1,r.sm (bM λa ha=>JL _ ha) (λ_ _ _ e=>e),λp hp=>own p (JL _ hp),fr,kp,by simpa using lt,hdd⟩
theorem Bd.xC:∀{xs:St}{ss:List Sl},xs.length=ss.length->Bd c σ H ρ (xs++τ) (ss++θ)->Bd c σ H ρ τ θ
 | [],[],_,b=>b
 | x::xs,s::ss,e,b=>Bd.xC (xs:=xs) (ss:=ss) (by simpa using e) (Bd.pop b)
 | [],_::_,e,_=>by simp at e
 | _::_,[],e,_=>by simp at e
theorem Bd.new{p:Addr}{o:HO}(b:Bd c σ H ρ τ θ)(h:H p=none):Bd c σ (upd H p o) ρ τ θ:=by
 obtain⟨L,b⟩:=b
 have hp:p∉L:=λz=>by obtain⟨u,e⟩:=b.rel.is p z;rw[h] at e;cases e
 refine⟨L,b.nd,b.rel.sm (Sq.of λa u e=>?_) (λq hq u e=>by rw[aj (aB e h)];exact e),b.own,b.fr.new h,b.kp,b.lt,b.hd⟩
 by_cases z:a∈L\/a∈c.Hd
 ·rw[gC z] at e;cases e
 ·rw[aU (λy=>z (.inl y)) (λy=>z (.inr y))] at e
  rw[aU (λy=>z (.inl y)) (λy=>z (.inr y)),aj (aB e h)];exact e
theorem Bd.frs{vs:List V}{as:List A}(b:Bd c σ H ρ (vs.map some++τ) (as.map Sl.fr++θ))(e:vs.length=as.length):∃L,BdL c σ H ρ τ θ L/\RAs c.toKx (c.g H L) vs as:=by
 obtain⟨L,b⟩:=b
 have r:=b.rel
 rw[JY,JY] at r
 obtain⟨L1,L2,e1,r1,r2⟩:=ao.split (by simp[e]) r
 obtain⟨z,ra⟩:=ao.AS r1
 subst z
 have e1:L=L2:=e1
 subst e1
 exact⟨L,⟨b.nd,r2,b.own,b.fr,b.kp,by have:=b.lt;simp at this;omega,b.hd⟩,ra⟩
theorem BdL.push{L:List Addr}{v:V}{a:A}(b:BdL c σ H ρ τ θ L)(h:RA c.toKx (c.g H L) v a):Bd c σ H ρ (some v::τ) (.fr a::θ) :=
 ⟨L,b.nd,ao.cons (L:=[]) (.fr h) b.rel,b.own,b.fr,b.kp,by simp[b.lt],b.hd⟩
theorem BdL.new{L:List Addr}{p:Addr}{o:HO}(b:BdL c σ H ρ τ θ L)(h:H p=none):BdL c σ (upd H p o) ρ τ θ L/\Sq (c.g H L) (c.g (upd H p o) L)/\p∉L:=by
 have hp:p∉L:=λz=>by obtain⟨u,e⟩:=b.rel.is p z;rw[h] at e;cases e
 have sm:Sq (c.g H L) (c.g (upd H p o) L):=Sq.of λa u e=>by
  by_cases z:a∈L\/a∈c.Hd
  ·rw[gC z] at e;cases e
  ·rw[aU (λy=>z (.inl y)) (λy=>z (.inr y))] at e
   rw[aU (λy=>z (.inl y)) (λy=>z (.inr y)),aj (aB e h)];exact e
 exact⟨⟨b.nd,b.rel.sm sm (λq hq u e=>by rw[aj (aB e h)];exact e),b.own,b.fr.new h,b.kp,b.lt,b.hd⟩,sm,hp⟩
theorem Bd.BA{vs:List V}{as:List A}{p:Addr}(b:Bd c σ H ρ (vs.map some++τ) (as.map Sl.fr++θ))(e:vs.length=as.length)(h:H p=none)(ws:List V)(bs:List A)(hw:∀G,RAs c.toKx G vs as->RAs c.toKx G ws bs) :
  Bd c σ (upd H p (.tup ws)) ρ (some (.ref p)::τ) (.fr (.tup bs)::θ):=by
 obtain⟨L,bl,ra⟩:=b.frs e
 obtain⟨b2,sm,hp⟩:=bl.new (o:=.tup ws) h
 exact b2.push (.tup (.inl (.inl (by rw[aU hp (bl.fhd h)];exact aI))) (hw _ (ra.sm sm)))
theorem BdL.eJ{L:List Addr}{p:Addr}{u:HO}{o:LO}(b:BdL c σ H ρ τ θ L)(h:H p=none)(hr:∀G H',Sq (c.g H L) G->H' p=some u->LR c.toKx G H' p o):Bd c σ (upd H p u) ρ (some (.ref p)::τ) (.lv o::θ):=by
 have hp:p∉L:=λz=>by obtain⟨u,e⟩:=b.rel.is p z;rw[h] at e;cases e
 have sm:Sq (c.g H L) (c.g (upd H p u) (p::L)):=Sq.of λa w e=>by
  by_cases z:a∈L\/a∈c.Hd
  ·rw[gC z] at e;cases e
  ·rw[aU (λy=>z (.inl y)) (λy=>z (.inr y))] at e
   have na:=aB e h
   rw[aU (λy=>by rcases J6.mp y with y|y;exact na y;exact z (.inl y)) (λy=>z (.inr y)),aj na];exact e
 refine⟨p::L,Kt.mpr ⟨hp,b.nd⟩,ao.cons (L:=[p]) (.lv (hr _ _ sm aI)) (b.rel.sm sm (λq hq w e=>by rw[aj (aB e h)];exact e)),λq hq=>?_,b.fr.new h,b.kp,by simp[b.lt],b.hd⟩
 rcases J6.mp hq with z|z
 ·subst z;exact .inr (b.fr.fresh h)
 ·exact b.own q z
theorem Bd.o9{vs:List V}{as:List A}{p:Addr}(b:Bd c σ H ρ (vs.map some++τ) (as.map Sl.fr++θ))(e:vs.length=as.length)(h:H p=none)(ws:List V)(bs:List A)(hw:∀G,RAs c.toKx G vs as->RAs c.toKx G ws bs) :
  Bd c σ (upd H p (.lst ws)) ρ (some (.ref p)::τ) (.lv (.lst bs)::θ):=by
 obtain⟨L,bl,ra⟩:=b.frs e
 exact bl.eJ h λG H' sm q=>.lst q (hw _ (ra.sm sm))
theorem LR.a{k:Kx}{G H:Hp}{p:Addr}{o:LO}(h:LR k G H p o)(sm:Sq G H):RA k H (.ref p) o.a:=by
 cases h with
 | lst e r=>exact .lst (.inl (.inl e)) (r.sm sm)
 | dic e r=>exact .dic (.inl e) (r.sm sm)
 | obj e m r=>exact .obj e m (r.sm sm)
theorem LR.a'{k:Kx}{G G' H:Hp}{p:Addr}{o:LO}(h:LR k G H p o)(sm:Sq G G')(e:∀u,H p=some u->G' p=some u):RA k G' (.ref p) o.a:=by
 cases h with
 | lst q r=>exact .lst (.inl (.inl (e _ q))) (r.sm sm)
 | dic q r=>exact .dic (.inl (e _ q)) (r.sm sm)
 | obj q m r=>exact .obj (e _ q) m (r.sm sm)
noncomputable def Sl.a:Sl->Option A
 | .fr a=>some a
 | .lv o=>some o.a
 | .pv o=>some o.a
 | .un=>none
theorem SlR.read{k:Kx}{G H:Hp}{x:Option V}{s:Sl}{L:List Addr}{a:A}(h:SlR k G H x s L)(sm:Sq G H)(e:s.a=some a):∃v,x=some v/\RA k H v a:=by
 cases h with
 | un=>cases e
 | fr h=>cases e;exact⟨_,rfl,h.sm sm⟩
 | lv h=>cases e;exact⟨_,rfl,h.a sm⟩
 | pv h=>cases e;exact⟨_,rfl,h.a sm⟩
theorem eu.set{σ0 σ:St}{ρ:List Sl}{i:Nat}{t:Sl}{y:Option V}(k:eu σ0 σ ρ)(h:∀o,ρ[i]?≠some (.pv o))(hi:i<ρ.length)(e:∀o,t≠.pv o):eu σ0 (σ.set i y) (ρ.set i t):=λj o q=>by
 by_cases z:j=i
 ·subst z
  rw[Kk hi] at q
  exact absurd (JV q) (e o)
 ·rw[Kz (KJ z)] at q ⊢
  exact k j o q
theorem eu.zy{σ0 σ:St}{ρ:List Sl}{i:Nat}{t:Sl}(k:eu σ0 σ ρ)(h:∀o,t=.pv o->∃o',ρ[i]?=some (.pv o')):eu σ0 σ (ρ.set i t):=λj o q=>by
 by_cases z:j=i
 ·subst z
  by_cases hi:j<ρ.length
  ·rw[Kk hi] at q
   obtain⟨o',e⟩:=h o (JV q)
   exact k j o' e
  ·rw[Mv (by simp;omega)] at q;cases q
 ·rw[Kz (KJ z)] at q
  exact k j o q
theorem Bd.slot{i:Nat}{s:Sl}{a:A}(b:Bd c σ H ρ τ θ)(e:ρ[i]?=some s)(ea:s.a=some a):∃v,σ[i]?=some (some v)/\RA c.toKx H v a:=by
 obtain⟨L,b⟩:=b
 obtain⟨L1,L2,e1,r1,r2⟩:=ao.split b.lt b.rel
 obtain⟨x,_,_,_,hx,hs,_⟩:=r2.at e
 obtain⟨v,rfl,h⟩:=hs.read (g_same _ _ _) ea
 exact⟨v,hx,h⟩
theorem Bd.load{i:Nat}{a:A}(b:Bd c σ H ρ τ θ)(e:ρ[i]?=some (.fr a)):∃v,σ[i]?=some (some v)/\Bd c σ H ρ (some v::τ) (.fr a::θ):=by
 obtain⟨L,b⟩:=b
 obtain⟨L1,L2,e1,r1,r2⟩:=ao.split b.lt b.rel
 obtain⟨x,_,_,_,hx,hs,_⟩:=r2.at e
 cases hs with
 | fr h=>exact⟨_,hx,b.push h⟩
theorem Bd.kQ{i:Nat}{o:LO}(b:Bd c σ H ρ τ θ)(e:ρ[i]?=some (.lv o)):Bd c σ H (ρ.set i (.fr o.a)) τ θ:=by
 obtain⟨L,b⟩:=b
 obtain⟨L1,L2,e1,r1,r2⟩:=ao.split b.lt b.rel
 obtain⟨x,M1,M2,M3,hx,hs,e2,ins⟩:=r2.at e
 cases hs with
 | lv h =>
  rename_i p
  have nd:=b.nd
  have hL:L=(L1++M1)++p::M3:=by rw[e1,e2];simp
  rw[hL] at nd
  have hp:p∉L1++M1++M3:=by
   obtain⟨n1,n2,n3⟩:=Kj.mp nd
   obtain⟨m1,m2⟩:=Kt.mp n2
   intro z
   rcases J5.mp z with z|z
   ·exact n3 p z p (by simp) rfl
   ·exact m1 z
  have sub:∀a,a∈L1++M1++M3->a∈L:=λa ha=>by rw[hL];simp only[J5,J6] at ha ⊢;rcases ha with (z|z)|z<;>simp[z]
  have sm:Sq (c.g H L) (c.g H (L1++M1++M3)):=bM sub
  have r3:=ins (y:=some (.ref p)) (t:=.fr o.a) (L':=[]) sm (λ_ _ _ e=>e) (.fr (h.a' sm λu e=>by rw[aU hp (b.nhd (by rw[hL];simp))];exact e))
  have hσ:σ.set i (some (.ref p))=σ:=by
   apply L9;intro j
   by_cases z:j=i
   ·subst z;rw[Kk (J0.mp hx).1,hx]
   ·rw[Kz (KJ z)]
  rw[hσ] at r3
  refine⟨L1++M1++M3,?_,?_,λq hq=>b.own q (sub q hq),b.fr,b.kp.zy (λo z=>by cases z),b.lt,b.hd⟩
  ·exact(Kj.mp nd).1 |> λn=>Kj.mpr ⟨n,(Kt.mp (Kj.mp nd).2.1).2,λa ha b' hb=>(Kj.mp nd).2.2 a ha b' (JQ _ hb)⟩
  ·have:=(r1.sm sm (λ_ _ _ e=>e)).app r3
   simpa[JY] using this
theorem BdL.change{L:List Addr}{i:Nat}{s t:Sl}{o o':LO}{u:HO}(b:BdL c σ H ρ τ θ L)(e:ρ[i]?=some s)(es:s=.lv o/\t=.lv o'\/s=.pv o/\t=.pv o')
  : ∃p,σ[i]?=some (some (.ref p))/\LR c.toKx (c.g H L) H p o/\((∀H',H' p=some u->LR c.toKx (c.g H L) H' p o')->Bd c σ (upd H p u) (ρ.set i t) τ θ):=by
 obtain⟨L1,L2,e1,r1,r2⟩:=ao.split b.lt b.rel
 obtain⟨x,M1,M2,M3,hx,hs,e2,ins⟩:=r2.at e
 have key:∀p,x=some (.ref p)->M2=[p]->LR c.toKx (c.g H L) H p o->(∀G H',LR c.toKx G H' p o'->SlR c.toKx G H' (some (.ref p)) t [p])->(∀o2,t=.pv o2->∃o',ρ[i]?=some (.pv o')) ->
   ∃p,σ[i]?=some (some (.ref p))/\LR c.toKx (c.g H L) H p o/\((∀H',H' p=some u->LR c.toKx (c.g H L) H' p o')->Bd c σ (upd H p u) (ρ.set i t) τ θ):=by
  intro p ex em hr mk pk
  subst ex em
  refine⟨p,hx,hr,λhn=>?_⟩
  have nd:=b.nd
  have hL:L=(L1++M1)++p::M3:=by rw[e1,e2];simp
  have hin:p∈L:=by rw[hL];simp
  have hne:∀q,q∈L1++M1++M3->q≠p:=λq hq z=>by
   subst z
   rw[hL] at nd
   obtain⟨n1,n2,n3⟩:=Kj.mp nd
   obtain⟨m1,m2⟩:=Kt.mp n2
   rcases J5.mp hq with z|z
   ·exact n3 q z q (by simp) rfl
   ·exact m1 z
  have ec:c.g (upd H p u) L=c.g H L:=by
   funext a
   by_cases z:a∈L\/a∈c.Hd
   ·rw[gC z,gC z]
   ·rw[aU (λy=>z (.inl y)) (λy=>z (.inr y)),aU (λy=>z (.inl y)) (λy=>z (.inr y)),aj λy=>z (.inl (by rw[y];exact hin))]
  have kpu:∀q,q∈L1++M1++M3->∀w,H q=some w->upd H p u q=some w:=λq hq w e=>by rw[aj (hne q hq)];exact e
  have r3:=ins (G':=c.g (upd H p u) L) (H':=upd H p u) (y:=some (.ref p)) (t:=t) (L':=[p]) (by rw[ec];exact Sq.refl _) (λq hq=>kpu q (by rcases J5.mp hq with z|z<;>simp[z])) (mk _ _ (by rw[ec];exact hn _ aI))
  have hσ:σ.set i (some (.ref p))=σ:=by
   apply L9;intro j
   by_cases z:j=i
   ·subst z;rw[Kk (J0.mp hx).1,hx]
   ·rw[Kz (KJ z)]
  rw[hσ] at r3
  refine⟨L,nd,?_,b.own,⟨λq w e=>?_,λq hq=>?_⟩,b.kp.zy pk,b.lt,b.hd⟩
  ·have:=(r1.sm (G':=c.g (upd H p u) L) (H':=upd H p u) (by rw[ec];exact Sq.refl _) (λq hq=>kpu q (by simp[hq]))).app r3
   have z:L1++(M1++[p]++M3)=L:=by rw[hL];simp
   rw[z] at this
   exact this
  ·obtain⟨w',h1,h2⟩:=b.fr.st q w e
   by_cases z:q=p
   ·subst z
    refine⟨u,aI,λnq=>?_⟩
    rcases b.own q hin with y|y
    ·exact absurd y nq
    ·rw[y] at e;cases e
   ·exact⟨w',by rw[aj z];exact h1,h2⟩
  ·obtain⟨h1,⟨ob,vs,h2⟩,h3⟩:=b.fr.pk q hq
   refine⟨?_,⟨ob,vs,h2⟩,h3⟩
   rw[aj λy=>?_]
   ·exact h1
   ·rw[y,h2] at h1
    cases hr with
    | lst e _=>rw[e] at h1;cases h1
    | dic e _=>rw[e] at h1;cases h1
    | obj e _ _=>rw[e] at h1;cases h1
 rcases es with ⟨rfl,rfl⟩|⟨rfl,rfl⟩
 ·cases hs with
  | lv h=>exact key _ rfl rfl h (λ_ _ h=>.lv h) (λ_ z=>by cases z)
 ·cases hs with
  | pv h=>exact key _ rfl rfl h (λ_ _ h=>.pv h) (λ_ z=>⟨_,e⟩)
theorem Bd.store{i:Nat}{s t:Sl}{v:V}(b:Bd c σ H ρ (some v::τ) (t::θ))(e:ρ[i]?=some s)(hs:∀o,s≠.pv o)(ht:∀o,t≠.pv o):Bd c (σ.set i (some v)) H (ρ.set i t) τ θ:=by
 obtain⟨L,nd,rel,own,fr,kp,lt,hdd⟩:=b
 have rel:ao c.toKx (c.g H L) H (some v::(τ++σ)) (t::(θ++ρ)) L:=rel
 cases rel with
 | cons h r =>
  rename_i L0 L'
  obtain⟨L1,L2,e1,r1,r2⟩:=ao.split (by simpa using lt) r
  obtain⟨x,M1,M2,M3,hx,hs',e2,ins⟩:=r2.at e
  subst e1 e2
  have sub:∀a,a∈L1++(M1++L0++M3)->a∈L0++(L1++(M1++M2++M3)):=λa ha=>by simp at ha ⊢;rcases ha with z|z|z|z<;>simp[z]
  have sm:Sq (c.g H (L0++(L1++(M1++M2++M3)))) (c.g H (L1++(M1++L0++M3))):=bM sub
  have hi:i<ρ.length:=(J0.mp e).1
  refine⟨L1++(M1++L0++M3),?_,?_,λq hq=>own q (sub q hq),fr,kp.set (λo z=>?_) hi ht,by simpa using lt,hdd⟩
  ·have p1:(L0++(L1++(M1++M2++M3))).Perm (M2++(L1++(M1++L0++M3))):=by
    rw[MB]
    intro a
    simp only[MU]
    omega
   exact(Kj.mp ((p1.nodup_iff).mp nd)).2.1
  ·exact(r1.sm sm (λ_ _ _ e=>e)).app (ins sm (λ_ _ _ e=>e) (h.sm sm (λ_ _ _ e=>e)))
  ·rw[e] at z;exact hs o (JV z)
end
end M
namespace M
open PySem L2
inductive Rr where
 | rf (i:Nat)|fr (a:A)|nw (o:LO)
noncomputable abbrev Mi(α:Type):=List Sl->Option (Except Str α×List Sl)
noncomputable def aq{α β:Type}(m:Mi α)(f:α->Mi β):Mi β:=λρ=>match m ρ with
 | some (.ok x,ρ1)=>f x ρ1
 | some (.error e,ρ1)=>some (.error e,ρ1)
 | none=>none
noncomputable def cV{α:Type}(x:α):Mi α:=λρ=>some (.ok x,ρ)
noncomputable def bj:Rr->V->St->St
 | .rf _,_,τ=>τ
 | .fr _,v,τ=>some v::τ
 | .nw _,v,τ=>some v::τ
noncomputable def bh:Rr->List Sl->List Sl
 | .rf _,θ=>θ
 | .fr a,θ=>.fr a::θ
 | .nw o,θ=>.lv o::θ
noncomputable def VR(σ:St):Rr->V->Prop
 | .rf i,v=>σ[i]?=some (some v)
 | _,_=>True
noncomputable def res(ρ:List Sl):Rr->Option A
 | .rf i=>match ρ[i]? with
  | some s=>s.a
  | none=>none
 | .fr a=>some a
 | .nw o=>some o.a
noncomputable def Ret(K:Kx)(E:XK)(c:Cn)(σ:St)(ρ:List Sl)(τ:St)(θ:List Sl)(Q:VK):Except Str Rr->Prop
 | .ok r=>∀v H,VR σ r v->Bd c σ H ρ (bj r v τ) (bh r θ)->Q v H
 | .error x=>∀C H,K.mg x=some (.ref C)->Bd c σ H ρ τ θ->E (.ref C) none H
noncomputable def TEm(K:Kx)(E:XK)(m:Mi Rr):TE:=λσ H Q=>∃(c:Cn) (ρ:List Sl) (τ:St) (θ:List Sl) (o:Except Str Rr) (ρ':List Sl),c.toKx=K/\Bd c σ H ρ τ θ/\m ρ=some (o,ρ')/\Ret K E c σ ρ' τ θ Q o
noncomputable def HR(K:Kx)(E:XK)(c:Cn)(σ:St)(ρ:List Sl)(τ:St)(θ:List Sl)(Q:Bool->Hp->Prop):Except Str Bool->Prop
 | .ok b=>∀H,Bd c σ H ρ τ θ->Q b H
 | .error x=>∀C H,K.mg x=some (.ref C)->Bd c σ H ρ τ θ->E (.ref C) none H
noncomputable def TTm(K:Kx)(E:XK)(m:Mi Bool):TT:=λσ H Q=>∃(c:Cn) (ρ:List Sl) (τ:St) (θ:List Sl) (o:Except Str Bool) (ρ':List Sl),c.toKx=K/\Bd c σ H ρ τ θ/\m ρ=some (o,ρ')/\HR K E c σ ρ' τ θ Q o
noncomputable def bI:List Rr->List V->St->St
 | r::rs,v::vs,τ=>bI rs vs (bj r v τ)
 | _,_,τ=>τ
noncomputable def bJ:List Rr->List Sl->List Sl
 | r::rs,θ=>bJ rs (bh r θ)
 | [],θ=>θ
noncomputable def VRs(σ:St):List Rr->List V->Prop
 | [],[]=>True
 | r::rs,v::vs=>VR σ r v/\VRs σ rs vs
 | _,_=>False
noncomputable def Hh(K:Kx)(E:XK)(c:Cn)(σ:St)(ρ:List Sl)(τ:St)(θ:List Sl)(Q:List V->Hp->Prop):Except Str (List Rr)->Prop
 | .ok rs=>∀vs H,VRs σ rs vs->Bd c σ H ρ (bI rs vs τ) (bJ rs θ)->Q vs H
 | .error x=>∀C H,K.mg x=some (.ref C)->Bd c σ H ρ τ θ->E (.ref C) none H
noncomputable def TAm(K:Kx)(E:XK)(m:Mi (List Rr)):TA:=λσ H Q=>∃(c:Cn) (ρ:List Sl) (τ:St) (θ:List Sl) (o:Except Str (List Rr)) (ρ':List Sl),c.toKx=K/\Bd c σ H ρ τ θ/\m ρ=some (o,ρ')/\Hh K E c σ ρ' τ θ Q o
noncomputable abbrev kx(X:Cx):Kx:=⟨X.K,X.mg⟩
structure JE (X:Cx) (E:XK) (e:Expr) (m:Mi Rr):Prop where
 p:PE X e (TEm (kx X) E m)
structure JT (X:Cx) (E:XK) (e:Expr) (m:Mi Bool):Prop where
 p:PT X e (TTm (kx X) E m)
structure JW (X:Cx) (E:XK) (e:Expr) (m:Mi Bool):Prop where
 p:PW X e (TTm (kx X) E m)
structure JA (X:Cx) (E:XK) (es:List Expr) (m:Mi (List Rr)):Prop where
 p:PA X es (TAm (kx X) E m)
theorem PE.weaken{X:Cx}{e:Expr}{t t':TE}(h:PE X e t)(f:∀σ H Q,t' σ H Q->t σ H Q):PE X e t':=λpins s σ H Q I q=>h pins s σ H Q I (f σ H Q q)
theorem PT.weaken{X:Cx}{e:Expr}{t t':TT}(h:PT X e t)(f:∀σ H Q,t' σ H Q->t σ H Q):PT X e t':=λpins s σ H Q I q=>h pins s σ H Q I (f σ H Q q)
theorem PW.weaken{X:Cx}{e:Expr}{t t':TT}(h:PW X e t)(f:∀σ H Q,t' σ H Q->t σ H Q):PW X e t':=λwh pins s σ H Q I q=>h wh pins s σ H Q I (f σ H Q q)
theorem PA.weaken{X:Cx}{e:List Expr}{t t':TA}(h:PA X e t)(f:∀σ H Q,t' σ H Q->t σ H Q):PA X e t':=λpos pins s σ H Q I q=>h pos pins s σ H Q I (f σ H Q q)
section
variable{c:Cn}{σ:St}{H:Hp}{ρ:List Sl}{τ:St}{θ:List Sl}
theorem Bd.drop{r:Rr}{v:V}(b:Bd c σ H ρ (bj r v τ) (bh r θ)):Bd c σ H ρ τ θ:=by
 cases r with
 | rf i=>exact b
 | fr a=>exact Bd.pop b
 | nw o=>exact Bd.pop b
theorem Bd.drops:∀{rs:List Rr}{vs:List V}{τ:St}{θ:List Sl},rs.length=vs.length->Bd c σ H ρ (bI rs vs τ) (bJ rs θ)->Bd c σ H ρ τ θ
 | [],[],_,_,_,b=>b
 | r::rs,v::vs,_,_,e,b=>Bd.drop (r:=r) (v:=v) (Bd.drops (by simpa using e) b)
 | [],_::_,_,_,e,_=>by simp at e
 | _::_,[],_,_,e,_=>by simp at e
theorem Bd.top{v:V}{s:Sl}{a:A}(b:Bd c σ H ρ (some v::τ) (s::θ))(e:s.a=some a):RA c.toKx H v a:=by
 obtain⟨L,nd,rel,_⟩:=b
 have rel:ao c.toKx (c.g H L) H (some v::(τ++σ)) (s::(θ++ρ)) L:=rel
 cases rel with
 | cons h r =>
  obtain⟨u,z,q⟩:=h.read (g_same _ _ _) e
  cases z;exact q
theorem Bd.rd{r:Rr}{v:V}{a:A}(b:Bd c σ H ρ (bj r v τ) (bh r θ))(hv:VR σ r v)(e:res ρ r=some a):RA c.toKx H v a:=by
 cases r with
 | rf i =>
  unfold res at e
  cases es:ρ[i]? with
  | none=>simp only[es] at e;cases e
  | some s =>
   simp only[es] at e
   obtain⟨u,h1,h2⟩:=Bd.slot b es e
   have hv:σ[i]?=some (some v):=hv
   rw[hv] at h1;cases h1;exact h2
 | fr a'=>cases e;exact Bd.top b rfl
 | nw o=>cases e;exact Bd.top b rfl
theorem SlR.items{k:Kx}{G H:Hp}{x:Option V}{s:Sl}{L:List Addr}(h:SlR k G H x s L)(sm:Sq G H) :
  (∀as,s.a=some (.lst as)->∃p vs,x=some (.ref p)/\SqL k.K H p vs/\RAs k G vs as)/\(∀as,s.a=some (.tup as)->∃p vs,x=some (.ref p)/\SqT k.K G p vs/\RAs k G vs as) /\
  (∀as,s.a=some (.dic as)->∃p vs,x=some (.ref p)/\Rd H p (.dK vs)/\RKs k G vs as):=by
 have lo:∀p o,LR k G H p o->(∀as,o.a=A.lst as->∃vs,SqL k.K H p vs/\RAs k G vs as)/\(∀as,o.a≠A.tup as)/\(∀as,o.a=A.dic as->∃vs,Rd H p (.dK vs)/\RKs k G vs as):=by
  intro p o h
  cases h with
  | lst e r=>exact⟨λas z=>by cases z;exact⟨_,.inl (.inl e),r⟩,λas z=>(by cases z),λas z=>(by cases z)⟩
  | dic e r=>exact⟨λas z=>(by cases z),λas z=>(by cases z),λas z=>by cases z;exact⟨_,.inl e,r⟩⟩
  | obj e m r=>exact⟨λas z=>(by cases z),λas z=>(by cases z),λas z=>(by cases z)⟩
 cases h with
 | un=>exact⟨λ_ z=>(by cases z),λ_ z=>(by cases z),λ_ z=>(by cases z)⟩
 | fr h =>
  refine⟨λas z=>?_,λas z=>?_,λas z=>?_⟩
  ·cases z;cases h with|lst e r=>exact⟨_,_,rfl,lL sm e,r⟩
  ·cases z;cases h with|tup e r=>exact⟨_,_,rfl,e,r⟩
  ·cases z;cases h with|dic e r=>exact⟨_,_,rfl,sm.rdD e,r⟩
 | lv h =>
  rename_i p o
  obtain⟨l1,l2,l3⟩:=lo p o h
  refine⟨λas z=>?_,λas z=>absurd (JV z) (l2 as),λas z=>?_⟩
  ·obtain⟨vs,h1,h2⟩:=l1 as (JV z);exact⟨p,vs,rfl,h1,h2⟩
  ·obtain⟨vs,h1,h2⟩:=l3 as (JV z);exact⟨p,vs,rfl,h1,h2⟩
 | pv h =>
  rename_i p o
  obtain⟨l1,l2,l3⟩:=lo p o h
  refine⟨λas z=>?_,λas z=>absurd (JV z) (l2 as),λas z=>?_⟩
  ·obtain⟨vs,h1,h2⟩:=l1 as (JV z);exact⟨p,vs,rfl,h1,h2⟩
  ·obtain⟨vs,h1,h2⟩:=l3 as (JV z);exact⟨p,vs,rfl,h1,h2⟩
noncomputable def It3(c:Cn)(H:Hp)(L:List Addr)(v:V)(a:A):Prop :=
  (∀as,a=.lst as->∃p vs,v=.ref p/\SqL c.K H p vs/\RAs c.toKx (c.g H L) vs as)/\(∀as,a=.tup as->∃p vs,v=.ref p/\SqT c.K (c.g H L) p vs/\RAs c.toKx (c.g H L) vs as) /\
  (∀as,a=.dic as->∃p vs,v=.ref p/\Rd H p (.dK vs)/\RKs c.toKx (c.g H L) vs as)
theorem It3.mono{L L':List Addr}{v:V}{a:A}(h:It3 c H L v a)(s:∀a,a∈L'->a∈L):It3 c H L' v a:=by
 obtain⟨h1,h2,h3⟩:=h
 refine⟨λas e=>?_,λas e=>?_,λas e=>?_⟩
 ·obtain⟨p,vs,q1,q2,q3⟩:=h1 as e;exact⟨p,vs,q1,q2,q3.sm (bM s)⟩
 ·obtain⟨p,vs,q1,q2,q3⟩:=h2 as e;exact⟨p,vs,q1,bU (bM s) q2,q3.sm (bM s)⟩
 ·obtain⟨p,vs,q1,q2,q3⟩:=h3 as e;exact⟨p,vs,q1,q2,q3.sm (bM s)⟩
theorem It3.of{L L2:List Addr}{x:Option V}{s:Sl}{v:V}{a:A}(ex:x=some v)(h:SlR c.toKx (c.g H L) H x s L2)(ea:s.a=some a):It3 c H L v a:=by
 subst ex
 obtain⟨l1,l2,l3⟩:=h.items (g_same _ _ _)
 refine⟨λas z=>?_,λas z=>?_,λas z=>?_⟩<;>subst z
 ·obtain⟨p,vs,q,h1,h2⟩:=l1 as ea;exact⟨p,vs,JV q,h1,h2⟩
 ·obtain⟨p,vs,q,h1,h2⟩:=l2 as ea;exact⟨p,vs,JV q,h1,h2⟩
 ·obtain⟨p,vs,q,h1,h2⟩:=l3 as ea;exact⟨p,vs,JV q,h1,h2⟩
theorem BdL.open{r:Rr}{v:V}{a:A}{L0:List Addr}(b:BdL c σ H ρ (bj r v τ) (bh r θ) L0)(hv:VR σ r v)(e:res ρ r=some a):∃L,(∀a,a∈L->a∈L0)/\BdL c σ H ρ τ θ L/\It3 c H L v a:=by
 have tmp:∀s,BdL c σ H ρ (some v::τ) (s::θ) L0->s.a=some a->∃L,(∀a,a∈L->a∈L0)/\BdL c σ H ρ τ θ L/\It3 c H L v a:=by
  intro s b ea
  obtain⟨nd,rel,own,fr,kp,lt,hdd⟩:=b
  have rel:ao c.toKx (c.g H L0) H (some v::(τ++σ)) (s::(θ++ρ)) L0:=rel
  cases rel with
  | cons h r =>
   rename_i L1 L2
   have sm:Sq (c.g H (L1++L2)) (c.g H L2):=bM λa ha=>JL _ ha
   exact⟨L2,λa ha=>JL _ ha,⟨(Kj.mp nd).2.1,r.sm sm (λ_ _ _ e=>e),λp hp=>own p (JL _ hp),fr,kp,by simpa using lt,hdd⟩,It3.of rfl (h.sm sm (λ_ _ _ e=>e)) ea⟩
 cases r with
 | rf i =>
  unfold res at e
  cases es:ρ[i]? with
  | none=>simp only[es] at e;cases e
  | some s =>
   simp only[es] at e
   obtain⟨L1,L2,e1,r1,r2⟩:=ao.split b.lt b.rel
   obtain⟨x,_,_,_,hx,hs,_⟩:=r2.at es
   have hv:σ[i]?=some (some v):=hv
   rw[hv] at hx
   exact⟨L0,λ_ h=>h,b,It3.of (JV hx).symm hs e⟩
 | fr a'=>exact tmp _ b e
 | nw o=>exact tmp _ b e
theorem Bd.open{r:Rr}{v:V}{a:A}(b:Bd c σ H ρ (bj r v τ) (bh r θ))(hv:VR σ r v)(e:res ρ r=some a):∃L,BdL c σ H ρ τ θ L/\It3 c H L v a:=by
 obtain⟨L,b⟩:=b
 obtain⟨L',_,h⟩:=b.open hv e
 exact⟨L',h⟩
theorem Bd.pY{r r':Rr}{v v':V}{a a':A}(b:Bd c σ H ρ (bj r' v' (bj r v τ)) (bh r' (bh r θ)))(hv:VR σ r v)(hv':VR σ r' v')(e:res ρ r=some a)(e':res ρ r'=some a'):∃L,BdL c σ H ρ τ θ L/\It3 c H L v a/\It3 c H L v' a':=by
 obtain⟨L,b⟩:=b
 obtain⟨L1,s1,b1,i1⟩:=b.open hv' e'
 obtain⟨L2,s2,b2,i2⟩:=b1.open hv e
 exact⟨L2,b2,i2,i1.mono s2⟩
end
end M
namespace M
open PySem L2
section
variable{X:Cx}{E:XK}
noncomputable def ag(i:Nat):Mi Rr:=λρ=>match ρ[i]? with
 | some (.fr a)=>some (.ok (.fr a),ρ)
 | some (.lv _)=>some (.ok (.rf i),ρ)
 | some (.pv _)=>some (.ok (.rf i),ρ)
 | _=>none
noncomputable def aM(i:Nat):Mi Rr:=λρ=>match ρ[i]? with
 | some (.fr a)=>some (.ok (.fr a),ρ)
 | some (.lv o)=>some (.ok (.fr o.a),ρ.set i (.fr o.a))
 | _=>none
noncomputable def mC(a:A):Mi Rr:=λρ=>some (.ok (.fr a),ρ)
theorem BR{i:Nat}{x:Str}{pos:Pos}(hN:X.N[i]?=some x)(hv:Vis X.env.scope x)(hd:NDb x)(hcd:NCd x):JE X E (.Name x pos) (ag i) :=
 ⟨PE.weaken (dN hN hv hd hcd) λσ H Q h=>by
  obtain⟨c,ρ,τ,θ,o,ρ',ek,b,em,q⟩:=h
  unfold ag at em
  cases es:ρ[i]? with
  | none=>simp only[es] at em;cases em
  | some s =>
   cases s with
   | un=>simp only[es] at em;cases em
   | fr a =>
    simp only[es] at em;cases em
    obtain⟨v,h1,h2⟩:=b.load es
    exact⟨v,h1,q v H trivial h2⟩
   | lv o =>
    simp only[es] at em;cases em
    obtain⟨v,h1,h2⟩:=b.slot es rfl
    exact⟨v,h1,q v H h1 b⟩
   | pv o =>
    simp only[es] at em;cases em
    obtain⟨v,h1,h2⟩:=b.slot es rfl
    exact⟨v,h1,q v H h1 b⟩⟩
theorem Ai{i:Nat}{x:Str}{pos:Pos}(hN:X.N[i]?=some x)(hv:Vis X.env.scope x)(hd:NDb x)(hcd:NCd x):JE X E (.Name x pos) (aM i) :=
 ⟨PE.weaken (dN hN hv hd hcd) λσ H Q h=>by
  obtain⟨c,ρ,τ,θ,o,ρ',ek,b,em,q⟩:=h
  unfold aM at em
  cases es:ρ[i]? with
  | none=>simp only[es] at em;cases em
  | some s =>
   cases s with
   | un=>simp only[es] at em;cases em
   | fr a =>
    simp only[es] at em;cases em
    obtain⟨v,h1,h2⟩:=b.load es
    exact⟨v,h1,q v H trivial h2⟩
   | lv o =>
    simp only[es] at em;cases em
    have b2:=b.kQ es
    have hi:i<ρ.length:=(J0.mp es).1
    obtain⟨v,h1,h2⟩:=b2.load (i:=i) (a:=o.a) (Kk hi)
    exact⟨v,h1,q v H trivial h2⟩
   | pv o=>simp only[es] at em;cases em⟩
theorem vJ{e:Expr}{v:V}{a:A}(h:PE X e (tC v))(r:∀G,RA (kx X) G v a):JE X E e (mC a):=⟨PE.weaken h λσ H Q h=>by
  obtain⟨c,ρ,τ,θ,o,ρ',ek,b,em,q⟩:=h
  cases em
  exact q v H trivial (b.push (by rw[ek];exact r))⟩
theorem Ca{i j pos}:JE X E (.Constant (.int i) j pos) (mC (.int i)):=vJ CY λ_=>.int _
theorem Im{b j pos}:JE X E (.Constant (.bool b) j pos) (mC (.bl b)):=vJ Fe λ_=>.bl _
theorem CV{j pos}:JE X E (.Constant .none j pos) (mC .non):=vJ D2 λ_=>.non
theorem ox{x j pos}:JE X E (.Constant (.str x) j pos) (mC (.str x)):=vJ BY λ_=>.str _
theorem z5{x:Str}{v:V}{u:Value}{pos:Pos}{a:A}(hg:Gl X x)(hm:X.mg x=some u)(r:RelV v u)(ra:∀G,RA (kx X) G v a)(hd:NDb x):JE X E (.Name x pos) (mC a):=vJ (lJ hg hm r hd) ra
noncomputable def mOp(f:A->A->Option Rr)(ma mb:Mi Rr):Mi Rr:=aq ma λx=>aq mb λy=>λρ=>match res ρ x,res ρ y with
 | some a,some b=>match f a b with
  | some r=>some (.ok r,ρ)
  | none=>none
 | _,_=>none
def OpS(K:Kx)(r:R2)(f:A->A->Option Rr):Prop:=∀(c:Cn)(σ:St)(H:Hp)(ρ:List Sl)(τ:St)(θ:List Sl)(x y:Rr)(v w:V)(a b:A)(q:Rr)(Q:VK),c.toKx=K->VR σ x v->VR σ y w ->
 Bd c σ H ρ (bj y w (bj x v τ)) (bh y (bh x θ))->res ρ x=some a->res ρ y=some b->f a b=some q->(∀u H',VR σ q u->Bd c σ H' ρ (bj q u τ) (bh q θ)->Q u H')->r v w H Q
theorem bind_some{α β:Type}{m:Mi α}{f:α->Mi β}{ρ:List Sl}{o:Except Str β}{ρ':List Sl}(h:aq m f ρ=some (o,ρ')):(∃x ρ1,m ρ=some (.ok x,ρ1)/\f x ρ1=some (o,ρ'))\/∃e,m ρ=some (.error e,ρ')/\o=.error e:=by
 unfold aq at h
 cases e:m ρ with
 | none=>simp only[e] at h;cases h
 | some p =>
  obtain⟨r,ρ1⟩:=p
  cases r with
  | ok x=>simp only[e] at h;exact .inl ⟨x,ρ1,rfl,h⟩
  | error x=>simp only[e] at h;cases h;exact .inr ⟨x,rfl,rfl⟩
theorem aP{σ:St}{H:Hp}{c:Cn}{ρ ρ':List Sl}{τ:St}{θ:List Sl}{β:Type}{ma:Mi Rr}{f:Rr->Mi β}{o:Except Str β}{Q:VK}(ek:c.toKx=kx X)(b:Bd c σ H ρ τ θ)(em:aq ma f ρ=some (o,ρ'))
  (h1:∀x v ρ1 H1,VR σ x v->Bd c σ H1 ρ1 (bj x v τ) (bh x θ)->f x ρ1=some (o,ρ')->Q v H1)
  (h2:∀e,o=.error e->∀C H,X.mg e=some (.ref C)->Bd c σ H ρ' τ θ->E (.ref C) none H):TEm (kx X) E ma σ H Q:=by
 rcases bind_some em with ⟨x,ρ1,e1,e2⟩|⟨e,e1,e2⟩
 ·exact⟨c,ρ,τ,θ,_,ρ1,ek,b,e1,λv H1 hv b1=>h1 x v ρ1 H1 hv b1 e2⟩
 ·exact⟨c,ρ,τ,θ,_,ρ',ek,b,e1,λC H1 hm b1=>h2 e e2 C H1 hm b1⟩
theorem gx{c:Cn}{σ:St}{ρ':List Sl}{τ:St}{θ:List Sl}{x:Rr}{v:V}{β:Type}{o:Except Str β}(h:∀e,o=.error e->∀C H,X.mg e=some (.ref C)->Bd c σ H ρ' τ θ->E (.ref C) none H) :
  ∀e,o=.error e->∀C H,X.mg e=some (.ref C)->Bd c σ H ρ' (bj x v τ) (bh x θ)->E (.ref C) none H:=λe ee C H hm b=>h e ee C H hm b.drop
theorem aL{c:Cn}{σ:St}{ρ':List Sl}{τ:St}{θ:List Sl}{o:Except Str Rr}{Q:VK}(q:Ret (kx X) E c σ ρ' τ θ Q o):∀e,o=.error e->∀C H,X.mg e=some (.ref C)->Bd c σ H ρ' τ θ->E (.ref C) none H:=λe ee=>by subst ee;exact q
theorem gr{c:Cn}{σ:St}{ρ':List Sl}{τ:St}{θ:List Sl}{o:Except Str Bool}{Q:Bool->Hp->Prop}(q:HR (kx X) E c σ ρ' τ θ Q o):∀e,o=.error e->∀C H,X.mg e=some (.ref C)->Bd c σ H ρ' τ θ->E (.ref C) none H:=λe ee=>by subst ee;exact q
theorem uP{c:Cn}{σ:St}{ρ':List Sl}{τ:St}{θ:List Sl}{o:Except Str (List Rr)}{Q:List V->Hp->Prop}(q:Hh (kx X) E c σ ρ' τ θ Q o):∀e,o=.error e->∀C H,X.mg e=some (.ref C)->Bd c σ H ρ' τ θ->E (.ref C) none H:=λe ee=>by subst ee;exact q
theorem yz{f:A->A->Option Rr}{x y:Rr}{ρ ρ':List Sl}{o:Except Str Rr}(h:(match res ρ x,res ρ y with|some a,some b=>(match f a b with|some r=>some ((.ok r:Except Str Rr),ρ)|none=>none)|_,_=>none)=some (o,ρ')) :
  ∃a b r,res ρ x=some a/\res ρ y=some b/\f a b=some r/\o=.ok r/\ρ'=ρ:=by
 cases e1:res ρ x with
 | none=>simp only[e1] at h;cases h
 | some a =>
  cases e2:res ρ y with
  | none=>simp only[e1,e2] at h;cases h
  | some b =>
   simp only[e1,e2] at h
   cases e3:f a b with
   | none=>simp only[e3] at h;cases h
   | some r=>simp only[e3] at h;cases h;exact⟨a,b,r,rfl,rfl,e3,rfl,rfl⟩
theorem bY{r:R2}{f:A->A->Option Rr}{ma mb:Mi Rr}(hf:OpS (kx X) r f)(σ:St)(H:Hp)(Q:VK)(h:TEm (kx X) E (mOp f ma mb) σ H Q):tOp r (TEm (kx X) E ma) (TEm (kx X) E mb) σ H Q:=by
 obtain⟨c,ρ,τ,θ,o,ρ',ek,b,em,q⟩:=h
 refine aP ek b em (λx v ρ1 H1 hv b1 em1=>?_) (aL q)
 refine aP ek b1 em1 (λy w ρ2 H2 hw b2 em2=>?_) (gx (aL q))
 obtain⟨a,d,r,e1,e2,e3,rfl,rfl⟩:=yz em2
 exact hf c σ H2 _ τ θ x y v w a d r Q ek hv hw b2 e1 e2 e3 q
theorem j1{op:Operator}{r:R2}{f:A->A->Option Rr}{a b:Expr}{ma mb:Mi Rr}{pos:Pos}(ho:OpR X (binaryOp op) r)(hf:OpS (kx X) r f)(ha:JE X E a ma)(hb:JE X E b mb):JE X E (.BinOp a op b pos) (mOp f ma mb) :=
 ⟨PE.weaken (Ik ho ha.p hb.p) (bY hf)⟩
theorem bH{op:CmpOp}{r:R2}{f:A->A->Option Rr}{a b:Expr}{ma mb:Mi Rr}{pos:Pos}(ho:OpR X (compareOp op) r)(hf:OpS (kx X) r f)(ha:JE X E a ma)(hb:JE X E b mb)(hm:behindInMarks op b=false):JE X E (.Compare a [op] [b] pos) (mOp f ma mb) :=
 ⟨PE.weaken (Ap ho ha.p hb.p hm) (bY hf)⟩
noncomputable def asB:Rr->Option Bool
 | .fr (.bl b)=>some b
 | _=>none
noncomputable def ai(m:Mi Rr):Mi Bool:=aq m λr ρ=>match asB r with
 | some b=>some (.ok b,ρ)
 | none=>none
theorem cz{m:Mi Rr}(σ:St)(H:Hp)(Q:Bool->Hp->Prop)(h:TTm (kx X) E (ai m) σ H Q):TEm (kx X) E m σ H λx H'=>∃k,x=.bl k/\Q k H':=by
 obtain⟨c,ρ,τ,θ,o,ρ',ek,b,em,q⟩:=h
 refine aP ek b em (λx v ρ1 H1 hv b1 em1=>?_) (gr q)
 cases x with
 | rf i=>cases em1
 | nw o=>cases em1
 | fr a =>
  cases a with
  | bl k =>
   cases em1
   have r:=Bd.top b1 (a:=.bl k) rfl
   cases r
   exact⟨k,rfl,q H1 b1.pop⟩
  | _=>cases em1
theorem bG{op:CmpOp}{r:R2}{f:A->A->Option Rr}{a b:Expr}{ma mb:Mi Rr}{pos:Pos}(ho:OpR X (compareOp op) r)(hf:OpS (kx X) r f)(ha:JE X E a ma)(hb:JE X E b mb)(hm:behindInMarks op b=false):JT X E (.Compare a [op] [b] pos) (ai (mOp f ma mb)) :=
 ⟨PT.weaken (xH ho ha.p hb.p hm) λσ H Q h=>bY hf σ H _ (cz σ H Q h)⟩
theorem BF{e:Expr}{m:Mi Rr}(h:JE X E e m)(he:∀whole,isTrue e X.env whole=(do let v <- whole;standAt e.pos;holding [v] (truthy v)):=by intro _;rfl):JT X E e (ai m) :=
 ⟨PT.weaken (Bn h.p he) λσ H Q h=>cz σ H Q h⟩
noncomputable def lM(m n:Mi Bool):Mi Bool:=aq m λb=>if b then n else cV false
noncomputable def mOr(m n:Mi Bool):Mi Bool:=aq m λb=>if b then cV true else n
noncomputable def dg(m:Mi Bool):Mi Bool:=aq m λb=>cV (!b)
theorem gL{σ:St}{H:Hp}{c:Cn}{ρ ρ':List Sl}{τ:St}{θ:List Sl}{β:Type}{m:Mi Bool}{f:Bool->Mi β}{o:Except Str β}{Q:Bool->Hp->Prop}(ek:c.toKx=kx X)(b:Bd c σ H ρ τ θ)(em:aq m f ρ=some (o,ρ'))
  (h1:∀k ρ1 H1,Bd c σ H1 ρ1 τ θ->f k ρ1=some (o,ρ')->Q k H1)
  (h2:∀e,o=.error e->∀C H,X.mg e=some (.ref C)->Bd c σ H ρ' τ θ->E (.ref C) none H):TTm (kx X) E m σ H Q:=by
 rcases bind_some em with ⟨x,ρ1,e1,e2⟩|⟨e,e1,e2⟩
 ·exact⟨c,ρ,τ,θ,_,ρ1,ek,b,e1,λH1 b1=>h1 x ρ1 H1 b1 e2⟩
 ·exact⟨c,ρ,τ,θ,_,ρ',ek,b,e1,λC H1 hm b1=>h2 e e2 C H1 hm b1⟩
theorem BQ{a:Expr}{m:Mi Bool}{pos:Pos}(h:JT X E a m):JT X E (.UnaryOp .Not a pos) (dg m):=⟨PT.weaken (C8 h.p) λσ H Q h=>by
 obtain⟨c,ρ,τ,θ,o,ρ',ek,b,em,q⟩:=h
 refine gL ek b em (λk ρ1 H1 b1 em1=>?_) (gr q)
 cases em1;exact q H1 b1⟩
theorem ze{a:Expr}{m:Mi Bool}{pos:Pos}(h:JT X E a m):JW X E (.BoolOp .And [a] pos) m:=⟨yp h.p⟩
theorem DP{a:Expr}{m:Mi Bool}{pos:Pos}(h:JT X E a m):JW X E (.BoolOp .Or [a] pos) m:=⟨BP h.p⟩
theorem C9{a b:Expr}{rest:List Expr}{m n:Mi Bool}{pos:Pos}(h:JT X E a m)(h':JW X E (.BoolOp .And (b::rest) pos) n):JW X E (.BoolOp .And (a::b::rest) pos) (lM m n):=⟨PW.weaken (E2 h.p h'.p) λσ H Q h=>by
 obtain⟨c,ρ,τ,θ,o,ρ',ek,b,em,q⟩:=h
 refine gL ek b em (λk ρ1 H1 b1 em1=>?_) (gr q)
 cases k with
 | true=>rw[if_pos rfl];exact⟨c,ρ1,τ,θ,o,ρ',ek,b1,em1,q⟩
 | false=>rw[if_neg (by decide)];cases em1;exact q H1 b1⟩
theorem GH{a b:Expr}{rest:List Expr}{m n:Mi Bool}{pos:Pos}(h:JT X E a m)(h':JW X E (.BoolOp .Or (b::rest) pos) n):JW X E (.BoolOp .Or (a::b::rest) pos) (mOr m n):=⟨PW.weaken (E7 h.p h'.p) λσ H Q h=>by
 obtain⟨c,ρ,τ,θ,o,ρ',ek,b,em,q⟩:=h
 refine gL ek b em (λk ρ1 H1 b1 em1=>?_) (gr q)
 cases k with
 | true=>rw[if_pos rfl];cases em1;exact q H1 b1
 | false=>rw[if_neg (by decide)];exact⟨c,ρ1,τ,θ,o,ρ',ek,b1,em1,q⟩⟩
theorem G3{e:Expr}{m:Mi Bool}(h:JW X E e m):JT X E e m:=⟨h.p.pt⟩
noncomputable def kr(m n:Mi Rr):Mi Rr:=aq (ai m) λb=>if b then n else mC (.bl false)
noncomputable def uM(m n:Mi Rr):Mi Rr:=aq (ai m) λb=>if b then mC (.bl true) else n
noncomputable def qx(m:Mi Rr):Mi Rr:=aq (ai m) λb=>mC (.bl (!b))
theorem md{σ:St}{H:Hp}{c:Cn}{ρ ρ':List Sl}{τ:St}{θ:List Sl}{β:Type}{m:Mi Rr}{f:Bool->Mi β}{o:Except Str β}{Q:Bool->Hp->Prop}(ek:c.toKx=kx X)(b:Bd c σ H ρ τ θ)(em:aq (ai m) f ρ=some (o,ρ'))
  (h1:∀k ρ1 H1,Bd c σ H1 ρ1 τ θ->f k ρ1=some (o,ρ')->Q k H1)
  (h2:∀e,o=.error e->∀C H,X.mg e=some (.ref C)->Bd c σ H ρ' τ θ->E (.ref C) none H):TEm (kx X) E m σ H λx H'=>∃k,x=.bl k/\Q k H' :=
 cz σ H Q (gL ek b em h1 h2)
theorem BK{op}{a:Expr}{m:Mi Rr}{pos:Pos}(h:JE X E a m):JE X E (.BoolOp op [a] pos) m:=⟨Dl h.p⟩
theorem ES{a b:Expr}{rest:List Expr}{m n:Mi Rr}{pos:Pos}(h:JE X E a m)(h':JE X E (.BoolOp .And (b::rest) pos) n):JE X E (.BoolOp .And (a::b::rest) pos) (kr m n):=⟨PE.weaken (EG h.p h'.p) λσ H Q h=>by
 obtain⟨c,ρ,τ,θ,o,ρ',ek,b,em,q⟩:=h
 refine md (Q:=λk H1=>if k=true then TEm (kx X) E n σ H1 Q else Q (.bl false) H1) ek b em (λk ρ1 H1 b1 em1=>?_) (aL q)
 cases k with
 | true=>rw[if_pos rfl];exact⟨c,ρ1,τ,θ,o,ρ',ek,b1,em1,q⟩
 | false=>rw[if_neg (by decide)];cases em1;exact q (.bl false) H1 trivial (b1.push λ_=>.bl _)⟩
theorem GN{a b:Expr}{rest:List Expr}{m n:Mi Rr}{pos:Pos}(h:JE X E a m)(h':JE X E (.BoolOp .Or (b::rest) pos) n):JE X E (.BoolOp .Or (a::b::rest) pos) (uM m n):=⟨PE.weaken (FN h.p h'.p) λσ H Q h=>by
 obtain⟨c,ρ,τ,θ,o,ρ',ek,b,em,q⟩:=h
 refine md (Q:=λk H1=>if k=true then Q (.bl true) H1 else TEm (kx X) E n σ H1 Q) ek b em (λk ρ1 H1 b1 em1=>?_) (aL q)
 cases k with
 | true=>rw[if_pos rfl];cases em1;exact q (.bl true) H1 trivial (b1.push λ_=>.bl _)
 | false=>rw[if_neg (by decide)];exact⟨c,ρ1,τ,θ,o,ρ',ek,b1,em1,q⟩⟩
theorem B0{a:Expr}{m:Mi Rr}{pos:Pos}(h:JE X E a m):JE X E (.UnaryOp .Not a pos) (qx m):=⟨PE.weaken (BC h.p) λσ H Q h=>by
 obtain⟨c,ρ,τ,θ,o,ρ',ek,b,em,q⟩:=h
 refine md (Q:=λk H1=>Q (.bl (!k)) H1) ek b em (λk ρ1 H1 b1 em1=>?_) (aL q)
 cases em1;exact q (.bl (!k)) H1 trivial (b1.push λ_=>.bl _)⟩
noncomputable def mIf(t:Mi Bool)(m n:Mi Rr):Mi Rr:=aq t λb=>if b then m else n
theorem GA{t a b:Expr}{mt:Mi Bool}{m n:Mi Rr}{pos:Pos}(ht:JT X E t mt)(ha:JE X E a m)(hb:JE X E b n):JE X E (.IfExp t a b pos) (mIf mt m n):=⟨PE.weaken (uT ht.p ha.p hb.p) λσ H Q h=>by
 obtain⟨c,ρ,τ,θ,o,ρ',ek,b,em,q⟩:=h
 refine gL ek b em (λk ρ1 H1 b1 em1=>?_) (aL q)
 cases k with
 | true=>rw[if_pos rfl];exact⟨c,ρ1,τ,θ,o,ρ',ek,b1,em1,q⟩
 | false=>rw[if_neg (by decide)];exact⟨c,ρ1,τ,θ,o,ρ',ek,b1,em1,q⟩⟩
noncomputable def az:Mi (List Rr):=cV []
noncomputable def ae(m:Mi Rr)(n:Mi (List Rr)):Mi (List Rr):=aq m λr=>aq n λrs=>cV (r::rs)
theorem vt:JA X E [] az:=⟨PA.weaken cg λσ H Q h=>by
 obtain⟨c,ρ,τ,θ,o,ρ',ek,b,em,q⟩:=h
 cases em;exact q [] H trivial b⟩
theorem rz{e:Expr}{es:List Expr}{m:Mi Rr}{n:Mi (List Rr)}(h:JE X E e m)(h':JA X E es n)(hs:starEach (e::es) X.env=(false,eval e X.env)::starEach es X.env:=by rfl):JA X E (e::es) (ae m n):=⟨PA.weaken (a6 h.p h'.p hs) λσ H Q h=>by
 obtain⟨c,ρ,τ,θ,o,ρ',ek,b,em,q⟩:=h
 refine aP ek b em (λx v ρ1 H1 hv b1 em1=>?_) (uP q)
 rcases bind_some em1 with ⟨rs,ρ2,e1,e2⟩|⟨e,e1,e2⟩
 ·cases e2
  exact⟨c,ρ1,_,_,_,ρ',ek,b1,e1,λvs H2 hvs b2=>q (v::vs) H2 ⟨hv,hvs⟩ b2⟩
 ·subst e2
  exact⟨c,ρ1,_,_,_,ρ',ek,b1,e1,λC H2 hm b2=>q C H2 hm b2.drop⟩⟩
end
end M
namespace M
open PySem L2
section
variable{c:Cn}{σ:St}{H:Hp}{ρ:List Sl}{τ:St}{θ:List Sl}
theorem w8{α:Type}{l:List α}{i:Nat}{x:α}(h:l[i]?=some x):l.set i x=l:=by
 apply L9;intro j
 by_cases z:j=i
 ·subst z;rw[Kk (J0.mp h).1,h]
 ·rw[Kz (KJ z)]
theorem HV{c:Cn}{H:Hp}{L L':List Addr}(h:∀a,a∈L↔a∈L'):c.g H L=c.g H L':=by
 funext a
 by_cases z:a∈L\/a∈c.Hd
 ·rw[gC z,gC (by rwa[<- h a])]
 ·rw[aU (λy=>z (.inl y)) (λy=>z (.inr y)),aU (λy=>z (.inl ((h a).mpr y))) (λy=>z (.inr y))]
theorem BdL.perm{L L':List Addr}(b:BdL c σ H ρ τ θ L){τ':St}{θ':List Sl}{ρ':List Sl}(pm:L'.Perm L)(lt:τ'.length=θ'.length)(r:ao c.toKx (c.g H L) H (τ'++σ) (θ'++ρ') L')(kp:eu c.σ0 σ ρ'):BdL c σ H ρ' τ' θ' L' :=
 ⟨(pm.nodup_iff).mpr b.nd,by rw[HV (L':=L) λa=>pm.mem_iff];exact r,λp hp=>b.own p (pm.mem_iff.mp hp),b.fr,kp,lt,b.hd⟩
theorem Bd.F2{xs:St}{ss:List Sl}{v:V}{o:LO}(e:xs.length=ss.length)(b:Bd c σ H ρ (xs++some v::τ) (ss++.lv o::θ)):Bd c σ H ρ (xs++some v::τ) (ss++.fr o.a::θ):=by
 obtain⟨L,b⟩:=b
 have r:ao c.toKx (c.g H L) H (xs++(some v::(τ++σ))) (ss++(.lv o::(θ++ρ))) L:=by have:=b.rel;simpa[JY] using this
 obtain⟨L1,L2,e1,r1,r2⟩:=ao.split e r
 cases r2 with
 | cons h r3 =>
  rename_i La Lb
  cases h with
  | lv h =>
   rename_i p
   have nd:=b.nd
   rw[e1] at nd
   have hp:p∉L1++Lb:=by
    obtain⟨n1,n2,n3⟩:=Kj.mp nd
    obtain⟨m1,m2⟩:=Kt.mp n2
    intro z
    rcases J5.mp z with z|z
    ·exact n3 p z p (by simp) rfl
    ·exact m1 z
   have sub:∀a,a∈L1++Lb->a∈L:=λa ha=>by rw[e1];simp at ha ⊢;rcases ha with z|z<;>simp[z]
   have sm:Sq (c.g H L) (c.g H (L1++Lb)):=bM sub
   have hin:p∈L:=by rw[e1];simp
   refine⟨L1++Lb,?_,?_,λq hq=>b.own q (sub q hq),b.fr,b.kp,by have:=b.lt;simp at this ⊢;omega,b.hd⟩
   ·obtain⟨n1,n2,n3⟩:=Kj.mp nd
    exact Kj.mpr ⟨n1,(Kt.mp n2).2,λa ha b' hb=>n3 a ha b' (JQ _ hb)⟩
   ·have:=(r1.sm sm (λ_ _ _ e=>e)).app (ao.cons (L:=[]) (.fr (h.a' sm λu e=>by rw[aU hp (b.nhd hin)];exact e)) (r3.sm sm (λ_ _ _ e=>e)))
    simpa[JY] using this
theorem Bd.Eo{xs:St}{ss:List Sl}{v:V}{a:A}{i:Nat}(e:xs.length=ss.length)(b:Bd c σ H ρ (xs++τ) (ss++θ))(hv:σ[i]?=some (some v))(hs:ρ[i]?=some (.fr a)):Bd c σ H ρ (xs++some v::τ) (ss++.fr a::θ):=by
 obtain⟨L,b⟩:=b
 obtain⟨M1,M2,_,_,r2⟩:=ao.split b.lt b.rel
 obtain⟨x,_,_,_,hx,hsl,_⟩:=r2.at hs
 rw[hv] at hx;cases hx
 cases hsl with
 | fr h =>
  have r:ao c.toKx (c.g H L) H (xs++(τ++σ)) (ss++(θ++ρ)) L:=by have:=b.rel;simpa[JY] using this
  obtain⟨L1,L2,e1,r1,r2⟩:=ao.split e r
  refine⟨L,b.nd,?_,b.own,b.fr,b.kp,by have:=b.lt;simp at this ⊢;omega,b.hd⟩
  have:=r1.app (ao.cons (L:=[]) (.fr h) r2)
  rw[e1] at this ⊢
  simpa[JY] using this
theorem vc(L1 L2 M1 M3:List Addr)(p:Addr):(L1++p::(L2++(M1++M3))).Perm (L1++(L2++(M1++p::M3))):=by
 rw[MB];intro a;simp only[MU,O4];omega
theorem Bd.DG{xs:St}{ss:List Sl}{v:V}{o:LO}{i:Nat}{s:Sl}(e:xs.length=ss.length)(b:Bd c σ H ρ (xs++τ) (ss++θ))(hv:σ[i]?=some (some v))(hs:ρ[i]?=some s)(hk:s=.lv o\/s=.pv o) :
  Bd c σ H (ρ.set i .un) (xs++some v::τ) (ss++.lv o::θ):=by
 obtain⟨L,b⟩:=b
 have r:ao c.toKx (c.g H L) H (xs++(τ++σ)) (ss++(θ++ρ)) L:=by have:=b.rel;simpa[JY] using this
 obtain⟨L1,L2,e1,r1,r2⟩:=ao.split e r
 obtain⟨N1,N2,e2,r3,r4⟩:=ao.split (by have:=b.lt;simp at this;omega) r2
 obtain⟨x,M1,M2,M3,hx,hsl,e3,ins⟩:=r4.at hs
 rw[hv] at hx;cases hx
 have fin:∀p,v=.ref p->M2=[p]->LR c.toKx (c.g H L) H p o->Bd c σ H (ρ.set i .un) (xs++some v::τ) (ss++.lv o::θ):=by
  intro p ev em h
  subst ev em
  have r5:=ins (y:=some (.ref p)) (t:=.un) (L':=[]) (Sq.refl _) (λ_ _ _ e=>e) (.un _)
  rw[w8 hv] at r5
  have r6:=r1.app (ao.cons (SlR.lv h) (r3.app r5))
  have pm:(L1++([p]++(N1++(M1++[]++M3)))).Perm L:=by
   rw[e1,e2,e3]
   simpa using vc L1 N1 M1 M3 p
  exact⟨_,b.perm pm (by have:=b.lt;simp at this ⊢;omega) (by simpa[JY] using r6) (b.kp.zy (λo z=>by cases z))⟩
 rcases hk with rfl|rfl
 ·cases hsl with|lv h=>exact fin _ rfl rfl h
 ·cases hsl with|pv h=>exact fin _ rfl rfl h
theorem Bd.putBack{v:V}{o:LO}{i:Nat}{t:Sl}(b:Bd c σ H ρ (some v::τ) (.lv o::θ))(hv:σ[i]?=some (some v))(hs:ρ[i]?=some .un)(hk:t=.lv o\/(t=.pv o/\σ[i]?=c.σ0[i]?)):Bd c σ H (ρ.set i t) τ θ:=by
 obtain⟨L,b⟩:=b
 have r:ao c.toKx (c.g H L) H (some v::(τ++σ)) (.lv o::(θ++ρ)) L:=b.rel
 cases r with
 | cons h r =>
  rename_i L0 L'
  obtain⟨L1,L2,e1,r1,r2⟩:=ao.split (by have:=b.lt;simpa using this) r
  obtain⟨x,M1,M2,M3,hx,hsl,e3,ins⟩:=r2.at hs
  cases hsl with
  | un =>
   cases h with
   | lv h =>
    rename_i p
    have fin:SlR c.toKx (c.g H ([p]++L')) H (some (.ref p)) t [p]->eu c.σ0 σ (ρ.set i t)->Bd c σ H (ρ.set i t) τ θ:=λh kp=>by
     have r5:=ins (Sq.refl _) (λ_ _ _ e=>e) h
     rw[w8 hv] at r5
     have pm:(L1++(M1++[p]++M3)).Perm ([p]++L'):=by
      rw[e1,e3];rw[MB];intro a;simp only[MU,O4,List.count_nil];omega
     exact⟨_,b.perm pm (by have:=b.lt;simpa using this) (r1.app r5) kp⟩
    rcases hk with rfl|⟨rfl,hk⟩
    ·exact fin (.lv h) (b.kp.zy (λ_ z=>by cases z))
    ·refine fin (.pv h) λj o' q=>?_
     by_cases z:j=i
     ·subst z;exact hk
     ·rw[Kz (KJ z)] at q;exact b.kp j o' q
theorem bS:∀(rs:List Rr)(vs:List V)(τ:St),bI rs vs τ=bI rs vs []++τ
 | [],_,τ=>rfl
 | r::rs,[],τ=>rfl
 | r::rs,v::vs,τ=>by
  show bI rs vs (bj r v τ)=bI rs vs (bj r v [])++τ
  rw[bS rs vs (bj r v τ),bS rs vs (bj r v []),JY]
  congr 1
  cases r<;>rfl
theorem bV:∀(rs:List Rr)(θ:List Sl),bJ rs θ=bJ rs []++θ
 | [],θ=>rfl
 | r::rs,θ=>by
  show bJ rs (bh r θ)=bJ rs (bh r [])++θ
  rw[bV rs (bh r θ),bV rs (bh r []),JY]
  congr 1
  cases r<;>rfl
theorem VRs.len:∀{rs:List Rr}{vs:List V},VRs σ rs vs->rs.length=vs.length
 | [],[],_=>rfl
 | _::rs,_::vs,h=>by rw[JZ,JZ,VRs.len h.2]
 | [],_::_,h=>h.elim
 | _::_,[],h=>h.elim
theorem mf:∀(rs:List Rr)(vs:List V),rs.length=vs.length->(bI rs vs []).length=(bJ rs []).length
 | [],[],_=>rfl
 | r::rs,v::vs,h=>by
  show (bI rs vs (bj r v [])).length=(bJ rs (bh r [])).length
  rw[bS,bV,Kg,Kg,mf rs vs (by simpa using h)]
  congr 1
  cases r<;>rfl
 | [],_::_,h=>by simp at h
 | _::_,[],h=>by simp at h
noncomputable def aQ:Rr->List Sl->Option (A×List Sl)
 | .fr a,ρ=>some (a,ρ)
 | .nw o,ρ=>some (o.a,ρ)
 | .rf i,ρ=>match ρ[i]? with
  | some (.lv o)=>some (o.a,ρ.set i (.fr o.a))
  | some (.fr a)=>some (a,ρ)
  | _=>none
noncomputable def cO:List Rr->List Sl->Option (List A×List Sl)
 | [],ρ=>some ([],ρ)
 | r::rs,ρ=>match aQ r ρ with
  | some (a,ρ1)=>match cO rs ρ1 with
   | some (as,ρ2)=>some (a::as,ρ2)
   | none=>none
  | none=>none
theorem Bd.aQ{r:Rr}{v:V}{a:A}{ρ':List Sl}{xs:St}{ss:List Sl}(e:xs.length=ss.length)(b:Bd c σ H ρ (xs++bj r v τ) (ss++bh r θ))(hv:VR σ r v)(h:aQ r ρ=some (a,ρ')):Bd c σ H ρ' (xs++some v::τ) (ss++.fr a::θ):=by
 cases r with
 | fr a'=>cases h;exact b
 | nw o=>cases h;exact Bd.F2 e b
 | rf i =>
  unfold M.aQ at h
  cases es:ρ[i]? with
  | none=>simp only[es] at h;cases h
  | some s =>
   cases s with
   | un=>simp only[es] at h;cases h
   | pv o=>simp only[es] at h;cases h
   | fr a'=>simp only[es] at h;cases h;exact Bd.Eo e b hv es
   | lv o =>
    simp only[es] at h;cases h
    have b2:=Bd.kQ b es
    exact Bd.Eo e b2 hv (Kk (J0.mp es).1)
theorem sN{r:Rr}{rs:List Rr}{ρ ρ':List Sl}{as:List A}(h:cO (r::rs) ρ=some (as,ρ')):∃a as' ρ1,aQ r ρ=some (a,ρ1)/\cO rs ρ1=some (as',ρ')/\as=a::as':=by
 unfold cO at h
 cases e1:aQ r ρ with
 | none=>simp only[e1] at h;cases h
 | some p =>
  obtain⟨a,ρ1⟩:=p
  simp only[e1] at h
  cases e2:cO rs ρ1 with
  | none=>simp only[e2] at h;cases h
  | some q=>obtain⟨as',ρ2⟩:=q;simp only[e2] at h;cases h;exact⟨a,as',ρ1,rfl,e2,rfl⟩
theorem Bd.cO:∀{rs:List Rr}{vs:List V}{as:List A}{ρ ρ':List Sl}{τ:St}{θ:List Sl},VRs σ rs vs->Bd c σ H ρ (bI rs vs τ) (bJ rs θ)->cO rs ρ=some (as,ρ')->Bd c σ H ρ' (vs.reverse.map some++τ) (as.reverse.map Sl.fr++θ)/\vs.length=as.length
 | [],[],_,_,_,_,_,_,b,h=>by cases h;exact⟨b,rfl⟩
 | r::rs,v::vs,_,ρ,ρ',τ,θ,hv,b,h=>by
  obtain⟨a,as,ρ1,e1,e2,rfl⟩:=sN h
  have b:Bd c σ H ρ (bI rs vs (bj r v τ)) (bJ rs (bh r θ)):=b
  rw[bS,bV] at b
  have b1:=Bd.aQ (mf rs vs (VRs.len hv.2)) b hv.1 e1
  rw[<- bS rs vs (some v::τ),<- bV rs (.fr a::θ)] at b1
  obtain⟨b2,e3⟩:=Bd.cO hv.2 b1 e2
  exact⟨by simpa using b2,by simp[e3]⟩
 | [],_::_,_,_,_,_,_,h,_,_=>h.elim
 | _::_,[],_,_,_,_,_,h,_,_=>h.elim
end
section
variable{X:Cx}{E:XK}
theorem qo{σ:St}{H:Hp}{c:Cn}{ρ ρ':List Sl}{τ:St}{θ:List Sl}{β:Type}{m:Mi (List Rr)}{f:List Rr->Mi β}{o:Except Str β}{Q:List V->Hp->Prop}(ek:c.toKx=kx X)(b:Bd c σ H ρ τ θ)(em:aq m f ρ=some (o,ρ'))
  (h1:∀rs vs ρ1 H1,VRs σ rs vs->Bd c σ H1 ρ1 (bI rs vs τ) (bJ rs θ)->f rs ρ1=some (o,ρ')->Q vs H1)
  (h2:∀ e,o = .error e → ∀ C H,X.mg e = some (.ref C) → Bd c σ H ρ' τ θ → E (.ref C) none H):TAm (kx X) E m σ H Q:=by
 rcases bind_some em with ⟨x,ρ1,e1,e2⟩ | ⟨e,e1,e2⟩
 ·exact ⟨c,ρ,τ,θ,_,ρ1,ek,b,e1,fun vs H1 hv b1=>h1 x vs ρ1 H1 hv b1 e2⟩
 ·exact ⟨c,ρ,τ,θ,_,ρ',ek,b,e1,fun C H1 hm b1=>h2 e e2 C H1 hm b1⟩
noncomputable def g9 (m:Mi (List Rr)):Mi Rr:=aq m fun rs ρ=>match cO rs ρ with
 | some (as,ρ')=>if as.length<=1000 then some (.ok (.fr (.tup as)),ρ') else none
 | none=>none
noncomputable def fJ(m:Mi (List Rr)):Mi Rr:=aq m λrs ρ=>match cO rs ρ with
 | some (as,ρ')=>if as.length<=1000 then some (.ok (.nw (.lst as)),ρ') else none
 | none=>none
theorem k6{k:Kx}{vs:List V}{as:List A}:∀G,RAs k G vs.reverse as.reverse->RAs k G vs as:=λG h=>by have:=h.rev;simpa using this
theorem ny:1000<=sizeLine:=by rw[sizeLine_eq];decide
theorem Dc{es:List Expr}{m:Mi (List Rr)}{x1 pos}(h:JA X E es m):JE X E (.Tuple es x1 pos) (g9 m):=⟨PE.weaken (wg h.p) λσ H Q h=>by
 obtain⟨c,ρ,τ,θ,o,ρ',ek,b,em,q⟩:=h
 refine qo ek b em (λrs vs ρ1 H1 hv b1 em1=>?_) (aL q)
 cases e1:cO rs ρ1 with
 | none=>simp only[e1] at em1;cases em1
 | some p =>
  obtain⟨as,ρ2⟩:=p
  simp only[e1] at em1
  obtain⟨b2,e2⟩:=Bd.cO hv b1 e1
  split at em1
  ·rename_i hl
   cases em1
   exact⟨by have:=ny;omega,λp hp=>q (.ref p) _ trivial (Bd.BA b2 (by simp[e2]) hp vs as k6)⟩
  ·cases em1⟩
theorem CK{es:List Expr}{m:Mi (List Rr)}{pos}(h:JA X E es m):JE X E (.List es pos) (fJ m):=⟨PE.weaken (Ew h.p) λσ H Q h=>by
 obtain⟨c,ρ,τ,θ,o,ρ',ek,b,em,q⟩:=h
 refine qo ek b em (λrs vs ρ1 H1 hv b1 em1=>?_) (aL q)
 cases e1:cO rs ρ1 with
 | none=>simp only[e1] at em1;cases em1
 | some p =>
  obtain⟨as,ρ2⟩:=p
  simp only[e1] at em1
  obtain⟨b2,e2⟩:=Bd.cO hv b1 e1
  split at em1
  ·rename_i hl
   cases em1
   exact⟨by have:=ny;omega,λp hp=>q (.ref p) _ trivial (Bd.o9 b2 (by simp[e2]) hp vs as k6)⟩
  ·cases em1⟩
end
end M
namespace M
open PySem L2
inductive Fl where
 | nx|rt (s:Sl)|bk|ct|ex (c:Str)
noncomputable abbrev Ms:=List Sl->Option (Fl×List Sl)
noncomputable def ar:Nat->List Sl->List Sl
 | 0,_=>[]
 | n+1,[]=>.un::ar n []
 | n+1,.pv o::ρ=>.pv o::ar n ρ
 | n+1,_::ρ=>.un::ar n ρ
noncomputable def SpM(K:Kx)(n:Nat)(m:Ms):Sp:=λvs H Q E=>vs.length=n/\∃(c:Cn) (ρ:List Sl) (f:Fl) (ρ':List Sl),c.toKx=K/\c.σ0=vs.map some/\c.H0=H/\BdL c (vs.map some) H ρ [] [] c.Lp/\m ρ=some (f,ρ') /\
  (match f with
   | .rt s=>∀v H',(∀o,s≠.pv o)->Bd c (vs.map some) H' (ar vs.length ρ') [some v] [s]->Q v H'
   | .ex x=>∀C H',K.mg x=some (.ref C)->Bd c (vs.map some) H' (ar vs.length ρ') [] []->E (.ref C) none H'
   | _=>False)
section
variable{k:Kx}{G H:Hp}
theorem ao.back:∀{σ0 σ:St}{ρ:List Sl}{L:List Addr},ao k G H σ ρ L->(∀(i:Nat)(o:LO),ρ[i]?=some (.pv o)->i<σ0.length->σ[i]?=σ0[i]?)->∃L',L'.Sublist L/\ao k G H σ0 (ar σ0.length ρ) L'
 | [],_,_,_,_,_=>⟨[],OT _,.nil⟩
 | x::σ0,_,_,_,.nil,h=>by
  obtain⟨L',s,r⟩:=ao.back (σ0:=σ0) (σ:=[]) (ρ:=[]) .nil (λi o e=>by simp at e)
  exact⟨L',s,ao.cons (L:=[]) (.un x) r⟩
 | x::σ0,_,_,_,.cons (x:=y) (s:=s) (ρ:=ρ1) (L:=L1) (L':=L2) hs r,h=>by
  obtain⟨L',sl,r'⟩:=ao.back (σ0:=σ0) r (λi o e hi=>by have:=h (i+1) o e (by simpa using hi);simpa using this)
  have fin:ar (x::σ0).length (s::ρ1)=.un::ar σ0.length ρ1->∃L',L'.Sublist (L1++L2)/\ao k G H (x::σ0) (ar (x::σ0).length (s::ρ1)) L':=λe=>by
   rw[e]
   exact⟨L',sl.trans (L6 _ _),ao.cons (L:=[]) (.un x) r'⟩
  cases s with
  | un=>exact fin rfl
  | fr a=>exact fin rfl
  | lv o=>exact fin rfl
  | pv o =>
   have e:=h 0 o rfl (by simp)
   have e:y=x:=by simpa using e
   subst e
   exact⟨L1++L',KS (K0 _) sl,ao.cons hs r'⟩
end
section
variable{c:Cn}{σ:St}{H:Hp}{ρ:List Sl}{τ:St}{θ:List Sl}
theorem Bd.back(b:Bd c σ H ρ τ θ):Bd c c.σ0 H (ar c.σ0.length ρ) τ θ:=by
 obtain⟨L,b⟩:=b
 obtain⟨L1,L2,e1,r1,r2⟩:=ao.split b.lt b.rel
 obtain⟨L',sl,r⟩:=r2.back (σ0:=c.σ0) (λi o e _=>b.kp i o e)
 have sl2:(L1++L').Sublist L:=by rw[e1];exact KS (K0 _) sl
 have sm:Sq (c.g H L) (c.g H (L1++L')):=bM λa ha=>sl2.subset ha
 exact⟨L1++L',b.nd.sublist sl2,(r1.app r).sm sm (λ_ _ _ e=>e),λp hp=>b.own p (sl2.subset hp),b.fr,λi o _=>rfl,b.lt,b.hd⟩
noncomputable def take1:Rr->List Sl->Option (Sl×List Sl)
 | .fr a,ρ=>some (.fr a,ρ)
 | .nw o,ρ=>some (.fr o.a,ρ)
 | .rf i,ρ=>match ρ[i]? with
  | some (.lv o)=>some (.lv o,ρ.set i .un)
  | some (.pv o)=>some (.lv o,ρ.set i .un)
  | some (.fr a)=>some (.fr a,ρ)
  | _=>none
noncomputable def bZ:List Rr->List Sl->Option (List Sl×List Sl)
 | [],ρ=>some ([],ρ)
 | r::rs,ρ=>match take1 r ρ with
  | some (a,ρ1)=>match bZ rs ρ1 with
   | some (as,ρ2)=>some (a::as,ρ2)
   | none=>none
  | none=>none
noncomputable def toP:Sl->Sl
 | .lv o=>.pv o
 | s=>s
theorem oS{r:Rr}{rs:List Rr}{ρ ρ':List Sl}{as:List Sl}(h:bZ (r::rs) ρ=some (as,ρ')):∃a as' ρ1,take1 r ρ=some (a,ρ1)/\bZ rs ρ1=some (as',ρ')/\as=a::as':=by
 unfold bZ at h
 cases e1:take1 r ρ with
 | none=>simp only[e1] at h;cases h
 | some p =>
  obtain⟨a,ρ1⟩:=p
  simp only[e1] at h
  cases e2:bZ rs ρ1 with
  | none=>simp only[e2] at h;cases h
  | some q=>obtain⟨as',ρ2⟩:=q;simp only[e2] at h;cases h;exact⟨a,as',ρ1,rfl,e2,rfl⟩
theorem Bd.take1{r:Rr}{v:V}{a:Sl}{ρ':List Sl}{xs:St}{ss:List Sl}(e:xs.length=ss.length)(b:Bd c σ H ρ (xs++bj r v τ) (ss++bh r θ))(hv:VR σ r v)(h:take1 r ρ=some (a,ρ')):Bd c σ H ρ' (xs++some v::τ) (ss++a::θ):=by
 cases r with
 | fr a'=>cases h;exact b
 | nw o=>cases h;exact Bd.F2 e b
 | rf i =>
  unfold M.take1 at h
  cases es:ρ[i]? with
  | none=>simp only[es] at h;cases h
  | some s =>
   cases s with
   | un=>simp only[es] at h;cases h
   | fr a'=>simp only[es] at h;cases h;exact Bd.Eo e b hv es
   | lv o=>simp only[es] at h;cases h;exact Bd.DG e b hv es (.inl rfl)
   | pv o=>simp only[es] at h;cases h;exact Bd.DG e b hv es (.inr rfl)
theorem Bd.bZ:∀{rs:List Rr}{vs:List V}{as:List Sl}{ρ ρ':List Sl}{τ:St}{θ:List Sl},VRs σ rs vs->Bd c σ H ρ (bI rs vs τ) (bJ rs θ)->bZ rs ρ=some (as,ρ')->Bd c σ H ρ' (vs.reverse.map some++τ) (as.reverse++θ)/\vs.length=as.length
 | [],[],_,_,_,_,_,_,b,h=>by cases h;exact⟨b,rfl⟩
 | r::rs,v::vs,_,ρ,ρ',τ,θ,hv,b,h=>by
  obtain⟨a,as,ρ1,e1,e2,rfl⟩:=oS h
  have b:Bd c σ H ρ (bI rs vs (bj r v τ)) (bJ rs (bh r θ)):=b
  rw[bS,bV] at b
  have b1:=Bd.take1 (mf rs vs (VRs.len hv.2)) b hv.1 e1
  rw[<- bS rs vs (some v::τ),<- bV rs (a::θ)] at b1
  obtain⟨b2,e3⟩:=Bd.bZ hv.2 b1 e2
  exact⟨by simpa using b2,by simp[e3]⟩
 | [],_::_,_,_,_,_,_,h,_,_=>h.elim
 | _::_,[],_,_,_,_,_,h,_,_=>h.elim
noncomputable def nS(ρ0:List Sl):Rr->Sl->List Sl->Option (List Sl)
 | .rf i,s,ρ=>match ρ0[i]?,s,ρ[i]? with
  | some (.lv _),.pv o,some .un=>some (ρ.set i (.lv o))
  | some (.pv _),.pv o,some .un=>some (ρ.set i (.pv o))
  | some (.fr _),_,_=>some ρ
  | _,_,_=>none
 | _,_,ρ=>some ρ
noncomputable def putL(ρ0:List Sl):List Rr->List Sl->List Sl->Option (List Sl)
 | r::rs,s::ss,ρ=>match putL ρ0 rs ss ρ with
  | some ρ1=>nS ρ0 r s ρ1
  | none=>none
 | [],[],ρ=>some ρ
 | _,_,_=>none
end
section
variable{k:Kx}{G H:Hp}
theorem ao.Bb:∀{σ:St}{ρ:List Sl}{L:List Addr},ao k G H σ ρ L->∃L',L'.Perm L/\ao k G H σ.reverse ρ.reverse L'
 | _,_,_,.nil=>⟨[],.refl _,.nil⟩
 | _,_,_,.cons (L:=L1) (L':=L2) h r=>by
  obtain⟨L',pm,r'⟩:=ao.Bb r
  refine⟨L'++(L1++[]),?_,by rw[Ma,Ma];exact r'.app (ao.cons h .nil)⟩
  rw[Km]
  exact(pm.append_right L1).trans N9
theorem ao.u7:∀{σ:St}{ρ:List Sl}{L:List Addr},ao k G H σ ρ L->∀p∈L,∀ob vs,H p=some (.frz ob (.dK vs))->False
 | _,_,_,.nil,p,hp,_,_,_=>by cases hp
 | _,_,_,.cons h r,p,hp,ob,vs,e=>by
  rcases J5.mp hp with z|z
  ·have lr:∀o,LR k G H p o->False:=λo h=>by cases h with|lst q _=>rw[q] at e;cases e|dic q _=>rw[q] at e;cases e|obj q _ _=>rw[q] at e;cases e
   cases h with
   | un=>cases z
   | fr=>cases z
   | lv h=>rw[J9.mp z] at lr;exact lr _ h
   | pv h=>rw[J9.mp z] at lr;exact lr _ h
  ·exact r.u7 p z ob vs e
theorem ao.toP:∀{σ:St}{ρ:List Sl}{L:List Addr},ao k G H σ ρ L->ao k G H σ (ρ.map toP) L
 | _,_,_,.nil=>.nil
 | _,_,_,.cons h r=>by
  refine ao.cons ?_ (ao.toP r)
  cases h with
  | un=>exact .un _
  | fr h=>exact .fr h
  | lv h=>exact .pv h
  | pv h=>exact .pv h
noncomputable def toL:Sl->Sl
 | .pv o=>.lv o
 | s=>s
theorem ao.toL:∀{σ:St}{ρ:List Sl}{L:List Addr},ao k G H σ ρ L->ao k G H σ (ρ.map toL) L
 | _,_,_,.nil=>.nil
 | _,_,_,.cons h r=>by
  refine ao.cons ?_ (ao.toL r)
  cases h with
  | un=>exact .un _
  | fr h=>exact .fr h
  | lv h=>exact .lv h
  | pv h=>exact .lv h
end
section
variable{c:Cn}{σ:St}{H:Hp}{ρ:List Sl}{τ:St}{θ:List Sl}
theorem Bd.enter{vs:List V}{as:List Sl}(e:vs.length=as.length)(b:Bd c σ H ρ (vs.reverse.map some++τ) (as.reverse++θ)) :
  ∃c':Cn,c'.toKx=c.toKx/\c'.σ0=vs.map some/\c'.H0=H/\BdL c' (vs.map some) H (as.map toP) [] [] c'.Lp /\
   ∀(H':Hp)(ρ':List Sl)(τ':St)(θ':List Sl),(∀s∈θ',∀o,s≠.pv o)->ρ'.length=vs.length->Bd c' (vs.map some) H' ρ' τ' θ'->Bd c σ H' ρ (vs.reverse.map some++(τ'++τ)) ((ρ'.map toL).reverse++(θ'++θ)):=by
 obtain⟨L,b⟩:=b
 have r:ao c.toKx (c.g H L) H (vs.reverse.map some++(τ++σ)) (as.reverse++(θ++ρ)) L:=by have:=b.rel;simpa[JY] using this
 obtain⟨La,Lr,e1,r1,r2⟩:=ao.split (by simp[e]) r
 obtain⟨Lp,pm,r3⟩:=r1.Bb
 have r3:ao c.toKx (c.g H L) H (vs.map some) as Lp:=by simpa[<- OU] using r3
 have hmem:∀a,a∈Lp++(Lr++c.Hd)↔a∈L++c.Hd:=λa=>by
  rw[e1,J5,J5,J5,J5,pm.mem_iff]
  constructor
  ·rintro(h|h|h)
   ·exact .inl (.inl h)
   ·exact .inl (.inr h)
   ·exact .inr h
  ·rintro((h|h)|h)
   ·exact .inl h
   ·exact .inr (.inl h)
   ·exact .inr (.inr h)
 have nd:=b.nd
 rw[e1] at nd
 obtain⟨n1,n2,n3⟩:=Kj.mp nd
 let c':Cn:={ toKx:=c.toKx,σ0:=vs.map some,H0:=H,Lp:=Lp,Hd:=Lr++c.Hd,Wk:=[] }
 have hg:∀H1 L1 L2,(∀a,a∈L1++(Lr++c.Hd)↔a∈L2++c.Hd)->c'.g H1 L1=c.g H1 L2:=λH1 L1 L2 hm=>by
  funext a
  show (if a∈L1++(Lr++c.Hd) then none else H1 a)=(if a∈L2++c.Hd then none else H1 a)
  by_cases z:a∈L1++(Lr++c.Hd)
  ·rw[if_pos z,if_pos ((hm a).mp z)]
  ·rw[if_neg z,if_neg λy=>z ((hm a).mpr y)]
 refine⟨c',rfl,rfl,rfl,⟨(pm.nodup_iff).mpr n1,?_,λp hp=>.inl hp,⟨λq o h=>⟨o,h,λ_ _=>rfl⟩,λq hq=>by cases hq⟩,λi o _=>rfl,rfl,λp hp=>?_⟩,?_⟩
 ·show ao c.toKx (c'.g H Lp) H (vs.map some) (as.map toP) Lp
  rw[hg H Lp L hmem]
  exact r3.toP
 ·rcases J5.mp hp with z|z
  ·exact⟨r2.is p z,λy=>n3 p (pm.mem_iff.mp y) p z rfl⟩
  ·refine⟨?_,λy=>b.nhd (by rw[e1];exact Ka _ (pm.mem_iff.mp y)) z⟩
   obtain⟨⟨u,h1⟩,h2⟩:=b.hd p z
   obtain⟨u',h3,_⟩:=b.fr.st p u h1
   exact⟨u',h3⟩
 ·intro H' ρ' τ' θ' hθ hl b'
  obtain⟨L',b'⟩:=b'
  obtain⟨Lt,Ls,e2,q1,q2⟩:=ao.split b'.lt b'.rel
  obtain⟨Ls',pm2,q3⟩:=q2.toL.Bb
  have lt':τ.length=θ.length:=by have:=b.lt;simp[e] at this;omega
  obtain⟨Lτ,Lσ,e3,s1,s2⟩:=ao.split lt' r2
  have hnew:∀p∈L',p∈Lp\/H p=none:=b'.own
  have hfr:∀p,p∈Lr->∀u,H p=some u->H' p=some u:=λp hp u h=>by
   obtain⟨u',h1,h2⟩:=b'.fr.st p u h
   have:p∉Lp:=λy=>n3 p (pm.mem_iff.mp y) p hp rfl
   rw[h1,h2 this (λw hw=>by cases hw)]
  have hdis:∀p,p∈L'->p∉Lr:=λp hp y=>by
   rcases hnew p hp with z|z
   ·exact n3 p (pm.mem_iff.mp z) p y rfl
   ·obtain⟨u,h⟩:=r2.is p y;rw[z] at h;cases h
  have hsame:Sq (c.g H L) (c'.g H' L'):=λa u h=>by
   by_cases z:a∈L\/a∈c.Hd
   ·rw[gC z] at h;cases h
   ·rw[aU (λy=>z (.inl y)) (λy=>z (.inr y))] at h
    have na:a∉Lp:=λy=>z (.inl (by rw[e1];exact Ka _ (pm.mem_iff.mp y)))
    have nr:a∉Lr:=λy=>z (.inl (by rw[e1];exact JL _ y))
    obtain⟨u',h1,h2⟩:=b'.fr.st a u h
    refine⟨u',?_,.inl (h2 na (λw hw=>by cases hw))⟩
    rw[aU (c:=c') (λy=>?_) (λy=>?_)]
    ·exact h1
    ·rcases hnew a y with w|w
     ·exact na w
     ·rw[w] at h;cases h
    ·rcases J5.mp y with w|w
     ·exact nr w
     ·exact z (.inr w)
  have hgL:c'.g H' L'=c.g H' (L'++Lr):=hg H' L' (L'++Lr) λa=>by simp[J5,or_assoc]
  have s3:ao c.toKx (c'.g H' L') H' (τ++σ) (θ++ρ) Lr:=r2.sm hsame hfr
  have tot:ao c.toKx (c'.g H' L') H' (vs.reverse.map some++(τ'++τ)++σ) ((ρ'.map toL).reverse++(θ'++θ)++ρ) (Ls'++(Lt++Lr)):=by
   have:=q3.app (q1.app s3)
   simpa[JY,<- OU] using this
  have pmL:(Ls'++(Lt++Lr)).Perm (L'++Lr):=by
   rw[e2]
   have:=pm2.append_right (Lt++Lr)
   refine this.trans ?_
   rw[<- JY]
   exact N9.append_right Lr
  refine⟨Ls'++(Lt++Lr),(pmL.nodup_iff).mpr (Kj.mpr ⟨b'.nd,n2,λa ha b2 hb z=>hdis a ha (by rw[z];exact hb)⟩),?_,λp hp=>?_,⟨λq u h=>?_,λq hq=>?_⟩,b.kp,?_,b.hd⟩
  ·rw[HV (c:=c) (H:=H') (L':=L'++Lr) λa=>pmL.mem_iff,<- hgL]
   exact tot
  ·rcases J5.mp (pmL.mem_iff.mp hp) with z|z
   ·rcases hnew p z with y|y
    ·exact b.own p (by rw[e1];exact Ka _ (pm.mem_iff.mp y))
    ·exact .inr (b.fr.fresh y)
   ·exact b.own p (by rw[e1];exact JL _ z)
  ·obtain⟨u1,h1,h2⟩:=b.fr.st q u h
   obtain⟨u2,h3,h4⟩:=b'.fr.st q u1 h1
   refine⟨u2,h3,λnq nw=>?_⟩
   rw[h4 (λy=>?_) (λw hw=>by cases hw),h2 nq nw]
   rcases b.own q (by rw[e1];exact Ka _ (pm.mem_iff.mp y)) with w|w
   ·exact nq w
   ·rw[w] at h;cases h
  ·obtain⟨h1,⟨ob,ws,h2⟩,h3⟩:=b.fr.pk q hq
   refine⟨?_,⟨ob,ws,h2⟩,h3⟩
   obtain⟨u2,h4,h5⟩:=b'.fr.st q.1 q.2 h1
   rw[h4,h5 (λy=>?_) (λw hw=>by cases hw)]
   exact r3.u7 q.1 y ob ws (by rw[h1,h2])
  ·have:=b'.lt
   simp[hl];omega
end
end M
namespace M
open PySem L2
section
variable{c:Cn}{σ:St}{H:Hp}{ρ:List Sl}{τ:St}{θ:List Sl}
theorem Bd.nS{ρ0 ρ':List Sl}{r:Rr}{s:Sl}{v:V}(kp:eu c.σ0 σ ρ0)(hv:VR σ r v)(b:Bd c σ H ρ (some v::τ) (toL s::θ))(h:nS ρ0 r s ρ=some ρ'):Bd c σ H ρ' τ θ:=by
 cases r with
 | fr a=>cases h;exact b.pop
 | nw o=>cases h;exact b.pop
 | rf i =>
  unfold M.nS at h
  cases e0:ρ0[i]? with
  | none=>simp only[e0] at h;cases h
  | some s0 =>
   simp only[e0] at h
   cases s0 with
   | un=>simp at h
   | fr a=>simp at h;subst h;exact b.pop
   | lv o0 =>
    cases s with
    | pv o =>
     cases e1:ρ[i]? with
     | none=>simp[e1] at h
     | some s1 =>
      cases s1 with
      | un=>simp[e1] at h;subst h;exact Bd.putBack b hv e1 (.inl rfl)
      | _=>simp[e1] at h
    | _=>simp at h
   | pv o0 =>
    cases s with
    | pv o =>
     cases e1:ρ[i]? with
     | none=>simp[e1] at h
     | some s1 =>
      cases s1 with
      | un=>simp[e1] at h;subst h;exact Bd.putBack b hv e1 (.inr ⟨rfl,kp i o0 e0⟩)
      | _=>simp[e1] at h
    | _=>simp at h
theorem Bd.putL{ρ0:List Sl}(kp:eu c.σ0 σ ρ0):∀{rs:List Rr}{vs:List V}{ss:List Sl}{ρ ρ':List Sl}{τ:St}{θ:List Sl},VRs σ rs vs->Bd c σ H ρ (vs.reverse.map some++τ) ((ss.map toL).reverse++θ)->M.putL ρ0 rs ss ρ=some ρ'->Bd c σ H ρ' τ θ
 | [],[],[],_,_,_,_,_,b,h=>by cases h;exact b
 | r::rs,v::vs,s::ss,ρ,ρ',τ,θ,hv,b,h=>by
  unfold M.putL at h
  cases e:M.putL ρ0 rs ss ρ with
  | none=>simp only[e] at h;cases h
  | some ρ1 =>
   simp only[e] at h
   have b1:Bd c σ H ρ (vs.reverse.map some++(some v::τ)) ((ss.map toL).reverse++(toL s::θ)):=by simpa[JY] using b
   exact Bd.nS kp hv.1 (Bd.putL kp hv.2 b1 e) h
 | [],_::_,_,_,_,_,_,h,_,_=>h.elim
 | _::_,[],_,_,_,_,_,h,_,_=>h.elim
 | [],[],_::_,_,_,_,_,_,_,h=>by cases h
 | _::_,_::_,[],_,_,_,_,_,_,h=>by cases h
theorem bK:∀(n:Nat)(ρ:List Sl),(ar n ρ).length=n
 | 0,_=>rfl
 | n+1,[]=>by show (Sl.un::ar n []).length=_;rw[JZ,bK n []]
 | n+1,s::ρ=>by cases s<;>(show (_::ar n ρ).length=_;rw[JZ,bK n ρ])
theorem VRs.app:∀{rs qs:List Rr}{vs us:List V},VRs σ rs vs->VRs σ qs us->VRs σ (rs++qs) (vs++us)
 | [],_,[],_,_,h=>h
 | _::rs,_,_::vs,_,h1,h2=>⟨h1.1,VRs.app h1.2 h2⟩
 | [],_,_::_,_,h,_=>h.elim
 | _::_,_,[],_,h,_=>h.elim
theorem VRs.frs:∀{das:List A}{dvs:List V},das.length=dvs.length->VRs σ (das.map Rr.fr) dvs
 | [],[],_=>trivial
 | _::das,_::dvs,h=>⟨trivial,VRs.frs (by simpa using h)⟩
 | [],_::_,h=>by simp at h
 | _::_,[],h=>by simp at h
theorem mP:∀{rs:List Rr}{vs:List V}(qs:List Rr)(us:List V)(τ:St),rs.length=vs.length->bI (rs++qs) (vs++us) τ=bI qs us (bI rs vs τ)
 | [],[],_,_,_,_=>rfl
 | r::rs,v::vs,qs,us,τ,h=>mP (rs:=rs) (vs:=vs) qs us (bj r v τ) (by simpa using h)
 | [],_::_,_,_,_,h=>by simp at h
 | _::_,[],_,_,_,h=>by simp at h
theorem jT:∀(rs qs:List Rr)(θ:List Sl),bJ (rs++qs) θ=bJ qs (bJ rs θ)
 | [],_,_=>rfl
 | r::rs,qs,θ=>jT rs qs (bh r θ)
theorem Bd.vk:∀{das:List A}{dvs:List V}{τ:St}{θ:List Sl},(∀G,RAs c.toKx G dvs das)->Bd c σ H ρ τ θ->Bd c σ H ρ (bI (das.map Rr.fr) dvs τ) (bJ (das.map Rr.fr) θ)
 | [],[],_,_,_,b=>b
 | a::das,v::dvs,_,_,h,b=>Bd.vk (das:=das) (dvs:=dvs) (λG=>by cases h G;assumption) (Bd.push b λG=>by cases h G;assumption)
 | [],_::_,_,_,h,_=>by cases h (λ_=>none)
 | _::_,[],_,_,h,_=>by cases h (λ_=>none)
end
noncomputable def jD:Sl->Option Rr
 | .fr a=>some (.fr a)
 | .lv o=>some (.nw o)
 | _=>none
noncomputable def av(f:Ms)(das:List A)(ma:Mi (List Rr)):Mi Rr:=aq ma λrs ρ=>match bZ (rs++das.map Rr.fr) ρ with
 | some (as,ρt)=>match f (as.map toP) with
  | some (.rt s,ρc)=>match jD s,putL ρ (rs++das.map Rr.fr) (ar as.length ρc) ρt with
   | some r,some ρ'=>some (.ok r,ρ')
   | _,_=>none
  | some (.ex x,ρc)=>match putL ρ (rs++das.map Rr.fr) (ar as.length ρc) ρt with
   | some ρ'=>some (.error x,ρ')
   | none=>none
  | _=>none
 | none=>none
section
variable{X:Cx}{E:XK}
theorem j5{m:Ms}{n:Nat}{das:List A}{dvs:List V}(hd:∀G,RAs (kx X) G dvs das){σ:St}{H:Hp}{Q:VK}{rs:List Rr}{c:Cn}{ρ ρ':List Sl}{τ:St}{θ:List Sl}{o:Except Str Rr}{vs:List V}(ek:c.toKx=kx X)(hn:(vs++dvs).length=n)
  (hv:VRs σ rs vs)(b:Bd c σ H ρ (bI rs vs τ) (bJ rs θ)) (em:(match bZ (rs++das.map Rr.fr) ρ with
 | some (as,ρt)=>match m (as.map toP) with
  | some (.rt s,ρc)=>match jD s,putL ρ (rs++das.map Rr.fr) (ar as.length ρc) ρt with
   | some r,some ρ'=>some (.ok r,ρ')
   | _,_=>none
  | some (.ex x,ρc)=>match putL ρ (rs++das.map Rr.fr) (ar as.length ρc) ρt with
   | some ρ'=>some (.error x,ρ')
   | none=>none
  | _=>none
 | none=>none)=some (o,ρ')) (q1:∀r,o=.ok r->∀v H',VR σ r v->Bd c σ H' ρ' (bj r v τ) (bh r θ)->Q v H') (q2:∀x,o=.error x->∀C H',X.mg x=some (.ref C)->Bd c σ H' ρ' τ θ->E (.ref C) none H'):SpM (kx X) n m (vs++dvs) H Q E:=by
 refine⟨hn,?_⟩
 cases e1:bZ (rs++das.map Rr.fr) ρ with
 | none=>simp only[e1] at em;cases em
 | some p =>
  obtain⟨as,ρt⟩:=p
  simp only[e1] at em
  have ld:das.length=dvs.length:=(hd λ_=>none).len.symm
  have hv2:VRs σ (rs++das.map Rr.fr) (vs++dvs):=hv.app (VRs.frs ld)
  have b2:Bd c σ H ρ (bI (rs++das.map Rr.fr) (vs++dvs) τ) (bJ (rs++das.map Rr.fr) θ):=by
   rw[mP _ _ _ hv.len,jT]
   exact Bd.vk (by rw[ek];exact hd) b
  obtain⟨b3,e3⟩:=Bd.bZ hv2 b2 e1
  obtain⟨c',k1,k2,k3,k4,k5⟩:=Bd.enter e3 b3
  have kp:eu c.σ0 σ ρ:=by obtain⟨L,b⟩:=b;exact b.kp
  cases e4:m (as.map toP) with
  | none=>simp only[e4] at em;cases em
  | some p =>
   obtain⟨f,ρc⟩:=p
   simp only[e4] at em
   refine⟨c',_,f,ρc,k1.trans ek,k2,k3,k4,e4,?_⟩
   cases f with
   | nx=>cases em
   | bk=>cases em
   | ct=>cases em
   | rt s =>
    simp only at em
    cases e5:jD s with
    | none=>simp only[e5] at em;cases em
    | some r =>
     cases e6:putL ρ (rs++das.map Rr.fr) (ar as.length ρc) ρt with
     | none=>simp only[e5,e6] at em;cases em
     | some ρ2 =>
      simp only[e5,e6] at em
      cases em
      intro v H' hs b5
      have b6:=k5 H' _ _ _ (λs' hs' o z=>by rw[J9.mp hs'] at z;exact hs o z) (bK _ _) b5
      rw[e3] at b6
      have b7:=Bd.putL kp hv2 b6 e6
      cases s with
      | fr a=>cases e5;exact q1 _ rfl v H' trivial b7
      | lv o=>cases e5;exact q1 _ rfl v H' trivial b7
      | _=>cases e5
   | ex x =>
    simp only at em
    cases e6:putL ρ (rs++das.map Rr.fr) (ar as.length ρc) ρt with
    | none=>simp only[e6] at em;cases em
    | some ρ2 =>
     simp only[e6] at em
     cases em
     intro C H' hm b5
     have b6:=k5 H' _ _ _ (λs' hs'=>by cases hs') (bK _ _) b5
     rw[e3] at b6
     exact q2 x rfl C H' hm (Bd.putL kp hv2 b6 e6)
theorem zk{CX:CXT}{k n:Nat}{f:Addr}{fd:FuncData}{ps:List Str}{m:Ms}{das:List A}{dvs:List V}{ds:List Value}{x:Str}{p pos:Pos}{e:Expr}{es:List Expr}{ma:Mi (List Rr)}(F:cu X.prog X.w X.K X.mg X.base CX k f fd ps (SpM (kx X) n m))(hr:bR k X.A)(hg:Gl X x)
  (hm:X.mg x=some (.ref f))(hk:Ks X.K (.ref f)=true)(hb:Binds X.K fd ps ds)(hd:Vals dvs ds)(hda:∀G,RAs (kx X) G dvs das)(hx:Passes CX X E)(ha:JA X E (e::es) ma)(hn:∀ρ rs ρ',ma ρ=some (.ok rs,ρ')->rs.length+das.length=n)(hdb:NDb x)
  (he:starEach (e::es) X.env=(false,eval e X.env)::starEach es X.env:=by rfl)(hpl:(backTo pos (starEach es X.env)).any (·.1)=false:=by rfl):JE X E (.Call (.Name x p) (e::es) [] pos) (av m das ma) :=
 ⟨PE.weaken (yb F hr hg hm hk hb hd hx ha.p hdb he hpl) λσ H Q h=>by
  obtain⟨c,ρ,τ,θ,o,ρ',ek,b,em,q⟩:=h
  rcases bind_some em with ⟨rs,ρ1,e1,e2⟩|⟨e,e1,e2⟩
  ·refine⟨c,ρ,τ,θ,_,ρ1,ek,b,e1,λvs H1 hv b1=>?_⟩
   refine j5 hda ek ?_ hv b1 e2 (λr hr v H' hv b=>by subst hr;exact q v H' hv b) (λx hx=>by subst hx;exact q)
   rw[Kg,<- hv.len,<- hn ρ rs ρ1 e1,(hda λ_=>none).len]
  ·subst e2
   exact⟨c,ρ,τ,θ,_,ρ',ek,b,e1,λC H1 hm b1=>q C H1 hm b1⟩⟩
theorem we:∀ρ rs ρ',az ρ=some (.ok rs,ρ')->rs.length=0:=λρ rs ρ' h=>by cases h;rfl
theorem qQ{m:Mi Rr}{ma:Mi (List Rr)}{n:Nat}(h:∀ρ rs ρ',ma ρ=some (.ok rs,ρ')->rs.length=n):∀ρ rs ρ',ae m ma ρ=some (.ok rs,ρ')->rs.length=n+1:=λρ rs ρ' e=>by
 rcases bind_some e with ⟨r,ρ1,e1,e2⟩|⟨_,_,e2⟩
 ·rcases bind_some e2 with ⟨rs',ρ2,e3,e4⟩|⟨_,_,e4⟩
  ·cases e4;rw[JZ,h _ _ _ e3]
  ·cases e4
 ·cases e2
theorem kP{ma:Mi (List Rr)}{n d N:Nat}(h:∀ρ rs ρ',ma ρ=some (.ok rs,ρ')->rs.length=n)(e:n+d=N):∀ρ rs ρ',ma ρ=some (.ok rs,ρ')->rs.length+d=N:=λρ rs ρ' q=>by rw[h ρ rs ρ' q];exact e
noncomputable def o6(K:Kx)(E:XK)(c:Cn)(ρ:List Sl)(τ:St)(θ:List A)(D:Ends):Fl->Prop
 | .nx=>∀σ H,Bd c σ H ρ τ (θ.map Sl.fr)->D.nx σ H
 | .rt s=>∀v σ H,(∀o,s≠.pv o)->Bd c σ H ρ (some v::τ) (s::θ.map Sl.fr)->D.rt v H
 | .bk=>∀σ H,Bd c σ H ρ τ (θ.map Sl.fr)->D.bk σ H
 | .ct=>∀σ H,Bd c σ H ρ τ (θ.map Sl.fr)->D.ct σ H
 | .ex x=>∀C σ H,K.mg x=some (.ref C)->Bd c σ H ρ τ (θ.map Sl.fr)->E (.ref C) none H
noncomputable def TSm(K:Kx)(E:XK)(m:Ms):TS:=λD σ H=>∃(c:Cn) (ρ:List Sl) (τ:St) (θ:List A) (f:Fl) (ρ':List Sl),c.toKx=K/\Bd c σ H ρ τ (θ.map Sl.fr)/\m ρ=some (f,ρ')/\o6 K E c ρ' τ θ D f
structure JS (X:Cx) (E:XK) (s:Stmt) (m:Ms):Prop where
 p:PS X s (TSm (kx X) E m)
structure JSs (X:Cx) (E:XK) (s:List Stmt) (m:Ms):Prop where
 p:PSs X s (TSm (kx X) E m)
theorem PS.weaken{X:Cx}{e:Stmt}{t t':TS}(h:PS X e t)(f:∀D σ H,t' D σ H->t D σ H):PS X e t':=λpins s σ H D I q=>h pins s σ H D I (f D σ H q)
theorem PSs.weaken{X:Cx}{e:List Stmt}{t t':TS}(h:PSs X e t)(f:∀D σ H,t' D σ H->t D σ H):PSs X e t':=λpins s σ H D I q=>h pins s σ H D I (f D σ H q)
noncomputable def aR:Ms:=λρ=>some (.nx,ρ)
noncomputable def aF(m n:Ms):Ms:=λρ=>match m ρ with
 | some (.nx,ρ1)=>n ρ1
 | r=>r
theorem An:JSs X E [] aR:=⟨PSs.weaken zB λD σ H h=>by
 obtain⟨c,ρ,τ,θ,f,ρ',ek,b,em,q⟩:=h
 cases em;exact q σ H b⟩
theorem yj{s:Stmt}{m:Ms}(h:JS X E s m):JSs X E [s] m:=⟨yh h.p⟩
theorem vz{s:Stmt}{r:List Stmt}{m n:Ms}(h:JS X E s m)(h':JSs X E r n):JSs X E (s::r) (aF m n):=⟨PSs.weaken (uB h.p h'.p) λD σ H h=>by
 obtain⟨c,ρ,τ,θ,f,ρ',ek,b,em,q⟩:=h
 unfold aF at em
 cases e:m ρ with
 | none=>simp only[e] at em;cases em
 | some p =>
  obtain⟨f1,ρ1⟩:=p
  simp only[e] at em
  refine⟨c,ρ,τ,θ,f1,ρ1,ek,b,e,?_⟩
  cases f1 with
  | nx=>exact λσ' H' b'=>⟨c,ρ1,τ,θ,f,ρ',ek,b',em,q⟩
  | rt s=>cases em;exact q
  | bk=>cases em;exact q
  | ct=>cases em;exact q
  | ex x=>cases em;exact q⟩
theorem zF{pos}:JS X E (.Pass pos) aR:=⟨PS.weaken z6 λD σ H h=>by
 obtain⟨c,ρ,τ,θ,f,ρ',ek,b,em,q⟩:=h
 cases em;exact q σ H b⟩
noncomputable def tV:Ms:=λρ=>some (.bk,ρ)
noncomputable def AY:Ms:=λρ=>some (.ct,ρ)
theorem w4{pos}:JS X E (.Break pos) tV:=⟨PS.weaken tG λD σ H h=>by
 obtain⟨c,ρ,τ,θ,f,ρ',ek,b,em,q⟩:=h
 cases em;exact q σ H b⟩
theorem zu{pos}:JS X E (.Continue pos) AY:=⟨PS.weaken nK λD σ H h=>by
 obtain⟨c,ρ,τ,θ,f,ρ',ek,b,em,q⟩:=h
 cases em;exact q σ H b⟩
noncomputable def a8{α:Type}(m:Mi α)(f:α->Ms):Ms:=λρ=>match m ρ with
 | some (.ok x,ρ1)=>f x ρ1
 | some (.error e,ρ1)=>some (.ex e,ρ1)
 | none=>none
theorem aZ{α:Type}{m:Mi α}{f:α->Ms}{ρ:List Sl}{o:Fl}{ρ':List Sl}(h:a8 m f ρ=some (o,ρ')):(∃x ρ1,m ρ=some (.ok x,ρ1)/\f x ρ1=some (o,ρ'))\/∃e,m ρ=some (.error e,ρ')/\o=.ex e:=by
 unfold a8 at h
 cases e:m ρ with
 | none=>simp only[e] at h;cases h
 | some p =>
  obtain⟨r,ρ1⟩:=p
  cases r with
  | ok x=>simp only[e] at h;exact .inl ⟨x,ρ1,rfl,h⟩
  | error x=>simp only[e] at h;cases h;exact .inr ⟨x,rfl,rfl⟩
theorem cU{σ:St}{H:Hp}{c:Cn}{ρ ρ':List Sl}{τ:St}{θ:List A}{m:Mi Rr}{f:Rr->Ms}{o:Fl}{Q:VK}{D:Ends}(ek:c.toKx=kx X)(b:Bd c σ H ρ τ (θ.map Sl.fr))(em:a8 m f ρ=some (o,ρ'))(q:o6 (kx X) E c ρ' τ θ D o)
  (h1:∀x v ρ1 H1,VR σ x v->Bd c σ H1 ρ1 (bj x v τ) (bh x (θ.map Sl.fr))->f x ρ1=some (o,ρ')->Q v H1):TEm (kx X) E m σ H Q:=by
 rcases aZ em with ⟨x,ρ1,e1,e2⟩|⟨e,e1,e2⟩
 ·exact⟨c,ρ,τ,_,_,ρ1,ek,b,e1,λv H1 hv b1=>h1 x v ρ1 H1 hv b1 e2⟩
 ·subst e2;exact⟨c,ρ,τ,_,_,ρ',ek,b,e1,λC H1 hm b1=>q C σ H1 hm b1⟩
theorem yQ{σ:St}{H:Hp}{c:Cn}{ρ ρ':List Sl}{τ:St}{θ:List A}{m:Mi Bool}{f:Bool->Ms}{o:Fl}{Q:Bool->Hp->Prop}{D:Ends}(ek:c.toKx=kx X)(b:Bd c σ H ρ τ (θ.map Sl.fr))(em:a8 m f ρ=some (o,ρ'))(q:o6 (kx X) E c ρ' τ θ D o)
  (h1:∀k ρ1 H1,Bd c σ H1 ρ1 τ (θ.map Sl.fr)->f k ρ1=some (o,ρ')->Q k H1):TTm (kx X) E m σ H Q:=by
 rcases aZ em with ⟨x,ρ1,e1,e2⟩|⟨e,e1,e2⟩
 ·exact⟨c,ρ,τ,_,_,ρ1,ek,b,e1,λH1 b1=>h1 x ρ1 H1 b1 e2⟩
 ·subst e2;exact⟨c,ρ,τ,_,_,ρ',ek,b,e1,λC H1 hm b1=>q C σ H1 hm b1⟩
noncomputable def jo(m:Mi Rr):Ms:=a8 m λ_ ρ=>some (.nx,ρ)
theorem zq{e:Expr}{m:Mi Rr}{pos:Pos}(h:JE X E e m)(hs:swapsWith e none pos.line X.env=pure false:=by rfl):JS X E (.Expr e pos) (jo m):=⟨PS.weaken (zc h.p hs) λD σ H h=>by
 obtain⟨c,ρ,τ,θ,f,ρ',ek,b,em,q⟩:=h
 refine cU ek b em q λx v ρ1 H1 hv b1 em1=>?_
 cases em1;exact q σ H1 b1.drop⟩
noncomputable def sIf(t:Mi Bool)(m n:Ms):Ms:=a8 t λb=>if b then m else n
theorem Gj{t:Expr}{a b:List Stmt}{mt:Mi Bool}{m n:Ms}{pos:Pos}(ht:JT X E t mt)(ha:JSs X E a m)(hb:JSs X E b n):JS X E (.If t a b pos) (sIf mt m n):=⟨PS.weaken (GX ht.p ha.p hb.p) λD σ H h=>by
 obtain⟨c,ρ,τ,θ,f,ρ',ek,b,em,q⟩:=h
 refine yQ ek b em q λk ρ1 H1 b1 em1=>?_
 cases k with
 | true=>rw[if_pos rfl];exact⟨c,ρ1,τ,θ,f,ρ',ek,b1,em1,q⟩
 | false=>rw[if_neg (by decide)];exact⟨c,ρ1,τ,θ,f,ρ',ek,b1,em1,q⟩⟩
noncomputable def yT:Rr->List Sl->Option (Sl×List Sl)
 | .fr a,ρ=>some (.fr a,ρ)
 | .nw o,ρ=>some (.lv o,ρ)
 | .rf i,ρ=>match ρ[i]? with
  | some (.lv o)=>some (.lv o,ρ.set i .un)
  | _=>none
noncomputable def a5(m:Mi Rr):Ms:=a8 m λr ρ=>match yT r ρ with
 | some (s,ρ')=>some (.rt s,ρ')
 | none=>none
theorem Ei{e:Expr}{m:Mi Rr}{pos:Pos}(h:JE X E e m):JS X E (.Return (some e) pos) (a5 m):=⟨PS.weaken (Dg h.p) λD σ H h=>by
 obtain⟨c,ρ,τ,θ,f,ρ',ek,b,em,q⟩:=h
 refine cU ek b em q λx v ρ1 H1 hv b1 em1=>?_
 cases x with
 | fr a=>cases em1;exact q v σ H1 (λo z=>by cases z) b1
 | nw o=>cases em1;exact q v σ H1 (λo z=>by cases z) b1
 | rf i =>
  unfold yT at em1
  cases es:ρ1[i]? with
  | none=>simp only[es] at em1;cases em1
  | some s =>
   cases s with
   | lv o=>simp only[es] at em1;cases em1;exact q v σ H1 (λo z=>by cases z) (Bd.DG (xs:=[]) (ss:=[]) rfl b1 hv es (.inl rfl))
   | _=>simp only[es] at em1;cases em1⟩
noncomputable def vq:Ms:=λρ=>some (.rt (.fr .non),ρ)
theorem zr{pos:Pos}:JS X E (.Return none pos) vq:=⟨PS.weaken Ak λD σ H h=>by
 obtain⟨c,ρ,τ,θ,f,ρ',ek,b,em,q⟩:=h
 cases em;exact q .non σ H (λo z=>by cases z) (b.push λ_=>.non)⟩
noncomputable def stT:Rr->List Sl->Option (Sl×List Sl)
 | .fr a,ρ=>some (.fr a,ρ)
 | .nw o,ρ=>some (.lv o,ρ)
 | .rf i,ρ=>match aQ (.rf i) ρ with
  | some (a,ρ')=>some (.fr a,ρ')
  | none=>none
noncomputable def put(i:Nat)(s:Sl)(ρ:List Sl):Option (List Sl):=match ρ[i]? with
 | some (.pv _)=>none
 | some _=>some (ρ.set i s)
 | none=>none
theorem Bd.put{c:Cn}{σ:St}{H:Hp}{ρ ρ':List Sl}{τ:St}{θ:List Sl}{i:Nat}{v:V}{t:Sl}(b:Bd c σ H ρ (some v::τ) (t::θ))(ht:∀o,t≠.pv o)(h:put i t ρ=some ρ'):Bd c (σ.set i (some v)) H ρ' τ θ:=by
 unfold M.put at h
 cases es:ρ[i]? with
 | none=>simp only[es] at h;cases h
 | some s =>
  cases s with
  | pv o=>simp only[es] at h;cases h
  | un=>simp only[es] at h;cases h;exact b.store es (λo z=>by cases z) ht
  | fr a=>simp only[es] at h;cases h;exact b.store es (λo z=>by cases z) ht
  | lv o=>simp only[es] at h;cases h;exact b.store es (λo z=>by cases z) ht
theorem Bd.stT{c:Cn}{σ:St}{H:Hp}{ρ ρ':List Sl}{τ:St}{θ:List Sl}{r:Rr}{v:V}{t:Sl}(hv:VR σ r v)(b:Bd c σ H ρ (bj r v τ) (bh r θ))(h:stT r ρ=some (t,ρ')):Bd c σ H ρ' (some v::τ) (t::θ)/\∀o,t≠.pv o:=by
 cases r with
 | fr a=>cases h;exact⟨b,λo z=>by cases z⟩
 | nw o=>cases h;exact⟨b,λo z=>by cases z⟩
 | rf i =>
  unfold M.stT at h
  cases e:M.aQ (.rf i) ρ with
  | none=>simp only[e] at h;cases h
  | some p =>
   obtain⟨a,ρ1⟩:=p
   simp only[e] at h;cases h
   exact⟨Bd.aQ (r:=.rf i) (xs:=[]) (ss:=[]) rfl b hv e,λo z=>by cases z⟩
noncomputable def aJ(i:Nat)(m:Mi Rr):Ms:=a8 m λr ρ=>match stT r ρ with
 | some (t,ρ1)=>match put i t ρ1 with
  | some ρ2=>some (.nx,ρ2)
  | none=>none
 | none=>none
theorem tS{i:Nat}{x:Str}{e:Expr}{m:Mi Rr}{pos pos':Pos}(hN:X.N.Nodup)(hi:X.N[i]?=some x)(hx:Loc X.env.scope x)(he:JE X E e m)(hs:swapsWith e (some (.Name x pos')) pos.line X.env=pure false:=by rfl)
  (hf:X.fn x=true\/X.env.scope.names.lookup x=some .local:=by first|exact .inl rfl|exact .inr rfl|assumption):JS X E (.Assign [.Name x pos'] e pos) (aJ i m):=⟨PS.weaken (ER hN hi hx he.p hs hf) λD σ H h=>by
 obtain⟨c,ρ,τ,θ,f,ρ',ek,b,em,q⟩:=h
 refine cU ek b em q λr v ρ1 H1 hv b1 em1=>?_
 cases e1:stT r ρ1 with
 | none=>simp only[e1] at em1;cases em1
 | some p =>
  obtain⟨t,ρ2⟩:=p
  simp only[e1] at em1
  obtain⟨b2,ht⟩:=Bd.stT hv b1 e1
  cases e2:put i t ρ2 with
  | none=>simp only[e2] at em1;cases em1
  | some ρ3 =>
   simp only[e2] at em1;cases em1
   exact q _ H1 (Bd.put b2 ht e2)⟩
noncomputable def cb(loc:Nat)(m:Ms):Ms:=λρ=>match m (ρ++J8 loc .un) with
 | some (.nx,ρ')=>some (.rt (.fr .non),ρ')
 | some (.rt s,ρ')=>some (.rt s,ρ')
 | some (.ex x,ρ')=>some (.ex x,ρ')
 | _=>none
theorem iY{k:Kx}{G H:Hp}:∀n,ao k G H (J8 n none) (J8 n Sl.un) []
 | 0=>.nil
 | n+1=>ao.cons (L:=[]) (.un _) (iY n)
theorem BdL.start{c:Cn}{vs:List V}{H:Hp}{ρ:List Sl}(N:List Str)(b:BdL c (vs.map some) H ρ [] [] c.Lp)(e:c.σ0=vs.map some):Bd c (start N vs) H (ρ++J8 (N.length-vs.length) .un) [] []:=by
 have hl:vs.length=ρ.length:=by have:=b.rel.len;simpa using this
 refine⟨c.Lp,b.nd,?_,b.own,b.fr,λi o h=>?_,rfl,b.hd⟩
 ·have:=b.rel.app (iY (k:=c.toKx) (G:=c.g H c.Lp) (H:=H) (N.length-vs.length))
  simpa[L2.start] using this
 ·have hi:i<ρ.length:=by
   by_cases z:i<ρ.length
   ·exact z
   ·rw[KA (by omega)] at h
    have:=Lm h
    have:=ND this
    cases this
  unfold L2.start
  rw[KQ (by simp;omega),e]
theorem Be{P:Program}{w:World}{K:JH}{mg:Str->Option Value}{base:Heap}{dV:Value}{x qual:Str}{st:Stmt}{f:Addr}{fd:FuncData}{N ps:List Str}{k:Nat}{m:Ms}(F:jr K x qual st f fd dV)(S:cR N ps (ay st))
  (hb:∀(cdv:Value)(A:Around)(outer:List Env)(s:Shared)(H:Hp)(E:XK),bR k (A.deeper (Mn qual (ay st) s.heap.objs.size f cdv)) ->
   JSs (jC (CXE P w) P w K mg base N qual (ay st) f cdv A outer s H E) E (a7 st) m):cu P w K mg base (CXE P w) (k+1) f fd ps (SpM ⟨K,mg⟩ ps.length (cb (N.length-ps.length) m)) :=
 F.ok S (λvs H Q E h=>h.1) λcdv A outer s H vs Q E hr h=>by
  obtain⟨hn,c,ρ,f,ρ',ek,e0,e1,b,em,q⟩:=h
  refine⟨_,(hb cdv A outer s H E hr).p,?_⟩
  have bs:=b.start N e0
  rw[hn] at bs
  unfold cb at em
  cases e:m (ρ++J8 (N.length-ps.length) .un) with
  | none=>simp only[e] at em;cases em
  | some p =>
   obtain⟨f1,ρ1⟩:=p
   simp only[e] at em
   refine⟨c,_,[],[],f1,ρ1,ek,bs,e,?_⟩
   have bk:∀{σ':St}{H':Hp}{τ':St}{θ':List Sl},Bd c σ' H' ρ1 τ' θ'->Bd c (vs.map some) H' (ar vs.length ρ1) τ' θ':=λb'=>by
    have:=b'.back
    rw[e0,Ke] at this
    exact this
   cases f1 with
   | nx =>
    cases em
    exact λσ' H' b'=>q .non H' (λo z=>by cases z) ((bk b').push λ_=>.non)
   | rt s=>cases em;exact λv σ' H' hs b'=>q v H' hs (bk b')
   | ex x=>cases em;exact λC σ' H' hm b'=>q C H' hm (bk b')
   | bk=>cases em
   | ct=>cases em
end
end M
namespace M
open PySem L2
section
variable{X:Cx}{E:XK}
theorem OpR.or'{f:Value->Value->Sem Value}{r r':R2}(h:OpR X f r)(h':OpR X f r'):OpR X f (λx y H Q=>r x y H Q\/r' x y H Q):=by
 intro pins s σ H x y v u Q I rx ry q
 rcases q with q|q
 ·exact h pins s σ H x y v u Q I rx ry q
 ·exact h' pins s σ H x y v u Q I rx ry q
theorem aY.or'{f:Value}{r r':List V->Hp->VK->Prop}(h:aY X f r)(h':aY X f r'):aY X f (λxs H Q=>r xs H Q\/r' xs H Q):=by
 intro pins s σ H xs us Q I rx q
 rcases q with q|q
 ·exact h pins s σ H xs us Q I rx q
 ·exact h' pins s σ H xs us Q I rx q
noncomputable def fOr(f g:A->A->Option Rr):A->A->Option Rr:=λa b=>match f a b with
 | some r=>some r
 | none=>g a b
theorem OpS.or{K:Kx}{r r':R2}{f g:A->A->Option Rr}(h:OpS K r f)(h':OpS K r' g):OpS K (λx y H Q=>r x y H Q\/r' x y H Q) (fOr f g):=by
 intro c σ H ρ τ θ x y v w a b q Q ek hv hw bd e1 e2 e3 k
 unfold fOr at e3
 cases e:f a b with
 | some z=>simp only[e] at e3;cases e3;exact .inl (h c σ H ρ τ θ x y v w a b _ Q ek hv hw bd e1 e2 e k)
 | none=>simp only[e] at e3;exact .inr (h' c σ H ρ τ θ x y v w a b _ Q ek hv hw bd e1 e2 e3 k)
theorem DC{f g:A->A->Option Rr}{ma mb:Mi Rr}{σ:St}{H:Hp}{Q:VK}(h:TEm (kx X) E (mOp (fOr f g) ma mb) σ H Q):TEm (kx X) E (mOp f ma mb) σ H Q\/TEm (kx X) E (mOp g ma mb) σ H Q:=by
 obtain⟨c,ρ,τ,θ,o,ρ',ek,b,em,q⟩:=h
 have key:mOp f ma mb ρ=some (o,ρ')\/mOp g ma mb ρ=some (o,ρ'):=by
  unfold mOp aq at em ⊢
  cases e1:ma ρ with
  | none=>simp only[e1] at em;cases em
  | some p =>
   obtain⟨x,ρ1⟩:=p
   cases x with
   | error e=>simp only[e1] at em ⊢;exact .inl em
   | ok x =>
    simp only[e1] at em ⊢
    cases e2:mb ρ1 with
    | none=>simp only[e2] at em;cases em
    | some p =>
     obtain⟨y,ρ2⟩:=p
     cases y with
     | error e=>simp only[e2] at em ⊢;exact .inl em
     | ok y =>
      simp only[e2] at em ⊢
      cases e3:res ρ2 x with
      | none=>simp only[e3] at em;cases em
      | some a =>
       cases e4:res ρ2 y with
       | none=>simp only[e3,e4] at em;cases em
       | some d =>
        simp only[e3,e4] at em ⊢
        unfold fOr at em
        cases e5:f a d with
        | some z=>simp only[e5] at em ⊢;exact .inl em
        | none=>simp only[e5] at em;exact .inr em
 exact key.imp (λk=>⟨c,ρ,τ,θ,o,ρ',ek,b,k,q⟩) (λk=>⟨c,ρ,τ,θ,o,ρ',ek,b,k,q⟩)
theorem dF{e:Expr}{f g:A->A->Option Rr}{ma mb:Mi Rr}(h:JE X E e (mOp f ma mb))(h':JE X E e (mOp g ma mb)):JE X E e (mOp (fOr f g) ma mb) :=
 ⟨λpins s σ H Q I q=>(DC q).elim (λq=>h.p pins s σ H Q I q) (λq=>h'.p pins s σ H Q I q)⟩
theorem uO{f g:A->A->Option Rr}{ma mb:Mi Rr}{σ:St}{H:Hp}{Q:Bool->Hp->Prop}(h:TTm (kx X) E (ai (mOp (fOr f g) ma mb)) σ H Q):TTm (kx X) E (ai (mOp f ma mb)) σ H Q\/TTm (kx X) E (ai (mOp g ma mb)) σ H Q:=by
 obtain⟨c,ρ,τ,θ,o,ρ',ek,b,em,q⟩:=h
 have key:ai (mOp f ma mb) ρ=some (o,ρ')\/ai (mOp g ma mb) ρ=some (o,ρ'):=by
  unfold ai mOp aq at em ⊢
  cases e1:ma ρ with
  | none=>simp only[e1] at em;cases em
  | some p =>
   obtain⟨x,ρ1⟩:=p
   cases x with
   | error e=>simp only[e1] at em ⊢;exact .inl em
   | ok x =>
    simp only[e1] at em ⊢
    cases e2:mb ρ1 with
    | none=>simp only[e2] at em;cases em
    | some p =>
     obtain⟨y,ρ2⟩:=p
     cases y with
     | error e=>simp only[e2] at em ⊢;exact .inl em
     | ok y =>
      simp only[e2] at em ⊢
      cases e3:res ρ2 x with
      | none=>simp only[e3] at em;cases em
      | some a =>
       cases e4:res ρ2 y with
       | none=>simp only[e3,e4] at em;cases em
       | some d =>
        simp only[e3,e4] at em ⊢
        unfold fOr at em
        cases e5:f a d with
        | some z=>simp only[e5] at em ⊢;exact .inl em
        | none=>simp only[e5] at em;exact .inr em
 exact key.imp (λk=>⟨c,ρ,τ,θ,o,ρ',ek,b,k,q⟩) (λk=>⟨c,ρ,τ,θ,o,ρ',ek,b,k,q⟩)
theorem fw{e:Expr}{f g:A->A->Option Rr}{ma mb:Mi Rr}(h:JT X E e (ai (mOp f ma mb)))(h':JT X E e (ai (mOp g ma mb))):JT X E e (ai (mOp (fOr f g) ma mb)) :=
 ⟨λpins s σ H Q I q=>(uO q).elim (λq=>h.p pins s σ H Q I q) (λq=>h'.p pins s σ H Q I q)⟩
theorem OpS.scalar{K:Kx}{r:R2}{f:A->A->Option Rr}(h:∀H v w a b q,RA K H v a->RA K H w b->f a b=some q->∃u d,q=.fr d/\(∀G,RA K G u d)/\∀Q:VK,Q u H->r v w H Q):OpS K r f:=by
 intro c σ H ρ τ θ x y v w a b q Q ek hv hw bd e1 e2 e3 k
 have r2:=Bd.rd bd hw e2
 have r1:=Bd.rd bd.drop hv e1
 rw[ek] at r1 r2
 obtain⟨u,d,rfl,hu,hq⟩:=h H v w a b q r1 r2 e3
 exact hq Q (k u H trivial (Bd.push bd.drop.drop (by rw[ek];exact hu)))
noncomputable def fits(n:Nat)(i:Int):Bool:=decide (i.natAbs<2^n)
theorem kN{n:Nat}{i:Int}(h:fits n i=true):L2.Bd n i:=show i.natAbs<2^n from of_decide_eq_true h
theorem aN{n m:Nat}{i:Int}(h:L2.Bd m i)(k:m<=n):fits n i=true:=decide_eq_true (show i.natAbs<2^n from h.mono k)
noncomputable def opI(f:Int->Int->Option Rr):A->A->Option Rr
 | .int i,.int j=>f i j
 | _,_=>none
theorem bf{f:Int->Int->Option Rr}{a b:A}{q:Rr}(h:opI f a b=some q):∃i j,a=.int i/\b=.int j/\f i j=some q:=by
 unfold opI at h
 split at h
 ·exact⟨_,_,rfl,rfl,h⟩
 ·cases h
noncomputable def opS(f:Str->Str->Option Rr):A->A->Option Rr
 | .str i,.str j=>f i j
 | _,_=>none
theorem vm{f:Str->Str->Option Rr}{a b:A}{q:Rr}(h:opS f a b=some q):∃i j,a=.str i/\b=.str j/\f i j=some q:=by
 unfold opS at h
 split at h
 ·exact⟨_,_,rfl,rfl,h⟩
 ·cases h
noncomputable def pW:A->A->Option Rr:=opI λi j=>some (.fr (.int (i+j)))
noncomputable def jg:A->A->Option Rr:=opI λi j=>some (.fr (.int (i-j)))
noncomputable def xo:A->A->Option Rr:=opI λi j=>if fits 20000 i&&fits 20000 j then some (.fr (.int (i*j))) else none
noncomputable def nV:A->A->Option Rr:=opI λi j=>if j != 0&&fits 9000 j then some (.fr (.int (i.fdiv j))) else none
noncomputable def iw:A->A->Option Rr:=opI λi j=>if j != 0 then some (.fr (.int (i.fmod j))) else none
noncomputable def gY:A->A->Option Rr:=opI λi j=>if 0<=j/\j<=1000000/\i.natAbs<2^64 then some (.fr (.int (i^j.toNat))) else none
noncomputable def fLt:A->A->Option Rr:=opI λi j=>some (.fr (.bl (decide (i<j))))
noncomputable def fLe:A->A->Option Rr:=opI λi j=>some (.fr (.bl (decide (i<=j))))
noncomputable def fGt:A->A->Option Rr:=opI λi j=>some (.fr (.bl (decide (j<i))))
noncomputable def fGe:A->A->Option Rr:=opI λi j=>some (.fr (.bl (decide (j<=i))))
theorem xK{K:Kx}:OpS K (rI0 λi j=>.int (i+j)) pW:=.scalar λH v w a b q r1 r2 h=>by
 replace h:=bf h
 obtain⟨i,j,rfl,rfl,h⟩:=h
 cases r1;cases r2;cases h
 exact⟨_,_,rfl,λ_=>.int _,λQ k=>⟨_,_,rfl,rfl,k⟩⟩
theorem D4{K:Kx}:OpS K (rI0 λi j=>.int (i-j)) jg:=.scalar λH v w a b q r1 r2 h=>by
 replace h:=bf h
 obtain⟨i,j,rfl,rfl,h⟩:=h
 cases r1;cases r2;cases h
 exact⟨_,_,rfl,λ_=>.int _,λQ k=>⟨_,_,rfl,rfl,k⟩⟩
theorem yc{K:Kx}:OpS K (rI IntMulOk λi j=>.int (i*j)) xo:=.scalar λH v w a b q r1 r2 h=>by
 replace h:=bf h
 obtain⟨i,j,rfl,rfl,h⟩:=h
 cases r1;cases r2
 split at h
 ·rename_i hc
  rw[JK] at hc
  cases h
  exact⟨_,_,rfl,λ_=>.int _,λQ k=>⟨_,_,rfl,rfl,(kN hc.1).Gk (kN hc.2) (by decide),k⟩⟩
 ·cases h
theorem Ep{K:Kx}:OpS K (rI CDv λi j=>.int (i.fdiv j)) nV:=.scalar λH v w a b q r1 r2 h=>by
 replace h:=bf h
 obtain⟨i,j,rfl,rfl,h⟩:=h
 cases r1;cases r2
 split at h
 ·rename_i hc
  rw[JK] at hc
  cases h
  exact⟨_,_,rfl,λ_=>.int _,λQ k=>⟨_,_,rfl,rfl,⟨by simpa using hc.1,kN hc.2⟩,k⟩⟩
 ·cases h
theorem Br{K:Kx}:OpS K (rI (λ_ j=>j≠0) λi j=>.int (i.fmod j)) iw:=.scalar λH v w a b q r1 r2 h=>by
 replace h:=bf h
 obtain⟨i,j,rfl,rfl,h⟩:=h
 cases r1;cases r2
 split at h
 ·rename_i hc
  cases h
  exact⟨_,_,rfl,λ_=>.int _,λQ k=>⟨_,_,rfl,rfl,by simpa using hc,k⟩⟩
 ·cases h
theorem BN{K:Kx}:OpS K (rI Fw λi j=>.int (i^j.toNat)) gY:=.scalar λH v w a b q r1 r2 h=>by
 replace h:=bf h
 obtain⟨i,j,rfl,rfl,h⟩:=h
 cases r1;cases r2
 split at h
 ·rename_i hc
  cases h
  exact⟨_,_,rfl,λ_=>.int _,λQ k=>⟨_,_,rfl,rfl,hc,k⟩⟩
 ·cases h
theorem A3{K:Kx}:OpS K (rI0 λi j=>.bl (decide (i<j))) fLt:=.scalar λH v w a b q r1 r2 h=>by
 replace h:=bf h
 obtain⟨i,j,rfl,rfl,h⟩:=h
 cases r1;cases r2;cases h
 exact⟨_,_,rfl,λ_=>.bl _,λQ k=>⟨_,_,rfl,rfl,k⟩⟩
theorem AG{K:Kx}:OpS K (rI0 λi j=>.bl (decide (i<=j))) fLe:=.scalar λH v w a b q r1 r2 h=>by
 replace h:=bf h
 obtain⟨i,j,rfl,rfl,h⟩:=h
 cases r1;cases r2;cases h
 exact⟨_,_,rfl,λ_=>.bl _,λQ k=>⟨_,_,rfl,rfl,k⟩⟩
theorem A2{K:Kx}:OpS K (rI0 λi j=>.bl (decide (j<i))) fGt:=.scalar λH v w a b q r1 r2 h=>by
 replace h:=bf h
 obtain⟨i,j,rfl,rfl,h⟩:=h
 cases r1;cases r2;cases h
 exact⟨_,_,rfl,λ_=>.bl _,λQ k=>⟨_,_,rfl,rfl,k⟩⟩
theorem AQ{K:Kx}:OpS K (rI0 λi j=>.bl (decide (j<=i))) fGe:=.scalar λH v w a b q r1 r2 h=>by
 replace h:=bf h
 obtain⟨i,j,rfl,rfl,h⟩:=h
 cases r1;cases r2;cases h
 exact⟨_,_,rfl,λ_=>.bl _,λQ k=>⟨_,_,rfl,rfl,k⟩⟩
mutual
noncomputable def toD:A->Option D
 | .non=>some .non
 | .bl b=>some (.bl b)
 | .int i=>some (.int i)
 | .str x=>some (.str x)
 | .tup xs=>match jH xs with
  | some ds=>some (.tup ds)
  | none=>none
 | .lst xs=>match jH xs with
  | some ds=>some (.lst ds)
  | none=>none
 | .dic _=>none
 | .exc _=>none
 | .obj _ _=>none
noncomputable def jH:List A->Option (List D)
 | []=>some []
 | a::as=>match toD a,jH as with
  | some d,some ds=>some (d::ds)
  | _,_=>none
end
mutual
theorem fY{K:Kx}{H:Hp}:∀{v:V}{a:A}{d:D},RA K H v a->toD a=some d->Den K.K H v d
 | _,_,_,.non,h=>by rw[toD] at h;cases h;exact .non
 | _,_,_,.bl b,h=>by rw[toD] at h;cases h;exact .bl _
 | _,_,_,.int i,h=>by rw[toD] at h;cases h;exact .int _
 | _,_,_,.str x,h=>by rw[toD] at h;cases h;exact .str _
 | _,_,_,.tup (as:=as) e r,h=>by
  rw[toD] at h
  cases q:jH as with
  | none=>simp only[q] at h;cases h
  | some ds=>simp only[q] at h;cases h;exact .tup e (lF r q)
 | _,_,_,.lst (as:=as) e r,h=>by
  rw[toD] at h
  cases q:jH as with
  | none=>simp only[q] at h;cases h
  | some ds=>simp only[q] at h;cases h;exact .lst e (lF r q)
 | _,_,_,.dic e r,h=>by rw[toD] at h;cases h
 | _,_,_,.exc e m,h=>by rw[toD] at h;cases h
 | _,_,_,.obj e m r,h=>by rw[toD] at h;cases h
theorem lF{K:Kx}{H:Hp}:∀{vs:List V}{as:List A}{ds:List D},RAs K H vs as->jH as=some ds->dD K.K H vs ds
 | _,_,_,.nil,h=>by rw[jH] at h;cases h;exact .nil
 | _,_,_,.cons (a:=a) (as:=as) q r,h=>by
  rw[jH] at h
  cases e1:toD a with
  | none=>simp only[e1] at h;cases h
  | some d =>
   cases e2:jH as with
   | none=>simp only[e1,e2] at h;cases h
   | some ds=>simp only[e1,e2] at h;cases h;exact .cons (fY q e1) (lF r e2)
end
noncomputable def eqA(a b:A):Option Bool:=match toD a,toD b with
 | some d,some e=>if D.depth d<=40 then some (D.eq d e) else none
 | _,_=>none
noncomputable def fEq(a b:A):Option Rr:=match eqA a b with
 | some k=>some (.fr (.bl k))
 | none=>none
noncomputable def fNe(a b:A):Option Rr:=match eqA a b with
 | some k=>some (.fr (.bl (!k)))
 | none=>none
theorem iP{a b:A}{k:Bool}(h:eqA a b=some k):∃d e,toD a=some d/\toD b=some e/\D.depth d<=40/\k=D.eq d e:=by
 unfold eqA at h
 cases e1:toD a with
 | none=>simp only[e1] at h;cases h
 | some d =>
  cases e2:toD b with
  | none=>simp only[e1,e2] at h;cases h
  | some e =>
   simp only[e1,e2] at h
   split at h
   ·rename_i hd;cases h;exact⟨d,e,rfl,rfl,hd,rfl⟩
   ·cases h
theorem os_eq{K:Kx}:OpS K (Hq K.K) fEq:=.scalar λH v w a b q r1 r2 h=>by
 unfold fEq at h
 cases e:eqA a b with
 | none=>simp only[e] at h;cases h
 | some k =>
  simp only[e] at h;cases h
  obtain⟨d,d',h1,h2,h3,rfl⟩:=iP e
  exact⟨_,_,rfl,λ_=>.bl _,λQ k=>⟨d,d',fY r1 h1,fY r2 h2,h3,k⟩⟩
theorem pZ{K:Kx}:OpS K (Ho K.K) fNe:=.scalar λH v w a b q r1 r2 h=>by
 unfold fNe at h
 cases e:eqA a b with
 | none=>simp only[e] at h;cases h
 | some k =>
  simp only[e] at h;cases h
  obtain⟨d,d',h1,h2,h3,rfl⟩:=iP e
  exact⟨_,_,rfl,λ_=>.bl _,λQ k=>⟨d,d',fY r1 h1,fY r2 h2,h3,k⟩⟩
noncomputable def qz:A->A->Option Rr:=opS λx y=>if x.length+y.length<=100000 then some (.fr (.str (x++y))) else none
theorem fo:100000<=sizeLine:=by rw[sizeLine_eq];decide
theorem zZ{K:Kx}:OpS K (λx y H Q=>∃i j,x=.str i/\y=.str j/\i.length+j.length<=sizeLine/\Q (.str (i++j)) H) qz:=.scalar λH v w a b q r1 r2 h=>by
 replace h:=vm h
 obtain⟨i,j,rfl,rfl,h⟩:=h
 cases r1;cases r2
 split at h
 ·rename_i hc
  cases h
  exact⟨_,_,rfl,λ_=>.str _,λQ k=>⟨_,_,rfl,rfl,Kh hc fo,k⟩⟩
 ·cases h
noncomputable def Aw:R2:=λx y H Q=>∃z n,x=.str z/\y=.int n/\MulOk z n/\Q (.str (OV z n)) H
theorem xY:OpR X (binaryOp .Mult) Aw:=by
 intro pins s σ H x y v u Q I rx ry h
 obtain⟨z,n,rfl,rfl,hok,q⟩:=h
 obtain⟨t,rfl⟩:=rx
 obtain⟨t',rfl⟩:=ry
 exact SB.mul hok λt'' k=>⟨.str _,H,I.tok _,⟨t'',rfl⟩,q⟩
noncomputable def qw:A->A->Option Rr
 | .str z,.int n=>if 1<=n/\n<=1000/\z.length<=1000 then some (.fr (.str (OV z n))) else none
 | _,_=>none
theorem zx{K:Kx}:OpS K Aw qw:=.scalar λH v w a b q r1 r2 h=>by
 cases a<;>first|(cases h;done)|(cases b<;>first|(cases h;done)|skip)
 cases r1;cases r2
 rename_i z n
 unfold qw at h
 simp only at h
 split at h
 ·rename_i hc
  cases h
  refine⟨_,_,rfl,λ_=>.str _,λQ k=>⟨_,_,rfl,rfl,⟨?_,λ_ _ z1=>?_,λ_ _=>?_⟩,k⟩⟩
  ·rw[Bool.or_eq_false_iff];exact⟨decide_eq_false (by omega),decide_eq_false (by omega)⟩
  ·have h1:n*(z.length:Int)<=1000*1000:=Int.mul_le_mul hc.2.1 (by omega) (by omega) (by decide)
   have h2:(z.length:Int)<=(2^63-1) / n:=by
    rw[Int.le_ediv_iff_mul_le (by omega)]
    rw[Px];omega
   omega
  ·unfold Qr
   refine decide_eq_false ?_
   have h1:z.length*n.toNat<=1000*1000:=LF hc.2.2 (by omega)
   have:=sizeLine_eq
   omega
 ·cases h
noncomputable def nj:A->A->Option Rr
 | .tup xs,.tup ys=>if xs.length+ys.length<=100000 then some (.fr (.tup (xs++ys))) else none
 | _,_=>none
noncomputable def AZ(K:JH):R2:=λx y H Q=>∃a b xs ys,x=.ref a/\y=.ref b/\SqT K H a xs/\SqT K H b ys/\xs.length+ys.length<=sizeLine/\(xs=[]->Q (.ref b) H)/\(xs≠[]->ys=[]->Q (.ref a) H) /\
 (xs≠[]->ys≠[]->∀p,H p=none->Q (.ref p) (upd H p (.tup (xs++ys))))
theorem yV:OpR X (binaryOp .Add) (AZ X.K):=by
 intro pins s σ H x y v u Q I rx ry h
 obtain⟨a,b,xs,ys,rfl,rfl,ha,hb,hz,q1,q2,q3⟩:=h
 by_cases hx:xs=[]
 ·subst hx
  cases rx
  cases ry
  obtain⟨its,r1,p1,_⟩:=I.tuple ha
  obtain⟨jts,r2,p2,_⟩:=I.tuple hb
  cases r1
  obtain⟨⟨c1,d1,t1,l1⟩,e1,hc1,n1,hd1⟩:=id p1
  obtain⟨⟨c2,d2,t2,l2⟩,e2,hc2,n2,hd2⟩:=id p2
  simp only at hc1 hd1 hc2 hd2
  subst hc1 hd1 hc2 hd2
  exact concat_meets ⟨_,e1,rfl⟩ ⟨_,e2,rfl⟩ noFill_tuple_add seq_tuple_add Mf L7 (L4 _ _) (PU a b _ _ n1 n2 d1 d2 l1 l2 rfl) ⟨e1,e2,.ref b,H,I,rfl,q1 rfl⟩
 ·exact zU pins s σ H (.ref a) (.ref b) v u Q I rx ry ⟨a,b,xs,ys,rfl,rfl,ha,hb,hx,hz,q2 hx,q3 hx⟩
theorem yO{K:Kx}:OpS K (AZ K.K) nj:=by
 intro c σ H ρ τ θ x y v w a b q Q ek hv hw bd e1 e2 e3 k
 cases a<;>first|(cases e3;done)|(cases b<;>first|(cases e3;done)|skip)
 rename_i xs ys
 unfold nj at e3
 simp only at e3
 split at e3
 ·rename_i hc
  cases e3
  obtain⟨L,bl,i1,i2⟩:=Bd.pY bd hv hw e1 e2
  obtain⟨p1,vs1,rfl,s1,r1⟩:=i1.2.1 xs rfl
  obtain⟨p2,vs2,rfl,s2,r2⟩:=i2.2.1 ys rfl
  have l1:=r1.len
  have l2:=r2.len
  subst ek
  refine⟨p1,p2,vs1,vs2,rfl,rfl,bU (g_same _ _ _) s1,bU (g_same _ _ _) s2,by have:=fo;omega,λz=>?_,λ_ z=>?_,λ_ _ p hp=>?_⟩
  ·subst z
   have:xs=[]:=Nb (by rw[<- l1];rfl)
   subst this
   exact k _ H trivial (bl.push (.tup s2 r2))
  ·subst z
   have:ys=[]:=Nb (by rw[<- l2];rfl)
   subst this
   rw[Km] at k
   exact k _ H trivial (bl.push (.tup s1 r1))
  ·obtain⟨b2,sm,np⟩:=bl.new (o:=.tup (vs1++vs2)) hp
   exact k _ _ trivial (b2.push (.tup (.inl (.inl (by rw[aU np (bl.fhd hp)];exact aI))) ((r1.app r2).sm sm)))
 ·cases e3
end
end M
namespace M
open PySem L2
section
variable{X:Cx}{E:XK}
noncomputable def fIx:A->A->Option Rr
 | .lst xs,.int i=>match atI xs i with
  | some a=>some (.fr a)
  | none=>none
 | .tup xs,.int i=>match atI xs i with
  | some a=>some (.fr a)
  | none=>none
 | .str z,.int i=>if z.length<=100000 then match atI z.cps.toList i with
  | some c=>some (.fr (.str ⟨#[c]⟩))
  | none=>none else none
 | _,_=>none
theorem RAs.atI{k:Kx}{G:Hp}{vs:List V}{as:List A}{i:Int}{a:A}(r:RAs k G vs as)(h:atI as i=some a):∃v,atI vs i=some v/\RA k G v a:=by
 unfold L2.atI at h ⊢
 rw[r.len]
 cases e:ixN as.length i with
 | none=>rw[e] at h;cases h
 | some j =>
  rw[e] at h
  obtain⟨v,h1,h2⟩:=r.ta h
  exact⟨v,h1,h2⟩
theorem G5{K:Kx}:OpS K (rIx K.K) fIx:=by
 intro c σ H ρ τ θ x y v w a b q Q ek hv hw bd e1 e2 e3 k
 subst ek
 have r2:=Bd.rd bd hw e2
 obtain⟨L,bl,i1,i2⟩:=Bd.pY bd hv hw e1 e2
 have r1:=Bd.rd bd.drop hv e1
 cases a<;>first|(cases e3;done)|(cases b<;>first|(cases e3;done)|skip)
 ·rename_i z i
  cases r1;cases r2
  unfold fIx at e3
  simp only at e3
  split at e3
  ·rename_i hz
   cases e:atI z.cps.toList i with
   | none=>simp only[e] at e3;cases e3
   | some ch =>
    simp only[e] at e3;cases e3
    exact .inr (.inr ⟨z,i,ch,rfl,rfl,Kh hz fo,e,k _ H trivial (Bd.push ⟨L,bl⟩ λ_=>.str _)⟩)
  ·cases e3
 ·rename_i xs i
  cases r2
  unfold fIx at e3
  simp only at e3
  cases e:atI xs i with
  | none=>simp only[e] at e3;cases e3
  | some d =>
   simp only[e] at e3;cases e3
   obtain⟨p,vs,rfl,s1,rr⟩:=i1.2.1 xs rfl
   obtain⟨u,h1,h2⟩:=rr.atI e
   exact .inr (.inl ⟨p,vs,i,u,rfl,rfl,bU (g_same _ _ _) s1,h1,k u H trivial (bl.push h2)⟩)
 ·rename_i xs i
  cases r2
  unfold fIx at e3
  simp only at e3
  cases e:atI xs i with
  | none=>simp only[e] at e3;cases e3
  | some d =>
   simp only[e] at e3;cases e3
   obtain⟨p,vs,rfl,s1,rr⟩:=i1.1 xs rfl
   obtain⟨u,h1,h2⟩:=rr.atI e
   exact .inl ⟨p,vs,i,u,rfl,rfl,s1,h1,k u H trivial (bl.push h2)⟩
theorem Dx{a b:Expr}{ma mb:Mi Rr}{pos:Pos}(ha:JE X E a ma)(hb:JE X E b mb)(hs:iK b):JE X E (.Subscript a b pos) (mOp fIx ma mb) :=
 ⟨PE.weaken (Ft Bq ha.p hb.p hs) (bY G5)⟩
noncomputable def fK:A->Option Key
 | .int i=>some (.inl i)
 | .str x=>some (.inr x)
 | _=>none
theorem gU{K:Kx}{H:Hp}{w:V}{b:A}{y:Key}(r:RA K H w b)(h:fK b=some y):w=kV y:=by
 cases r<;>first|(cases h;rfl)|(cases h;done)
noncomputable def aE:A->A->Option Rr
 | .dic kvs,b=>match fK b with
  | some y=>match iy kvs y with
   | some a=>some (.fr a)
   | none=>none
  | none=>none
 | _,_=>none
theorem xR{K:Kx}:OpS K (λx y H Q=>∃a v,x=.ref a/\fX H a y (some v)/\Q v H) aE:=by
 intro c σ H ρ τ θ x y v w a b q Q ek hv hw bd e1 e2 e3 k
 subst ek
 have r2:=Bd.rd bd hw e2
 obtain⟨L,bl,i1,i2⟩:=Bd.pY bd hv hw e1 e2
 cases a<;>first|(cases e3;done)|skip
 rename_i kvs
 unfold aE at e3
 simp only at e3
 cases ey:fK b with
 | none=>simp only[ey] at e3;cases e3
 | some ky =>
  simp only[ey] at e3
  obtain⟨p,vs,rfl,s1,rr⟩:=i1.2.2 kvs rfl
  rcases rr.get ky with ⟨u,a,h1,h2,h3⟩|⟨h1,h2⟩
  ·simp only[h2] at e3;cases e3
   exact⟨p,u,rfl,.inl ⟨vs,ky,s1,gU r2 ey,h1.symm⟩,k u H trivial (bl.push h3)⟩
  ·simp only[h2] at e3;cases e3
theorem zK{a b:Expr}{ma mb:Mi Rr}{pos:Pos}(hu:X.A.units+1<cLine)(ha:JE X E a ma)(hb:JE X E b mb)(hs:vL b):JE X E (.Subscript a b pos) (mOp aE ma mb) :=
 ⟨PE.weaken (ya hu ha.p hb.p hs) (bY (r:=λx y H Q=>∃a v,x=.ref a/\fX H a y (some v)/\Q v H) xR)⟩
theorem Gq{a b:Expr}{ma mb:Mi Rr}{pos:Pos}(hu:X.A.units+1<cLine)(ha:JE X E a ma)(hb:JE X E b mb)(hs:iK b)(hs':vL b):JE X E (.Subscript a b pos) (mOp (fOr fIx aE) ma mb):=dF (Dx ha hb hs) (zK hu ha hb hs')
noncomputable def pO:A->Bool
 | .non=>true
 | .bl _=>true
 | .int _=>true
 | .str _=>true
 | _=>false
noncomputable def sj:A->V
 | .non=>.non
 | .bl b=>.bl b
 | .int i=>.int i
 | .str x=>.str x
 | _=>.non
theorem u5{K:Kx}{H:Hp}{w:V}{b:A}(r:RA K H w b)(h:pO b=true):w=sj b/\eX w=true:=by
 cases r<;>first|exact⟨rfl,rfl⟩|(cases h;done)
theorem qO{K:Kx}{H:Hp}:∀{vs:List V}{as:List A},RAs K H vs as->as.all pO=true->vs=as.map sj/\vs.all eX=true
 | _,_,.nil,_=>⟨rfl,rfl⟩
 | _,_,.cons h r,e=>by
  rw[Ki,JK] at e
  obtain⟨h1,h2⟩:=u5 h e.1
  obtain⟨h3,h4⟩:=qO r e.2
  exact⟨by rw[h1,h3];rfl,by rw[Ki,h2,h4];rfl⟩
noncomputable def inA(neg:Bool)(x:A)(xs:List A):Option Rr:=if pO x&&xs.all pO then some (.fr (.bl (if neg then !inV (sj x) (xs.map sj) else inV (sj x) (xs.map sj)))) else none
noncomputable def gD(neg:Bool):A->A->Option Rr
 | x,.lst xs=>inA neg x xs
 | x,.tup xs=>inA neg x xs
 | _,_=>none
theorem kM{K:Kx}{neg:Bool}:OpS K (rIn K.K neg) (gD neg):=.scalar λH v w a b q r1 r2 h=>by
 have key:∀(xs:List A)(vs:List V)(p:Addr),RAs K H vs xs->(SqL K.K H p vs\/SqT K.K H p vs)->inA neg a xs=some q->∃u d,q=.fr d/\(∀G,RA K G u d)/\∀Q:VK,Q u H->rIn K.K neg v (.ref p) H Q:=by
  intro xs vs p rr sq h
  unfold inA at h
  split at h
  ·rename_i hc
   rw[JK] at hc
   cases h
   obtain⟨rfl,h2⟩:=u5 r1 hc.1
   obtain⟨rfl,h4⟩:=qO rr hc.2
   exact⟨_,_,rfl,λ_=>.bl _,λQ k=>⟨p,_,rfl,sq,h2,h4,k⟩⟩
  ·cases h
 cases b<;>first|(cases h;done)|skip
 ·cases r2 with|tup e r=>exact key _ _ _ r (.inr e) h
 ·cases r2 with|lst e r=>exact key _ _ _ r (.inl e) h
noncomputable def dk(neg:Bool):A->A->Option Rr
 | x,.dic kvs=>match fK x with
  | some y=>some (.fr (.bl (if neg then !(iy kvs y).isSome else (iy kvs y).isSome)))
  | none=>none
 | _,_=>none
theorem wX{K:Kx}:OpS K (λy x H Q=>∃a o,x=.ref a/\fX H a y o/\Q (.bl o.isSome) H) (dk false):=.scalar λH v w a b q r1 r2 h=>by
 cases b<;>first|(cases h;done)|skip
 cases r2 with
 | dic e r =>
  unfold dk at h
  simp only at h
  cases ey:fK a with
  | none=>simp only[ey] at h;cases h
  | some y =>
   simp only[ey] at h;cases h
   refine⟨_,_,rfl,λ_=>.bl _,λQ k=>⟨_,_,rfl,.inl ⟨_,y,e,gU r1 ey,rfl⟩,?_⟩⟩
   rcases r.get y with ⟨u,a,h1,h2,h3⟩|⟨h1,h2⟩
   ·rw[h1];rw[h2] at k;exact k
   ·rw[h1];rw[h2] at k;exact k
theorem qH{K:Kx}:OpS K (λy x H Q=>∃a o,x=.ref a/\fX H a y o/\Q (.bl (!o.isSome)) H) (dk true):=.scalar λH v w a b q r1 r2 h=>by
 cases b<;>first|(cases h;done)|skip
 cases r2 with
 | dic e r =>
  unfold dk at h
  simp only at h
  cases ey:fK a with
  | none=>simp only[ey] at h;cases h
  | some y =>
   simp only[ey] at h;cases h
   refine⟨_,_,rfl,λ_=>.bl _,λQ k=>⟨_,_,rfl,.inl ⟨_,y,e,gU r1 ey,rfl⟩,?_⟩⟩
   rcases r.get y with ⟨u,a,h1,h2,h3⟩|⟨h1,h2⟩
   ·rw[h1];rw[h2] at k;exact k
   ·rw[h1];rw[h2] at k;exact k
theorem DB{a b:Expr}{ma mb:Mi Rr}{pos:Pos}(hu:X.A.units+1<cLine)(ha:JE X E a ma)(hb:JE X E b mb)(hm:behindInMarks .In b=false):JE X E (.Compare a [.In] [b] pos) (mOp (dk false) ma mb) :=
 ⟨PE.weaken (wJ (uW hu ha.p hb.p) hm) (bY (r:=λy x H Q=>∃a o,x=.ref a/\fX H a y o/\Q (.bl o.isSome) H) wX)⟩
theorem ED{a b:Expr}{ma mb:Mi Rr}{pos:Pos}(hu:X.A.units+1<cLine)(ha:JE X E a ma)(hb:JE X E b mb)(hm:behindInMarks .In b=false):JT X E (.Compare a [.In] [b] pos) (ai (mOp (dk false) ma mb)) :=
 ⟨PT.weaken (vO (uW hu ha.p hb.p) hm) λσ H Q h=>bY (r:=λy x H Q=>∃a o,x=.ref a/\fX H a y o/\Q (.bl o.isSome) H) wX σ H _ (cz σ H Q h)⟩
theorem zN{a b:Expr}{ma mb:Mi Rr}{pos:Pos}(hu:X.A.units+1<cLine)(ha:JE X E a ma)(hb:JE X E b mb)(hm:behindInMarks .NotIn b=false):JE X E (.Compare a [.NotIn] [b] pos) (mOp (dk true) ma mb) :=
 ⟨PE.weaken (wJ (kB hu ha.p hb.p) hm) (bY (r:=λy x H Q=>∃a o,x=.ref a/\fX H a y o/\Q (.bl (!o.isSome)) H) qH)⟩
theorem zI{a b:Expr}{ma mb:Mi Rr}{pos:Pos}(hu:X.A.units+1<cLine)(ha:JE X E a ma)(hb:JE X E b mb)(hm:behindInMarks .NotIn b=false):JT X E (.Compare a [.NotIn] [b] pos) (ai (mOp (dk true) ma mb)) :=
 ⟨PT.weaken (vO (kB hu ha.p hb.p) hm) λσ H Q h=>bY (r:=λy x H Q=>∃a o,x=.ref a/\fX H a y o/\Q (.bl (!o.isSome)) H) qH σ H _ (cz σ H Q h)⟩
theorem HK{a b:Expr}{ma mb:Mi Rr}{pos:Pos}(hu:X.A.units+1<cLine)(ha:JE X E a ma)(hb:JE X E b mb)(hm:behindInMarks .In b=false):JE X E (.Compare a [.In] [b] pos) (mOp (fOr (gD false) (dk false)) ma mb):=dF (bH kg kM ha hb hm) (DB hu ha hb hm)
theorem G6{a b:Expr}{ma mb:Mi Rr}{pos:Pos}(hu:X.A.units+1<cLine)(ha:JE X E a ma)(hb:JE X E b mb)(hm:behindInMarks .In b=false):JT X E (.Compare a [.In] [b] pos) (ai (mOp (fOr (gD false) (dk false)) ma mb)):=fw (bG kg kM ha hb hm) (ED hu ha hb hm)
theorem B9{a b:Expr}{ma mb:Mi Rr}{pos:Pos}(hu:X.A.units+1<cLine)(ha:JE X E a ma)(hb:JE X E b mb)(hm:behindInMarks .NotIn b=false):JE X E (.Compare a [.NotIn] [b] pos) (mOp (fOr (gD true) (dk true)) ma mb):=dF (bH gQ kM ha hb hm) (zN hu ha hb hm)
theorem BE{a b:Expr}{ma mb:Mi Rr}{pos:Pos}(hu:X.A.units+1<cLine)(ha:JE X E a ma)(hb:JE X E b mb)(hm:behindInMarks .NotIn b=false):JT X E (.Compare a [.NotIn] [b] pos) (ai (mOp (fOr (gD true) (dk true)) ma mb)):=fw (bG gQ kM ha hb hm) (zI hu ha hb hm)
noncomputable def lK:A->Bool
 | .non=>true
 | _=>false
noncomputable def fIs(neg:Bool):A->A->Option Rr
 | a,.non=>some (.fr (.bl (if neg then !lK a else lK a)))
 | _,_=>none
theorem pR{K:Kx}{H:Hp}{v:V}{a:A}(r:RA K H v a):decide (v=.non)=lK a:=by cases r<;>rfl
theorem pX{K:Kx}:OpS K (λx y H Q=>y=.non/\Q (.bl (decide (x=.non))) H) (fIs false):=.scalar λH v w a b q r1 r2 h=>by
 cases b<;>first|(cases h;done)|skip
 cases r2;cases h
 exact⟨_,_,rfl,λ_=>.bl _,λQ k=>⟨rfl,by rw[pR r1];exact k⟩⟩
theorem iE{K:Kx}:OpS K (λx y H Q=>y=.non/\Q (.bl (!decide (x=.non))) H) (fIs true):=.scalar λH v w a b q r1 r2 h=>by
 cases b<;>first|(cases h;done)|skip
 cases r2;cases h
 exact⟨_,_,rfl,λ_=>.bl _,λQ k=>⟨rfl,by rw[pR r1];exact k⟩⟩
noncomputable def mUn(f:A->Option Rr)(m:Mi Rr):Mi Rr:=aq m λx ρ=>match res ρ x with
 | some a=>match f a with
  | some r=>some (.ok r,ρ)
  | none=>none
 | none=>none
def UnS(K:Kx)(r:V->Hp->VK->Prop)(f:A->Option Rr):Prop:=∀(c:Cn)(σ:St)(H:Hp)(ρ:List Sl)(τ:St)(θ:List Sl)(x:Rr)(v:V)(a:A)(q:Rr)(Q:VK),c.toKx=K->VR σ x v ->
 Bd c σ H ρ (bj x v τ) (bh x θ)->res ρ x=some a->f a=some q->(∀u H',VR σ q u->Bd c σ H' ρ (bj q u τ) (bh q θ)->Q u H')->r v H Q
theorem lW{f:A->Option Rr}{x:Rr}{ρ ρ':List Sl}{o:Except Str Rr}(h:(match res ρ x with|some a=>(match f a with|some r=>some ((.ok r:Except Str Rr),ρ)|none=>none)|none=>none)=some (o,ρ')):∃a r,res ρ x=some a/\f a=some r/\o=.ok r/\ρ'=ρ:=by
 cases e1:res ρ x with
 | none=>simp only[e1] at h;cases h
 | some a =>
  simp only[e1] at h
  cases e3:f a with
  | none=>simp only[e3] at h;cases h
  | some r=>simp only[e3] at h;cases h;exact⟨a,r,rfl,e3,rfl,rfl⟩
theorem fB{r:V->Hp->VK->Prop}{f:A->Option Rr}{m:Mi Rr}(hf:UnS (kx X) r f)(σ:St)(H:Hp)(Q:VK)(h:TEm (kx X) E (mUn f m) σ H Q):TEm (kx X) E m σ H λv H'=>r v H' Q:=by
 obtain⟨c,ρ,τ,θ,o,ρ',ek,b,em,q⟩:=h
 refine aP ek b em (λx v ρ1 H1 hv b1 em1=>?_) (aL q)
 obtain⟨a,r,e1,e3,rfl,rfl⟩:=lW em1
 exact hf c σ H1 _ τ θ x v a r Q ek hv b1 e1 e3 q
theorem UnS.scalar{K:Kx}{r:V->Hp->VK->Prop}{f:A->Option Rr}(h:∀H v a q,RA K H v a->f a=some q->∃u d,q=.fr d/\(∀G,RA K G u d)/\∀Q:VK,Q u H->r v H Q):UnS K r f:=by
 intro c σ H ρ τ θ x v a q Q ek hv bd e1 e3 k
 have r1:=Bd.rd bd hv e1
 rw[ek] at r1
 obtain⟨u,d,rfl,hu,hq⟩:=h H v a q r1 e3
 exact hq Q (k u H trivial (Bd.push bd.drop (by rw[ek];exact hu)))
noncomputable def oV:A->Option Rr
 | .int i=>some (.fr (.int (-i)))
 | _=>none
theorem Bu{a:Expr}{m:Mi Rr}{pos:Pos}(h:JE X E a m):JE X E (.UnaryOp .USub a pos) (mUn oV m):=⟨PE.weaken (Ib BV h.p) (fB (.scalar λH v a q r1 h=>by
 cases a<;>first|(cases h;done)|skip
 cases r1;cases h
 exact⟨_,_,rfl,λ_=>.int _,λQ k=>⟨_,rfl,k⟩⟩))⟩
noncomputable def mB1(f:A->Option Rr)(m:Mi Rr):Mi Rr:=mUn f m
noncomputable def mB2(f:A->A->Option Rr)(m n:Mi Rr):Mi Rr:=mOp f m n
theorem qB{id:String}{r:List V->Hp->VK->Prop}{f:A->Option Rr}{x:Str}{p pos:Pos}{e:Expr}{m:Mi Rr}(hc:aY X (.builtin id) r)(hf:UnS (kx X) (λv=>r [v]) f)(hg:Gl X x)(hm:X.mg x=none)(hv:bootBuiltins x=some (.builtin id))(ha:JE X E e m)(hn:x ≠ "__name__")
  (hdb:NDb x)(hs:starEach [e] X.env=(false,eval e X.env)::starEach [] X.env:=by rfl)(hp:(backTo pos (starEach [] X.env)).any (·.1)=false:=by rfl):JE X E (.Call (.Name x p) [e] [] pos) (mB1 f m) :=
 ⟨PE.weaken (eZ hc hg hm hv (a6 ha.p cg hs) hn hdb hs hp) λσ H Q h=>fB hf σ H Q h⟩
theorem jV{T:String}{r:List V->Hp->VK->Prop}{f:A->Option Rr}{x:Str}{p pos:Pos}{e:Expr}{m:Mi Rr}(hc:aY X (.type T) r)(hf:UnS (kx X) (λv=>r [v]) f)(hg:Gl X x)(hm:X.mg x=none)(hv:bootBuiltins x=some (.type T))(ha:JE X E e m)(hn:x ≠ "__name__")
  (hdb:NDb x)(hs:starEach [e] X.env=(false,eval e X.env)::starEach [] X.env:=by rfl)(hp:(backTo pos (starEach [] X.env)).any (·.1)=false:=by rfl):JE X E (.Call (.Name x p) [e] [] pos) (mB1 f m) :=
 ⟨PE.weaken (rT hc hg hm hv (a6 ha.p cg hs) hn hdb hs hp) λσ H Q h=>fB hf σ H Q h⟩
theorem AH{id:String}{r:List V->Hp->VK->Prop}{f:A->A->Option Rr}{x:Str}{p pos:Pos}{e1 e2:Expr}{m n:Mi Rr}(hc:aY X (.builtin id) r)(hf:OpS (kx X) (λv w=>r [v,w]) f)(hg:Gl X x)(hm:X.mg x=none)(hv:bootBuiltins x=some (.builtin id))(h1:JE X E e1 m)(h2:JE X E e2 n)(hn:x ≠ "__name__")
  (hdb:NDb x)(hs:starEach [e1,e2] X.env=(false,eval e1 X.env)::starEach [e2] X.env:=by rfl)(hs2:starEach [e2] X.env=(false,eval e2 X.env)::starEach [] X.env:=by rfl)(hp:(backTo pos (starEach [e2] X.env)).any (·.1)=false:=by rfl):JE X E (.Call (.Name x p) [e1,e2] [] pos) (mB2 f m n) :=
 ⟨PE.weaken (eZ hc hg hm hv (a6 h1.p (a6 h2.p cg hs2) hs) hn hdb hs hp) λσ H Q h=>bY (r:=λv w=>r [v,w]) hf σ H Q h⟩
noncomputable def eB:A->Option Rr
 | .str z=>if z.length<=100000 then some (.fr (.int z.length)) else none
 | .lst xs=>some (.fr (.int xs.length))
 | .tup xs=>some (.fr (.int xs.length))
 | _=>none
theorem Cr{K:Kx}:UnS K (λv H Q=>∃x n,[v]=[x]/\G7 K.K x H n/\Q (.int n) H) eB:=.scalar λH v a q r1 h=>by
 cases a<;>first|(cases h;done)|skip
 ·cases r1
  unfold eB at h
  simp only at h
  split at h
  ·rename_i hz;cases h
   exact⟨_,_,rfl,λ_=>.int _,λQ k=>⟨_,_,rfl,⟨Kh hz fo,rfl⟩,k⟩⟩
  ·cases h
 ·cases r1 with
  | tup e r=>cases h;exact⟨_,_,rfl,λ_=>.int _,λQ k=>⟨_,_,rfl,.inr ⟨_,e,rfl⟩,by rw[r.len];exact k⟩⟩
 ·cases r1 with
  | lst e r=>cases h;exact⟨_,_,rfl,λ_=>.int _,λQ k=>⟨_,_,rfl,.inl ⟨_,e,rfl⟩,by rw[r.len];exact k⟩⟩
noncomputable def ui:A->Option Rr
 | .int i=>some (.fr (.int (if i<0 then -i else i)))
 | _=>none
theorem Dh{K:Kx}:UnS K (λv H Q=>∃i,[v]=[V.int i]/\Q (.int (if i<0 then -i else i)) H) ui:=.scalar λH v a q r1 h=>by
 cases a<;>first|(cases h;done)|skip
 cases r1;cases h
 exact⟨_,_,rfl,λ_=>.int _,λQ k=>⟨_,rfl,k⟩⟩
noncomputable def sP:A->A->Option Rr:=opI λi j=>some (.fr (.int (if j > i then j else i)))
noncomputable def sx:A->A->Option Rr:=opI λi j=>some (.fr (.int (if j<i then j else i)))
theorem Cs{K:Kx}:OpS K (λv w H Q=>∃i j,[v,w]=[V.int i,V.int j]/\Q (.int (if j > i then j else i)) H) sP:=.scalar λH v w a b q r1 r2 h=>by
 replace h:=bf h
 obtain⟨i,j,rfl,rfl,h⟩:=h
 cases r1;cases r2;cases h
 exact⟨_,_,rfl,λ_=>.int _,λQ k=>⟨_,_,rfl,k⟩⟩
theorem CS{K:Kx}:OpS K (λv w H Q=>∃i j,[v,w]=[V.int i,V.int j]/\Q (.int (if j<i then j else i)) H) sx:=.scalar λH v w a b q r1 r2 h=>by
 replace h:=bf h
 obtain⟨i,j,rfl,rfl,h⟩:=h
 cases r1;cases r2;cases h
 exact⟨_,_,rfl,λ_=>.int _,λQ k=>⟨_,_,rfl,k⟩⟩
noncomputable def rR:A->Option Rr
 | .int i=>some (.fr (.int i))
 | .bl k=>some (.fr (.int (if k then 1 else 0)))
 | _=>none
theorem BG{K:Kx}:UnS K (λv H Q=>(∃i,[v]=[V.int i]/\Q (.int i) H)\/∃k,[v]=[V.bl k]/\Q (.int (if k then 1 else 0)) H) rR:=.scalar λH v a q r1 h=>by
 cases a<;>first|(cases h;done)|skip
 ·cases r1;cases h;exact⟨_,_,rfl,λ_=>.int _,λQ k=>.inr ⟨_,rfl,k⟩⟩
 ·cases r1;cases h;exact⟨_,_,rfl,λ_=>.int _,λQ k=>.inl ⟨_,rfl,k⟩⟩
noncomputable def xy:A->Option (List A)
 | .lst xs=>some xs
 | .tup xs=>some xs
 | _=>none
noncomputable def u4(a:A):Option Rr:=match xy a with
 | some xs=>some (.nw (.lst xs))
 | none=>none
noncomputable def oo(a:A):Option Rr:=match xy a with
 | some xs=>some (.fr (.tup xs))
 | none=>none
theorem zV{K:Kx}:UnS K (λv H Q=>∃p ys,[v]=[V.ref p]/\(SqL K.K H p ys\/SqT K.K H p ys)/\∀l,H l=none->Q (.ref l) (upd H l (.lst ys))) u4:=by
 intro c σ H ρ τ θ x v a q Q ek hv bd e1 e3 k
 subst ek
 obtain⟨L,bl,i1⟩:=Bd.open bd hv e1
 cases a<;>first|(cases e3;done)|skip
 ·rename_i xs
  cases e3
  obtain⟨p,vs,rfl,s1,rr⟩:=i1.2.1 xs rfl
  exact⟨p,vs,rfl,.inr (bU (g_same _ _ _) s1),λl hl=>k _ _ trivial (bl.eJ hl λG H' sm q=>.lst q (rr.sm sm))⟩
 ·rename_i xs
  cases e3
  obtain⟨p,vs,rfl,s1,rr⟩:=i1.1 xs rfl
  exact⟨p,vs,rfl,.inl s1,λl hl=>k _ _ trivial (bl.eJ hl λG H' sm q=>.lst q (rr.sm sm))⟩
theorem ve{K:Kx}:UnS K (λv H Q=>∃p ys,[v]=[V.ref p]/\((SqL K.K H p ys/\∀l,H l=none->Q (.ref l) (upd H l (.tup ys)))\/(SqT K.K H p ys/\Q (.ref p) H))) oo:=by
 intro c σ H ρ τ θ x v a q Q ek hv bd e1 e3 k
 subst ek
 obtain⟨L,bl,i1⟩:=Bd.open bd hv e1
 cases a<;>first|(cases e3;done)|skip
 ·rename_i xs
  cases e3
  obtain⟨p,vs,rfl,s1,rr⟩:=i1.2.1 xs rfl
  exact⟨p,vs,rfl,.inr ⟨bU (g_same _ _ _) s1,k _ _ trivial (bl.push (.tup s1 rr))⟩⟩
 ·rename_i xs
  cases e3
  obtain⟨p,vs,rfl,s1,rr⟩:=i1.1 xs rfl
  refine⟨p,vs,rfl,.inl ⟨s1,λl hl=>?_⟩⟩
  obtain⟨b2,sm,np⟩:=bl.new (o:=.tup vs) hl
  exact k _ _ trivial (b2.push (.tup (.inl (.inl (by rw[aU np (bl.fhd hl)];exact aI))) (rr.sm sm)))
end
end M
namespace M
open PySem L2
section
variable{c:Cn}{σ:St}{H:Hp}{ρ:List Sl}{τ:St}{θ:List Sl}
theorem Bd.pG{x:Option V}{s:Sl}{xs:St}{ss:List Sl}(e:xs.length=ss.length)(b:Bd c σ H ρ (x::(xs++τ)) (s::(ss++θ))):Bd c σ H ρ (x::τ) (s::θ):=by
 obtain⟨L,b⟩:=b
 have r:ao c.toKx (c.g H L) H (x::(xs++(τ++σ))) (s::(ss++(θ++ρ))) L:=by have:=b.rel;simpa[JY] using this
 cases r with
 | cons h r =>
  rename_i L0 L'
  obtain⟨L1,L2,e1,r1,r2⟩:=ao.split e r
  subst e1
  have sl:(L0++L2).Sublist (L0++(L1++L2)):=KS (K0 _) (L6 _ _)
  have sm:Sq (c.g H (L0++(L1++L2))) (c.g H (L0++L2)):=bM λa ha=>sl.subset ha
  exact⟨L0++L2,b.nd.sublist sl,ao.cons (h.sm sm (λ_ _ _ e=>e)) (r2.sm sm (λ_ _ _ e=>e)),λp hp=>b.own p (sl.subset hp),b.fr,b.kp,by have:=b.lt;simp at this ⊢;omega,b.hd⟩
theorem Bd.E4{ys:St}(b:Bd c (σ++ys) H ρ τ θ):Bd c σ H (ρ.take σ.length) τ θ:=by
 have hl:=b.sL
 rw[Kg] at hl
 obtain⟨L,b⟩:=b
 have r:ao c.toKx (c.g H L) H ((τ++σ)++ys) ((θ++ρ.take σ.length)++ρ.drop σ.length) L:=by
  have:=b.rel
  rw[JY,JY,LI];exact this
 obtain⟨L1,L2,e1,r1,r2⟩:=ao.split (by simp[b.lt];omega) r
 subst e1
 have sm:Sq (c.g H (L1++L2)) (c.g H L1):=bM λa ha=>Ka _ ha
 refine⟨L1,(Kj.mp b.nd).1,r1.sm sm (λ_ _ _ e=>e),λp hp=>b.own p (Ka _ hp),b.fr,λi o h=>?_,b.lt,b.hd⟩
 have hi:i<(ρ.take σ.length).length:=(J0.mp h).1
 rw[Lu] at hi
 have h':ρ[i]?=some (.pv o):=by rw[List.getElem?_take] at h;split at h;exact h;cases h
 have:=b.kp i o h'
 rwa[KQ (by omega)] at this
theorem Bd.Fb{n:Nat}(b:Bd c σ H ρ τ θ):Bd c (σ++J8 n none) H (ρ++J8 n .un) τ θ:=by
 have hl:=b.sL
 obtain⟨L,b⟩:=b
 refine⟨L,b.nd,?_,b.own,b.fr,λi o h=>?_,b.lt,b.hd⟩
 ·have:=b.rel.app (iY (k:=c.toKx) (G:=c.g H L) (H:=H) n)
  simpa[JY] using this
 ·by_cases z:i<ρ.length
  ·rw[KQ z] at h
   rw[KQ (by omega)]
   exact b.kp i o h
  ·rw[KA (by omega)] at h
   have:=ND (Lm h)
   cases this
end
noncomputable abbrev Mg:=A->List Sl->Option (List Sl)
noncomputable abbrev Mgs:=List A->List Sl->Option (List Sl)
noncomputable def TGm(K:Kx)(lo:Nat)(G:Mg):TG:=λv σ H Q=>∃(c:Cn) (ρ:List Sl) (τ:St) (θ:List Sl) (a:A) (ρ':List Sl),c.toKx=K/\Bd c σ H ρ (some v::τ) (.fr a::θ)/\G a ρ=some ρ'/\∀σ' H',σ'.take lo=σ.take lo->σ'.length=σ.length->Bd c σ' H' ρ' τ θ->Q σ' H'
noncomputable def Jz(K:Kx)(lo:Nat)(G:Mgs):TGs:=λvs σ H Q=>∃(c:Cn) (ρ:List Sl) (τ:St) (θ:List Sl) (as:List A) (ρ':List Sl),c.toKx=K/\vs.length=as.length/\Bd c σ H ρ (vs.map some++τ) (as.map Sl.fr++θ)/\G as ρ=some ρ'/\∀σ' H',σ'.take lo=σ.take lo->σ'.length=σ.length->Bd c σ' H' ρ' τ θ->Q σ' H'
structure JG (X:Cx) (lo:Nat) (tg:Expr) (G:Mg):Prop where
 p:PG X tg (TGm (kx X) lo G)
structure JGs (X:Cx) (lo:Nat) (tg:List Expr) (G:Mgs):Prop where
 p:PGs X tg (Jz (kx X) lo G)
noncomputable def cP(i:Nat):Mg:=λa ρ=>put i (.fr a) ρ
noncomputable def ur:Mgs:=λas ρ=>match as with
 | []=>some ρ
 | _=>none
noncomputable def kS(g:Mg)(gs:Mgs):Mgs:=λas ρ=>match as with
 | a::as=>match g a ρ with
  | some ρ1=>gs as ρ1
  | none=>none
 | []=>none
noncomputable def pP(n:Nat)(gs:Mgs):Mg:=λa ρ=>match a with
 | .tup as=>if as.length=n then gs as ρ else none
 | _=>none
section
variable{X:Cx}{E:XK}{lo:Nat}
theorem yr{i:Nat}{x:Str}{pos:Pos}(hN:X.N.Nodup)(hi:X.N[i]?=some x)(hx:Loc X.env.scope x)(hl:lo<=i)(hf:X.fn x=true\/X.env.scope.names.lookup x=some .local:=by first|exact .inl rfl|exact .inr rfl|assumption):JG X lo (.Name x pos) (cP i):=⟨λpins s σ H v u Q I r h=>by
 refine zp hN hi hx hf pins s σ H v u Q I r ?_
 obtain⟨c,ρ,τ,θ,a,ρ',ek,b,em,q⟩:=h
 exact q _ H (by rw[List.take_set_of_le hl]) (by simp) (Bd.put b (λo z=>by cases z) em)⟩
theorem zW:JGs X lo [] ur:=⟨λpins s σ H v u Q I r h=>by
 refine xW pins s σ H v u Q I r ?_
 obtain⟨c,ρ,τ,θ,as,ρ',ek,hl,b,em,q⟩:=h
 cases as with
 | nil=>cases em;cases v with|nil=>exact⟨rfl,q σ H rfl rfl b⟩|cons _ _=>simp at hl
 | cons _ _=>cases em⟩
theorem uX{e:Expr}{es:List Expr}{g:Mg}{gs:Mgs}(h1:JG X lo e g)(h2:JGs X lo es gs)(hp:∀{t:TG}{u:TGs},PG X e t->PGs X es u->PGs X (e::es) (AF t u)):JGs X lo (e::es) (kS g gs):=⟨λpins s σ H v u Q I r h=>by
 refine hp h1.p h2.p pins s σ H v u Q I r ?_
 obtain⟨c,ρ,τ,θ,as,ρ',ek,hl,b,em,q⟩:=h
 cases as with
 | nil=>cases em
 | cons a as =>
  cases v with
  | nil=>simp at hl
  | cons v vs =>
   unfold kS at em
   simp only at em
   cases e1:g a ρ with
   | none=>simp only[e1] at em;cases em
   | some ρ1 =>
    simp only[e1] at em
    refine⟨v,vs,rfl,c,ρ,_,_,a,ρ1,ek,b,e1,λσ' H' t1 l1 b1=>⟨c,ρ1,τ,θ,as,ρ',ek,by simpa using hl,b1,em,λσ2 H2 t2 l2 b2=>q σ2 H2 (t2.trans t1) (l2.trans l1) b2⟩⟩⟩
theorem DT{es:List Expr}{k n:Nat}{gs:Mgs}{pos:Pos}(hc:X.calm=true)(h:JGs X lo es gs)(hn:(assignEach es X.env).length=n:=by rfl)(hst:(assignEach es X.env).findIdx? (·.1)=none:=by rfl):JG X lo (.Tuple es k pos) (pP n gs):=⟨λpins s σ H v u Q I r h'=>by
 refine CC hc h.p hn hst pins s σ H v u Q I r ?_
 obtain⟨c,ρ,τ,θ,a,ρ',ek,b,em,q⟩:=h'
 cases a<;>first|(cases em;done)|skip
 rename_i as
 unfold pP at em
 simp only at em
 split at em
 ·rename_i hl
  obtain⟨L,bl,i1⟩:=Bd.open (r:=.fr (.tup as)) b trivial rfl
  obtain⟨p,vs,rfl,s1,rr⟩:=i1.2.1 as rfl
  have:c.K=X.K:=by have:=congrArg Kx.K ek;exact this
  refine⟨p,vs,rfl,by rw[<- this];exact bU (g_same _ _ _) s1,by rw[rr.len];exact hl,c,ρ,τ,θ,as,ρ',ek,rr.len,?_,em,q⟩
  obtain⟨nd,rel,own,fr,kp,lt,hdd⟩:=bl
  exact⟨L,nd,by have:=(ao.frs (H:=H) rr).app rel;simpa[JY] using this,own,fr,kp,by simp[lt,rr.len],hdd⟩
 ·cases em⟩
def Hr(K:Kx)(J:It)(τi:St)(θi:List A)(as:List A):Prop:=∀(c:Cn)(σ:St)(H:Hp)(ρ:List Sl)(τx:St)(θx:List Sl)(τ:St)(θ:List Sl)(i:Nat),c.toKx=K->τx.length=θx.length->Bd c σ H ρ (τx++(τi++τ)) (θx++(θi.map Sl.fr++θ)) ->
 (as.length<=i->J.stop i H)/\∀a,as[i]?=some a->J.go i H/\∀x H',J.yld i H x H'->Bd c σ H' ρ (some x::(τx++(τi++τ))) (.fr a::(θx++(θi.map Sl.fr++θ)))
noncomputable def Ig(K:Kx)(E:XK)(c:Cn)(σ:St)(ρ:List Sl)(τ:St)(θ:List Sl)(R:It->Hp->Prop):Except Str (List A)->Prop
 | .ok as=>∀J H τi θi,τi.length=θi.length->Hr K J τi θi as->Bd c σ H ρ (τi++τ) (θi.map Sl.fr++θ)->R J H
 | .error x=>∀C H,K.mg x=some (.ref C)->Bd c σ H ρ τ θ->E (.ref C) none H
noncomputable def TIm(K:Kx)(E:XK)(m:Mi (List A)):TI:=λσ H R=>∃(c:Cn) (ρ:List Sl) (τ:St) (θ:List Sl) (o:Except Str (List A)) (ρ':List Sl),c.toKx=K/\Bd c σ H ρ τ θ/\m ρ=some (o,ρ')/\Ig K E c σ ρ' τ θ R o
structure JI (X:Cx) (E:XK) (tg iter:Expr) (m:Mi (List A)):Prop where
 p:PI X tg iter (TIm (kx X) E m)
theorem mY{c:Cn}{σ:St}{ρ':List Sl}{τ:St}{θ:List Sl}{o:Except Str (List A)}{R:It->Hp->Prop}(q:Ig (kx X) E c σ ρ' τ θ R o):∀e,o=.error e->∀C H,X.mg e=some (.ref C)->Bd c σ H ρ' τ θ->E (.ref C) none H:=λe ee=>by subst ee;exact q
noncomputable def mQ(s:Str):List A:=s.cps.toList.map λc=>.str ⟨#[c]⟩
noncomputable def xX:A->Option (List A)
 | .str s=>some (mQ s)
 | a=>xy a
noncomputable def nO(m:Mi Rr):Mi (List A):=aq m λr ρ=>match aQ r ρ with
 | some (a,ρ')=>match xX a with
  | some as=>some (.ok as,ρ')
  | none=>none
 | none=>none
theorem Bd.mid{c:Cn}{σ:St}{H:Hp}{ρ:List Sl}{τ:St}{θ:List Sl}{xs:St}{ss:List Sl}{v:V}{a:A}(e:xs.length=ss.length)(b:Bd c σ H ρ (xs++(some v::τ)) (ss++(.fr a::θ))):∃L,BdL c σ H ρ (xs++(some v::τ)) (ss++(.fr a::θ)) L/\RA c.toKx (c.g H L) v a:=by
 obtain⟨L,b⟩:=b
 have r:ao c.toKx (c.g H L) H (xs++(some v::(τ++σ))) (ss++(.fr a::(θ++ρ))) L:=by have:=b.rel;simpa[JY] using this
 obtain⟨L1,L2,e1,r1,r2⟩:=ao.split e r
 cases r2 with
 | cons h r3=>cases h with|fr h=>exact⟨L,b,h⟩
theorem uJ{tg l:Expr}{m:Mi Rr}(hl:JE X E l m):JI X E tg l (nO m):=⟨λpins s σ H R I h=>by
 refine xu hl.p pins s σ H R I ?_
 obtain⟨c,ρ,τ,θ,o,ρ',ek,b,em,q⟩:=h
 refine aP ek b em (λx v ρ1 H1 hv b1 em1=>?_) (mY q)
 cases e1:aQ x ρ1 with
 | none=>simp only[e1] at em1;cases em1
 | some p =>
  obtain⟨a,ρ2⟩:=p
  simp only[e1] at em1
  have b2:=Bd.aQ (xs:=[]) (ss:=[]) rfl b1 hv e1
  cases e2:xX a with
  | none=>simp only[e2] at em1;cases em1
  | some as =>
   simp only[e2] at em1
   cases em1
   have eK:c.K=X.K:=congrArg Kx.K ek
   cases a<;>first|(cases e2;done)|skip
   ·rename_i t
    cases e2
    have rt:=Bd.top b2 (a:=.str t) rfl
    cases rt
    refine .inr ⟨t,rfl,q _ H1 [some (.str t)] [.str t] rfl (λc' σ' H' ρ' τx θx τ' θ' i ek' lx b'=>?_) b2⟩
    obtain⟨L,bl,h⟩:=Bd.mid lx b'
    have hl:(mQ t).length=t.cps.size:=by simp[mQ]
    refine⟨λhi=>by rw[hl] at hi;exact hi,λa ha=>?_⟩
    have hi:i<t.cps.size:=by rw[<- hl];exact(J0.mp ha).1
    refine⟨hi,λx H2 y=>?_⟩
    obtain⟨rfl,c,hc,rfl⟩:=y
    have:a=.str ⟨#[c]⟩:=by
     unfold mQ at ha
     rw[Kr,NU,hc] at ha
     exact(JV ha).symm
    subst this
    exact bl.push (.str _)
   ·cases e2
    have rt:=Bd.top b2 (a:=.tup as) rfl
    cases rt with
    | tup e0 r0 =>
     rename_i p vs
     refine .inl ⟨p,rfl,.inr ⟨⟨vs,by rw[<- eK];exact e0⟩,q _ H1 [some (.ref p)] [.tup as] rfl (λc' σ' H' ρ' τx θx τ' θ' i ek' lx b'=>?_) b2⟩⟩
     have eK':c'.K=X.K:=congrArg Kx.K ek'
     obtain⟨L,bl,h⟩:=Bd.mid lx b'
     cases h with
     | tup e3 r3 =>
      rename_i us
      have sq:SqT X.K H' p us:=by rw[<- eK'];exact bU (g_same _ _ _) e3
      refine⟨λhi=>⟨us,sq,by rw[r3.len];exact hi⟩,λa ha=>?_⟩
      obtain⟨u,h1,h2⟩:=r3.ta ha
      refine⟨⟨us,u,sq,h1⟩,λx H2 y=>?_⟩
      obtain⟨rfl,y⟩:=y
      have:=y us sq
      rw[h1] at this;cases this
      exact bl.push h2
   ·cases e2
    have rt:=Bd.top b2 (a:=.lst as) rfl
    cases rt with
    | lst e0 r0 =>
     rename_i p vs
     refine .inl ⟨p,rfl,.inl ⟨⟨vs,by rw[<- eK];exact e0⟩,q _ H1 [some (.ref p)] [.lst as] rfl (λc' σ' H' ρ' τx θx τ' θ' i ek' lx b'=>?_) b2⟩⟩
     have eK':c'.K=X.K:=congrArg Kx.K ek'
     obtain⟨L,bl,h⟩:=Bd.mid lx b'
     cases h with
     | lst e3 r3 =>
      rename_i us
      have sq:SqL X.K H' p us:=by rw[<- eK'];exact lL (g_same _ _ _) e3
      refine⟨λhi=>⟨us,sq,by rw[r3.len];exact hi⟩,λa ha=>?_⟩
      obtain⟨u,h1,h2⟩:=r3.ta ha
      refine⟨⟨us,u,sq,h1⟩,λx H2 y=>?_⟩
      obtain⟨rfl,y⟩:=y
      have:=y us sq
      rw[h1] at this;cases this
      exact bl.push h2⟩
noncomputable def jF(lo:Int)(n:Nat):List A:=(KH n).map λi=>.int (lo+(i:Nat))
theorem EY{K:Kx}{lo:Int}{n:Nat}:Hr K (Itr lo n) [] [] (jF lo n):=λc σ H ρ τx θx τ θ i ek lx b=>by
 have hl:(jF lo n).length=n:=by simp[jF]
 refine⟨λh=>by rw[hl] at h;exact h,λa ha=>?_⟩
 have hi:i<n:=by rw[<- hl];exact(J0.mp ha).1
 refine⟨hi,λx H' y=>?_⟩
 obtain⟨rfl,rfl⟩:=y
 have:a=.int (lo+i):=by
  unfold jF at ha
  rw[Kr,MA hi] at ha
  exact(JV ha).symm
 subst this
 exact b.push λ_=>.int _
noncomputable def eE(m:Mi Rr):Mi (List A):=aq m λr ρ=>match res ρ r with
 | some (.int j)=>if -(2^60)<=j/\j<2^60 then some (.ok (jF 0 j.toNat),ρ) else none
 | _=>none
theorem yq{tg a:Expr}{m:Mi Rr}{p pos:Pos}(hg:Gl X "range")(hm:X.mg "range" = none)(ha:JE X E a m)(hs:starEach [a] X.env=[(false,eval a X.env)]:=by rfl)(hs':starEach [a] X.env=(false,eval a X.env)::starEach [] X.env:=by rfl):JI X E tg (.Call (.Name "range" p) [a] [] pos) (eE m):=⟨λpins s σ H R I h=>by
 refine rY hg hm (a6 ha.p cg hs') hs pins s σ H R I ?_
 obtain⟨c,ρ,τ,θ,o,ρ',ek,b,em,q⟩:=h
 refine aP ek b em (λx v ρ1 H1 hv b1 em1=>?_) (mY q)
 cases e1:res ρ1 x with
 | none=>simp only[e1] at em1;cases em1
 | some a =>
  have r1:=Bd.rd b1 hv e1
  simp only[e1] at em1
  cases a<;>first|(cases em1;done)|skip
  rename_i j
  simp only at em1
  split at em1
  ·rename_i hj
   cases em1
   cases r1
   exact⟨j,rfl,by omega,by omega,q _ H1 [] [] rfl EY b1.drop⟩
  ·cases em1⟩
noncomputable def forL(G:Mg)(b:Ms):List A->Ms
 | [],ρ=>some (.nx,ρ)
 | a::as,ρ=>match G a ρ with
  | none=>none
  | some ρ1=>match b ρ1 with
   | some (.nx,ρ2)=>forL G b as ρ2
   | some (.ct,ρ2)=>forL G b as ρ2
   | some (.bk,ρ2)=>some (.nx,ρ2)
   | r=>r
noncomputable def iQ(m:Mi (List A))(G:Mg)(b:Ms):Ms:=a8 m λas ρ=>forL G b as ρ
theorem wy{tg iter:Expr}{body:List Stmt}{m:Mi (List A)}{G:Mg}{mb:Ms}{pos:Pos}(hp:PassesOwn (model X.prog X.w) X.A X.env X.xe)(hc:X.calm=true)(hi:JI X E tg iter m)(hg:JG X 0 tg G)(hb:JSs X E body mb)
  (hs:∀x,foldedSetIterable iter X.env x=pure x:=by intro _;rfl):JS X E (.For tg iter body [] pos) (iQ m G mb):=⟨PS.weaken (oj hp hc hi.p hg.p hb.p hs) λD σ H h=>by
 obtain⟨c,ρ,τ,θ,f,ρ',ek,b,em,q⟩:=h
 rcases aZ em with ⟨as,ρ1,e1,e2⟩|⟨e,e1,e2⟩
 ·refine⟨c,ρ,τ,_,_,ρ1,ek,b,e1,λJ H1 τi θi li it b1=>?_⟩
  refine⟨λi m σ' H'=>m=as.length-i/\i<=as.length/\∃ρi,Bd c σ' H' ρi (τi++τ) (θi.map Sl.fr++θ.map Sl.fr)/\forL G mb (as.drop i) ρi=some (f,ρ'),⟨_,rfl,K7 _,ρ1,b1,by simpa using e2⟩,?_⟩
  rintro i m σ' H' ⟨rfl,hi,ρi,bi,ei⟩
  obtain⟨i1,i2⟩:=it c σ' H' ρi [] [] τ (θ.map Sl.fr) i ek rfl bi
  by_cases hlt:i<as.length
  ·have hd:as.drop i=as[i]::as.drop (i+1):=KG hlt
   rw[hd] at ei
   obtain⟨go,yl⟩:=i2 as[i] (by simp[hlt])
   refine .inr ⟨go,λσ2 H2=>∃ρ2,Bd c σ2 H2 ρ2 (τi++τ) (θi.map Sl.fr++θ.map Sl.fr)/\forL G mb (as.drop (i+1)) ρ2=some (f,ρ'),λσ2 H2 ⟨ρ2,q1,q2⟩=>⟨as.length-(i+1),by omega,rfl,hlt,ρ2,q1,q2⟩,λx H2 y=>?_⟩
   have b2:=yl x H2 y
   unfold forL at ei
   cases eg:G as[i] ρi with
   | none=>simp only[eg] at ei;cases ei
   | some ρ2 =>
    simp only[eg] at ei
    refine⟨c,ρi,_,_,as[i],ρ2,ek,b2,eg,λσ3 H3 _ _ b3=>?_⟩
    cases eb:mb ρ2 with
    | none=>simp only[eb] at ei;cases ei
    | some p =>
     obtain⟨f1,ρ3⟩:=p
     simp only[eb] at ei
     refine⟨c,ρ2,τi++τ,θi++θ,f1,ρ3,ek,by rw[KD];exact b3,eb,?_⟩
     cases f1 with
     | nx=>intro σ4 H4 b4;rw[KD] at b4;exact⟨ρ3,b4,ei⟩
     | ct=>intro σ4 H4 b4;rw[KD] at b4;exact⟨ρ3,b4,ei⟩
     | bk=>cases ei;intro σ4 H4 b4;rw[KD] at b4;exact q σ4 H4 (Bd.xC (by simp[li]) b4)
     | rt s=>cases ei;intro v σ4 H4 hs b4;rw[KD] at b4;exact q v σ4 H4 hs (Bd.pG (by simp[li]) b4)
     | ex x=>cases ei;intro C σ4 H4 hm b4;rw[KD] at b4;exact q C σ4 H4 hm (Bd.xC (by simp[li]) b4)
  ·have e:i=as.length:=by omega
   subst e
   rw[LJ] at ei
   cases ei
   exact .inl ⟨i1 (J1 _),q σ' H' (Bd.xC (by simp[li]) bi)⟩
 ·subst e2
  exact⟨c,ρ,τ,_,_,ρ',ek,b,e1,λC H1 hm b1=>q C σ H1 hm b1⟩⟩
noncomputable def c9(t:Mi Bool)(b:Ms):Nat->Ms
 | 0,_=>none
 | n+1,ρ=>match t ρ with
  | some (.ok true,ρ1)=>match b ρ1 with
   | some (.nx,ρ2)=>c9 t b n ρ2
   | some (.ct,ρ2)=>c9 t b n ρ2
   | some (.bk,ρ2)=>some (.nx,ρ2)
   | r=>r
  | some (.ok false,ρ1)=>some (.nx,ρ1)
  | some (.error e,ρ1)=>some (.ex e,ρ1)
  | none=>none
noncomputable def jl(n:Nat)(t:Mi Bool)(b:Ms):Ms:=c9 t b n
theorem ug{n:Nat}{t:Expr}{body:List Stmt}{mt:Mi Bool}{mb:Ms}{pos:Pos}(hp:PassesOwn (model X.prog X.w) X.A X.env X.xe)(ht:JT X E t mt)(hb:JSs X E body mb):JS X E (.While t body [] pos) (jl n mt mb):=⟨PS.weaken (uD hp ht.p hb.p) λD σ H h=>by
 obtain⟨c,ρ,τ,θ,f,ρ',ek,b,em,q⟩:=h
 refine⟨λm σ' H'=>∃ρi,Bd c σ' H' ρi τ (θ.map Sl.fr)/\c9 mt mb m ρi=some (f,ρ'),⟨n,ρ,b,em⟩,?_⟩
 rintro m σ' H' ⟨ρi,bi,ei⟩
 cases m with
 | zero=>cases ei
 | succ m =>
  unfold c9 at ei
  cases et:mt ρi with
  | none=>simp only[et] at ei;cases ei
  | some p =>
   obtain⟨o,ρ1⟩:=p
   refine⟨c,ρi,τ,_,o,ρ1,ek,bi,et,?_⟩
   cases o with
   | error e=>simp only[et] at ei;cases ei;exact λC H1 hm b1=>q C σ' H1 hm b1
   | ok k =>
    intro H1 b1
    cases k with
    | false=>simp only[et] at ei;cases ei;rw[if_neg (by decide)];exact q σ' H1 b1
    | true =>
     simp only[et] at ei
     rw[if_pos rfl]
     refine⟨λσ2 H2=>∃ρ2,Bd c σ2 H2 ρ2 τ (θ.map Sl.fr)/\c9 mt mb m ρ2=some (f,ρ'),λσ2 H2 w=>⟨m,M9 _,w⟩,?_⟩
     cases eb:mb ρ1 with
     | none=>simp only[eb] at ei;cases ei
     | some p =>
      obtain⟨f1,ρ3⟩:=p
      simp only[eb] at ei
      refine⟨c,ρ1,τ,θ,f1,ρ3,ek,b1,eb,?_⟩
      cases f1 with
      | nx=>exact λσ4 H4 b4=>⟨ρ3,b4,ei⟩
      | ct=>exact λσ4 H4 b4=>⟨ρ3,b4,ei⟩
      | bk=>cases ei;exact λσ4 H4 b4=>q σ4 H4 b4
      | rt s=>cases ei;exact λv σ4 H4 hs b4=>q v σ4 H4 hs b4
      | ex x=>cases ei;exact λC σ4 H4 hm b4=>q C σ4 H4 hm b4⟩
end
end M
namespace M
open PySem L2
theorem fC(r:Rr)(v:V)(t:St)(u:List Sl):bj r v t=bj r v []++t/\bh r u=bh r []++u/\(bj r v []).length=(bh r []).length:=by cases r<;>exact⟨rfl,rfl,rfl⟩
theorem pw:100000<sizeLine:=by rw[sizeLine_eq];decide
noncomputable def d9(G:Mg)(t:Mi Bool)(e:Mi Rr):List A->List A->List Sl->Option (List A×List Sl)
 | [],acc,ρ=>some (acc,ρ)
 | a::as,acc,ρ=>match G a ρ with
  | none=>none
  | some ρ1=>match t ρ1 with
   | some (.ok true,ρ2)=>match e ρ2 with
    | some (.ok r,ρ3)=>match aQ r ρ3 with
     | some (d,ρ4)=>d9 G t e as (acc++[d]) ρ4
     | none=>none
    | _=>none
   | some (.ok false,ρ2)=>d9 G t e as acc ρ2
   | _=>none
noncomputable def eF:Mi Bool:=cV true
noncomputable def ik(n:Nat)(mi:Mi (List A))(G:Mg)(t:Mi Bool)(e:Mi Rr):Mi Rr:=aq mi λas ρ=>if as.length<=100000 then match d9 G t e as [] (ρ++J8 n .un) with
 | some (ys,ρ')=>some (.ok (.nw (.lst ys)),ρ'.take ρ.length)
 | none=>none else none
structure JF (X:Cx) (E:XK) (ifs:List Expr) (m:Mi Bool):Prop where
 p:PF X ifs (TTm (kx X) E m)
section
variable{X:Cx}{E:XK}
theorem EO:JF X E [] eF:=⟨λpins s σ H Q I h=>by
 refine D3 pins s σ H Q I ?_
 obtain⟨c,ρ,τ,θ,o,ρ',ek,b,em,q⟩:=h
 cases em;exact q H b⟩
theorem Eh{t:Expr}{m:Mi Bool}(h:JT X E t m):JF X E [t] m:=⟨Eg h.p⟩
noncomputable abbrev E00:XK:=λ_ _ _=>False
theorem sM{n:Nat}{G:Mg}{mt:Mi Bool}{me:Mi Rr}{lo:Nat}{c:Cn}{σ τ τi:St}{H1:Hp}{ρ1 ρ2:List Sl}{θ:List Sl}{θi as ys:List A}{J:It}{Q:VK}(hlo:σ.length=lo)(ek:c.toKx=kx X)(li:τi.length=θi.length)
  (it:∀σ H ρ τx θx i,τx.length=θx.length->Bd c σ H ρ (τx++(τi++τ)) (θx++(θi.map Sl.fr++θ))->(as.length<=i->J.stop i H)/\∀a,as[i]?=some a->J.go i H/\∀x H',J.yld i H x H'->Bd c σ H' ρ (some x::(τx++(τi++τ))) (.fr a::(θx++(θi.map Sl.fr++θ))))
  (b1:Bd c σ H1 ρ1 (τi++τ) (θi.map Sl.fr++θ))(h100:as.length<=100000)(ec:d9 G mt me as [] (ρ1++J8 n .un)=some (ys,ρ2))(q:Ret (kx X) E c σ (ρ2.take ρ1.length) τ θ Q (.ok (.nw (.lst ys)))) :
  mR J (TGm (kx X) lo G) (TTm (kx X) E00 mt) (TEm (kx X) E00 me) Q (σ++J8 n none) H1:=by
 have hlen:σ.length=ρ1.length:=b1.sL
 refine⟨λi m σ' vs H'=>m=as.length-i/\i<=as.length/\σ'.take lo=σ/\∃ρi acc,vs.length=acc.length/\acc.length<=i/\Bd c σ' H' ρi (vs.reverse.map some++(τi++τ)) (acc.reverse.map Sl.fr++(θi.map Sl.fr++θ))/\d9 G mt me (as.drop i) acc ρi=some (ys,ρ2),
  ⟨_,rfl,K7 _,by rw[<- hlo,Nt],_,[],rfl,K7 _,b1.Fb,by simpa using ec⟩,?_⟩
 rintro i m σ' vs H' ⟨rfl,hi,htk,ρi,acc,lv,la,bi,ei⟩
 refine⟨by have:=fo;omega,?_⟩
 obtain⟨i1,i2⟩:=it σ' H' ρi (vs.reverse.map some) (acc.reverse.map Sl.fr) i (by simp[lv]) bi
 by_cases hlt:i<as.length
 ·have hd:as.drop i=as[i]::as.drop (i+1):=KG hlt
  rw[hd] at ei
  obtain⟨go,yl⟩:=i2 as[i] (by simp[hlt])
  refine .inr ⟨go,λσ2 vs2 H2=>σ2.take lo=σ/\∃ρ3 acc2,vs2.length=acc2.length/\acc2.length<=i+1/\Bd c σ2 H2 ρ3 (vs2.reverse.map some++(τi++τ)) (acc2.reverse.map Sl.fr++(θi.map Sl.fr++θ))/\d9 G mt me (as.drop (i+1)) acc2 ρ3=some (ys,ρ2),
   λσ2 vs2 H2 ⟨q0,ρ3,acc2,q1,q2,q3,q4⟩=>⟨as.length-(i+1),by omega,rfl,hlt,q0,ρ3,acc2,q1,q2,q3,q4⟩,λx H2 y=>?_⟩
  have b2:=yl x H2 y
  unfold d9 at ei
  cases eg:G as[i] ρi with
  | none=>simp only[eg] at ei;cases ei
  | some ρ3 =>
   simp only[eg] at ei
   refine⟨c,ρi,_,_,as[i],ρ3,ek,b2,eg,λσ3 H3 t3 l3 b3=>?_⟩
   cases et:mt ρ3 with
   | none=>simp only[et] at ei;cases ei
   | some p =>
    obtain⟨ot,ρ4⟩:=p
    cases ot with
    | error e=>simp only[et] at ei;cases ei
    | ok k =>
     refine⟨c,ρ3,_,_,.ok k,ρ4,ek,b3,et,λH4 b4=>?_⟩
     cases k with
     | false =>
      simp only[et] at ei
      rw[if_neg (by decide)]
      exact⟨t3.trans htk,ρ4,acc,lv,by omega,b4,ei⟩
     | true =>
      simp only[et] at ei
      rw[if_pos rfl]
      cases ee:me ρ4 with
      | none=>simp only[ee] at ei;cases ei
      | some p =>
       obtain⟨oe,ρ5⟩:=p
       cases oe with
       | error e=>simp only[ee] at ei;cases ei
       | ok r =>
        simp only[ee] at ei
        refine⟨c,ρ4,_,_,.ok r,ρ5,ek,b4,ee,λv H5 hv b5=>?_⟩
        cases ef:aQ r ρ5 with
        | none=>simp only[ef] at ei;cases ei
        | some p =>
         obtain⟨d,ρ6⟩:=p
         simp only[ef] at ei
         have b6:=Bd.aQ (xs:=[]) (ss:=[]) rfl b5 hv ef
         exact⟨t3.trans htk,ρ6,acc++[d],by simp[lv],by simp;omega,by simpa using b6,ei⟩
 ·have e:i=as.length:=by omega
  subst e
  rw[LJ] at ei
  cases ei
  refine .inl ⟨i1 (J1 _),λp hp=>?_⟩
  have b7:=Bd.o9 bi (by simp[lv]) hp vs ys k6
  have b8:=Bd.pG (by simp[li]) b7
  have es:σ'=σ++σ'.drop lo:=by rw[<- htk];exact(LI _ _).symm
  rw[es] at b8
  have b9:=b8.E4
  rw[hlen] at b9
  exact q _ _ trivial b9
theorem jO{n:Nat}{mi:Mi (List A)}{G:Mg}{mt:Mi Bool}{me:Mi Rr}{lo:Nat}(σ:St)(H:Hp)(Q:VK)(hlo:σ.length=lo)(h:TEm (kx X) E (ik n mi G mt me) σ H Q) :
  j2 n (TIm (kx X) E mi) (TGm (kx X) lo G) (TTm (kx X) E00 mt) (TEm (kx X) E00 me) σ H Q:=by
 obtain⟨c,ρ,τ,θ,o,ρ',ek,b,em,q⟩:=h
 rcases bind_some em with ⟨as,ρ1,e1,e2⟩|⟨e,e1,e2⟩
 ·refine⟨c,ρ,τ,θ,_,ρ1,ek,b,e1,λJ H1 τi θi li it b1=>?_⟩
  split at e2
  ·rename_i h100
   cases ec:d9 G mt me as [] (ρ1++J8 n .un) with
   | none=>simp only[ec] at e2;cases e2
   | some p =>
    obtain⟨ys,ρ2⟩:=p
    simp only[ec] at e2
    cases e2
    exact sM hlo ek li (λσ H ρ τx θx i l b=>it c σ H ρ τx θx τ θ i ek l b) b1 h100 ec q
  ·cases e2
 ·subst e2
  exact⟨c,ρ,τ,θ,_,ρ',ek,b,e1,λC H1 hm b1=>q C H1 hm b1⟩
theorem xG{N:List Str}{k:Nat}{sc:Scope}{tg elt iter:Expr}{ifs:List Expr}{pos:Pos}{mi:Mi (List A)}{G:Mg}{mt:Mi Bool}{me:Mi Rr}{lo:Nat}(hc:X.calm=true)(S:bE X.N N k sc X.env.scope)(hlo:X.N.length=lo)(hi:JI X E tg iter mi)
  (hg:∀cl C s H fp,JG (cxC X N sc cl C s H fp) lo tg G)(ht:∀cl C s H fp,JF (cxC X N sc cl C s H fp) E00 ifs mt)(he:∀cl C s H fp,JE (cxC X N sc cl C s H fp) E00 elt me)(hs:∀x,foldedSetIterable iter X.env x=pure x:=by intro _;rfl) :
  JE X E (.ListComp elt [⟨tg,iter,ifs,0⟩] sc pos) (ik k mi G mt me) :=
 ⟨λpins s σ H Q I h=>xt hc S hi.p (λcl C s H fp=>(hg cl C s H fp).p) (λcl C s H fp=>(ht cl C s H fp).p) (λcl C s H fp=>(he cl C s H fp).p) hs pins s σ H Q I (jO σ H Q (I.len.trans hlo) h)⟩
theorem yB{i:Nat}{x:Str}{px spos:Pos}{N:List Str}{k:Nat}{sc:Scope}{tg elt iter:Expr}{ifs:List Expr}{pos:Pos}{mi:Mi (List A)}{G:Mg}{mt:Mi Bool}{me:Mi Rr}{lo:Nat}(hc:X.calm=true)(S:bE X.N N k sc X.env.scope)(hlo:X.N.length=lo)(hN:X.N.Nodup)(hx:X.N[i]?=some x)
  (hl:X.env.scope.names.lookup x=some .local)(hsw:swapsWith (.ListComp elt [⟨tg,iter,ifs,0⟩] sc pos) (some (.Name x px)) spos.line X.env=pure true)(hi:JI X E tg iter mi)
  (hg:∀cl C s H fp,JG (cxC X N sc cl C s H fp) lo tg G)(ht:∀cl C s H fp,JF (cxC X N sc cl C s H fp) E00 ifs mt)(he:∀cl C s H fp,JE (cxC X N sc cl C s H fp) E00 elt me)(hs:∀x,foldedSetIterable iter X.env x=pure x:=by intro _;rfl) :
  JS X E (.Assign [.Name x px] (.ListComp elt [⟨tg,iter,ifs,0⟩] sc pos) spos) (aJ i (ik k mi G mt me)) :=
 ⟨λpins s σ H D I h=>Ad hc S hN hx hl hsw hi.p (λcl C s H fp=>(hg cl C s H fp).p) (λcl C s H fp=>(ht cl C s H fp).p) (λcl C s H fp=>(he cl C s H fp).p) hs pins s σ H D I (by
  obtain⟨c,ρ,τ,θ,f,ρ',ek,b,em,q⟩:=h
  refine jO (E:=E) σ H _ (I.len.trans hlo) (cU ek b em q λr v ρ1 H1 hv b1 em1=>?_)
  cases e1:stT r ρ1 with
  | none=>simp only[e1] at em1;cases em1
  | some p =>
   obtain⟨t,ρ2⟩:=p
   simp only[e1] at em1
   obtain⟨b2,ht⟩:=Bd.stT hv b1 e1
   cases e2:put i t ρ2 with
   | none=>simp only[e2] at em1;cases em1
   | some ρ3 =>
    simp only[e2] at em1;cases em1
    exact q _ H1 (Bd.put b2 ht e2))⟩
noncomputable def aH(ρ:List Sl)(i:Nat):Option LO:=match ρ[i]? with
 | some (.lv o)=>some o
 | some (.pv o)=>some o
 | _=>none
noncomputable def setAt(ρ:List Sl)(i:Nat)(o:LO):List Sl:=match ρ[i]? with
 | some (.pv _)=>ρ.set i (.pv o)
 | _=>ρ.set i (.lv o)
theorem BdL.live{c:Cn}{σ:St}{H:Hp}{ρ:List Sl}{τ:St}{θ:List Sl}{L:List Addr}{i:Nat}{o:LO}(b:BdL c σ H ρ τ θ L)(h:aH ρ i=some o)(o':LO)(u:HO) :
  ∃p,σ[i]?=some (some (.ref p))/\LR c.toKx (c.g H L) H p o/\((∀H',H' p=some u->LR c.toKx (c.g H L) H' p o')->Bd c σ (upd H p u) (setAt ρ i o') τ θ):=by
 unfold aH at h
 unfold setAt
 cases es:ρ[i]? with
 | none=>simp only[es] at h;cases h
 | some s =>
  cases s with
  | un=>simp only[es] at h;cases h
  | fr a=>simp only[es] at h;cases h
  | lv o1=>simp only[es] at h;cases h;exact b.change es (.inl ⟨rfl,rfl⟩)
  | pv o1=>simp only[es] at h;cases h;exact b.change es (.inr ⟨rfl,rfl⟩)
theorem Bd.uK{c:Cn}{σ:St}{H:Hp}{ρ:List Sl}{τ:St}{θ:List Sl}{v:V}{a:A}(b:Bd c σ H ρ (some v::τ) (.fr a::θ)):∃L,BdL c σ H ρ τ θ L/\RA c.toKx (c.g H L) v a:=by
 obtain⟨L,bl,r⟩:=Bd.frs (vs:=[v]) (as:=[a]) b rfl
 cases r with|cons h _=>exact⟨L,bl,h⟩
noncomputable def iJ(i:Nat)(m:Mi Rr):Mi Rr:=aq m λr ρ=>match aQ r ρ with
 | some (a,ρ1)=>match aH ρ1 i with
  | some (.lst xs)=>if xs.length<=100000 then some (.ok (.fr .non),setAt ρ1 i (.lst (xs++[a]))) else none
  | _=>none
 | none=>none
theorem mO{c:Cn}{σ:St}{H:Hp}{ρ:List Sl}{τ:St}{θ:List Sl}{i:Nat}{xs:List A}(b:Bd c σ H ρ τ θ)(h:aH ρ i=some (.lst xs)):∃p vs,σ[i]?=some (some (.ref p))/\H p=some (.lst vs):=by
 obtain⟨L,b⟩:=b
 obtain⟨p,h1,h2,_⟩:=b.live h (.lst xs) (.lst [])
 cases h2 with|lst e r=>exact⟨p,_,h1,e⟩
noncomputable def isL(ρ:List Sl)(i:Nat):Bool:=match aH ρ i with
 | some (.lst _)=>true
 | _=>false
noncomputable def vQ(i:Nat)(m:Mi Rr):Mi Rr:=λρ=>if isL ρ i then m ρ else none
theorem nE{ρ:List Sl}{i:Nat}(h:isL ρ i=true):∃xs,aH ρ i=some (.lst xs):=by
 unfold isL at h
 cases e:aH ρ i with
 | none=>rw[e] at h;cases h
 | some o=>cases o with
  | lst xs=>exact⟨xs,rfl⟩
  | dic _=>rw[e] at h;cases h
  | obj _ _=>rw[e] at h;cases h
theorem rC{i:Nat}{x:Str}{px apos cpos:Pos}{e:Expr}{m:Mi Rr}(hN:X.N[i]?=some x)(hv:Vis X.env.scope x)(hd:NDb x)(hcd:NCd x)(he:JE X E e m)
  (hbase:attributeBase (.Name x px) "append" X.env (eval (.Name x px) X.env)=eval (.Name x px) X.env:=by rfl)
  (hfew:((backTo cpos (starEach [e] X.env)).all (λx=>!x.1)&&(backToKw cpos (keywordEach [] X.env)).all (λx=>x.1.isSome)&&decide (([e]:List Expr).length+([]:List Keyword).length+(if ([]:List Keyword).isEmpty then 0 else 1)<30))=true:=by rfl)
  (hline:(apos.endLine==cpos.line)=true:=by rfl)(hs:starEach [e] X.env=(false,eval e X.env)::starEach [] X.env:=by rfl)(hplain:(backTo cpos (starEach [] X.env)).any (·.1)=false:=by rfl) :
  JE X E (.Call (.Attribute (.Name x px) "append" apos) [e] [] cpos) (vQ i (iJ i m)) :=
 ⟨PE.weaken (tT PySem.F.plainAttrs_list PySem.F.slot_list_append PySem.F.type_list_append sQ (dN hN hv hd hcd) (a6 he.p cg hs) hbase hfew hline hs hplain) λσ H Q h=>by
  obtain⟨c,ρ,τ,θ,o,ρ',ek,b,em,q⟩:=h
  unfold vQ at em
  split at em
  ·rename_i hl
   obtain⟨xs0,hl⟩:=nE hl
   obtain⟨p,vs,hp,hH⟩:=mO b hl
   refine⟨_,hp,.inl ⟨rfl,vs,.inl (.inl hH)⟩,?_⟩
   refine aP ek b em (λr v ρ1 H1 hv b1 em1=>?_) (aL q)
   cases e1:aQ r ρ1 with
   | none=>simp only[e1] at em1;cases em1
   | some pr =>
    obtain⟨a,ρ2⟩:=pr
    simp only[e1] at em1
    have b2:=Bd.aQ (xs:=[]) (ss:=[]) rfl b1 hv e1
    cases e2:aH ρ2 i with
    | none=>simp only[e2] at em1;cases em1
    | some lo =>
     cases lo with
     | dic _=>simp only[e2] at em1;cases em1
     | obj _ _=>simp only[e2] at em1;cases em1
     | lst xs =>
      simp only[e2] at em1
      split at em1
      ·rename_i hx
       cases em1
       obtain⟨L,bl,ra⟩:=Bd.uK b2
       obtain⟨p',h1,h2,h3⟩:=bl.live e2 (.lst (xs++[a])) (.lst ((match H1 p with|some (.lst ws)=>ws|_=>[])++[v]))
       rw[hp] at h1;cases h1
       cases h2 with
       | lst e rr =>
        rename_i ws
        simp only[e] at h3
        refine⟨p,ws,v,rfl,rfl,e,by have:=rr.len;have:=pw;omega,q _ _ trivial (Bd.push (h3 λH' hh=>.lst hh (rr.snoc ra)) λ_=>.non)⟩
      ·cases em1
  ·cases em⟩
noncomputable def gR(i:Nat)(mk m:Mi Rr):Ms:=a8 m λr ρ0=>if isL ρ0 i then a8 mk (λrk=>λρ=>match aQ r ρ with
 | some (a,ρ1)=>match res ρ1 rk,aH ρ1 i with
  | some (.int k),some (.lst xs)=>match ixN xs.length k with
   | some j=>some (.nx,setAt ρ1 i (.lst (xs.set j a)))
   | none=>none
  | _,_=>none
 | none=>none) ρ0 else none
theorem vn{i:Nat}{x:Str}{px p1 pos:Pos}{ek e:Expr}{mk m:Mi Rr}(hN:X.N[i]?=some x)(hv:Vis X.env.scope x)(hd:NDb x)(hcd:NCd x)(hk:JE X E ek mk)(he:JE X E e m)
  (hp:∀{to ti te:TE},PE X (.Name x px) to->PE X ek ti->PE X e te->PS X (.Assign [.Subscript (.Name x px) ek p1] e pos) (rM te (Hb to ti AE))):JS X E (.Assign [.Subscript (.Name x px) ek p1] e pos) (gR i mk m) :=
 ⟨PS.weaken (hp (dN hN hv hd hcd) hk.p he.p) λD σ H h=>by
  obtain⟨c,ρ,τ,θ,f,ρ',ek,b,em,q⟩:=h
  refine cU ek b em q λr v ρ1 H1 hv b1 em1=>?_
  split at em1
  ·rename_i hl
   obtain⟨xs0,hl⟩:=nE hl
   obtain⟨p,vs,hp,hH⟩:=mO b1 hl
   refine⟨_,hp,?_⟩
   rcases aZ em1 with ⟨rk,ρ2,e1,e2⟩|⟨ee,e1,e2⟩
   ·refine⟨c,ρ1,_,_,_,ρ2,ek,b1,e1,λw H2 hw b2=>?_⟩
    cases ef:aQ r ρ2 with
    | none=>simp only[ef] at e2;cases e2
    | some pr =>
     obtain⟨a,ρ3⟩:=pr
     simp only[ef] at e2
     have b3:Bd c σ H2 ρ3 (bj rk w (some v::τ)) (bh rk (.fr a::θ.map Sl.fr)):=by
      obtain⟨g1,g2,g3⟩:=fC rk w (bj r v τ) (bh r (θ.map Sl.fr))
      obtain⟨g4,g5,_⟩:=fC rk w (some v::τ) (.fr a::θ.map Sl.fr)
      rw[g4,g5]
      rw[g1,g2] at b2
      exact Bd.aQ g3 b2 hv ef
     cases er:res ρ3 rk with
     | none=>simp only[er] at e2;cases e2
     | some ak =>
      cases ak<;>first|(simp only[er] at e2;cases e2;done)|skip
      rename_i k
      have rk':=Bd.rd b3 hw er
      cases rk'
      cases el:aH ρ3 i with
      | none=>simp only[er,el] at e2;cases e2
      | some lo =>
       cases lo with
       | dic _=>simp only[er,el] at e2;cases e2
       | obj _ _=>simp only[er,el] at e2;cases e2
       | lst xs =>
        simp only[er,el] at e2
        cases ej:ixN xs.length k with
        | none=>simp only[ej] at e2;cases e2
        | some j =>
         simp only[ej] at e2;cases e2
         obtain⟨L,bl,ra⟩:=Bd.uK b3.drop
         obtain⟨p',h1,h2,h3⟩:=bl.live el (.lst (xs.set j a)) (.lst ((match H2 p with|some (.lst ws)=>ws|_=>[]).set j v))
         rw[hp] at h1;cases h1
         cases h2 with
         | lst e rr =>
          rename_i ws
          simp only[e] at h3
          exact⟨p,ws,k,j,rfl,rfl,e,by rw[rr.len];exact ej,q σ _ (h3 λH' hh=>.lst hh (rr.set ra j))⟩
   ·subst e2
    exact⟨c,ρ1,_,_,_,ρ',ek,b1,e1,λC H2 hm b2=>q C σ H2 hm b2.drop⟩
  ·cases em1⟩
noncomputable def yL(ρ:List Sl)(i:Nat):Bool:=match aH ρ i with
 | some (.dic _)=>true
 | _=>false
theorem sD{ρ:List Sl}{i:Nat}(h:yL ρ i=true):∃xs,aH ρ i=some (.dic xs):=by
 unfold yL at h
 cases e:aH ρ i with
 | none=>rw[e] at h;cases h
 | some o=>cases o with
  | dic xs=>exact⟨xs,rfl⟩
  | lst _=>rw[e] at h;cases h
  | obj _ _=>rw[e] at h;cases h
theorem xm{c:Cn}{σ:St}{H:Hp}{ρ:List Sl}{τ:St}{θ:List Sl}{i:Nat}{xs:List (Key×A)}(b:Bd c σ H ρ τ θ)(h:aH ρ i=some (.dic xs)):∃p vs,σ[i]?=some (some (.ref p))/\H p=some (.dK vs):=by
 obtain⟨L,b⟩:=b
 obtain⟨p,h1,h2,_⟩:=b.live h (.dic xs) (.lst [])
 cases h2 with|dic e r=>exact⟨p,_,h1,e⟩
noncomputable def AR(i:Nat)(mk m:Mi Rr):Ms:=a8 m λr ρ0=>if yL ρ0 i then a8 mk (λrk=>λρ=>match aQ r ρ with
 | some (a,ρ1)=>match res ρ1 rk,aH ρ1 i with
  | some ka,some (.dic kvs)=>match fK ka with
   | some y=>if kvs.length<=100000 then some (.nx,setAt ρ1 i (.dic (sZ kvs y a))) else none
   | none=>none
  | _,_=>none
 | none=>none) ρ0 else none
theorem yd{i:Nat}{x:Str}{px p1 pos:Pos}{ek e:Expr}{mk m:Mi Rr}(hu:X.A.units+1<cLine)(hN:X.N[i]?=some x)(hv:Vis X.env.scope x)(hd:NDb x)(hcd:NCd x)(hk:JE X E ek mk)(he:JE X E e m)
  (hs:swapsWith e (some (.Subscript (.Name x px) ek p1)) pos.line X.env=pure false:=by rfl):JS X E (.Assign [.Subscript (.Name x px) ek p1] e pos) (AR i mk m) :=
 ⟨PS.weaken (zH hu (dN hN hv hd hcd) hk.p he.p hs) λD σ H h=>by
  obtain⟨c,ρ,τ,θ,f,ρ',ek,b,em,q⟩:=h
  refine cU ek b em q λr v ρ1 H1 hv b1 em1=>?_
  split at em1
  ·rename_i hl
   obtain⟨xs0,hl⟩:=sD hl
   obtain⟨p,vs,hp,hH⟩:=xm b1 hl
   refine⟨_,hp,?_⟩
   rcases aZ em1 with ⟨rk,ρ2,e1,e2⟩|⟨ee,e1,e2⟩
   ·refine⟨c,ρ1,_,_,_,ρ2,ek,b1,e1,λw H2 hw b2=>?_⟩
    cases ef:aQ r ρ2 with
    | none=>simp only[ef] at e2;cases e2
    | some pr =>
     obtain⟨a,ρ3⟩:=pr
     simp only[ef] at e2
     have b3:Bd c σ H2 ρ3 (bj rk w (some v::τ)) (bh rk (.fr a::θ.map Sl.fr)):=by
      obtain⟨g1,g2,g3⟩:=fC rk w (bj r v τ) (bh r (θ.map Sl.fr))
      obtain⟨g4,g5,_⟩:=fC rk w (some v::τ) (.fr a::θ.map Sl.fr)
      rw[g4,g5]
      rw[g1,g2] at b2
      exact Bd.aQ g3 b2 hv ef
     cases er:res ρ3 rk with
     | none=>simp only[er] at e2;cases e2
     | some ka =>
      have rk':=Bd.rd b3 hw er
      cases el:aH ρ3 i with
      | none=>simp only[er,el] at e2;cases e2
      | some lo =>
       cases lo with
       | lst _=>simp only[er,el] at e2;cases e2
       | obj _ _=>simp only[er,el] at e2;cases e2
       | dic kvs =>
        simp only[er,el] at e2
        cases ej:fK ka with
        | none=>simp only[ej] at e2;cases e2
        | some y =>
         simp only[ej] at e2
         split at e2
         ·rename_i h100
          cases e2
          obtain⟨L,bl,ra⟩:=Bd.uK b3.drop
          obtain⟨p',h1,h2,h3⟩:=bl.live el (.dic (sZ kvs y a)) (.dK (putK (match H2 p with|some (.dK ws)=>ws|_=>[]) y v))
          rw[hp] at h1;cases h1
          cases h2 with
          | dic e rr =>
           rename_i ws
           simp only[e] at h3
           exact⟨p,_,rfl,.inl ⟨ws,y,e,gU rk' ej,by have:=rr.len;have:=pw;omega,rfl⟩,q σ _ (h3 λH' hh=>.dic hh (rr.put y ra))⟩
         ·cases e2
   ·subst e2
    exact⟨c,ρ1,_,_,_,ρ',ek,b1,e1,λC H2 hm b2=>q C σ H2 hm b2.drop⟩
  ·cases em1⟩
noncomputable def vo:Mi Rr:=λρ=>some (.ok (.nw (.dic [])),ρ)
theorem zm{pos}:JE X E (.Dict [] [] pos) vo:=⟨PE.weaken wR λσ H Q h=>by
 obtain⟨c,ρ,τ,θ,o,ρ',ek,b,em,q⟩:=h
 cases em
 intro p hp
 obtain⟨L,bl⟩:=b
 exact q _ _ trivial (bl.eJ hp λG H' sm hh=>.dic hh .nil)⟩
noncomputable def cN(x:Str)(m:Mi (List Rr)):Ms:=a8 m λrs ρ=>if rs.length<=10 then some (.ex x,ρ) else none
theorem wD{x:Str}{C:Addr}{e:Expr}{es:List Expr}{m:Mi (List Rr)}{np cpos pos:Pos}(xc:Xc X E)(hc:X.calm=true)(hg:Gl X x)(hm:X.mg x=some (.ref C))(hex:LG X.K C rq "ValueError.__new__" = true)(ha:JA X E (e::es) m)(hd:NDb x)
  (he:starEach (e::es) X.env=(false,eval e X.env)::starEach es X.env:=by rfl)(hpl:(backTo cpos (starEach es X.env)).any (·.1)=false:=by rfl):JS X E (.Raise (some (.Call (.Name x np) (e::es) [] cpos)) none pos) (cN x m) :=
 ⟨PS.weaken (vB xc hc hg hm hex ha.p hd he hpl) λD σ H h=>by
  obtain⟨c,ρ,τ,θ,f,ρ',ek,b,em,q⟩:=h
  rcases aZ em with ⟨rs,ρ1,e1,e2⟩|⟨ee,e1,e2⟩
  ·split at e2
   ·rename_i hl
    cases e2
    exact⟨c,ρ,τ,_,_,_,ek,b,e1,λvs H1 hv b1=>⟨by have:=hv.len;have:=fo;omega,q C σ H1 hm (Bd.drops hv.len b1)⟩⟩
   ·cases e2
  ·subst e2
   exact⟨c,ρ,τ,_,_,ρ',ek,b,e1,λC' H1 hm' b1=>q C' σ H1 hm' b1⟩⟩
end
end M
namespace M
open PySem L2
section
variable{X:Cx}{E:XK}
noncomputable def BS(te:TE):TI:=λσ H R=>te σ H λx H1=>∃d kvs ob,x=.ref d/\H1 d=some (.frz ob (.dK kvs))/\R (Itk d ob kvs) H1
theorem vF{l:Expr}{te:TE}{x:Str}{px:Pos}(hl:PE X l te):PI X (.Name x px) l (BS te):=by
 intro pins s σ H R I h
 refine thn (hl pins s σ H _ I h) λv s1 ⟨y,H1,I1,r1,q1⟩=>?_
 obtain⟨d,kvs,ob,rfl,hd,q⟩:=q1
 cases r1
 obtain⟨hob,hz,lo,vs,kv,hD⟩:=(show aK X.prog X.w H1 s1.heap d (.frz ob (.dK kvs)) from I1.hok d _ hd)
 obtain⟨ep,hat⟩:=hD.dictAt
 refine wpAny_pyIter_dict lo hat ?_
 refine⟨s1.heap.objs.size,[s1.heap.objs.size],_,_,_,rfl,I1.kept (t':=s1.toks) λb o e=>JM _ e,ke (it:=s1.heap.objs.size) (vs:=vs) (ep:=ep) kv (λh e=>?_),⟨_,Kb _ rfl,rfl,rfl⟩,λb hb=>?_,q⟩
 ·obtain⟨o,es,e1,r⟩:=hat
  rw[hob] at e1
  cases e1
  exact⟨ob,es,e,r⟩
 ·rw[J9.mp hb]
  exact I1.rQ (J1 _) I1.fresh
noncomputable def gn:Key->A
 | .inl i=>.int i
 | .inr x=>.str x
noncomputable def wx(j:Nat)(G:Mg)(b:Ms):Ms:=λρ=>match aM j ρ with
 | some (.ok (.fr (.dic kvs)),ρ1)=>match forL G b (kvs.map λkv=>gn kv.1) ρ1 with
  | some (.ex _,_)=>none
  | r=>r
 | _=>none
theorem PS.or{st:Stmt}{t t':TS}(h:PS X st t)(h':PS X st t'):PS X st (λD σ H=>t D σ H\/t' D σ H):=λpins s σ H D I q=>q.elim (h pins s σ H D I) (h' pins s σ H D I)
section
variable{c:Cn}{σ:St}{H:Hp}{ρ:List Sl}{τ:St}{θ:List Sl}
theorem Bd.Jt{d:Addr}{ob:Obj}{vs:List (Key×V)}{L:List Addr}(b:BdL c σ H ρ τ θ L)(hd:H d=some (.dK vs))(n1:d∉L)(n2:d∉c.Hd) :
  Bd { c with Wk:=(d,.frz ob (.dK vs))::c.Wk } σ (upd H d (.frz ob (.dK vs))) ρ τ θ:=by
 have sm:Sq (c.g H L) (c.g (upd H d (.frz ob (.dK vs))) L):=λa u e=>by
  by_cases z:a∈L\/a∈c.Hd
  ·rw[gC z] at e;cases e
  ·rw[aU (λy=>z (.inl y)) (λy=>z (.inr y))] at e
   rw[aU (λy=>z (.inl y)) (λy=>z (.inr y))]
   by_cases y:a=d
   ·subst y
    rw[hd] at e;cases e
    exact⟨_,aI,.inr ⟨vs,rfl,rfl⟩⟩
   ·rw[aj y];exact⟨u,e,.inl rfl⟩
 refine⟨L,b.nd,?_,b.own,⟨λq u e=>?_,λq hq=>?_⟩,b.kp,b.lt,b.hd⟩
 ·exact b.rel.sm sm λq hq u e=>by rw[aj λy=>n1 (by rw[<- y];exact hq)];exact e
 ·obtain⟨u',h1,h2⟩:=b.fr.st q u e
  by_cases y:q=d
  ·subst y
   exact⟨_,aI,λ_ nw=>absurd JN (nw _)⟩
  ·exact⟨u',by rw[aj y];exact h1,λnp nw=>h2 np λw hw=>nw w (JQ _ hw)⟩
 ·rcases J6.mp hq with z|z
  ·subst z;exact⟨aI,⟨ob,vs,rfl⟩,n2⟩
  ·obtain⟨h1,⟨ob',vs',h2⟩,h3⟩:=b.fr.pk q z
   refine⟨?_,⟨ob',vs',h2⟩,h3⟩
   rw[aj λy=>?_]
   ·exact h1
   ·rw[y,hd,h2] at h1;cases h1
theorem Bd.loose{d:Addr}{ob:Obj}{vs:List (Key×V)}(b:Bd { c with Wk:=(d,.frz ob (.dK vs))::c.Wk } σ H ρ τ θ)(nw:∀w,(d,w)∉c.Wk)(hH:∀o,c.H0 d=some o->d∉c.Lp->o=.dK vs):H d=some (.frz ob (.dK vs))/\Bd c σ (upd H d (.dK vs)) ρ τ θ:=by
 obtain⟨L,b⟩:=b
 obtain⟨hd,_,n2⟩:=b.fr.pk _ JN
 have hd:H d=some (.frz ob (.dK vs)):=hd
 have n2:d∉c.Hd:=n2
 have n1:d∉L:=λz=>b.rel.u7 d z ob vs hd
 have sm:Sq (c.g H L) (c.g (upd H d (.dK vs)) L):=λa u e=>by
  by_cases z:a∈L\/a∈c.Hd
  ·rw[gC z] at e;cases e
  ·rw[aU (λy=>z (.inl y)) (λy=>z (.inr y))] at e
   rw[aU (λy=>z (.inl y)) (λy=>z (.inr y))]
   by_cases y:a=d
   ·subst y
    rw[hd] at e;cases e
    exact⟨_,aI,.inr ⟨vs,rfl,rfl⟩⟩
   ·rw[aj y];exact⟨u,e,.inl rfl⟩
 refine⟨hd,L,b.nd,?_,b.own,⟨λq u e=>?_,λq hq=>?_⟩,b.kp,b.lt,b.hd⟩
 ·have rel:ao c.toKx (c.g H L) H (τ++σ) (θ++ρ) L:=b.rel
  exact rel.sm sm λq hq u e=>by rw[aj λy=>n1 (by rw[<- y];exact hq)];exact e
 ·obtain⟨u',h1,h2⟩:=b.fr.st q u e
  by_cases y:q=d
  ·subst y
   exact⟨_,aI,λnp _=>(hH u e np).symm⟩
  ·refine⟨u',by rw[aj y];exact h1,λnp nw'=>h2 np λw hw=>?_⟩
   rcases J6.mp hw with z|z
   ·cases z;exact y rfl
   ·exact nw' w z
 ·obtain⟨h1,⟨ob',vs',h2⟩,h3⟩:=b.fr.pk q (JQ _ hq)
  refine⟨?_,⟨ob',vs',h2⟩,h3⟩
  rw[aj λy=>?_]
  ·exact h1
  ·exact nw q.2 (by rw[<- y];exact hq)
theorem Bd.pin{d:Addr}{ob:Obj}{vs:List (Key×V)}{L:List Addr}(b:BdL c σ H ρ τ θ L)(hd:H d=some (.frz ob (.dK vs)))(n2:d∉c.Hd):Bd { c with Wk:=(d,.frz ob (.dK vs))::c.Wk } σ H ρ τ θ:=by
 refine⟨L,b.nd,b.rel,b.own,⟨λq u e=>?_,λq hq=>?_⟩,b.kp,b.lt,b.hd⟩
 ·obtain⟨u',h1,h2⟩:=b.fr.st q u e
  exact⟨u',h1,λnp nw=>h2 np λw hw=>nw w (JQ _ hw)⟩
 ·rcases J6.mp hq with z|z
  ·subst z;exact⟨hd,⟨ob,vs,rfl⟩,n2⟩
  ·exact b.fr.pk q z
theorem Bd.qp{d:Addr}{ob:Obj}{vs:List (Key×V)}(b:Bd { c with Wk:=(d,.frz ob (.dK vs))::c.Wk } σ H ρ τ θ)(hH:∀o,c.H0 d=some o->d∉c.Lp->(∀w,(d,w)∉c.Wk)->o=.frz ob (.dK vs)):Bd c σ H ρ τ θ:=by
 obtain⟨L,b⟩:=b
 obtain⟨hd,_,n2⟩:=b.fr.pk _ JN
 have hd:H d=some (.frz ob (.dK vs)):=hd
 refine⟨L,b.nd,b.rel,b.own,⟨λq u e=>?_,λq hq=>b.fr.pk q (JQ _ hq)⟩,b.kp,b.lt,b.hd⟩
 obtain⟨u',h1,h2⟩:=b.fr.st q u e
 by_cases y:q=d
 ·subst y
  exact⟨_,hd,λnp nw=>(hH u e np nw).symm⟩
 ·refine⟨u',h1,λnp nw'=>h2 np λw hw=>?_⟩
  rcases J6.mp hw with z|z
  ·cases z;exact y rfl
  ·exact nw' w z
end
theorem kC{G:Mg}{mb:Ms}{c:Cn}{τ:St}{θ:List A}{d:Addr}{ob:Obj}{vs:List (Key×V)}{kvs:List (Key×A)}{f:Fl}{ρ':List Sl}{D:Ends}(ek:c.toKx=kx X)(hpk:∀σ H ρ τ θ,Bd c σ H ρ τ θ->H d=some (.frz ob (.dK vs)))(hkv:vs.map (·.1)=kvs.map (·.1))
  (nex:∀x,f≠.ex x)(q:o6 (kx X) E c ρ' τ θ D f){σ:St}{H:Hp}{ρ1:List Sl}(b1:Bd c σ H ρ1 τ (θ.map Sl.fr))(e2:forL G mb (kvs.map λkv=>gn kv.1) ρ1=some (f,ρ')):Js (Itk d ob vs) (TGm (kx X) 0 G) (TSm (kx X) E mb) D σ H:=by
 have hl:vs.length=kvs.length:=by have:=congrArg LN hkv;simpa using this
 refine⟨λi m σ' H'=>m=vs.length-i/\i<=vs.length/\∃ρi,Bd c σ' H' ρi τ (θ.map Sl.fr)/\forL G mb ((kvs.map λkv=>gn kv.1).drop i) ρi=some (f,ρ'),⟨_,rfl,K7 _,ρ1,b1,by simpa using e2⟩,?_⟩
 rintro i m σ' H' ⟨rfl,hi,ρi,bi,ei⟩
 have hpin:=hpk _ _ _ _ _ bi
 by_cases hlt:i<vs.length
 ·have hlt2:i<(kvs.map λkv=>gn kv.1).length:=by rw[Ke];omega
  have hd:(kvs.map λkv=>gn kv.1).drop i=(kvs.map λkv=>gn kv.1)[i]::(kvs.map λkv=>gn kv.1).drop (i+1):=KG hlt2
  rw[hd] at ei
  refine .inr ⟨⟨hpin,hlt⟩,λσ2 H2=>∃ρ2,Bd c σ2 H2 ρ2 τ (θ.map Sl.fr)/\forL G mb ((kvs.map λkv=>gn kv.1).drop (i+1)) ρ2=some (f,ρ'),λσ2 H2 ⟨ρ2,q1,q2⟩=>⟨vs.length-(i+1),by omega,rfl,hlt,ρ2,q1,q2⟩,λx H2 y=>?_⟩
  obtain⟨rfl,p,hp,rfl⟩:=y
  have ekey:(kvs.map λkv=>gn kv.1)[i]=gn p.1:=by
   have h1:(vs.map (·.1))[i]?=some p.1:=by rw[Kr,hp];rfl
   rw[hkv,Kr] at h1
   rw[List.getElem_map]
   cases ez:kvs[i]? with
   | none=>rw[ez] at h1;cases h1
   | some z =>
    rw[ez] at h1
    have h1:z.1=p.1:=JV h1
    have:kvs[i]=z:=by have:=J0.mp ez;exact this.2
    rw[this,h1]
  have b2:Bd c σ' H2 ρi (some (kV p.1)::τ) (.fr (gn p.1)::θ.map Sl.fr):=bi.push λ_=>by cases p.1 with|inl i=>exact .int i|inr x=>exact .str x
  unfold forL at ei
  rw[ekey] at ei
  cases eg:G (gn p.1) ρi with
  | none=>simp only[eg] at ei;cases ei
  | some ρ2 =>
   simp only[eg] at ei
   refine⟨c,ρi,_,_,gn p.1,ρ2,ek,b2,eg,λσ3 H3 _ _ b3=>?_⟩
   cases eb:mb ρ2 with
   | none=>simp only[eb] at ei;cases ei
   | some pr =>
    obtain⟨f1,ρ3⟩:=pr
    simp only[eb] at ei
    refine⟨c,ρ2,τ,θ,f1,ρ3,ek,b3,eb,?_⟩
    cases f1 with
    | nx=>exact λσ4 H4 b4=>⟨ρ3,b4,ei⟩
    | ct=>exact λσ4 H4 b4=>⟨ρ3,b4,ei⟩
    | bk=>cases ei;exact λσ4 H4 b4=>q σ4 H4 b4
    | rt s=>cases ei;exact λv σ4 H4 hs b4=>q v σ4 H4 hs b4
    | ex x=>cases ei;exact absurd rfl (nex x)
 ·have e:i=vs.length:=by omega
  subst e
  rw[List.drop_eq_nil_of_le (by rw[Ke,hl];exact J1 _)] at ei
  cases ei
  exact .inl ⟨⟨hpin,J1 _⟩,q σ' H' bi⟩
theorem yW{j:Nat}{y x:Str}{py px:Pos}{body:List Stmt}{G:Mg}{mb:Ms}{pos:Pos}(hN:X.N[j]?=some y)(hv:Vis X.env.scope y)(hd:NDb y)(hcd:NCd y)(hp:PassesOwn (model X.prog X.w) X.A X.env X.xe)(hc:X.calm=true)(hg:JG X 0 (.Name x px) G)(hb:JSs X E body mb)
  (hs:∀z,foldedSetIterable (.Name y py) X.env z=pure z:=by intro _;rfl):JS X E (.For (.Name x px) (.Name y py) body [] pos) (wx j G mb) :=
 ⟨PS.weaken (PS.or (xB (oj hp hc (yR (dN hN hv hd hcd)) hg.p hb.p hs)) (oj hp hc (vF (dN hN hv hd hcd)) hg.p hb.p hs)) λD σ H h=>by
  obtain⟨c,ρ,τ,θ,f,ρ',ek,b,em,q⟩:=h
  unfold wx at em
  cases ev:aM j ρ with
  | none=>simp only[ev] at em;cases em
  | some pr =>
   obtain⟨o,ρ1⟩:=pr
   cases o with
   | error e=>simp only[ev] at em;cases em
   | ok r =>
    cases r with
    | rf i=>simp only[ev] at em;cases em
    | nw o=>simp only[ev] at em;cases em
    | fr a =>
     cases a<;>first|(simp only[ev] at em;cases em;done)|skip
     rename_i kvs
     simp only[ev] at em
     have em2:forL G mb (kvs.map λkv=>gn kv.1) ρ1=some (f,ρ')/\∀x,f≠.ex x:=by
      cases ef:forL G mb (kvs.map λkv=>gn kv.1) ρ1 with
      | none=>simp only[ef] at em;cases em
      | some pr =>
       obtain⟨f1,ρ2⟩:=pr
       cases f1 with
       | ex x=>simp only[ef] at em;cases em
       | nx=>simp only[ef] at em;cases em;exact⟨rfl,λx z=>by cases z⟩
       | rt s=>simp only[ef] at em;cases em;exact⟨rfl,λx z=>by cases z⟩
       | bk=>simp only[ef] at em;cases em;exact⟨rfl,λx z=>by cases z⟩
       | ct=>simp only[ef] at em;cases em;exact⟨rfl,λx z=>by cases z⟩
     obtain⟨ef,nex⟩:=em2
     have b1:Bd c σ H ρ1 τ (θ.map Sl.fr)/\ρ1[j]?=some (.fr (.dic kvs)):=by
      unfold aM at ev
      cases es:ρ[j]? with
      | none=>simp only[es] at ev;cases ev
      | some s =>
       cases s with
       | un=>simp only[es] at ev;cases ev
       | pv o=>simp only[es] at ev;cases ev
       | fr a=>simp only[es] at ev;cases ev;exact⟨b,es⟩
       | lv o =>
        simp only[es] at ev
        injection ev with ev
        injection ev with e2 e1
        injection e2 with e2
        injection e2 with e2
        subst e1
        refine⟨b.kQ es,?_⟩
        rw[Kk (J0.mp es).1,e2]
     obtain⟨b1,es⟩:=b1
     obtain⟨v,hσ,b2⟩:=b1.load es
     obtain⟨L,bl,ra⟩:=Bd.uK b2
     cases ra with
     | dic e r =>
      rename_i d vs
      obtain⟨o,ho,hdk⟩:=p7 e
      have hnot:d∉L/\d∉c.Hd:=by
       constructor
       ·intro z;rw[gC (.inl z)] at ho;cases ho
       ·intro z;rw[gC (.inr z)] at ho;cases ho
      rw[aU hnot.1 hnot.2] at ho
      have hrd:H d=some (.dK vs)\/∃ob,H d=some (.frz ob (.dK vs)):=cc ho hdk
      rcases hrd with hd|⟨ob,hd⟩
      ·left
       refine⟨d,vs,hd,_,hσ,d,vs,rfl,hd,λob=>?_⟩
       have nw:∀w,(d,w)∉c.Wk:=λw hw=>by
        obtain⟨h1,⟨ob',vs',h2⟩,_⟩:=bl.fr.pk _ hw
        have h1:H d=some w:=h1
        have h2:w=.frz ob' (.dK vs'):=h2
        rw[hd,h2] at h1;cases h1
       have hH:∀o,c.H0 d=some o->d∉c.Lp->o=.dK vs:=λo e np=>by
        obtain⟨u,h1,h2⟩:=bl.fr.st d o e
        rw[hd] at h1;cases h1
        exact(h2 np nw).symm
       have b3:=Bd.Jt (ob:=ob) bl hd hnot.1 hnot.2
       have q2:o6 (kx X) E { c with Wk:=(d,.frz ob (.dK vs))::c.Wk } ρ' τ θ (D.oD d vs) f:=by
        cases f with
        | nx=>exact λσ' H' b'=>let ⟨h1,h2⟩:=Bd.loose b' nw hH;⟨⟨ob,h1⟩,q σ' _ h2⟩
        | bk=>exact λσ' H' b'=>let ⟨h1,h2⟩:=Bd.loose b' nw hH;⟨⟨ob,h1⟩,q σ' _ h2⟩
        | ct=>exact λσ' H' b'=>let ⟨h1,h2⟩:=Bd.loose b' nw hH;⟨⟨ob,h1⟩,q σ' _ h2⟩
        | rt s=>exact λv σ' H' hs b'=>let ⟨h1,h2⟩:=Bd.loose b' nw hH;⟨⟨ob,h1⟩,q v σ' _ hs h2⟩
        | ex x=>exact absurd rfl (nex x)
       exact kC (c:={ c with Wk:=(d,.frz ob (.dK vs))::c.Wk }) ek (λσ H ρ τ θ ⟨L,b⟩=>(b.fr.pk _ JN).1) r.keys nex q2 b3 ef
      ·right
       refine⟨_,hσ,d,vs,ob,rfl,hd,?_⟩
       have hH:∀o,c.H0 d=some o->d∉c.Lp->(∀w,(d,w)∉c.Wk)->o=.frz ob (.dK vs):=λo e np nw=>by
        obtain⟨u,h1,h2⟩:=bl.fr.st d o e
        rw[hd] at h1;cases h1
        exact(h2 np nw).symm
       have b3:=Bd.pin bl hd hnot.2
       have q2:o6 (kx X) E { c with Wk:=(d,.frz ob (.dK vs))::c.Wk } ρ' τ θ D f:=by
        cases f with
        | nx=>exact λσ' H' b'=>q σ' _ (Bd.qp b' hH)
        | bk=>exact λσ' H' b'=>q σ' _ (Bd.qp b' hH)
        | ct=>exact λσ' H' b'=>q σ' _ (Bd.qp b' hH)
        | rt s=>exact λv σ' H' hs b'=>q v σ' _ hs (Bd.qp b' hH)
        | ex x=>exact absurd rfl (nex x)
       exact kC (c:={ c with Wk:=(d,.frz ob (.dK vs))::c.Wk }) ek (λσ H ρ τ θ ⟨L,b⟩=>(b.fr.pk _ JN).1) r.keys nex q2 b3 ef⟩
end
end M
namespace M
open PySem L2
noncomputable def leS(a b:Str):Bool:=!NV b.cps.toList a.cps.toList
noncomputable def mm(l:List Str):List Str:=l.mergeSort leS
theorem l7(a b:Str):leS a b=decide (¬ b.cps.toList<a.cps.toList):=by
 unfold leS;rw[PV,decide_not]
theorem jP(a b c:Str)(h1:leS a b=true)(h2:leS b c=true):leS a c=true:=by
 rw[l7,decide_eq_true_eq] at *
 intro h
 exact(PY.negTrans c.cps.toList b.cps.toList a.cps.toList (decide_eq_true h)).elim (λh=>h2 (of_decide_eq_true h)) (λh=>h1 (of_decide_eq_true h))
theorem sX(a b:Str):(leS a b || leS b a)=true:=by
 rw[KI,l7,l7,decide_eq_true_eq,decide_eq_true_eq]
 by_cases h:b.cps.toList<a.cps.toList
 ·exact .inr (List.lt_asymm h)
 ·exact .inl h
theorem wq{a b:Str}(h1:leS a b=true)(h2:leS b a=true):a=b:=by
 rw[l7,decide_eq_true_eq] at *
 have:a.cps.toList=b.cps.toList:=List.le_antisymm (PB.mp h1) (PB.mp h2)
 cases a;cases b
 simp only[PZ]
 exact M0.mp this
theorem oK(l:List Str):(mm l).Perm l:=List.mergeSort_perm l leS
theorem tP(l:List Str):(mm l).Pairwise (λa b=>leS a b=true):=List.pairwise_mergeSort jP sX l
theorem pq{ss:List Str}(h:Mc ss=true):ss.Pairwise (λa b=>leS a b=true):=by
 have key:∀(l:List Str)(p:Str),Ng p l=true->(∀q∈l,leS p q=true)/\l.Pairwise (λa b=>leS a b=true):=by
  intro l
  induction l with
  | nil=>intro p _;exact⟨λq hq=>(by cases hq),.nil⟩
  | cons q l ih =>
   intro p hp
   have hp:(!NV q.cps.toList p.cps.toList&&Ng q l)=true:=hp
   rw[JK] at hp
   obtain⟨i1,i2⟩:=ih q hp.2
   refine⟨λr hr=>?_,OC.mpr ⟨i1,i2⟩⟩
   rcases J6.mp hr with z|z
   ·subst z;exact hp.1
   ·exact jP p q r hp.1 (i1 r z)
 cases ss with
 | nil=>exact .nil
 | cons p l =>
  obtain⟨i1,i2⟩:=key l p h
  exact OC.mpr ⟨i1,i2⟩
theorem iO{ss l:List Str}(h:Mc ss=true)(pm:ss.Perm l):ss=mm l :=
 (pm.trans (oK l).symm).eq_of_pairwise (λa b _ _ h1 h2=>wq h1 h2) (pq h) (tP l)
noncomputable def jz:List A->Option (List Str)
 | []=>some []
 | .str x::r=>match jz r with
  | some ss=>some (x::ss)
  | none=>none
 | _=>none
theorem jQ:∀{as:List A}{ss:List Str},jz as=some ss->as=ss.map A.str
 | [],_,h=>by cases h;rfl
 | .str x::r,_,h=>by
  unfold jz at h
  cases e:jz r with
  | none=>simp only[e] at h;cases h
  | some ss=>simp only[e] at h;cases h;rw[jQ e];rfl
 | .non::_,_,h=>by cases h
 | .bl _::_,_,h=>by cases h
 | .int _::_,_,h=>by cases h
 | .tup _::_,_,h=>by cases h
 | .lst _::_,_,h=>by cases h
 | .dic _::_,_,h=>by cases h
 | .exc _::_,_,h=>by cases h
noncomputable def strKeys:List (Key×A)->Option (List Str)
 | []=>some []
 | (.inr x,_)::r=>match strKeys r with
  | some ss=>some (x::ss)
  | none=>none
 | _=>none
theorem ig:∀{as:List (Key×A)}{ss:List Str},strKeys as=some ss->as.map (·.1)=ss.map LA
 | [],_,h=>by cases h;rfl
 | (.inr x,a)::r,_,h=>by
  unfold strKeys at h
  cases e:strKeys r with
  | none=>simp only[e] at h;cases h
  | some ss=>simp only[e] at h;cases h;rw[JU,ig e];rfl
 | (.inl _,_)::_,_,h=>by cases h
section
variable{X:Cx}{E:XK}
noncomputable def gu:A->Option Rr
 | .lst xs=>match jz xs with
  | some ss=>if ss.length<64 then some (.nw (.lst ((mm ss).map A.str))) else none
  | none=>none
 | _=>none
theorem pz{K:Kx}:UnS K (λv=>iB K.K [v]) gu:=by
 intro c σ H ρ τ θ x v a q Q ek hv bd e1 e3 k
 subst ek
 obtain⟨L,bl,i1⟩:=Bd.open bd hv e1
 cases a<;>first|(cases e3;done)|skip
 rename_i xs
 unfold gu at e3
 simp only at e3
 cases es:jz xs with
 | none=>simp only[es] at e3;cases e3
 | some ss =>
  simp only[es] at e3
  split at e3
  ·rename_i h64
   cases e3
   obtain⟨p,vs,rfl,s1,rr⟩:=i1.1 xs rfl
   rw[jQ es] at rr
   rw[rr.strs] at s1
   refine⟨p,ss,rfl,.inl s1,h64,λr ss' hr pm srt=>?_⟩
   rw[iO srt pm]
   exact k _ _ trivial (bl.eJ hr λG H' sm q=>.lst q (RAs.ofStrs _))
  ·cases e3
noncomputable def gN:List V->Hp->VK->Prop:=λxs H Q=>∃(a:Addr) (kvs:List (Key×V)) (ss:List Str),xs=[.ref a]/\Rd H a (.dK kvs)/\kvs.map (·.1)=ss.map LA/\ss.length<64/\∀r ss',H r=none->ss'.Perm ss->Mc ss'=true->Q (.ref r) (upd H r (.lst (ss'.map V.str)))
open PySem.Spec PyProof.Rows PySem.W in
theorem mj(hc:X.calm=true):aY X (.builtin "sorted") gN:=by
 intro pins s σ H vs us Q I rv h
 obtain⟨a,kvs,ss,rfl,hd,ek,h64,q⟩:=h
 obtain⟨u,rfl,ru⟩:=rv.one
 cases ru
 obtain⟨hz,lo,vs,kv,hD⟩:=L2.cc I.hok hd
 obtain⟨ep,hat⟩:=hD.dictAt
 have ek2:vs.map (·.1)=ss.map LA:=by rw[<- kv.keys];exact ek
 have hlen:vs.length=ss.length:=by have:=congrArg LN ek2;simpa using this
 refine Nr kind_sorted plain_sorted entry_sorted (args_sorted1 _) ?_
 unfold Builtin.«sorted»
 refine wpAny_bind (m:=checkCount "sorted" 1 1 _) (wpAny_pure ?_)
 refine wpAny_bind (kdu_collect (A:=X.A.in1) (kdl_dict (knd:=aG X.prog X.w) (kvs:=vs) (ep:=ep) lo) (I.ok.hd hc) hat (by have:=L2.gq;omega) λh' tk acc hk hacc=>?_)
 have hS:=L2.j6 ek2 hacc
 have hl2:acc.toList.length=ss.length:=by rw[Kv,hacc.1,hlen]
 refine wpAny_bind (wpAny_newList ?_ (by have:=L2.gq;omega))
 have hoL:(h'.push (seqObj "list" acc.toList.toArray 0)).get? h'.objs.size=some (seqObj "list" acc.toList.toArray 0):=Kb _ rfl
 refine wpAny_bind (wpAny_holding (wpAny_call_entry slot_list_sort ⟨_,hoL,rfl⟩ entry_list_sort (list_sort_treeK strKind_oneLt hoL hS.keysOf (λv₁ v₂ rest e=>keyKind_strs (by rw[<- e];exact hS)) (by omega) λst' hp hs=>⟨_,rfl,?_⟩) (args_list_sort _)))
 obtain⟨ss',b1,b2,b3⟩:=sorted_out_str hS hp hs
 obtain⟨e,he⟩:=sortedHeap_at (vs:=acc.toList) (n:=0) (out:=(arrOf st').map (·.2)) hoL
 have hf:∀b o,s.heap.get? b=some o->b≠h'.objs.size:=λb o z=>Kf (J2 (hk b o z))
 refine wpAny_pure ⟨_,rfl,.ref _,_,I.AO (t':=tk) (a:=h'.objs.size) (o:=.lst (ss'.map V.str)) (λb o z=>?_) hf ⟨?_,((arrOf st').map (·.2)).toList,e,L2.dM b1,?_⟩,rfl,q _ ss' (I.ly hf) b2 b3⟩
 ·rw[sortedHeap_old (hf b o z) (by rw[size_push'];exact Mb (J2 (hk b o z)))]
  exact JM _ (hk b o z)
 ·rw[Ke,b2.length_eq]
  exact Kh (KU h64) L2.gq
 ·rw[N8]
  exact he
noncomputable def gF:A->Option Rr
 | .dic kvs=>match strKeys kvs with
  | some ss=>if ss.length<64 then some (.nw (.lst ((mm ss).map A.str))) else none
  | none=>none
 | _=>none
theorem ow{K:Kx}:UnS K (λv=>gN [v]) gF:=by
 intro c σ H ρ τ θ x v a q Q ek hv bd e1 e3 k
 subst ek
 obtain⟨L,bl,i1⟩:=Bd.open bd hv e1
 cases a<;>first|(cases e3;done)|skip
 rename_i kvs
 unfold gF at e3
 simp only at e3
 cases es:strKeys kvs with
 | none=>simp only[es] at e3;cases e3
 | some ss =>
  simp only[es] at e3
  split at e3
  ·rename_i h64
   cases e3
   obtain⟨p,vs,rfl,s1,rr⟩:=i1.2.2 kvs rfl
   refine⟨p,vs,ss,rfl,s1,by rw[rr.keys,ig es],h64,λr ss' hr pm srt=>?_⟩
   rw[iO srt pm]
   exact k _ _ trivial (bl.eJ hr λG H' sm q=>.lst q (RAs.ofStrs _))
  ·cases e3
noncomputable def gOr(f g:A->Option Rr):A->Option Rr:=λa=>match f a with
 | some r=>some r
 | none=>g a
theorem UnS.or{K:Kx}{r r':V->Hp->VK->Prop}{f g:A->Option Rr}(h:UnS K r f)(h':UnS K r' g):UnS K (λv H Q=>r v H Q\/r' v H Q) (gOr f g):=by
 intro c σ H ρ τ θ x v a q Q ek hv bd e1 e3 k
 unfold gOr at e3
 cases e:f a with
 | some z=>simp only[e] at e3;cases e3;exact .inl (h c σ H ρ τ θ x v a _ Q ek hv bd e1 e k)
 | none=>simp only[e] at e3;exact .inr (h' c σ H ρ τ θ x v a _ Q ek hv bd e1 e3 k)
theorem lE(hc:X.calm=true):aY X (.builtin "sorted") (λxs H Q=>iB X.K xs H Q\/gN xs H Q):=aY.or' (lC hc) (mj hc)
theorem rP{K:Kx}:UnS K (λv H Q=>iB K.K [v] H Q\/gN [v] H Q) (gOr gu gF):=pz.or ow
open PySem.Spec PyProof.Rows PySem.W in
noncomputable def lB:List V->Hp->VK->Prop:=λvs H Q=>∃(a:Addr) (kvs:List (Key×V)),vs=[.ref a]/\Rd H a (.dK kvs)/\∀r,H r=none->Q (.ref r) (upd H r (.dK kvs))
theorem ou:aY X (.type "dict") lB:=by
 intro pins s σ H vs us Q I rv h
 obtain⟨a,kvs,rfl,hd,q⟩:=h
 obtain⟨u,rfl,ru⟩:=rv.one
 cases ru
 exact xj I hd λp s' hp I'=>⟨.ref p,_,I',rfl,q p hp⟩
noncomputable def oP:A->Option Rr
 | .dic kvs=>some (.nw (.dic kvs))
 | _=>none
theorem tN{K:Kx}:UnS K (λv=>lB [v]) oP:=by
 intro c σ H ρ τ θ x v a q Q ek hv bd e1 e3 k
 subst ek
 obtain⟨L,bl,i1⟩:=Bd.open bd hv e1
 cases a<;>first|(cases e3;done)|skip
 rename_i kvs
 cases e3
 obtain⟨p,vs,rfl,s1,rr⟩:=i1.2.2 kvs rfl
 exact⟨p,vs,rfl,s1,λr hr=>k _ _ trivial (bl.eJ hr λG H' sm q=>.dic q (rr.sm sm))⟩
end
end M
namespace L2
open PySem PySem.Spec PyProof.Rows
theorem fM{prog:Program}{w:World}{A:Around}{E:Value->Shared->Prop}{s:Shared}{t sl:Addr}{items:Array Value}{vl vu:Value}{lo hi:Option Int}{Q:Value->Shared->Prop}(ht:IsTup s.heap t items)(hs:s.heap.IsSliceOf sl vl vu .none)(pl:IsPart vl lo)(pu:IsPart vu hi)
  (hw:HT.sIx items.size 0 lo=0/\HT.sIx items.size items.size hi=items.size)(h:Q (.ref t) s):wpAny (model prog w) A (getItem (.ref t) (.ref sl)) Q E s:=by
 obtain⟨os,hos,hcs,hds⟩:=id hs
 have hTs:s.TypeIs (.ref sl) "slice" := ⟨os,hos,hcs⟩
 unfold getItem
 try with_reducible refine wpAny_holding ?_
 first|refine wpAny_bind (wpAny_pure ?_)|skip
 refine wpAny_bind (wpAny_sequenceKey ht.typeIs (by decide) ?_)
 refine wpAny_bind (wpAny_callSpecial?_slot (name:=J4 "__getitem__") ht.typeIs Ky
  (wpAny_call_entry Ky ht.typeIs entry_tuple_getitem ?_ (args_tuple_getitem _ _)))
 show wpAny _ _ (MG (.ref t) >>= _) _ _ s
 refine wpAny_bind (tupleItemsOf_ ht ?_)
 refine wpAny_bind (wpAny_typeOf hTs ?_)
 rw[if_pos (by decide)]
 refine wpAny_bind (HT.dz hs pl pu ?_)
 show wpAny _ _ (if (((HT.sIx items.size 0 lo:Nat):Int)==0&&(1:Int)==1&&(HT.sIx items.size items.size hi-HT.sIx items.size 0 lo)==items.size)=true then _ else _) _ _ s
 rw[if_pos (by rw[hw.1,hw.2];simp)]
 refine wpAny_bind ?_
 unfold PD
 refine wpAny_bind (wpAny_typeOf ht.typeIs (wpAny_pure ?_))
 rw[if_pos (by decide)]
 refine wpAny_bind (wpAny_rule ?_)
 exact wpAny_pure ⟨_,rfl,wpAny_pure h⟩
noncomputable def Iw(K:JH):V->Option Int->Option Int->Hp->VK->Prop:=λx lo hi H Q=>∃a xs,x=.ref a/\SqT K H a xs/\(HT.sIx xs.length 0 lo=0/\HT.sIx xs.length xs.length hi=xs.length)/\Q (.ref a) H
theorem ye{X:Cx}:SlR X (Iw X.K):=by
 intro pins s σ H x v vl vu lo hi sl Q I rx hs pl pu h
 obtain⟨a,xs,rfl,hx,hw,q⟩:=h
 cases rx
 obtain⟨its,r,ht,hz⟩:=I.tuple hx
 have hlen:its.toArray.size=xs.length:=by rw[JO];exact r.length.symm
 refine⟨"tuple",_,Ky.lookup,ht.typeIs,?_⟩
 exact fM ht hs pl pu (by rw[hlen];exact hw) ⟨.ref a,H,I,rfl,q⟩
end L2
namespace M
open PySem L2
theorem BdL.E8{c:Cn}{σ:St}{H:Hp}{ρ:List Sl}{τ:St}{θ:List Sl}{L:List Addr}{v w:V}{a b:A}(bl:BdL c σ H ρ τ θ L)(h1:RA c.toKx (c.g H L) v a)(h2:RA c.toKx (c.g H L) w b):Bd c σ H ρ (some v::some w::τ) (.fr a::.fr b::θ) :=
 ⟨L,bl.nd,ao.cons (L:=[]) (.fr h1) (ao.cons (L:=[]) (.fr h2) bl.rel),bl.own,bl.fr,bl.kp,by simp[bl.lt],bl.hd⟩
section
variable{X:Cx}{E:XK}
open PySem.Spec PyProof.Rows PySem.W in
noncomputable def mS0(f:Str->Option Rr)(mo:Mi Rr):Mi Rr:=aq mo λx ρ=>match x with
 | .fr (.str z)=>match f z with
  | some r=>some (.ok r,ρ)
  | none=>none
 | _=>none
noncomputable def mS1(f:Str->A->Option Rr)(mo m:Mi Rr):Mi Rr:=aq mo λx ρ0=>match x with
 | .fr (.str z)=>aq m (λy ρ=>match res ρ y with
  | some a=>match f z a with
   | some r=>some (.ok r,ρ)
   | none=>none
  | none=>none) ρ0
 | _=>none
theorem pK{r:V->List V->Hp->VK->Prop}{f:Str->A->Option Rr}{mo m:Mi Rr}(hf:∀z,UnS (kx X) (λw=>r (.str z) [w]) (f z))(σ:St)(H:Hp)(Q:VK)(h:TEm (kx X) E (mS1 f mo m) σ H Q) :
  TEm (kx X) E mo σ H λx H1=>tyV X.K "str" x H1/\TEm (kx X) E m σ H1 λy H2=>r x [y] H2 Q:=by
 obtain⟨c,ρ,τ,θ,o,ρ',ek,b,em,q⟩:=h
 refine aP ek b em (λx v ρ1 H1 hv b1 em1=>?_) (aL q)
 cases x with
 | rf i=>cases em1
 | nw o=>cases em1
 | fr a =>
  cases a<;>first|(cases em1;done)|skip
  rename_i z
  have r1:=Bd.top b1 (a:=.str z) rfl
  cases r1
  refine⟨rfl,?_⟩
  refine aP ek b1.pop em1 (λy w ρ2 H2 hw b2 em2=>?_) (aL q)
  obtain⟨a,r,e1,e3,rfl,rfl⟩:=lW em2
  exact hf z c σ H2 _ τ θ y w a r Q ek hw b2 e1 e3 q
noncomputable def JB(sep:Str):A->Option Rr
 | .lst xs=>match jz xs with
  | some ss=>if sL ss+ss.length*sep.length<=100000 then some (.fr (.str (NF sep ss))) else none
  | none=>none
 | _=>none
noncomputable def gG:Mi (Option Int):=cV none
noncomputable def kF(m:Mi Rr):Mi (Option Int):=aq m λr ρ=>match res ρ r with
 | some (.int i)=>some (.ok (some i),ρ)
 | _=>none
noncomputable def GO(K:Kx)(E:XK)(c:Cn)(σ:St)(ρ:List Sl)(τ:St)(θ:List Sl)(Q:Option Int->Hp->Prop):Except Str (Option Int)->Prop
 | .ok i=>∀H,Bd c σ H ρ τ θ->Q i H
 | .error x=>∀C H,K.mg x=some (.ref C)->Bd c σ H ρ τ θ->E (.ref C) none H
noncomputable def TOm(K:Kx)(E:XK)(m:Mi (Option Int)):TO:=λσ H Q=>∃(c:Cn) (ρ:List Sl) (τ:St) (θ:List Sl) (o:Except Str (Option Int)) (ρ':List Sl),c.toKx=K/\Bd c σ H ρ τ θ/\m ρ=some (o,ρ')/\GO K E c σ ρ' τ θ Q o
structure JP (X:Cx) (E:XK) (e:Option Expr) (m:Mi (Option Int)):Prop where
 p:PO X e (TOm (kx X) E m)
theorem PO.weaken{X:Cx}{e:Option Expr}{t t':TO}(h:PO X e t)(f:∀σ H Q,t' σ H Q->t σ H Q):PO X e t':=λpins s σ H Q I q=>h pins s σ H Q I (f σ H Q q)
theorem u3{c:Cn}{σ:St}{ρ':List Sl}{τ:St}{θ:List Sl}{o:Except Str (Option Int)}{Q:Option Int->Hp->Prop}(q:GO (kx X) E c σ ρ' τ θ Q o):∀e,o=.error e->∀C H,X.mg e=some (.ref C)->Bd c σ H ρ' τ θ->E (.ref C) none H:=λe ee=>by subst ee;exact q
theorem yN:JP X E none gG:=⟨PO.weaken Ac λσ H Q h=>by
 obtain⟨c,ρ,τ,θ,o,ρ',ek,b,em,q⟩:=h
 cases em;exact q H b⟩
theorem zw{e:Expr}{m:Mi Rr}(h:JE X E e m):JP X E (some e) (kF m):=⟨PO.weaken (zA h.p) λσ H Q h=>by
 obtain⟨c,ρ,τ,θ,o,ρ',ek,b,em,q⟩:=h
 refine aP ek b em (λx v ρ1 H1 hv b1 em1=>?_) (u3 q)
 cases e1:res ρ1 x with
 | none=>simp only[e1] at em1;cases em1
 | some a =>
  have r1:=Bd.rd b1 hv e1
  cases a<;>first|(simp only[e1] at em1;cases em1;done)|skip
  simp only[e1] at em1;cases em1
  cases r1
  exact⟨_,rfl,q H1 b1.drop⟩⟩
noncomputable def rS(xs:List A)(lo hi:Option Int):List A:=(xs.drop (HT.sIx xs.length 0 lo)).take (HT.sIx xs.length xs.length hi-HT.sIx xs.length 0 lo)
theorem uc{k:Kx}{G:Hp}{vs:List V}{as:List A}(r:RAs k G vs as)(lo hi:Option Int):RAs k G (kY vs lo hi) (rS as lo hi):=by
 unfold kY rS
 rw[r.len]
 exact(r.drop _).take _
noncomputable def fSl(a:A)(lo hi:Option Int):Option Rr:=match a with
 | .lst xs=>some (.nw (.lst (rS xs lo hi)))
 | .tup xs=>some (.fr (.tup (rS xs lo hi)))
 | .str z=>if z.length<=100000 then some (.fr (.str (Mz z lo hi))) else none
 | _=>none
noncomputable def mSl(m:Mi Rr)(ml mh:Mi (Option Int)):Mi Rr:=aq m λx=>aq ml λlo=>aq mh λhi=>λρ=>match res ρ x with
 | some a=>match fSl a lo hi with
  | some r=>some (.ok r,ρ)
  | none=>none
 | none=>none
theorem qW{σ:St}{H:Hp}{c:Cn}{ρ ρ':List Sl}{τ:St}{θ:List Sl}{β:Type}{m:Mi (Option Int)}{f:Option Int->Mi β}{o:Except Str β}{Q:Option Int->Hp->Prop}(ek:c.toKx=kx X)(b:Bd c σ H ρ τ θ)(em:aq m f ρ=some (o,ρ'))
  (h1:∀k ρ1 H1,Bd c σ H1 ρ1 τ θ->f k ρ1=some (o,ρ')->Q k H1)
  (h2:∀e,o=.error e->∀C H,X.mg e=some (.ref C)->Bd c σ H ρ' τ θ->E (.ref C) none H):TOm (kx X) E m σ H Q:=by
 rcases bind_some em with ⟨x,ρ1,e1,e2⟩|⟨e,e1,e2⟩
 ·exact⟨c,ρ,τ,θ,_,ρ1,ek,b,e1,λH1 b1=>h1 x ρ1 H1 b1 e2⟩
 ·exact⟨c,ρ,τ,θ,_,ρ',ek,b,e1,λC H1 hm b1=>h2 e e2 C H1 hm b1⟩
theorem Hw{e:Expr}{lo hi:Option Expr}{m:Mi Rr}{ml mh:Mi (Option Int)}{p2 pos:Pos}(h:JE X E e m)(hl:JP X E lo ml)(hh:JP X E hi mh):JE X E (.Subscript e (.Slice lo hi none p2) pos) (mSl m ml mh) :=
 ⟨PE.weaken (uV (L2.SlR.or zY (L2.SlR.or (L2.SlR.or CI ye) Df)) h.p hl.p hh.p) λσ H Q h=>by
  obtain⟨c,ρ,τ,θ,o,ρ',ek,b,em,q⟩:=h
  refine aP ek b em (λx v ρ1 H1 hv b1 em1=>?_) (aL q)
  refine qW ek b1 em1 (λl ρ2 H2 b2 em2=>?_) (gx (aL q))
  refine qW ek b2 em2 (λu ρ3 H3 b3 em3=>?_) (gx (aL q))
  obtain⟨a,r,e1,e3,rfl,rfl⟩:=lW em3
  have eK:c.K=X.K:=congrArg Kx.K ek
  obtain⟨L,bl,i1⟩:=Bd.open b3 hv e1
  have r1:=Bd.rd b3 hv e1
  cases a<;>first|(cases e3;done)|skip
  ·rename_i z
   unfold fSl at e3
   simp only at e3
   split at e3
   ·rename_i hz
    cases e3;cases r1
    exact .inr (.inr ⟨z,rfl,Kh hz fo,q _ H3 trivial (Bd.push ⟨L,bl⟩ λ_=>.str _)⟩)
   ·cases e3
  ·rename_i xs
   cases e3
   obtain⟨p,vs,rfl,s1,rr⟩:=i1.2.1 xs rfl
   by_cases hn:HT.sIx xs.length 0 l=0/\HT.sIx xs.length xs.length u=xs.length
   ·refine .inr (.inl (.inr ⟨p,vs,rfl,by rw[<- eK];exact bU (g_same _ _ _) s1,by rw[rr.len];exact hn,?_⟩))
    have ec:rS xs l u=xs:=by unfold rS;rw[hn.1,hn.2,Nq,Nat.sub_zero,OW]
    rw[ec] at q
    exact q _ _ trivial (bl.push (.tup s1 rr))
   ·refine .inr (.inl (.inl ⟨p,vs,rfl,by rw[<- eK];exact bU (g_same _ _ _) s1,by rw[rr.len];exact hn,λp' hp=>?_⟩))
    obtain⟨b2,sm,np⟩:=bl.new (o:=.tup (kY vs l u)) hp
    exact q _ _ trivial (b2.push (.tup (.inl (.inl (by rw[aU np (bl.fhd hp)];exact aI))) ((uc rr l u).sm sm)))
  ·rename_i xs
   cases e3
   obtain⟨p,vs,rfl,s1,rr⟩:=i1.1 xs rfl
   exact .inl ⟨p,vs,rfl,by rw[<- eK];exact s1,λp' hp=>q _ _ trivial (bl.eJ hp λG H' sm q=>.lst q ((uc rr l u).sm sm))⟩⟩
noncomputable def FV(K:Kx)(E:XK)(c:Cn)(σ:St)(ρ:List Sl)(τ:St)(θ:List Sl)(Q:List Str->Hp->Prop):Except Str (List Str)->Prop
 | .ok zs=>∀H,Bd c σ H ρ τ θ->Q zs H
 | .error x=>∀C H,K.mg x=some (.ref C)->Bd c σ H ρ τ θ->E (.ref C) none H
noncomputable def TJm(K:Kx)(E:XK)(m:Mi (List Str)):TJ:=λσ H Q=>∃(c:Cn) (ρ:List Sl) (τ:St) (θ:List Sl) (o:Except Str (List Str)) (ρ':List Sl),c.toKx=K/\Bd c σ H ρ τ θ/\m ρ=some (o,ρ')/\FV K E c σ ρ' τ θ Q o
structure JJ (X:Cx) (E:XK) (es:List Expr) (m:Mi (List Str)):Prop where
 p:PJ X es (TJm (kx X) E m)
theorem PJ.weaken{X:Cx}{e:List Expr}{t t':TJ}(h:PJ X e t)(f:∀σ H Q,t' σ H Q->t σ H Q):PJ X e t':=λout pins s σ H Q hl I q=>h out pins s σ H Q hl I (f σ H _ q)
theorem uw{c:Cn}{σ:St}{ρ':List Sl}{τ:St}{θ:List Sl}{o:Except Str (List Str)}{Q:List Str->Hp->Prop}(q:FV (kx X) E c σ ρ' τ θ Q o):∀e,o=.error e->∀C H,X.mg e=some (.ref C)->Bd c σ H ρ' τ θ->E (.ref C) none H:=λe ee=>by subst ee;exact q
noncomputable def mJ(m:Mi Rr)(n:Mi (List Str)):Mi (List Str):=aq m λx ρ0=>match x with
 | .fr (.str z)=>if z.length<=1000 then aq n (λzs=>cV (z::zs)) ρ0 else none
 | _=>none
theorem tF:JJ X E [] (cV []):=⟨PJ.weaken Eu λσ H Q h=>by
 obtain⟨c,ρ,τ,θ,o,ρ',ek,b,em,q⟩:=h
 cases em;exact q H b⟩
theorem iF{e:Expr}{es:List Expr}{m:Mi Rr}{n:Mi (List Str)}(h1:JE X E e m)(h2:JJ X E es n)(hs:evalEach (e::es) X.env=eval e X.env::evalEach es X.env:=by rfl):JJ X E (e::es) (mJ m n):=⟨PJ.weaken (yD h1.p h2.p hs) λσ H Q h=>by
 obtain⟨c,ρ,τ,θ,o,ρ',ek,b,em,q⟩:=h
 refine aP ek b em (λx v ρ1 H1 hv b1 em1=>?_) (uw q)
 cases x with
 | rf i=>cases em1
 | nw o=>cases em1
 | fr a =>
  cases a<;>first|(cases em1;done)|skip
  rename_i z
  simp only at em1
  split at em1
  ·rename_i hz
   have r1:=Bd.top b1 (a:=.str z) rfl
   cases r1
   refine⟨z,rfl,hz,?_⟩
   rcases bind_some em1 with ⟨zs,ρ2,e1,e2⟩|⟨e,e1,e2⟩
   ·cases e2
    exact⟨c,ρ1,τ,θ,_,ρ',ek,b1.pop,e1,λH2 b2=>q H2 b2⟩
   ·subst e2
    exact⟨c,ρ1,τ,θ,_,ρ',ek,b1.pop,e1,λC H2 hm b2=>q C H2 hm b2⟩
  ·cases em1⟩
noncomputable def mFv(m:Mi Rr):Mi Rr:=aq m λx ρ=>match x with
 | .fr (.str z)=>if z.length<=1000 then some (.ok (.fr (.str z)),ρ) else none
 | _=>none
theorem Il{e:Expr}{m:Mi Rr}{pos:Pos}(h1:JE X E e m):JE X E (.FormattedValue e (-1) none pos) (mFv m):=⟨PE.weaken (GV h1.p) λσ H Q h=>by
 obtain⟨c,ρ,τ,θ,o,ρ',ek,b,em,q⟩:=h
 refine aP ek b em (λx v ρ1 H1 hv b1 em1=>?_) (aL q)
 cases x with
 | rf i=>cases em1
 | nw o=>cases em1
 | fr a =>
  cases a<;>first|(cases em1;done)|skip
  rename_i z
  simp only at em1
  split at em1
  ·rename_i hz
   have r1:=Bd.top b1 (a:=.str z) rfl
   cases r1
   cases em1
   exact⟨z,rfl,hz,q _ H1 trivial b1⟩
  ·cases em1⟩
noncomputable def mJs(m:Mi (List Str)):Mi Rr:=aq m λzs=>cV (.fr (.str (wL zs)))
theorem AI{v1 v2:Expr}{es:List Expr}{m:Mi (List Str)}{pos:Pos}(h:JJ X E (v1::v2::es) m)(hl:(v1::v2::es).length<=100:=by decide)(hs:evalEach (v1::v2::es) X.env=eval v1 X.env::eval v2 X.env::evalEach es X.env:=by rfl):JE X E (.JoinedStr (v1::v2::es) pos) (mJs m) :=
 ⟨PE.weaken (FK h.p hl hs) λσ H Q h=>by
  obtain⟨c,ρ,τ,θ,o,ρ',ek,b,em,q⟩:=h
  rcases bind_some em with ⟨zs,ρ1,e1,e2⟩|⟨e,e1,e2⟩
  ·cases e2
   exact⟨c,ρ,τ,θ,_,ρ',ek,b,e1,λH1 b1=>q _ H1 trivial (b1.push λ_=>.str _)⟩
  ·subst e2
   exact⟨c,ρ,τ,θ,_,ρ',ek,b,e1,λC H1 hm b1=>q C H1 hm b1⟩⟩
noncomputable def qb(n:Nat)(gs:Mgs):Mg:=λa ρ=>match a with
 | .lst as=>if as.length=n then gs as ρ else none
 | _=>none
theorem CA{lo:Nat}{es:List Expr}{k n:Nat}{gs:Mgs}{pos:Pos}(hc:X.calm=true)(h:JGs X lo es gs)(hn:(assignEach es X.env).length=n:=by rfl)(hst:(assignEach es X.env).findIdx? (·.1)=none:=by rfl):JG X lo (.Tuple es k pos) (qb n gs):=⟨λpins s σ H v u Q I r h'=>by
 refine Bh hc h.p hn hst pins s σ H v u Q I r ?_
 obtain⟨c,ρ,τ,θ,a,ρ',ek,b,em,q⟩:=h'
 cases a<;>first|(cases em;done)|skip
 rename_i as
 unfold qb at em
 simp only at em
 split at em
 ·rename_i hl
  obtain⟨L,bl,i1⟩:=Bd.open (r:=.fr (.lst as)) b trivial rfl
  obtain⟨p,vs,rfl,s1,rr⟩:=i1.1 as rfl
  have:c.K=X.K:=congrArg Kx.K ek
  refine⟨p,vs,rfl,by rw[<- this];exact s1,by rw[rr.len];exact hl,c,ρ,τ,θ,as,ρ',ek,rr.len,?_,em,q⟩
  obtain⟨nd,rel,own,fr,kp,lt,hdd⟩:=bl
  exact⟨L,nd,by have:=(ao.frs (H:=H) rr).app rel;simpa[JY] using this,own,fr,kp,by simp[lt,rr.len],hdd⟩
 ·cases em⟩
noncomputable def yk(f g:Mg):Mg:=λa ρ=>match f a ρ with
 | some r=>some r
 | none=>g a ρ
theorem HH{lo:Nat}{tg:Expr}{f g:Mg}(h:JG X lo tg f)(h':JG X lo tg g):JG X lo tg (yk f g):=⟨λpins s σ H v u Q I r h0=>by
 obtain⟨c,ρ,τ,θ,a,ρ',ek,b,em,q⟩:=h0
 unfold yk at em
 cases e:f a ρ with
 | some z=>simp only[e] at em;cases em;exact h.p pins s σ H v u Q I r ⟨c,ρ,τ,θ,a,_,ek,b,e,q⟩
 | none=>simp only[e] at em;exact h'.p pins s σ H v u Q I r ⟨c,ρ,τ,θ,a,_,ek,b,em,q⟩⟩
noncomputable def Fh(m:Mi Rr)(G:Mg):Ms:=a8 m λr ρ=>match aQ r ρ with
 | some (a,ρ1)=>match G a ρ1 with
  | some ρ2=>some (.nx,ρ2)
  | none=>none
 | none=>none
theorem EK{tg e:Expr}{m:Mi Rr}{G:Mg}{pos:Pos}(he:JE X E e m)(hg:JG X 0 tg G)(hs:swapsWithSole [tg] e pos.line X.env=pure false:=by rfl)(hw:swappedStores [tg] e X.env=pure none:=by rfl)
  (hp:∀{te:TE}{g:TG},PE X e te->PG X tg g->PS X (.Assign [tg] e pos) (rM te g)):JS X E (.Assign [tg] e pos) (Fh m G):=⟨PS.weaken (hp he.p hg.p) λD σ H h=>by
 obtain⟨c,ρ,τ,θ,f,ρ',ek,b,em,q⟩:=h
 refine cU ek b em q λr v ρ1 H1 hv b1 em1=>?_
 cases e1:aQ r ρ1 with
 | none=>simp only[e1] at em1;cases em1
 | some p =>
  obtain⟨a,ρ2⟩:=p
  simp only[e1] at em1
  have b2:=Bd.aQ (xs:=[]) (ss:=[]) rfl b1 hv e1
  cases e2:G a ρ2 with
  | none=>simp only[e2] at em1;cases em1
  | some ρ3 =>
   simp only[e2] at em1;cases em1
   exact⟨c,ρ2,τ,_,a,ρ',ek,b2,e2,λσ' H' _ _ b3=>q σ' H' b3⟩⟩
noncomputable def sv(i j:Nat)(m:Mi (List Rr)):Ms:=a8 m λrs ρ=>match cO rs ρ with
 | some ([a,b],ρ1)=>match put i (.fr a) ρ1 with
  | some ρ2=>match put j (.fr b) ρ2 with
   | some ρ3=>some (.nx,ρ3)
   | none=>none
  | none=>none
 | _=>none
theorem Bi{s:Stmt}{i j:Nat}{es:List Expr}{m:Mi (List Rr)}(ha:JA X E es m)(hij:i≠j)(hp:∀{ta:TA},PA X es ta->PS X s (HX i j ta)):JS X E s (sv i j m):=⟨PS.weaken (hp ha.p) λD σ H h=>by
 obtain⟨c,ρ,τ,θ,f,ρ',ek,b,em,q⟩:=h
 rcases aZ em with ⟨rs,ρ1,e1,e2⟩|⟨e,e1,e2⟩
 ·refine⟨c,ρ,τ,_,_,ρ1,ek,b,e1,λvs H1 hv b1=>?_⟩
  cases ef:cO rs ρ1 with
  | none=>simp only[ef] at e2;cases e2
  | some p =>
   obtain⟨as,ρ2⟩:=p
   obtain⟨b2,l2⟩:=Bd.cO hv b1 ef
   match as,ef,e2,b2,l2 with
   | [a,d],ef,e2,b2,l2 =>
    simp only[ef] at e2
    match vs,b2,l2 with
    | [v,w],b2,_ =>
     cases e3:put i (.fr a) ρ2 with
     | none=>simp only[e3] at e2;cases e2
     | some ρ3 =>
      simp only[e3] at e2
      cases e4:put j (.fr d) ρ3 with
      | none=>simp only[e4] at e2;cases e2
      | some ρ4 =>
       simp only[e4] at e2;cases e2
       refine⟨v,w,rfl,q _ H1 ?_⟩
       have b3:Bd c σ H1 ρ2 (some w::some v::τ) (.fr d::.fr a::θ.map Sl.fr):=by simpa using b2
       have b4:Bd c σ H1 ρ2 (some v::some w::τ) (.fr a::.fr d::θ.map Sl.fr):=by
        obtain⟨L,bl,ra⟩:=Bd.frs (vs:=[w,v]) (as:=[d,a]) b3 rfl
        cases ra with|cons h1 ra=>cases ra with|cons h2 _ =>
        have:=bl.push h1
        obtain⟨L',bl',ra'⟩:=Bd.uK this
        exact BdL.E8 bl h2 h1
       exact Bd.put (Bd.put b4 (λo z=>by cases z) e3) (λo z=>by cases z) e4
   | [],ef,e2,_,_=>simp only[ef] at e2;cases e2
   | [_],ef,e2,_,_=>simp only[ef] at e2;cases e2
   | _::_::_::_,ef,e2,_,_=>simp only[ef] at e2;cases e2
 ·subst e2
  exact⟨c,ρ,τ,_,_,ρ',ek,b,e1,λC H1 hm b1=>q C σ H1 hm b1⟩⟩
end
end M
namespace M
open PySem L2
section
variable{X:Cx}{E:XK}{a b:Expr}{ma mb:Mi Rr}{pos:Pos}
noncomputable abbrev IS:=fOr pW (fOr qz nj)
noncomputable abbrev dw:=fOr xo qw
theorem Cb(ha:JE X E a ma)(hb:JE X E b mb):JE X E (.BinOp a .Sub b pos) (mOp jg ma mb):=j1 DA D4 ha hb
theorem Bp(ha:JE X E a ma)(hb:JE X E b mb):JE X E (.BinOp a .Mult b pos) (mOp dw ma mb):=j1 (OpR.or' zt xY) (yc.or zx) ha hb
theorem CF(ha:JE X E a ma)(hb:JE X E b mb):JE X E (.BinOp a .FloorDiv b pos) (mOp nV ma mb):=j1 xh Ep ha hb
theorem E3(ha:JE X E a ma)(hb:JE X E b mb):JE X E (.BinOp a .Mod b pos) (mOp iw ma mb):=j1 zv Br ha hb
theorem Dp(ha:JE X E a ma)(hb:JE X E b mb):JE X E (.BinOp a .Pow b pos) (mOp gY ma mb):=j1 EN BN ha hb
theorem Fj(hu:X.A.units+64<cLine)(ha:JE X E a ma)(hb:JE X E b mb):JE X E (.Compare a [.Eq] [b] pos) (mOp fEq ma mb):=bH (vi hu) os_eq ha hb (aV _)
theorem HN(hu:X.A.units+64<cLine)(ha:JE X E a ma)(hb:JE X E b mb):JE X E (.Compare a [.NotEq] [b] pos) (mOp fNe ma mb):=bH (k7 hu) pZ ha hb (aV _)
theorem He(ha:JE X E a ma)(hb:JE X E b mb):JE X E (.Compare a [.Lt] [b] pos) (mOp fLt ma mb):=bH qU A3 ha hb (aV _)
theorem Hy(ha:JE X E a ma)(hb:JE X E b mb):JE X E (.Compare a [.LtE] [b] pos) (mOp fLe ma mb):=bH qT AG ha hb (aV _)
theorem Ge(ha:JE X E a ma)(hb:JE X E b mb):JE X E (.Compare a [.Gt] [b] pos) (mOp fGt ma mb):=bH wZ A2 ha hb (aV _)
theorem Fg(ha:JE X E a ma)(hb:JE X E b mb):JE X E (.Compare a [.GtE] [b] pos) (mOp fGe ma mb):=bH um AQ ha hb (aV _)
theorem GR(ha:JE X E a ma)(hb:JE X E b mb):JE X E (.Compare a [.Is] [b] pos) (mOp (fIs false) ma mb):=bH lD pX ha hb (aV _)
theorem x9(ha:JE X E a ma)(hb:JE X E b mb):JE X E (.Compare a [.IsNot] [b] pos) (mOp (fIs true) ma mb):=bH iN iE ha hb (aV _)
theorem Ha(hu:X.A.units+64<cLine)(ha:JE X E a ma)(hb:JE X E b mb):JT X E (.Compare a [.Eq] [b] pos) (ai (mOp fEq ma mb)):=bG (vi hu) os_eq ha hb (aV _)
theorem Gh(hu:X.A.units+64<cLine)(ha:JE X E a ma)(hb:JE X E b mb):JT X E (.Compare a [.NotEq] [b] pos) (ai (mOp fNe ma mb)):=bG (k7 hu) pZ ha hb (aV _)
theorem F3(ha:JE X E a ma)(hb:JE X E b mb):JT X E (.Compare a [.Lt] [b] pos) (ai (mOp fLt ma mb)):=bG qU A3 ha hb (aV _)
theorem FR(ha:JE X E a ma)(hb:JE X E b mb):JT X E (.Compare a [.LtE] [b] pos) (ai (mOp fLe ma mb)):=bG qT AG ha hb (aV _)
theorem Hn(ha:JE X E a ma)(hb:JE X E b mb):JT X E (.Compare a [.Gt] [b] pos) (ai (mOp fGt ma mb)):=bG wZ A2 ha hb (aV _)
theorem FU(ha:JE X E a ma)(hb:JE X E b mb):JT X E (.Compare a [.GtE] [b] pos) (ai (mOp fGe ma mb)):=bG um AQ ha hb (aV _)
theorem FT(ha:JE X E a ma)(hb:JE X E b mb):JT X E (.Compare a [.Is] [b] pos) (ai (mOp (fIs false) ma mb)):=bG lD pX ha hb (aV _)
theorem zR(ha:JE X E a ma)(hb:JE X E b mb):JT X E (.Compare a [.IsNot] [b] pos) (ai (mOp (fIs true) ma mb)):=bG iN iE ha hb (aV _)
end
noncomputable def BIG:Nat:=2^10000
noncomputable def wz(K:JH):Sp:=λvs H Q _=>∃(p:Addr) (ns:List Int),vs=[.ref p]/\SqL K H p (ns.map V.int)/\ns.length<=63/\∀H',Q (.bl true) H'
theorem qV{k:Kx}{G:Hp}:∀(ns:List Int),RAs k G (ns.map V.int) (ns.map A.int)
 | []=>.nil
 | n::ns=>.cons (.int n) (qV ns)
theorem BL{P:Program}{w:World}{K:JH}{mg:Str->Option Value}{base:Heap}{CX:CXT}{k:Nat}{f:Addr}{fd:FuncData}{ps:List Str}{m:Ms}(F:cu P w K mg base CX k f fd ps (SpM ⟨K,mg⟩ 1 m))
  (h:∀ns:List Int,ns.length<=63->∃ρ,m [.fr (.lst (ns.map A.int))]=some (.rt (.fr (.bl true)),ρ)):cu P w K mg base CX k f fd ps (wz K) :=
 F.imp λvs H Q E q=>by
  obtain⟨p,ns,rfl,hs,hl,q⟩:=q
  obtain⟨ρ,e⟩:=h ns hl
  let c:Cn:={ K:=K,mg:=mg,σ0:=[some (.ref p)],H0:=H,Lp:=[],Hd:=[],Wk:=[] }
  refine⟨rfl,c,_,_,ρ,rfl,rfl,rfl,⟨.nil,ao.cons (L:=[]) (.fr (.lst (lL (Sq.of λb o e=>?_) hs) (qV ns))) .nil,λp hp=>(by cases hp),⟨λb o e=>⟨o,e,λ_ _=>rfl⟩,λq hq=>(by cases hq)⟩,λi o _=>rfl,rfl,λq hq=>(by cases hq)⟩,e,λv H' _ b=>?_⟩
  ·rw[aU (c:=c) (λz=>by cases z) (λz=>by cases z)];exact e
  ·have r:=Bd.top b (a:=.bl true) rfl
   cases r
   exact q H'
noncomputable def mFz(m:Mi Rr):Mi Rr:=aq m λr ρ=>match aQ r ρ with
 | some (a,ρ')=>some (.ok (.fr a),ρ')
 | none=>none
theorem FA{X:Cx}{E:XK}{e:Expr}{m:Mi Rr}(he:JE X E e m):JE X E e (mFz m):=⟨PE.weaken he.p λσ H Q h=>by
 obtain⟨c,ρ,τ,θ,o,ρ',ek,b,em,q⟩:=h
 refine aP ek b em (λx v ρ1 H1 hv b1 em1=>?_) (aL q)
 cases e1:aQ x ρ1 with
 | none=>simp only[e1] at em1;cases em1
 | some p =>
  obtain⟨a,ρ2⟩:=p
  simp only[e1] at em1
  cases em1
  exact q v H1 trivial (Bd.aQ (xs:=[]) (ss:=[]) rfl b1 hv e1)⟩
end M
namespace M
open PySem L2
section
variable{X:Cx}{E:XK}
inductive Ty where|bool|int|str|tuple|list|dict
 deriving DecidableEq
noncomputable def Ty.n:Ty->String
 | .bool => "bool" | .int => "int" | .str => "str" | .tuple => "tuple" | .list => "list" | .dict => "dict"
noncomputable def Bm(T:Ty):A->Option Bool
 | .non=>some false
 | .bl _=>some (T=.bool || T=.int)
 | .int _=>some (T=.int)
 | .str _=>some (T=.str)
 | .tup _=>some (T=.tuple)
 | .lst _=>some (T=.list)
 | .dic _=>some (T=.dict)
 | _=>none
noncomputable def cQ(T:Ty)(a:A):Option Rr:=match Bm T a with
 | some k=>some (.fr (.bl k))
 | none=>none
theorem B4(K:JH)(T:Ty):Ko K (.type "NoneType") (.type T.n)=some false:=by cases T<;>kernel_rfl
theorem za(K:JH)(T:Ty):Ko K (.type "bool") (.type T.n)=some (T=.bool || T=.int:Bool):=by cases T<;>kernel_rfl
theorem Bo(K:JH)(T:Ty):Ko K (.type "int") (.type T.n)=some (T=.int:Bool):=by cases T<;>kernel_rfl
theorem CP(K:JH)(T:Ty):Ko K (.type "str") (.type T.n)=some (T=.str:Bool):=by cases T<;>kernel_rfl
theorem EZ(K:JH)(T:Ty):Ko K (.type "tuple") (.type T.n)=some (T=.tuple:Bool):=by cases T<;>kernel_rfl
theorem Ez(K:JH)(T:Ty):Ko K (.type "list") (.type T.n)=some (T=.list:Bool):=by cases T<;>kernel_rfl
theorem Dy(K:JH)(T:Ty):Ko K (.type "dict") (.type T.n)=some (T=.dict:Bool):=by cases T<;>kernel_rfl
theorem En{K:Kx}(T:Ty):UnS K (λv H Q=>∃x c t b,[v,V.ty T.n]=[x,c]/\TyX K.K H x t/\ck c=true/\Ko K.K t (eD c)=some b/\Q (.bl b) H) (cQ T):=.scalar λH v a q r1 h=>by
 cases a<;>first|(cases h;done)|skip
 ·cases r1;cases h
  exact⟨_,_,rfl,λ_=>.bl _,λQ k=>⟨_,_,_,_,rfl,.of .non,rfl,B4 _ T,k⟩⟩
 ·cases r1;cases h
  exact⟨_,_,rfl,λ_=>.bl _,λQ k=>⟨_,_,_,_,rfl,.of (.bl _),rfl,za _ T,k⟩⟩
 ·cases r1;cases h
  exact⟨_,_,rfl,λ_=>.bl _,λQ k=>⟨_,_,_,_,rfl,.of (.int _),rfl,Bo _ T,k⟩⟩
 ·cases r1;cases h
  exact⟨_,_,rfl,λ_=>.bl _,λQ k=>⟨_,_,_,_,rfl,.of (.str _),rfl,CP _ T,k⟩⟩
 ·cases r1 with
  | tup e r=>cases h;exact⟨_,_,rfl,λ_=>.bl _,λQ k=>⟨_,_,_,_,rfl,.tup e,rfl,EZ _ T,k⟩⟩
 ·cases r1 with
  | lst e r=>cases h;exact⟨_,_,rfl,λ_=>.bl _,λQ k=>⟨_,_,_,_,rfl,.lst e,rfl,Ez _ T,k⟩⟩
 ·cases r1 with
  | dic e r=>cases h;exact⟨_,_,rfl,λ_=>.bl _,λQ k=>⟨_,_,_,_,rfl,.dic e,rfl,Dy _ T,k⟩⟩
theorem D9{x y:Str}{p p2 pos:Pos}{e:Expr}{m:Mi Rr}(T:Ty)(hg:Gl X x)(hm:X.mg x=none)(hv:bootBuiltins x=some (.builtin "isinstance"))(hg2:Gl X y)(hm2:X.mg y=none)(hv2:bootBuiltins y=some (.type T.n))(ha:JE X E e m)(hn:x ≠ "__name__")
  (hdb:NDb x)(hn2:y ≠ "__name__")(hdb2:NDb y)(hs:starEach [e,.Name y p2] X.env=(false,eval e X.env)::starEach [.Name y p2] X.env:=by rfl)(hs2:starEach [.Name y p2] X.env=(false,eval (.Name y p2) X.env)::starEach [] X.env:=by rfl)(hp:(backTo pos (starEach [.Name y p2] X.env)).any (·.1)=false:=by rfl):JE X E (.Call (.Name x p) [e,.Name y p2] [] pos) (mB1 (cQ T) m) :=
 ⟨PE.weaken (eZ nc hg hm hv (a6 ha.p (a6 (kO hg2 hm2 hv2 (v:=.ty T.n) rfl hn2 hdb2) cg hs2) hs) hn hdb hs hp) λσ H Q h=>fB (r:=λv H Q=>∃x c t b,[v,V.ty T.n]=[x,c]/\TyX (kx X).K H x t/\ck c=true/\Ko (kx X).K t (eD c)=some b/\Q (.bl b) H) (En T) σ H Q h⟩
end
end M
namespace M
open PySem L2
section
variable{X:Cx}{E:XK}
noncomputable def Jc(as bs:List A):List A:=(as.zip bs).map λp=>.tup [p.1,p.2]
end
end M
namespace M
open PySem L2
section
variable{X:Cx}{E:XK}
noncomputable def cW(p q:Int->Int->Bool)(ma mb mc:Mi Rr):Mi Rr:=aq ma λx=>aq mb λy=>λρ=>match res ρ x,res ρ y with
 | some (.int i),some (.int j)=>match p i j with
  | true=>aq mc (λz ρ2=>match res ρ2 z with
   | some (.int k)=>some (.ok (.fr (.bl (q j k))),ρ2)
   | _=>none) ρ
  | false=>some (.ok (.fr (.bl false)),ρ)
 | _,_=>none
theorem iW{r r':R2}{p q:Int->Int->Bool}{ma mb mc:Mi Rr}(hr:∀i j H Q,Q (.bl (p i j)) H->r (.int i) (.int j) H Q)(hr':∀i j H Q,Q (.bl (q i j)) H->r' (.int i) (.int j) H Q)(σ:St)(H:Hp)(Q:VK)(h:TEm (kx X) E (cW p q ma mb mc) σ H Q) :
  pF r r' (TEm (kx X) E ma) (TEm (kx X) E mb) (TEm (kx X) E mc) σ H Q:=by
 obtain⟨c,ρ,τ,θ,o,ρ',ek,b,em,q0⟩:=h
 refine aP ek b em (λx v ρ1 H1 hv b1 em1=>?_) (aL q0)
 refine aP ek b1 em1 (λy w ρ2 H2 hw b2 em2=>?_) (gx (aL q0))
 cases e1:res ρ2 x with
 | none=>simp only[e1] at em2;cases em2
 | some a =>
  cases e2:res ρ2 y with
  | none=>cases a<;>(simp only[e1,e2] at em2;cases em2)
  | some d =>
   cases a<;>first|(simp only[e1,e2] at em2;cases em2;done)|skip
   cases d<;>first|(simp only[e1,e2] at em2;cases em2;done)|skip
   rename_i i j
   have r2:=Bd.rd b2 hw e2
   have r1:=Bd.rd b2.drop hv e1
   cases r1
   cases r2
   simp only[e1,e2] at em2
   refine hr _ _ _ _ ⟨p i j,rfl,?_⟩
   cases ep:p i j with
   | false =>
    simp only[ep] at em2
    cases em2
    rw[if_neg (by decide)]
    exact q0 _ H2 trivial (Bd.push b2.drop.drop (λ_=>.bl _))
   | true =>
    simp only[ep] at em2
    rw[if_pos rfl]
    refine aP ek b2.drop.drop em2 (λz w' ρ3 H3 hz b3 em3=>?_) (aL q0)
    cases e3:res ρ3 z with
    | none=>simp only[e3] at em3;cases em3
    | some d =>
     cases d<;>first|(simp only[e3] at em3;cases em3;done)|skip
     rename_i k
     have r3:=Bd.rd b3 hz e3
     cases r3
     simp only[e3] at em3
     cases em3
     exact hr' _ _ _ _ (q0 _ H3 trivial (Bd.push b3.drop (λ_=>.bl _)))
theorem mM{op op':CmpOp}{r r':R2}{p q:Int->Int->Bool}{a b c:Expr}{ma mb mc:Mi Rr}{pos:Pos}(ho:OpR X (compareOp op) r)(ho':OpR X (compareOp op') r')(hr:∀i j H Q,Q (.bl (p i j)) H->r (.int i) (.int j) H Q)(hr':∀i j H Q,Q (.bl (q i j)) H->r' (.int i) (.int j) H Q)
  (ha:JE X E a ma)(hb:JE X E b mb)(hc:JE X E c mc)(hm:lastMarks [op,op'] [b,c]=false:=by with_unfolding_all rfl):JE X E (.Compare a [op,op'] [b,c] pos) (cW p q ma mb mc):=⟨PE.weaken (vZ ho ho' ha.p hb.p hc.p hm) (iW hr hr')⟩
theorem uL{op op':CmpOp}{r r':R2}{p q:Int->Int->Bool}{a b c:Expr}{ma mb mc:Mi Rr}{pos:Pos}(ho:OpR X (compareOp op) r)(ho':OpR X (compareOp op') r')(hr:∀i j H Q,Q (.bl (p i j)) H->r (.int i) (.int j) H Q)(hr':∀i j H Q,Q (.bl (q i j)) H->r' (.int i) (.int j) H Q)
  (ha:JE X E a ma)(hb:JE X E b mb)(hc:JE X E c mc)(hm:lastMarks [op,op'] [b,c]=false:=by with_unfolding_all rfl):JT X E (.Compare a [op,op'] [b,c] pos) (ai (cW p q ma mb mc)):=⟨PT.weaken (wK ho ho' ha.p hb.p hc.p hm) λσ H Q h=>iW hr hr' σ H _ (cz σ H Q h)⟩
noncomputable abbrev cLt(i j:Int):Bool:=decide (i<j)
noncomputable abbrev cLe(i j:Int):Bool:=decide (i<=j)
noncomputable abbrev cGt(i j:Int):Bool:=decide (j<i)
noncomputable abbrev cGe(i j:Int):Bool:=decide (j<=i)
theorem AB(i j:Int)(H:Hp)(Q:VK)(q:Q (.bl (cLt i j)) H):rI0 (λi j=>.bl (decide (i<j))) (.int i) (.int j) H Q:=⟨_,_,rfl,rfl,q⟩
theorem Au(i j:Int)(H:Hp)(Q:VK)(q:Q (.bl (cLe i j)) H):rI0 (λi j=>.bl (decide (i<=j))) (.int i) (.int j) H Q:=⟨_,_,rfl,rfl,q⟩
theorem FQ(i j:Int)(H:Hp)(Q:VK)(q:Q (.bl (cGt i j)) H):rI0 (λi j=>.bl (decide (j<i))) (.int i) (.int j) H Q:=⟨_,_,rfl,rfl,q⟩
theorem FH(i j:Int)(H:Hp)(Q:VK)(q:Q (.bl (cGe i j)) H):rI0 (λi j=>.bl (decide (j<=i))) (.int i) (.int j) H Q:=⟨_,_,rfl,rfl,q⟩
example {a b c:Expr} {ma mb mc:Mi Rr} {pos:Pos} (ha:JE X E a ma) (hb:JE X E b mb) (hc:JE X E c mc) (hm:lastMarks [.LtE,.Lt] [b,c]=false):JE X E (.Compare a [.LtE,.Lt] [b,c] pos) (cW cLe cLt ma mb mc):=mM qT qU Au AB ha hb hc hm
end
end M
namespace M
open PySem L2
section
variable{X:Cx}{E:XK}
noncomputable def u9(K:JH):R2:=λx y H Q=>∃a b xs ys,x=.ref a/\y=.ref b/\SqL K H a xs/\SqL K H b ys/\xs.length+ys.length<=sizeLine/\∀p,H p=none->Q (.ref p) (upd H p (.lst (xs++ys)))
theorem vD:OpR X (binaryOp .Add) (u9 X.K):=by
 intro pins s σ H x y v u Q I rx ry h
 obtain⟨a,b,xs,ys,rfl,rfl,ha,hb,hz,q⟩:=h
 cases rx
 cases ry
 obtain⟨its,r1,p1,_⟩:=I.list ha
 obtain⟨jts,r2,p2,_⟩:=I.list hb
 obtain⟨⟨c1,d1,t1,l1⟩,n1,e1,hc1,hk1,hd1⟩:=id p1
 obtain⟨⟨c2,d2,t2,l2⟩,n2,e2,hc2,hk2,hd2⟩:=id p2
 simp only at hc1 hd1 hc2 hd2 hk1 hk2
 subst hc1 hd1 hc2 hd2 hk1 hk2
 have k1:=r1.length
 have k2:=r2.length
 refine concat_meets ⟨_,e1,rfl⟩ ⟨_,e2,rfl⟩ noFill_list_add seq_list_add PySem.F.slot_list_add PySem.F.entry_list_add (PySem.F.args_list_add_2 _ _) (P0 a b _ _ n1 n2 _ _ l1 l2 (by rw[JO,JO];omega)) ⟨e1,e2,?_⟩
 have ea:its.toArray++jts.toArray=(its++jts).toArray:=by simp
 rw[ea]
 exact⟨.ref _,_,I.Ja (t':=s.toks) (r1.append r2) (by rw[Kg];omega),rfl,q _ I.fresh⟩
noncomputable def p0:A->A->Option Rr
 | .lst xs,.lst ys=>if xs.length+ys.length<=100000 then some (.nw (.lst (xs++ys))) else none
 | _,_=>none
theorem yt {K:Kx}:OpS K (u9 K.K) p0:=by
 intro c σ H ρ τ θ x y v w a b q Q ek hv hw bd e1 e2 e3 k
 cases a <;> first | (cases e3; done) | (cases b <;> first | (cases e3; done) | skip)
 rename_i xs ys
 unfold p0 at e3
 simp only at e3
 split at e3
 ·rename_i hc
  cases e3
  obtain⟨L,bl,i1,i2⟩:=Bd.pY bd hv hw e1 e2
  obtain⟨p1,vs1,rfl,s1,r1⟩:=i1.1 xs rfl
  obtain⟨p2,vs2,rfl,s2,r2⟩:=i2.1 ys rfl
  have l1:=r1.len
  have l2:=r2.len
  subst ek
  exact⟨p1,p2,vs1,vs2,rfl,rfl,s1,s2,by have:=fo;omega,λp hp=>k _ _ trivial (bl.eJ hp λG H' sm q=>.lst q ((r1.app r2).sm sm))⟩
 ·cases e3
noncomputable abbrev aC:=fOr pW (fOr qz (fOr nj p0))
theorem yH{a b:Expr}{ma mb:Mi Rr}{pos:Pos}(ha:JE X E a ma)(hb:JE X E b mb):JE X E (.BinOp a .Add b pos) (mOp aC ma mb):=j1 (OpR.or' BZ (OpR.or' oI (OpR.or' yV vD))) (xK.or (zZ.or (yO.or yt))) ha hb
end
end M
namespace M
open PySem L2
section
variable{c:Cn}{σ:St}{H:Hp}{ρ:List Sl}{τ:St}{θ:List Sl}
theorem Bd.unset{ρ':List Sl}{i:Nat}(b:Bd c σ H ρ τ θ)(h:M.put i .un ρ=some ρ'):Bd c (σ.set i none) H ρ' τ θ:=by
 unfold M.put at h
 have key:∀s,ρ[i]?=some s->(∀o,s≠.pv o)->ρ'=ρ.set i .un->Bd c (σ.set i none) H ρ' τ θ:=λs e hs er=>by
  subst er
  obtain⟨L,nd,rel,own,fr,kp,lt,hdd⟩:=b
  obtain⟨L1,L2,e1,r1,r2⟩:=ao.split lt rel
  obtain⟨x,M1,M2,M3,hx,hs',e2,ins⟩:=r2.at e
  subst e1 e2
  have sub:∀a,a∈L1++(M1++[]++M3)->a∈L1++(M1++M2++M3):=λa ha=>by simp at ha ⊢;rcases ha with z|z|z<;>simp[z]
  have sm:Sq (c.g H (L1++(M1++M2++M3))) (c.g H (L1++(M1++[]++M3))):=bM sub
  have hi:i<ρ.length:=(J0.mp e).1
  refine⟨L1++(M1++[]++M3),?_,(r1.sm sm (λ_ _ _ e=>e)).app (ins sm (λ_ _ _ e=>e) (.un none)),λq hq=>own q (sub q hq),fr,kp.set (λo z=>?_) hi (λo z=>by cases z),lt,hdd⟩
  ·refine nd.sublist (KS (K0 _) (KS ?_ (K0 _)))
   exact KS (K0 _) (OT _)
  ·rw[e] at z;exact hs o (JV z)
 cases es:ρ[i]? with
 | none=>simp only[es] at h;cases h
 | some s =>
  cases s with
  | pv o=>simp only[es] at h;cases h
  | un=>simp only[es] at h;exact key _ es (λo z=>by cases z) (JV h).symm
  | fr a=>simp only[es] at h;exact key _ es (λo z=>by cases z) (JV h).symm
  | lv o=>simp only[es] at h;exact key _ es (λo z=>by cases z) (JV h).symm
end
section
variable{X:Cx}{E:XK}
noncomputable def TXm(K:Kx)(m:Ms):TX:=λD Ex σ H=>∃(c:Cn) (ρ:List Sl) (τ:St) (θ:List A) (f:Fl) (ρ':List Sl),c.toKx=K/\Bd c σ H ρ τ (θ.map Sl.fr)/\m ρ=some (f,ρ') /\
  (match f with
   | .ex x=>∀C σ H,K.mg x=some (.ref C)->Bd c σ H ρ' τ (θ.map Sl.fr)->Ex (.ref C) σ H
   | f=>o6 K E00 c ρ' τ θ D f)
structure JX (X:Cx) (st:Stmt) (m:Ms):Prop where
 p:PX X st (TXm (kx X) m)
theorem PX.weaken{st:Stmt}{t t':TX}(h:PX X st t)(f:∀D Ex σ H,t' D Ex σ H->t D Ex σ H):PX X st t':=λpins s σ H D Ex I q=>h pins s σ H D Ex I (f D Ex σ H q)
noncomputable def cB{α:Type}(m:Mi α):Mi α:=λρ=>match m ρ with
 | some (.ok x,ρ1)=>some (.ok x,ρ1)
 | _=>none
theorem dA{α:Type}{m:Mi α}{ρ ρ':List Sl}{o:Except Str α}(h:cB m ρ=some (o,ρ')):∃x,o=.ok x/\m ρ=some (.ok x,ρ'):=by
 unfold cB at h
 cases e:m ρ with
 | none=>simp only[e] at h;cases h
 | some p =>
  obtain⟨r,ρ1⟩:=p
  cases r with
  | ok x=>simp only[e] at h;cases h;exact⟨x,rfl,rfl⟩
  | error x=>simp only[e] at h;cases h
theorem cL{m:Ms}{n:Nat}{ma:Mi (List Rr)}{σ:St}{H:Hp}{Q:VK}{E':XK}{c:Cn}{ρ ρ':List Sl}{τ:St}{θ:List Sl}{o:Except Str Rr}(hn:∀ρ rs ρ',ma ρ=some (.ok rs,ρ')->rs.length+0=n)(ek:c.toKx=kx X)(b:Bd c σ H ρ τ θ)(em:av m [] (cB ma) ρ=some (o,ρ'))
  (q1:∀r,o=.ok r->∀v H',VR σ r v->Bd c σ H' ρ' (bj r v τ) (bh r θ)->Q v H')(q2:∀x,o=.error x->∀C H',X.mg x=some (.ref C)->Bd c σ H' ρ' τ θ->E' (.ref C) none H') :
  TAm (kx X) E00 ma σ H λvs H1=>SpM (kx X) n m (vs++[]) H1 Q E':=by
 rcases bind_some em with ⟨rs,ρ1,e1,e2⟩|⟨e,e1,e2⟩
 ·obtain⟨x,h1,h2⟩:=dA e1
  cases h1
  refine⟨c,ρ,τ,θ,_,ρ1,ek,b,h2,λvs H1 hv b1=>?_⟩
  refine j5 (E:=E') (dvs:=[]) (λG=>.nil) ek ?_ hv b1 e2 q1 q2
  rw[Km,<- hv.len]
  exact hn ρ rs ρ1 h2
 ·obtain⟨x,h1,_⟩:=dA e1
  cases h1
theorem DU{i n k:Nat}{f:Addr}{fd:FuncData}{ps:List Str}{m:Ms}{x y:Str}{p pos cpos pos':Pos}{e:Expr}{es:List Expr}{ma:Mi (List Rr)}(hN:X.N.Nodup)(hi:X.N[i]?=some y)(hx:Loc X.env.scope y)(F:cu X.prog X.w X.K X.mg X.base (CXE X.prog X.w) k f fd ps (SpM (kx X) n m))(hr:bR k X.A)(hg:Gl X x)
  (hm:X.mg x=some (.ref f))(hk:Ks X.K (.ref f)=true)(hb:Binds X.K fd ps [])(ha:JA X.nox E00 (e::es) ma)(hn:∀ρ rs ρ',ma ρ=some (.ok rs,ρ')->rs.length+0=n)(hdb:NDb x)(hs:swapsWith (.Call (.Name x p) (e::es) [] cpos) (some (.Name y pos')) pos.line X.env=pure false:=by rfl)
  (hf:X.fn y=true\/X.env.scope.names.lookup y=some .local:=by first|exact .inl rfl|exact .inr rfl|assumption)(he:starEach (e::es) X.env=(false,eval e X.env)::starEach es X.env:=by rfl)(hpl:(backTo cpos (starEach es X.env)).any (·.1)=false:=by rfl) :
  JX X (.Assign [.Name y pos'] (.Call (.Name x p) (e::es) [] cpos) pos) (aJ i (av m [] (cB ma))) :=
 ⟨PX.weaken (Em hN hi hx (mX (dvs:=[]) F hr hg hm hk hb .nil ha.p hdb he hpl) hs hf) λD Ex σ H h=>by
  obtain⟨c,ρ,τ,θ,f,ρ',ek,b,em,q⟩:=h
  rcases aZ em with ⟨r,ρ1,e1,e2⟩|⟨e,e1,e2⟩
  ·refine cL hn ek b e1 (λr' hr' v H' hv b1=>?_) (λx hx=>by cases hx)
   cases hr'
   cases e3:stT r ρ1 with
   | none=>simp only[e3] at e2;cases e2
   | some p =>
    obtain⟨t,ρ2⟩:=p
    simp only[e3] at e2
    obtain⟨b2,ht⟩:=Bd.stT hv b1 e3
    cases e4:put i t ρ2 with
    | none=>simp only[e4] at e2;cases e2
    | some ρ3 =>
     simp only[e4] at e2;cases e2
     exact q _ H' (Bd.put b2 ht e4)
  ·subst e2
   exact cL hn ek b e1 (λr hr=>by cases hr) (λx hx=>by cases hx;exact λC H' hm b1=>q C σ H' hm b1)⟩
theorem yU{n k:Nat}{f:Addr}{fd:FuncData}{ps:List Str}{m:Ms}{x:Str}{p pos cpos:Pos}{e:Expr}{es:List Expr}{ma:Mi (List Rr)}(F:cu X.prog X.w X.K X.mg X.base (CXE X.prog X.w) k f fd ps (SpM (kx X) n m))(hr:bR k X.A)(hg:Gl X x)
  (hm:X.mg x=some (.ref f))(hk:Ks X.K (.ref f)=true)(hb:Binds X.K fd ps [])(ha:JA X.nox E00 (e::es) ma)(hn:∀ρ rs ρ',ma ρ=some (.ok rs,ρ')->rs.length+0=n)(hdb:NDb x)(hs:swapsWith (.Call (.Name x p) (e::es) [] cpos) none pos.line X.env=pure false:=by rfl)
  (he:starEach (e::es) X.env=(false,eval e X.env)::starEach es X.env:=by rfl)(hpl:(backTo cpos (starEach es X.env)).any (·.1)=false:=by rfl) :
  JX X (.Expr (.Call (.Name x p) (e::es) [] cpos) pos) (jo (av m [] (cB ma))) :=
 ⟨PX.weaken (xV (mX (dvs:=[]) F hr hg hm hk hb .nil ha.p hdb he hpl) hs) λD Ex σ H h=>by
  obtain⟨c,ρ,τ,θ,f,ρ',ek,b,em,q⟩:=h
  rcases aZ em with ⟨r,ρ1,e1,e2⟩|⟨e,e1,e2⟩
  ·cases e2
   exact cL hn ek b e1 (λr' hr' v H' hv b1=>by cases hr';exact q σ H' b1.drop) (λx hx=>by cases hx)
  ·subst e2
   exact cL hn ek b e1 (λr hr=>by cases hr) (λx hx=>by cases hx;exact λC H' hm b1=>q C σ H' hm b1)⟩
noncomputable def wC(i:Nat)(sub:Str->Bool)(b s:Ms):Ms:=λρ=>match b ρ with
 | some (.ex x,ρ1)=>if sub x=true then match put i (.fr (.exc x)) ρ1 with
  | some ρ2=>match s ρ2 with
   | some (.nx,ρ3)=>match put i .un ρ3 with
    | some ρ4=>some (.nx,ρ4)
    | none=>none
   | some (.rt r,ρ3)=>some (.rt r,ρ3)
   | _=>none
  | none=>none else none
 | r=>r
theorem EE{T:Addr}{n x:Str}{i:Nat}{b0 s0:Stmt}{suite:List Stmt}{mb ms:Ms}{sub:Str->Bool}{np hp pos:Pos}(hst:X.stack=X.env::X.outer)(hfr:X.env.frame=some X.env.locals)(hex:X.ex=[])(hN:X.N.Nodup)(hi:X.N[i]?=some n)(hn:X.env.scope.names.lookup n=some .local)
  (hg:Gl X x)(hm:X.mg x=some (.ref T))(hsub:∀c C,sub c=true->X.mg c=some (.ref C)->Mu X.K (.ref C) (.ref T)=some true)(hb:JX X b0 mb)(hs:∀a,JSs (X.marked a) E00 (s0::suite) ms)(hd:NDb x)
  (hf:X.fn n=true\/X.env.scope.names.lookup n=some .local:=by first|exact .inl rfl|exact .inr rfl|assumption) :
  JS X E (.Try [b0] [.ExceptHandler (some (.Name x np)) (some n) (s0::suite) hp] [] [] pos) (wC i sub mb ms) :=
 ⟨PS.weaken (BW (ts:=TSm (kx X) E00 ms) hst hfr hex hN hi hn hg hm (qS hb.p) (λa=>(hs a).p) hd hf) λD σ H h=>by
  obtain⟨c,ρ,τ,θ,f,ρ',ek,b,em,q⟩:=h
  unfold wC at em
  cases eb:mb ρ with
  | none=>simp only[eb] at em;cases em
  | some p =>
   obtain⟨f1,ρ1⟩:=p
   simp only[eb] at em
   refine⟨c,ρ,τ,θ,f1,ρ1,ek,b,eb,?_⟩
   cases f1 with
   | nx=>cases em;exact q
   | rt s=>cases em;exact q
   | bk=>cases em;exact q
   | ct=>cases em;exact q
   | ex y =>
    simp only at em
    split at em
    ·rename_i hsb
     intro C σ' H' hmC b1
     refine⟨C,rfl,hsub y C hsb hmC,λa ha=>?_⟩
     cases ep:put i (.fr (.exc y)) ρ1 with
     | none=>simp only[ep] at em;cases em
     | some ρ2 =>
      simp only[ep] at em
      cases es:ms ρ2 with
      | none=>simp only[es] at em;cases em
      | some p =>
       obtain⟨f2,ρ3⟩:=p
       simp only[es] at em
       have b2:Bd c (σ'.set i (some (.ref a))) (upd H' a (m5 a C)) ρ2 τ (θ.map Sl.fr):=by
        obtain⟨L,bl⟩:=b1
        obtain⟨b3,sm,np⟩:=bl.new (o:=m5 a C) ha
        exact Bd.put (b3.push (.exc (by rw[aU np (bl.fhd ha)];exact aI) (by rw[ek];exact hmC))) (λo z=>by cases z) ep
       refine⟨c,ρ2,τ,θ,f2,ρ3,ek,b2,es,?_⟩
       cases f2 with
       | nx =>
        cases e4:put i .un ρ3 with
        | none=>simp only[e4] at em;cases em
        | some ρ4=>simp only[e4] at em;cases em;exact λσ3 H3 b3=>q _ H3 (b3.unset e4)
       | rt r=>cases em;exact q
       | bk=>cases em
       | ct=>cases em
       | ex z=>cases em
    ·cases em⟩
noncomputable def dC(tab:Str->Option Bool):A->Option Rr
 | .exc c=>match tab c with
  | some k=>some (.fr (.bl k))
  | none=>none
 | _=>none
theorem zM{K:Kx}{cv:V}{tab:Str->Option Bool}(hc:ck cv=true)(ht:∀c C k,tab c=some k->K.mg c=some (.ref C)->dJ K.K C/\Ko K.K (.ref C) (eD cv)=some k) :
  UnS K (λv H Q=>∃x c t b,[v,cv]=[x,c]/\TyX K.K H x t/\ck c=true/\Ko K.K t (eD c)=some b/\Q (.bl b) H) (dC tab):=.scalar λH v a q r1 h=>by
 cases a<;>first|(cases h;done)|skip
 rename_i c
 unfold dC at h
 simp only at h
 cases e:tab c with
 | none=>simp only[e] at h;cases h
 | some k =>
  simp only[e] at h
  cases h
  cases r1 with
  | exc e1 m1 =>
   obtain⟨x1,x2⟩:=ht c _ k e m1
   exact⟨_,_,rfl,λ_=>.bl _,λQ k=>⟨_,_,_,_,rfl,.exc e1 x1,hc,x2,k⟩⟩
theorem yK{x:Str}{p pos:Pos}{e e2:Expr}{m:Mi Rr}{cv:V}{tab:Str->Option Bool}(hg:Gl X x)(hm:X.mg x=none)(hv:bootBuiltins x=some (.builtin "isinstance"))(h2:PE X e2 (tC cv))(hc:ck cv=true)(ht:∀c C k,tab c=some k->X.mg c=some (.ref C)->dJ X.K C/\Ko X.K (.ref C) (eD cv)=some k)
  (ha:JE X E e m)(hn:x ≠ "__name__")(hdb:NDb x)(hs:starEach [e,e2] X.env=(false,eval e X.env)::starEach [e2] X.env:=by rfl)(hs2:starEach [e2] X.env=(false,eval e2 X.env)::starEach [] X.env:=by rfl)(hp:(backTo pos (starEach [e2] X.env)).any (·.1)=false:=by rfl) :
  JE X E (.Call (.Name x p) [e,e2] [] pos) (mB1 (dC tab) m) :=
 ⟨PE.weaken (eZ nc hg hm hv (a6 ha.p (a6 h2 cg hs2) hs) hn hdb hs hp) λσ H Q h=>fB (r:=λv H Q=>∃x c t b,[v,cv]=[x,c]/\TyX (kx X).K H x t/\ck c=true/\Ko (kx X).K t (eD c)=some b/\Q (.bl b) H) (zM (K:=kx X) hc ht) σ H Q h⟩
end
end M
namespace M
open PySem L2
section
variable{X:Cx}{E:XK}
noncomputable def Ck(ρ:List Sl)(i:Nat):Bool:=match aH ρ i with
 | some (.dic _)=>true
 | _=>false
noncomputable def ua(i:Nat)(m:Mi Rr):Mi Rr:=λρ0=>if Ck ρ0 i=true then aq m (λr ρ=>match res ρ r,aH ρ i with
 | some ka,some (.dic kvs)=>match fK ka with
  | some y=>match iy kvs y with
   | some a=>some (.ok (.fr a),setAt ρ i (.dic (kvs.filter λkv=>decide (kv.1≠y))))
   | none=>none
  | none=>none
 | _,_=>none) ρ0 else none
theorem xQ{i:Nat}{x:Str}{px apos cpos:Pos}{e:Expr}{m:Mi Rr}(hN:X.N[i]?=some x)(hv:Vis X.env.scope x)(hd:NDb x)(hcd:NCd x)(he:JE X E e m)(hm:M1 X (.Name x px) "pop" apos e cpos) :
  JE X E (.Call (.Attribute (.Name x px) "pop" apos) [e] [] cpos) (ua i m) :=
 ⟨PE.weaken (vE (dN hN hv hd hcd) he.p hm) λσ H Q h=>by
  obtain⟨c,ρ,τ,θ,o,ρ',ek,b,em,q⟩:=h
  unfold ua at em
  split at em
  ·rename_i hl
   obtain⟨xs0,hl⟩:∃kvs,aH ρ i=some (.dic kvs):=by
    unfold Ck at hl
    cases e:aH ρ i with
    | none=>rw[e] at hl;cases hl
    | some o=>cases o with
     | dic kvs=>exact⟨kvs,rfl⟩
     | lst _=>rw[e] at hl;cases hl
     | obj _ _=>rw[e] at hl;cases hl
   obtain⟨p,vs,hp,hH⟩:∃p vs,σ[i]?=some (some (.ref p))/\H p=some (.dK vs):=by
    obtain⟨L,b⟩:=b
    obtain⟨p,h1,h2,_⟩:=b.live hl (.dic xs0) (.dK [])
    cases h2 with|dic e r=>exact⟨p,_,h1,e⟩
   refine⟨_,hp,p,rfl,.inl ⟨vs,.inl hH⟩,?_⟩
   refine aP ek b em (λr v ρ1 H1 hv b1 em1=>?_) (aL q)
   cases e1:res ρ1 r with
   | none=>simp only[e1] at em1;cases em1
   | some ka =>
    have r1:=Bd.rd b1 hv e1
    cases e2:aH ρ1 i with
    | none=>simp only[e1,e2] at em1;cases em1
    | some lo =>
     cases lo with
     | lst _=>simp only[e1,e2] at em1;cases em1
     | obj _ _=>simp only[e1,e2] at em1;cases em1
     | dic kvs =>
      simp only[e1,e2] at em1
      cases e3:fK ka with
      | none=>simp only[e3] at em1;cases em1
      | some y =>
       simp only[e3] at em1
       have ev:=gU r1 e3
       cases e4:iy kvs y with
       | none=>simp only[e4] at em1;cases em1
       | some a =>
        simp only[e4] at em1
        cases em1
        obtain⟨L,bl⟩:=b1.drop
        obtain⟨p',h1,h2,_⟩:=bl.live e2 (.dic kvs) (.dK [])
        rw[hp] at h1;cases h1
        cases h2 with
        | dic eH rr =>
         rename_i ws
         rcases rr.get y with ⟨v',a',g1,g2,g3⟩|⟨_,g2⟩
         ·rw[e4] at g2
          cases g2
          have b5:=bl.push g3
          obtain⟨L5,bl5⟩:=b5
          obtain⟨p5,h5,h6,h7⟩:=bl5.live e2 (.dic (kvs.filter λkv=>decide (kv.1≠y))) (.dK (eM ws y))
          rw[hp] at h5;cases h5
          cases h6 with
          | dic eH6 rr6 =>
           rw[eH] at eH6
           cases eH6
           exact⟨ws,y,v',eH,ev,g1,q v' _ trivial (h7 λH' hh=>.dic hh (rr6.filter y))⟩
         ·rw[e4] at g2;cases g2
  ·cases em⟩
end
inductive fQ (K:JH) (H:Hp) (kb:List (Key×V)):List (Key×V)->Bool->Prop
 | nil:fQ K H kb [] true
 | miss {k:Key} {v:V} {r:List (Key×V)} (h:cJ kb k=none):fQ K H kb ((k,v)::r) false
 | hit {k:Key} {v y:V} {r:List (Key×V)} {d e:D} {b:Bool} (h:cJ kb k=some y) (hd:Den K H v d) (he:Den K H y e) (dp:D.depth d<=40) (t:fQ K H kb r b):fQ K H kb ((k,v)::r) (D.eq d e&&b)
noncomputable def jX(kb:List (Key×A)):List (Key×A)->Option Bool
 | []=>some true
 | (k,a)::r=>match iy kb k with
  | none=>some false
  | some b=>match eqA a b,jX kb r with
   | some e,some t=>some (e&&t)
   | _,_=>none
theorem lj{K:Kx}{H:Hp}{vb:List (Key×V)}{kb:List (Key×A)}(rb:RKs K H vb kb):∀{va:List (Key×V)}{ka:List (Key×A)}{r:Bool},RKs K H va ka->jX kb ka=some r->fQ K.K H vb va r
 | _,_,_,.nil,h=>by cases h;exact .nil
 | _,_,_,.cons (y:=y) (a:=a) (as:=as) h0 r0,h=>by
  unfold jX at h
  rcases rb.get y with ⟨v',a',g1,g2,g3⟩|⟨g1,g2⟩
  ·simp only[g2] at h
   cases e1:eqA a a' with
   | none=>simp only[e1] at h;cases h
   | some e =>
    cases e2:jX kb as with
    | none=>simp only[e1,e2] at h;cases h
    | some t =>
     simp only[e1,e2] at h
     cases h
     obtain⟨d,f,q1,q2,q3,rfl⟩:=iP e1
     exact .hit g1 (fY h0 q1) (fY g3 q2) q3 (lj rb r0 e2)
  ·simp only[g2] at h
   cases h
   exact .miss g1
section
variable{X:Cx}{E:XK}
noncomputable def pU(K:JH):R2:=λx y H Q=>∃a b ka kb r,x=.ref a/\y=.ref b/\Rd H a (.dK ka)/\Rd H b (.dK kb)/\fQ K H kb ka r/\Q (.bl (!(ka.length==kb.length&&r))) H
theorem wF{pins:List (Addr×Obj)}{σ:St}{H:Hp}{s:Shared}{A:Around}(I:Inv X pins σ H s)(hu:A.units+40<cLine){kb:List (Key×V)}{vb:List (Key×Value)}(rb:KV kb vb){ka:List (Key×V)}{r:Bool}(h:fQ X.K H kb ka r):∀{va:List (Key×Value)},KV ka va->PySem.W.KeqHits A s vb va r:=by
 induction h with
 | nil=>intro va q;cases q;exact .nil
 | @miss k v r h =>
  intro va q
  cases q with
  | @cons _ p _ ps h0 r0 =>
   obtain⟨k',v'⟩:=p
   obtain⟨e,rv⟩:=h0
   have e:k=k':=e
   subst e
   exact .miss (fL.none_of (by rw[<- h];exact rb.val k))
 | @hit k v y r d e b h hd he dp t ih =>
  intro va q
  cases q with
  | @cons _ p _ ps h0 r0 =>
   obtain⟨k',v'⟩:=p
   obtain⟨e,rv⟩:=h0
   have e:k=k':=e
   subst e
   obtain⟨w',hw,rw'⟩:=fL.some_of (v:=y) (o:=PySem.valueAt vb k) (by rw[<- h];exact rb.val k)
   exact .hit hw (fc I 40 hu dp hd he rv rw') (ih r0)
theorem kD(hu:X.A.units+64<cLine):OpR X (compareOp .NotEq) (pU X.K):=by
 intro pins s σ H x y v u Q I rx ry h
 obtain⟨a,b,ka,kb,r,rfl,rfl,da,db,hh,q⟩:=h
 cases rx
 cases ry
 obtain⟨z1,l1,va,r1,d1⟩:=L2.cc I.hok da
 obtain⟨z2,l2,vb,r2,d2⟩:=L2.cc I.hok db
 refine PySem.W.keq_ne l1 l2 d1 d2 (by omega) (λ_=>wF I (A:=X.A.in1) (by show X.A.in1.units+40<cLine;rw[show X.A.in1.units=X.A.units+1 from rfl];omega) r2 hh r1) ?_
 rw[<- r1.length,<- r2.length]
 exact⟨.bl _,H,I,rfl,q⟩
noncomputable def uh(ka kb:List (Key×A)):Option Bool:=match jX kb ka with
 | some r=>some (ka.length==kb.length&&r)
 | none=>none
noncomputable def JC:A->A->Option Rr
 | .dic ka,.dic kb=>match uh ka kb with
  | some r=>some (.fr (.bl r))
  | none=>none
 | _,_=>none
noncomputable def mS:A->A->Option Rr
 | .dic ka,.dic kb=>match uh ka kb with
  | some r=>some (.fr (.bl (!r)))
  | none=>none
 | _,_=>none
theorem kl{K:Kx}:OpS K (pU K.K) mS:=.scalar λH v w a b q r1 r2 h=>by
 cases a<;>first|(cases h;done)|(cases b<;>first|(cases h;done)|skip)
 rename_i ka kb
 unfold mS uh at h
 simp only at h
 cases e:jX kb ka with
 | none=>simp only[e] at h;cases h
 | some r =>
  simp only[e] at h
  cases h
  cases r1 with
  | dic e1 k1 =>
   cases r2 with
   | dic e2 k2=>exact⟨_,_,rfl,λ_=>.bl _,λQ k=>⟨_,_,_,_,_,rfl,rfl,e1,e2,lj k2 k1 e,by rw[k1.len,k2.len];exact k⟩⟩
variable{a b:Expr}{ma mb:Mi Rr}{pos:Pos}
end
end M
set_option maxHeartbeats 4000000
namespace L2
open PySem PySem.Spec PyProof.Rows
theorem p9:entryFor table "dict.update.loop" = some Builtin.«dict.update.loop»:=entryFor_of_tree (by kernel_rfl)
theorem lA:plainId "dict.update.loop" = true:=by decide +kernel
theorem sE:typeLookup (.type "tuple") "keys" = pure none:=am_miss_of_fast (by kernel_rfl)
section
variable{prog:Program}{w:World}{A:Around}{E:Value->Shared->Prop}{s:Shared}
theorem y9{a:Addr}{items:Array Value}{Q:Option Value->Shared->Prop}(hx:cG s.heap a items)(hA:A.handled=none)(h:∀h' tk,(∀b ob,s.heap.get? b=some ob->h'.get? b=some ob)->Q none { s with heap:=h',toks:=tk }) :
  wpAny (model prog w) A (getAttr? (.ref a) "keys") Q E s:=by
 obtain⟨⟨c,dct,dat,sl⟩,hx,hc,k,hdat,hd⟩:=hx
 simp only at hc hdat hd
 subst hc hdat hd
 obtain⟨hp,g,d,tk,os⟩:=s
 have hT:∀tk',(⟨hp,g,d,tk',os⟩:Shared).TypeIs (.ref a) "tuple" := λ_=>⟨_,hx,rfl⟩
 have f1:=sub_AttributeError
 have f3:=Mh.lookup
 have f4:=Mh.bind (.ref a)
 have f5:=am_tuple_getattr_none
 unfold getAttr? getAttrBy? getAttrBy
 repeat (any_goals (first|assumption|exact hT _|((with_reducible show wpAny _ _ (call (L8 "tuple.__getattribute__") _ _) _ _ _);refine call_meets Mh (hT _) am_entry_tuple_getattribute (F.args_tuple_getattribute_2 _ _) (meets_getattribute_miss_tuple a items k sl "keys" _ sE (by decide +kernel)) ⟨hx,hA,λh' tk' e hx'=>?_⟩)|wp_step))
 obtain⟨t',u',he⟩:=hx'.there
 show wpAny _ _ (getattributeRaised _ _ _ _ _ _ _) _ _ _
 unfold getattributeRaised
 repeat (any_goals (first|assumption|wp_step))
 exact h _ _ hx'.keeps
theorem sW{R:Result->Shared->Prop}(hh:A.in1.handled=none){h0:Heap}{a D I:Addr}{its:Array Value}{kvs:List (Key×Value)}(ha:h0.IsTuple a its)
  (hpr:∀(i:Nat)(v:Value),its[i]?=some v->∃p k u r,v=KL p/\h0.IsTuple p #[u,r]/\kvs[i]?=some (k,r)/\(aG prog w).is k u=true)(hl:its.size=kvs.length)(hD:h0.get? D=none)(hI:h0.get? I=none)(hDI:D≠I)(hz:its.size<=1000) :
  ∀(k i:Nat)(n:Int)(t:Tok)(s:Shared),its.size-i=k->i<=its.size->s.heap.IsTupleIter I a i->(∀b o,h0.get? b=some o->s.heap.get? b=some o)->s.heap.DictOf (aG prog w) D (merged [] (kvs.take i)) ->
   (∀h' tk,(∀b o,h0.get? b=some o->h'.get? b=some o)->h'.DictOf (aG prog w) D (merged [] kvs)->R (.ok (.ret .none)) { s with heap:=h',toks:=tk }) ->
   codeAny (model prog w) A (.builtin "dict.update.loop" ⟨[.ref D,.ref I,.int n t,.none],[]⟩) R s:=by
 intro k
 induction k with
 | zero =>
  intro i n t s hk hi hit kp hd hR
  have hin:i=its.size:=by omega
  subst hin
  refine codeAny_builtin p9 ?_
  rw[LK lA _]
  show wpAny _ A.in1 (pyNext (.ref I) >>= _) _ _ s
  refine wpAny_bind (wpAny_pyNext_tuple_end hh hit (let ⟨o,e,r⟩:=ha;⟨o,kp _ _ e,r⟩) (by simp) λh' he'=>?_)
  have kp':∀b o,h0.get? b=some o->h'.get? b=some o:=λb o e=>he' b o (λz=>by rw[z,hI] at e;cases e) (kp b o e)
  show wpAny _ A.in1 (P1 D [] >>= _) _ _ _
  refine wpAny_bind (wpAny_pure ?_)
  refine wpAny_pure (hR h' s.toks kp' ?_)
  rw[hl,OW] at hd
  exact hd.extBut he' hDI
 | succ k ih =>
  intro i n t s hk hi hit kp hd hR
  have hlt:i<its.size:=by omega
  obtain⟨p,ky,u,r,hv,hp,hkv,hky⟩:=hpr i its[i] (by simp[hlt])
  refine codeAny_builtin p9 ?_
  rw[LK lA _]
  show wpAny _ A.in1 (pyNext (.ref I) >>= _) _ _ s
  refine wpAny_bind (wpAny_pyNext_tuple_item hit (let ⟨o,e,r⟩:=ha;⟨o,kp _ _ e,r⟩) (x:=.ref p) (by rw[<- hv];simp[hlt]) λh' hit' hs'=>?_)
  have kp':∀b o,h0.get? b=some o->h'.get? b=some o:=λb o e=>(hs'.2 b (λz=>by rw[z,hI] at e;cases e)).trans (kp b o e)
  obtain⟨po,pe,pc,pn,pd⟩:=hp
  have pT:Shared.TypeIs { s with heap:=h' } (.ref p) "tuple" := ⟨po,kp' _ _ pe,pc⟩
  have hd':h'.DictOf (aG prog w) D (merged [] (kvs.take i)):=hd.extBut hs'.extBut hDI
  show wpAny _ A.in1 (holding [KL p] _ >>= _) _ _ _
  refine wpAny_bind (wpAny_holding ?_)
  refine wpAny_bind (wpAny_tryCatch ?_)
  unfold P2
  refine wpAny_bind (wpAny_typeOf pT ?_)
  refine wpAny_bind (wpAny_seqItems (kp' _ _ pe) pd (wpAny_pure ?_))
  show wpAny _ A.in1 (holding [u,r] (dictSet D u r)) _ _ _
  refine wpAny_holding (wpAny_dictSet_pairs (s:={ s with heap:=h' }) hky hd' (λh2 hd2 hs2=>?_) ?_)
  ·have kp2:∀b o,h0.get? b=some o->h2.get? b=some o:=λb o e=>(hs2.2 b (λz=>by rw[z,hD] at e;cases e)).trans (kp' b o e)
   refine wpAny_pure ⟨plainId_quiet lA _,?_⟩
   refine ih (i+1) _ _ { s with heap:=h2,toks:=s.toks+1 } (by omega) hlt (hit'.extBut hs2.extBut (KJ hDI)) kp2 ?_ (λh3 tk k3 d3=>hR h3 tk k3 d3)
   rw[merged_take_succ [] kvs i (ky,r) hkv]
   exact hd2
  ·have:=merged_length_le [] (kvs.take i)
   rw[KZ,Lu] at this
   rw[sizeLine_eq]
   omega
end
end L2
namespace L2
open PySem PySem.Spec PyProof.Rows
inductive cH (K:JH) (H:Hp):List V->List (Key×V)->Prop
 | nil:cH K H [] []
 | cons {p:Addr} {k:Key} {v:V} {ws:List V} {kvs:List (Key×V)} (h:SqT K H p [kV k,v]) (t:cH K H ws kvs):cH K H (.ref p::ws) ((k,v)::kvs)
section
variable{X:Cx}
theorem pairs_at{pins:List (Addr×Obj)}{σ:St}{H:Hp}{s:Shared}(I:Inv X pins σ H s):∀{ws:List V}{kvs:List (Key×V)}{its:List Value},cH X.K H ws kvs->Vals ws its ->
  ∃rs:List (Key×Value),KV kvs rs/\its.length=rs.length/\∀(i:Nat)(v:Value),its[i]?=some v->∃p k u r,v=KL p/\s.heap.IsTuple p #[u,r]/\rs[i]?=some (k,r)/\(aG X.prog X.w).is k u=true
 | _,_,_,.nil,.nil=>⟨[],.nil,rfl,λi v e=>by simp at e⟩
 | _,_,_,.cons (p:=p) (k:=k) (v:=v) h t,.cons r0 t0=>by
  obtain⟨rs,kv,hl,hpr⟩:=pairs_at I t t0
  obtain⟨its2,r2,p2,_⟩:=I.tuple h
  cases r2 with
  | cons ru r3 =>
   cases r3 with
   | cons rr r4 =>
    cases r4
    rename_i u r
    cases r0
    refine⟨(k,r)::rs,.cons ⟨rfl,rr⟩ kv,by simp[hl],λi v e=>?_⟩
    cases i with
    | zero=>cases e;exact⟨p,k,u,r,rfl,p2,rfl,ir ru⟩
    | succ i=>exact hpr i v e
noncomputable def lU(K:JH):List V->Hp->VK->Prop:=λvs H Q=>∃(a:Addr) (ws:List V) (kvs:List (Key×V)),vs=[.ref a]/\SqT K H a ws/\cH K H ws kvs/\ws.length<=1000/\∀r,H r=none->Q (.ref r) (upd H r (.dK (gi [] kvs)))
theorem oq(hc:X.calm=true):aY X (.type "dict") (lU X.K):=by
 intro pins s σ H vs us Q I rv h
 obtain⟨a,ws,kvs,rfl,hs,hp,hz,q⟩:=h
 obtain⟨u,rfl,ru⟩:=rv.one
 cases ru
 obtain⟨its,r1,pT,_⟩:=I.Cg hs
 obtain⟨rs,kv,hl,hpr⟩:=pairs_at I hp r1
 have hA:=I.ok.hd hc
 have hle:=r1.length
 refine callType_codes (Q₁:=λobj s₁=>obj=.ref s.heap.objs.size/\s₁={ s with heap:=s.heap.push { cls:=.type "dict",data:=.dict #[] } }) PySem.F.kt_called_dict (PySem.F.kt_typeCall_dict_1 _) PySem.F.entry_dict_init (kt_code_dict_new _ ⟨rfl,rfl⟩) ?_
 rintro obj s₁ ⟨rfl,rfl⟩
 have hnew:(s.heap.push { cls:=.type "dict",data:=.dict #[] }).DictOf (aG X.prog X.w) s.heap.objs.size []:=NQ s.heap
 refine⟨hnew.typeIs,PySem.F.args_dict_init_2 _ _,?_⟩
 have pN:cG (s.heap.push { cls:=.type "dict",data:=.dict #[] }) a its.toArray:=by
  obtain⟨o,e,r⟩:=pT
  exact⟨o,JM _ e,r⟩
 unfold Builtin.«dict.__init__»
 refine wpAny_bind ?_
 unfold P4
 refine wpAny_bind (wpAny_notOrdered_dict hnew.typeIs ?_)
 show wpAny _ _ (pure (s.heap.objs.size,[KL a])) _ _ _
 refine wpAny_pure ?_
 show wpAny _ _ (M4 "dict.__init__" s.heap.objs.size (.ref a) [] .none) _ _ _
 unfold M4
 refine wpAny_bind (wpAny_typeOf pN.t.typeIs ?_)
 rw[if_pos (by decide)]
 refine wpAny_bind (y9 pN (by simp[hA]) λh' tk kp=>?_)
 rw[if_pos (show (none:Option Value).isNone=true from rfl)]
 refine wpAny_bind (wpAny_rule ?_)
 have ht:h'.IsTuple a its.toArray:=by
  obtain⟨o,e,c,n,d,_⟩:=pN
  exact⟨o,kp _ _ e,c,n,d⟩
 refine wpAny_bind (wpAny_pyIter_tuple ht ?_)
 refine wpAny_pure ⟨plainId_quiet lA _,?_⟩
 have hsz:s.heap.objs.size<h'.objs.size:=by
  obtain⟨o,_,_,e,_⟩:=hnew
  exact J2 (kp _ _ e)
 refine sW (A:=X.A.in1) (h0:=s.heap) (a:=a) (its:=its.toArray) (kvs:=rs) (by simp[hA]) pT.t (λi v e=>hpr i v (by simpa using e)) (by simp[hl]) (LM (J1 _)) (LM (KU hsz)) (Kf hsz) (by simp;omega)
  (its.toArray.size-0) 0 0 0 _ rfl (K7 _) ⟨_,Kb _ rfl,rfl,rfl⟩ (λb o e=>JM _ (kp _ _ (JM _ e))) ?_ (λh2 tk2 k2 d2=>⟨rfl,?_⟩)
 ·obtain⟨o,es,ep,e,r⟩:=hnew
  exact⟨o,es,ep,JM _ (kp _ _ e),r⟩
 ·have hz2:(gi [] kvs).length<=sizeLine:=by
   have h1:=fR kvs []
   have h2:=kv.length
   rw[KZ] at h1
   rw[sizeLine_eq]
   omega
  exact⟨.ref s.heap.objs.size,_,I.laid (a:=s.heap.objs.size) (o:=.dK (gi [] kvs)) k2 (J1 _) (jb hz2 (beq_eq_false_iff_ne.mpr (KJ (Kf I.big))) (kv.merge .nil) d2),rfl,q _ I.fresh⟩
end
end L2
namespace M
open PySem L2
noncomputable def dy:List A->Option (List (Key×A))
 | []=>some []
 | .tup [k,v]::r=>match fK k,dy r with
  | some y,some t=>some ((y,v)::t)
  | _,_=>none
 | _=>none
noncomputable def uG(kvs more:List (Key×A)):List (Key×A):=more.foldl (λacc kv=>sZ acc kv.1 kv.2) kvs
theorem RKs.merge{k:Kx}{G:Hp}:∀{vs ws:List (Key×V)}{as bs:List (Key×A)},RKs k G vs as->RKs k G ws bs->RKs k G (gi ws vs) (uG bs as)
 | _,_,_,_,.nil,r=>r
 | _,_,_,_,.cons (y:=y) h t,r=>by have:=RKs.merge t (r.put y h);exact this
theorem kf{k:Kx}{G:Hp}:∀{as:List A}{vs:List V}{kvs:List (Key×A)},RAs k G vs as->dy as=some kvs->∃ws,cH k.K G vs ws/\RKs k G ws kvs
 | [],_,_,.nil,h=>by cases h;exact⟨[],.nil,.nil⟩
 | a::as,_,_,.cons h0 t0,h=>by
  cases a<;>first|(simp[dy] at h;done)|skip
  rename_i xs
  match xs,h0,h with
  | [],_,h=>simp[dy] at h
  | [_],_,h=>simp[dy] at h
  | _::_::_::_,_,h=>simp[dy] at h
  | [x,y],h0,h =>
   unfold dy at h
   cases e1:fK x with
   | none=>simp only[e1] at h;cases h
   | some ky =>
    cases e2:dy as with
    | none=>simp only[e1,e2] at h;cases h
    | some t =>
     simp only[e1,e2] at h
     cases h
     obtain⟨ws,p1,p2⟩:=kf t0 e2
     cases h0 with
     | tup e r =>
      cases r with
      | cons g1 r =>
       cases r with
       | cons g2 r =>
        cases r
        rw[gU g1 e1] at e
        exact⟨_::ws,.cons e p1,.cons g2 p2⟩
theorem cH.sm{K:JH}{G G':Hp}(s:Sq G G'):∀{vs:List V}{ws:List (Key×V)},cH K G vs ws->cH K G' vs ws
 | _,_,.nil=>.nil
 | _,_,.cons h t=>.cons (bU s h) (cH.sm s t)
noncomputable def lH:A->Option Rr
 | .tup as=>if as.length<=1000 then match dy as with
  | some kvs=>some (.nw (.dic (uG [] kvs)))
  | none=>none else none
 | _=>none
theorem tD{K:Kx}:UnS K (λv=>lU K.K [v]) lH:=by
 intro c σ H ρ τ θ x v a q Q ek hv bd e1 e3 k
 subst ek
 obtain⟨L,bl,i1⟩:=Bd.open bd hv e1
 cases a<;>first|(cases e3;done)|skip
 rename_i as
 unfold lH at e3
 simp only at e3
 split at e3
 ·rename_i hz
  cases es:dy as with
  | none=>simp only[es] at e3;cases e3
  | some kvs =>
   simp only[es] at e3
   cases e3
   obtain⟨p,vs,rfl,s1,rr⟩:=i1.2.1 as rfl
   obtain⟨ws,p1,p2⟩:=kf rr es
   exact⟨p,vs,ws,rfl,bU (g_same _ _ _) s1,cH.sm (g_same _ _ _) p1,by rw[rr.len];exact hz,λr hr=>k _ _ trivial (bl.eJ hr λG H' sm q=>.dic q ((p2.sm sm).merge .nil))⟩
 ·cases e3
section
variable{X:Cx}
theorem oi(hc:X.calm=true):aY X (.type "dict") (λxs H Q=>lB xs H Q\/lU X.K xs H Q):=aY.or' ou (oq hc)
theorem uf{K:Kx}:UnS K (λv H Q=>lB [v] H Q\/lU K.K [v] H Q) (gOr oP lH):=tN.or tD
end
end M
set_option maxHeartbeats 1000000
namespace M
open PySem L2
section
variable{X:Cx}{E:XK}
noncomputable def AX(cs:List Str)(i:Nat)(f:Str)(m:Mi Rr):Ms:=a8 m λr ρ=>match aQ r ρ with
 | some (a,ρ1)=>match aH ρ1 i with
  | some (.obj c fs)=>if cs.contains c&&Md fs.length 900 then some (.nx,setAt ρ1 i (.obj c (xr f a fs))) else none
  | _=>none
 | none=>none
end
end M
namespace M
open PySem L2
noncomputable def eN(i j:Str):Bool:=!(Kn j i 0 j.length 1).isEmpty
noncomputable def i6(neg:Bool):A->A->Option Rr
 | .str i,.str j=>some (.fr (.bl (if neg then !(eN i j) else eN i j)))
 | _,_=>none
noncomputable def eO:List A->Option (List Bool)
 | []=>some []
 | .bl b::r=>match eO r with
  | some bs=>some (b::bs)
  | none=>none
 | _=>none
theorem kq:∀{xs:List A}{bs:List Bool},eO xs=some bs->xs=bs.map A.bl
 | [],bs,h=>by cases h;rfl
 | a::r,bs,h=>by
  cases a<;>first|(cases h;done)|skip
  unfold eO at h
  cases e:eO r with
  | none=>simp only[e] at h;cases h
  | some cs=>simp only[e] at h;cases h;rw[kq e];rfl
noncomputable def mz(g:List Bool->Bool):A->Option Rr
 | .lst xs=>match eO xs with
  | some bs=>some (.fr (.bl (g bs)))
  | none=>none
 | _=>none
theorem mL{K:Kx}{G:Hp}:∀{bs:List Bool}{vs:List V},RAs K G vs (bs.map A.bl)->vs=bs.map V.bl
 | [],vs,h=>by cases h;rfl
 | b::bs,vs,h=>by
  cases h with
  | cons h1 h2=>cases h1;rw[mL h2];rfl
theorem DQ{K:Kx}{g:List Bool->Bool}:UnS K (λv=>Hm K.K g [v]) (mz g):=.scalar λH v a q r1 h=>by
 cases a<;>first|(cases h;done)|skip
 rename_i xs
 unfold mz at h
 simp only at h
 cases e:eO xs with
 | none=>simp only[e] at h;cases h
 | some bs =>
  simp only[e] at h
  cases h
  have:=kq e
  subst this
  cases r1 with
  | lst e0 r0=>exact⟨_,_,rfl,λ_=>.bl _,λQ k=>⟨_,_,bs,rfl,e0,mL r0,k⟩⟩
section
variable{X:Cx}{E:XK}{a b:Expr}{ma mb:Mi Rr}{pos:Pos}
theorem vh{K:Kx}:OpS K (λx y H Q=>∃i j,x=.str i/\y=.str j/\Q (.bl (!(Kn j i 0 j.length 1).isEmpty)) H) (i6 false):=.scalar λH v w a b q r1 r2 h=>by
 cases a<;>first|(cases h;done)|skip
 cases b<;>first|(cases h;done)|skip
 cases r1;cases r2;cases h
 exact⟨_,_,rfl,λ_=>.bl _,λQ k=>⟨_,_,rfl,rfl,k⟩⟩
theorem qm{K:Kx}:OpS K (λx y H Q=>∃i j,x=.str i/\y=.str j/\Q (.bl (!(!(Kn j i 0 j.length 1).isEmpty))) H) (i6 true):=.scalar λH v w a b q r1 r2 h=>by
 cases a<;>first|(cases h;done)|skip
 cases b<;>first|(cases h;done)|skip
 cases r1;cases r2;cases h
 exact⟨_,_,rfl,λ_=>.bl _,λQ k=>⟨_,_,rfl,rfl,k⟩⟩
theorem D5(hu:X.A.units+1<cLine)(ha:JE X E a ma)(hb:JE X E b mb)(hm:behindInMarks .In b=false):JE X E (.Compare a [.In] [b] pos) (mOp (fOr (fOr (gD false) (dk false)) (i6 false)) ma mb):=dF (HK hu ha hb hm) (bH jR vh ha hb hm)
theorem Bv(hu:X.A.units+1<cLine)(ha:JE X E a ma)(hb:JE X E b mb)(hm:behindInMarks .In b=false):JT X E (.Compare a [.In] [b] pos) (ai (mOp (fOr (fOr (gD false) (dk false)) (i6 false)) ma mb)):=fw (G6 hu ha hb hm) (bG jR vh ha hb hm)
theorem yo(hu:X.A.units+1<cLine)(ha:JE X E a ma)(hb:JE X E b mb)(hm:behindInMarks .NotIn b=false):JE X E (.Compare a [.NotIn] [b] pos) (mOp (fOr (fOr (gD true) (dk true)) (i6 true)) ma mb):=dF (B9 hu ha hb hm) (bH gB qm ha hb hm)
theorem zC(hu:X.A.units+1<cLine)(ha:JE X E a ma)(hb:JE X E b mb)(hm:behindInMarks .NotIn b=false):JT X E (.Compare a [.NotIn] [b] pos) (ai (mOp (fOr (fOr (gD true) (dk true)) (i6 true)) ma mb)):=fw (BE hu ha hb hm) (bG gB qm ha hb hm)
theorem vK:bootBuiltins "all" = some (.builtin "all"):=by decide +kernel
end
end M
namespace M
open PySem L2
mutual
noncomputable def lf:A->Bool
 | .tup xs=>lfs xs
 | .lst _=>false
 | .dic _=>false
 | .obj _ fs=>lff fs
 | _=>true
noncomputable def lfs:List A->Bool
 | []=>true
 | a::r=>lf a&&lfs r
noncomputable def lff:List (Str×A)->Bool
 | []=>true
 | (_,a)::r=>lf a&&lff r
end
noncomputable def lfk:List (Key×A)->Bool
 | []=>true
 | (_,a)::r=>lf a&&lfk r
noncomputable def lfO:LO->Bool
 | .lst xs=>lfs xs
 | .dic kvs=>lfk kvs
 | .obj _ fs=>lff fs
noncomputable def lfS:Sl->Bool
 | .fr a=>lf a
 | .lv o=>lfO o
 | .pv o=>lfO o
 | .un=>true
def Lq(G G':Hp):Prop:=∀a u,G a=some u->(∀ws,u≠.lst ws)->G' a=some u
section
variable{k:Kx}{G G' H:Hp}(s:Lq G G')
theorem CD{p:Addr}{vs:List V}(s:Lq G G')(q:SqT k.K G p vs):SqT k.K G' p vs:=q.imp (λr=>by
 rcases r with r|⟨o,r⟩
 ·exact .inl (s _ _ r λws z=>by cases z)
 ·exact .inr ⟨o,s _ _ r λws z=>by cases z⟩) id
mutual
theorem RA.lf(s:Lq G G'):∀{v:V}{a:A},RA k G v a->M.lf a=true->RA k G' v a
 | _,_,.non,_=>.non
 | _,_,.bl b,_=>.bl b
 | _,_,.int i,_=>.int i
 | _,_,.str x,_=>.str x
 | _,_,.tup e r,h=>.tup (CD s e) (RAs.lf s r (by rw[M.lf] at h;exact h))
 | _,_,.lst e r,h=>by rw[M.lf] at h;cases h
 | _,_,.dic e r,h=>by rw[M.lf] at h;cases h
 | _,_,.exc e m,h=>.exc (s _ _ e λws z=>by cases z) m
 | _,_,.obj e m r,h=>.obj (s _ _ e λws z=>by cases z) m (RFs.lf s r (by rw[M.lf] at h;exact h))
theorem RFs.lf(s:Lq G G'):∀{vs:List (Str×V)}{as:List (Str×A)},RFs k G vs as->lff as=true->RFs k G' vs as
 | _,_,.nil,_=>.nil
 | _,_,.cons h r,e=>by
  rw[lff,JK] at e
  exact .cons (RA.lf s h e.1) (RFs.lf s r e.2)
theorem RAs.lf(s:Lq G G'):∀{vs:List V}{as:List A},RAs k G vs as->lfs as=true->RAs k G' vs as
 | _,_,.nil,_=>.nil
 | _,_,.cons h r,e=>by
  rw[lfs,JK] at e
  exact .cons (RA.lf s h e.1) (RAs.lf s r e.2)
end
theorem RKs.lf(s:Lq G G'):∀{vs:List (Key×V)}{as:List (Key×A)},RKs k G vs as->lfk as=true->RKs k G' vs as
 | _,_,.nil,_=>.nil
 | _,_,.cons h r,e=>by
  rw[lfk,JK] at e
  exact .cons (RA.lf s h e.1) (RKs.lf s r e.2)
theorem LR.lf{p:Addr}{o:LO}(s:Lq G G')(h:LR k G H p o)(e:lfO o=true):LR k G' H p o:=by
 cases h with
 | lst x r=>exact .lst x (r.lf s e)
 | dic x r=>exact .dic x (r.lf s e)
 | obj x m r=>exact .obj x m (r.lf s e)
theorem SlR.lf{x:Option V}{t:Sl}{L:List Addr}(s:Lq G G')(h:SlR k G H x t L)(e:lfS t=true):SlR k G' H x t L:=by
 cases h with
 | un=>exact .un _
 | fr h=>exact .fr (h.lf s e)
 | lv h=>exact .lv (h.lf s e)
 | pv h=>exact .pv (h.lf s e)
theorem ao.pick:∀{σ:St}{ρ:List Sl}{L:List Addr}{j:Nat}{t:Sl},ao k G H σ ρ L->ρ[j]?=some t->∃x L1 Lj L2,σ[j]?=some x/\L=L1++(Lj++L2)/\SlR k G H x t Lj /\
  ∀{G':Hp}{t':Sl}{L':List Addr},(∀{x:Option V}{t:Sl}{L:List Addr},t∈ρ->SlR k G H x t L->SlR k G' H x t L)->SlR k G' H x t' L'->ao k G' H σ (ρ.set j t') (L1++(L'++L2))
 | _,_,_,j,t,.nil,e=>by simp at e
 | x::σ,u::ρ,_,0,t,.cons (L:=La) (L':=Lb) h r,e=>by
  cases e
  refine⟨x,[],La,Lb,rfl,rfl,h,λ{G2 t2 L0} f h'=>?_⟩
  rw[Ku]
  have:∀{σ:St}{ρ':List Sl}{L:List Addr},(∀t∈ρ',t∈u::ρ)->ao k G H σ ρ' L->ao k G2 H σ ρ' L:=by
   intro σ ρ' L hm r
   induction r with
   | nil=>exact .nil
   | cons h r ih=>exact .cons (f (hm _ JN) h) (ih λt ht=>hm t (JQ _ ht))
  exact .cons h' (this (λt ht=>JQ _ ht) r)
 | x::σ,u::ρ,_,j+1,t,.cons (L:=La) (L':=Lb) h r,e=>by
  obtain⟨y,L1,Lj,L2,h1,h2,h3,h4⟩:=ao.pick r (j:=j) (by simpa using e)
  refine⟨y,La++L1,Lj,L2,by simpa using h1,by rw[h2,JY],h3,λf h'=>?_⟩
  have:=h4 (λm=>f (JQ _ m)) h'
  rw[JY]
  exact .cons (f JN h) this
end
noncomputable def Dn:Option Sl->Bool
 | some .un=>true
 | _=>false
theorem qX{o:Option Sl}(h:Dn o=true):o=some .un:=by
 cases o with
 | none=>cases h
 | some s=>cases s<;>first|rfl|cases h
noncomputable def wH(j:Nat)(m:Ms):Ms:=λρ=>match ρ[j]? with
 | some (.pv (.lst xs))=>match m (ρ.set j (.fr (.lst xs))) with
  | some (.rt s,ρc)=>if Dn (ar ρ.length ρc)[j]?&&(s::ar ρ.length ρc).all lfS then some (.rt s,(ar ρ.length ρc).set j (.pv (.lst xs))) else none
  | some (.ex x,ρc)=>if Dn (ar ρ.length ρc)[j]?&&(ar ρ.length ρc).all lfS then some (.ex x,(ar ρ.length ρc).set j (.pv (.lst xs))) else none
  | _=>none
 | _=>m ρ
theorem eG:∀{n j:Nat}{ρ:List Sl}{o:LO},ar n ((ar n ρ).set j (.pv o))=(ar n ρ).set j (.pv o)
 | 0,_,_,_=>rfl
 | n+1,0,ρ,o=>by
  have:∀ρ:List Sl,ar n (ar n ρ)=ar n ρ:=λρ=>backL_idem n ρ
  cases ρ with
  | nil=>show ar (n+1) (.pv o::ar n [])=.pv o::ar n [];rw[ar,this]
  | cons s ρ=>cases s<;>(show ar (n+1) (.pv o::ar n ρ)=.pv o::ar n ρ;rw[ar,this])
 | n+1,j+1,ρ,o=>by
  cases ρ with
  | nil=>show ar (n+1) (.un::(ar n []).set j (.pv o))=.un::(ar n []).set j (.pv o);rw[ar,eG];intro o z;cases z
  | cons s ρ=>cases s<;>first
   | (show ar (n+1) (.un::(ar n ρ).set j (.pv o))=.un::(ar n ρ).set j (.pv o);rw[ar,eG];intro o z;cases z)
   | (show ar (n+1) (.pv _::(ar n ρ).set j (.pv o))=.pv _::(ar n ρ).set j (.pv o);rw[ar,eG])
where backL_idem:∀(n:Nat)(ρ:List Sl),ar n (ar n ρ)=ar n ρ
 | 0,_=>rfl
 | n+1,[]=>by show ar (n+1) (.un::ar n [])=.un::ar n [];rw[ar,backL_idem];intro o z;cases z
 | n+1,s::ρ=>by cases s<;>first
   | (show ar (n+1) (.un::ar n ρ)=.un::ar n ρ;rw[ar,backL_idem];intro o z;cases z)
   | (show ar (n+1) (.pv _::ar n ρ)=.pv _::ar n ρ;rw[ar,backL_idem])
theorem SpM.lend{K:Kx}{n j:Nat}{m:Ms}{vs:List V}{H:Hp}{Q:VK}{E:XK}(h:SpM K n (wH j m) vs H Q E):SpM K n m vs H Q E:=by
 obtain⟨hn,c,ρ,f,ρ',ek,es,eh,b,em,q⟩:=h
 unfold wH at em
 split at em
 ·rename_i xs ej
  have rel:ao c.toKx (c.g H c.Lp) H (vs.map some) ρ c.Lp:=b.rel
  obtain⟨x,L1,Lj,L2,x1,x2,x3,x4⟩:=rel.pick ej
  cases x3 with
  | pv lr =>
   rename_i p
   cases lr with
   | lst ep rr =>
    rename_i ws
    have nd:=b.nd
    rw[x2] at nd
    have nd2:(L1++L2).Nodup:=nd.sublist (KS (K0 _) (L6 _ _))
    have np:p∉L1++L2:=λy=>by
     have pm:(L1++([p]++L2)).Perm (p::(L1++L2)):=OX
     exact(Kt.mp ((pm.nodup_iff).mp nd)).1 y
    have sub:∀a,a∈L1++L2->a∈c.Lp:=λa ha=>by
     rw[x2]
     rcases J5.mp ha with z|z
     ·exact Ka _ z
     ·exact JL _ (JL _ z)
    have pin:p∈c.Lp:=by rw[x2];exact JL _ (Ka _ JN)
    have hin:∀a,a∈c.Lp->a=p\/a∈L1++L2:=λa ha=>by
     rw[x2] at ha
     rcases J5.mp ha with z|z
     ·exact .inr (Ka _ z)
     ·rcases J5.mp z with z|z
      ·exact .inl (J9.mp z)
      ·exact .inr (JL _ z)
    have nhd:p∉c.Hd:=b.nhd pin
    let c2:Cn:={ c with Lp:=L1++L2 }
    have lenρ:ρ.length=vs.length:=by have:=rel.len;simpa using this.symm
    have b2:BdL c2 (vs.map some) H (ρ.set j (.fr (.lst xs))) [] [] c2.Lp:=by
     refine⟨nd2,?_,λa ha=>.inl ha,⟨λa o e=>⟨o,by rw[<- eh];exact e,λ_ _=>rfl⟩,λw hw=>b.fr.pk w hw⟩,λi o _=>by rw[es],rfl,λa ha=>⟨(b.hd a ha).1,λy=>(b.hd a ha).2 (sub a y)⟩⟩
     have sm:Sq (c.g H c.Lp) (c.g H (L1++L2)):=bM sub
     have:ao c.toKx (c.g H (L1++L2)) H (vs.map some) (ρ.set j (.fr (.lst xs))) (L1++([]++L2)):=x4 (λ_ h=>h.sm sm (λ_ _ _ e=>e)) (.fr (.lst (.inl (.inl (by rw[aU np nhd];exact ep))) (rr.sm sm)))
     exact this
    have key:∀(H':Hp)(β:List Sl)(τ:St)(θ:List Sl),τ.length=θ.length->β[j]?=some .un->(θ++β).all lfS=true->Bd c2 (vs.map some) H' β τ θ->Bd c (vs.map some) H' (β.set j (.pv (.lst xs))) τ θ:=by
     intro H' β τ θ lt ej' lfh b'
     obtain⟨L',b'⟩:=b'
     have hH:H p=some (.lst ws):=ep
     have nWk:∀w,(p,w)∉c.Wk:=λw hw=>by
      obtain⟨h1,⟨ob,us,h2⟩,_⟩:=b.fr.pk _ hw
      simp only at h1 h2
      rw[hH,h2] at h1;cases h1
     have hp':H' p=some (.lst ws):=by
      obtain⟨u,h1,h2⟩:=b'.fr.st p (.lst ws) (by show c.H0 p=_;rw[eh];exact hH)
      rw[h1,h2 np nWk]
     have npL:p∉L':=λy=>by
      rcases b'.own p y with z|z
      ·exact np z
      ·have z:c.H0 p=none:=z
       rw[eh,hH] at z;cases z
     have jj:(θ++β)[θ.length+j]?=some .un:=by rw[KA (Nc _ _),Mo];exact ej'
     obtain⟨y,M1,Mj,M2,y1,y2,y3,y4⟩:=ao.pick b'.rel jj
     cases y3 with
     | un =>
      have yx:y=some (.ref p):=by
       rw[<- lt,KA (Nc _ _),Mo,x1] at y1
       exact(JV y1).symm
      subst yx
      have eL:L'=M1++M2:=y2
      have hN:∀a,a∈M1++([p]++M2)↔a=p\/a∈L':=λa=>by
       rw[eL]
       simp only[J5,J9]
       constructor
       ·rintro(h|h|h)
        ·exact .inr (.inl h)
        ·exact .inl h
        ·exact .inr (.inr h)
       ·rintro(h|h|h)
        ·exact .inr (.inl h)
        ·exact .inl h
        ·exact .inr (.inr h)
      have lq:Lq (c.g H' L') (c.g H' (M1++([p]++M2))):=λa u e nl=>by
       by_cases z:a∈L'\/a∈c.Hd
       ·rw[gC z] at e;cases e
       ·rw[aU (λy=>z (.inl y)) (λy=>z (.inr y))] at e
        rw[aU (λy=>?_) (λy=>z (.inr y))]
        ·exact e
        ·rcases(hN a).mp y with w|w
         ·subst w;rw[hp'] at e;exact nl ws (JV e).symm
         ·exact z (.inl w)
      have sq:Sq (c.g H c.Lp) (c.g H' (M1++([p]++M2))):=λa u e=>by
       by_cases z:a∈c.Lp\/a∈c.Hd
       ·rw[gC z] at e;cases e
       ·rw[aU (λy=>z (.inl y)) (λy=>z (.inr y))] at e
        obtain⟨u',h1,h2⟩:=b'.fr.st a u (by show c.H0 a=_;rw[eh];exact e)
        have hu:u'=u:=by
         by_cases hw:∃w,(a,w)∈c.Wk
         ·obtain⟨w,hw⟩:=hw
          have p1:=(b.fr.pk _ hw).1
          have p2:=(b'.fr.pk _ hw).1
          simp only at p1 p2
          rw[e] at p1;rw[h1] at p2
          rw[JV p2,JV p1]
         ·exact h2 (λy=>z (.inl (sub a y))) λw y=>hw ⟨w,y⟩
        subst hu
        refine⟨u',?_,.inl rfl⟩
        rw[aU (λy=>?_) (λy=>z (.inr y))]
        ·exact h1
        ·rcases(hN a).mp y with w|w
         ·subst w;exact z (.inl pin)
         ·rcases b'.own a w with v|v
          ·exact z (.inl (sub a v))
          ·have v:c.H0 a=none:=v
           rw[eh,e] at v;cases v
      have tot:ao c.toKx (c.g H' (M1++([p]++M2))) H' (τ++vs.map some) ((θ++β).set (θ.length+j) (.pv (.lst xs))) (M1++([p]++M2)) :=
       y4 (λm h=>h.lf lq (Kw.mp lfh _ m)) (.pv (.lst hp' (rr.sm sq)))
      rw[Oa _ _ (Nc _ _),Mo] at tot
      refine⟨M1++([p]++M2),?_,tot,λa ha=>?_,⟨λa o e=>?_,λw hw=>b'.fr.pk w hw⟩,λi o _=>by rw[es],lt,b.hd⟩
      ·have pm:(M1++([p]++M2)).Perm (p::(M1++M2)):=OX
       refine(pm.nodup_iff).mpr (Kt.mpr ⟨by rw[<- eL];exact npL,by rw[<- eL];exact b'.nd⟩)
      ·rcases(hN a).mp ha with w|w
       ·subst w;exact .inl pin
       ·rcases b'.own a w with v|v
        ·exact .inl (sub a v)
        ·exact .inr v
      ·obtain⟨u,h1,h2⟩:=b'.fr.st a o e
       exact⟨u,h1,λna nw=>h2 (λy=>na (sub a y)) nw⟩
    cases e4:m (ρ.set j (.fr (.lst xs))) with
    | none=>simp only[e4] at em;cases em
    | some pr =>
     obtain⟨g,ρc⟩:=pr
     simp only[e4] at em
     refine⟨hn,c2,_,g,ρc,ek,es,eh,b2,e4,?_⟩
     cases g with
     | nx=>cases em
     | bk=>cases em
     | ct=>cases em
     | rt s =>
      simp only at em
      split at em
      ·rename_i hc
       cases em
       intro v H' hs b'
       rw[JK] at hc
       rw[lenρ] at hc q
       simp only[eG] at q
       exact q v H' hs (key H' _ _ _ rfl (qX hc.1) hc.2 b')
      ·cases em
     | ex x =>
      simp only at em
      split at em
      ·rename_i hc
       cases em
       intro C H' hm b'
       rw[JK] at hc
       rw[lenρ] at hc q
       simp only[eG] at q
       exact q C H' hm (key H' _ _ _ rfl (qX hc.1) hc.2 b')
      ·cases em
 ·exact⟨hn,c,ρ,f,ρ',ek,es,eh,b,em,q⟩
end M
namespace M
open PySem L2
noncomputable def tAs(cvs:List V):TA:=λ_ H Q=>Q cvs H
noncomputable def eQ:List (List (Str×Bool))->Str->Option Bool
 | [],_=>some false
 | l::r,c=>match l.lookup c with
  | some true=>some true
  | some false=>eQ r c
  | none=>none
theorem Aa{K:Kx}{cvs:List V}{tab:Str->Option Bool}(hc:cvs.all ck=true)(hl:cvs.length<=sizeLine)(ht:∀c C k,tab c=some k->K.mg c=some (.ref C)->dJ K.K C/\K8 K.K (.ref C) (cvs.map eD)=some k) :
  UnS K (λv H Q=>cvs.length<=sizeLine/\∀p,H p=none->∃x a cs t b,[v,.ref p]=[x,.ref a]/\(upd H p (.tup cvs)) a=some (.tup cs)/\cs.all ck=true/\TyX K.K (upd H p (.tup cvs)) x t/\K8 K.K t (cs.map eD)=some b/\Q (.bl b) (upd H p (.tup cvs))) (dC tab):=by
 intro c σ H ρ τ θ x v a q Q ek hv bd e1 e3 k
 refine⟨hl,λp hp=>?_⟩
 have bd2:Bd c σ (upd H p (.tup cvs)) ρ (bj x v τ) (bh x θ):=bd.new hp
 have r1:=Bd.rd bd2 hv e1
 rw[ek] at r1
 cases a<;>first|(cases e3;done)|skip
 rename_i cn
 unfold dC at e3
 simp only at e3
 cases e:tab cn with
 | none=>simp only[e] at e3;cases e3
 | some b =>
  simp only[e] at e3
  cases e3
  cases r1 with
  | exc e4 m1 =>
   obtain⟨x1,x2⟩:=ht cn _ b e m1
   exact⟨_,p,cvs,_,b,rfl,aI,hc,.exc e4 x1,x2,k (.bl b) _ trivial (Bd.push bd2.drop λ_=>.bl b)⟩
section
variable{X:Cx}{E:XK}
theorem xF{x:Str}{p pos tp:Pos}{tk:Nat}{e:Expr}{es:List Expr}{m:Mi Rr}{cvs:List V}{tab:Str->Option Bool}(hg:Gl X x)(hm:X.mg x=none)(hv:bootBuiltins x=some (.builtin "isinstance"))(h2:PA X es (tAs cvs))(hc:cvs.all ck=true)(hl:cvs.length<=sizeLine)(ht:∀c C k,tab c=some k->X.mg c=some (.ref C)->dJ X.K C/\K8 X.K (.ref C) (cvs.map eD)=some k)
  (ha:JE X E e m)(hn:x ≠ "__name__")(hdb:NDb x)(hs:starEach [e,.Tuple es tk tp] X.env=(false,eval e X.env)::starEach [.Tuple es tk tp] X.env) :
  JE X E (.Call (.Name x p) [e,.Tuple es tk tp] [] pos) (mB1 (dC tab) m) :=
 ⟨PE.weaken (eZ si hg hm hv (a6 ha.p (a6 (wg h2) cg rfl) hs) hn hdb hs rfl) λσ H Q h=>fB (r:=λv H Q=>cvs.length<=sizeLine/\∀p,H p=none->∃x a cs t b,[v,.ref p]=[x,.ref a]/\(upd H p (.tup cvs)) a=some (.tup cs)/\cs.all ck=true/\TyX (kx X).K (upd H p (.tup cvs)) x t/\K8 (kx X).K t (cs.map eD)=some b/\Q (.bl b) (upd H p (.tup cvs))) (Aa (K:=kx X) hc hl ht) σ H Q h⟩
end
end M
namespace L2
open PySem
theorem Hi{X:Cx}{t:Expr}{a b:List Stmt}{pos:Pos}{tt:TT}{ta tb:TX}(ht:PT X.nox t tt)(ha:PXs X a ta)(hb:PXs X b tb):PX X (.If t a b pos) (λD E σ H=>tt σ H λk H1=>if k=true then ta D E σ H1 else tb D E σ H1):=by
 intro pins s σ H D E I h
 refine wpAny_If (wpAny_mono (ht pins s σ H _ (I.hV _) h) (λd s1 z=>?_) λ_ _ z=>z.elim)
 obtain⟨H1,I1,q1⟩:=TP.dP z
 cases d with
 | true=>exact ha pins s1 σ H1 D E I1 (by simpa using q1)
 | false=>exact hb pins s1 σ H1 D E I1 (by simpa using q1)
end L2
namespace M
open PySem L2
section
variable{X:Cx}{E:XK}
structure JXs (X:Cx) (st:List Stmt) (m:Ms):Prop where
 p:PXs X st (TXm (kx X) m)
theorem qq{st:Stmt}{m:Ms}(h:JX X st m):JXs X [st] m:=⟨qS h.p⟩
theorem Gy{t:Expr}{a b:List Stmt}{pos:Pos}{mt:Mi Bool}{ma mb:Ms}(ht:JT X.nox E00 t mt)(ha:JXs X a ma)(hb:JXs X b mb):JX X (.If t a b pos) (sIf (cB mt) ma mb) :=
 ⟨PX.weaken (Hi ht.p ha.p hb.p) λD Ex σ H h=>by
  obtain⟨c,ρ,τ,θ,f,ρ',ek,b,em,q⟩:=h
  rcases aZ em with ⟨k,ρ1,e1,e2⟩|⟨e,e1,e2⟩
  ·obtain⟨x,h1,h2⟩:=dA e1
   cases h1
   refine⟨c,ρ,τ,θ.map Sl.fr,.ok k,ρ1,ek,b,h2,λH1 b1=>?_⟩
   cases k with
   | true=>rw[if_pos rfl];exact⟨c,ρ1,τ,θ,f,ρ',ek,b1,e2,q⟩
   | false=>rw[if_neg (by decide)];exact⟨c,ρ1,τ,θ,f,ρ',ek,b1,e2,q⟩
  ·obtain⟨x,h1,_⟩:=dA e1
   cases h1⟩
end
end M
set_option maxHeartbeats 4000000
set_option maxHeartbeats 1000000
namespace M
open PySem L2
noncomputable def pvB:Option Sl->Bool
 | some (.pv _)=>true
 | _=>false
noncomputable def E5(i:Nat)(ρ0 ρ:List Sl):Bool:=(KH ρ.length).all λj=>j==i || !(pvB ρ[j]?) || pvB ρ0[j]?
noncomputable def IC(i:Nat)(ρ:List Sl):Option (List Sl):=match ρ[i]? with
 | some (.lv (.lst xs))=>some (ρ.set i (.pv (.lst xs)))
 | _=>none
noncomputable def B5(i:Nat)(ρ0 ρ:List Sl):Option (List Sl):=match ρ[i]? with
 | some (.pv o)=>if E5 i ρ0 ρ then some (ρ.set i (.lv o)) else none
 | _=>none
noncomputable def DD(i:Nat)(bs:List A)(G:Mg)(b:Ms):Nat->Nat->Ms
 | 0,_,_=>none
 | n+1,j,ρ=>match ρ[i]? with
  | some (.pv (.lst xs))=>match xs[j]?,bs[j]? with
   | some a,some d=>match G (.tup [a,d]) ρ with
    | none=>none
    | some ρ1=>match b ρ1 with
     | some (.nx,ρ2)=>DD i bs G b n (j+1) ρ2
     | some (.ct,ρ2)=>DD i bs G b n (j+1) ρ2
     | some (.bk,ρ2)=>some (.nx,ρ2)
     | r=>r
   | _,_=>some (.nx,ρ)
  | _=>none
noncomputable def ID(i:Nat)(bs:List A)(G:Mg)(b:Ms)(ρ2:List Sl):Option (Fl×List Sl):=match IC i ρ2 with
 | some ρp=>match DD i bs G b 100001 0 ρp with
  | some (f,ρ')=>match B5 i ρ2 ρ' with
   | some ρ3=>some (f,ρ3)
   | none=>none
  | none=>none
 | none=>none
noncomputable def GB(i:Nat)(G:Mg)(b:Ms)(r:Rr)(ρ1:List Sl):Option (Fl×List Sl):=match aQ r ρ1 with
 | some (.lst bs,ρ2)=>ID i bs G b ρ2
 | _=>none
end M
set_option maxHeartbeats 4000000
set_option maxHeartbeats 1000000
set_option maxHeartbeats 4000000
set_option maxHeartbeats 1000000
namespace L2
open PySem PySem.Spec PyProof.Rows PySem.W PySem.SeqAt PySem.MeetsSeq PySem.MeetsSeq2 PySem.MeetsSeq3
def Aj(prog:Program)(w:World)(A:Around)(s:Shared)(x y:Value)(r:Bool):Prop:=∀(E:Value->Shared->Prop)(Q:Bool->Shared->Prop),Q r s->wpAny (model prog w) A (eqBool x y) Q E s
noncomputable abbrev lsO(dd:Option Addr)(its:Array Value)(n:Nat)(sl:Array (Option Value)):Obj:={ cls:=.type "list",dict:=dd,data:=.seq its n,slots:=sl }
theorem ux{prog:Program}{w:World}{l b:Addr}{us vs:Array Value}{n m:Nat}{dd de:Option Addr}{sl sm:Array (Option Value)}(hsz:us.size=vs.size)(e:Nat->Bool)(k:Nat) :
  ∀i:Nat,us.size-i=k->MeetsIn prog w (Builtin.«list.__eq__.loop» ⟨[.ref l,.ref b,rawInt i,rawInt 3],[]⟩)
   (λA R s=>s.heap.get? l=some (lsO dd us n sl)/\s.heap.get? b=some (lsO de vs m sm)/\(∀j (h1:j<us.size) (h2:j<vs.size),Aj prog w A.in1 s us[j] vs[j] (e j))/\R (.ok (.ret (.bool (!((KH us.size).drop i).all e)))) s):=by
 induction k with
 | zero =>
  intro i hk A R s h
  obtain⟨hp,g,d,tk,os⟩:=s
  obtain⟨gl,gb,he,h⟩:=h
  wp_walk using wpAny_loadPart' gl,wpAny_loadPart' gb
  rw[show us[((i:Nat):Int).toNat]?=none by simp;omega,show vs[((i:Nat):Int).toNat]?=none by simp;omega]
  rw[show (KH us.size).drop i=[] by simp;omega] at h
  wp_walk using wpAny_loadPart' gl,wpAny_loadPart' gb
  show R (.ok (.ret (.bool (us.size != vs.size)))) _
  rw[hsz]
  simpa using h
 | succ k ih =>
  intro i hk A R s h
  obtain⟨hp,g,d,tk,os⟩:=s
  obtain⟨gl,gb,he,h⟩:=h
  wp_walk using wpAny_loadPart' gl,wpAny_loadPart' gb
  have la:i<us.size:=by omega
  have lb:i<vs.size:=by omega
  have ia:us[((i:Nat):Int).toNat]?=some us[i]:=by simp[la]
  have ib:vs[((i:Nat):Int).toNat]?=some vs[i]:=by simp[lb]
  rw[show (KH us.size).drop i=i::(KH us.size).drop (i+1) by simp[KG,la],Ki] at h
  rw[ia,ib]
  refine wpAny_bind (he i la lb _ _ ?_)
  cases ei:e i with
  | true =>
   rw[ei] at h
   wp_walk
   rw[show ((i:Int)+1)=((i+1:Nat):Int) by push_cast;rfl]
   refine⟨plainId_quiet plain_eq_loop _,codeAny_builtin entry_eq_loop ?_⟩
   rw[LK plain_eq_loop _]
   exact ih (i+1) (by omega) A R _ ⟨gl,gb,he,by simpa using h⟩
  | false =>
   rw[ei] at h
   wp_walk using wpAny_loadPart' gl,wpAny_loadPart' gb
   rw[ia,ib]
   wp_walk
   simpa using h
theorem r9{prog:Program}{w:World}{A:Around}{E:Value->Shared->Prop}{s:Shared}{l b:Addr}{us vs:Array Value}{Q:Value->Shared->Prop}{e:Nat->Bool}(hl:s.heap.IsList l us)(hb:s.heap.IsList b vs)(hsz:us.size=vs.size)(hu:A.units<cLine)
  (he:∀j (h1:j<us.size) (h2:j<vs.size),Aj prog w A.in1 s us[j] vs[j] (e j))(h:Q (.bool (!(KH us.size).all e)) s):wpAny (model prog w) A (richCompare .NotEq (.ref l) (.ref b)) Q E s:=by
 obtain⟨⟨c1,dd,dt,sl⟩,ho,hc,n,hd⟩:=id hl
 obtain⟨⟨c2,de,du,sm⟩,ho2,hc2,m,hd2⟩:=id hb
 simp only at hc hd hc2 hd2
 subst hc hd hc2 hd2
 have tl:s.TypeIs (.ref l) "list" := ⟨_,ho,rfl⟩
 have tb:s.TypeIs (.ref b) "list" := ⟨_,ho2,rfl⟩
 refine wpAny_richCompare_same_room tl tb NJ (call_meetsIn NJ tl PySem.F.entry_list_ne (PySem.F.args_list_ne_2 _ _) (S:=λA R s=>s.heap.get? l=some (lsO dd us n sl)/\s.heap.get? b=some (lsO de vs m sm)/\(∀j (h1:j<us.size) (h2:j<vs.size),Aj prog w A.in1 s us[j] vs[j] (e j))/\R (.ok (.ret (.bool (!(KH us.size).all e)))) s) ?_ ⟨ho,ho2,he,(λz=>nomatch z),h⟩) hu
 intro A R s h
 obtain⟨hp,g,d,tk,os⟩:=s
 obtain⟨gl,gb,he,h⟩:=h
 have sub:=AutoSeq1.sub_list_list
 have hne:¬ (us.size != vs.size)=true:=by simp[hsz]
 wp_walk using wpAny_loadPart' gl,wpAny_loadPart' gb
 refine⟨plainId_quiet plain_eq_loop _,codeAny_builtin entry_eq_loop ?_⟩
 rw[LK plain_eq_loop _]
 exact ux hsz e _ 0 rfl A R _ ⟨gl,gb,he,by simpa using h⟩
end L2
namespace M
open PySem L2
section
variable{X:Cx}{E:XK}
theorem t6{ka:List (Key×V)}(nd:(ka.map (·.1)).Nodup):∀kv∈ka,cJ ka kv.1=some kv.2:=by
 induction ka with
 | nil=>intro kv h;cases h
 | cons p l ih =>
  intro kv h
  rw[JU,Kt] at nd
  unfold cJ
  rcases J6.mp h with rfl|h
  ·simp
  ·have:p.1≠kv.1:=λz=>nd.1 (by rw[z];exact Ot h)
   have:=ih nd.2 kv h
   unfold cJ at this
   simp_all
theorem sr{pins:List (Addr×Obj)}{σ:St}{H:Hp}{s:Shared}(I:Inv X pins σ H s){ka l:List (Key×V)}{r:Bool}(h:fQ X.K H ka l r)(hm:∀kv∈l,cJ ka kv.1=some kv.2):r=true:=by
 induction h with
 | nil=>rfl
 | @miss k v r h=>rw[hm (k,v) JN] at h;cases h
 | @hit k v y r d e b h hd he dp t ih =>
  rw[hm (k,v) JN] at h
  cases h
  rw[hd.inj I he,D.iC,ih λkv hkv=>hm kv (JQ _ hkv)]
  rfl
theorem rH{pins:List (Addr×Obj)}{σ:St}{H:Hp}{s:Shared}{A:Around}(I:Inv X pins σ H s)(hu:A.units+41<cLine){a b:Addr}{ka kb:List (Key×V)}{r:Bool}(da:Rd H a (.dK ka))(db:Rd H b (.dK kb))(hh:fQ X.K H kb ka r):Aj X.prog X.w A s (.ref a) (.ref b) (ka.length==kb.length&&r):=by
 obtain⟨z1,l1,va,r1,d1⟩:=L2.cc I.hok da
 obtain⟨z2,l2,vb,r2,d2⟩:=L2.cc I.hok db
 by_cases hab:a=b
 ·subst hab
  have e:ka=kb:=by
   obtain⟨o,h1,h2⟩:=p7 da
   obtain⟨o',h3,h4⟩:=p7 db
   rw[h1] at h3;cases h3
   rw[h2] at h4;cases h4;rfl
  subst e
  have nd:(ka.map (·.1)).Nodup:=by rw[r1.keys];obtain⟨_,_,_,_,_,_,_,_,q⟩:=d1;exact q
  rw[sr I hh (t6 nd)]
  simp only[beq_self_eq_true,Bool.and_self]
  exact λE Q hq=>(N4 _:LV A s (.ref a) (.ref a) true) _ _ E Q hq
 ·intro E Q hq
  unfold eqBool
  refine wpAny_holding ?_
  refine PySem.wpAny_ite_split (λz=>absurd (by have:=eq_of_beq z;injection this) hab) (λ_=>?_)
  refine wpAny_bind ?_
  exact PySem.W.keq_eq l1 l2 d1 d2 (by omega) (λ_=>wF I (A:=A.in1) (by show A.units+1+40<cLine;omega) r2 hh r1) (by rw[<- r1.length,<- r2.length];exact wpAny_truthy_bool hq)
def DV(K:JH)(H:Hp)(x y:V)(r:Bool):Prop:=∃a b ka kb r',x=.ref a/\y=.ref b/\Rd H a (.dK ka)/\Rd H b (.dK kb)/\fQ K H kb ka r'/\r=(ka.length==kb.length&&r')
inductive DVs (K:JH) (H:Hp):List V->List V->List Bool->Prop
 | nil:DVs K H [] [] []
 | cons {x y:V} {xs ys:List V} {r:Bool} {rs:List Bool} (h:DV K H x y r) (t:DVs K H xs ys rs):DVs K H (x::xs) (y::ys) (r::rs)
theorem DVs.len{K:JH}{H:Hp}{xs ys:List V}{rs:List Bool}(h:DVs K H xs ys rs):xs.length=ys.length/\xs.length=rs.length:=by
 induction h with
 | nil=>exact⟨rfl,rfl⟩
 | cons h t ih=>exact⟨congrArg (·+1) ih.1,congrArg (·+1) ih.2⟩
theorem DVs.at{K:JH}{H:Hp}{xs ys:List V}{rs:List Bool}(h:DVs K H xs ys rs):∀{j:Nat}{x y:V},xs[j]?=some x->ys[j]?=some y->DV K H x y (rs.getD j true):=by
 induction h with
 | nil=>intro j x y e;simp at e
 | cons h t ih =>
  intro j x y e e'
  cases j with
  | zero=>cases e;cases e';exact h
  | succ j=>exact ih (j:=j) e e'
noncomputable def AK(K:JH):R2:=λx y H Q=>∃a b xs ys rs,x=.ref a/\y=.ref b/\SqL K H a xs/\SqL K H b ys/\DVs K H xs ys rs/\Q (.bl (!rs.all id)) H
theorem range_all(rs:List Bool):(KH rs.length).all (λj=>rs.getD j true)=rs.all id:=by
 rw[O3,Kw,Kw]
 constructor
 ·intro h x hx
  obtain⟨j,hj,e⟩:=List.getElem_of_mem hx
  have:=h j (Nn.mpr hj)
  rw[K1,Kl hj,e] at this
  exact this
 ·intro h j hj
  have hj:=Nn.mp hj
  rw[K1,Kl hj]
  exact h _ (OY hj)
theorem qA(hu:X.A.units+64<cLine):OpR X (compareOp .NotEq) (AK X.K):=by
 intro pins s σ H x y v u Q I rx ry h
 obtain⟨a,b,xs,ys,rs,rfl,rfl,ha,hb,hh,q⟩:=h
 cases rx
 cases ry
 obtain⟨us,r1,p1,_⟩:=I.list ha
 obtain⟨vs,r2,p2,_⟩:=I.list hb
 obtain⟨k1,k2⟩:=hh.len
 have s1:us.toArray.size=rs.length:=by rw[JO,<- r1.length,k2]
 have s2:vs.toArray.size=rs.length:=by rw[JO,<- r2.length,<- k1,k2]
 refine r9 (e:=λj=>rs.getD j true) p1.isList p2.isList (s1.trans s2.symm) (by omega) (λj h1 h2=>?_) ?_
 ·obtain⟨x,ex,rx⟩:=r1.x8 h1
  obtain⟨y,ey,ry⟩:=r2.x8 h2
  obtain⟨a',b',ka,kb,r',rfl,rfl,d1,d2,hv,e⟩:=hh.at ex ey
  have rx:us.toArray[j]=.ref a':=rx
  have ry:vs.toArray[j]=.ref b':=ry
  rw[rx,ry,e]
  exact rH I (by show X.A.units+1+41<cLine;omega) d1 d2 hv
 ·rw[s1,range_all]
  exact⟨.bl _,H,I,rfl,q⟩
noncomputable def zo:List A->List A->Option (List Bool)
 | [],[]=>some []
 | .dic ka::as,.dic kb::bs=>match uh ka kb,zo as bs with
  | some r,some t=>some (r::t)
  | _,_=>none
 | _,_=>none
noncomputable def nt:A->A->Option Rr
 | .lst as,.lst bs=>match zo as bs with
  | some rs=>some (.fr (.bl (!rs.all id)))
  | none=>none
 | _,_=>none
theorem tq{K:Kx}{G:Hp}:∀{xs:List V}{as:List A},RAs K G xs as->∀{ys:List V}{bs:List A}{rs:List Bool},RAs K G ys bs->zo as bs=some rs->DVs K.K G xs ys rs
 | _,_,.nil,_,_,rs,.nil,h=>by cases h;exact .nil
 | _,_,.nil,_,_,rs,.cons _ _,h=>by cases h
 | _,_,.cons (a:=a) h0 r0,_,_,rs,.nil,h=>by cases a<;>cases h
 | _,_,.cons (a:=a) h0 r0,_,_,rs,.cons (a:=b) h1 r1,h=>by
  cases a<;>first|(cases h;done)|(cases b<;>first|(cases h;done)|skip)
  unfold zo at h
  split at h
  ·rename_i r t e1 e2
   cases h
   refine .cons ?_ (tq r0 r1 e2)
   cases h0 with
   | dic d1 k1 =>
    cases h1 with
    | dic d2 k2 =>
     unfold uh at e1
     split at e1
     ·rename_i r' e
      cases e1
      exact⟨_,_,_,_,r',rfl,rfl,d1,d2,lj k2 k1 e,by rw[k1.len,k2.len]⟩
     ·cases e1
  ·cases h
theorem rn{K:Kx}:OpS K (AK K.K) nt:=.scalar λH v w a b q r1 r2 h=>by
 cases a<;>first|(cases h;done)|(cases b<;>first|(cases h;done)|skip)
 rename_i as bs
 unfold nt at h
 dsimp only at h
 split at h
 ·rename_i rs e
  cases h
  cases r1 with
  | lst e1 k1 =>
   cases r2 with
   | lst e2 k2=>exact⟨_,_,rfl,λ_=>.bl _,λQ k=>⟨_,_,_,_,rs,rfl,rfl,e1,e2,tq k1 k2 e,k⟩⟩
 ·cases h
variable{a b:Expr}{ma mb:Mi Rr}{pos:Pos}
theorem Ek(hu:X.A.units+64<cLine)(ha:JE X E a ma)(hb:JE X E b mb):JE X E (.Compare a [.NotEq] [b] pos) (mOp (fOr (fOr fNe mS) nt) ma mb):=bH (OpR.or' (OpR.or' (k7 hu) (kD hu)) (qA hu)) ((pZ.or kl).or rn) ha hb (aV _)
theorem CZ(hu:X.A.units+64<cLine)(ha:JE X E a ma)(hb:JE X E b mb):JT X E (.Compare a [.NotEq] [b] pos) (ai (mOp (fOr (fOr fNe mS) nt) ma mb)):=bG (OpR.or' (OpR.or' (k7 hu) (kD hu)) (qA hu)) ((pZ.or kl).or rn) ha hb (aV _)
end
end M
set_option maxHeartbeats 4000000
namespace L2
open PySem PySem.Spec PyProof.Rows PySem.W
section
variable{X:Cx}
theorem tH:OpR X (compareOp .Is) (λx y H Q=>∃a b,x=.bl a/\y=.bl b/\Q (.bl (decide (a=b))) H):=by
 intro pins s σ H x y v u Q I rx ry h
 obtain⟨a,b,rfl,rfl,q⟩:=h
 cases rx
 cases ry
 refine wpAny_of_eq (a:=.bool (decide (a=b))) ?_ (hJ I q rfl)
 cases a<;>cases b<;>rfl
theorem rl:OpR X (compareOp .IsNot) (λx y H Q=>∃a b,x=.bl a/\y=.bl b/\Q (.bl (!decide (a=b))) H):=by
 intro pins s σ H x y v u Q I rx ry h
 obtain⟨a,b,rfl,rfl,q⟩:=h
 cases rx
 cases ry
 refine wpAny_of_eq (a:=.bool (!decide (a=b))) ?_ (hJ I q rfl)
 cases a<;>cases b<;>rfl
end
end L2
namespace M
open PySem L2
section
variable{X:Cx}{E:XK}{a b:Expr}{ma mb:Mi Rr}{pos:Pos}
noncomputable def nN(neg:Bool):A->A->Option Rr
 | .bl a,.bl b=>some (.fr (.bl (if neg then !decide (a=b) else decide (a=b))))
 | _,_=>none
theorem vj{K:Kx}:OpS K (λx y H Q=>∃a b,x=.bl a/\y=.bl b/\Q (.bl (decide (a=b))) H) (nN false):=.scalar λH v w a b q r1 r2 h=>by
 cases a<;>first|(cases h;done)|(cases b<;>first|(cases h;done)|skip)
 cases r1;cases r2;cases h
 exact⟨_,_,rfl,λ_=>.bl _,λQ k=>⟨_,_,rfl,rfl,k⟩⟩
theorem nv{K:Kx}:OpS K (λx y H Q=>∃a b,x=.bl a/\y=.bl b/\Q (.bl (!decide (a=b))) H) (nN true):=.scalar λH v w a b q r1 r2 h=>by
 cases a<;>first|(cases h;done)|(cases b<;>first|(cases h;done)|skip)
 cases r1;cases r2;cases h
 exact⟨_,_,rfl,λ_=>.bl _,λQ k=>⟨_,_,rfl,rfl,k⟩⟩
theorem Er(ha:JE X E a ma)(hb:JE X E b mb):JE X E (.Compare a [.Is] [b] pos) (mOp (fOr (fIs false) (nN false)) ma mb):=bH (OpR.or' lD tH) (pX.or vj) ha hb (aV _)
theorem tM(ha:JE X E a ma)(hb:JE X E b mb):JE X E (.Compare a [.IsNot] [b] pos) (mOp (fOr (fIs true) (nN true)) ma mb):=bH (OpR.or' iN rl) (iE.or nv) ha hb (aV _)
theorem Ee(ha:JE X E a ma)(hb:JE X E b mb):JT X E (.Compare a [.Is] [b] pos) (ai (mOp (fOr (fIs false) (nN false)) ma mb)):=bG (OpR.or' lD tH) (pX.or vj) ha hb (aV _)
theorem uA(ha:JE X E a ma)(hb:JE X E b mb):JT X E (.Compare a [.IsNot] [b] pos) (ai (mOp (fOr (fIs true) (nN true)) ma mb)):=bG (OpR.or' iN rl) (iE.or nv) ha hb (aV _)
end
end M
set_option maxHeartbeats 1000000
namespace L2
open PySem PySem.Spec PyProof.Rows
structure cq (k:Nat) (A:Around):Prop where
 dp:A.depth+3*k+5<recursionLimit
 un:A.units+16*k+200<cLine
theorem bR.h{k:Nat}{A:Around}(r:bR k A):cq k A:=⟨r.dp,r.un⟩
theorem cq.mono{j k:Nat}{A:Around}(r:cq k A)(h:j<=k):cq j A:=⟨by have:=r.dp;omega,by have:=r.un;omega⟩
theorem cq.deeper{k:Nat}{A:Around}(r:cq (k+1) A)(env:Env):cq k (A.deeper env) :=
 ⟨by have:=r.dp;show A.depth+1+3*k+5<_;omega,by have:=r.un;show A.units+3+16*k+200<_;omega⟩
theorem cq.depth{k:Nat}{A:Around}(r:cq k A):A.depth<recursionLimit:=by have:=r.dp;omega
structure FnH (P:Program) (w:World) (K:JH) (mg:Str->Option Value) (base:Heap) (CX:CXT) (k:Nat) (f:Addr) (fd:FuncData) (ps:List Str) (sp:Sp):Prop where
 len:∀vs H Q E,sp vs H Q E->vs.length=ps.length
 run:∀(A:Around)(outer:List Env)(s:Shared)(H:Hp)(args:Args)(us:List Value)(vs:List V)(Q:VK)(E:XK),cq k A->n9 P w K mg base A outer s H->BindsTo s fd args (ps.zip us)->Vals vs us->sp vs H Q E ->
  codeAny (model P w) A (.call (.ref f) args) (CR CX outer P w H s Q E) s
theorem FnH.mono{P:Program}{w:World}{K:JH}{mg:Str->Option Value}{base:Heap}{CX:CXT}{j k:Nat}{f:Addr}{fd:FuncData}{ps:List Str}{sp:Sp}(F:FnH P w K mg base CX j f fd ps sp)(h:j<=k) :
  FnH P w K mg base CX k f fd ps sp:=⟨F.len,λA outer s H args us vs Q E hr=>F.run A outer s H args us vs Q E (hr.mono h)⟩
noncomputable def cxH(CX:CXT)(P:Program)(w:World)(K:JH)(mg:Str->Option Value)(base:Heap)(N:List Str)(qual:Str)(scope:Scope)(f:Addr)(cd:Value)(A:Around)(outer:List Env)(s:Shared)(H:Hp)(E:XK):Cx :=
 { jC CX P w K mg base N qual scope f cd A outer s H E with calm:=false }
theorem pI{CX:CXT}{P:Program}{w:World}{K:JH}{mg:Str->Option Value}{base:Heap}{N ps:List Str}{qual:Str}{scope:Scope}{f:Addr}{cd:Value}{A:Around}{outer:List Env}{s s1:Shared}{H:Hp}{E:XK}{us:List Value}{vs:List V}
  (S:cR N ps scope)(e0:n9 P w K mg base A outer s H)(hl:vs.length=ps.length)(r:Vals vs us)
  (x:InCallC s s.heap.objs.size (bindL (envOfC qual scope s.heap.objs.size f cd).kindOf (ps.zip us) λ_=>none) (cellsFrom (s.heap.objs.size+1) scope.names []) (bindC (envOfC qual scope s.heap.objs.size f cd).kindOf (ps.zip us) λ_=>none) s1) :
  Inv (cxH CX P w K mg base N qual scope f cd A outer s H E) [] (start N vs) H s1:=by
 have e1:n9 P w K mg base { A with handled:=none } outer s H:=⟨e0.frames,e0.mod,e0.bs,e0.bsz,e0.fN,e0.frf,e0.hok,e0.bare⟩
 have I:=jM (CX:=CX) (E:=E) S (A:={ A with handled:=none }) rfl e1 hl r x
 have k:=I.ok
 exact⟨⟨k.mod,k.kind,k.glob,k.blt,k.above,k.inj,k.has,k.cab,(λz=>nomatch z),NP e0.frames,k.stk,k.exf,k.bs,k.bsz,k.noex,k.exfs,k.fN,k.frf⟩,I.os,I.bare,I.base,I.loc,I.cell,I.free,I.freeC,I.pin,I.hok,I.len⟩
theorem B7{CX:CXT}{P:Program}{w:World}{K:JH}{mg:Str->Option Value}{base:Heap}{k:Nat}{f:Addr}{name qual:Str}{params:Arguments}{body:List Stmt}{scope:Scope}{dV kV doc pm cdv ct oc:Value}{an od:Option Addr}
  {osl:Array (Option Value)}{N ps:List Str}{sp:Sp}(lk:K.lookup f=some ⟨oc,od,.func (Lc name qual params body scope dV kV doc pm an cdv ct),osl⟩)(hcd:LS K cdv qual=true)(S:cR N ps scope)
  (len:∀vs H Q E,sp vs H Q E->vs.length=ps.length)
  (hbody:∀(A:Around)(outer:List Env)(s:Shared)(H:Hp)(vs:List V)(Q:VK)(E:XK),cq k (A.deeper (envOfC qual scope s.heap.objs.size f cdv))->sp vs H Q E ->
   ∃t,PSs (cxH CX P w K mg base N qual scope f cdv A outer s H E) body t/\t { nx:=λ_ H'=>Q .non H',rt:=Q } (start N vs) H) :
  FnH P w K mg base CX (k+1) f (Lc name qual params body scope dV kV doc pm an cdv ct) ps sp:=by
 refine⟨len,λA outer s H args us vs Q E hr e0 hb r hsp=>?_⟩
 have hl:=len _ _ _ _ hsp
 have KX:K.In s.heap:=e0.mod.kin.keeps λb o e=>(e0.bs b o e).1
 have lim:s.heap.NoLimit:=e0.mod.nolimit.keeps λb o e=>(e0.bs b o e).1
 have hkind:∀y∈ps.zip us,scope.names.lookup y.1=some .local\/(scope.names.lookup y.1=some .cell/\((cellsFrom (s.heap.objs.size+1) scope.names []).lookup y.1).isSome=true):=λ⟨n,v⟩ hy=>by
  rcases S.par n (Mt hy).1 with q|q
  ·exact .inl q
  ·exact .inr ⟨q,Me _ _ _ (.inl q)⟩
 refine codeAny_call_function hr.depth (KX _ _ lk) rfl S.co S.gen rfl (N3 KX hcd) (hb _ _ _ _ ?_)
 refine wpAny_newFunctionEnv_cells S.kind hkind λenv he s1 x=>?_
 subst he
 refine⟨lim.keeps x.toInCall.keep,codeAny_func ?_⟩
 obtain⟨t,ht,hq⟩:=hbody A outer s H vs Q E (hr.deeper _) hsp
 have I:Inv (cxH CX P w K mg base N qual scope f cdv A outer s H E) [] (start N vs) H s1:=pI S e0 hl r x
 refine wpAny_mono (ht [] s1 (start N vs) H _ I hq) (λfl s' hs=>?_) λe s' hs=>hs
 have fin:∀{σ':St}{H':Hp}{v:V}{u:Value},Inv (cxH CX P w K mg base N qual scope f cdv A outer s H E) [] σ' H' s'->RelV v u->Q v H'->CE outer P w H s Q u s' :=
  λ{σ' H' v u} J rv q=>⟨v,H',J.os,J.bare,J.base,J.hok,rv,q⟩
 cases fl with
 | ret u =>
  obtain⟨v,σ',H',J,rv,q⟩:=hs
  exact fin J rv q
 | next =>
  obtain⟨σ',H',J,q⟩:=hs
  exact fin (v:=V.non) (u:=LU) J rfl q
 | brk =>
  obtain⟨_,_,_,q⟩:=hs
  exact KR q
 | cont =>
  obtain⟨_,_,_,q⟩:=hs
  exact KR q
section
variable{X:Cx}{CX:CXT}{k:Nat}{f C:Addr}{fd:FuncData}{ps:List Str}{sp:Sp}{E:XK}{x m:Str}{p pos apos:Pos}{e o:Expr}{es:List Expr}{ta:TE}{t:TA}
theorem xn(F:FnH X.prog X.w X.K X.mg X.base CX k f fd ps sp)(hr:cq k X.A)(hg:Gl X x)(hm:X.mg x=some (.ref f))(hk:Ks X.K (.ref f)=true)(hb:Binds X.K fd ps [])(hx:Passes CX X E)
  (ha:PA X (e::es) t)(hdb:NDb x)(he:starEach (e::es) X.env=(false,eval e X.env)::starEach es X.env)(hpl:(backTo pos (starEach es X.env)).any (·.1)=false) :
  PE X (.Call (.Name x p) (e::es) [] pos) (Ay sp [] E t):=by
 intro pins s σ H Q I h
 refine wpAny_Call_Name_kw (fz I hg hm ?_ hdb)
 refine My (h₀:=X.base) I.ok.mod.kin hk (thn (ha pos pins s σ H _ I h) λus s1 ⟨vs,H1,I1,r,q⟩=>⟨I1.kIn,?_⟩) he hpl
 have r2:Vals (vs++[]) (us++[]):=r.append .nil
 have hl:(us++[]).length=ps.length:=by rw[<- r2.length];exact F.len _ _ _ _ q
 refine wpAny_call (codeAny_mono (F.run X.A X.stack s1 H1 ⟨us,[]⟩ (us++[]) (vs++[]) Q E hr I1.DN (hb s1 us I1.kIn hl) r2 q) λr s' hq=>?_)
 cases r with
 | error e=>exact hx pins σ H1 s1 e s' I1 hq
 | ok fl =>
  cases fl with
  | ret u=>exact I1.after hq
  | next=>exact KR hq
  | brk=>exact KR hq
  | cont=>exact KR hq
end
end L2
namespace M
open PySem L2
section
variable{X:Cx}{E:XK}
variable{k n:Nat}{f C:Addr}{fd:FuncData}{ps:List Str}{m:Ms}{ds:List Value}{dvs:List V}{das:List A}{x cn mn:Str}{p pos cpos apos:Pos}{e o:Expr}{es:List Expr}{mo:Mi Rr}{ma:Mi (List Rr)}
theorem vG(F:FnH X.prog X.w X.K X.mg X.base (CXE X.prog X.w) k f fd ps (SpM (kx X) n m))(hr:cq k X.A)(hg:Gl X x)(hm:X.mg x=some (.ref f))(hk:Ks X.K (.ref f)=true)(hb:Binds X.K fd ps [])
  (ha:JA X E (e::es) ma)(hn:∀ρ rs ρ',ma ρ=some (.ok rs,ρ')->rs.length+0=n)(hdb:NDb x)(he:starEach (e::es) X.env=(false,eval e X.env)::starEach es X.env)(hpl:(backTo pos (starEach es X.env)).any (·.1)=false) :
  JE X E (.Call (.Name x p) (e::es) [] pos) (cB (av m [] (cB ma))) :=
 ⟨PE.weaken (xn (E:=E00) F hr hg hm hk hb kX ha.p hdb he hpl) λσ H Q h=>by
  obtain⟨c,ρ,τ,θ,o,ρ',ek,b,em,q⟩:=h
  obtain⟨r,rfl,e2⟩:=dA em
  have:=cL (X:=X) (Q:=Q) (E':=E00) hn ek b e2 (λr' hr' v H' hv b1=>by cases hr';exact q v H' hv b1) (λx hx=>by cases hx)
  obtain⟨c1,ρ1,τ1,θ1,o1,ρ1',ek1,b1,em1,q1⟩:=this
  refine⟨c1,ρ1,τ1,θ1,o1,ρ1',ek1,b1,em1,?_⟩
  cases o1 with
  | ok rs=>exact q1
  | error y=>exact λC H' h1 h2=>(q1 C H' h1 h2).elim⟩
theorem zX{P:Program}{w:World}{K:JH}{mg:Str->Option Value}{base:Heap}{dV:Value}{x qual:Str}{st:Stmt}{f:Addr}{fd:FuncData}{N ps:List Str}{k:Nat}{m:Ms}(F:jr K x qual st f fd dV)(S:cR N ps (ay st))
  (hb:∀(cdv:Value)(A:Around)(outer:List Env)(s:Shared)(H:Hp)(E:XK),cq k (A.deeper (Mn qual (ay st) s.heap.objs.size f cdv)) ->
   JSs (cxH (CXE P w) P w K mg base N qual (ay st) f cdv A outer s H E) E (a7 st) m):FnH P w K mg base (CXE P w) (k+1) f fd ps (SpM ⟨K,mg⟩ ps.length (cb (N.length-ps.length) m)):=by
 have key:∀(cdv:Value)(A:Around)(outer:List Env)(s:Shared)(H:Hp)(vs:List V)(Q:VK)(E:XK),cq k (A.deeper (Mn qual (ay st) s.heap.objs.size f cdv))->SpM ⟨K,mg⟩ ps.length (cb (N.length-ps.length) m) vs H Q E->∃t,PSs (cxH (CXE P w) P w K mg base N qual (ay st) f cdv A outer s H E) (a7 st) t/\t { nx:=λ_ H'=>Q .non H',rt:=Q } (start N vs) H:=λcdv A outer s H vs Q E hr h=>by
  obtain⟨hn,c,ρ,f,ρ',ek,e0,e1,b,em,q⟩:=h
  refine⟨_,(hb cdv A outer s H E hr).p,?_⟩
  have bs:=b.start N e0
  rw[hn] at bs
  unfold cb at em
  cases e:m (ρ++J8 (N.length-ps.length) .un) with
  | none=>simp only[e] at em;cases em
  | some p =>
   obtain⟨f1,ρ1⟩:=p
   simp only[e] at em
   refine⟨c,_,[],[],f1,ρ1,ek,bs,e,?_⟩
   have bk:∀{σ':St}{H':Hp}{τ':St}{θ':List Sl},Bd c σ' H' ρ1 τ' θ'->Bd c (vs.map some) H' (ar vs.length ρ1) τ' θ':=λb'=>by
    have:=b'.back
    rw[e0,Ke] at this
    exact this
   cases f1 with
   | nx =>
    cases em
    exact λσ' H' b'=>q .non H' (λo z=>by cases z) ((bk b').push λ_=>.non)
   | rt s=>cases em;exact λv σ' H' hs b'=>q v H' hs (bk b')
   | ex x=>cases em;exact λC σ' H' hm b'=>q C H' hm (bk b')
   | bk=>cases em
   | ct=>cases em
 obtain⟨oc,od,kV,doc,pm,an,cdv,ct,osl,rfl,lk,hcd⟩:=F.ex
 exact B7 lk hcd S (λvs H Q E h=>h.1) λA outer s H vs Q E hr hsp=>key cdv A outer s H vs Q E hr hsp
end
end M
namespace L2
open PySem PySem.Spec PyProof.Rows
structure fg (fv:Value) (P:Program) (w:World) (outer:List Env) (H:Hp) (s:Shared) (a C:Addr) (H':Hp) (s':Shared):Prop where
 os:s'.os=s.os
 bare:AllBare s'.gens
 un:Un (frs outer) [] H H' s.heap s'.heap
 hok:HOk P w H' s'.heap
 new:s.heap.get? a=none
 free:H' a=none
 fl:∃(base:Heap) (a0:Value),(base.StaysIn s'.heap/\base.get? a=none/\s'.heap.FunFrames base outer/\s'.heap.TracedAtW base a (.ref C) a0 fv) /\
  ∀b o,s'.heap.get? b=some o->(H' b≠none\/((∃ob,s.heap.get? b=some ob)/\b∉frs outer))->base.get? b=some o
section
variable{M:Model}{A:Around}{E:Value->Shared->Prop}{P:Program}{w:World}{l outer:List Env}{H Hc H':Hp}{s sc s':Shared}{a C L:Addr}{fv gv:Value}
theorem Fly.v(x:Fly P w l Hc sc a C H' s'):fg .none P w l Hc sc a C H' s':=⟨x.os,x.bare,x.un,x.hok,x.new,x.free,x.fl⟩
theorem fg.fZ{base h':Heap}{a0:Value}(x:fg fv P w l Hc sc a C H' s')(ff:s'.heap.FunFrames base l)(hb:∀b o,s'.heap.get? b=some o->(H' b≠none\/((∃ob,sc.heap.get? b=some ob)/\b∉frs l))->base.get? b=some o)
  (fl':base.StaysIn h'/\base.get? a=none/\h'.FunFrames base l/\h'.TracedAtW base a (.ref C) a0 gv)(up:s'.heap.UpToSlots h'):fg gv P w l Hc sc a C H' { s' with heap:=h' }:=by
 have fdata:∀b o,b∈frs l->s'.heap.get? b=some o->∀vs,o.data≠.fields vs:=λb o m e=>by
  obtain⟨_,o2,e2,nf⟩:=gw ff m
  rw[e2] at e;cases e;exact nf
 refine⟨x.os,x.bare,⟨λb o e n nb nx=>?_,λb o e n mb nx=>?_,x.un.free,λb o e nx=>?_,x.un.tups,x.un.frzs,x.un.tbls⟩,eV x.hok (λb o e n=>hb b o e (.inl n)) fl'.1,x.new,x.free,base,a0,fl',λb o e r=>?_⟩
 ·exact fl'.1 b o (hb b o (x.un.keep b o e n nb nx) (.inr ⟨⟨o,e⟩,nb⟩))
 ·obtain⟨sl2,e2⟩:=x.un.slot b o e n mb nx
  obtain⟨sl3,e3⟩:=up b _ e2 (fdata b _ mb e2)
  exact⟨sl3,e3⟩
 ·obtain⟨o2,e2⟩:=x.un.there b o e nx
  by_cases mb:b∈frs l
  ·obtain⟨sl,e3⟩:=up b o2 e2 (fdata b o2 mb e2)
   exact⟨_,e3⟩
  ·exact⟨o2,fl'.1 b o2 (hb b o2 e2 (.inr ⟨⟨o,e⟩,mb⟩))⟩
 ·have e:h'.get? b=some o:=e
  have key:∀o2,base.get? b=some o2->base.get? b=some o:=λo2 e3=>by
   have:=fl'.1 b o2 e3
   rw[e] at this;cases this;exact e3
  rcases id r with q|⟨⟨ob,eb⟩,nb⟩
  ·cases z:H' b with
   | none=>exact absurd z q
   | some v =>
    obtain⟨o2,e2⟩:=(x.hok b v z).is
    exact key o2 (hb b o2 e2 r)
  ·obtain⟨o2,e2⟩:=x.un.there b ob eb (λz=>nomatch z)
   exact key o2 (hb b o2 e2 r)
theorem fg.note{env:Env}{Q:Unit->Shared->Prop}(hA:A.frames=some (env::outer))(hf:env.frame=some L)(x:fg .none P w (env::outer) Hc sc a C H' s')
  (q:∀s1,fg (rawInt L) P w (env::outer) Hc sc a C H' s1->Q () s1):wpAny M A (noteFrame (.ref a) env) Q E s':=by
 obtain⟨base,a0,fl,hb⟩:=x.fl
 exact wpAny_looks_onW hA hf (base:=base) (cls:=.ref C) (a0:=a0) fl λh1 held up=>q _ (x.fZ fl.2.2.1 hb held up)
theorem fg.set{Q:Unit->Shared->Prop}(x:fg fv P w l Hc sc a C H' s')(q:∀s1,fg (rawInt L) P w l Hc sc a C H' s1->Q () s1):wpAny M A (setFlight (.ref a) (some L)) Q E s':=by
 obtain⟨base,a0,fl,hb⟩:=x.fl
 obtain⟨hkb,hen,hl,oe,vs,T,oT,ts,he,hcls,hd,h1,hnT,hTe,hT,hdT,h3⟩:=id fl
 have hsz3:3<ts.size:=(Array.getElem?_eq_some_iff.mp h3).1
 have other:∀b,b≠T->(s'.heap.update T (Obj.mapFields (·.setIfInBounds 3 ((some L).elim LU λf=>rawInt f)))).get? b=s'.heap.get? b:=λb hb=>Lf _ _ (KJ hb)
 have noRecord:∀b o,s'.heap.get? b=some o->(∀vs,o.data≠.fields vs)->b≠T:=λb o hb hnf q=>by
  rw[q,hT] at hb;injection hb with hb;subst hb;exact hnf ts hdT
 unfold setFlight
 refine wpAny_bind (wpAny_field he hd h1 ?_)
 rw[if_pos (show (KL T != LU)=true from by simp)]
 refine wpAny_setField hT hdT hsz3 (q _ (x.fZ (a0:=a0) hl hb ⟨λb o hbo=>(other b λq=>by rw[q,hnT] at hbo;cases hbo).trans (hkb b o hbo),hen,
  hl.of_keeps λb o hb hnf=>⟨o,(other b (noRecord b o hb hnf)).trans hb,rfl⟩,?_⟩ λb o hb hnf=>⟨o.slots,(other b (noRecord b o hb hnf)).trans hb⟩))
 exact⟨oe,vs,T,_,_,(other a (KJ hTe)).trans he,hcls,hd,h1,hnT,hTe,LH _ hT (Obj.isFreed_of_fields (ON hdT _)),ON hdT _,by simp[hsz3]⟩
theorem fg.let{D:Addr}{oc od:Obj}{h':Heap}(x:fg fv P w l Hc sc a C H' s')(ec:sc.heap.get? D=some oc)(hn:Hc D=none)(nl:D∉frs l)(sb:Le D s'.heap h')(ed:h'.get? D=some od) :
  fg fv P w l Hc { sc with heap:=sc.heap.update D λ_=>od } a C H' { s' with heap:=h' }/\Le D sc.heap (sc.heap.update D λ_=>od):=by
 have nf:od.isFreed=false:=(Heap.get?_some_iff.mp ed).2
 have g1:(sc.heap.update D λ_=>od).get? D=some od:=LH _ ec nf
 have g2:∀b,b≠D->(sc.heap.update D λ_=>od).get? b=sc.heap.get? b:=λb hb=>Lf _ _ (KJ hb)
 have nD:H' D=none:=x.un.free D oc ec hn (λz=>nomatch z)
 have aD:a≠D:=λz=>by have:=x.new;rw[z,ec] at this;cases this
 have fD:∀b∈frs l,b≠D:=λb hb z=>nl (z▸hb)
 have hD:∀b u,H' b=some u->b≠D:=λb u e z=>by rw[z,nD] at e;cases e
 obtain⟨base,a0,⟨hkb,hen,hl,oe,vs,T,oT,ts,he,hcls,hd,h1,hnT,hTe,hT,hdT,h3⟩,hb⟩:=x.fl
 obtain⟨o1,e1⟩:=x.un.there D oc ec (λz=>nomatch z)
 have bD:base.get? D=some o1:=hb D o1 e1 (.inr ⟨⟨oc,ec⟩,nl⟩)
 have TD:T≠D:=λz=>by rw[z,bD] at hnT;cases hnT
 have g3:(base.update D λ_=>od).get? D=some od:=LH _ bD nf
 have g4:∀b,b≠D->(base.update D λ_=>od).get? b=base.get? b:=λb hb=>Lf _ _ (KJ hb)
 refine⟨⟨x.os,x.bare,⟨λb o e n nb nx=>?_,λb o e n mb nx=>?_,λb o e n nx=>?_,λb o e nx=>?_,x.un.tups,x.un.frzs,x.un.tbls⟩,λb u e=>?_,(g2 a aD).trans x.new,x.free,base.update D λ_=>od,a0,⟨λb o e=>?_,(g4 a aD).trans hen,?_,oe,vs,T,oT,ts,(sb.2 a aD).trans he,hcls,hd,h1,(g4 T TD).trans hnT,hTe,(sb.2 T TD).trans hT,hdT,h3⟩,λb o e r=>?_⟩,?_,g2⟩
 ·by_cases z:b=D
  ·subst z
   have e:(sc.heap.update b λ_=>od).get? b=some o:=e
   rw[g1] at e;cases e;exact ed
  ·exact(sb.2 b z).trans (x.un.keep b o ((g2 b z).symm.trans e) n nb nx)
 ·have z:=fD b mb
  obtain⟨sl,q⟩:=x.un.slot b o ((g2 b z).symm.trans e) n mb nx
  exact⟨sl,(sb.2 b z).trans q⟩
 ·by_cases z:b=D
  ·subst z;exact nD
  ·exact x.un.free b o ((g2 b z).symm.trans e) n nx
 ·by_cases z:b=D
  ·subst z;exact⟨od,ed⟩
  ·obtain⟨o2,q⟩:=x.un.there b o ((g2 b z).symm.trans e) nx
   exact⟨o2,(sb.2 b z).trans q⟩
 ·refine(x.hok b u e).fZ (λc v hc q=>(sb.2 c ?_).trans q) (λ_ q=>q) λ_ _ q=>q
  rcases hc with z|z
  ·rw[z];exact hD b u e
  ·exact hD c _ z
 ·by_cases z:b=D
  ·subst z
   rw[g3] at e;cases e;exact ed
  ·exact(sb.2 b z).trans (hkb b o ((g4 b z).symm.trans e))
 ·have:∀{l:List Env},(∀b∈frs l,b≠D)->s'.heap.FunFrames base l->h'.FunFrames (base.update D λ_=>od) l:=by
   intro l
   induction l with
   | nil=>intro _ _;trivial
   | cons env rest ih =>
    intro hd hl
    obtain⟨hk,⟨L,o,hf,hn,ho,hdd⟩,hr⟩:=hl
    have ef:frs (env::rest)=L::frs rest:=by unfold frs;rw[KP,hf]
    have LD:L≠D:=hd L (by rw[ef];exact JN)
    exact⟨hk,⟨L,o,hf,(g4 L LD).trans hn,(sb.2 L LD).trans ho,hdd⟩,ih (λb hb=>hd b (by rw[ef];exact JQ _ hb)) hr⟩
  exact this fD hl
 ·by_cases z:b=D
  ·subst z
   have e:h'.get? b=some o:=e
   rw[ed] at e;cases e;exact g3
  ·refine(g4 b z).trans (hb b o ((sb.2 b z).symm.trans e) (r.imp id λ⟨⟨ob,q⟩,n⟩=>⟨⟨ob,(g2 b z).symm.trans q⟩,n⟩))
 ·show (sc.heap.update D λ_=>od).objs.size=_
  simp[Heap.update]
theorem pj{Q:Unit->Shared->Prop}{env:Env}
  (hf:env.frame=some L)(hL:s.heap.get? L=none)(fF:∀b∈frs outer,H b=none)(fT:∀b∈frs outer,∃o,s.heap.get? b=some o)
  (u:Un (frs outer) [] H Hc s.heap sc.heap)(ho:sc.os=s.os)(x:fg (rawInt L) P w (env::outer) Hc sc a C H' s')
  (q:∀s'',Fly P w outer H s a C H' s''->Q () s''):wpAny M A (leaving env (.ref a)) Q E s':=by
 obtain⟨base,a0,fl,hb⟩:=x.fl
 have ef:frs (env::outer)=L::frs outer:=by unfold frs;rw[KP,hf]
 unfold leaving
 refine wpAny_bind (wpAny_noteFrame_againW (base:=base) (cls:=.ref C) (a0:=a0) hf fl.2.2.2 ?_)
 refine wpAny_landsW (base:=base) (l:=env::outer) (L:=L) (cls:=.ref C) (a0:=a0) fl λh' fl1 up=>q _ ?_
 have fl':MT base outer a (.ref C) a0 h':=⟨fl1.1,fl1.2.1,fl1.2.2.1.2.2,fl1.2.2.2⟩
 have old:∀b ob,s.heap.get? b=some ob->b≠L:=λb ob e z=>by rw[z,hL] at e;cases e
 have inb:∀b ob o,s.heap.get? b=some ob->b∉frs outer->s'.heap.get? b=some o->base.get? b=some o:=λb ob o e n e'=>by
  obtain⟨oc,ec⟩:=u.there b ob e (λz=>nomatch z)
  refine hb b o e' (.inr ⟨⟨oc,ec⟩,?_⟩)
  rw[ef]
  exact λz=>(J6.mp z).elim (old b ob e) n
 have fdata:∀b o,b∈frs outer->s'.heap.get? b=some o->∀vs,o.data≠.fields vs:=λb o m e=>by
  obtain⟨_,o2,e2,nf⟩:=gw fl.2.2.1 (show b∈frs (env::outer) by rw[ef];exact JQ _ m)
  rw[e2] at e;cases e;exact nf
 refine⟨x.os.trans ho,x.bare,⟨λb o e n nb nx=>?_,λb o e n mb nx=>?_,λb o e n nx=>?_,λb o e nx=>?_,λb xs e=>x.un.tups b xs (u.tups b xs e),λb o v e=>x.un.frzs b o v (u.frzs b o v e),λb ps e=>?_⟩,eV x.hok (λb o e n=>hb b o e (.inl n)) fl'.1,?_,x.free,base,a0,fl',λb o e r=>?_⟩
 ·have e1:=x.un.keep b o (u.keep b o e n nb nx) (u.free b o e n nx) (by rw[ef];exact λz=>(J6.mp z).elim (old b o e) nb) nx
  exact fl'.1 b o (inb b o o e nb e1)
 ·obtain⟨sl,e1⟩:=u.slot b o e n mb nx
  obtain⟨sl2,e2⟩:=x.un.slot b _ e1 (u.free b o e n nx) (by rw[ef];exact JQ _ mb) nx
  obtain⟨sl3,e3⟩:=up b _ e2 (fdata b _ mb e2)
  exact⟨sl3,e3⟩
 ·obtain⟨oc,ec⟩:=u.there b o e nx
  exact x.un.free b oc ec (u.free b o e n nx) nx
 ·obtain⟨oc,ec⟩:=u.there b o e nx
  obtain⟨o2,e2⟩:=x.un.there b oc ec nx
  by_cases mb:b∈frs outer
  ·obtain⟨sl,e3⟩:=up b o2 e2 (fdata b o2 mb e2)
   exact⟨_,e3⟩
  ·exact⟨o2,fl'.1 b o2 (inb b o o2 e mb e2)⟩
 ·obtain⟨m1,e1⟩:=u.tbls b ps e
  obtain⟨m2,e2⟩:=x.un.tbls b _ e1
  exact⟨m1++m2,by rw[e2,MD]⟩
 ·cases z:s.heap.get? a with
  | none=>rfl
  | some oa =>
   obtain⟨o1,e1⟩:=u.there a oa z (λz=>nomatch z)
   rw[x.new] at e1;cases e1
 ·have e:h'.get? b=some o:=e
  have key:∀o2,s'.heap.get? b=some o2->base.get? b=some o2->base.get? b=some o:=λo2 e2 e3=>by
   have:=fl'.1 b o2 e3
   rw[e] at this;cases this;exact e3
  rcases r with r|⟨⟨ob,eb⟩,nb⟩
  ·cases z:H' b with
   | none=>exact absurd z r
   | some v =>
    obtain⟨o2,e2⟩:=(x.hok b v z).is
    exact key o2 e2 (hb b o2 e2 (.inl r))
  ·obtain⟨oc,ec⟩:=u.there b ob eb (λz=>nomatch z)
   obtain⟨o2,e2⟩:=x.un.there b oc ec (λz=>nomatch z)
   exact key o2 e2 (inb b ob o2 eb nb e2)
end
def dX(X:Cx)(E:XK):Prop:=∀(pins:List (Addr×Obj))(σ:St)(H:Hp)(s:Shared)(a C L:Addr)(H':Hp)(s':Shared),X.env.frame=some L->Inv X pins σ H s->fg (rawInt L) X.prog X.w X.stack H s a C H' s'->E (.ref C) none H'->X.xe (.ref a) s'
theorem vC{P:Program}{w:World}{K:JH}{mg:Str->Option Value}{base:Heap}{N:List Str}{qual:Str}{scope:Scope}{f:Addr}{cd:Value}{A:Around}{outer:List Env}{s:Shared}{H:Hp}{E:XK} :
  dX (jC (CXE P w) P w K mg base N qual scope f cd A outer s H E) E:=by
 intro pins σ Hc sc a C L H' s' hL I x q
 obtain rfl:(envOfC qual scope s.heap.objs.size f cd).locals=L:=JV hL
 exact pj (env:=envOfC qual scope s.heap.objs.size f cd) rfl I.pD I.ok.frf (λb hb=>let ⟨_,o,ho,_⟩:=I.ok.fN.mem hb;⟨o,ho⟩) I.base I.os x λs'' fl'=>⟨a,C,H',rfl,fl',q⟩
end L2
namespace L2
open PySem PySem.Spec PyProof.Rows
section
variable{prog:Program}{w:World}{A:Around}{R:Result->Shared->Prop}{s:Shared}
theorem jI{elt target iter:Expr}{ifs:List Expr}{scope:Scope}{pos:Pos}{it acc:Value}{env:Env}{E₁:Value->Shared->Prop}(I:Nat->Shared->Prop)
  (hE:∀e s',E₁ e s'->notedBy (model prog w) A env (λx s'=>R (.error x) s') e s')
  (turn:∀n s,I n s->wpAny (model prog w) A (pyNext it) (λr s₁=>match r with
   | none=>R (.ok .next) s₁
   | some v=>wpAny (model prog w) A (letOwnedTupleGo target it v) (λ_ s₁'=>wpAny (model prog w) A (assign target env v) (λ_ s₂ =>
     wpAny (model prog w) A (forIn ifs true λc r=>if r=true then do let ok <- isTrue c env (eval c env);pure (K2 ok) else pure (K2 r)) (λok s₃ =>
      if ok=true then wpAny (model prog w) A (eval elt env) (λx s₄ =>
       wpAny (model prog w) A (call (.builtin "list.append") [acc,x]) (λ_ s₅=>∃m,m<n/\I m s₅) E₁ s₄) E₁ s₃
      else ∃m,m<n/\I m s₃) E₁ s₂) E₁ s₁') E₁ s₁) E₁ s)
  (n:Nat) (h:I n s):codeAny (model prog w) A (.compLoop (.ListComp elt [⟨target,iter,ifs,0⟩] scope pos) 0 it acc env) R s:=by
 refine codeAny_loop rfl I (λn s hI=>?_) n h
 show wpAny _ A ((compTurn (.ListComp elt [⟨target,iter,ifs,0⟩] scope pos) 0 it acc env).onRaise (λx=>do noteFrame x env;theTreesLotGoes x)) _ _ s
 refine wpAny_noted ?_
 rw[compTurn_list]
 refine wpAny_bind (wpAny_standAt (wpAny_bind (wpAny_mono (turn n s hI) (λr s₁ h₁=>?_) hE)))
 cases r with
 | none=>exact wpAny_pure h₁
 | some v =>
  refine wpAny_bind (wpAny_mono h₁ (λ_ s₁' h₁'=>?_) hE)
  refine wpAny_bind (wpAny_mono h₁' (λ_ s₂ h₂=>wpAny_bind (wpAny_mono h₂ (λok s₃ h₃=>?_) hE)) hE)
  cases ok with
  | false=>exact wpAny_pure ⟨rfl,h₃⟩
  | true =>
   exact wpAny_bind (wpAny_bind (wpAny_mono h₃ (λx s₄ h₄=>wpAny_bind (wpAny_mono h₄ (λ_ s₅ h₅=>wpAny_pure (wpAny_pure ⟨rfl,h₅⟩)) hE)) hE))
end
noncomputable abbrev cxX(X:Cx)(N:List Str)(sc:Scope)(cl:List (Str×Addr))(C:Addr)(s:Shared)(H:Hp)(ex:List Addr)(E:XK):Cx :=
 (cxC X N sc cl C s H ex).hV λe s'=>∃(pins:List (Addr×Obj)) (σ:St) (Hc:Hp) (s1:Shared) (a C0:Addr) (H':Hp),e=.ref a/\Inv (cxC X N sc cl C s H ex) pins σ Hc s1/\Fly X.prog X.w X.stack Hc s1 a C0 H' s'/\E (.ref C0) none H'
theorem F5{X:Cx}{N:List Str}{sc:Scope}{cl:List (Str×Addr)}{C:Addr}{s:Shared}{H:Hp}{ex:List Addr}{E:XK}:Passes (CXE X.prog X.w) (cxX X N sc cl C s H ex E) E :=
 λpins σ H s e s' I ⟨a,C0,H',e1,fl,q⟩=>⟨pins,σ,H,s,a,C0,H',e1,I.dP,fl,q⟩
section
variable{X:Cx}{pins:List (Addr×Obj)}{σ:St}{H:Hp}{s:Shared}{N:List Str}{k:Nat}{sc:Scope}{cl:List (Str×Addr)}{C:Addr}{fp:List Addr}{J:It}{it:Addr}{tn:Nat->Heap->Prop}
 {tg elt iter:Expr} {ifs:List Expr} {pos:Pos} {g:TG} {tt:TT} {te:TE} {Q:VK} {E:Value->Shared->Prop} {E0:XK} {RR:Value->Env->Result->Shared->Prop}
theorem hZ(hc:X.calm=true)(S:bE X.N N k sc X.env.scope)(hcl1:∀x c,cl.lookup x=some c->X.env.cells.lookup x=some c)
  (hcl2:∀x,(x,Ld)∈sc.names->∃c,cl.lookup x=some c)(I:Inv X pins σ H s)(T:Turn X.prog X.w X.K tg J fp it tn)(st:tn 0 s.heap)(hf:∀b∈fp,gk X pins H b)
  (B:mR J g tt te Q (σ++J8 k none) H)
  (hg:∀C,PG (cxX X N sc cl C s H fp E0) tg g)(ht:∀C,PF (cxX X N sc cl C s H fp E0) ifs tt)(he:∀C,PE (cxX X N sc cl C s H fp E0) elt te)
  (hRR:∀D C s' H' ys,Inv X pins σ (upd H' D (.lst ys)) s'->s.heap.objs.size<=C->upd H' D (.lst ys) C=none->(∃m,s'.heap.Ns C m)->Q (.ref D) (upd H' D (.lst ys))->RR (.ref D) (compEnvC sc cl C X.env) (.ok .next) s')
  (hRE:∀D C,s.heap.objs.size<=C->∀e s',(cxX X N sc cl C s H fp E0).xe e s'->notedBy (model X.prog X.w) X.A (compEnvC sc cl C X.env) (λx s'=>RR (.ref D) (compEnvC sc cl C X.env) (.error x) s') e s') :
  wpAny (model X.prog X.w) X.A (newList []) (λacc s₃=>wpAny (model X.prog X.w) X.A (newFunctionEnv sc X.env.globals cl [] X.env.qual none .none (some X.env)) (λcenv s₄ =>
   codeAny (model X.prog X.w) X.A (.compStart (.ListComp elt [⟨tg,iter,ifs,0⟩] sc pos) 0 (.ref it) acc { cenv with scope:=relabel sc X.env }) (RR acc { cenv with scope:=relabel sc X.env }) s₄) E s₃) E s:=by
 refine wpAny_newObj_type (wpAny_newFunctionEnv S.cell (by intro y hy;simp at hy) (λh₁ hns₁ hsb₁=>?_) S.kind)
 dsimp only at hns₁ hsb₁ ⊢
 generalize hH2:s.heap.push { cls:=.type "list",dict:=none,data:=.seq ([]:List Value).toArray }=H2 at hns₁ hsb₁ ⊢
 have hC:H2.objs.size=s.heap.objs.size+1:=by rw[<- hH2,Pc]
 have hDC:s.heap.objs.size≠H2.objs.size:=by rw[hC];exact Kf (M9 _)
 have hCle:s.heap.objs.size<=H2.objs.size:=by rw[hC];exact LP _
 have below:∀b,b<s.heap.objs.size->b≠H2.objs.size/\b≠s.heap.objs.size:=λb hb=>⟨by rw[hC];exact Kf (Mb hb),Kf hb⟩
 have old:∀b o,s.heap.get? b=some o->h₁.get? b=some o:=λb o e=>hsb₁.extBut b o (below b (J2 e)).1 (JM _ (hH2▸JM _ e))
 have hacc:h₁.PlainList s.heap.objs.size #[]:=⟨_,hsb₁.extBut _ _ hDC (JM _ (hH2▸Kb _ rfl))⟩
 have hfp:∀b∈fp,b<s.heap.objs.size:=λb hb=>let ⟨o,e,_⟩:=T.obj 0 _ st b hb;J2 e
 have st1:tn 0 h₁:=T.keep _ _ _ st λb hb o e=>old b o e
 have I0:=Inv.hV (nh (tk:=s.toks+([]:List (Str×Value)).length) I S hcl1 hcl2 hCle hf hfp old ⟨_,hns₁⟩) (cxX X N sc cl H2.objs.size s H fp E0).xe
 generalize H2.objs.size=C at hns₁ hsb₁ hC hDC hCle below I0 ⊢
 generalize hD:s.heap.objs.size=D at hC hDC hCle below hacc hfp ⊢
 have hDle:s.heap.objs.size<=D:=by rw[hD];exact J1 _
 have fpok:∀{H':Hp}{o:Obj},(∀b∈fp,H' b=none)->∀b∈fp,gk (cxX X N sc cl C s H fp E0) ((X.pn++pins)++[(D,o)]) H' b:=λ{H' o} hn b hb=>by
  obtain⟨f0,f1,f2,f3,f4,f5⟩:=hf b hb
  refine⟨hn b hb,(below b (hfp b hb)).1,λz=>?_,.inl hb,λx c e=>f4 x c (hcl1 _ _ e),λp hp=>?_⟩
  ·rcases J6.mp (I.fV b z) with z|z
   ·exact f1 z
   ·exact f2 z
  ·have hp:p∈(X.pn++pins)++[(D,o)]:=hp
   rcases J5.mp hp with z|z
   ·exact f5 p z
   ·have:p=(D,o):=by simpa using z
    rw[this]
    exact KJ (below b (hfp b hb)).2
 have loop:∀s₃:Shared,s₃={ s with heap:=h₁,toks:=s.toks+([]:List (Str×Value)).length } ->
   codeAny (model X.prog X.w) X.A (.compLoop (.ListComp elt [⟨tg,iter,ifs,0⟩] sc pos) 0 (.ref it) (.ref D) (compEnvC sc cl C X.env)) (RR (.ref D) (compEnvC sc cl C X.env)) s₃:=by
  rintro s₃ rfl
  obtain⟨W,⟨m0,w0⟩,step⟩:=B
  refine jI (hE:=hRE D C (by rw[hD];exact hCle)) (λn s'=>∃i σ' H' ys its,Inv (cxX X N sc cl C s H fp E0) (X.pn++pins) σ' H' s'/\tn i s'.heap/\(∀b∈fp,H' b=none)/\H' D=none/\s'.heap.PlainList D (its:List Value).toArray/\Vals ys its/\W i n σ' ys H') ?_ m0
   ⟨0,_,H,[],[],I0,st1,λb hb=>(hf b hb).1,I.hok.fresh hDle,hacc,.nil,w0⟩
  rintro n s3 ⟨i,σ3,H3,ys,its,I3,st3,fr3,hD3,⟨nn,pl3⟩,rv3,w3⟩
  obtain⟨hl,cs⟩:=step i n σ3 ys H3 w3
  have pinD:∀{σ':St}{H':Hp}{s':Shared}{o:Obj},Inv (cxX X N sc cl C s H fp E0) (X.pn++pins) σ' H' s'->H' D=none->s'.heap.get? D=some o->(∀v,o.data≠.cell v)->Inv (cxX X N sc cl C s H fp E0) ((X.pn++pins)++[(D,o)]) σ' H' s':=λ{σ' H' s' o} I' hn e d =>
   I'.iI λp hp=>(J5.mp hp).elim (λz=>I'.pin p (JL _ z)) λz=>by
    have:p=(D,o):=by simpa using z
    subst this
    exact⟨e,hn,hDC,λz=>I.fW hDle z,d⟩
  have I3p:=pinD I3 hD3 pl3 λv z=>by cases z
  rcases cs with ⟨stop,q⟩|⟨go,NN,hN,nx⟩
  ·refine thn (T.done (cxX X N sc cl C s H fp E0) rfl rfl rfl hc i _ s3 σ3 H3 _ I3p (fpok fr3) st3 stop) λr s4 ⟨hr,I4⟩=>?_
   subst hr
   have d4:=I4.pin (D,_) (JL _ (JL _ (J9.mpr rfl)))
   have I5:=mw I I4.a9.dP hDle d4.2.1 ⟨nn,d4.1⟩ rv3 hl hf
   refine hRR D C s4 H3 ys I5 (by rw[hD];exact hCle) ?_ (let ⟨m,hm,_⟩:=I4.loc;⟨m,hm⟩) (q D d4.2.1)
   rw[aj (KJ hDC)]
   exact I4.free
  ·refine thn (T.item (cxX X N sc cl C s H fp E0) rfl rfl rfl hc i _ s3 σ3 H3 _ I3p (fpok fr3) st3 go) λr s4 ⟨u,hr,h4⟩=>?_
   subst hr
   refine thn h4 λ_ s5 ⟨x,H5,I5,r5,y5,st5,fr5⟩=>?_
   have I5':=I5.pinned (fpok fr5) (T.obj _ _ st5)
   refine thn (hg C _ s5 σ3 H5 x u _ I5' r5 (nx x H5 y5)) λ_ s6 ⟨σ6,H6,I6,q6⟩=>?_
   refine thn (ht C _ s6 σ6 H6 _ I6 q6) λb s7 ⟨H7,I7,q7⟩=>?_
   have itK:∀{s8:Shared}{H8:Hp},Inv (cxX X N sc cl C s H fp E0) (((X.pn++pins)++[(D,({ cls:=.type "list",data:=.seq its.toArray nn }:Obj))])++gZ fp s5.heap) σ6 H8 s8->tn (i+1) s8.heap/\∀b∈fp,H8 b=none:=λ{s8 H8} I8=>by
    refine⟨T.keep _ _ _ st5 λb hb o e=>(I8.pin (b,o) (JL _ (JL _ (bT hb e)))).1,λb hb=>?_⟩
    obtain⟨o,e,d⟩:=T.obj _ _ st5 b hb
    exact(I8.pin (b,o) (JL _ (JL _ (bT hb e)))).2.1
   cases b with
   | false =>
    have q7:NN σ6 ys H7:=by simpa using q7
    obtain⟨m',hm,w7⟩:=hN _ _ _ q7
    obtain⟨t7,f7⟩:=itK I7
    have d7:=I7.pin (D,_) (JL _ (Ka _ (JL _ (J9.mpr rfl))))
    show ∃m,m<n/\_
    exact⟨m',hm,i+1,σ6,H7,ys,its,I7.a9.a9,t7,f7,d7.2.1,⟨nn,d7.1⟩,rv3,w7⟩
   | true =>
    have q7:te σ6 H7 λy H4=>NN σ6 (ys++[y]) H4:=by simpa using q7
    show wpAny _ _ _ _ _ _
    refine thn (he C _ s7 σ6 H7 _ I7 q7) λyv s8 ⟨y,H8,I8,r8,q8⟩=>?_
    obtain⟨m',hm,w9⟩:=hN _ _ _ q8
    obtain⟨t8,f8⟩:=itK I8
    have d8:=I8.pin (D,_) (JL _ (Ka _ (JL _ (J9.mpr rfl))))
    refine wpAny_list_append_plain (hsz:=by rw[JO,<- rv3.length];exact hl) ⟨nn,d8.1⟩ λh9 pl9 sb9=>?_
    have I9:Inv (cxX X N sc cl C s H fp E0) (X.pn++pins) σ6 H8 { s8 with heap:=h9 }:=I8.a9.a9.turned (t':=s8.toks) (it:=D) (λb o hb e=>(sb9.2 b hb).trans e) d8.2.1 hDC (.inr hDle) (λx c e z=>?_) (λp hp z=>?_)
    ·refine⟨m',hm,i+1,σ6,H8,ys++[y],its++[yv],I9,T.keep _ _ _ t8 λb hb o e=>(sb9.2 b (below b (hfp b hb)).2).trans e,f8,d8.2.1,?_,rv3.append (.cons r8 .nil),w9⟩
     rw[<- OL]
     exact pl9
    ·obtain⟨v,q⟩:=I.cell x c (hcl1 _ _ e)
     exact absurd (JR q.lt (by rw[z];exact hDle)) (Kp _)
    ·have hp:p∈X.pn++pins:=hp
     exact absurd (JR (J2 (I.pin p hp).1) (by rw[z];exact hDle)) (Kp _)
 exact codeAny_compStart_list (loop _ rfl) (T.self _ _ _ _ _ st1 (loop _ rfl))
end
noncomputable def fH(M:Model)(A:Around)(E:Value->Shared->Prop)(Q:Value->Shared->Prop)(acc:Value)(cenv:Env)(r:Result)(s':Shared):Prop :=
 ∃m,s'.heap.Ns cenv.locals m/\∀h' m',h'.Ns cenv.locals m'->Le cenv.locals s'.heap h'->match r with
  | .ok _=>Q acc { s' with heap:=h' }
  | .error x=>wpAny M A (passOn "comprehension.variables-let-go" x cenv:Sem Value) (λ_ _=>False) E { s' with heap:=h' }
theorem oF{M:Model}{A:Around}{E:Value->Shared->Prop}{s:Shared}{env:Env}{e:Expr}{scope:Scope}{pos:Pos}{newAcc first:Sem Value}{g:Comprehension}{gs:List Comprehension}{cl:List (Str×Addr)}{Q:Value->Shared->Prop}
  (hcl:clausesOf e=g::gs)(hs:∀x,foldedSetIterable g.iter env x=pure x)(hclos:closureFor scope env=pure cl)(hkind:scope.kind=.function)(hnames:∀x∈scope.names,x.2=.local->scope.names.lookup x.1=some .local)
  (h:wpAny M A first (λx s₁=>wpAny M A (pyIter x) (λit s₂=>wpAny M A newAcc (λacc s₃=>wpAny M A (newFunctionEnv scope env.globals cl [] env.qual none .none (some env)) (λcenv s₄ =>
   codeAny M A (.compStart e 0 it acc { cenv with scope:=relabel scope env }) (fH M A E Q acc { cenv with scope:=relabel scope env }) s₄) E s₃) E s₂) E s₁) E s) :
  wpAny M A (comprehension e scope env pos newAcc false first none) Q E s:=by
 unfold comprehension
 rw[hclos,hcl]
 refine wpAny_bind (wpAny_mono h (λx s₁ h₁=>?_) λ_ _ z=>z)
 refine wpAny_bind (wpAny_standAt (wpAny_bind (wpAny_of_eq (hs x) (wpAny_bind (wpAny_holding (wpAny_mono h₁ (λit s₂ h₂=>?_) λ_ _ z=>z))))))
 refine wpAny_standIf (wpAny_bind (wpAny_mono h₂ (λacc s₃ h₃=>wpAny_bind (wpAny_pure (wpAny_bind (wpAny_mono h₃ (λcenv s₄ h₄=>?_) λ_ _ z=>z)))) λ_ _ z=>z))
 dsimp only
 have hv:∀x∈(scope.names.filter λx=>(x.2==.local || x.2==.cell)&&x.1 != (".0" : Str)).reverse,x.2=.local->OO { cenv with scope:=relabel scope env } x.1=some .local :=
  λx hx hl=>lookup_relabel_local (hnames x (LQ.mp (OZ.mp hx)).1 hl)
 refine wpAny_holding (wpAny_bind (wpAny_attempt (wpAny_holding (wpAny_run (codeAny_mono h₄ λr s' hr=>?_)))))
 obtain⟨m,hn,hr⟩:=hr
 cases r with
 | ok f=>exact wpAny_bind (wpAny_holding (wpAny_comp_letGo (cenv:={ cenv with scope:=relabel scope env }) hkind _ s' m hv hn λh' m' hn' hs'=>wpAny_pure (hr h' m' hn' hs')))
 | error x=>exact wpAny_bind (wpAny_holding (wpAny_comp_letGo (cenv:={ cenv with scope:=relabel scope env }) hkind _ s' m hv hn λh' m' hn' hs'=>wpAny_mono (hr h' m' hn' hs') (λ_ _ f=>f.elim) λ_ _ y=>y))
section
variable{X:Cx}{N:List Str}{k:Nat}{sc:Scope}{cl:List (Str×Addr)}{C:Addr}{tg elt iter:Expr}{ifs:List Expr}{pos:Pos}{g:TG}{tt:TT}{te:TE}{wi:TI}{E:XK}{fp:List Addr}
theorem v7{pins pins':List (Addr×Obj)}{σ σ':St}{H H':Hp}{s s':Shared}(I:Inv X pins σ H s)(I':Inv (cxC X N sc cl C s H fp) pins' σ' H' s')(hf:∀b∈fp,gk X pins H b):Inv X pins σ H' s' :=
 I.wI I'.os I'.base I'.hok I'.bare (ch:=fp) λb hb=>by
  obtain⟨f0,f1,f2,f3,f4,f5⟩:=hf b hb
  exact⟨f3,f1,f4,f5⟩
theorem mH{pins:List (Addr×Obj)}{σ:St}{H:Hp}{s s':Shared}{e:Value}{Q:Value->Shared->Prop}{acc:Value}(hst:X.stack=X.env::X.outer)(hfr:X.env.frame=some X.env.locals)(pv:dX X E)(I:Inv X pins σ H s)(hf:∀b∈fp,gk X pins H b)(hC:s.heap.objs.size<=C)
  (x:(cxX X N sc cl C s H fp E).xe e s'):notedBy (model X.prog X.w) X.A (compEnvC sc cl C X.env) (λx s'=>fH (model X.prog X.w) X.A X.xe Q acc (compEnvC sc cl C X.env) (.error x) s') e s':=by
 obtain⟨pins',σ',Hc,s1,a,C0,H',rfl,I1,fl,q⟩:=x
 have hA:X.A.frames=some (X.env::X.outer):=hst▸I.ok.frames
 have J:=v7 I I1 hf
 obtain⟨m1,ns1,_⟩:=I1.loc
 have ns1:s1.heap.Ns C m1:=ns1
 obtain⟨oc,es1,ep1,ec,rest1⟩:=id ns1
 have hn:Hc C=none:=I1.free
 have nl:C∉frs X.stack:=I.fW hC
 have v0:fg .none X.prog X.w (X.env::X.outer) Hc s1 a C0 H' s':=hst▸fl.v
 show wpAny _ X.A (noteFrame (.ref a) X.env) _ _ s'
 refine v0.note hA hfr λs2 v2=>?_
 have v2:fg (rawInt X.env.locals) X.prog X.w X.stack Hc s1 a C0 H' s2:=hst▸v2
 have k2:s2.heap.get? C=some oc:=v2.un.keep C oc ec hn nl (λz=>nomatch z)
 refine⟨m1,⟨oc,es1,ep1,k2,rest1⟩,λh' m' hn' sb=>?_⟩
 obtain⟨od,_,_,ed,_⟩:=id hn'
 obtain⟨v3,sb3⟩:=v2.let ec hn nl sb ed
 have J3:Inv X pins σ Hc { s1 with heap:=s1.heap.update C λ_=>od }:=I.letGo J hC hn sb3
 obtain⟨base,a0,⟨_,_,_,oe,vs,T,oT,ts,he,hcls,hd,h1,_⟩,_⟩:=id v3.fl
 unfold PySem.passOn
 refine wpAny_bind (wpAny_field he hd h1 ?_)
 rw[if_neg (show ¬ ((KL T==LU)=true) from by simp)]
 show wpAny _ X.A (do setFlight (.ref a) X.env.frame;throw (.ref a)) _ _ _
 rw[hfr]
 refine wpAny_bind (v3.set λs4 v4=>?_)
 exact wpAny_throw (pv pins σ Hc _ a C0 _ H' s4 hfr J3 v4 q)
theorem ue(hc:X.calm=true)(hst:X.stack=X.env::X.outer)(hfr:X.env.frame=some X.env.locals)(pv:dX X E)(S:bE X.N N k sc X.env.scope)(hi:PI X tg iter wi)(hg:∀cl C s H fp,PG (cxX X N sc cl C s H fp E) tg g)(ht:∀cl C s H fp,PF (cxX X N sc cl C s H fp E) ifs tt)
  (he:∀cl C s H fp,PE (cxX X N sc cl C s H fp E) elt te)(hs:∀x,foldedSetIterable iter X.env x=pure x):PE X (.ListComp elt [⟨tg,iter,ifs,0⟩] sc pos) (j2 k wi g tt te):=by
 intro pins s σ H Q I h
 obtain⟨cl,hclos,h1,h2⟩:=dR I S
 rw[eval_ListComp]
 refine oF rfl hs hclos S.kind S.names (thn (hi pins s σ H _ I h) λv s1 q1=>thn q1 λitv s2 q2=>?_)
 obtain⟨it,fp,tn,J,H2,rfl,I2,T,st2,f2,B⟩:=q2
 refine hZ (RR:=λacc cenv=>fH (model X.prog X.w) X.A X.xe (EP X pins σ Q) acc cenv) hc S h1 h2 I2 T st2 f2 B (λC=>hg cl C s2 H2 fp) (λC=>ht cl C s2 H2 fp) (λC=>he cl C s2 H2 fp) ?_ λD C hC e s' x=>mH hst hfr pv I2 f2 hC x
 intro D C s' H' ys I' hC hn hm q
 obtain⟨m,hm⟩:=hm
 exact⟨m,hm,λh' _ _ sb=>⟨.ref D,_,I2.letGo I' hC hn sb,rfl,q⟩⟩
end
end L2
namespace M
open PySem L2
noncomputable def cf(G:Mg)(t:Mi Bool)(e:Mi Rr):List A->List A->List Sl->Option (Except Str (List A)×List Sl)
 | [],acc,ρ=>some (.ok acc,ρ)
 | a::as,acc,ρ=>match G a ρ with
  | none=>none
  | some ρ1=>match t ρ1 with
   | some (.ok true,ρ2)=>match e ρ2 with
    | some (.ok r,ρ3)=>match aQ r ρ3 with
     | some (d,ρ4)=>cf G t e as (acc++[d]) ρ4
     | none=>none
    | some (.error x,ρ3)=>some (.error x,ρ3)
    | none=>none
   | some (.ok false,ρ2)=>cf G t e as acc ρ2
   | _=>none
noncomputable def EU:Except Str (List A)->Except Str Rr
 | .ok ys=>.ok (.nw (.lst ys))
 | .error x=>.error x
noncomputable def dI(n:Nat)(mi:Mi (List A))(G:Mg)(t:Mi Bool)(e:Mi Rr):Mi Rr:=aq mi λas ρ=>if as.length<=100000 then match cf G t e as [] (ρ++J8 n .un) with
 | some (r,ρ')=>some (EU r,ρ'.take ρ.length)
 | none=>none else none
theorem Bd.tR{c:Cn}{σ:St}{H:Hp}{ρ:List Sl}{τ:St}{θ:List Sl}:∀{xs:St}{ss:List Sl},xs.length=ss.length->Bd c σ H ρ (xs++τ) (ss++θ)->Bd c σ H ρ τ θ
 | [],[],_,b=>b
 | x::xs,s::ss,e,b=>Bd.tR (xs:=xs) (ss:=ss) (by simpa using e) (Bd.pop b)
 | [],_::_,e,_=>by simp at e
 | _::_,[],e,_=>by simp at e
section
variable{X:Cx}{E:XK}
theorem oy{n:Nat}{G:Mg}{mt:Mi Bool}{me:Mi Rr}{lo:Nat}{c:Cn}{σ τ τi:St}{H1:Hp}{ρ1 ρ2:List Sl}{θ:List Sl}{θi as:List A}{res:Except Str (List A)}{J:It}{Q:VK}(hlo:σ.length=lo)(ek:c.toKx=kx X)(li:τi.length=θi.length)
  (it:∀σ H ρ τx θx i,τx.length=θx.length->Bd c σ H ρ (τx++(τi++τ)) (θx++(θi.map Sl.fr++θ))->(as.length<=i->J.stop i H)/\∀a,as[i]?=some a->J.go i H/\∀x H',J.yld i H x H'->Bd c σ H' ρ (some x::(τx++(τi++τ))) (.fr a::(θx++(θi.map Sl.fr++θ))))
  (b1:Bd c σ H1 ρ1 (τi++τ) (θi.map Sl.fr++θ))(h100:as.length<=100000)(ec:cf G mt me as [] (ρ1++J8 n .un)=some (res,ρ2))(q:Ret (kx X) E c σ (ρ2.take ρ1.length) τ θ Q (EU res)) :
  mR J (TGm (kx X) lo G) (TTm (kx X) E00 mt) (TEm (kx X) E me) Q (σ++J8 n none) H1:=by
 have hlen:σ.length=ρ1.length:=b1.sL
 refine⟨λi m σ' vs H'=>m=as.length-i/\i<=as.length/\σ'.take lo=σ/\∃ρi acc,vs.length=acc.length/\acc.length<=i/\Bd c σ' H' ρi (vs.reverse.map some++(τi++τ)) (acc.reverse.map Sl.fr++(θi.map Sl.fr++θ))/\cf G mt me (as.drop i) acc ρi=some (res,ρ2),
  ⟨_,rfl,K7 _,by rw[<- hlo,Nt],_,[],rfl,K7 _,b1.Fb,by simpa using ec⟩,?_⟩
 rintro i m σ' vs H' ⟨rfl,hi,htk,ρi,acc,lv,la,bi,ei⟩
 refine⟨by have:=fo;omega,?_⟩
 obtain⟨i1,i2⟩:=it σ' H' ρi (vs.reverse.map some) (acc.reverse.map Sl.fr) i (by simp[lv]) bi
 by_cases hlt:i<as.length
 ·have hd:as.drop i=as[i]::as.drop (i+1):=KG hlt
  rw[hd] at ei
  obtain⟨go,yl⟩:=i2 as[i] (by simp[hlt])
  refine .inr ⟨go,λσ2 vs2 H2=>σ2.take lo=σ/\∃ρ3 acc2,vs2.length=acc2.length/\acc2.length<=i+1/\Bd c σ2 H2 ρ3 (vs2.reverse.map some++(τi++τ)) (acc2.reverse.map Sl.fr++(θi.map Sl.fr++θ))/\cf G mt me (as.drop (i+1)) acc2 ρ3=some (res,ρ2),
   λσ2 vs2 H2 ⟨q0,ρ3,acc2,q1,q2,q3,q4⟩=>⟨as.length-(i+1),by omega,rfl,hlt,q0,ρ3,acc2,q1,q2,q3,q4⟩,λx H2 y=>?_⟩
  have b2:=yl x H2 y
  unfold cf at ei
  cases eg:G as[i] ρi with
  | none=>simp only[eg] at ei;cases ei
  | some ρ3 =>
   simp only[eg] at ei
   refine⟨c,ρi,_,_,as[i],ρ3,ek,b2,eg,λσ3 H3 t3 l3 b3=>?_⟩
   cases et:mt ρ3 with
   | none=>simp only[et] at ei;cases ei
   | some p =>
    obtain⟨ot,ρ4⟩:=p
    cases ot with
    | error e=>simp only[et] at ei;cases ei
    | ok k =>
     refine⟨c,ρ3,_,_,.ok k,ρ4,ek,b3,et,λH4 b4=>?_⟩
     cases k with
     | false =>
      simp only[et] at ei
      rw[if_neg (by decide)]
      exact⟨t3.trans htk,ρ4,acc,lv,by omega,b4,ei⟩
     | true =>
      simp only[et] at ei
      rw[if_pos rfl]
      cases ee:me ρ4 with
      | none=>simp only[ee] at ei;cases ei
      | some p =>
       obtain⟨oe,ρ5⟩:=p
       cases oe with
       | error e =>
        simp only[ee] at ei
        cases ei
        refine⟨c,ρ4,_,_,.error e,ρ2,ek,b4,ee,λC5 H5 hm b5=>q C5 H5 hm ?_⟩
        have b8:=Bd.tR (xs:=vs.reverse.map some++τi) (ss:=acc.reverse.map Sl.fr++θi.map Sl.fr) (by simp[lv,li]) (by simpa[JY] using b5)
        have es:σ3=σ++σ3.drop lo:=by rw[<- t3.trans htk];exact(LI _ _).symm
        rw[es] at b8
        have b9:=b8.E4
        rw[hlen] at b9
        exact b9
       | ok r =>
        simp only[ee] at ei
        refine⟨c,ρ4,_,_,.ok r,ρ5,ek,b4,ee,λv H5 hv b5=>?_⟩
        cases ef:aQ r ρ5 with
        | none=>simp only[ef] at ei;cases ei
        | some p =>
         obtain⟨d,ρ6⟩:=p
         simp only[ef] at ei
         have b6:=Bd.aQ (xs:=[]) (ss:=[]) rfl b5 hv ef
         exact⟨t3.trans htk,ρ6,acc++[d],by simp[lv],by simp;omega,by simpa using b6,ei⟩
 ·have e:i=as.length:=by omega
  subst e
  rw[LJ] at ei
  cases ei
  refine .inl ⟨i1 (J1 _),λp hp=>?_⟩
  have b7:=Bd.o9 bi (by simp[lv]) hp vs acc k6
  have b8:=Bd.pG (by simp[li]) b7
  have es:σ'=σ++σ'.drop lo:=by rw[<- htk];exact(LI _ _).symm
  rw[es] at b8
  have b9:=b8.E4
  rw[hlen] at b9
  exact q _ _ trivial b9
theorem jm{n:Nat}{mi:Mi (List A)}{G:Mg}{mt:Mi Bool}{me:Mi Rr}{lo:Nat}(σ:St)(H:Hp)(Q:VK)(hlo:σ.length=lo)(h:TEm (kx X) E (dI n mi G mt me) σ H Q) :
  j2 n (TIm (kx X) E mi) (TGm (kx X) lo G) (TTm (kx X) E00 mt) (TEm (kx X) E me) σ H Q:=by
 obtain⟨c,ρ,τ,θ,o,ρ',ek,b,em,q⟩:=h
 rcases bind_some em with ⟨as,ρ1,e1,e2⟩|⟨e,e1,e2⟩
 ·refine⟨c,ρ,τ,θ,_,ρ1,ek,b,e1,λJ H1 τi θi li it b1=>?_⟩
  split at e2
  ·rename_i h100
   cases ec:cf G mt me as [] (ρ1++J8 n .un) with
   | none=>simp only[ec] at e2;cases e2
   | some p =>
    obtain⟨res,ρ2⟩:=p
    simp only[ec] at e2
    cases e2
    exact oy hlo ek li (λσ H ρ τx θx i l b=>it c σ H ρ τx θx τ θ i ek l b) b1 h100 ec q
  ·cases e2
 ·subst e2
  exact⟨c,ρ,τ,θ,_,ρ',ek,b,e1,λC H1 hm b1=>q C H1 hm b1⟩
theorem tI{N:List Str}{k:Nat}{sc:Scope}{tg elt iter:Expr}{ifs:List Expr}{pos:Pos}{mi:Mi (List A)}{G:Mg}{mt:Mi Bool}{me:Mi Rr}{lo:Nat}(hc:X.calm=true)(hst:X.stack=X.env::X.outer)(hfr:X.env.frame=some X.env.locals)(pv:dX X E)(S:bE X.N N k sc X.env.scope)(hlo:X.N.length=lo)(hi:JI X E tg iter mi)
  (hg:∀cl C s H fp,JG (cxX X N sc cl C s H fp E) lo tg G)(ht:∀cl C s H fp,JF (cxX X N sc cl C s H fp E) E00 ifs mt)(he:∀cl C s H fp,JE (cxX X N sc cl C s H fp E) E elt me)(hs:∀x,foldedSetIterable iter X.env x=pure x) :
  JE X E (.ListComp elt [⟨tg,iter,ifs,0⟩] sc pos) (dI k mi G mt me) :=
 ⟨λpins s σ H Q I h=>ue hc hst hfr pv S hi.p (λcl C s H fp=>(hg cl C s H fp).p) (λcl C s H fp=>(ht cl C s H fp).p) (λcl C s H fp=>(he cl C s H fp).p) hs pins s σ H Q I (jm σ H Q (I.len.trans hlo) h)⟩
end
end M
namespace L2
open PySem PySem.Spec PyProof.Rows
section
variable{X:Cx}
theorem se:aY X (.type "str") (λxs H Q=>∃a:Int,xs=[.int a]/\a.natAbs.log2<1920/\Q (.str (toString a)) H):=by
 intro pins s σ H xs us Q I r h
 obtain⟨a,rfl,hl,q⟩:=h
 obtain⟨u,rfl,t,rfl⟩:=vals1 r
 exact P.str_of_int hl ⟨.str (toString a),H,I.tok _,⟨_,rfl⟩,q⟩
theorem rN:aY X (.type "int") (λxs H Q=>∃(z:Str) (n:Int),xs=[.str z]/\Nj z=some n/\z.length<=640/\Q (.int n) H):=by
 intro pins s σ H xs us Q I r h
 obtain⟨z,n,rfl,hn,hl,q⟩:=h
 obtain⟨u,rfl,t,rfl⟩:=vals1 r
 exact Qs hn hl ⟨.int n,H,I.tok _,⟨_,rfl⟩,q⟩
noncomputable def aA(z y:Str):Bool:=decide (0+y.length<=z.length)&&Qt z y 0
noncomputable def lZ:V->List V->Hp->VK->Prop:=λx vs H Q=>∃z y:Str,x=.str z/\vs=[.str y]/\Q (.bl (aA z y)) H
theorem sO:MtR X "str.startswith" lZ:=by
 intro pins s σ H x vs v us Q I rx rv h
 obtain⟨z,y,rfl,rfl,q⟩:=h
 obtain⟨t,rfl⟩:=rx
 obtain⟨u,rfl,t2,rfl⟩:=vals1 rv
 exact call_meets F.slot_str_startswith (typeIs_str _ _ _) F.entry_str_startswith (F.args_str_startswith_2 _ _) (gives_str_startswith z y t t2).meets (show (Made.val (.bool (aA z y))).post _ s from ⟨.bl (aA z y),H,I,rfl,q⟩)
noncomputable def aW(x y:Str):List Str:=if (decide (x.length<y.length) || decide (K6 x<K6 y))=true then [x] else
 if (Kn x y 0 x.length (x.length+1)).isEmpty=true then [x] else M5 x (Kn x y 0 x.length (x.length+1)) y.length
noncomputable def pf:V->List V->Hp->VK->Prop:=λx vs H Q=>∃z y:Str,x=.str z/\vs=[.str y]/\z.length<=sizeLine/\(y.length==0)=false/\(aW z y).length<=sizeLine/\∀l,H l=none->Q (.ref l) (upd H l (.lst ((aW z y).map V.str)))
theorem j3:∀(ss:List Str)(t:Nat),Vals (ss.map V.str) (strsFrom t ss)
 | [],_=>.nil
 | _::ss,t=>.cons ⟨t,rfl⟩ (j3 ss (t+1))
theorem wc:MtR X "str.split" pf:=by
 intro pins s σ H x vs v us Q I rx rv h
 obtain⟨z,y,rfl,rfl,hz,hy,hn,q⟩:=h
 obtain⟨t,rfl⟩:=rx
 obtain⟨u,rfl,t2,rfl⟩:=vals1 rv
 have fin:∀(ss:List Str)(its:List Value)(tk:Nat),aW z y=ss->Vals (ss.map V.str) its->EP X pins σ Q (.ref s.heap.objs.size) { s with toks:=tk,heap:=s.heap.push { cls:=.type "list",data:=.seq its.toArray } }:=λss its tk e r=>by
  refine⟨.ref s.heap.objs.size,_,I.laid (t':=tk) (o:=.lst (ss.map V.str)) (λb ob q=>JM _ q) (J1 _) ⟨by rw[Ke,<- e];exact hn,its,_,r,Kb _ rfl⟩,rfl,?_⟩
  rw[<- e]
  exact q _ (I.hok.fresh (J1 _))
 cases h1:(decide (z.length<y.length) || decide (K6 z<K6 y)) with
 | true =>
  exact call_meets Nk (typeIs_str _ _ _) Nd (M6 _ _) (meets_str_split_cannot_occur z y t t2 h1) (fin [z] [.str z t] s.toks (by unfold aW;rw[if_pos h1]) (.cons ⟨t,rfl⟩ .nil))
 | false =>
  have e1:¬ ((decide (z.length<y.length) || decide (K6 z<K6 y))=true):=by rw[h1];exact Kc
  cases h2:(Kn z y 0 z.length (z.length+1)).isEmpty with
  | true=>exact call_meets Nk (typeIs_str _ _ _) Nd (M6 _ _) (meets_str_split_not_found z y t t2 h1 hy h2) (fin [z] [.str z t] s.toks (by unfold aW;rw[if_neg e1,if_pos h2]) (.cons ⟨t,rfl⟩ .nil))
  | false =>
   have e2:aW z y=M5 z (Kn z y 0 z.length (z.length+1)) y.length:=by unfold aW;rw[if_neg e1,if_neg (by rw[h2];exact Kc)]
   exact call_meets Nk (typeIs_str _ _ _) Nd (M6 _ _) (meets_str_split_sep z y t t2 h1 hy h2 hz (by rw[<- e2];exact hn)) (fin _ _ _ e2 (j3 _ _))
theorem CU{e:Expr}{te:TE}{pos:Pos}(h1:PE X e te):PE X (.FormattedValue e (-1) none pos) (λσ H Q=>te σ H λx H1=>∃a:Int,x=.int a/\a.natAbs.log2<1920/\Q (.str (toString a)) H1):=by
 intro pins s σ H Q I h
 refine FormattedValue_plain (thn (h1 pins s σ H _ I h) λv s1 ⟨x,H1,I1,r1,q1⟩=>?_)
 obtain⟨a,rfl,ha,q⟩:=q1
 obtain⟨tk,rfl⟩:=r1
 exact formatField_int_small ha ⟨.str (toString a),H1,I1.tok _,⟨_,rfl⟩,q⟩
theorem DS{v:Expr}{t:TE}{pos:Pos}(h:PE X v t):PE X (.JoinedStr [v] pos) t:=λpins s σ H Q I q=>JoinedStr_one (h pins s σ H Q I q)
end
end L2
namespace M
open PySem L2
section
variable{X:Cx}{E:XK}
noncomputable def ix:A->Option Rr
 | .int a=>if a.natAbs.log2<1920 then some (.fr (.str (toString a))) else none
 | _=>none
theorem ET{K:Kx}:UnS K (λv H Q=>∃a:Int,[v]=[.int a]/\a.natAbs.log2<1920/\Q (.str (toString a)) H) ix:=.scalar λH v a q r1 h=>by
 cases a<;>first|(cases h;done)|skip
 unfold ix at h
 simp only at h
 split at h
 ·rename_i hl
  cases r1;cases h
  exact⟨_,_,rfl,λ_=>.str _,λQ k=>⟨_,rfl,hl,k⟩⟩
 ·cases h
noncomputable def ku:A->Option Rr
 | .str z=>if z.length<=640 then match Nj z with
  | some n=>some (.fr (.int n))
  | none=>none else none
 | _=>none
theorem zO{K:Kx}:UnS K (λv H Q=>∃(z:Str) (n:Int),[v]=[.str z]/\Nj z=some n/\z.length<=640/\Q (.int n) H) ku:=.scalar λH v a q r1 h=>by
 cases a<;>first|(cases h;done)|skip
 unfold ku at h
 simp only at h
 split at h
 ·rename_i hl
  split at h
  ·rename_i n en
   cases r1;cases h
   exact⟨_,_,rfl,λ_=>.int _,λQ k=>⟨_,n,rfl,en,hl,k⟩⟩
  ·cases h
 ·cases h
noncomputable def cy(z:Str):A->Option Rr
 | .str y=>some (.fr (.bl (aA z y)))
 | _=>none
theorem tf{K:Kx}(z:Str):UnS K (λw=>lZ (.str z) [w]) (cy z):=.scalar λH v a q r1 h=>by
 cases a<;>first|(cases h;done)|skip
 cases r1;cases h
 exact⟨_,_,rfl,λ_=>.bl _,λQ k=>⟨_,_,rfl,rfl,k⟩⟩
noncomputable def dr(z:Str):A->Option Rr
 | .str y=>if z.length<=10000/\(y.length==0)=false/\(aW z y).length<=10000 then some (.nw (.lst ((aW z y).map A.str))) else none
 | _=>none
theorem rj{k:Kx}{G:Hp}:∀(ss:List Str),RAs k G (ss.map V.str) (ss.map A.str)
 | []=>.nil
 | _::ss=>.cons (.str _) (rj ss)
theorem vM{K:Kx}(z:Str):UnS K (λw=>pf (.str z) [w]) (dr z):=by
 intro c σ H ρ τ θ x v a q Q ek hv bd e1 e3 k
 obtain⟨L,bl,i1⟩:=Bd.open bd hv e1
 have r1:=Bd.rd bd hv e1
 cases a<;>first|(cases e3;done)|skip
 unfold dr at e3
 simp only at e3
 split at e3
 ·rename_i h
  cases e3;cases r1
  have l5:=pw
  exact⟨z,_,rfl,rfl,by omega,h.2.1,by omega,λl hl=>k _ _ trivial (bl.eJ hl λG H' sm q=>.lst q (rj _))⟩
 ·cases e3
theorem sh{o e:Expr}{mo m:Mi Rr}{apos cpos:Pos}(ho:JE X E o mo)(he:JE X E e m)(hp:∀{to te:TE},PE X o to->PE X e te->PE X (.Call (.Attribute o "startswith" apos) [e] [] cpos) (tBM X.K "str" lZ to (uU te Dv))) :
  JE X E (.Call (.Attribute o "startswith" apos) [e] [] cpos) (mS1 cy mo m):=⟨PE.weaken (hp ho.p he.p) λσ H Q h=>pK tf σ H Q h⟩
theorem uE{o e:Expr}{mo m:Mi Rr}{apos cpos:Pos}(ho:JE X E o mo)(he:JE X E e m)(hp:∀{to te:TE},PE X o to->PE X e te->PE X (.Call (.Attribute o "split" apos) [e] [] cpos) (tBM X.K "str" pf to (uU te Dv))) :
  JE X E (.Call (.Attribute o "split" apos) [e] [] cpos) (mS1 dr mo m):=⟨PE.weaken (hp ho.p he.p) λσ H Q h=>pK vM σ H Q h⟩
noncomputable def nB(m:Mi Rr):Mi Rr:=aq m λx ρ=>match x with
 | .fr (.int a)=>if a.natAbs.log2<1920 then some (.ok (.fr (.str (toString a))),ρ) else none
 | _=>none
theorem wB{e:Expr}{m:Mi Rr}{pos:Pos}(h1:JE X E e m):JE X E (.FormattedValue e (-1) none pos) (nB m):=⟨PE.weaken (CU h1.p) λσ H Q h=>by
 obtain⟨c,ρ,τ,θ,o,ρ',ek,b,em,q⟩:=h
 refine aP ek b em (λx v ρ1 H1 hv b1 em1=>?_) (aL q)
 cases x with
 | rf i=>cases em1
 | nw o=>cases em1
 | fr a =>
  cases a<;>first|(cases em1;done)|skip
  rename_i z
  simp only at em1
  split at em1
  ·rename_i hz
   have r1:=Bd.top b1 (a:=.int z) rfl
   cases r1
   cases em1
   exact⟨z,rfl,hz,q _ H1 trivial (b1.pop.push λ_=>.str _)⟩
  ·cases em1⟩
theorem D7{v:Expr}{m:Mi Rr}{pos:Pos}(h:JE X E v m):JE X E (.JoinedStr [v] pos) m:=⟨DS h.p⟩
end
end M
namespace L2
open PySem PySem.Spec PyProof.Rows
def jN(M:Model)(A:Around)(E:Value->Shared->Prop)(u:Value->Sem Unit)(Q:Value->Shared->Prop)(acc:Value)(cenv:Env)(r:Result)(s':Shared):Prop:=match r with
 | .ok _=>wpAny M A (u acc) (λ_ s''=>∃m,s''.heap.Ns cenv.locals m/\∀h',Le cenv.locals s''.heap h'->Q .none { s'' with heap:=h' }) E s'
 | .error x=>fH M A E Q acc cenv (.error x) s'
theorem sC{M:Model}{A:Around}{E:Value->Shared->Prop}{s:Shared}{env:Env}{e:Expr}{scope:Scope}{pos:Pos}{newAcc first:Sem Value}{g:Comprehension}{gs:List Comprehension}{cl:List (Str×Addr)}{u:Value->Sem Unit}{Q:Value->Shared->Prop}
  (hcl:clausesOf e=g::gs)(hs:∀x,foldedSetIterable g.iter env x=pure x)(hclos:closureFor scope env=pure cl)(hkind:scope.kind=.function)(hnames:∀x∈scope.names,x.2=.local->scope.names.lookup x.1=some .local)
  (h:wpAny M A first (λx s₁=>wpAny M A (pyIter x) (λit s₂=>wpAny M A newAcc (λacc s₃=>wpAny M A (newFunctionEnv scope env.globals cl [] env.qual none .none (some env)) (λcenv s₄ =>
   codeAny M A (.compStart e 0 it acc { cenv with scope:=relabel scope env }) (jN M A E u Q acc { cenv with scope:=relabel scope env }) s₄) E s₃) E s₂) E s₁) E s) :
  wpAny M A (comprehension e scope env pos newAcc false first (some u)) Q E s:=by
 unfold comprehension
 rw[hclos,hcl]
 refine wpAny_bind (wpAny_mono h (λx s₁ h₁=>?_) λ_ _ z=>z)
 refine wpAny_bind (wpAny_standAt (wpAny_bind (wpAny_of_eq (hs x) (wpAny_bind (wpAny_holding (wpAny_mono h₁ (λit s₂ h₂=>?_) λ_ _ z=>z))))))
 refine wpAny_standIf (wpAny_bind (wpAny_mono h₂ (λacc s₃ h₃=>wpAny_bind (wpAny_pure (wpAny_bind (wpAny_mono h₃ (λcenv s₄ h₄=>?_) λ_ _ z=>z)))) λ_ _ z=>z))
 dsimp only
 have hv:∀x∈(scope.names.filter λx=>(x.2==.local || x.2==.cell)&&x.1 != (".0" : Str)).reverse,x.2=.local->OO { cenv with scope:=relabel scope env } x.1=some .local :=
  λx hx hl=>lookup_relabel_local (hnames x (LQ.mp (OZ.mp hx)).1 hl)
 have hv':∀x∈(scope.names.filter λx=>(x.2==.local || x.2==.cell)&&x.1 != (".0" : Str)).reverse.drop 1++(scope.names.filter λx=>(x.2==.local || x.2==.cell)&&x.1 != (".0" : Str)).reverse.take 1,x.2=.local->OO { cenv with scope:=relabel scope env } x.1=some .local :=
  λx hx hl=>(J5.mp hx).elim (λz=>hv x (List.mem_of_mem_drop z) hl) λz=>hv x (List.mem_of_mem_take z) hl
 refine wpAny_holding (wpAny_bind (wpAny_attempt (wpAny_holding (wpAny_run (codeAny_mono h₄ λr s' hr=>?_)))))
 cases r with
 | ok f =>
  refine wpAny_bind (wpAny_rule (wpAny_bind (wpAny_holding (wpAny_mono hr (λ_ s'' hr'=>?_) λ_ _ z=>z))))
  obtain⟨m,hn,hr'⟩:=hr'
  exact wpAny_bind (wpAny_comp_letGo (cenv:={ cenv with scope:=relabel scope env }) hkind _ s'' m hv' hn λh' m' _ hs'=>wpAny_pure (hr' h' hs'))
 | error x =>
  obtain⟨m,hn,hr⟩:=hr
  exact wpAny_bind (wpAny_holding (wpAny_comp_letGo (cenv:={ cenv with scope:=relabel scope env }) hkind _ s' m hv hn λh' m' hn' hs'=>wpAny_mono (hr h' m' hn' hs') (λ_ _ f=>f.elim) λ_ _ y=>y))
section
variable{X:Cx}{N:List Str}{k:Nat}{sc:Scope}{tg elt iter:Expr}{ifs:List Expr}{pos:Pos}{g:TG}{tt:TT}{te:TE}{wi:TI}{E:XK}
theorem uz{i:Nat}{x:Str}{px spos:Pos}(hc:X.calm=true)(hst:X.stack=X.env::X.outer)(hfr:X.env.frame=some X.env.locals)(pv:dX X E)(S:bE X.N N k sc X.env.scope)(hN:X.N.Nodup)(hx:X.N[i]?=some x)(hl:X.env.scope.names.lookup x=some .local)
  (hsw:swapsWith (.ListComp elt [⟨tg,iter,ifs,0⟩] sc pos) (some (.Name x px)) spos.line X.env=pure true)(hi:PI X tg iter wi)(hg:∀cl C s H fp,PG (cxX X N sc cl C s H fp E) tg g)(ht:∀cl C s H fp,PF (cxX X N sc cl C s H fp E) ifs tt)
  (he:∀cl C s H fp,PE (cxX X N sc cl C s H fp E) elt te)(hs:∀x,foldedSetIterable iter X.env x=pure x):PS X (.Assign [.Name x px] (.ListComp elt [⟨tg,iter,ifs,0⟩] sc pos) spos) (rM (j2 k wi g tt te) (qR i)):=by
 intro pins s σ H D0 I h
 obtain⟨cl,hclos,h1,h2⟩:=dR I S
 rw[exec_Assign_Name_used _ _ _ _ hsw]
 refine wpAny_bind (wpAny_standAt (wpAny_bind ?_))
 show wpAny _ X.A (do let _ <- comprehension (.ListComp elt [⟨tg,iter,ifs,0⟩] sc pos) sc X.env _ (newList []) false (eval iter X.env) (some (assign (.Name x px) X.env))) _ _ s
 refine wpAny_bind (thn (sC (u:=assign (.Name x px) X.env) (Q:=λ_ s'=>SP X pins D0 .next s') rfl hs hclos S.kind S.names
  (thn (hi pins s σ H _ I h) λv s1 q1=>thn q1 λitv s2 q2=>?_)) λ_ s' hq=>wpAny_pure (wpAny_pure hq))
 obtain⟨it,fp,tn,J,H2,rfl,I2,T,st2,f2,B⟩:=q2
 refine hZ (RR:=λacc cenv=>jN (model X.prog X.w) X.A X.xe (assign (.Name x px) X.env) (λ_ s'=>SP X pins D0 .next s') acc cenv) hc S h1 h2 I2 T st2 f2 B (λC=>hg cl C s2 H2 fp) (λC=>ht cl C s2 H2 fp) (λC=>he cl C s2 H2 fp) ?_ λD C hC e s' x=>mH (Q:=λ_ s'=>SP X pins D0 .next s') (acc:=.ref D) hst hfr pv I2 f2 hC x
 intro D C s' H' ys I' hC hn hm q
 obtain⟨m,hm⟩:=hm
 show wpAny _ X.A (assign (.Name x px) X.env (.ref D)) _ _ _
 refine wpAny_assign_Name (hU I' hN hx (.inl hl) (v:=.ref D) rfl (λs'' I'' ch=>?_) (.inr hl))
 obtain⟨a,sb,ha⟩:=ch
 refine⟨m,hm.sameBut sb ?_,λh' sb'=>⟨_,_,I2.letGo I'' hC hn sb',q⟩⟩
 rintro rfl
 rcases ha with z|z
 ·exact absurd (JR I2.lt (by rw[<- z];exact hC)) (Kp _)
 ·obtain⟨v,q⟩:=I2.cell x _ z
  exact absurd (JR q.lt hC) (Kp _)
end
end L2
namespace M
open PySem L2
section
variable{X:Cx}{E:XK}
theorem xi{i:Nat}{x:Str}{px spos:Pos}{N:List Str}{k:Nat}{sc:Scope}{tg elt iter:Expr}{ifs:List Expr}{pos:Pos}{mi:Mi (List A)}{G:Mg}{mt:Mi Bool}{me:Mi Rr}{lo:Nat}(hc:X.calm=true)(hst:X.stack=X.env::X.outer)(hfr:X.env.frame=some X.env.locals)(pv:dX X E)(S:bE X.N N k sc X.env.scope)(hlo:X.N.length=lo)(hN:X.N.Nodup)(hx:X.N[i]?=some x)
  (hl:X.env.scope.names.lookup x=some .local)(hsw:swapsWith (.ListComp elt [⟨tg,iter,ifs,0⟩] sc pos) (some (.Name x px)) spos.line X.env=pure true)(hi:JI X E tg iter mi)
  (hg:∀cl C s H fp,JG (cxX X N sc cl C s H fp E) lo tg G)(ht:∀cl C s H fp,JF (cxX X N sc cl C s H fp E) E00 ifs mt)(he:∀cl C s H fp,JE (cxX X N sc cl C s H fp E) E elt me)(hs:∀x,foldedSetIterable iter X.env x=pure x) :
  JS X E (.Assign [.Name x px] (.ListComp elt [⟨tg,iter,ifs,0⟩] sc pos) spos) (aJ i (dI k mi G mt me)) :=
 ⟨λpins s σ H D I h=>uz hc hst hfr pv S hN hx hl hsw hi.p (λcl C s H fp=>(hg cl C s H fp).p) (λcl C s H fp=>(ht cl C s H fp).p) (λcl C s H fp=>(he cl C s H fp).p) hs pins s σ H D I (by
  obtain⟨c,ρ,τ,θ,f,ρ',ek,b,em,q⟩:=h
  refine jm (E:=E) σ H _ (I.len.trans hlo) (cU ek b em q λr v ρ1 H1 hv b1 em1=>?_)
  cases e1:stT r ρ1 with
  | none=>simp only[e1] at em1;cases em1
  | some p =>
   obtain⟨t,ρ2⟩:=p
   simp only[e1] at em1
   obtain⟨b2,ht⟩:=Bd.stT hv b1 e1
   cases e2:put i t ρ2 with
   | none=>simp only[e2] at em1;cases em1
   | some ρ3 =>
    simp only[e2] at em1;cases em1
    exact q _ H1 (Bd.put b2 ht e2))⟩
end
end M
namespace M
open PySem L2 W
noncomputable def bO(f:Ms)(das:List A):List Rr->Mi Rr:=λrs ρ=>match bZ (rs++das.map Rr.fr) ρ with
 | some (as,ρt)=>match f (as.map toP) with
  | some (.rt s,ρc)=>match jD s,putL ρ (rs++das.map Rr.fr) (ar as.length ρc) ρt with
   | some r,some ρ'=>some (.ok r,ρ')
   | _,_=>none
  | some (.ex x,ρc)=>match putL ρ (rs++das.map Rr.fr) (ar as.length ρc) ρt with
   | some ρ'=>some (.error x,ρ')
   | none=>none
  | _=>none
 | none=>none
def Val(f:Ms)(as:List A)(a:A):Prop:=∃ρ,f (as.map Sl.fr)=some (.rt (.fr a),ρ)
def xD(f:Ms)(as:List A)(o:LO):Prop:=∃ρ,f (as.map Sl.fr)=some (.rt (.lv o),ρ)
def eI(f:Ms)(as:List A)(x:Str):Prop:=∃ρ,f (as.map Sl.fr)=some (.ex x,ρ)
def gj(f:Ms)(o:LO)(as:List A)(s:Sl)(o':LO):Prop:=∃ρ,f (.pv o::as.map Sl.fr)=some (.rt s,.pv o'::ρ)
theorem gI(as:List A)(ρ:List Sl):bZ (as.map Rr.fr) ρ=some (as.map Sl.fr,ρ):=by
 induction as generalizing ρ with
 | nil=>rfl
 | cons a as ih=>simp only[JU,bZ,take1,ih]
theorem lY(as:List A):(as.map Sl.fr).map toP=as.map Sl.fr:=by rw[MV];rfl
theorem gO(ρ0:List Sl):∀(as:List A)(ss:List Sl)(ρ:List Sl),as.length=ss.length->putL ρ0 (as.map Rr.fr) ss ρ=some ρ
 | [],[],ρ,_=>rfl
 | a::as,s::ss,ρ,h=>by rw[JU,putL,gO ρ0 as ss ρ (by simpa using h)];rfl
 | [],_::_,_,h=>by simp at h
 | _::_,[],_,h=>by simp at h
theorem bc{f:Ms}{as:List A}{a:A}(h:Val f as a)(ρ:List Sl):bO f [] (as.map Rr.fr) ρ=some (.ok (.fr a),ρ):=by
 obtain⟨ρc,h⟩:=h
 unfold bO
 rw[J7,Km,gI]
 simp only[lY,h,jD]
 rw[gO _ _ _ _ (by rw[bK,Ke])]
theorem yE{f:Ms}{as:List A}{o:LO}(h:xD f as o)(ρ:List Sl):bO f [] (as.map Rr.fr) ρ=some (.ok (.nw o),ρ):=by
 obtain⟨ρc,h⟩:=h
 unfold bO
 rw[J7,Km,gI]
 simp only[lY,h,jD]
 rw[gO _ _ _ _ (by rw[bK,Ke])]
theorem qd{f:Ms}{as:List A}{x:Str}(h:eI f as x)(ρ:List Sl):bO f [] (as.map Rr.fr) ρ=some (.error x,ρ):=by
 obtain⟨ρc,h⟩:=h
 unfold bO
 rw[J7,Km,gI]
 simp only[lY,h]
 rw[gO _ _ _ _ (by rw[bK,Ke])]
theorem lz{f:Ms}{as:List A}{o o':LO}{s:Sl}{r:Rr}{i:Nat}{ρ:List Sl}(h:gj f o as s o')(hr:jD s=some r)(hl:aH ρ i=some o):bO f [] (.rf i::as.map Rr.fr) ρ=some (.ok r,setAt ρ i o'):=by
 obtain⟨ρc,h⟩:=h
 unfold aH at hl
 unfold setAt
 have hi:∀s,ρ[i]?=some s->(ρ.set i Sl.un)[i]?=some .un:=λs e=>Kk (J0.mp e).1
 have key:∀(s0:Sl)(k:LO->Sl),ρ[i]?=some s0->take1 (.rf i) ρ=some (.lv o,ρ.set i .un)->(∀s ρ',ρ'[i]?=some Sl.un->nS ρ (.rf i) (.pv s) ρ'=some (ρ'.set i (k s)))->bO f [] (.rf i::as.map Rr.fr) ρ=some (.ok r,ρ.set i (k o')):=by
  intro s0 k es ht hp
  unfold bO
  rw[J7,Km,bZ,ht]
  simp only[gI]
  have h':f (Oi toP (Sl.lv o::Oi Sl.fr as))=some (.rt s,.pv o'::ρc):=by rw[JU,lY];exact h
  rw[h']
  simp only[hr]
  have hb:ar (Sl.lv o::Oi Sl.fr as).length (.pv o'::ρc)=.pv o'::ar as.length ρc:=by rw[JZ,Ke];rfl
  rw[hb,putL,gO _ _ _ _ (by rw[bK])]
  simp only[hp _ _ (hi s0 es),List.set_set]
 cases es:ρ[i]? with
 | none=>simp only[es] at hl;cases hl
 | some t =>
  cases t with
  | un=>simp only[es] at hl;cases hl
  | fr a=>simp only[es] at hl;cases hl
  | lv o1 =>
   simp only[es] at hl;cases hl
   refine key _ Sl.lv es (by unfold take1;simp only[es]) λs ρ' e=>?_
   unfold nS
   simp only[es,e]
  | pv o1 =>
   simp only[es] at hl;cases hl
   refine key _ Sl.pv es (by unfold take1;simp only[es]) λs ρ' e=>?_
   unfold nS
   simp only[es,e]
theorem nR{G:Mg}{b:Ms}{as:List A}(P:Nat->List Sl->Prop){ρ:List Sl}(h0:P 0 ρ)(hs:∀i a ρ,as[i]?=some a->P i ρ->∃ρ1 ρ2,G a ρ=some ρ1/\(b ρ1=some (.nx,ρ2)\/b ρ1=some (.ct,ρ2))/\P (i+1) ρ2) :
  ∃ρ',forL G b as ρ=some (.nx,ρ')/\P as.length ρ':=by
 have key:∀n i ρ,as.length-i=n->i<=as.length->P i ρ->∃ρ',forL G b (as.drop i) ρ=some (.nx,ρ')/\P as.length ρ':=by
  intro n
  induction n with
  | zero =>
   intro i ρ e hi p
   have:i=as.length:=by omega
   subst this
   exact⟨ρ,by rw[LJ];rfl,p⟩
  | succ n ih =>
   intro i ρ e hi p
   have hlt:i<as.length:=by omega
   obtain⟨ρ1,ρ2,h1,h2,h3⟩:=hs i as[i] ρ (by simp[hlt]) p
   obtain⟨ρ',h4,h5⟩:=ih (i+1) ρ2 (by omega) hlt h3
   refine⟨ρ',?_,h5⟩
   rw[KG hlt,forL,h1]
   rcases h2 with h2|h2
   ·simp only[h2];exact h4
   ·simp only[h2];exact h4
 simpa using key as.length 0 ρ (by simp) (K7 _) h0
theorem kz{t:Mi Bool}{b:Ms}(P:Nat->List Sl->Prop)(Q:List Sl->Prop)(hs:∀k ρ,P k ρ->(∃ρ1,t ρ=some (.ok false,ρ1)/\Q ρ1)\/∃ρ1 ρ2 k',t ρ=some (.ok true,ρ1)/\(b ρ1=some (.nx,ρ2)\/b ρ1=some (.ct,ρ2))/\k'<k/\P k' ρ2) :
  ∀{n k:Nat}{ρ:List Sl},P k ρ->k<n->∃ρ',c9 t b n ρ=some (.nx,ρ')/\Q ρ':=by
 intro n
 induction n with
 | zero=>intro k ρ _ h;omega
 | succ n ih =>
  intro k ρ p hk
  rcases hs k ρ p with ⟨ρ1,h1,h2⟩|⟨ρ1,ρ2,k',h1,h2,h3,h4⟩
  ·exact⟨ρ1,by rw[c9,h1],h2⟩
  ·obtain⟨ρ',h5,h6⟩:=ih h4 (by omega)
   refine⟨ρ',?_,h6⟩
   rw[c9,h1]
   rcases h2 with h2|h2
   ·simp only[h2];exact h5
   ·simp only[h2];exact h5
theorem wa{n:Nat}(h:n<2^9500):n<BIG:=JR h (by unfold BIG;exact Ln (by decide) (by decide))
noncomputable def nm(x:Num):A:=.tup [.int x.1,.int x.2]
theorem Et(x:Num):toD (nm x)=some (.tup [.int x.1,.int x.2]):=by
 simp[nm,toD,jH]
theorem EW(x y:Num):eqA (nm x) (nm y)=some (decide (x=y)):=by
 unfold eqA
 simp only[Et]
 rw[if_pos (by simp[D.depth,D.gh])]
 obtain⟨x1,x2⟩:=x
 obtain⟨y1,y2⟩:=y
 simp[D.eq,D.eqs,Mw]
theorem Ao(i j:Int):eqA (.int i) (.int j)=some (decide (i=j)):=by
 unfold eqA
 simp only[toD]
 rw[if_pos (by simp[D.depth])]
 simp[D.eq,Mw]
section
variable{α β:Type}{ρ:List Sl}
theorem Du(m:Mi α)(f:α->Mi β):aq m f ρ=(match m ρ with|some (.ok x,ρ1)=>f x ρ1|some (.error e,ρ1)=>some (.error e,ρ1)|none=>none):=rfl
theorem xJ(m:Mi α)(f:α->Ms):a8 m f ρ=(match m ρ with|some (.ok x,ρ1)=>f x ρ1|some (.error e,ρ1)=>some (.ex e,ρ1)|none=>none):=rfl
theorem Ed(x:α):(cV x:Mi α) ρ=some (.ok x,ρ):=rfl
theorem F4(i:Nat):ag i ρ=(match ρ[i]? with|some (.fr a)=>some (.ok (.fr a),ρ)|some (.lv _)=>some (.ok (.rf i),ρ)|some (.pv _)=>some (.ok (.rf i),ρ)|_=>none):=rfl
theorem Bj(i:Nat):aM i ρ=(match ρ[i]? with|some (.fr a)=>some (.ok (.fr a),ρ)|some (.lv o)=>some (.ok (.fr o.a),ρ.set i (.fr o.a))|_=>none):=rfl
theorem e_C(a:A):mC a ρ=some (.ok (.fr a),ρ):=rfl
noncomputable def opK(f:A->A->Option Rr)(x y:Rr)(ρ:List Sl):Option (Except Str Rr×List Sl):=match res ρ x,res ρ y with
 | some a,some b=>match f a b with
  | some r=>some (.ok r,ρ)
  | none=>none
 | _,_=>none
theorem Jv(f:A->A->Option Rr)(ma mb:Mi Rr):mOp f ma mb ρ=(match ma ρ with|some (.ok x,ρ1)=>(match mb ρ1 with|some (.ok y,ρ2)=>opK f x y ρ2|some (.error e,ρ2)=>some (.error e,ρ2)|none=>none)|some (.error e,ρ1)=>some (.error e,ρ1)|none=>none):=by
 unfold mOp aq opK
 cases ma ρ with
 | none=>rfl
 | some p =>
  obtain⟨o,ρ1⟩:=p
  cases o with
  | error e=>rfl
  | ok x =>
   simp only
   cases mb ρ1 with
   | none=>rfl
   | some p =>
    obtain⟨o,ρ2⟩:=p
    cases o with
    | error e=>rfl
    | ok y=>rfl
noncomputable def unK(f:A->Option Rr)(x:Rr)(ρ:List Sl):Option (Except Str Rr×List Sl):=match res ρ x with
 | some a=>match f a with
  | some r=>some (.ok r,ρ)
  | none=>none
 | none=>none
theorem IM(f:A->Option Rr)(m:Mi Rr):mUn f m ρ=(match m ρ with|some (.ok x,ρ1)=>unK f x ρ1|some (.error e,ρ1)=>some (.error e,ρ1)|none=>none):=by
 unfold mUn aq
 cases m ρ with
 | none=>rfl
 | some p =>
  obtain⟨o,ρ1⟩:=p
  cases o with
  | error e=>rfl
  | ok x=>rfl
theorem Jj(f:A->Option Rr)(m:Mi Rr):mB1 f m ρ=mUn f m ρ:=rfl
theorem II(f:A->A->Option Rr)(m n:Mi Rr):mB2 f m n ρ=mOp f m n ρ:=rfl
noncomputable def xg(r:Rr)(ρ:List Sl):Option (Except Str Bool×List Sl):=match asB r with
 | some b=>some (.ok b,ρ)
 | none=>none
theorem EV(m:Mi Rr):ai m ρ=(match m ρ with|some (.ok x,ρ1)=>xg x ρ1|some (.error e,ρ1)=>some (.error e,ρ1)|none=>none):=by
 unfold ai aq
 cases m ρ with
 | none=>rfl
 | some p =>
  obtain⟨o,ρ1⟩:=p
  cases o with
  | error e=>rfl
  | ok x=>rfl
theorem zJ(k:Bool):xg (.fr (.bl k)) ρ=some (.ok k,ρ):=rfl
theorem FE(m n:Mi Bool):lM m n ρ=(match m ρ with|some (.ok true,ρ1)=>n ρ1|some (.ok false,ρ1)=>some (.ok false,ρ1)|some (.error e,ρ1)=>some (.error e,ρ1)|none=>none):=by
 unfold lM aq
 cases m ρ with
 | none=>rfl
 | some p=>obtain⟨o,ρ1⟩:=p;cases o with|error e=>rfl|ok k=>cases k<;>rfl
theorem Je(m n:Mi Bool):mOr m n ρ=(match m ρ with|some (.ok true,ρ1)=>some (.ok true,ρ1)|some (.ok false,ρ1)=>n ρ1|some (.error e,ρ1)=>some (.error e,ρ1)|none=>none):=by
 unfold mOr aq
 cases m ρ with
 | none=>rfl
 | some p=>obtain⟨o,ρ1⟩:=p;cases o with|error e=>rfl|ok k=>cases k<;>rfl
theorem GF(m:Mi Bool):dg m ρ=(match m ρ with|some (.ok k,ρ1)=>some (.ok (!k),ρ1)|some (.error e,ρ1)=>some (.error e,ρ1)|none=>none):=by
 unfold dg aq
 cases m ρ with
 | none=>rfl
 | some p =>
  obtain⟨o,ρ1⟩:=p
  cases o with
  | error e=>rfl
  | ok x=>rfl
theorem BJ(m n:Mi Rr):kr m n ρ=(match ai m ρ with|some (.ok true,ρ1)=>n ρ1|some (.ok false,ρ1)=>some (.ok (.fr (.bl false)),ρ1)|some (.error e,ρ1)=>some (.error e,ρ1)|none=>none):=by
 unfold kr aq
 cases ai m ρ with
 | none=>rfl
 | some p=>obtain⟨o,ρ1⟩:=p;cases o with|error e=>rfl|ok k=>cases k<;>rfl
theorem F8(m n:Mi Rr):uM m n ρ=(match ai m ρ with|some (.ok true,ρ1)=>some (.ok (.fr (.bl true)),ρ1)|some (.ok false,ρ1)=>n ρ1|some (.error e,ρ1)=>some (.error e,ρ1)|none=>none):=by
 unfold uM aq
 cases ai m ρ with
 | none=>rfl
 | some p=>obtain⟨o,ρ1⟩:=p;cases o with|error e=>rfl|ok k=>cases k<;>rfl
theorem Cd(m:Mi Rr):qx m ρ=(match ai m ρ with|some (.ok k,ρ1)=>some (.ok (.fr (.bl (!k))),ρ1)|some (.error e,ρ1)=>some (.error e,ρ1)|none=>none):=by
 unfold qx aq
 cases ai m ρ with
 | none=>rfl
 | some p =>
  obtain⟨o,ρ1⟩:=p
  cases o with
  | error e=>rfl
  | ok x=>rfl
theorem Jg(t:Mi Bool)(m n:Mi Rr):mIf t m n ρ=(match t ρ with|some (.ok true,ρ1)=>m ρ1|some (.ok false,ρ1)=>n ρ1|some (.error e,ρ1)=>some (.error e,ρ1)|none=>none):=by
 unfold mIf aq
 cases t ρ with
 | none=>rfl
 | some p=>obtain⟨o,ρ1⟩:=p;cases o with|error e=>rfl|ok k=>cases k<;>rfl
theorem FC:az ρ=some (.ok [],ρ):=rfl
theorem Bk(m:Mi Rr)(n:Mi (List Rr)):ae m n ρ=(match m ρ with|some (.ok x,ρ1)=>(match n ρ1 with|some (.ok xs,ρ2)=>some (.ok (x::xs),ρ2)|some (.error e,ρ2)=>some (.error e,ρ2)|none=>none)|some (.error e,ρ1)=>some (.error e,ρ1)|none=>none):=by
 unfold ae aq
 cases m ρ with
 | none=>rfl
 | some p =>
  obtain⟨o,ρ1⟩:=p
  cases o with
  | error e=>rfl
  | ok x =>
   simp only
   cases n ρ1 with
   | none=>rfl
   | some p =>
    obtain⟨o,ρ2⟩:=p
    cases o with
    | error e=>rfl
    | ok y=>rfl
noncomputable def tupK(rs:List Rr)(ρ:List Sl):Option (Except Str Rr×List Sl):=match cO rs ρ with
 | some (as,ρ')=>if as.length<=1000 then some (.ok (.fr (.tup as)),ρ') else none
 | none=>none
theorem HA(m:Mi (List Rr)):g9 m ρ=(match m ρ with|some (.ok x,ρ1)=>tupK x ρ1|some (.error e,ρ1)=>some (.error e,ρ1)|none=>none):=by
 unfold g9 aq
 cases m ρ with
 | none=>rfl
 | some p =>
  obtain⟨o,ρ1⟩:=p
  cases o with
  | error e=>rfl
  | ok x=>rfl
noncomputable def lstK(rs:List Rr)(ρ:List Sl):Option (Except Str Rr×List Sl):=match cO rs ρ with
 | some (as,ρ')=>if as.length<=1000 then some (.ok (.nw (.lst as)),ρ') else none
 | none=>none
theorem Fd(m:Mi (List Rr)):fJ m ρ=(match m ρ with|some (.ok x,ρ1)=>lstK x ρ1|some (.error e,ρ1)=>some (.error e,ρ1)|none=>none):=by
 unfold fJ aq
 cases m ρ with
 | none=>rfl
 | some p =>
  obtain⟨o,ρ1⟩:=p
  cases o with
  | error e=>rfl
  | ok x=>rfl
theorem Co(f:Ms)(das:List A)(m:Mi (List Rr)):av f das m ρ=(match m ρ with|some (.ok x,ρ1)=>bO f das x ρ1|some (.error e,ρ1)=>some (.error e,ρ1)|none=>none):=by
 unfold av aq
 cases m ρ with
 | none=>rfl
 | some p =>
  obtain⟨o,ρ1⟩:=p
  cases o with
  | error e=>rfl
  | ok x=>rfl
theorem cT(m n:Ms):aF m n ρ=(match m ρ with|some (.nx,ρ1)=>n ρ1|r=>r):=rfl
theorem Dd:aR ρ=some (.nx,ρ):=rfl
noncomputable def Ie(i:Nat)(r:Rr)(ρ:List Sl):Option (Fl×List Sl):=match stT r ρ with
 | some (t,ρ1)=>match put i t ρ1 with
  | some ρ2=>some (.nx,ρ2)
  | none=>none
 | none=>none
theorem HQ(i:Nat)(m:Mi Rr):aJ i m ρ=(match m ρ with|some (.ok x,ρ1)=>Ie i x ρ1|some (.error e,ρ1)=>some (.ex e,ρ1)|none=>none):=by
 unfold aJ a8
 cases m ρ with
 | none=>rfl
 | some p =>
  obtain⟨o,ρ1⟩:=p
  cases o with
  | error e=>rfl
  | ok x=>rfl
noncomputable def HC(r:Rr)(ρ:List Sl):Option (Fl×List Sl):=match yT r ρ with
 | some (s,ρ')=>some (.rt s,ρ')
 | none=>none
theorem Gv(m:Mi Rr):a5 m ρ=(match m ρ with|some (.ok x,ρ1)=>HC x ρ1|some (.error e,ρ1)=>some (.ex e,ρ1)|none=>none):=by
 unfold a5 a8
 cases m ρ with
 | none=>rfl
 | some p =>
  obtain⟨o,ρ1⟩:=p
  cases o with
  | error e=>rfl
  | ok x=>rfl
theorem CN:vq ρ=some (.rt (.fr .non),ρ):=rfl
theorem CQ(m:Mi Rr):jo m ρ=(match m ρ with|some (.ok _,ρ1)=>some (.nx,ρ1)|some (.error e,ρ1)=>some (.ex e,ρ1)|none=>none):=by
 unfold jo a8
 cases m ρ with
 | none=>rfl
 | some p =>
  obtain⟨o,ρ1⟩:=p
  cases o with
  | error e=>rfl
  | ok x=>rfl
theorem Ij(t:Mi Bool)(m n:Ms):sIf t m n ρ=(match t ρ with|some (.ok true,ρ1)=>m ρ1|some (.ok false,ρ1)=>n ρ1|some (.error e,ρ1)=>some (.ex e,ρ1)|none=>none):=by
 unfold sIf a8
 cases t ρ with
 | none=>rfl
 | some p=>obtain⟨o,ρ1⟩:=p;cases o with|error e=>rfl|ok k=>cases k<;>rfl
theorem uI(loc:Nat)(m:Ms):cb loc m ρ=(match m (ρ++J8 loc .un) with|some (.nx,ρ')=>some (.rt (.fr .non),ρ')|some (.rt s,ρ')=>some (.rt s,ρ')|some (.ex x,ρ')=>some (.ex x,ρ')|_=>none):=by
 unfold cb
 cases m (ρ++J8 loc .un) with
 | none=>rfl
 | some p=>obtain⟨f,ρ1⟩:=p;cases f<;>rfl
theorem AJ(m:Mi (List A))(G:Mg)(b:Ms):iQ m G b ρ=(match m ρ with|some (.ok as,ρ1)=>forL G b as ρ1|some (.error e,ρ1)=>some (.ex e,ρ1)|none=>none):=by
 unfold iQ a8
 cases m ρ with
 | none=>rfl
 | some p =>
  obtain⟨o,ρ1⟩:=p
  cases o with
  | error e=>rfl
  | ok x=>rfl
theorem z3(n:Nat)(t:Mi Bool)(b:Ms):jl n t b ρ=c9 t b n ρ:=rfl
noncomputable def GI(r:Rr)(ρ:List Sl):Option (Except Str (List A)×List Sl):=match aQ r ρ with
 | some (a,ρ')=>match xX a with
  | some as=>some (.ok as,ρ')
  | none=>none
 | none=>none
theorem D8(m:Mi Rr):nO m ρ=(match m ρ with|some (.ok x,ρ1)=>GI x ρ1|some (.error e,ρ1)=>some (.error e,ρ1)|none=>none):=by
 unfold nO aq
 cases m ρ with
 | none=>rfl
 | some p =>
  obtain⟨o,ρ1⟩:=p
  cases o with
  | error e=>rfl
  | ok x=>rfl
noncomputable def AU(r:Rr)(ρ:List Sl):Option (Except Str (List A)×List Sl):=match res ρ r with
 | some (.int j)=>if -(2^60)<=j/\j<2^60 then some (.ok (jF 0 j.toNat),ρ) else none
 | _=>none
theorem DO(m:Mi Rr):eE m ρ=(match m ρ with|some (.ok x,ρ1)=>AU x ρ1|some (.error e,ρ1)=>some (.error e,ρ1)|none=>none):=by
 unfold eE aq
 cases m ρ with
 | none=>rfl
 | some p =>
  obtain⟨o,ρ1⟩:=p
  cases o with
  | error e=>rfl
  | ok x=>rfl
noncomputable def vI(n:Nat)(G:Mg)(t:Mi Bool)(e:Mi Rr)(as:List A)(ρ:List Sl):Option (Except Str Rr×List Sl):=if as.length<=100000 then match d9 G t e as [] (ρ++J8 n .un) with
 | some (ys,ρ')=>some (.ok (.nw (.lst ys)),ρ'.take ρ.length)
 | none=>none else none
theorem CG(n:Nat)(mi:Mi (List A))(G:Mg)(t:Mi Bool)(e:Mi Rr):ik n mi G t e ρ=(match mi ρ with|some (.ok as,ρ1)=>vI n G t e as ρ1|some (.error x,ρ1)=>some (.error x,ρ1)|none=>none):=by
 unfold ik aq
 cases mi ρ with
 | none=>rfl
 | some p =>
  obtain⟨o,ρ1⟩:=p
  cases o with
  | error e=>rfl
  | ok x=>rfl
theorem oH:eF ρ=some (.ok true,ρ):=rfl
noncomputable def IZ(G:Mg)(r:Rr)(ρ:List Sl):Option (Fl×List Sl):=match aQ r ρ with
 | some (a,ρ1)=>match G a ρ1 with
  | some ρ2=>some (.nx,ρ2)
  | none=>none
 | none=>none
noncomputable def Gw(i j:Nat)(rs:List Rr)(ρ:List Sl):Option (Fl×List Sl):=match cO rs ρ with
 | some ([a,b],ρ1)=>match put i (.fr a) ρ1 with
  | some ρ2=>match put j (.fr b) ρ2 with
   | some ρ3=>some (.nx,ρ3)
   | none=>none
  | none=>none
 | _=>none
theorem GW(i j:Nat)(m:Mi (List Rr)):sv i j m ρ=(match m ρ with|some (.ok x,ρ1)=>Gw i j x ρ1|some (.error e,ρ1)=>some (.ex e,ρ1)|none=>none):=by
 unfold sv a8
 cases m ρ with
 | none=>rfl
 | some p =>
  obtain⟨o,ρ1⟩:=p
  cases o with
  | error e=>rfl
  | ok x=>rfl
noncomputable def Fo(i:Nat)(r:Rr)(ρ:List Sl):Option (Except Str Rr×List Sl):=match aQ r ρ with
 | some (a,ρ1)=>match aH ρ1 i with
  | some (.lst xs)=>if xs.length<=100000 then some (.ok (.fr .non),setAt ρ1 i (.lst (xs++[a]))) else none
  | _=>none
 | none=>none
theorem Gu(i:Nat)(m:Mi Rr):vQ i (iJ i m) ρ=(if isL ρ i then (match m ρ with|some (.ok x,ρ1)=>Fo i x ρ1|some (.error e,ρ1)=>some (.error e,ρ1)|none=>none) else none):=by
 unfold vQ iJ aq
 split
 ·cases m ρ with
  | none=>rfl
  | some p=>obtain⟨o,ρ1⟩:=p;cases o<;>rfl
 ·rfl
noncomputable def ixK(i:Nat)(r rk:Rr)(ρ:List Sl):Option (Fl×List Sl):=match aQ r ρ with
 | some (a,ρ1)=>match res ρ1 rk,aH ρ1 i with
  | some (.int k),some (.lst xs)=>match ixN xs.length k with
   | some j=>some (.nx,setAt ρ1 i (.lst (xs.set j a)))
   | none=>none
  | _,_=>none
 | none=>none
theorem yY(i:Nat)(mk m:Mi Rr):gR i mk m ρ=(match m ρ with|some (.ok r,ρ0)=>(if isL ρ0 i then (match mk ρ0 with|some (.ok rk,ρ1)=>ixK i r rk ρ1|some (.error e,ρ1)=>some (.ex e,ρ1)|none=>none) else none)|some (.error e,ρ1)=>some (.ex e,ρ1)|none=>none):=by
 unfold gR a8
 cases m ρ with
 | none=>rfl
 | some p =>
  obtain⟨o,ρ1⟩:=p
  cases o with
  | error e=>rfl
  | ok x =>
   simp only
   split
   ·cases mk ρ1 with
    | none=>rfl
    | some p=>obtain⟨o,ρ2⟩:=p;cases o<;>rfl
   ·rfl
noncomputable def dK(i:Nat)(r rk:Rr)(ρ:List Sl):Option (Fl×List Sl):=match aQ r ρ with
 | some (a,ρ1)=>match res ρ1 rk,aH ρ1 i with
  | some ka,some (.dic kvs)=>match fK ka with
   | some y=>if kvs.length<=100000 then some (.nx,setAt ρ1 i (.dic (sZ kvs y a))) else none
   | none=>none
  | _,_=>none
 | none=>none
theorem Bz:vo ρ=some (.ok (.nw (.dic [])),ρ):=rfl
noncomputable def GZ(d k x:Rr)(ρ:List Sl):Option (Except Str Rr×List Sl):=match res ρ d,res ρ k with
  | some (.dic kvs),some ka=>match fK ka with
   | some y=>match iy kvs y with
    | some a=>some (.ok (.fr a),ρ)
    | none=>match aQ x ρ with
     | some (a,ρ1)=>some (.ok (.fr a),ρ1)
     | none=>none
   | none=>none
  | _,_=>none
noncomputable def Hg:Option A->Bool
 | some (.dic _)=>true
 | _=>false
theorem yJ(x:Str)(m:Mi (List Rr)):cN x m ρ=(match m ρ with|some (.ok rs,ρ1)=>(if rs.length<=10 then some (.ex x,ρ1) else none)|some (.error e,ρ1)=>some (.ex e,ρ1)|none=>none):=by
 unfold cN a8
 cases m ρ with
 | none=>rfl
 | some p =>
  obtain⟨o,ρ1⟩:=p
  cases o with
  | error e=>rfl
  | ok x=>rfl
noncomputable def s1K(f:Str->A->Option Rr)(z:Str)(y:Rr)(ρ:List Sl):Option (Except Str Rr×List Sl):=match res ρ y with
  | some a=>match f z a with
   | some r=>some (.ok r,ρ)
   | none=>none
  | none=>none
theorem IU(f:Str->A->Option Rr)(mo m:Mi Rr):mS1 f mo m ρ=(match mo ρ with|some (.ok (.fr (.str z)),ρ0)=>(match m ρ0 with|some (.ok y,ρ1)=>s1K f z y ρ1|some (.error e,ρ1)=>some (.error e,ρ1)|none=>none)|some (.ok _,_)=>none|some (.error e,ρ1)=>some (.error e,ρ1)|none=>none):=by
 unfold mS1 aq
 cases mo ρ with
 | none=>rfl
 | some p =>
  obtain⟨o,ρ1⟩:=p
  cases o with
  | error e=>rfl
  | ok d =>
   cases d with
   | rf i=>rfl
   | nw o=>rfl
   | fr a =>
    cases a<;>first|rfl|skip
    simp only
    cases m ρ1 with
    | none=>rfl
    | some p=>obtain⟨o,ρ2⟩:=p;cases o<;>rfl
noncomputable def slK(x:Rr)(lo hi:Option Int)(ρ:List Sl):Option (Except Str Rr×List Sl):=match res ρ x with
 | some a=>match fSl a lo hi with
  | some r=>some (.ok r,ρ)
  | none=>none
 | none=>none
theorem Jo(m:Mi Rr)(ml mh:Mi (Option Int)):mSl m ml mh ρ=(match m ρ with|some (.ok x,ρ0)=>(match ml ρ0 with|some (.ok lo,ρ1)=>(match mh ρ1 with|some (.ok hi,ρ2)=>slK x lo hi ρ2|some (.error e,ρ2)=>some (.error e,ρ2)|none=>none)|some (.error e,ρ1)=>some (.error e,ρ1)|none=>none)|some (.error e,ρ1)=>some (.error e,ρ1)|none=>none):=by
 unfold mSl aq
 cases m ρ with
 | none=>rfl
 | some p =>
  obtain⟨o,ρ1⟩:=p
  cases o with
  | error e=>rfl
  | ok x =>
   simp only
   cases ml ρ1 with
   | none=>rfl
   | some p =>
    obtain⟨o,ρ2⟩:=p
    cases o with
    | error e=>rfl
    | ok y =>
     simp only
     cases mh ρ2 with
     | none=>rfl
     | some p=>obtain⟨o,ρ3⟩:=p;cases o<;>rfl
noncomputable def fzK(r:Rr)(ρ:List Sl):Option (Except Str Rr×List Sl):=match aQ r ρ with
 | some (a,ρ')=>some (.ok (.fr a),ρ')
 | none=>none
theorem Iv(m:Mi Rr):mFz m ρ=(match m ρ with|some (.ok x,ρ1)=>fzK x ρ1|some (.error e,ρ1)=>some (.error e,ρ1)|none=>none):=by
 unfold mFz aq
 cases m ρ with
 | none=>rfl
 | some p =>
  obtain⟨o,ρ1⟩:=p
  cases o with
  | error e=>rfl
  | ok x=>rfl
theorem uQ:gG ρ=some (.ok none,ρ):=rfl
noncomputable def A5(r:Rr)(ρ:List Sl):Option (Except Str (Option Int)×List Sl):=match res ρ r with
 | some (.int i)=>some (.ok (some i),ρ)
 | _=>none
theorem DY(m:Mi Rr):kF m ρ=(match m ρ with|some (.ok x,ρ1)=>A5 x ρ1|some (.error e,ρ1)=>some (.error e,ρ1)|none=>none):=by
 unfold kF aq
 cases m ρ with
 | none=>rfl
 | some p =>
  obtain⟨o,ρ1⟩:=p
  cases o with
  | error e=>rfl
  | ok x=>rfl
theorem e_J(m:Mi Rr)(n:Mi (List Str)):mJ m n ρ=(match m ρ with|some (.ok (.fr (.str z)),ρ0)=>(if z.length<=1000 then (match n ρ0 with|some (.ok zs,ρ1)=>some (.ok (z::zs),ρ1)|some (.error e,ρ1)=>some (.error e,ρ1)|none=>none) else none)|some (.ok _,_)=>none|some (.error e,ρ1)=>some (.error e,ρ1)|none=>none):=by
 unfold mJ aq
 cases m ρ with
 | none=>rfl
 | some p =>
  obtain⟨o,ρ1⟩:=p
  cases o with
  | error e=>rfl
  | ok d =>
   cases d with
   | rf i=>rfl
   | nw o=>rfl
   | fr a =>
    cases a<;>first|rfl|skip
    simp only
    split
    ·cases n ρ1 with
     | none=>rfl
     | some p=>obtain⟨o,ρ2⟩:=p;cases o<;>rfl
    ·rfl
theorem IE(m:Mi Rr):mFv m ρ=(match m ρ with|some (.ok (.fr (.str z)),ρ0)=>(if z.length<=1000 then some (.ok (.fr (.str z)),ρ0) else none)|some (.ok _,_)=>none|some (.error e,ρ1)=>some (.error e,ρ1)|none=>none):=by
 unfold mFv aq
 cases m ρ with
 | none=>rfl
 | some p =>
  obtain⟨o,ρ1⟩:=p
  cases o with
  | error e=>rfl
  | ok d =>
   cases d with
   | rf i=>rfl
   | nw o=>rfl
   | fr a=>cases a<;>rfl
theorem IH(m:Mi (List Str)):mJs m ρ=(match m ρ with|some (.ok zs,ρ1)=>some (.ok (.fr (.str (wL zs))),ρ1)|some (.error e,ρ1)=>some (.error e,ρ1)|none=>none):=by
 unfold mJs aq
 cases m ρ with
 | none=>rfl
 | some p =>
  obtain⟨o,ρ1⟩:=p
  cases o with
  | error e=>rfl
  | ok x=>rfl
end
end M
namespace M
open PySem L2 W
section
variable {α β:Type} {ρ:List Sl}
noncomputable def Jp (x y:Rr) (ρ:List Sl):Option (Except Str (List A) × List Sl):=match cO [x,y] ρ with
 | some ([.tup as,.tup bs],ρ')=>some (.ok (Jc as bs),ρ')
 | _=>none
theorem CH (m:Mi α):cB m ρ = (match m ρ with | some (.ok x,ρ1)=>some (.ok x,ρ1) | _=>none):=rfl
theorem Fs (i:Nat) (sub:Str → Bool) (b s:Ms):wC i sub b s ρ = (match b ρ with
 | some (.ex x,ρ1)=>if sub x = true then match put i (.fr (.exc x)) ρ1 with
  | some ρ2=>match s ρ2 with
   | some (.nx,ρ3)=>match put i .un ρ3 with
    | some ρ4=>some (.nx,ρ4)
    | none=>none
   | some (.rt r,ρ3)=>some (.rt r,ρ3)
   | _=>none
  | none=>none else none
 | r=>r):=rfl
noncomputable def Cf (k:Str) (r:Rr) (ρ:List Sl):Option (Except Str Rr × List Sl):=match aQ r ρ with
 | some (a,ρ')=>some (.ok (.nw (.dic [(.inr k,a)])),ρ')
 | none=>none
noncomputable def GU (i:Nat) (r:Rr) (ρ:List Sl):Option (Except Str Rr × List Sl):=match res ρ r,aH ρ i with
 | some ka,some (.dic kvs)=>match fK ka with
  | some y=>match iy kvs y with
   | some a=>some (.ok (.fr a),setAt ρ i (.dic (kvs.filter fun kv=>decide (kv.1 ≠ y))))
   | none=>none
  | none=>none
 | _,_=>none
end
end M
namespace M
open PySem L2 W
section
variable {ρ:List Sl}
noncomputable def Ar (cs:List Str) (i:Nat) (f:Str) (r:Rr) (ρ:List Sl):Option (Fl × List Sl):=match aQ r ρ with
 | some (a,ρ1)=>match aH ρ1 i with
  | some (.obj c fs)=>if cs.contains c && Md fs.length 900 then some (.nx,setAt ρ1 i (.obj c (xr f a fs))) else none
  | _=>none
 | none=>none
theorem DK (cs:List Str) (i:Nat) (f:Str) (m:Mi Rr):AX cs i f m ρ = (match m ρ with | some (.ok x,ρ1)=>Ar cs i f x ρ1 | some (.error e,ρ1)=>some (.ex e,ρ1) | none=>none):=by
 unfold AX a8
 cases m ρ with
 | none=>rfl
 | some p=>obtain⟨o,ρ1⟩:=p;cases o<;>rfl
noncomputable def Hf(q:Int->Int->Bool)(j:Int)(z:Rr)(ρ:List Sl):Option (Except Str Rr×List Sl):=match res ρ z with
 | some (.int k)=>some (.ok (.fr (.bl (q j k))),ρ)
 | _=>none
noncomputable def chK(p q:Int->Int->Bool)(mc:Mi Rr)(x y:Rr)(ρ:List Sl):Option (Except Str Rr×List Sl):=match res ρ x,res ρ y with
 | some (.int i),some (.int j)=>match p i j with
  | true=>(match mc ρ with|some (.ok z,ρ1)=>Hf q j z ρ1|some (.error e,ρ1)=>some (.error e,ρ1)|none=>none)
  | false=>some (.ok (.fr (.bl false)),ρ)
 | _,_=>none
theorem zT(p q:Int->Int->Bool)(ma mb mc:Mi Rr):cW p q ma mb mc ρ=(match ma ρ with|some (.ok x,ρ1)=>(match mb ρ1 with|some (.ok y,ρ2)=>chK p q mc x y ρ2|some (.error e,ρ2)=>some (.error e,ρ2)|none=>none)|some (.error e,ρ1)=>some (.error e,ρ1)|none=>none):=by
  unfold cW aq
  cases ma ρ with
  | none=>rfl
  | some pr =>
    obtain⟨o,ρ1⟩:=pr
    cases o with
    | error e=>rfl
    | ok x =>
      simp only
      cases mb ρ1 with
      | none=>rfl
      | some pr =>
        obtain⟨o,ρ2⟩:=pr
        cases o with
        | error e=>rfl
        | ok y =>
          simp only[chK]
          cases res ρ2 x with
          | none=>rfl
          | some a =>
            cases a<;>first
              | (cases res ρ2 y with
                 | none=>rfl
                 | some b=>cases b<;>rfl)
              | (rename_i i
                 cases res ρ2 y with
                 | none=>rfl
                 | some b =>
                   cases b<;>first
                     | rfl
                     | (rename_i j
                        simp only
                        cases p i j with
                        | false=>rfl
                        | true =>
                          simp only
                          cases mc ρ2 with
                          | none=>rfl
                          | some pr=>obtain⟨o,ρ3⟩:=pr;cases o<;>rfl))
theorem yu(a b:A):pW a b=(opI λi j=>some (.fr (.int (i+j)))) a b:=rfl
theorem El(a b:A):jg a b=(opI λi j=>some (.fr (.int (i-j)))) a b:=rfl
theorem xZ(a b:A):xo a b=(opI λi j=>if fits 20000 i&&fits 20000 j then some (.fr (.int (i*j))) else none) a b:=rfl
theorem Ds(a b:A):nV a b=(opI λi j=>if j != 0&&fits 9000 j then some (.fr (.int (i.fdiv j))) else none) a b:=rfl
theorem Cy(a b:A):iw a b=(opI λi j=>if j != 0 then some (.fr (.int (i.fmod j))) else none) a b:=rfl
theorem Bs(a b:A):gY a b=(opI λi j=>if 0<=j/\j<=1000000/\i.natAbs<2^64 then some (.fr (.int (i^j.toNat))) else none) a b:=rfl
theorem GP(a b:A):fLt a b=(opI λi j=>some (.fr (.bl (decide (i<j))))) a b:=rfl
theorem HI(a b:A):fLe a b=(opI λi j=>some (.fr (.bl (decide (i<=j))))) a b:=rfl
theorem FZ(a b:A):fGt a b=(opI λi j=>some (.fr (.bl (decide (j<i))))) a b:=rfl
theorem G8(a b:A):fGe a b=(opI λi j=>some (.fr (.bl (decide (j<=i))))) a b:=rfl
theorem zi(a b:A):qz a b=(opS λx y=>if x.length+y.length<=100000 then some (.fr (.str (x++y))) else none) a b:=rfl
theorem BX(a b:A):sP a b=(opI λi j=>some (.fr (.int (if j > i then j else i)))) a b:=rfl
theorem Cq(a b:A):sx a b=(opI λi j=>some (.fr (.int (if j<i then j else i)))) a b:=rfl
end
end M
namespace M
open PySem L2 W
noncomputable def np:Sl->Bool
 | .pv _=>false
 | _=>true
theorem FD:np .un=true:=rfl
theorem HE(a:A):np (.fr a)=true:=rfl
theorem Fz(o:LO):np (.lv o)=true:=rfl
theorem Gm(i:Nat)(s:Sl)(ρ:List Sl):put i s ρ=(match ρ[i]? with|some t=>if np t=true then some (ρ.set i s) else none|none=>none):=by
 unfold put
 cases ρ[i]? with
 | none=>rfl
 | some t=>cases t<;>rfl
end M
namespace M
open PySem L2
section
variable{ρ:List Sl}
noncomputable def Jb(i:Nat)(r:Rr)(ρ:List Sl):Option (Except Str Rr×List Sl):=match aQ r ρ with
 | some (.lst zs,ρ1)=>match aH ρ1 i with
  | some (.lst xs)=>if xs.length+zs.length<=100000 then some (.ok (.fr .non),setAt ρ1 i (.lst (xs++zs))) else none
  | _=>none
 | _=>none
noncomputable def Ju(x:Rr)(ρ:List Sl):Option (Except Str Rr×List Sl):=match x with
 | .nw (.lst _)=>some (.ok (.fr .non),ρ)
 | _=>none
noncomputable def Ff(xs:List A)(r:Rr)(ρ:List Sl):Option (Except Str Rr×List Sl):=match aQ r ρ with
 | some (_,ρ1)=>if xs.length<=100000 then some (.ok (.fr .non),ρ1) else none
 | none=>none
noncomputable def Jx(m:Mi Rr)(x:Rr)(ρ0:List Sl):Option (Except Str Rr×List Sl):=match x with
 | .nw (.lst xs)=>match m ρ0 with
  | some (.ok r,ρ)=>Ff xs r ρ
  | some (.error e,ρ)=>some (.error e,ρ)
  | none=>none
 | _=>none
end
end M
namespace W
open PySem L2
noncomputable def fG(h:Heap):JH:=(KH h.objs.size).filterMap λa=>(h.get? a).map λo=>(a,o)
theorem kc{o:Obj}{a:Addr}:∀{K:JH},K.lookup a=some o->(a,o)∈K
 | (b,u)::K,e=>by
  rw[Kq] at e
  split at e
  ·rename_i q;cases e;rw[beq_iff_eq.mp q];exact JN
  ·exact JQ _ (kc e)
theorem iV(h:Heap):(fG h).In h:=λa o e=>by
 have m:=kc e
 unfold fG at m
 obtain⟨b,_,hb⟩:=LX.mp m
 cases e2:h.get? b with
 | none=>rw[e2] at hb;cases hb
 | some o'=>rw[e2] at hb;cases hb;exact e2
noncomputable def FY(K:JH)(n:Str):Option (Str×Str×Arguments×FuncBody×Scope×Addr×List (Str×Addr)×Value×Addr×Bool) :=
 match MK K mainGlobals n with
 | some (some (.ref f))=>(match K.lookup f with
  | some ⟨_,_,.func d,_⟩=>some (d.name,d.qualname,d.params,d.body,d.scope,d.globals,d.closure,d.defaults,d.builtins,LS K d.code n&&Ks K (.ref f))
  | _=>none)
 | _=>none
noncomputable def G4(n:Str)(st:Stmt):Option (Str×Str×Arguments×FuncBody×Scope×Addr×List (Str×Addr)×Value×Addr×Bool):=some (n,n,bQ st,.stmts (a7 st),ay st,mainGlobals,[],.none,builtinsNs,true)
noncomputable def IG(K:JH)(a:Addr)(i j:Int):Bool:=match K.lookup a with
 | some ⟨.type "tuple",none,.seq its _,_⟩=>(match its.toList with
  | [.int x _,.int y _]=>x==i&&y==j
  | _=>false)
 | _=>false
noncomputable def hkO(ds:List (Str×Stmt))(chk:JH->Bool)(K:JH):=(ds.map λx=>FY K x.1,chk K)
noncomputable def hkV(ds:List (Str×Stmt)):List (Option (Str×Str×Arguments×FuncBody×Scope×Addr×List (Str×Addr)×Value×Addr×Bool))×Bool:=(ds.map λx=>G4 x.1 x.2,true)
noncomputable def hk(ds:List (Str×Stmt))(chk:JH->Bool):O5 where
 α:=List (Option (Str×Str×Arguments×FuncBody×Scope×Addr×List (Str×Addr)×Value×Addr×Bool))×Bool
 obs:=λs=>hkO ds chk (fG s.heap)
 val:=λ_=>hkV ds
 says:=λ_ h=>∃K:JH,hkO ds chk K=hkV ds/\K.In h
 of:=λ_ s e=>⟨fG s.heap,e,iV _⟩
 keeps:=λ_ _ _ ⟨K,e,i⟩ k=>⟨K,e,i.keeps k⟩
noncomputable def Hu(p:Program):List Stmt:=p.main.body.filter λs=>match s with | .FunctionDef n ..=>n==("law" : Str)|_=>false
noncomputable def Ga:Stmt->List Str
 | .FunctionDef n ..=>[n]
 | .ClassDef n ..=>[n]
 | .Assign [.Name n _] _ _=>[n]
 | _=>[]
noncomputable def qOf(p:Program):Program:={ p with main:={ p.main with body:=Hu p } }
noncomputable def zD(p:Program):List Str:=(p.main.body.flatMap Ga).filter λn=>n != ("law" : Str)
theorem vA{l:OD}{n k:Nat}{q:Program}{loose:List Str}{XP:(Str->Option Value)->Heap->Prop}{YP:World->Heap->Prop}{d:DefRec}{x:Str}{sp:JH->Sp}
  (hn:l.most=some n)(hn2:n<=sizeLine)(hdf:d.params.defaults=[])(hr:bR k callerA)
  (F:∀(w:World)(mg:Str->Option Value)(fa:Addr)(h:Heap),YP w h->h.Ns mainGlobals mg->mg d.name=some (.ref fa) ->
   ∃K:JH,K.In h/\∃fd:FuncData,(∀(s:Shared)(u:Value),BindsTo s fd ⟨[u],[]⟩ [(x,u)])/\∀base:Heap,K.In base->base.Ns mainGlobals mg->cu l.prog w K mg base (CXE l.prog w) k fa fd [x] (sp K))
  (hsp:∀(K:JH)(H:Hp)(a:Addr)(ns:List Int),ns.length<=n->A8 H->SqL K H a (ns.map V.int)->sp K [.ref a] H (λv _=>v=.bl true) λ_ _ _=>False) :
  O0 q loose XP YP l.row.toRowW d [] (λf vs=>Om f vs):=by
 refine Att.nI hn hdf λw s₀ s₁ mg mb fa o pm cd doc a vs ns G Y ho hd hcd hmg hobj hints hlen hg=>?_
 obtain⟨K,KX,fd,hb,hF⟩:=F w mg fa _ Y G.T.g hmg
 exact uv KX G.T.g G.T.b G.T.builtins G.T.nolimit hg hobj hints (Kh hlen hn2) hr hF hb (λH hO hS=>hsp K H a ns hlen hO hS) λH e s' z=>by obtain⟨_,_,_,_,_,y⟩:=z;exact y
end W
namespace W
open PySem PySem.W PyProof.Rows
noncomputable abbrev Ax:=P5
noncomputable abbrev oA:=P6
noncomputable abbrev Gx:=P7
noncomputable abbrev vf:=P8
noncomputable abbrev AM:=P9
noncomputable abbrev Az:=Qa
noncomputable abbrev wQ:=Qb
theorem wM:denote=Ax:=Qc
theorem jK:treeTable=oA:=Qd
theorem zf:stepOk=Gx:=Qe
theorem sT:stepT=vf:=Qf
theorem xp:importEnds=AM:=Qg
theorem tZ:fenceModules?=Az:=Qh
theorem rZ:openSeen=wQ:=Qi
noncomputable def vy(p:Program)(w:World)(n₀:Nat)(ann:Option Value):Nat->SharedT->Thread->Option SharedT
 | 0,_,_=>none
 | m+1,s,t=>match through t with
  | true=>some s
  | false=>match Gx n₀ ann t with
   | false=>none
   | true=>match vf (Ax oA) p w s t with
    | some (s',t')=>vy p w n₀ ann m s' t'
    | none=>none
theorem qe{p:Program}{w:World}{n₀:Nat}{ann:Option Value}:∀{m:Nat}{s s2:SharedT}{t:Thread},vy p w n₀ ann m s t=some s2->topRun treeTable p w n₀ ann m s.abs t=some s2.abs
 | 0,_,_,_,e=>by cases e
 | m+1,s,s2,t,e=>by
  unfold vy at e
  rw[<- zf,<- sT,<- wM,<- jK] at e
  unfold topRun
  cases et:through t with
  | true=>rw[et] at e;cases e;rfl
  | false =>
   rw[et] at e
   simp only at e ⊢
   cases eo:stepOk n₀ ann t with
   | false=>rw[eo] at e;cases e
   | true =>
    rw[eo] at e
    simp only at e ⊢
    cases es:stepT (denote treeTable) p w s t with
    | none=>rw[es] at e;cases e
    | some q =>
     obtain⟨s3,t3⟩:=q
     rw[es] at e
     rw[stepT_spec es]
     exact qe e
noncomputable def tOf:List Obj->Nat->BT->Option BT
 | [],_,t=>some t
 | o::os,n,t=>match ((t.ins n o).get n).isSome with
  | true=>tOf os (n+1) (t.ins n o)
  | false=>none
theorem wG(l:Life):∀{os:List Obj}{n:Nat}{t t':BT},tOf os n t=some t'->absHeap t' (n+os.length) l=⟨(absHeap t n l).objs++os.toArray,l⟩
 | [],n,t,t',e=>by
  cases e
  show absHeap t n l=⟨(absHeap t n l).objs++#[],l⟩
  rw[Array.append_empty]
  rfl
 | o::os,n,t,t',e=>by
  unfold tOf at e
  cases eg:((t.ins n o).get n).isSome with
  | false=>rw[eg] at e;cases e
  | true =>
   rw[eg] at e
   have i:=wG l e
   rw[absHeap_ins eg] at i
   have e2:n+1+os.length=n+(o::os).length:=by rw[JZ];omega
   rw[<- e2,i]
   show Heap.mk (((absHeap t n l).objs.push o)++os.toArray) l=_
   simp
theorem tK{h:Heap}{t:BT}(e:tOf h.objs.toList 0 .nil=some t):absHeap t h.objs.size h.life=h:=by
 have i:=wG h.life e
 rw[Ob,Kv] at i
 rw[i]
 obtain⟨objs,l⟩:=h
 show Heap.mk (#[]++objs.toList.toArray) l=_
 simp
noncomputable def BU(p:Program)(w:World)(N:Nat)(s₀:Shared):Option Shared:=match s₀.heap.isNs mainGlobals&&s₀.gens.size==0 with
 | true=>match tOf s₀.heap.objs.toList 0 .nil with
  | some t=>(vy p w s₀.heap.objs.size (s₀.heap.nsMap mainGlobals "__annotations__") N ⟨t,s₀.heap.objs.size,s₀.heap.life,s₀.gens,s₀.drawn,s₀.toks,s₀.os⟩ (topStub p)).bind λq=>match staticsOk (importedModules p.main.body) s₀.heap q.abs.heap&&namesBound p q.abs.heap&&gensDone q.abs&&laidKept s₀.heap q.abs.heap with
   | true=>some q.abs
   | false=>none
  | none=>none
 | false=>none
theorem zL{p:Program}{w:World}{N:Nat}{s₀ s:Shared}(e:BU p w N s₀=some s):topFrom treeTable p w N s₀=some s:=by
 unfold BU at e
 unfold topFrom
 cases e1:s₀.heap.isNs mainGlobals&&s₀.gens.size==0 with
 | false=>rw[e1] at e;cases e
 | true =>
  rw[e1] at e
  simp only at e ⊢
  cases e2:tOf s₀.heap.objs.toList 0 .nil with
  | none=>rw[e2] at e;cases e
  | some t =>
   rw[e2] at e
   simp only at e
   cases e3:vy p w s₀.heap.objs.size (s₀.heap.nsMap mainGlobals "__annotations__") N ⟨t,s₀.heap.objs.size,s₀.heap.life,s₀.gens,s₀.drawn,s₀.toks,s₀.os⟩ (topStub p) with
   | none=>rw[e3] at e;cases e
   | some q =>
    rw[e3] at e
    have k:=qe e3
    have k0:Pe ⟨t,s₀.heap.objs.size,s₀.heap.life,s₀.gens,s₀.drawn,s₀.toks,s₀.os⟩=s₀:=by
     unfold Pe
     rw[tK e2]
    rw[k0] at k
    rw[k]
    exact e
noncomputable def qu(p:Program)(w:World)(N:Nat):Option Shared:=((AM oA (opening p) w N (start (opening p)).1 (start (opening p)).2).bind (Az p)).bind (BU p w N)
theorem uR{p:Program}{w:World}{N:Nat}{s:Shared}(e:qu p w N=some s):openEnds treeTable p w N=some s:=by
 unfold qu at e
 unfold openEnds fencedOpening
 rw[<- xp,<- jK,<- tZ] at e
 cases e1:(importEnds treeTable (opening p) w N (start (opening p)).1 (start (opening p)).2).bind (fenceModules? p) with
 | none=>rw[e1] at e;cases e
 | some s0=>rw[e1] at e;exact zL e
theorem wO{p q:Program}{loose:List Str}{Xt:Shared->Bool}{α:Type}{Yf:Shared->α}{Ya:World->α}{N:Nat}
  (h:∀w,Option.map (λs=>(wQ q loose (importedModules p.main.body) Xt true s,Yf s)) (qu p w N)=some (openGood q loose,Ya w)):LeftO p q loose Xt Yf Ya N:=λw=>by
 have h:=h w
 rw[<- rZ] at h
 cases e:qu p w N with
 | none=>rw[e] at h;cases h
 | some s=>rw[e] at h;rw[uR e];exact h
end W
namespace M
open PySem L2
structure FI where
 n:Nat
 m:Ms
 mu:List Bool
 df:List A
 hf:Bool
structure Tb where
 fns:List (Str×FI)
 cst:List (Str×A)
 exs:List Str
 kit:List (Str×List (Str×Bool))
 exm:List (Str×List Str)
 fld:List (Str×List Str)
 ini:List (Str×FI)
 mts:List (Str×Str×FI)
structure Sc where
 N:List Str
 nm:List (Str×NameKind)
 di:List Str
 ca:List Str
 hd:Bool
 lv:List Str
 tp:Bool:=false
noncomputable def noT(s:Sc):Sc:={ s with tp:=false }
noncomputable def af{α β:Type}(x:Option α)(f:α->Option β):Option β:=match x with
 | some a=>f a
 | none=>none
noncomputable def grd{α:Type}(b:Bool)(x:Option α):Option α:=match b with
 | true=>x
 | false=>none
theorem aa{α β:Type}{x:Option α}{f:α->Option β}{y:β}(h:af x f=some y):∃a,x=some a/\f a=some y:=by
 cases x with
 | none=>cases h
 | some a=>exact⟨a,rfl,h⟩
theorem ah{α:Type}{b:Bool}{x:Option α}{y:α}(h:grd b x=some y):b=true/\x=some y:=by
 cases b with
 | false=>cases h
 | true=>exact⟨rfl,h⟩
noncomputable def isK(s:Sc)(x:Str)(k:NameKind):Bool:=s.nm.lookup x==some k
noncomputable def xq(s:Sc)(x:Str):Bool:=isK s x .local || isK s x .cell || isK s x .free
noncomputable def mW(s:Sc)(x:Str):Bool:=isK s x .local || isK s x .cell
noncomputable def okN(x:Str):Bool:=!(x==("__debug__" : Str))&&!(x==("__classdict__" : Str))
noncomputable def glB(s:Sc)(x:Str):Bool:=isK s x .globalImplicit&&okN x
noncomputable def ixN(x:Str):List Str->Nat->Option Nat
 | [],_=>none
 | y::ys,i=>if x==y then some i else ixN x ys (i+1)
theorem iS{x:Str}:∀{N:List Str}{k i:Nat},ixN x N k=some i->∃j,i=k+j/\N[j]?=some x
 | [],_,_,h=>by cases h
 | y::ys,k,i,h=>by
  unfold ixN at h
  split at h
  ·rename_i e;cases h;exact⟨0,rfl,by rw[beq_iff_eq.mp e];rfl⟩
  ·obtain⟨j,e1,e2⟩:=iS h;exact⟨j+1,by omega,by simpa using e2⟩
noncomputable def slot(s:Sc)(x:Str):Option Nat:=grd (xq s x&&okN x) (ixN x s.N 0)
noncomputable def cj(s:Sc)(x:Str):Option Nat:=grd (mW s x&&okN x) (ixN x s.N 0)
noncomputable def yC:List Str:=["len", "isinstance", "abs", "max", "min", "int", "bool", "str", "tuple", "list", "dict", "range", "ValueError", "sorted", "all", "zip", "set", "sum", "enumerate", "any", "reversed"]
def fS(K:JH)(mg:Str->Option Value)(fd:FuncData)(ps:List Str)(df:List A):Prop:=∀j,j<=df.length->∃ds dvs,Binds K fd ps ds/\Vals dvs ds/\∀G,RAs ⟨K,mg⟩ G dvs (df.drop j)
noncomputable def DX(fi:FI)(n:Nat):List A:=fi.df.drop (fi.df.length-(fi.n-n))
theorem fS.of{K:JH}{mg:Str->Option Value}{fd:FuncData}{ps:List Str}{fi:FI}(h:fS K mg fd ps fi.df)(n:Nat):∃ds dvs,Binds K fd ps ds/\Vals dvs ds/\∀G,RAs ⟨K,mg⟩ G dvs (DX fi n):=h _ (Nat.sub_le _ _)
theorem fS.all{K:JH}{mg:Str->Option Value}{fd:FuncData}{ps:List Str}{df:List A}(h:fS K mg fd ps df):Binds K fd ps []:=by
 obtain⟨ds,dvs,h1,h2,h3⟩:=h df.length (J1 _)
 have h3:=h3 λ_=>none
 rw[LJ] at h3
 cases h3
 cases h2
 exact h1
noncomputable def H9(tb:Tb)(f:Str):List Str:=(tb.fld.filter λp=>p.2.contains f).map (·.1)
structure Gd (tb:Tb) (k:Nat) (P:Program) (w:World) (K:JH) (mg:Str->Option Value) (base:Heap):Prop where
 fn:∀x f,tb.fns.lookup x=some f->∃a fd ps,cu P w K mg base (CXE P w) k a fd ps (SpM ⟨K,mg⟩ f.n f.m)/\mg x=some (.ref a)/\Ks K (.ref a)=true/\fS K mg fd ps f.df
 cs:∀x a,tb.cst.lookup x=some a->∃v u,mg x=some u/\RelV v u/\∀G,RA ⟨K,mg⟩ G v a
 bl:∀x∈yC,mg x=none
 ex:∀x∈tb.exs,∃C,mg x=some (.ref C)/\LG K C rq "ValueError.__new__" = true
 kt:∀x l,tb.kit.lookup x=some l->∃u cv,ck cv=true/\RelV cv u/\((mg x=some u)\/(mg x=none/\bootBuiltins x=some u/\x ≠ "__name__"))/\∀c C k,l.lookup c=some k->mg c=some (.ref C)->dJ K C/\Ko K (.ref C) (eD cv)=some k
 em:∀x l,tb.exm.lookup x=some l->∃T,mg x=some (.ref T)/\∀c C,l.contains c=true->mg c=some (.ref C)->Mu K (.ref C) (.ref T)=some true
 fl:∀f c C,(H9 tb f).contains c=true->mg c=some (.ref C)->Cls K C/\CB K C f
 im:∀c f,tb.ini.lookup c=some f->∃C a fd ps j,j+1<=k/\cu P w K mg base (CXE P w) j a fd ps (SpM ⟨K,mg⟩ f.n f.m)/\mg c=some (.ref C)/\Mk K C a/\fS K mg fd ps f.df
 mt:∀m c f,(m,c,f)∈tb.mts->∃C a fd ps,cu P w K mg base (CXE P w) k a fd ps (SpM ⟨K,mg⟩ f.n f.m)/\mg c=some (.ref C)/\Cls K C/\Meth K C m a/\fS K mg fd ps f.df
 fh:∀x f,tb.fns.lookup x=some f->f.hf=true->∃a fd ps,FnH P w K mg base (CXE P w) k a fd ps (SpM ⟨K,mg⟩ f.n f.m)/\mg x=some (.ref a)/\Ks K (.ref a)=true/\fS K mg fd ps f.df
structure Sit (tb:Tb) (k:Nat) (X:Cx) (E:XK) (s:Sc):Prop where
 n:X.N=s.N
 nd:s.N.Nodup
 gl:∀x,s.nm.lookup x=some .globalImplicit->Gl X x
 vs:∀x,xq s x=true->Vis X.env.scope x
 lo:∀x,mW s x=true->Loc X.env.scope x
 lc:∀x,s.nm.lookup x=some .local->X.env.scope.names.lookup x=some .local
 ce:∀x,s.nm.lookup x=some .cell->X.env.scope.names.lookup x=some .cell
 fx:∀x,mW s x=true->X.fn x=true\/X.env.scope.names.lookup x=some .local
 cm:s.hd=false->X.calm=true
 rm:s.hd=false->bR k X.A
 ps:s.hd=false->Passes (CXE X.prog X.w) X E
 gd:Gd tb k X.prog X.w X.K X.mg X.base
 rh:cq k X.A
 tv:s.tp=true->X.stack=X.env::X.outer/\X.env.frame=some X.env.locals/\dX X E
section
variable{tb:Tb}{k:Nat}{X:Cx}{E:XK}{s:Sc}
theorem lP{x:Str}(h:okN x=true):NDb x/\NCd x:=by
 unfold okN at h
 rw[JK] at h
 exact⟨by simpa using h.1,by simpa using h.2⟩
theorem Sit.slot(S:Sit tb k X E s){x:Str}{i:Nat}(h:M.slot s x=some i):X.N[i]?=some x/\Vis X.env.scope x/\NDb x/\NCd x:=by
 obtain⟨h1,h2⟩:=ah h
 rw[JK] at h1
 obtain⟨j,e1,e2⟩:=iS h2
 obtain rfl:i=j:=by omega
 exact⟨by rw[S.n];exact e2,S.vs x h1.1,(lP h1.2).1,(lP h1.2).2⟩
theorem Sit.cj(S:Sit tb k X E s){x:Str}{i:Nat}(h:M.cj s x=some i):X.N[i]?=some x/\Loc X.env.scope x/\NDb x/\(X.fn x=true\/X.env.scope.names.lookup x=some .local):=by
 obtain⟨h1,h2⟩:=ah h
 rw[JK] at h1
 obtain⟨j,e1,e2⟩:=iS h2
 obtain rfl:i=j:=by omega
 exact⟨by rw[S.n];exact e2,S.lo x h1.1,(lP h1.2).1,S.fx x h1.1⟩
theorem Sit.glob(S:Sit tb k X E s){x:Str}(h:glB s x=true):Gl X x/\NDb x:=by
 unfold glB isK at h
 rw[JK,beq_iff_eq] at h
 exact⟨S.gl x h.1,(lP h.2).1⟩
end
noncomputable def notStar:Expr->Bool
 | .Starred _ _=>false
 | _=>true
theorem ax{e:Expr}(h:notStar e=true)(es:List Expr)(env:Env):starEach (e::es) env=(false,eval e env)::starEach es env:=by cases e<;>first|rfl|cases h
theorem cK{env:Env}{pos:Pos}:∀{es:List Expr},es.all notStar=true->(backTo pos (starEach es env)).any (·.1)=false
 | [],_=>rfl
 | e::es,h=>by
  rw[Ki,JK] at h
  rw[ax h.1]
  show (false || (backTo pos (starEach es env)).any (·.1))=false
  rw[cK h.2];rfl
noncomputable def gA:Expr->Bool
 | .ListComp _ _ _ _=>false
 | .SetComp _ _ _ _=>false
 | .DictComp _ _ _ _ _=>false
 | _=>true
theorem dG{e:Expr}(h:gA e=true)(t:Option Expr)(l:Nat)(env:Env):swapsWith e t l env=pure false:=by cases e<;>first|rfl|cases h
noncomputable def cM:Expr->Bool
 | .Set _ _ _=>false
 | _=>true
theorem cC{e:Expr}(h:cM e=true)(env:Env)(x:Value):foldedSetIterable e env x=pure x:=by cases e<;>first|rfl|cases h
noncomputable def plainT:Expr->Bool
 | .UnaryOp _ _ _=>false
 | .BoolOp _ _ _=>false
 | .IfExp _ _ _ _=>false
 | .Compare _ _ _ _=>false
 | _=>true
theorem oz{e:Expr}(h:plainT e=true)(env:Env):∀whole,isTrue e env whole=(do let v <- whole;standAt e.pos;holding [v] (truthy v)):=by
 intro whole;cases e<;>first|rfl|cases h
noncomputable def fq:Expr->Bool
 | .Slice _ _ _ _=>false
 | _=>true
theorem oR{e:Expr}(h:fq e=true):iK e:=by intro o i;cases e<;>first|rfl|cases h
theorem xA{e:Expr}(h:fq e=true):vL e:=by intro o i;cases e<;>first|rfl|cases h
theorem eY{op:CmpOp}{e:Expr}(h:cM e=true):behindInMarks op e=false:=by cases e<;>first|rfl|cases h
end M
namespace M
open PySem L2
theorem kW{env:Env}:∀es:List Expr,(assignEach es env).length=es.length
 | []=>rfl
 | e::es=>by cases e<;>(show (_::assignEach es env).length=_;rw[JZ,JZ,kW es])
theorem i5{env:Env}:∀es:List Expr,es.all notStar=true->(assignEach es env).findIdx? (·.1)=none
 | [],_=>rfl
 | e::es,h=>by
  rw[Ki,JK] at h
  have ih:=i5 (env:=env) es h.2
  have e1:assignEach (e::es) env=(false,assign e env)::assignEach es env:=by cases e<;>first|rfl|cases h.1
  rw[e1,List.findIdx?_cons]
  simp[ih]
theorem v5{env:Env}{e:Expr}{es:List Expr}(h:notStar e=true):(assignEach (e::es) env).map (·.2)=assign e env::(assignEach es env).map (·.2):=by cases e<;>first|rfl|cases h
noncomputable def Ag(l:List (Str×Bool)):Str->Option Bool:=λc=>l.lookup c
noncomputable def Dz(l:List Str):Str->Bool:=λc=>l.contains c
section
variable{tb:Tb}{k:Nat}{X:Cx}{E:XK}{s:Sc}
noncomputable def oE(F:Expr->Option (Mi Rr)):List Expr->Option (Mi (List Rr))
 | []=>some az
 | e::es=>grd (notStar e) (af (F e) λm=>af (oE F es) λn=>some (ae m n))
noncomputable def zd(F G:Expr->Option (Mi Rr)):List Expr->List Bool->Option (Mi (List Rr))
 | [],_=>some az
 | e::es,b::bs=>grd (notStar e) (af (match b with|true=>F e|false=>G e) λm=>af (zd F G es bs) λn=>some (ae m n))
 | _::_,[]=>none
def NL(m:Mi (List Rr))(n:Nat):Prop:=∀ρ rs ρ',m ρ=some (.ok rs,ρ')->rs.length=n
theorem fI{F:Expr->Option (Mi Rr)}(h:∀e m,F e=some m->JE X E e m):∀{es:List Expr}{m:Mi (List Rr)},oE F es=some m->JA X E es m/\NL m es.length/\es.all notStar=true
 | [],m,e=>by cases e;exact⟨vt,we,rfl⟩
 | a::es,m,e=>by
  obtain⟨h1,e⟩:=ah e
  obtain⟨m1,e1,e⟩:=aa e
  obtain⟨m2,e2,e⟩:=aa e
  cases e
  obtain⟨i1,i2,i3⟩:=fI h e2
  exact⟨rz (h _ _ e1) i1 (ax h1 _ _),qQ i2,by rw[Ki,h1,i3];rfl⟩
theorem iL{F G:Expr->Option (Mi Rr)}(h:∀e m,F e=some m->JE X E e m)(g:∀e m,G e=some m->JE X E e m):∀{es:List Expr}{bs:List Bool}{m:Mi (List Rr)},zd F G es bs=some m->JA X E es m/\NL m es.length/\es.all notStar=true
 | [],_,m,e=>by cases e;exact⟨vt,we,rfl⟩
 | _::_,[],m,e=>by cases e
 | a::es,b::bs,m,e=>by
  obtain⟨h1,e⟩:=ah e
  obtain⟨m1,e1,e⟩:=aa e
  obtain⟨m2,e2,e⟩:=aa e
  cases e
  obtain⟨i1,i2,i3⟩:=iL h g e2
  refine⟨rz ?_ i1 (ax h1 _ _),qQ i2,by rw[Ki,h1,i3];rfl⟩
  cases b
  ·exact g _ _ e1
  ·exact h _ _ e1
noncomputable def trB(op:BoolOp)(F:Expr->Option (Mi Rr)):List Expr->Option (Mi Rr)
 | []=>none
 | [a]=>F a
 | a::b::r=>af (F a) λm=>af (trB op F (b::r)) λn=>some (match op with | .And=>kr m n | .Or=>uM m n)
theorem wV{op:BoolOp}{F:Expr->Option (Mi Rr)}{pos:Pos}(h:∀e m,F e=some m->JE X E e m):∀{es:List Expr}{m:Mi Rr},trB op F es=some m->JE X E (.BoolOp op es pos) m
 | [],m,e=>by cases e
 | [a],m,e=>BK (h _ _ e)
 | a::b::r,m,e=>by
  obtain⟨m1,e1,e⟩:=aa e
  obtain⟨m2,e2,e⟩:=aa e
  have i:=wV (pos:=pos) h e2
  cases op
  ·cases e;exact ES (h _ _ e1) i
  ·cases e;exact GN (h _ _ e1) i
noncomputable def trW(op:BoolOp)(F:Expr->Option (Mi Bool)):List Expr->Option (Mi Bool)
 | []=>none
 | [a]=>F a
 | a::b::r=>af (F a) λm=>af (trW op F (b::r)) λn=>some (match op with | .And=>lM m n | .Or=>mOr m n)
theorem u0{op:BoolOp}{F:Expr->Option (Mi Bool)}{pos:Pos}(h:∀e m,F e=some m->JT X E e m):∀{es:List Expr}{m:Mi Bool},trW op F es=some m->JW X E (.BoolOp op es pos) m
 | [],m,e=>by cases e
 | [a],m,e=>by cases op;exact ze (h _ _ e);exact DP (h _ _ e)
 | a::b::r,m,e=>by
  obtain⟨m1,e1,e⟩:=aa e
  obtain⟨m2,e2,e⟩:=aa e
  have i:=u0 (pos:=pos) h e2
  cases op
  ·cases e;exact C9 (h _ _ e1) i
  ·cases e;exact GH (h _ _ e1) i
noncomputable def Iz(s:Sc):Expr->Bool
 | .Name x _=>s.di.contains x
 | _=>false
noncomputable def qM(s:Sc):Expr->Bool
 | .Name x _=>s.di.contains x
 | .Dict _ _ _=>true
 | .List es _=>es.all (Iz s)
 | _=>false
noncomputable def yZ:Expr->Bool
 | .Constant (.bool _) _ _=>true
 | _=>false
noncomputable def trC(s:Sc)(op:CmpOp)(a b:Expr)(m n:Mi Rr):Option (Mi Rr):=match op with
 | .Eq=>grd (!s.hd) (some (mOp fEq m n))
 | .NotEq=>grd (!s.hd) (some (mOp (match qM s a&&qM s b with|true=>fOr (fOr fNe mS) nt|false=>fNe) m n))
 | .Lt=>some (mOp fLt m n)
 | .LtE=>some (mOp fLe m n)
 | .Gt=>some (mOp fGt m n)
 | .GtE=>some (mOp fGe m n)
 | .Is=>some (mOp (match yZ b with|true=>fOr (fIs false) (nN false)|false=>fIs false) m n)
 | .IsNot=>some (mOp (match yZ b with|true=>fOr (fIs true) (nN true)|false=>fIs true) m n)
 | .In=>grd (!s.hd&&cM b) (some (mOp (fOr (fOr (gD false) (dk false)) (i6 false)) m n))
 | .NotIn=>grd (!s.hd&&cM b) (some (mOp (fOr (fOr (gD true) (dk true)) (i6 true)) m n))
theorem Ce(S:Sit tb k X E s){op:CmpOp}{a b:Expr}{m n q:Mi Rr}{pos:Pos}(h:trC s op a b m n=some q)(ha:JE X E a m)(hb:JE X E b n):JE X E (.Compare a [op] [b] pos) q/\JT X E (.Compare a [op] [b] pos) (ai q):=by
 cases op
 case Eq =>
  obtain⟨h1,h⟩:=ah h
  have hu:=(S.rm (by simpa using h1)).units
  cases h
  exact⟨Fj hu ha hb,Ha hu ha hb⟩
 case NotEq =>
  obtain⟨h1,h⟩:=ah h
  have hu:=(S.rm (by simpa using h1)).units
  cases e:qM s a&&qM s b<;>simp only[e] at h<;>cases h
  ·exact⟨HN hu ha hb,Gh hu ha hb⟩
  ·exact⟨Ek hu ha hb,CZ hu ha hb⟩
 case Lt=>cases h;exact⟨He ha hb,F3 ha hb⟩
 case LtE=>cases h;exact⟨Hy ha hb,FR ha hb⟩
 case Gt=>cases h;exact⟨Ge ha hb,Hn ha hb⟩
 case GtE=>cases h;exact⟨Fg ha hb,FU ha hb⟩
 case Is =>
  unfold trC at h
  cases e:yZ b<;>simp only[e] at h<;>cases h
  ·exact⟨GR ha hb,FT ha hb⟩
  ·exact⟨Er ha hb,Ee ha hb⟩
 case IsNot =>
  unfold trC at h
  cases e:yZ b<;>simp only[e] at h<;>cases h
  ·exact⟨x9 ha hb,zR ha hb⟩
  ·exact⟨tM ha hb,uA ha hb⟩
 case In =>
  obtain⟨h1,h⟩:=ah h
  rw[JK] at h1
  have hu:=ql (S.rm (by simpa using h1.1))
  cases h
  exact⟨D5 hu ha hb (eY h1.2),Bv hu ha hb (eY h1.2)⟩
 case NotIn =>
  obtain⟨h1,h⟩:=ah h
  rw[JK] at h1
  have hu:=ql (S.rm (by simpa using h1.1))
  cases h
  exact⟨yo hu ha hb (eY h1.2),zC hu ha hb (eY h1.2)⟩
noncomputable def chI:CmpOp->Option (Int->Int->Bool)
 | .Lt=>some cLt
 | .LtE=>some cLe
 | .Gt=>some cGt
 | .GtE=>some cGe
 | _=>none
theorem uZ{op:CmpOp}{p:Int->Int->Bool}(h:chI op=some p):∃r,OpR X (compareOp op) r/\∀i j H Q,Q (.bl (p i j)) H->r (.int i) (.int j) H Q:=by
 cases op<;>first|(cases h;done)|skip
 ·cases h;exact⟨_,qU,AB⟩
 ·cases h;exact⟨_,qT,Au⟩
 ·cases h;exact⟨_,wZ,FQ⟩
 ·cases h;exact⟨_,um,FH⟩
noncomputable def bf1(f:Str):Option (A->Option Rr) :=
 if f==("len" : Str) then some eB else if f==("abs" : Str) then some ui else if f==("int" : Str) then some rR else if f==("tuple" : Str) then some oo else
 if f==("list" : Str) then some u4 else if f==("sorted" : Str) then some (gOr gu gF) else if f==("dict" : Str) then some (gOr oP lH) else
 if f==("all" : Str) then some (mz λbs=>bs.all id) else none
theorem aX(S:Sit tb k X E s){x:Str}(h:yC.contains x=true):X.mg x=none:=S.gd.bl x (Li.mp h)
theorem CW(S:Sit tb k X E s){f:Str}{g:A->Option Rr}{a:Expr}{m:Mi Rr}{p pos:Pos}(h:bf1 f=some g)(hg:glB s f=true)(hh:s.hd=false)(hs:notStar a=true)(ha:JE X E a m):JE X E (.Call (.Name f p) [a] [] pos) (mB1 g m):=by
 obtain⟨g1,g2⟩:=S.glob hg
 have hc:=S.cm hh
 have h1:=ax hs [] X.env
 have h2:(backTo pos (starEach [] X.env)).any (·.1)=false:=rfl
 unfold bf1 at h
 split at h
 ·rename_i z;rw[beq_iff_eq] at z;subst z;cases h;exact qB tU Cr g1 (aX S (by decide +kernel)) CO ha (by decide +kernel) g2 h1 h2
 split at h
 ·rename_i z;rw[beq_iff_eq] at z;subst z;cases h;exact qB vN Dh g1 (aX S (by decide +kernel)) EJ ha (by decide +kernel) g2 h1 h2
 split at h
 ·rename_i z;rw[beq_iff_eq] at z;subst z;cases h;exact jV sF BG g1 (aX S (by decide +kernel)) n6 ha (by decide +kernel) g2 h1 h2
 split at h
 ·rename_i z;rw[beq_iff_eq] at z;subst z;cases h;exact jV jE ve g1 (aX S (by decide +kernel)) mU ha (by decide +kernel) g2 h1 h2
 split at h
 ·rename_i z;rw[beq_iff_eq] at z;subst z;cases h;exact jV kZ zV g1 (aX S (by decide +kernel)) qg ha (by decide +kernel) g2 h1 h2
 split at h
 ·rename_i z;rw[beq_iff_eq] at z;subst z;cases h;exact qB (lE hc) rP g1 (aX S (by decide +kernel)) rL ha (by decide +kernel) g2 h1 h2
 split at h
 ·rename_i z;rw[beq_iff_eq] at z;subst z;cases h;exact jV (oi hc) uf g1 (aX S (by decide +kernel)) qC ha (by decide +kernel) g2 h1 h2
 split at h
 ·rename_i z;rw[beq_iff_eq] at z;subst z;cases h;exact qB (vg hc) DQ g1 (aX S (by decide +kernel)) vK ha (by decide +kernel) g2 h1 h2
 ·cases h
noncomputable def bf2(f:Str):Option (A->A->Option Rr):=if f==("max" : Str) then some sP else if f==("min" : Str) then some sx else none
theorem tY(S:Sit tb k X E s){f:Str}{g:A->A->Option Rr}{a b:Expr}{m n:Mi Rr}{p pos:Pos}(h:bf2 f=some g)(hg:glB s f=true)(hh:s.hd=false)(hs:notStar a=true)(hs':notStar b=true)(ha:JE X E a m)(hb:JE X E b n):JE X E (.Call (.Name f p) [a,b] [] pos) (mB2 g m n):=by
 obtain⟨g1,g2⟩:=S.glob hg
 have hc:=S.cm hh
 have h1:=ax hs [b] X.env
 have h3:=ax hs' [] X.env
 have h2:(backTo pos (starEach [b] X.env)).any (·.1)=false:=cK (by rw[Ki,hs'];rfl)
 unfold bf2 at h
 split at h
 ·rename_i z;rw[beq_iff_eq] at z;subst z;cases h;exact AH (sg hc) Cs g1 (aX S (by decide +kernel)) B6 ha hb (by decide +kernel) g2 h1 h3 h2
 split at h
 ·rename_i z;rw[beq_iff_eq] at z;subst z;cases h;exact AH (sk hc) CS g1 (aX S (by decide +kernel)) Cv ha hb (by decide +kernel) g2 h1 h3 h2
 ·cases h
noncomputable def tyN(x:Str):Option Ty:=if x==("int" : Str) then some .int else if x==("bool" : Str) then some .bool else if x==("str" : Str) then some .str else if x==("tuple" : Str) then some .tuple else if x==("list" : Str) then some .list else if x==("dict" : Str) then some .dict else none
theorem BM{x:Str}{T:Ty}(h:tyN x=some T):bootBuiltins x=some (.type T.n)/\yC.contains x=true/\x ≠ "__name__" := by
 unfold tyN at h
 split at h
 ·rename_i z;rw[beq_iff_eq] at z;subst z;cases h;exact⟨n6,by decide +kernel,by decide +kernel⟩
 split at h
 ·rename_i z;rw[beq_iff_eq] at z;subst z;cases h;exact⟨yA,by decide +kernel,by decide +kernel⟩
 split at h
 ·rename_i z;rw[beq_iff_eq] at z;subst z;cases h;exact⟨oC,by decide +kernel,by decide +kernel⟩
 split at h
 ·rename_i z;rw[beq_iff_eq] at z;subst z;cases h;exact⟨mU,by decide +kernel,by decide +kernel⟩
 split at h
 ·rename_i z;rw[beq_iff_eq] at z;subst z;cases h;exact⟨qg,by decide +kernel,by decide +kernel⟩
 split at h
 ·rename_i z;rw[beq_iff_eq] at z;subst z;cases h;exact⟨qC,by decide +kernel,by decide +kernel⟩
 ·cases h
end
end M
namespace M
open PySem L2
structure Tr where
 E:Sc->Expr->Option (Mi Rr)
 T:Sc->Expr->Option (Mi Bool)
 I:Sc->Expr->Expr->Option (Mi (List A))
structure bq (tb:Tb) (k:Nat) (r:Tr):Prop where
 E:∀{X E s e m},Sit tb k X E s->r.E s e=some m->JE X E e m
 T:∀{X E s e m},Sit tb k X E s->r.T s e=some m->JT X E e m
 I:∀{X E s tg e m},Sit tb k X E s->r.I s tg e=some m->JI X E tg e m
noncomputable def trG(s:Sc)(lo:Nat):Nat->Expr->Option Mg
 | 0,_=>none
 | d+1,.Name x _=>af (cj s x) λi=>grd (Md lo i) (some (cP i))
 | d+1,.Tuple es _ _=>grd (!s.hd) (af (trGs (trG s lo d) es) λgs=>some (yk (pP es.length gs) (qb es.length gs)))
 | _+1,_=>none
where trGs (F:Expr->Option Mg):List Expr->Option Mgs
 | []=>some ur
 | e::es=>grd (notStar e) (af (F e) λg=>af (trGs F es) λgs=>some (kS g gs))
section
variable{tb:Tb}{k:Nat}{X:Cx}{E:XK}{s:Sc}
theorem pS{lo:Nat}{F:Expr->Option Mg}(h:∀e g,F e=some g->JG X lo e g):∀{es:List Expr}{gs:Mgs},trG.trGs F es=some gs->JGs X lo es gs/\es.all notStar=true
 | [],gs,e=>by cases e;exact⟨zW,rfl⟩
 | a::es,gs,e=>by
  obtain⟨h1,e⟩:=ah e
  obtain⟨g,e1,e⟩:=aa e
  obtain⟨gs',e2,e⟩:=aa e
  cases e
  obtain⟨i1,i2⟩:=pS h e2
  exact⟨uX (h _ _ e1) i1 (λx y=>wY x y (v5 h1)),by rw[Ki,h1,i2];rfl⟩
theorem fk(S:Sit tb k X E s){lo:Nat}:∀{d:Nat}{e:Expr}{g:Mg},trG s lo d e=some g->JG X lo e g
 | 0,e,g,h=>by cases h
 | d+1,e,g,h=>by
  unfold trG at h
  split at h
  ·rename_i heq;cases heq
  ·rename_i heq;cases heq
   obtain⟨i,e1,h⟩:=aa h
   obtain⟨h1,h⟩:=ah h
   cases h
   obtain⟨a1,a2,a3,a4⟩:=S.cj e1
   exact yr (by rw[S.n];exact S.nd) a1 a2 (K4 h1) a4
  ·rename_i heq;cases heq
   obtain⟨h0,h⟩:=ah h
   obtain⟨gs,e1,h⟩:=aa h
   cases h
   obtain⟨i1,i2⟩:=pS (λe g h=>fk S h) e1
   have hc:=S.cm (by simpa using h0)
   exact HH (DT hc i1 (kW _) (i5 _ i2)) (CA hc i1 (kW _) (i5 _ i2))
  ·cases h
noncomputable def HM:Expr->Bool
 | .Name _ _=>true
 | _=>false
noncomputable def B1(r:Tr)(s:Sc)(tg:Expr):Expr->Option (Mi (List A))
 | .Call (.Name f p) [a] [] pos=>match f==("range" : Str) with
  | true=>grd (glB s f&&notStar a) (af (r.E s a) λm=>some (eE m))
  | false=>af (r.E s (.Call (.Name f p) [a] [] pos)) λm=>some (nO m)
 | e=>af (r.E s e) λm=>some (nO m)
theorem Ah{r:Tr}(R:bq tb k r)(S:Sit tb k X E s){tg e:Expr}{m:Mi (List A)}(h:B1 r s tg e=some m):JI X E tg e m:=by
 unfold B1 at h
 split at h
 ·split at h
  ·rename_i z;rw[beq_iff_eq] at z;subst z
   obtain⟨h1,h⟩:=ah h
   rw[JK] at h1
   obtain⟨m1,e1,h⟩:=aa h
   cases h
   exact yq (S.glob h1.1).1 (aX S (by decide +kernel)) (R.E S e1) (ax h1.2 _ _) (ax h1.2 _ _)
  ·obtain⟨m1,e1,h⟩:=aa h
   cases h;exact uJ (R.E S e1)
 ·obtain⟨m1,e1,h⟩:=aa h
  cases h;exact uJ (R.E S e1)
noncomputable def oor{α:Type}(a b:Option α):Option α:=match a with
 | some x=>some x
 | none=>b
theorem bx{α:Type}{a b:Option α}{x:α}(h:oor a b=some x):a=some x\/b=some x:=by
 cases a with
 | none=>exact .inr h
 | some y=>exact .inl h
noncomputable def trI(r:Tr)(s:Sc)(tg e:Expr):Option (Mi (List A)):=oor (r.I s tg e) (B1 r s tg e)
theorem jt{r:Tr}(R:bq tb k r)(S:Sit tb k X E s){tg e:Expr}{m:Mi (List A)}(h:trI r s tg e=some m):JI X E tg e m:=by
 rcases bx h with h|h
 ·exact R.I S h
 ·exact Ah R S h
noncomputable def tgN:Nat->Expr->List Str
 | 0,_=>[]
 | _+1,.Name x _=>[x]
 | d+1,.Tuple es _ _=>es.flatMap (tgN d)
 | _+1,_=>[]
noncomputable def Ej(N own:List Str):List Str:=N.map (λn=>if own.contains n then n++(" (of the def)" : Str) else n)++own
noncomputable def jU(s:Sc)(N:List Str)(own:Nat)(sc:Scope):Bool :=
 sc.kind==.function&&sc.names.all (λy=>y.2 != .cell)&&sc.names.all (λy=>y.2 != .local || sc.names.lookup y.1==some .local)&&N.length==s.N.length+own&&decide N.Nodup &&
 ((N.take s.N.length).zip s.N).all (λp=>p.1==p.2 || sc.names.lookup p.1==none)&&(N.take s.N.length).all (λn=>sc.names.lookup n != some .local)&&sc.names.all (λy=>y.2 != .free || s.nm.lookup y.1==some .cell)
noncomputable def lG(s:Sc)(N:List Str)(sc:Scope):Sc:={ N:=N,nm:=sc.names,di:=s.di,ca:=[],hd:=false,lv:=s.lv }
end
end M
namespace M
open PySem L2
section
variable{tb:Tb}{k:Nat}{X:Cx}{E:XK}{s:Sc}
theorem bb{α:Type}{x:Str}{v:α}:∀{l:List (Str×α)},l.lookup x=some v->(x,v)∈l
 | (y,u)::l,h=>by
  rw[Kq] at h
  split at h
  ·rename_i e;cases h;rw[beq_iff_eq.mp e];exact JN
  ·exact JQ _ (bb h)
theorem Sit.comp(S:Sit tb k X E s){N:List Str}{sc:Scope}{own:Nat}(h:jU s N own sc=true)(hh:s.hd=false) :
  bE X.N N own sc X.env.scope/\∀cl C s0 H fp,Sit tb k (cxC X N sc cl C s0 H fp) E00 (lG s N sc):=by
 unfold jU at h
 simp only[JK,beq_iff_eq,decide_eq_true_eq,Kw,KI,bne_iff_ne,ne_eq] at h
 obtain⟨⟨⟨⟨⟨⟨⟨h1,h2⟩,h3⟩,h4⟩,h5⟩,h6⟩,h7⟩,h8⟩:=h
 refine⟨⟨h1,h2,λy hy e=>?_,by rw[S.n];exact h4,h5,by rw[S.n];exact h6,by rw[S.n];exact h7,λy hy e=>?_⟩,λcl C s0 H fp=>?_⟩
 ·rcases h3 y hy with z|z
  ·exact absurd e z
  ·exact z
 ·rcases h8 y hy with z|z
  ·exact absurd e z
  ·exact .inl (S.ce _ z)
 ·have loc:∀x,mW (lG s N sc) x=true->sc.names.lookup x=some .local:=λx hx=>by
   unfold mW isK lG at hx
   simp only[KI,beq_iff_eq] at hx
   rcases hx with z|z
   ·exact z
   ·exact absurd rfl (h2 _ (bb z))
  refine⟨rfl,h5,λx hx=>wd hx,λx hx=>?_,λx hx=>.inl (fu (loc x hx)),λx hx=>fu hx,λx hx=>absurd rfl (h2 _ (bb hx)),λx hx=>.inr (fu (loc x hx)),λ_=>S.cm hh,λ_=>S.rm hh,λ_=>kX,S.gd,S.rh,λh=>absurd h Kc⟩
  unfold xq isK lG at hx
  simp only[KI,beq_iff_eq] at hx
  rcases hx with (z|z)|z
  ·exact .inl (fu z)
  ·exact absurd rfl (h2 _ (bb z))
  ·exact mZ z
noncomputable def t9(r:Tr)(s:Sc):List Expr->Option (Mi Bool)
 | []=>some eF
 | [t]=>r.T s t
 | _=>none
noncomputable def k8(r:Tr)(s:Sc)(elt:Expr)(gs:List Comprehension)(sc:Scope):Option (Mi Rr):=match gs with
 | [g] =>
  let own:=tgN 9 g.target
  let N:=Ej s.N own
  let s':=lG s N sc
  grd (!s.hd&&g.is_async==0&&cM g.iter&&jU s N own.length sc) (af (trI r s g.target g.iter) λmi=>af (trG s' s.N.length 9 g.target) λG=>af (t9 r s' g.ifs) λmt=>af (r.E s' elt) λme=>some (ik own.length mi G mt me))
 | _=>none
theorem kL{r:Tr}(R:bq tb k r)(S:Sit tb k X E s){ifs:List Expr}{m:Mi Bool}(h:t9 r s ifs=some m):JF X E ifs m:=by
 unfold t9 at h
 split at h
 ·cases h;exact EO
 ·exact Eh (R.T S h)
 ·cases h
theorem kI{r:Tr}(R:bq tb k r)(S:Sit tb k X E s){elt:Expr}{gs:List Comprehension}{sc:Scope}{m:Mi Rr}(h:k8 r s elt gs sc=some m) :
  s.hd=false/\∃N own tg iter ifs mi G mt me,gs=[⟨tg,iter,ifs,0⟩]/\m=ik own mi G mt me/\bE X.N N own sc X.env.scope/\JI X E tg iter mi/\(∀cl C s0 H fp,JG (cxC X N sc cl C s0 H fp) X.N.length tg G) /\
   (∀cl C s0 H fp,JF (cxC X N sc cl C s0 H fp) E00 ifs mt)/\(∀cl C s0 H fp,JE (cxC X N sc cl C s0 H fp) E00 elt me)/\∀x,foldedSetIterable iter X.env x=pure x:=by
 unfold k8 at h
 split at h
 ·rename_i g
  obtain⟨tg,iter,ifs,ia⟩:=g
  obtain⟨h0,h⟩:=ah h
  simp only[JK,beq_iff_eq,Kd] at h0
  obtain⟨⟨⟨h1,rfl⟩,h3⟩,h4⟩:=h0
  obtain⟨mi,e1,h⟩:=aa h
  obtain⟨G,e2,h⟩:=aa h
  obtain⟨mt,e3,h⟩:=aa h
  obtain⟨me,e4,h⟩:=aa h
  cases h
  obtain⟨C1,C2⟩:=S.comp h4 h1
  exact⟨h1,_,_,tg,iter,ifs,mi,G,mt,me,rfl,rfl,C1,jt R S e1,λcl C s0 H fp=>by rw[S.n];exact fk (C2 cl C s0 H fp) e2,λcl C s0 H fp=>kL R (C2 cl C s0 H fp) e3,λcl C s0 H fp=>R.E (C2 cl C s0 H fp) e4,cC h3 _⟩
 ·cases h
noncomputable def trP(F:Expr->Option (Mi Rr)):Option Expr->Option (Mi (Option Int))
 | none=>some gG
 | some e=>af (F e) λm=>some (kF m)
theorem ub{F:Expr->Option (Mi Rr)}(h:∀e m,F e=some m->JE X E e m){o:Option Expr}{m:Mi (Option Int)}(e:trP F o=some m):JP X E o m:=by
 cases o with
 | none=>cases e;exact yN
 | some a=>obtain⟨m1,e1,e⟩:=aa e;cases e;exact zw (h _ _ e1)
noncomputable def xa(r:Tr)(s:Sc)(a:Expr):Expr->Option (Mi Rr)
 | .Slice lo hi none _=>af (r.E s a) λm=>af (trP (r.E s) lo) λml=>af (trP (r.E s) hi) λmh=>some (mSl m ml mh)
 | b=>grd (fq b&&!s.hd) (af (r.E s a) λm=>af (r.E s b) λn=>some (mOp (fOr fIx aE) m n))
theorem wj{r:Tr}(R:bq tb k r)(S:Sit tb k X E s){a b:Expr}{m:Mi Rr}{pos:Pos}(h:xa r s a b=some m):JE X E (.Subscript a b pos) m:=by
 unfold xa at h
 split at h
 ·obtain⟨m1,e1,h⟩:=aa h
  obtain⟨m2,e2,h⟩:=aa h
  obtain⟨m3,e3,h⟩:=aa h
  cases h
  exact Hw (R.E S e1) (ub (λ_ _=>R.E S) e2) (ub (λ_ _=>R.E S) e3)
 ·obtain⟨h0,h⟩:=ah h
  simp only[JK,Kd] at h0
  obtain⟨m1,e1,h⟩:=aa h
  obtain⟨m2,e2,h⟩:=aa h
  cases h
  exact Gq (ql (S.rm h0.2)) (R.E S e1) (R.E S e2) (oR h0.1) (xA h0.1)
noncomputable def trJ(r:Tr)(s:Sc):List Expr->Option (Mi (List Str))
 | []=>some (cV [])
 | .Constant (.str x) _ _::es=>af (trJ r s es) λn=>some (mJ (mC (.str x)) n)
 | .FormattedValue e (-1) none _::es=>af (r.E s e) λm=>af (trJ r s es) λn=>some (mJ (mFv m) n)
 | _=>none
theorem n8{r:Tr}(R:bq tb k r)(S:Sit tb k X E s):∀{es:List Expr}{m:Mi (List Str)},trJ r s es=some m->JJ X E es m
 | [],m,h=>by cases h;exact tF
 | e::es,m,h=>by
  unfold trJ at h
  split at h
  ·rename_i heq;cases heq
  ·rename_i heq;cases heq
   obtain⟨n,e1,h⟩:=aa h
   cases h
   exact iF ox (n8 R S e1)
  ·rename_i heq;cases heq
   obtain⟨m1,e1,h⟩:=aa h
   obtain⟨n,e2,h⟩:=aa h
   cases h
   exact iF (Il (R.E S e1)) (n8 R S e2)
  ·cases h
noncomputable def BH(r:Tr)(s:Sc):List Expr->Option (Mi Rr)
 | a::b::es=>grd (Md (es.length+2) 100) (af (trJ r s (a::b::es)) λm=>some (mJs m))
 | _=>none
theorem zj{r:Tr}(R:bq tb k r)(S:Sit tb k X E s){es:List Expr}{m:Mi Rr}{pos:Pos}(h:BH r s es=some m):JE X E (.JoinedStr es pos) m:=by
 unfold BH at h
 split at h
 ·obtain⟨h0,h⟩:=ah h
  obtain⟨m1,e1,h⟩:=aa h
  cases h
  exact AI (n8 R S e1) (by have:=K4 h0;simpa using this)
 ·cases h
noncomputable def upB(f:Str):Bool:=match f.cps[0]? with
 | some c=>Md 65 c&&Md c 90
 | none=>false
noncomputable def DH:Expr->Bool
 | .ListComp _ _ _ _=>true
 | .List _ _=>true
 | .Dict _ _ _=>true
 | .BinOp _ .Add _ _=>true
 | .Subscript _ (.Slice _ _ _ _) _=>true
 | .Call (.Name f _) _ _ _=>f==("list" : Str) || f==("sorted" : Str) || f==("dict" : Str) || upB f
 | .Call (.Attribute _ _ _) _ _ _=>true
 | _=>false
noncomputable def trF(r:Tr)(s:Sc)(e:Expr):Option (Mi Rr):=match e with
 | .Name x _=>match s.lv.contains x with
  | true=>r.E s e
  | false=>match slot s x with
   | some i=>some (aM i)
   | none=>r.E s e
 | e=>match DH e with
  | true=>af (r.E s e) λm=>some (mFz m)
  | false=>r.E s e
theorem oQ{r:Tr}(R:bq tb k r)(S:Sit tb k X E s){e:Expr}{m:Mi Rr}(h:trF r s e=some m):JE X E e m:=by
 unfold trF at h
 split at h
 ·split at h
  ·exact R.E S h
  split at h
  ·rename_i e1;cases h
   obtain⟨a1,a2,a3,a4⟩:=S.slot e1
   exact Ai a1 a2 a3 a4
  ·exact R.E S h
 ·split at h
  ·obtain⟨m1,e1,h⟩:=aa h
   cases h;exact FA (R.E S e1)
  ·exact R.E S h
noncomputable def gX(s:Sc):Nat->List Expr->List Bool->List Nat
 | j,.Name x _::es,false::bs=>match s.lv.contains x with
  | true=>j::gX s (j+1) es bs
  | false=>gX s (j+1) es bs
 | j,_::es,_::bs=>gX s (j+1) es bs
 | _,_,_=>[]
noncomputable def fP:List Nat->Ms->Ms
 | [],m=>m
 | j::js,m=>wH j (fP js m)
theorem SpM.fP{K:Kx}{n:Nat}{m:Ms}{vs:List V}{H:Hp}{Q:VK}{E:XK}:∀{js:List Nat},SpM K n (M.fP js m) vs H Q E->SpM K n m vs H Q E
 | [],h=>h
 | _::_,h=>SpM.fP (SpM.lend h)
noncomputable def BB(tb:Tb)(r:Tr)(s:Sc)(fi:FI)(args:List Expr):Option (Mi (List Rr)):=grd (args.length+(DX fi args.length).length==fi.n) (zd (r.E s) (trF r s) args fi.mu)
noncomputable def AW(tb:Tb)(r:Tr)(s:Sc)(a:Expr)(x:Str):Option (Mi Rr):=match tyN x with
 | some T=>af (r.E s a) λm=>some (mB1 (cQ T) m)
 | none=>match a with
  | .Name y _=>grd (s.ca.contains y) (af (tb.kit.lookup x) λl=>af (r.E s a) λm=>some (mB1 (dC (Ag l)) m))
  | _=>none
noncomputable def u6(tb:Tb)(s:Sc):List Expr->Option (List (List (Str×Bool)))
 | []=>some []
 | .Name x _::es=>grd (glB s x) (af (tb.kit.lookup x) λl=>af (u6 tb s es) λls=>some (l::ls))
 | _=>none
theorem p6(S:Sit tb k X E s):∀{es:List Expr}{ls:List (List (Str×Bool))},u6 tb s es=some ls->∃cvs,PA X es (tAs cvs)/\cvs.all ck=true/\cvs.length=es.length/\∀c C b,eQ ls c=some b->X.mg c=some (.ref C)->(ls≠[]->dJ X.K C)/\K8 X.K (.ref C) (cvs.map eD)=some b
 | [],ls,h=>by cases h;exact⟨[],cg,rfl,rfl,λc C b e _=>⟨λz=>absurd rfl z,e⟩⟩
 | e::es,ls,h=>by
  unfold u6 at h
  split at h
  ·rename_i heq;cases heq
  ·rename_i x px es' heq
   cases heq
   obtain⟨hg,h⟩:=ah h
   obtain⟨l,e1,h⟩:=aa h
   obtain⟨ls',e2,h⟩:=aa h
   cases h
   obtain⟨cvs,p1,p2,p3,p4⟩:=p6 S e2
   obtain⟨u,cv,c1,c2,c3,c4⟩:=S.gd.kt _ _ e1
   obtain⟨g3,g4⟩:=S.glob hg
   have pe:PE X (.Name x px) (tC cv):=by
    rcases c3 with c3|⟨c3,c5,c6⟩
    ·exact lJ g3 c3 c2 g4
    ·exact kO g3 c3 c5 c2 c6 g4
   refine⟨cv::cvs,a6 pe p1 rfl,by rw[Ki,c1,p2];rfl,by rw[JZ,JZ,p3],λc C b et hm=>?_⟩
   unfold eQ at et
   split at et
   ·rename_i el
    cases et
    obtain⟨x1,x2⟩:=c4 c C true el hm
    exact⟨λ_=>x1,by rw[JU,K8,x2]⟩
   ·rename_i el
    obtain⟨x1,x2⟩:=c4 c C false el hm
    exact⟨λ_=>x1,by rw[JU,K8,x2];exact(p4 c C b et hm).2⟩
   ·cases et
  ·cases h
noncomputable def Av(tb:Tb)(r:Tr)(s:Sc)(a:Expr)(es:List Expr):Option (Mi Rr):=match a,es with
 | .Name y _,e::es=>grd (s.ca.contains y&&Md es.length 100) (af (u6 tb s (e::es)) λls=>af (r.E s a) λm=>some (mB1 (dC (eQ ls)) m))
 | _,_=>none
noncomputable def vV(tb:Tb)(r:Tr)(s:Sc)(f:Str)(args:List Expr):Option (Mi Rr):=grd (glB s f) (match tb.fns.lookup f with
 | some fi=>match args with
  | []=>none
  | a::as=>match s.hd with
   | true=>grd (fi.hf&&(a::as).length==fi.n) (af (oE (r.E s) (a::as)) λm=>some (cB (av fi.m [] (cB m))))
   | false=>af (BB tb r s fi (a::as)) λm=>some (av (fP (gX s 0 (a::as) fi.mu) fi.m) (DX fi (a::as).length) m)
 | none=>match args with
  | [a]=>grd (notStar a&&!s.hd) (af (bf1 f) λg=>af (r.E s a) λm=>some (mB1 g m))
  | [a,.Name x p]=>match f==("isinstance" : Str) with
   | true=>grd (notStar a&&glB s x) (AW tb r s a x)
   | false=>grd (notStar a&&!s.hd) (af (bf2 f) λg=>af (r.E s a) λm=>af (r.E s (.Name x p)) λn=>some (mB2 g m n))
  | [a,.Tuple es _ _]=>grd (notStar a&&f==("isinstance" : Str)) (Av tb r s a es)
  | [a,b]=>grd (notStar a&&notStar b&&!s.hd) (af (bf2 f) λg=>af (r.E s a) λm=>af (r.E s b) λn=>some (mB2 g m n))
  | _=>none)
theorem sy{r:Tr}(R:bq tb k r)(S:Sit tb k X E s){f:Str}{args:List Expr}{m:Mi Rr}{p pos:Pos}(h:vV tb r s f args=some m):JE X E (.Call (.Name f p) args [] pos) m:=by
 have h':=ah h
 clear h
 obtain⟨hg,h⟩:=h'
 split at h
 ·rename_i fi ef
  split at h
  ·cases h
  ·rename_i a as
   split at h
   ·obtain⟨h0,h⟩:=ah h
    rw[JK,beq_iff_eq] at h0
    obtain⟨ma,e1,h⟩:=aa h
    cases h
    obtain⟨i1,i2,i3⟩:=fI (λ_ _=>R.E S) e1
    obtain⟨fa,fd,ps,F,hm,hk,hb⟩:=S.gd.fh f fi ef h0.1
    have i3':=i3
    rw[Ki,JK] at i3'
    exact vG F S.rh (S.glob hg).1 hm hk hb.all i1 (kP (d:=0) i2 h0.2) (S.glob hg).2 (ax i3'.1 _ _) (cK i3'.2)
   rename_i hh
   obtain⟨ma,e1,h⟩:=aa h
   cases h
   obtain⟨h1,e1⟩:=ah e1
   obtain⟨i1,i2,i3⟩:=iL (λ_ _=>R.E S) (λ_ _=>oQ R S) e1
   obtain⟨fa,fd,ps,F,hm,hk,hb⟩:=S.gd.fn f fi ef
   obtain⟨ds,dvs,hb1,hb2,hb3⟩:=hb.of (a::as).length
   have i3':=i3
   rw[Ki,JK] at i3'
   exact zk (F.imp λ_ _ _ _ q=>SpM.fP q) (S.rm hh) (S.glob hg).1 hm hk hb1 hb2 hb3 (S.ps hh) i1 (kP i2 (by rw[beq_iff_eq] at h1;exact h1)) (S.glob hg).2 (ax i3'.1 _ _) (cK i3'.2)
 ·split at h
  ·obtain⟨h0,h⟩:=ah h
   simp only[JK,Kd] at h0
   obtain⟨g,e1,h⟩:=aa h
   obtain⟨m1,e2,h⟩:=aa h
   cases h
   exact CW S e1 hg h0.2 h0.1 (R.E S e2)
  ·split at h
   ·rename_i z;rw[beq_iff_eq] at z;subst z
    obtain⟨h0,h⟩:=ah h
    simp only[JK] at h0
    obtain⟨g1,g2⟩:=S.glob hg
    obtain⟨g3,g4⟩:=S.glob h0.2
    unfold AW at h
    split at h
    ·rename_i T eT
     obtain⟨m1,e2,h⟩:=aa h
     cases h
     obtain⟨t1,t2,t3⟩:=BM eT
     exact D9 T g1 (aX S (by decide +kernel)) c8 g3 (aX S t2) t1 (R.E S e2) (by decide +kernel) g2 t3 g4 (ax h0.1 _ _)
    ·split at h
     ·obtain⟨_,h⟩:=ah h
      obtain⟨l,e1,h⟩:=aa h
      obtain⟨m1,e2,h⟩:=aa h
      cases h
      obtain⟨u,cv,c1,c2,c3,c4⟩:=S.gd.kt _ _ e1
      refine yK (cv:=cv) g1 (aX S (by decide +kernel)) c8 ?_ c1 (λc C k hk hm=>c4 c C k hk hm) (R.E S e2) (by decide +kernel) g2 (ax h0.1 _ _)
      rcases c3 with c3|⟨c3,c5,c6⟩
      ·exact lJ g3 c3 c2 g4
      ·exact kO g3 c3 c5 c2 c6 g4
     ·cases h
   ·obtain⟨h0,h⟩:=ah h
    simp only[JK,Kd] at h0
    obtain⟨g,e1,h⟩:=aa h
    obtain⟨m1,e2,h⟩:=aa h
    obtain⟨m2,e3,h⟩:=aa h
    cases h
    exact tY S e1 hg h0.2 h0.1 rfl (R.E S e2) (R.E S e3)
  ·have h':=ah h
   clear h
   obtain⟨h0,h⟩:=h'
   rw[JK,beq_iff_eq] at h0
   obtain⟨hs,z⟩:=h0
   subst z
   obtain⟨g1,g2⟩:=S.glob hg
   unfold Av at h
   split at h
   ·have h':=ah h
    clear h
    obtain⟨h0,h⟩:=h'
    rw[JK] at h0
    obtain⟨ls,e1,h⟩:=aa h
    obtain⟨m1,e2,h⟩:=aa h
    cases h
    obtain⟨cvs,p1,p2,p3,p4⟩:=p6 S e1
    have ne:ls≠[]:=by
     intro z
     subst z
     unfold u6 at e1
     split at e1
     ·rename_i q;cases q
     ·obtain⟨_,e1⟩:=ah e1
      obtain⟨_,_,e1⟩:=aa e1
      obtain⟨_,_,e1⟩:=aa e1
      cases e1
     ·cases e1
    refine xF g1 (aX S (by decide +kernel)) c8 p1 p2 ?_ (λc C b et hm=>⟨(p4 c C b et hm).1 ne,(p4 c C b et hm).2⟩) (R.E S e2) (by decide +kernel) g2 (ax hs _ _)
    rw[p3,JZ]
    have:=K4 h0.2
    have:=fo
    omega
   ·cases h
  ·obtain⟨h0,h⟩:=ah h
   simp only[JK,Kd] at h0
   obtain⟨g,e1,h⟩:=aa h
   obtain⟨m1,e2,h⟩:=aa h
   obtain⟨m2,e3,h⟩:=aa h
   cases h
   exact tY S e1 hg h0.2 h0.1.1 h0.1.2 (R.E S e2) (R.E S e3)
  ·cases h
end
end M
namespace M
open PySem L2
section
variable{tb:Tb}{k:Nat}{X:Cx}{E:XK}{s:Sc}
noncomputable def qc(o:Expr):Bool:=match o with
 | .Call f args kw _=>match f with
  | .Name _ _=>!(args.isEmpty&&kw.isEmpty)
  | _=>true
 | _=>true
theorem fE{o:Expr}(h:qc o=true)(m:Str)(env:Env)(w:Sem Value):attributeBase o m env w=w:=by
 cases o with
 | Call f args kw p=>cases f with
  | Name _ _=>cases args with
   | cons _ _=>rfl
   | nil=>cases kw with
    | cons _ _=>rfl
    | nil=>cases h
  | _=>rfl
 | _=>rfl
theorem zG{e:Expr}(h:notStar e=true)(cpos:Pos)(env:Env):((backTo cpos (starEach [e] env)).all (λx=>!x.1)&&(backToKw cpos (keywordEach [] env)).all (λx=>x.1.isSome)&&decide (([e]:List Expr).length+([]:List Keyword).length+(if ([]:List Keyword).isEmpty then 0 else 1)<30))=true:=by rw[ax h];rfl
theorem Hl{o e:Expr}{m:Str}{apos cpos:Pos}(h0:qc o=true)(h:notStar e=true)(hl:(apos.endLine==cpos.line)=true):M1 X o m apos e cpos:=⟨fE h0 _ _ _,zG h _ _,hl,by rw[ax h];rfl⟩
noncomputable def JD(e:Expr):Option (Expr×Str×Pos×Pos):=match e with
 | .Call f args kw cpos=>match f with
  | .Attribute o m apos=>grd (args.isEmpty&&kw.isEmpty) (some (o,m,apos,cpos))
  | _=>none
 | _=>none
noncomputable def Ba(e:Expr):Option (Expr×Str×Pos×Expr×Pos):=match e with
 | .Call f args kw cpos=>match f with
  | .Attribute o m apos=>match args with
   | [a]=>grd (kw.isEmpty&&notStar a) (some (o,m,apos,a,cpos))
   | _=>none
  | _=>none
 | _=>none
theorem so{e o a:Expr}{m:Str}{apos cpos:Pos}(h:Ba e=some (o,m,apos,a,cpos)):e=.Call (.Attribute o m apos) [a] [] cpos/\notStar a=true:=by
 unfold Ba at h
 split at h
 ·rename_i f args kw c
  split at h
  ·split at h
   ·obtain⟨h0,h⟩:=ah h
    rw[JK,KN] at h0
    cases h
    rw[h0.1]
    exact⟨rfl,h0.2⟩
   ·cases h
  ·cases h
 ·cases h
noncomputable def DZ(e:Expr):Option (Str×Pos×Expr×Pos):=match e with
 | .Call f args kw cpos=>match f with
  | .Name x p=>match args with
   | [a]=>grd (kw.isEmpty&&notStar a) (some (x,p,a,cpos))
   | _=>none
  | _=>none
 | _=>none
theorem sH{e a:Expr}{x:Str}{p cpos:Pos}(h:DZ e=some (x,p,a,cpos)):e=.Call (.Name x p) [a] [] cpos/\notStar a=true:=by
 unfold DZ at h
 split at h
 ·rename_i f args kw c
  split at h
  ·split at h
   ·obtain⟨h0,h⟩:=ah h
    rw[JK,KN] at h0
    cases h
    rw[h0.1]
    exact⟨rfl,h0.2⟩
   ·cases h
  ·cases h
 ·cases h
noncomputable def asN(e:Expr):Option (Str×Pos):=match e with
 | .Name x p=>some (x,p)
 | _=>none
theorem gE{e:Expr}{x:Str}{p:Pos}(h:asN e=some (x,p)):e=.Name x p:=by
 unfold asN at h
 split at h
 ·cases h;rfl
 ·cases h
theorem Sit.Aq(S:Sit tb k X E s){N:List Str}{sc:Scope}{own:Nat}(h:jU s N own sc=true)(hh:s.hd=false) :
  bE X.N N own sc X.env.scope/\(∀cl C s0 H fp,Sit tb k (cxX X N sc cl C s0 H fp E) E (lG s N sc))/\∀cl C s0 H fp,Sit tb k (cxX X N sc cl C s0 H fp E) E00 (lG s N sc):=by
 obtain⟨C1,C2⟩:=S.comp h hh
 refine⟨C1,λcl C s0 H fp=>?_,λcl C s0 H fp=>?_⟩
 ·have T:=C2 cl C s0 H fp
  exact⟨T.n,T.nd,T.gl,T.vs,T.lo,T.lc,T.ce,T.fx,T.cm,T.rm,λ_=>F5,T.gd,T.rh,λh=>absurd h Kc⟩
 ·have T:=C2 cl C s0 H fp
  exact⟨T.n,T.nd,T.gl,T.vs,T.lo,T.lc,T.ce,T.fx,T.cm,T.rm,λ_=>kX,T.gd,T.rh,λh=>absurd h Kc⟩
noncomputable def yf(e:Expr):Option (Expr×Comprehension×Scope×Pos):=match e with
 | .ListComp elt gs sc pos=>match gs with
  | [g]=>some (elt,g,sc,pos)
  | _=>none
 | _=>none
theorem j7{e elt:Expr}{g:Comprehension}{sc:Scope}{pos:Pos}(h:yf e=some (elt,g,sc,pos)):e=.ListComp elt [g] sc pos:=by
 unfold yf at h
 split at h
 ·split at h
  ·cases h;rfl
  ·cases h
 ·cases h
noncomputable def nA(_:Tb)(r:Tr)(s:Sc)(e:Expr):Option (Mi Rr):=af (yf e) λ(elt,g,sc,_) =>
  let own:=tgN 9 g.target
  let N:=Ej s.N own
  let s':=lG s N sc
  grd (s.tp&&!s.hd&&g.is_async==0&&cM g.iter&&jU s N own.length sc) (af (trI r s g.target g.iter) λmi=>af (trG s' s.N.length 9 g.target) λG=>af (t9 r s' g.ifs) λmt=>af (r.E s' elt) λme=>some (dI own.length mi G mt me))
theorem mv{r:Tr}(R:bq tb k r)(S:Sit tb k X E s){e:Expr}{q:Mi Rr}(h:nA tb r s e=some q):JE X E e q:=by
 obtain⟨⟨elt,g,sc,pos⟩,h1,h⟩:=aa h
 obtain rfl:=j7 h1
 obtain⟨tg,iter,ifs,ia⟩:=g
 obtain⟨h0,h⟩:=ah h
 simp only[JK,beq_iff_eq,Kd] at h0
 obtain⟨⟨⟨⟨ht,hh⟩,rfl⟩,h3⟩,h4⟩:=h0
 obtain⟨mi,e1,h⟩:=aa h
 obtain⟨G,e2,h⟩:=aa h
 obtain⟨mt,e3,h⟩:=aa h
 obtain⟨me,e4,h⟩:=aa h
 cases h
 obtain⟨C1,C2,C3⟩:=S.Aq h4 hh
 obtain⟨t1,t2,t3⟩:=S.tv ht
 exact tI (S.cm hh) t1 t2 t3 C1 rfl (jt R S e1) (λcl C s0 H fp=>by rw[S.n];exact fk (C2 cl C s0 H fp) e2) (λcl C s0 H fp=>kL R (C3 cl C s0 H fp) e3) (λcl C s0 H fp=>R.E (C2 cl C s0 H fp) e4) (cC h3 _)
noncomputable def uF(r:Tr)(s:Sc):List Expr->Option (Mi (List Str))
 | []=>some (cV [])
 | .Constant (.str x) _ _::es=>af (uF r s es) λn=>some (mJ (mC (.str x)) n)
 | .FormattedValue e (-1) none _::es=>af (r.E s e) λm=>af (uF r s es) λn=>some (mJ (nB m) n)
 | _=>none
theorem lV{r:Tr}(R:bq tb k r)(S:Sit tb k X E s):∀{es:List Expr}{m:Mi (List Str)},uF r s es=some m->JJ X E es m
 | [],m,h=>by cases h;exact tF
 | e::es,m,h=>by
  unfold uF at h
  split at h
  ·rename_i heq;cases heq
  ·rename_i heq;cases heq
   obtain⟨n,e1,h⟩:=aa h
   cases h
   exact iF ox (lV R S e1)
  ·rename_i heq;cases heq
   obtain⟨m1,e1,h⟩:=aa h
   obtain⟨n,e2,h⟩:=aa h
   cases h
   exact iF (wB (R.E S e1)) (lV R S e2)
  ·cases h
noncomputable def qE(r:Tr)(s:Sc)(e:Expr):Option (Mi Rr):=af (DZ e) λ(f,_,a,_)=>grd (glB s f) (match f==("str" : Str) with
 | true=>af (r.E s a) λn=>some (mB1 ix n)
 | false=>match f==("int" : Str)&&s.tp with
  | true=>af (r.E s a) λn=>some (mB1 ku n)
  | false=>none)
noncomputable def qY(r:Tr)(s:Sc)(e:Expr):Option (Mi Rr):=af (Ba e) λ(o,m,apos,a,cpos)=>grd (apos.endLine==cpos.line&&qc o) (match m==("startswith" : Str) with
 | true=>af (r.E s o) λmo=>af (r.E s a) λn=>some (mS1 cy mo n)
 | false=>match m==("split" : Str) with
  | true=>af (r.E s o) λmo=>af (r.E s a) λn=>some (mS1 dr mo n)
  | false=>none)
noncomputable def lN(r:Tr)(s:Sc)(e:Expr):Option (Mi Rr):=match e with
 | .JoinedStr es _=>grd s.tp (match es with
  | [v]=>match v with
   | .FormattedValue a (-1) none _=>af (r.E s a) λm=>some (nB m)
   | _=>none
  | a::b::es=>grd (Md (es.length+2) 100) (af (uF r s (a::b::es)) λm=>some (mJs m))
  | []=>none)
 | _=>none
theorem oC:bootBuiltins "str" = some (.type "str"):=by decide +kernel
theorem oW{r:Tr}(R:bq tb k r)(S:Sit tb k X E s){e:Expr}{q:Mi Rr}(h:qE r s e=some q):JE X E e q:=by
 obtain⟨⟨f,p,a,cpos⟩,h1,g⟩:=aa h
 clear h
 obtain⟨rfl,hs⟩:=sH h1
 obtain⟨hg,h⟩:=ah g
 split at h
 ·rename_i z;rw[beq_iff_eq] at z;subst z
  obtain⟨n,e2,h⟩:=aa h
  cases h
  exact jV se ET (S.glob hg).1 (aX S (by decide +kernel)) oC (R.E S e2) (by decide +kernel) (S.glob hg).2 (ax hs _ _) rfl
 ·split at h
  ·rename_i z;rw[JK,beq_iff_eq] at z;obtain⟨z,_⟩:=z;subst z
   obtain⟨n,e2,h⟩:=aa h
   cases h
   exact jV rN zO (S.glob hg).1 (aX S (by decide +kernel)) n6 (R.E S e2) (by decide +kernel) (S.glob hg).2 (ax hs _ _) rfl
  ·cases h
theorem nW{r:Tr}(R:bq tb k r)(S:Sit tb k X E s){e:Expr}{q:Mi Rr}(h:qY r s e=some q):JE X E e q:=by
 obtain⟨⟨o,m,apos,a,cpos⟩,h1,g⟩:=aa h
 clear h
 obtain⟨rfl,hs⟩:=so h1
 obtain⟨h0,h⟩:=ah g
 rw[JK] at h0
 split at h
 ·rename_i z;rw[beq_iff_eq] at z;subst z
  obtain⟨mo,e1,h⟩:=aa h
  obtain⟨n,e2,h⟩:=aa h
  cases h
  exact sh (R.E S e1) (R.E S e2) (λx y=>tT Nw PySem.F.slot_str_startswith PySem.F.type_str_startswith sO x (a6 y cg (ax hs _ _)) (fE h0.2 _ _ _) (zG hs _ _) h0.1 (ax hs _ _) rfl)
 ·split at h
  ·rename_i z;rw[beq_iff_eq] at z;subst z
   obtain⟨mo,e1,h⟩:=aa h
   obtain⟨n,e2,h⟩:=aa h
   cases h
   exact uE (R.E S e1) (R.E S e2) (λx y=>tT Nw PySem.F.slot_str_split PySem.F.type_str_split wc x (a6 y cg (ax hs _ _)) (fE h0.2 _ _ _) (zG hs _ _) h0.1 (ax hs _ _) rfl)
  ·cases h
theorem pA{r:Tr}(R:bq tb k r)(S:Sit tb k X E s){e:Expr}{q:Mi Rr}(h:lN r s e=some q):JE X E e q:=by
 unfold lN at h
 split at h
 ·obtain⟨_,h⟩:=ah h
  split at h
  ·split at h
   ·obtain⟨m,e1,h⟩:=aa h
    cases h
    exact D7 (wB (R.E S e1))
   ·cases h
  ·obtain⟨h0,h⟩:=ah h
   obtain⟨m1,e1,h⟩:=aa h
   cases h
   exact AI (lV R S e1) (by have:=K4 h0;simpa using this)
  ·cases h
 ·cases h
noncomputable def vx(_:Tb)(r:Tr)(s:Sc)(e:Expr):Option (Mi Rr):=oor (qE r s e) (oor (qY r s e) (lN r s e))
theorem sJ{r:Tr}(R:bq tb k r)(S:Sit tb k X E s){e:Expr}{q:Mi Rr}(h:vx tb r s e=some q):JE X E e q:=by
 rcases bx h with h|h
 ·exact oW R S h
 rcases bx h with h|h
 ·exact nW R S h
 ·exact pA R S h
noncomputable def xP(tb:Tb)(r:Tr)(s:Sc)(e:Expr):Option (Mi Rr):=oor (nA tb r s e) (oor (vx tb r s e) (none))
theorem Hk{r:Tr}(R:bq tb k r)(S:Sit tb k X E s){e:Expr}{m:Mi Rr}(h:xP tb r s e=some m):JE X E e m:=by
 rcases bx h with h|h
 ·exact mv R S h
 rcases bx h with h|h
 ·exact sJ R S h
 cases h
noncomputable def xE(tb:Tb)(r:Tr)(s:Sc)(e:Expr):Option (Mi Rr):=none
theorem Gz{r:Tr}(R:bq tb k r)(S:Sit tb k X E s){e:Expr}{m:Mi Rr}(h:xE tb r s e=some m):JE X E e m:=by
 cases h
noncomputable def xT(tb:Tb)(r:Tr)(s:Sc)(e:Expr):Option (Mi Bool):=none
theorem Hj{r:Tr}(R:bq tb k r)(S:Sit tb k X E s){e:Expr}{m:Mi Bool}(h:xT tb r s e=some m):JT X E e m:=by
 cases h
noncomputable def xI(tb:Tb)(r:Tr)(s:Sc)(tg e:Expr):Option (Mi (List A)):=none
theorem HS{r:Tr}(R:bq tb k r)(S:Sit tb k X E s){tg e:Expr}{m:Mi (List A)}(h:xI tb r s tg e=some m):JI X E tg e m:=by
 cases h
end
end M
namespace M
open PySem L2
section
variable{tb:Tb}{k:Nat}{X:Cx}{E:XK}{s:Sc}
noncomputable def Gb(r:Tr)(s:Sc)(o:Expr)(m:Str)(e:Expr):Option (Mi Rr) :=
 if m==("append" : Str) then (match o with
  | .Name x _=>af (slot s x) λi=>af (r.E s e) λn=>some (vQ i (iJ i n))
  | _=>none)
 else if m==("pop" : Str) then (match o with
  | .Name x _=>grd (s.di.contains x) (af (slot s x) λi=>af (r.E s e) λn=>some (ua i n))
  | _=>none)
 else none
noncomputable def vW(tb:Tb)(r:Tr)(s:Sc)(o:Expr)(m:Str)(apos:Pos)(args:List Expr)(cpos:Pos):Option (Mi Rr):=grd (apos.endLine==cpos.line&&qc o) (match args with
 | [e]=>grd (notStar e) (Gb r s o m e)
 | _=>none)
theorem sA{r:Tr}(R:bq tb k r)(S:Sit tb k X E s){o:Expr}{mn:Str}{args:List Expr}{m:Mi Rr}{apos cpos:Pos}(h:vW tb r s o mn apos args cpos=some m):JE X E (.Call (.Attribute o mn apos) args [] cpos) m:=by
 have h':=ah h
 clear h
 obtain⟨h0,h⟩:=h'
 rw[JK] at h0
 split at h
 ·have h':=ah h
  clear h
  obtain⟨hs,h⟩:=h'
  unfold Gb at h
  split at h
  ·rename_i z;rw[beq_iff_eq] at z
   split at h
   ·obtain⟨i,e1,h⟩:=aa h
    obtain⟨n,e2,h⟩:=aa h
    obtain⟨a1,a2,a3,a4⟩:=S.slot e1
    cases h;subst z
    exact rC a1 a2 a3 a4 (R.E S e2) rfl (zG hs _ _) h0.1 (ax hs _ _) rfl
   ·cases h
  ·skip
   ·split at h
    ·rename_i z;rw[beq_iff_eq] at z
     split at h
     ·obtain⟨_,h⟩:=ah h
      obtain⟨i,e1,h⟩:=aa h
      obtain⟨n,e2,h⟩:=aa h
      obtain⟨a1,a2,a3,a4⟩:=S.slot e1
      cases h;subst z
      exact xQ a1 a2 a3 a4 (R.E S e2) (Hl rfl hs h0.1)
     ·cases h
    ·cases h
 ·cases h
noncomputable def stK:Const->Option (Mi Rr)
 | .none=>some (mC .non)
 | .bool b=>some (mC (.bl b))
 | .int i=>some (mC (.int i))
 | .str x=>some (mC (.str x))
 | _=>none
noncomputable def Hs(m n:Mi Rr):Operator->Option (Mi Rr)
 | .Add=>some (mOp aC m n)
 | .Sub=>some (mOp jg m n)
 | .Mult=>some (mOp dw m n)
 | .FloorDiv=>some (mOp nV m n)
 | .Mod=>some (mOp iw m n)
 | .Pow=>some (mOp gY m n)
 | _=>none
theorem yG{a b:Expr}{m n q:Mi Rr}{op:Operator}{pos:Pos}(h:Hs m n op=some q)(ha:JE X E a m)(hb:JE X E b n):JE X E (.BinOp a op b pos) q:=by
 cases op<;>first|(cases h;done)|skip
 ·cases h;exact yH ha hb
 ·cases h;exact Cb ha hb
 ·cases h;exact Bp ha hb
 ·cases h;exact E3 ha hb
 ·cases h;exact Dp ha hb
 ·cases h;exact CF ha hb
theorem A4{op op':CmpOp}{b c:Expr}(h:cM c=true):lastMarks [op,op'] [b,c]=false:=eY h
noncomputable def qa(r:Tr)(s:Sc)(a:Expr)(ops:List CmpOp)(bs:List Expr):Option (Mi Rr):=match ops,bs with
 | [op],[b]=>af (r.E s a) λm=>af (r.E s b) λn=>trC s op a b m n
 | [op,op'],[b,c]=>grd (cM b&&cM c) (af (chI op) λp=>af (chI op') λq=>af (r.E s a) λma=>af (r.E s b) λmb=>af (r.E s c) λmc=>some (cW p q ma mb mc))
 | _,_=>none
theorem nU{r:Tr}(R:bq tb k r)(S:Sit tb k X E s){a:Expr}{ops:List CmpOp}{bs:List Expr}{m:Mi Rr}{pos:Pos}(h:qa r s a ops bs=some m):JE X E (.Compare a ops bs pos) m/\JT X E (.Compare a ops bs pos) (ai m):=by
 unfold qa at h
 split at h
 ·obtain⟨m1,e1,h⟩:=aa h
  obtain⟨m2,e2,h⟩:=aa h
  exact Ce S h (R.E S e1) (R.E S e2)
 ·obtain⟨h0,h⟩:=ah h
  rw[JK] at h0
  obtain⟨p,e1,h⟩:=aa h
  obtain⟨q,e2,h⟩:=aa h
  obtain⟨ma,e3,h⟩:=aa h
  obtain⟨mb,e4,h⟩:=aa h
  obtain⟨mc,e5,h⟩:=aa h
  cases h
  obtain⟨r1,o1,q1⟩:=uZ (X:=X) e1
  obtain⟨r2,o2,q2⟩:=uZ (X:=X) e2
  exact⟨mM o1 o2 q1 q2 (R.E S e3) (R.E S e4) (R.E S e5) (A4 h0.2),uL o1 o2 q1 q2 (R.E S e3) (R.E S e4) (R.E S e5) (A4 h0.2)⟩
 ·cases h
noncomputable def vU(r:Tr)(s:Sc)(ks:List (Option Expr))(vs:List Expr):Option (Mi Rr):=match ks,vs with
 | [],[]=>some vo
 | _,_=>none
theorem uy{r:Tr}(R:bq tb k r)(S:Sit tb k X E s){ks:List (Option Expr)}{vs:List Expr}{m:Mi Rr}{pos:Pos}(h:vU r s ks vs=some m):JE X E (.Dict ks vs pos) m:=by
 unfold vU at h
 split at h
 ·cases h;exact zm
 ·cases h
noncomputable def EF(tb:Tb)(r:Tr)(s:Sc)(f:Expr)(args:List Expr)(kw:List Keyword)(cpos:Pos):Option (Mi Rr):=match kw with
 | []=>match f with
  | .Name f _=>vV tb r s f args
  | .Attribute o m apos=>vW tb r s o m apos args cpos
  | _=>none
 | _::_=>none
theorem zQ{r:Tr}(R:bq tb k r)(S:Sit tb k X E s){f:Expr}{args:List Expr}{kw:List Keyword}{m:Mi Rr}{pos:Pos}(h:EF tb r s f args kw pos=some m):JE X E (.Call f args kw pos) m:=by
 unfold EF at h
 split at h
 ·split at h
  ·exact sy R S h
  ·exact sA R S h
  ·cases h
 ·cases h
noncomputable def stE(tb:Tb)(r:Tr)(s:Sc):Expr->Option (Mi Rr)
 | .Name x _=>match slot s x with
  | some i=>some (ag i)
  | none=>af (tb.cst.lookup x) λa=>grd (glB s x) (some (mC a))
 | .Constant c _ _=>stK c
 | .BinOp a op b _=>af (r.E s a) λm=>af (r.E s b) λn=>Hs m n op
 | .UnaryOp op a _=>match op with
  | .USub=>af (r.E s a) λm=>some (mUn oV m)
  | .Not=>af (r.E s a) λm=>some (qx m)
  | _=>none
 | .BoolOp op vs _=>trB op (r.E s) vs
 | .Compare a ops bs _=>qa r s a ops bs
 | .IfExp t a b _=>af (r.T s t) λmt=>af (r.E s a) λm=>af (r.E s b) λn=>some (mIf mt m n)
 | .Tuple es _ _=>af (oE (r.E s) es) λm=>some (g9 m)
 | .List es _=>af (oE (r.E s) es) λm=>some (fJ m)
 | .Dict ks vs _=>vU r s ks vs
 | .Subscript a b _=>xa r s a b
 | .Call f args kw cpos=>EF tb r s f args kw cpos
 | .ListComp elt gs sc _=>k8 r s elt gs sc
 | .JoinedStr es _=>BH r s es
 | _=>none
theorem CJ{r:Tr}(R:bq tb k r)(S:Sit tb k X E s){e:Expr}{m:Mi Rr}(h:stE tb r s e=some m):JE X E e m:=by
 cases e with
 | Name x _ =>
  have h:(match slot s x with
   | some i=>some (ag i)
   | none=>af (tb.cst.lookup x) λa=>grd (glB s x) (some (mC a)))=some m:=h
  split at h
  ·rename_i e1;cases h
   obtain⟨a1,a2,a3,a4⟩:=S.slot e1
   exact BR a1 a2 a3 a4
  ·obtain⟨a,e1,h⟩:=aa h
   obtain⟨hg,h⟩:=ah h
   cases h
   obtain⟨v,u,h1,h2,h3⟩:=S.gd.cs _ _ e1
   exact z5 (S.glob hg).1 h1 h2 h3 (S.glob hg).2
 | Constant c _ _ =>
  cases c<;>first|(cases h;done)|skip
  ·cases h;exact CV
  ·cases h;exact Im
  ·cases h;exact Ca
  ·cases h;exact ox
 | BinOp a op b _ =>
  obtain⟨m1,e1,h⟩:=aa h
  obtain⟨m2,e2,h⟩:=aa h
  exact yG h (R.E S e1) (R.E S e2)
 | UnaryOp op a _ =>
  cases op<;>first|(cases h;done)|skip
  ·obtain⟨m1,e1,h⟩:=aa h
   cases h;exact B0 (R.E S e1)
  ·obtain⟨m1,e1,h⟩:=aa h
   cases h;exact Bu (R.E S e1)
 | BoolOp op vs _=>exact wV (λ_ _=>R.E S) h
 | Compare a ops bs _=>exact(nU R S h).1
 | IfExp t a b _ =>
  obtain⟨mt,e1,h⟩:=aa h
  obtain⟨m1,e2,h⟩:=aa h
  obtain⟨m2,e3,h⟩:=aa h
  cases h;exact GA (R.T S e1) (R.E S e2) (R.E S e3)
 | Tuple es _ _ =>
  obtain⟨m1,e1,h⟩:=aa h
  cases h;exact Dc (fI (λ_ _=>R.E S) e1).1
 | List es _ =>
  obtain⟨m1,e1,h⟩:=aa h
  cases h;exact CK (fI (λ_ _=>R.E S) e1).1
 | Dict ks vs _=>exact uy R S h
 | Subscript a b _=>exact wj R S h
 | Call f args kw cpos=>exact zQ R S h
 | ListComp elt gs sc _ =>
  obtain⟨hh,N,own,tg,iter,ifs,mi,G,mt,me,rfl,rfl,C1,C2,C3,C4,C5,C6⟩:=kI R S h
  exact xG (S.cm hh) C1 rfl C2 C3 C4 C5 C6
 | JoinedStr es _=>exact zj R S h
 | _=>cases h
noncomputable def Ey(r:Tr)(s:Sc):Expr->Option (Mi Bool)
 | .Compare a ops bs _=>af (qa r s a ops bs) λq=>some (ai q)
 | .UnaryOp .Not a _=>af (r.T s a) λm=>some (dg m)
 | .BoolOp op vs _=>trW op (r.T s) vs
 | e=>grd (plainT e) (af (r.E s e) λm=>some (ai m))
theorem y6{r:Tr}(R:bq tb k r)(S:Sit tb k X E s){e:Expr}{m:Mi Bool}(h:Ey r s e=some m):JT X E e m:=by
 unfold Ey at h
 split at h
 ·obtain⟨q,e1,h⟩:=aa h
  cases h
  exact(nU R S e1).2
 ·obtain⟨m1,e1,h⟩:=aa h
  cases h;exact BQ (R.T S e1)
 ·exact G3 (u0 (λ_ _=>R.T S) h)
 ·obtain⟨h0,h⟩:=ah h
  obtain⟨m1,e1,h⟩:=aa h
  cases h;exact BF (R.E S e1) (oz h0 _)
noncomputable def tr(tb:Tb):Nat->Tr
 | 0=>⟨λ_ _=>none,λ_ _=>none,λ_ _ _=>none⟩
 | n+1=>⟨λs e=>oor (xP tb (tr tb n) s e) (oor (stE tb (tr tb n) s e) (xE tb (tr tb n) s e)),λs e=>oor (Ey (tr tb n) s e) (xT tb (tr tb n) s e),xI tb (tr tb n)⟩
theorem iu:∀n,bq tb k (tr tb n)
 | 0=>⟨λ_ h=>(by cases h),λ_ h=>(by cases h),λ_ h=>(by cases h)⟩
 | n+1=>⟨λS h=>by
   rcases bx h with h|h
   ·exact Hk (iu n) S h
   rcases bx h with h|h
   ·exact CJ (iu n) S h
   ·exact Gz (iu n) S h,λS h=>by
   rcases bx h with h|h
   ·exact y6 (iu n) S h
   ·exact Hj (iu n) S h,λS h=>HS (iu n) S h⟩
end
end M
namespace M
open PySem L2
structure eW (tb:Tb) (k:Nat) (X:Cx) (E:XK) (s:Sc):Prop extends Sit tb k X E s where
 xc:s.hd=false->Xc X E
 po:s.hd=false->PassesOwn (model X.prog X.w) X.A X.env X.xe
 st:s.hd=false->X.stack=X.env::X.outer/\X.env.frame=some X.env.locals/\X.ex=[]
 bk:X.env.blockKind=.function
noncomputable def Ip:Expr->Bool
 | .Starred ..=>true
 | _=>false
noncomputable def swB(x y:Str)(px py:Pos)(a b:Expr):Bool:=x != y&&px.line==py.line&&notStar a&&notStar b&&!([a,b].all (foldedForSure 8))&&!([a,b].all (constantsAlone 8))
theorem FW{env:Env}{x y:Str}{px py pt pt2:Pos}{kt k2:Nat}{a b:Expr}(h:swB x y px py a b=true)(hx:env.kindOf x=some .local)(hy:env.kindOf y=some .local)(hb:env.blockKind=.function) :
  swappedStores [.Tuple [.Name x px,.Name y py] kt pt] (.Tuple [a,b] k2 pt2) env=pure (some [x,y]):=by
 unfold swB at h
 simp only[JK,bne_iff_ne,ne_eq,beq_iff_eq,Kd] at h
 obtain⟨⟨⟨⟨⟨h1,h2⟩,h3⟩,h4⟩,h5⟩,h6⟩:=h
 have s1:(([a,b]:List Expr).any fun | .Starred ..=>true|_=>false)=false:=by
  rw[OI]
  intro e he
  have hn:notStar e=true:=by
   rcases J6.mp he with z|z
   ·rw[z];exact h3
   ·rw[J9.mp z];exact h4
  cases e<;>first|(cases hn;done)|exact Kc
 have hyx:(y==x)=false:=beq_eq_false_iff_ne.mpr λz=>h1 z.symm
 have hxy:(x==y)=false:=beq_eq_false_iff_ne.mpr h1
 unfold swappedStores
 have pn:∀(n:Str)(p:Pos),(Expr.Name n p).pos=p:=λ_ _=>rfl
 simp[hb,s1,hx,hy,pn,<- h2,h5,h6,List.eraseDups_cons,hyx,hxy]
 intro z
 exfalso
 rcases z with z|z
 ·cases a<;>first|(cases h3;done)|cases z
 ·cases b<;>first|(cases h4;done)|cases z
noncomputable def qi:Expr->Bool
 | .Tuple _ _ _=>false
 | _=>true
theorem i9{tg e:Expr}{env:Env}(h:qi e=true):swappedStores [tg] e env=pure none:=by
 cases tg<;>first|rfl|(cases e<;>first|rfl|cases h)
theorem pC{o i e:Expr}{p:Pos}{env:Env}:swappedStores [.Subscript o i p] e env=pure none:=by cases e<;>rfl
theorem kE{e o i:Expr}{p:Pos}{l:Nat}{env:Env}:swapsWith e (some (.Subscript o i p)) l env=pure false:=by cases e<;>rfl
theorem pE{elt:Expr}{gs:List Comprehension}{sc:Scope}{pos px:Pos}{x:Str}{l:Nat}{env:Env}(h:env.kindOf x=some .cell):swapsWith (.ListComp elt gs sc pos) (some (.Name x px)) l env=pure false:=by
 unfold swapsWith
 show (pure (env.blockKind==.function&&env.kindOf x==some .local&&px.line==pos.line&&!(sc.names.any λp=>p.1==x&&(p.2==.local || p.2==.cell))):Sem Bool)=pure false
 rw[h,show (some (NameKind.cell)==some (NameKind.local))=false from rfl,LY,Ll,Ll]
theorem m9{t e:Expr}(h:gA e=true)(l:Nat)(env:Env):swapsWithSole [t] e l env=pure false:=dG h (some t) l env
theorem vw{e o i:Expr}{p:Pos}{l:Nat}{env:Env}:swapsWithSole [.Subscript o i p] e l env=pure false:=kE (e:=e) (o:=o) (i:=i) (p:=p) (l:=l) (env:=env)
theorem yw{o i:Expr}{p:Pos}{env:Env}(h:fq i=true)(v:Value):assign (.Subscript o i p) env v=(do
   let ov <- holding [v] (eval o env)
   let iv <- holding [v,ov] (eval i env)
   standAt p
   holding [v,ov,iv] (setItem ov iv v)
   release [v,ov,iv] []):=by cases i<;>first|rfl|cases h
section
variable{tb:Tb}{k:Nat}{X:Cx}{E:XK}{s:Sc}
noncomputable def w6(r:Tr)(s:Sc)(x:Str)(px:Pos)(e:Expr):Option Ms:=af (cj s x) λi=>match e with
 | .ListComp elt gs sc pos=>match isK s x .local with
  | true=>grd (px.line==pos.line&&!(sc.names.any λp=>p.1==x&&(p.2==.local || p.2==.cell))) (af (k8 r s elt gs sc) λm=>some (aJ i m))
  | false=>af (r.E s e) λm=>some (aJ i m)
 | e=>grd (gA e) (af (r.E s e) λm=>some (aJ i m))
theorem rW{r:Tr}(R:bq tb k r)(S:eW tb k X E s){x:Str}{px pos:Pos}{e:Expr}{m:Ms}(h:w6 r s x px e=some m):JS X E (.Assign [.Name x px] e pos) m:=by
 obtain⟨i,e1,h⟩:=aa h
 obtain⟨a1,a2,a3,a4⟩:=S.cj e1
 have hN:X.N.Nodup:=by rw[S.n];exact S.nd
 split at h
 ·split at h
  ·rename_i z
   obtain⟨h0,h⟩:=ah h
   simp only[JK,Kd] at h0
   obtain⟨m1,e2,h⟩:=aa h
   cases h
   have hl:X.env.scope.names.lookup x=some .local:=S.lc x (by unfold isK at z;simpa using z)
   obtain⟨hh,N,own,tg,iter,ifs,mi,G,mt,me,rfl,rfl,C1,C2,C3,C4,C5,C6⟩:=kI R S.toSit e2
   exact yB (S.cm hh) C1 rfl hN a1 hl (jw S.bk hl h0.1 h0.2) C2 C3 C4 C5 C6
  ·rename_i z
   obtain⟨m1,e2,h⟩:=aa h
   cases h
   refine tS hN a1 a2 (R.E S.toSit e2) (pE ?_) a4
   obtain⟨g,_⟩:=ah e1
   simp only[JK,mW,KI] at g
   rcases g.1 with y|y
   ·rw[y] at z;cases z
   ·exact S.ce x (by unfold isK at y;simpa using y)
 ·obtain⟨h0,h⟩:=ah h
  obtain⟨m1,e2,h⟩:=aa h
  cases h
  exact tS hN a1 a2 (R.E S.toSit e2) (dG h0 _ _ _) a4
noncomputable def wN(r:Tr)(s:Sc)(ts:List Expr)(e:Expr):Option Ms:=match ts,e with
 | [.Name x px,.Name y py],.Tuple [a,b] _ _=>grd (!s.hd&&isK s x .local&&isK s y .local&&okN x&&okN y&&swB x y px py a b) (af (cj s x) λi=>af (cj s y) λj=>grd (i != j) (af (oE (r.E s) [a,b]) λm=>some (sv i j m)))
 | _,_=>grd (qi e&&gA e) (af (r.E s e) λm=>af (trG s 0 9 (.Tuple ts 0 default)) λg=>some (Fh m g))
theorem Cp{lo d:Nat}{ts:List Expr}{n n':Nat}{p p':Pos}{g:Mg}(h:trG s lo d (.Tuple ts n p)=some g):trG s lo d (.Tuple ts n' p')=some g:=by
 cases d with
 | zero=>cases h
 | succ d=>exact h
theorem vv{r:Tr}(R:bq tb k r)(S:eW tb k X E s){ts:List Expr}{kt:Nat}{pt pos:Pos}{e:Expr}{m:Ms}(h:wN r s ts e=some m):JS X E (.Assign [.Tuple ts kt pt] e pos) m:=by
 have hN:X.N.Nodup:=by rw[S.n];exact S.nd
 unfold wN at h
 split at h
 ·obtain⟨h0,h⟩:=ah h
  simp only[JK,Kd] at h0
  obtain⟨⟨⟨⟨⟨h1,h2⟩,h3⟩,_⟩,_⟩,h4⟩:=h0
  obtain⟨i,e1,h⟩:=aa h
  obtain⟨j,e2,h⟩:=aa h
  obtain⟨hij,h⟩:=ah h
  obtain⟨ma,e3,h⟩:=aa h
  cases h
  obtain⟨a1,_,_,_⟩:=S.cj e1
  obtain⟨b1,_,_,_⟩:=S.cj e2
  have l1:=S.lc _ (show s.nm.lookup _=_ by unfold isK at h2;simpa using h2)
  have l2:=S.lc _ (show s.nm.lookup _=_ by unfold isK at h3;simpa using h3)
  have ij:i≠j:=by simpa using hij
  exact Bi (fI (λ_ _=>R.E S.toSit) e3).1 ij (λy=>EA (S.cm h1) hN a1 b1 ij l1 l2 y (FW h4 l1 l2 S.bk))
 ·obtain⟨h0,h⟩:=ah h
  rw[JK] at h0
  obtain⟨m1,e1,h⟩:=aa h
  obtain⟨g,e2,h⟩:=aa h
  cases h
  exact EK (R.E S.toSit e1) (fk S.toSit (Cp e2)) (m9 h0.2 _ _) (i9 h0.1) (hp:=λx y=>vT x y (m9 h0.2 _ _) (i9 h0.1))
noncomputable def Gg(r:Tr)(s:Sc)(x:Str)(ek e:Expr):Option Ms:=af (slot s x) λi=>af (r.E s ek) λmk=>af (r.E s e) λm=>grd (!s.hd&&fq ek) (match s.di.contains x with
 | true=>some (AR i mk m)
 | false=>some (gR i mk m))
theorem yM{r:Tr}(R:bq tb k r)(S:eW tb k X E s){x:Str}{px p1 pos:Pos}{ek e:Expr}{m:Ms}(h:Gg r s x ek e=some m):JS X E (.Assign [.Subscript (.Name x px) ek p1] e pos) m:=by
 obtain⟨i,e1,h⟩:=aa h
 obtain⟨mk,e2,h⟩:=aa h
 obtain⟨m1,e3,h⟩:=aa h
 obtain⟨hh,h⟩:=ah h
 simp only[JK,Kd] at hh
 obtain⟨a1,a2,a3,a4⟩:=S.slot e1
 split at h
 ·cases h
  exact yd (ql (S.rm hh.1)) a1 a2 a3 a4 (R.E S.toSit e2) (R.E S.toSit e3) kE
 ·cases h
  exact vn a1 a2 a3 a4 (R.E S.toSit e2) (R.E S.toSit e3) (λx y z=>vT z (Cw x y set_list (yw hh.2)) vw pC)
noncomputable def vp(tb:Tb)(r:Tr)(s:Sc)(t e:Expr):Option Ms:=match t with
 | .Name x px=>w6 r s x px e
 | .Tuple ts _ _=>wN r s ts e
 | .Subscript (.Name x _) ek _=>Gg r s x ek e
 | _=>none
theorem vP{r:Tr}(R:bq tb k r)(S:eW tb k X E s){t e:Expr}{m:Ms}{pos:Pos}(h:vp tb r s t e=some m):JS X E (.Assign [t] e pos) m:=by
 unfold vp at h
 split at h
 ·exact rW R S h
 ·exact vv R S h
 ·exact yM R S h
 ·cases h
end
end M
namespace M
open PySem L2
section
variable{tb:Tb}{k:Nat}{X:Cx}{E:XK}{s:Sc}
noncomputable def g8(F:Stmt->Option Ms):List Stmt->Option Ms
 | []=>some aR
 | [a]=>F a
 | a::b::r=>af (F a) λm=>af (g8 F (b::r)) λn=>some (aF m n)
theorem cY{F:Stmt->Option Ms}(h:∀a m,F a=some m->JS X E a m):∀{l:List Stmt}{m:Ms},g8 F l=some m->JSs X E l m
 | [],m,e=>by cases e;exact An
 | [a],m,e=>yj (h _ _ e)
 | a::b::r,m,e=>by
  obtain⟨m1,e1,e⟩:=aa e
  obtain⟨m2,e2,e⟩:=aa e
  cases e;exact vz (h _ _ e1) (cY h e2)
noncomputable def wu(st:Stmt):Option (Str×Pos×Expr×Pos):=match st with
 | .Assign ts e pos=>match ts with
  | [t]=>af (asN t) λ(x,px)=>some (x,px,e,pos)
  | _=>none
 | _=>none
theorem oZ{st:Stmt}{x:Str}{px pos:Pos}{e:Expr}(h:wu st=some (x,px,e,pos)):st=.Assign [.Name x px] e pos:=by
 unfold wu at h
 split at h
 ·split at h
  ·obtain⟨⟨y,py⟩,h1,h⟩:=aa h
   cases h
   rw[gE h1]
  ·cases h
 ·cases h
noncomputable def j0(_:Tb)(r:Tr)(s:Sc)(_:Sc->Stmt->Option Ms)(st:Stmt):Option Ms:=af (wu st) λ(x,px,e,_)=>af (yf e) λ(elt,g,sc,lpos) =>
  let own:=tgN 9 g.target
  let N:=Ej s.N own
  let s':=lG s N sc
  grd (s.tp&&!s.hd&&g.is_async==0&&cM g.iter&&jU s N own.length sc&&isK s x .local&&px.line==lpos.line&&!(sc.names.any λp=>p.1==x&&(p.2==.local || p.2==.cell))) (af (cj s x) λi=>af (trI r s g.target g.iter) λmi=>af (trG s' s.N.length 9 g.target) λG=>af (t9 r s' g.ifs) λmt=>af (r.E s' elt) λme=>some (aJ i (dI own.length mi G mt me)))
theorem lR{r:Tr}{F:Sc->Stmt->Option Ms}(R:bq tb k r)(S:eW tb k X E s)(HF:∀E',Passes (CXE X.prog X.w) X E'->Xc X E'->∀a m,F (noT s) a=some m->JS X E' a m){st:Stmt}{m:Ms}(h:j0 tb r s F st=some m):JS X E st m:=by
 obtain⟨⟨x,px,e,pos⟩,h1,g1⟩:=aa h
 clear h
 obtain rfl:=oZ h1
 obtain⟨⟨elt,g,sc,lpos⟩,h2,g2⟩:=aa g1
 clear g1
 obtain rfl:=j7 h2
 obtain⟨tg,iter,ifs,ia⟩:=g
 obtain⟨h0,h⟩:=ah g2
 clear g2
 simp only[JK,beq_iff_eq,Kd] at h0
 obtain⟨⟨⟨⟨⟨⟨⟨ht,hh⟩,rfl⟩,h3⟩,h4⟩,h5⟩,h6⟩,h7⟩:=h0
 obtain⟨i,e0,h⟩:=aa h
 obtain⟨mi,e1,h⟩:=aa h
 obtain⟨G,e2,h⟩:=aa h
 obtain⟨mt,e3,h⟩:=aa h
 obtain⟨me,e4,h⟩:=aa h
 cases h
 obtain⟨C1,C2,C3⟩:=S.toSit.Aq h4 hh
 obtain⟨t1,t2,t3⟩:=S.tv ht
 obtain⟨a1,a2,a3,a4⟩:=S.cj e0
 have hl:X.env.scope.names.lookup x=some .local:=S.lc x (by unfold isK at h5;simpa using h5)
 exact xi (S.cm hh) t1 t2 t3 C1 rfl (by rw[S.n];exact S.nd) a1 hl (jw S.bk hl (beq_iff_eq.mpr h6) h7) (jt R S.toSit e1) (λcl C s0 H fp=>by rw[S.n];exact fk (C2 cl C s0 H fp) e2) (λcl C s0 H fp=>kL R (C3 cl C s0 H fp) e3) (λcl C s0 H fp=>R.E (C2 cl C s0 H fp) e4) (cC h3 _)
noncomputable def xS(tb:Tb)(r:Tr)(s:Sc)(F:Sc->Stmt->Option Ms)(st:Stmt):Option Ms:=oor (j0 tb r s F st) (none)
theorem F7{r:Tr}{F:Sc->Stmt->Option Ms}(R:bq tb k r)(S:eW tb k X E s)(HF:∀E1,Passes (CXE X.prog X.w) X E1->Xc X E1->∀a m,F (noT s) a=some m->JS X E1 a m){st:Stmt}{m:Ms}(h:xS tb r s F st=some m):JS X E st m:=by
 rcases bx h with h|h
 ·exact lR R S HF h
 cases h
end
end M
namespace M
open PySem L2
section
variable{tb:Tb}{k:Nat}{X:Cx}{E:XK}{s:Sc}
noncomputable def hdS(s:Sc)(n:Str):Sc:={ s with ca:=[n],hd:=true,tp:=false }
theorem Sit.nox(S:Sit tb k X E s):Sit tb k X.nox E00 s:=⟨S.n,S.nd,S.gl,S.vs,S.lo,S.lc,S.ce,S.fx,S.cm,S.rm,λ_=>kX,S.gd,S.rh,λh=>⟨(S.tv h).1,(S.tv h).2.1,λ_ _ _ _ _ _ _ _ _ _ _ _ q=>q.elim⟩⟩
theorem Sit.mark(S:eW tb k X E s)(a:Addr)(n:Str):eW tb k (X.marked a) E00 (hdS s n) where
 n:=S.n
 nd:=S.nd
 gl:=S.gl
 vs:=S.vs
 lo:=S.lo
 lc:=S.lc
 ce:=S.ce
 fx:=S.fx
 cm:=λh=>by cases h
 rm:=λh=>by cases h
 ps:=λh=>by cases h
 gd:=S.gd
 rh:=⟨S.rh.dp,S.rh.un⟩
 tv:=λh=>absurd h Kc
 xc:=λh=>by cases h
 po:=λh=>by cases h
 st:=λh=>by cases h
 bk:=S.bk
noncomputable def ud(tb:Tb)(r:Tr)(s:Sc)(fi:FI)(args:List Expr):Option (Mi (List Rr)):=grd (args.length==fi.n) (zd (r.E s) (trF r s) args fi.mu)
noncomputable def lX(e:Expr):Option (Str×Pos×Expr×List Expr×Pos):=match e with
 | .Call f args kw cpos=>af (asN f) λ(x,p)=>match args with
  | a::as=>grd kw.isEmpty (some (x,p,a,as,cpos))
  | []=>none
 | _=>none
theorem iq{e a:Expr}{as:List Expr}{x:Str}{p cpos:Pos}(h:lX e=some (x,p,a,as,cpos)):e=.Call (.Name x p) (a::as) [] cpos:=by
 unfold lX at h
 split at h
 ·obtain⟨⟨y,py⟩,h1,g⟩:=aa h
  clear h
  obtain rfl:=gE h1
  simp only at g
  split at g
  ·obtain⟨h0,g⟩:=ah g
   rw[KN] at h0
   cases g
   rw[h0]
  ·cases g
 ·cases h
noncomputable def i4{α:Type}(l:List α):Option α:=match l with
 | [a]=>some a
 | _=>none
theorem cE{α:Type}{l:List α}{a:α}(h:i4 l=some a):l=[a]:=by
 unfold i4 at h
 split at h
 ·cases h;rfl
 ·cases h
noncomputable def stX(tb:Tb)(r:Tr)(s:Sc):Nat->Stmt->Option Ms
 | 0,_=>none
 | d+1,st=>match st with
  | .Expr e _=>af (lX e) λ(f,_,a,as,_)=>grd (glB s f) (af (tb.fns.lookup f) λfi=>af (ud tb r s fi (a::as)) λm=>some (jo (av (fP (gX s 0 (a::as) fi.mu) fi.m) [] (cB m))))
  | .Assign ts e _=>af (i4 ts) λt=>af (asN t) λ(y,_)=>af (lX e) λ(f,_,a,as,_)=>grd (glB s f) (af (cj s y) λi=>af (tb.fns.lookup f) λfi=>af (ud tb r s fi (a::as)) λm=>some (aJ i (av (fP (gX s 0 (a::as) fi.mu) fi.m) [] (cB m))))
  | .If t a b _=>af (r.T s t) λmt=>af (i4 a) λa0=>af (stX tb r s d a0) λma=>af (i4 b) λb0=>af (stX tb r s d b0) λmb=>some (sIf (cB mt) ma mb)
  | _=>none
theorem om{r:Tr}(R:bq tb k r)(S:eW tb k X E s)(hh:s.hd=false):∀{d:Nat}{st:Stmt}{m:Ms},stX tb r s d st=some m->JX X st m
 | 0,st,m,h=>by cases h
 | d+1,st,m,h=>by
  have hN:X.N.Nodup:=by rw[S.n];exact S.nd
  unfold stX at h
  split at h
  ·obtain⟨⟨f,p,a,as,cpos⟩,h1,g⟩:=aa h
   clear h
   obtain rfl:=iq h1
   obtain⟨hg,h⟩:=ah g
   obtain⟨fi,ef,h⟩:=aa h
   obtain⟨ma,e1,h⟩:=aa h
   cases h
   obtain⟨h1,e1⟩:=ah e1
   obtain⟨i1,i2,i3⟩:=iL (X:=X.nox) (E:=E00) (λ_ _=>R.E S.toSit.nox) (λ_ _=>oQ R S.toSit.nox) e1
   obtain⟨fa,fd,ps,F,hm,hk,hb⟩:=S.gd.fn _ fi ef
   have i3':=i3
   rw[Ki,JK] at i3'
   exact yU (F.imp λ_ _ _ _ q=>SpM.fP q) (S.rm hh) (S.glob hg).1 hm hk hb.all i1 (kP (d:=0) i2 (by rw[beq_iff_eq] at h1;exact h1)) (S.glob hg).2 (dG rfl _ _ _) (ax i3'.1 _ _) (cK i3'.2)
  ·obtain⟨t,h0,g0⟩:=aa h
   clear h
   obtain rfl:=cE h0
   obtain⟨⟨y,py⟩,h2,g1⟩:=aa g0
   clear g0
   obtain rfl:=gE h2
   obtain⟨⟨f,p,a,as,cpos⟩,h1,g⟩:=aa g1
   clear g1
   obtain rfl:=iq h1
   obtain⟨hg,h⟩:=ah g
   obtain⟨i,e0,h⟩:=aa h
   obtain⟨fi,ef,h⟩:=aa h
   obtain⟨ma,e1,h⟩:=aa h
   cases h
   obtain⟨a1,a2,a3,a4⟩:=S.cj e0
   obtain⟨h1,e1⟩:=ah e1
   obtain⟨i1,i2,i3⟩:=iL (X:=X.nox) (E:=E00) (λ_ _=>R.E S.toSit.nox) (λ_ _=>oQ R S.toSit.nox) e1
   obtain⟨fa,fd,ps,F,hm,hk,hb⟩:=S.gd.fn _ fi ef
   have i3':=i3
   rw[Ki,JK] at i3'
   exact DU hN a1 a2 (F.imp λ_ _ _ _ q=>SpM.fP q) (S.rm hh) (S.glob hg).1 hm hk hb.all i1 (kP (d:=0) i2 (by rw[beq_iff_eq] at h1;exact h1)) (S.glob hg).2 (dG rfl _ _ _) a4 (ax i3'.1 _ _) (cK i3'.2)
  ·obtain⟨mt,e1,h⟩:=aa h
   obtain⟨a0,e2,h⟩:=aa h
   obtain⟨ma,e3,h⟩:=aa h
   obtain⟨b0,e4,h⟩:=aa h
   obtain⟨mb,e5,h⟩:=aa h
   cases h
   obtain rfl:=cE e2
   obtain rfl:=cE e4
   exact Gy (R.T S.toSit.nox e1) (qq (om R S hh e3)) (qq (om R S hh e5))
  ·cases h
noncomputable def As(b:List Stmt)(hs:List ExceptHandler)(els fin:List Stmt):Option (Stmt×Str×Pos×Str×Stmt×List Stmt×Pos):=af (i4 b) λb0=>af (i4 hs) λh=>grd (els.isEmpty&&fin.isEmpty) (match h with
 | .ExceptHandler t n su hp=>af t λe=>af (asN e) λ(x,np)=>af n λn=>match su with
  | s0::suite=>some (b0,x,np,n,s0,suite,hp)
  | []=>none)
theorem oU{b:List Stmt}{hs:List ExceptHandler}{els fin:List Stmt}{b0 s0:Stmt}{x n:Str}{np hp:Pos}{suite:List Stmt}(h:As b hs els fin=some (b0,x,np,n,s0,suite,hp)) :
  b=[b0]/\hs=[.ExceptHandler (some (.Name x np)) (some n) (s0::suite) hp]/\els=[]/\fin=[]:=by
 obtain⟨b1,e1,h⟩:=aa h
 obtain⟨h1,e2,h⟩:=aa h
 obtain⟨h0,h⟩:=ah h
 rw[JK,KN,KN] at h0
 obtain⟨t,n',su,hp'⟩:=h1
 obtain⟨e,e3,h⟩:=aa h
 obtain⟨⟨x',np'⟩,e4,h⟩:=aa h
 obtain⟨n'',e5,h⟩:=aa h
 cases su with
 | nil=>cases h
 | cons s1 su =>
  cases h
  rw[cE e1,cE e2,e3,e5,gE e4]
  exact⟨rfl,rfl,h0.1,h0.2⟩
noncomputable def xl(r:Tr)(s:Sc)(tg it:Expr)(b:Ms):Option Ms:=match it with
 | .Name y py=>match s.di.contains y with
  | true=>grd (HM tg) (af (slot s y) λj=>af (trG s 0 9 tg) λG=>some (wx j G b))
  | false=>af (trI r s tg (.Name y py)) λm=>af (trG s 0 9 tg) λG=>some (iQ m G b)
 | e=>grd (cM e) (af (trI r s tg e) λm=>af (trG s 0 9 tg) λG=>some (iQ m G b))
theorem tO{r:Tr}(R:bq tb k r)(S:eW tb k X E s)(hh:s.hd=false){tg it:Expr}{body:List Stmt}{b m:Ms}{pos:Pos}(hb:JSs X E body b)(h:xl r s tg it b=some m):JS X E (.For tg it body [] pos) m:=by
 unfold xl at h
 split at h
 ·split at h
  ·obtain⟨h0,h⟩:=ah h
   obtain⟨j,e1,h⟩:=aa h
   obtain⟨G,e2,h⟩:=aa h
   cases h
   obtain⟨a1,a2,a3,a4⟩:=S.slot e1
   cases tg<;>first|(cases h0;done)|skip
   exact yW a1 a2 a3 a4 (S.po hh) (S.cm hh) (fk S.toSit e2) hb
  ·obtain⟨m1,e1,h⟩:=aa h
   obtain⟨G,e2,h⟩:=aa h
   cases h
   exact wy (S.po hh) (S.cm hh) (jt R S.toSit e1) (fk S.toSit e2) hb (cC rfl _)
 ·obtain⟨h0,h⟩:=ah h
  obtain⟨m1,e1,h⟩:=aa h
  obtain⟨G,e2,h⟩:=aa h
  cases h
  exact wy (S.po hh) (S.cm hh) (jt R S.toSit e1) (fk S.toSit e2) hb (cC h0 _)
noncomputable def vR(tb:Tb)(r:Tr)(s:Sc)(ts:List Expr)(e:Expr):Option Ms:=match ts with
 | [t]=>vp tb r s t e
 | _=>none
noncomputable def DJ(tb:Tb)(r:Tr)(s:Sc)(ex ca:Option Expr):Option Ms:=match ca with
 | some _=>none
 | none=>match ex with
  | some (.Call f (a::as) [] _)=>match f with
   | .Name c _=>grd (!s.hd&&glB s c&&tb.exs.contains c) (af (oE (r.E s) (a::as)) λm=>some (cN c m))
   | _=>none
  | _=>none
theorem xw{r:Tr}(R:bq tb k r)(S:eW tb k X E s){ex ca:Option Expr}{pos:Pos}{m:Ms}(h:DJ tb r s ex ca=some m):JS X E (.Raise ex ca pos) m:=by
 unfold DJ at h
 split at h
 ·cases h
 ·split at h
  ·split at h
   ·obtain⟨h0,h⟩:=ah h
    simp only[JK,Kd] at h0
    obtain⟨⟨hh,hg⟩,hc⟩:=h0
    obtain⟨m1,e1,h⟩:=aa h
    cases h
    obtain⟨C,c1,c2⟩:=S.gd.ex _ (Li.mp hc)
    obtain⟨i1,i2,i3⟩:=fI (λ_ _=>R.E S.toSit) e1
    rw[Ki,JK] at i3
    exact wD (S.xc hh) (S.cm hh) (S.glob hg).1 c1 c2 i1 (S.glob hg).2 (ax i3.1 _ _) (cK i3.2)
   ·cases h
  ·cases h
noncomputable def stS(tb:Tb)(r:Tr)(s:Sc)(F:Sc->Stmt->Option Ms):Stmt->Option Ms
 | .Assign ts e _=>vR tb r s ts e
 | .Return none _=>some vq
 | .Return (some e) _=>af (r.E s e) λm=>some (a5 m)
 | .If t a b _=>af (r.T s t) λmt=>af (g8 (F s) a) λm=>af (g8 (F s) b) λn=>some (sIf mt m n)
 | .While t b els _=>grd (!s.hd&&els.isEmpty) (af (r.T s t) λmt=>af (g8 (F s) b) λm=>some (jl BIG mt m))
 | .For tg it b els _=>grd (!s.hd&&els.isEmpty) (af (g8 (F s) b) λm=>xl r s tg it m)
 | .Try b hs els fin _=>af (As b hs els fin) λ(b0,x,_,n,s0,suite,_)=>grd (!s.hd&&glB s x&&isK s n .local) (af (tb.exm.lookup x) λl=>af (cj s n) λi=>af (stX tb r s 9 b0) λmb=>af (g8 (F (hdS s n)) (s0::suite)) λms=>some (wC i (Dz l) mb ms))
 | .Raise ex ca _=>DJ tb r s ex ca
 | .Expr e _=>grd (gA e) (af (r.E s e) λm=>some (jo m))
 | .Pass _=>some aR
 | .Break _=>some tV
 | .Continue _=>some AY
 | _=>none
noncomputable def trS(tb:Tb)(r:Tr):Nat->Sc->Stmt->Option Ms
 | 0,_,_=>none
 | d+1,s,st=>oor (xS tb r s (trS tb r d) st) (stS tb r s (trS tb r d) st)
theorem eW.HL{E':XK}(S:eW tb k X E s)(h1:Passes (CXE X.prog X.w) X E')(h2:Xc X E'):eW tb k X E' (noT s):=⟨⟨S.n,S.nd,S.gl,S.vs,S.lo,S.lc,S.ce,S.fx,S.cm,S.rm,λ_=>h1,S.gd,S.rh,λh=>absurd h Kc⟩,λ_=>h2,S.po,S.st,S.bk⟩
theorem iZ{r:Tr}(R:bq tb k r):∀{d:Nat}{X:Cx}{E:XK}{s:Sc}{st:Stmt}{m:Ms},eW tb k X E s->trS tb r d s st=some m->JS X E st m
 | 0,X,E,s,st,m,S,h=>by cases h
 | d+1,X,E,s,st,m,S,h=>by
  have ih:∀a m,trS tb r d s a=some m->JS X E a m:=λa m e=>iZ R S e
  unfold trS at h
  have h':=bx h
  clear h
  rcases h' with h|h
  ·exact F7 R S (λE' h1 h2 a m e=>iZ R (S.HL h1 h2) e) h
  cases st with
  | Assign ts e _ =>
   have h:vR tb r s ts e=some m:=h
   unfold vR at h
   split at h
   ·exact vP R S h
   ·cases h
  | Return v _=>cases v with
   | none=>cases h;exact zr
   | some e =>
    obtain⟨m1,e1,h⟩:=aa h
    cases h;exact Ei (R.E S.toSit e1)
  | If t a b _ =>
   obtain⟨mt,e1,h⟩:=aa h
   obtain⟨m1,e2,h⟩:=aa h
   obtain⟨m2,e3,h⟩:=aa h
   cases h;exact Gj (R.T S.toSit e1) (cY ih e2) (cY ih e3)
  | While t b els _ =>
   have h':=ah h
   clear h
   obtain⟨h0,h⟩:=h'
   simp only[JK,Kd,KN] at h0
   obtain⟨hh,rfl⟩:=h0
   obtain⟨mt,e1,h⟩:=aa h
   obtain⟨m1,e2,h⟩:=aa h
   cases h;exact ug (S.po hh) (R.T S.toSit e1) (cY ih e2)
  | For tg it b els _ =>
   have h':=ah h
   clear h
   obtain⟨h0,h⟩:=h'
   simp only[JK,Kd,KN] at h0
   obtain⟨hh,rfl⟩:=h0
   obtain⟨m1,e2,h⟩:=aa h
   exact tO R S hh (cY ih e2) h
  | Try b hs els fin _ =>
   obtain⟨⟨b0,x,np,n,s0,suite,hp⟩,h1,g⟩:=aa h
   clear h
   obtain⟨rfl,rfl,rfl,rfl⟩:=oU h1
   obtain⟨h0,h⟩:=ah g
   simp only[JK,Kd] at h0
   obtain⟨⟨hh,hg⟩,hn⟩:=h0
   obtain⟨l,e1,h⟩:=aa h
   obtain⟨i,e2,h⟩:=aa h
   obtain⟨mb,e3,h⟩:=aa h
   obtain⟨ms,e4,h⟩:=aa h
   cases h
   obtain⟨a1,a2,a3,a4⟩:=S.cj e2
   obtain⟨T,t1,t2⟩:=S.gd.em _ _ e1
   obtain⟨q1,q2,q3⟩:=S.st hh
   exact EE q1 q2 q3 (by rw[S.n];exact S.nd) a1 (S.lc _ (by unfold isK at hn;simpa using hn)) (S.glob hg).1 t1 (λc C hc hm=>t2 c C hc hm) (om R S hh e3) (λa=>cY (λb m e=>iZ R (Sit.mark S a _) e) e4) (S.glob hg).2 a4
  | Raise ex ca _=>exact xw R S h
  | Expr e _ =>
   obtain⟨h0,h⟩:=ah h
   obtain⟨m1,e1,h⟩:=aa h
   cases h;exact zq (R.E S.toSit e1) (dG h0 _ _ _)
  | Pass _=>cases h;exact zF
  | Break _=>cases h;exact w4
  | Continue _=>cases h;exact zu
  | _=>cases h
structure DI where
 cl:Option Str
 name:Str
 st:Stmt
 N:List Str
 n:Nat
 di:List Str
 mu:List Bool
 df:List A
 lv:List Str
 m:Ms
 ce:List Str:=[]
 tp:Bool:=false
noncomputable def DI.sc(d:DI):Sc:={ N:=d.N,nm:=(ay d.st).names,di:=d.di,ca:=d.ce,hd:=!d.ce.isEmpty,lv:=d.lv,tp:=d.tp&&d.ce.isEmpty }
noncomputable def dZ(d:DI):Bool:=(ay d.st).kind==.function&&!(ay d.st).isCoroutine&&!(ay d.st).isGenerator&&decide d.N.Nodup&&Md d.n d.N.length&&(d.N.take d.n).all (λx=>(ay d.st).names.lookup x==some .local || (ay d.st).names.lookup x==some .cell)&&(ay d.st).names.all (λy=>y.2 != .free)
theorem dE{d:DI}(h:dZ d=true):cR d.N (d.N.take d.n) (ay d.st)/\(d.N.take d.n).length=d.n:=by
 unfold dZ at h
 simp only[JK,beq_iff_eq,Kd,decide_eq_true_eq,Kw,KI,bne_iff_ne,ne_eq] at h
 obtain⟨⟨⟨⟨⟨⟨h1,h2⟩,h3⟩,h4⟩,h5⟩,h6⟩,h7⟩:=h
 have hl:(d.N.take d.n).length=d.n:=by rw[Lu];have:=K4 h5;omega
 exact⟨⟨h1,h2,h3,h4,by rw[hl],h6,h7⟩,hl⟩
noncomputable def DI.M(d:DI):Ms:=cb (d.N.length-d.n) d.m
noncomputable def DI.fi(d:DI):FI:=⟨d.n,d.M,d.mu,d.df,!d.ce.isEmpty⟩
noncomputable def DI.qual(d:DI):Str:=match d.cl with
 | none=>d.name
 | some c=>c++(("." : Str)++d.name)
noncomputable def Tb.add(tb:Tb)(d:DI):Tb:=match d.cl with
 | none=>{ tb with fns:=(d.name,d.fi)::tb.fns }
 | some c=>match d.name==("__init__" : Str) with
  | true=>{ tb with ini:=(c,d.fi)::tb.ini }
  | false=>{ tb with mts:=(d.name,c,d.fi)::tb.mts }
noncomputable def gK:Nat:=40
theorem A0{P:Program}{w:World}{K:JH}{mg:Str->Option Value}{base:Heap}{d:DI}{f:Addr}{fd:FuncData}{dV:Value}{qual:Str}(G:Gd tb k P w K mg base)(F:jr K d.name qual d.st f fd dV)(hs:dZ d=true)
  (h:g8 (trS tb (tr tb gK) gK d.sc) (a7 d.st)=some d.m):cu P w K mg base (CXE P w) (k+1) f fd (d.N.take d.n) (SpM ⟨K,mg⟩ d.n d.M):=by
 obtain⟨S,hl⟩:=dE hs
 have key:=Be (P:=P) (w:=w) (mg:=mg) (base:=base) (k:=k) (m:=d.m) F S (λcdv A outer s H E hr=>cY (λa m e=>iZ (iu gK) (?_:eW tb k _ E d.sc) e) h)
 ·rw[hl] at key;exact key
 ·refine⟨⟨rfl,S.nd,λx hx=>hx,λx hx=>?_,λx hx=>?_,λx hx=>hx,λx hx=>hx,λx hx=>.inl rfl,λ_=>rfl,λ_=>hr,λ_=>AD.pass,G,hr.h,λ_=>⟨rfl,rfl,vC⟩⟩,λ_=>AD,λ_=>PassesOwn.leaving,λ_=>⟨rfl,rfl,rfl⟩,?_⟩
  ·unfold xq isK DI.sc at hx
   simp only[KI,beq_iff_eq] at hx
   rcases hx with (z|z)|z
   ·exact .inl z
   ·exact .inr (.inl z)
   ·exact .inr (.inr z)
  ·unfold mW isK DI.sc at hx
   simp only[KI,beq_iff_eq] at hx
   exact hx
  ·show (if (ay d.st).kind.isAnnotationScope then NK else (ay d.st).kind)=.function
   rw[S.kind];rfl
theorem Bc{P:Program}{w:World}{K:JH}{mg:Str->Option Value}{base:Heap}{d:DI}{f:Addr}{fd:FuncData}{dV:Value}{qual:Str}(G:Gd tb k P w K mg base)(F:jr K d.name qual d.st f fd dV)(hs:dZ d=true)
  (hc:(!d.ce.isEmpty)=true)(h:g8 (trS tb (tr tb gK) gK d.sc) (a7 d.st)=some d.m):FnH P w K mg base (CXE P w) (k+1) f fd (d.N.take d.n) (SpM ⟨K,mg⟩ d.n d.M):=by
 obtain⟨S,hl⟩:=dE hs
 have key:=zX (P:=P) (w:=w) (mg:=mg) (base:=base) (k:=k) (m:=d.m) F S (λcdv A outer s H E hr=>cY (λa m e=>iZ (iu gK) (?_:eW tb k _ E d.sc) e) h)
 ·rw[hl] at key;exact key
 ·have no:∀(p:Prop),d.sc.hd=false->p:=λp z=>by rw[show d.sc.hd=true from hc] at z;cases z
  refine⟨⟨rfl,S.nd,λx hx=>hx,λx hx=>?_,λx hx=>?_,λx hx=>hx,λx hx=>hx,λx hx=>.inl rfl,no _,no _,no _,G,hr,λh=>by
   replace h:(d.tp&&d.ce.isEmpty)=true:=h
   rw[JK] at h
   rw[h.2] at hc
   cases hc⟩,no _,no _,no _,?_⟩
  ·unfold xq isK DI.sc at hx
   simp only[KI,beq_iff_eq] at hx
   rcases hx with (z|z)|z
   ·exact .inl z
   ·exact .inr (.inl z)
   ·exact .inr (.inr z)
  ·unfold mW isK DI.sc at hx
   simp only[KI,beq_iff_eq] at hx
   exact hx
  ·show (if (ay d.st).kind.isAnnotationScope then NK else (ay d.st).kind)=.function
   rw[S.kind];rfl
end
end M
namespace M
open PySem L2
theorem dU{ps:List Str}:∀{us:List Value}{n:Str},us.length=ps.length->n∈ps->((ps.zip us).lookup n).isSome=true:=by
 induction ps with
 | nil=>intro us n _ h;cases h
 | cons p ps ih =>
  intro us n hl h
  cases us with
  | nil=>cases hl
  | cons u us =>
   rw[LB,Kq]
   split
   ·rfl
   ·rename_i z
    rcases J6.mp h with y|y
    ·rw[y,beq_self_eq_true] at z;cases z
    ·exact ih (by simpa using hl) y
theorem i8{ps:List Str}:∀{us:List Value}{pre:List (Str×Value)},us.length=ps.length->ps.Nodup->(∀n∈ps,pre.lookup n=none)->ps.filterMap (λn=>((pre++ps.zip us).lookup n).map (n,·))=ps.zip us:=by
 induction ps with
 | nil=>intro us pre _ _ _;rfl
 | cons p ps ih =>
  intro us pre hl nd hp
  cases us with
  | nil=>cases hl
  | cons u us =>
   obtain⟨n1,n2⟩:=Kt.mp nd
   have e1:(pre++(p,u)::ps.zip us).lookup p=some u:=by
    rw[OE,hp p JN,Kq,beq_self_eq_true];rfl
   rw[LB,KP,e1]
   show (p,u)::_=_
   congr 1
   have:=ih (us:=us) (pre:=pre++[(p,u)]) (by simpa using hl) n2 (λn hn=>by
    rw[OE,hp n (JQ _ hn),Kq]
    have:(n==p)=false:=beq_eq_false_iff_ne.mpr λz=>n1 (z▸hn)
    rw[this];rfl)
   simpa[JY] using this
theorem mK{fd:FuncData}{ps:List Str}{us:List Value}(h1:fd.params.posonlyargs=[])(h2:fd.params.kwonlyargs=[])(h3:fd.params.vararg=none)(h4:fd.params.kwarg=none)(h5:fd.defaults=.none)(h6:fd.params.args.map (·.arg)=ps)(nd:ps.Nodup)(hl:us.length=ps.length) :
  bindArgs fd ⟨us,[]⟩=pure (ps.zip us):=by
 have f1:(ps.filter λn=>((ps.zip us).lookup n).isNone)=[]:=by
  rw[Mq]
  intro n hn
  have:=dU hl hn
  cases e:(ps.zip us).lookup n with
  | none=>rw[e] at this;cases this
  | some v=>simp
 have f2:=i8 (pre:=[]) hl nd (λn _=>rfl)
 rw[Ku] at f2
 unfold bindArgs
 simp only[h1,h2,h3,h4,h5,h6,J7,Ku,Km]
 have e:(seqItems? LU:Sem (Option (Array Value)))=pure none:=rfl
 simp[e,hl,f1,f2]
theorem wm{ps:List Str}:∀{us:List Value}{z:Str},z∉ps->(ps.zip us).lookup z=none:=by
 induction ps with
 | nil=>intro us z _;rfl
 | cons p ps ih =>
  intro us z hz
  cases us with
  | nil=>rfl
  | cons u us =>
   rw[LB,Kq]
   have:(z==p)=false:=beq_eq_false_iff_ne.mpr λy=>hz (y▸JN)
   rw[this]
   exact ih λy=>hz (JQ _ y)
theorem rF{ps qs:List Str}:∀{us:List Value},us.length=ps.length->(ps++qs).zip us=ps.zip us:=by
 induction ps with
 | nil=>intro us h;cases us with
  | nil=>cases qs<;>rfl
  | cons _ _=>cases h
 | cons p ps ih=>intro us h;cases us with
  | nil=>cases h
  | cons u us=>rw[Lv,LB,LB,ih (by simpa using h)]
theorem wA{s:Shared}{fd:FuncData}{qs:List Str}{z:Str}{us:List Value}{td:Addr}{o:Obj}{dv:Value}{ep:Nat}(h1:fd.params.posonlyargs=[])(h2:fd.params.kwonlyargs=[])(h3:fd.params.vararg=none)(h4:fd.params.kwarg=none)(h5:fd.defaults=.ref td)(ho:s.heap.get? td=some o)(hs:o.data=.seq #[dv] ep)
  (h6:fd.params.args.map (·.arg)=qs++[z])(nd:(qs++[z]).Nodup) :
  (us.length=(qs++[z]).length->BindsTo s fd ⟨us,[]⟩ ((qs++[z]).zip us))/\(us.length=qs.length->BindsTo s fd ⟨us,[]⟩ ((qs++[z]).zip (us++[dv]))):=by
 have nz:z∉qs:=λy=>(Kj.mp nd).2.2 z y z JN rfl
 have e1:NI (1-(qs++[z]).length) [dv]=[dv]:=by simp
 have e2:(qs++[z]).take ((qs++[z]).length - [dv].length)=qs:=by simp
 have e3:(qs++[z]).drop ((qs++[z]).length - [dv].length)=[z]:=by simp
 refine⟨λhl=>?_,λhl=>?_⟩
 ·refine .of_defaults h5 ho hs rfl ?_
  have f1:qs.filter (λn=>(((qs++[z]).zip us).lookup n).isNone)=[]:=by
   rw[Mq]
   intro n hn
   have:=dU hl (Ka [z] hn)
   cases e:((qs++[z]).zip us).lookup n with
   | none=>rw[e] at this;cases this
   | some v=>simp
  have f2:=i8 (pre:=[]) hl nd (λn _=>rfl)
  rw[Ku] at f2
  have f3:(((qs++[z]).zip us).lookup z).isNone=false:=by
   have:=dU hl (JL qs (JN (a:=z) (l:=[])))
   cases e:((qs++[z]).zip us).lookup z with
   | none=>rw[e] at this;cases this
   | some v=>rfl
  simp only[h1,h2,h3,h4,h6,J7,Ku,Km]
  simp only[OF,JZ,KZ,Ob]
  rw[e1,e2,e3]
  have hl':¬ (us.length > (qs++[z]).length):=by rw[hl];omega
  simp only[hl',f1,f2]
  simp[f3]
  rw[<- Oc,f2]
 ·refine .of_defaults h5 ho hs rfl ?_
  have hz:(qs++[z]).zip us=qs.zip us:=rF hl
  have f1:qs.filter (λn=>((qs.zip us).lookup n).isNone)=[]:=by
   rw[Mq]
   intro n hn
   have:=dU hl hn
   cases e:(qs.zip us).lookup n with
   | none=>rw[e] at this;cases this
   | some v=>simp
  have f3:((qs.zip us).lookup z).isNone=true:=by rw[wm nz];rfl
  have hl2:(us++[dv]).length=(qs++[z]).length:=by simp[hl]
  have f2:=i8 (pre:=[]) hl2 nd (λn _=>rfl)
  rw[Ku] at f2
  have f4:(qs++[z]).zip (us++[dv])=qs.zip us++[(z,dv)]:=by rw[List.zip_append hl.symm];rfl
  rw[f4] at f2 ⊢
  simp only[h1,h2,h3,h4,h6,J7,Ku,Km]
  simp only[OF,JZ,KZ,Ob]
  rw[e1,e2,e3,hz]
  have hl':¬ (us.length > (qs++[z]).length):=by rw[hl];simp
  simp only[hl',f1,f2]
  simp[f3]
  rw[<- Oc,f2]
mutual
noncomputable def uo(K:JH):Nat->Value->A->Bool
 | 0,_,_=>false
 | n+1,v,a=>match v,a with
  | .none,.non=>true
  | .bool b,.bl c=>b==c
  | .int i _,.int j=>i==j
  | .str x _,.str y=>x==y
  | .ref p,.tup as=>(match K.lookup p with
   | some ⟨.type "tuple",none,.seq its _,_⟩=>Md its.size 1000&&pQ K n its.toList as
   | _=>false)
  | _,_=>false
noncomputable def pQ(K:JH):Nat->List Value->List A->Bool
 | 0,_,_=>false
 | _+1,[],[]=>true
 | n+1,v::vs,a::as=>uo K n v a&&pQ K n vs as
 | _+1,_,_=>false
end
mutual
theorem lQ{K:JH}{mg:Str->Option Value}:∀{n:Nat}{v:Value}{a:A},uo K n v a=true->∃x,RelV x v/\∀G,RA ⟨K,mg⟩ G x a
 | 0,v,a,h=>by cases h
 | n+1,v,a,h=>by
  unfold uo at h
  split at h
  ·exact⟨.non,rfl,λ_=>.non⟩
  ·rw[beq_iff_eq] at h;subst h;exact⟨.bl _,rfl,λ_=>.bl _⟩
  ·rw[beq_iff_eq] at h;subst h;exact⟨.int _,⟨_,rfl⟩,λ_=>.int _⟩
  ·rw[beq_iff_eq] at h;subst h;exact⟨.str _,⟨_,rfl⟩,λ_=>.str _⟩
  ·split at h
   ·rename_i its ep sl e
    rw[JK] at h
    obtain⟨xs,h1,h2⟩:=mD (mg:=mg) h.2
    refine⟨.ref _,rfl,λG=>.tup (.inr ⟨_,its,_,e,⟨rfl,rfl⟩,rfl,?_,h1⟩) (h2 G)⟩
    have:=K4 h.1
    have:=fo
    omega
   ·cases h
  ·cases h
theorem mD{K:JH}{mg:Str->Option Value}:∀{n:Nat}{vs:List Value}{as:List A},pQ K n vs as=true->∃xs,Vals xs vs/\∀G,RAs ⟨K,mg⟩ G xs as
 | 0,vs,as,h=>by cases h
 | _+1,[],[],h=>⟨[],.nil,λ_=>.nil⟩
 | n+1,v::vs,a::as,h=>by
  rw[pQ,JK] at h
  obtain⟨x,h1,h2⟩:=lQ (mg:=mg) h.1
  obtain⟨xs,h3,h4⟩:=mD (mg:=mg) h.2
  exact⟨x::xs,.cons h1 h3,λG=>.cons (h2 G) (h4 G)⟩
 | _+1,[],_::_,h=>by cases h
 | _+1,_::_,[],h=>by cases h
end
noncomputable def gV(K:JH)(x:Str):Option Value:=match MK K mainGlobals x with
 | some (some v)=>some v
 | _=>none
theorem gJ{K:JH}{h:Heap}{mg:Str->Option Value}(X:K.In h)(G:h.Ns mainGlobals mg){x:Str}{v:Value}(e:gV K x=some v):mg x=some v:=by
 unfold gV at e
 split at e
 ·rename_i q;cases e;exact PySem.W.mg_of X G q
 ·cases e
noncomputable def GQ(K:JH)(x:Str):Option V:=match gV K x with
 | some (.ref C)=>some (.ref C)
 | some _=>none
 | none=>match MK K mainGlobals x,bootBuiltins x with
  | some none,some (.type t)=>if x==("__name__" : Str) then none else some (.ty t)
  | _,_=>none
noncomputable def tL(K:JH)(C:Addr):Bool :=
 KO K (.ref C) "__getattribute__" == some (some (.builtin "BaseException.__getattribute__"))&&KO K (.ref C) "__getattr__" == some none&&KO K (.ref C) "__class__" == some (some (.builtin "object.__class__")) &&
 Oh K (.builtin "object.__class__") "__get__" == some (some (.builtin "getset_descriptor.__get__"))&&Ow K (.builtin "object.__class__")==some true&&Ni K C (.type "object")==some true&&Ni K C (.type "BaseException")==some true
theorem vY{K:JH}{C:Addr}(h:tL K C=true):dJ K C:=by
 unfold tL at h
 simp only[JK,beq_iff_eq] at h
 obtain⟨⟨⟨⟨⟨⟨h1,h2⟩,h3⟩,h4⟩,h5⟩,h6⟩,h7⟩:=h
 exact⟨h1,h2,h3,h4,h5,h6,h7⟩
noncomputable def Ii(K:JH)(p:Str×List (Str×Bool)):Bool:=match GQ K p.1 with
 | some cv=>p.2.all λq=>match gV K q.1 with
  | some (.ref C)=>tL K C&&Ko K (.ref C) (eD cv)==some q.2
  | _=>false
 | none=>false
noncomputable def GK(K:JH)(p:Str×List Str):Bool:=match gV K p.1 with
 | some (.ref T)=>p.2.all λc=>match gV K c with
  | some (.ref C)=>Mu K (.ref C) (.ref T)==some true
  | _=>false
 | _=>false
noncomputable def F6(K:JH)(x:Str):Bool:=match gV K x with
 | some (.ref C)=>LG K C rq "ValueError.__new__"
 | _=>false
noncomputable def HD(K:JH)(p:Str×A):Bool:=match gV K p.1 with
 | some v=>uo K 20 v p.2
 | none=>false
noncomputable def lO(K:JH)(C:Addr):Bool:=MN K C M8&&Of K C&&Og K C&&KO K (.ref C) "__setattr__" == some (some (.builtin "object.__setattr__"))
theorem jW{K:JH}{C:Addr}(h:lO K C=true):Cls K C:=by
 unfold lO at h
 simp only[JK,beq_iff_eq] at h
 obtain⟨⟨⟨h1,h2⟩,h3⟩,h4⟩:=h
 exact⟨h1,h2,h3,h4⟩
noncomputable def Gi(K:JH)(p:Str×List Str):Bool:=match gV K p.1 with
 | some (.ref C)=>lO K C&&p.2.all λf=>KO K (.ref C) f==some none
 | _=>false
noncomputable def gdB(tb:Tb)(K:JH):Bool:=tb.fns.isEmpty&&tb.cst.all (HD K)&&yC.all (λx=>MK K mainGlobals x==some none)&&tb.exs.all (F6 K)&&tb.kit.all (Ii K)&&tb.exm.all (GK K)&&tb.fld.all (Gi K)&&tb.ini.isEmpty&&tb.mts.isEmpty
theorem CL{tb:Tb}{K:JH}{h:Heap}{P:Program}{w:World}{mg:Str->Option Value}{base:Heap}(X:K.In h)(G:h.Ns mainGlobals mg)(e:gdB tb K=true):Gd tb 1 P w K mg base:=by
 unfold gdB at e
 simp only[JK,KN,Kw,beq_iff_eq] at e
 obtain⟨⟨⟨⟨⟨⟨⟨⟨e1,e2⟩,e3⟩,e4⟩,e5⟩,e6⟩,e7⟩,e8⟩,e9⟩:=e
 refine⟨λx f q=>(by rw[e1] at q;cases q),λx a q=>?_,λx q=>Od X G (e3 x q),λx q=>?_,λx l q=>?_,λx l q=>?_,λf c C q hm=>?_,λc f q=>(by rw[e8] at q;cases q),λm c f q=>(by rw[e9] at q;cases q),λx f q=>(by rw[e1] at q;cases q)⟩
 ·have:=e2 _ (bb q)
  unfold HD at this
  split at this
  ·rename_i v ev
   obtain⟨y,y1,y2⟩:=lQ (mg:=mg) this
   exact⟨y,v,gJ X G ev,y1,y2⟩
  ·cases this
 ·have:=e4 x q
  unfold F6 at this
  split at this
  ·rename_i C ev
   exact⟨C,gJ X G ev,this⟩
  ·cases this
 ·have:=e5 _ (bb q)
  unfold Ii at this
  split at this
  ·rename_i cv ec
   rw[Kw] at this
   have tail:∀c C k,l.lookup c=some k->mg c=some (.ref C)->dJ K C/\Ko K (.ref C) (eD cv)=some k:=λc C k hk hm=>by
    have t:=this _ (bb hk)
    split at t
    ·rename_i C' ev
     have:=gJ X G ev
     rw[hm] at this
     cases this
     rw[JK,beq_iff_eq] at t
     exact⟨vY t.1,t.2⟩
    ·cases t
   unfold GQ at ec
   split at ec
   ·rename_i C ev
    cases ec
    exact⟨.ref C,.ref C,rfl,rfl,.inl (gJ X G ev),tail⟩
   ·cases ec
   ·split at ec
    ·rename_i t en eb
     split at ec
     ·cases ec
     ·rename_i hn
      cases ec
      exact⟨.type t,.ty t,rfl,rfl,.inr ⟨Od X G en,eb,λz=>hn (by rw[z];exact beq_self_eq_true _)⟩,tail⟩
    ·cases ec
  ·cases this
 ·have:=e6 _ (bb q)
  unfold GK at this
  split at this
  ·rename_i T ev
   rw[Kw] at this
   refine⟨T,gJ X G ev,λc C hc hm=>?_⟩
   have t:=this c (Li.mp hc)
   split at t
   ·rename_i C' ev2
    have:=gJ X G ev2
    rw[hm] at this
    cases this
    rw[beq_iff_eq] at t
    exact t
   ·cases t
  ·cases this
 ·obtain⟨p,q1,q2⟩:=Mr.mp (Li.mp q)
  obtain⟨q3,q4⟩:=LQ.mp q1
  have t:=e7 p q3
  subst q2
  unfold Gi at t
  split at t
  ·rename_i C' ev
   have:=gJ X G ev
   rw[hm] at this
   cases this
   rw[JK,Kw] at t
   have:=t.2 f (Li.mp q4)
   exact⟨jW t.1,by rw[beq_iff_eq] at this;exact this⟩
  ·cases t
noncomputable def oJ(d:DI):Bool:=(bQ d.st).posonlyargs.isEmpty&&(bQ d.st).kwonlyargs.isEmpty&&(bQ d.st).vararg.isNone&&(bQ d.st).kwarg.isNone&&(bQ d.st).args.map (·.arg)==d.N.take d.n
noncomputable def Dj(K:JH)(dV:Value)(a:A):Bool:=match dV with
 | .ref td=>match K.lookup td with
  | some ⟨_,_,.seq its _,_⟩=>(match its.toList with
   | [v]=>uo K 20 v a
   | _=>false)
  | _=>false
 | _=>false
noncomputable def rX(K:JH)(dV:Value):List A->Bool
 | []=>match dV with
  | .none=>true
  | _=>false
 | [a]=>Dj K dV a
 | _=>false
theorem BI{K:JH}{mg:Str->Option Value}{d:DI}{qual:Str}{f:Addr}{fd:FuncData}{dV:Value}(h:oJ d=true)(hs:dZ d=true)(F:jr K d.name qual d.st f fd dV)(hd:rX K dV d.df=true):fS K mg fd (d.N.take d.n) d.df:=by
 unfold oJ at h
 simp only[JK,KN,Nl,beq_iff_eq] at h
 obtain⟨⟨⟨⟨h1,h2⟩,h3⟩,h4⟩,h5⟩:=h
 obtain⟨S,hl⟩:=dE hs
 have nd:=S.nd.sublist (MR d.n d.N)
 obtain⟨oc,od,kV,doc,pm,an,cdv,ct,osl,rfl,lk,hcd⟩:=F.ex
 cases e:d.df with
 | nil =>
  rw[e] at hd
  have hd:dV=.none:=by cases dV<;>first|rfl|cases hd
  subst hd
  ·intro j hj
   refine⟨[],[],Binds.all λus hu=>mK h1 h2 h3 h4 rfl h5 nd hu,.nil,λ_=>?_⟩
   rw[List.drop_nil];exact .nil
 | cons a as =>
  cases as with
  | cons _ _=>rw[e] at hd;cases hd
  | nil =>
   rw[e] at hd
   replace hd:Dj K dV a=true:=hd
   unfold Dj at hd
   split at hd
   ·rename_i td
    split at hd
    ·rename_i x y its ep sl el
     split at hd
     ·rename_i v ev
      obtain⟨xv,r1,r2⟩:=lQ (mg:=mg) hd
      have hi:its=#[v]:=by rw[<- M0,ev]
      subst hi
      have bo:∀(s:Shared)(us:List Value),K.In s.heap->((us.length=(d.N.take d.n).length->BindsTo s _ ⟨us,[]⟩ ((d.N.take d.n).zip us))/\(us.length+1=(d.N.take d.n).length->BindsTo s _ ⟨us,[]⟩ ((d.N.take d.n).zip (us++[v])))):=λs us ki=>by
       rcases List.eq_nil_or_concat (d.N.take d.n) with z|⟨qs,zl,z⟩
       ·rw[z] at h5 ⊢
        refine⟨λhl=>?_,λhl=>by cases hl⟩
        cases us with
        | cons _ _=>cases hl
        | nil =>
         refine .of_defaults (fd:=Lc d.name qual (bQ d.st) (a7 d.st) (ay d.st) (.ref td) kV doc pm an cdv ct) rfl (ki _ _ el) rfl rfl ?_
         show _=pure []
         simp only[Lc,h1,h2,h3,h4,h5,J7,Ku,Km]
         simp
       ·rw[List.concat_eq_append] at z
        rw[z] at h5 nd ⊢
        have:=wA (s:=s) (us:=us) (fd:=Lc d.name qual (bQ d.st) (a7 d.st) (ay d.st) (.ref td) kV doc pm an cdv ct) h1 h2 h3 h4 rfl (ki _ _ el) rfl h5 nd
        exact⟨this.1,λq=>this.2 (by simpa using q)⟩
      intro j hj
      rcases Nat.le_one_iff_eq_zero_or_eq_one.mp hj with rfl|rfl
      ·exact⟨[v],[xv],λs us ki hu=>(bo s us ki).2 (by simpa using hu),.cons r1 .nil,λG=>.cons (r2 G) .nil⟩
      ·exact⟨[],[],λs us ki hu=>by rw[Km] at hu ⊢;exact(bo s us ki).1 hu,.nil,λG=>.nil⟩
     ·cases hd
    ·cases hd
   ·cases hd
noncomputable def qr:Tb->List DI->List (Option Ms)
 | _,[]=>[]
 | tb,d::ds=>g8 (trS tb (tr tb gK) gK d.sc) (a7 d.st)::qr (tb.add d) ds
noncomputable def kj:Tb->List DI->Tb
 | tb,[]=>tb
 | tb,d::ds=>kj (tb.add d) ds
def gm(K:JH)(mg:Str->Option Value)(d:DI)(f:Addr):Prop:=match d.cl with
 | none=>mg d.name=some (.ref f)
 | some c=>∃C,mg c=some (.ref C)/\Cls K C/\Meth K C d.name f/\(d.name=("__init__" : Str)->Mk K C f)
section
variable{P:Program}{w:World}{K:JH}{mg:Str->Option Value}{base:Heap}
theorem Gd.up{tb:Tb}{j k:Nat}(G:Gd tb j P w K mg base)(h:j<=k):Gd tb k P w K mg base:=⟨λx f e=>by
 obtain⟨a,fd,ps,F,r⟩:=G.fn x f e
 exact⟨a,fd,ps,F.mono h,r⟩,G.cs,G.bl,G.ex,G.kt,G.em,G.fl,λc f e=>by
 obtain⟨C,a,fd,ps,i,hi,r⟩:=G.im c f e
 exact⟨C,a,fd,ps,i,Kh hi h,r⟩,λm c f e=>by
 obtain⟨C,a,fd,ps,F,r⟩:=G.mt m c f e
 exact⟨C,a,fd,ps,F.mono h,r⟩,λx f e eh=>by
 obtain⟨a,fd,ps,F,r⟩:=G.fh x f e eh
 exact⟨a,fd,ps,F.mono h,r⟩⟩
theorem Gd.add{tb:Tb}{k:Nat}(G:Gd tb k P w K mg base){d:DI}{f:Addr}{fd:FuncData}{dV:Value}(m:gm K mg d f)(F:jr K d.name d.qual d.st f fd dV)(hd:rX K dV d.df=true)(hs:dZ d=true)(hp:oJ d=true)
  (h:g8 (trS tb (tr tb gK) gK d.sc) (a7 d.st)=some d.m):Gd (tb.add d) (k+2) P w K mg base:=by
 have G2:=G.up (show k<=k+2 by omega)
 have FO:=A0 G F hs h
 have BD:fS K mg fd (d.N.take d.n) d.df:=BI hp hs F hd
 unfold Tb.add
 unfold gm at m
 split
 ·rename_i hc
  rw[hc] at m
  refine⟨λx fi e=>?_,G2.cs,G2.bl,G2.ex,G2.kt,G2.em,G2.fl,G2.im,G2.mt,λx fi e eh=>?_⟩
  ·have e:((d.name,d.fi)::tb.fns).lookup x=some fi:=e
   rw[Kq] at e
   cases z:x==d.name with
   | true =>
    rw[z] at e
    cases e
    rw[beq_iff_eq] at z
    subst z
    exact⟨f,fd,_,FO.mono (LP _),m,F.kp,BD⟩
   | false =>
    rw[z] at e
    exact G2.fn x fi e
  ·have e:((d.name,d.fi)::tb.fns).lookup x=some fi:=e
   rw[Kq] at e
   cases z:x==d.name with
   | true =>
    rw[z] at e
    cases e
    rw[beq_iff_eq] at z
    subst z
    exact⟨f,fd,_,(Bc G F hs eh h).mono (LP _),m,F.kp,BD⟩
   | false =>
    rw[z] at e
    exact G2.fh x fi e eh
 ·rename_i c hc
  rw[hc] at m
  obtain⟨C,m1,m2,m3,m4⟩:=m
  split
  ·rename_i z
   rw[beq_iff_eq] at z
   refine⟨G2.fn,G2.cs,G2.bl,G2.ex,G2.kt,G2.em,G2.fl,λx fi e=>?_,G2.mt,G2.fh⟩
   have e:((c,d.fi)::tb.ini).lookup x=some fi:=e
   rw[Kq] at e
   cases y:x==c with
   | true =>
    rw[y] at e
    cases e
    rw[beq_iff_eq] at y
    subst y
    exact⟨C,f,fd,_,k+1,J1 _,FO,m1,m4 z,BD⟩
   | false =>
    rw[y] at e
    exact G2.im x fi e
  ·refine⟨G2.fn,G2.cs,G2.bl,G2.ex,G2.kt,G2.em,G2.fl,G2.im,λx y fi e=>?_,G2.fh⟩
   rcases J6.mp e with e|e
   ·cases e
    exact⟨C,f,fd,_,FO.mono (LP _),m1,m2,m3,BD⟩
   ·exact G2.mt x y fi e
theorem Gd.all:∀{ds:List DI}{tb:Tb}{k:Nat},Gd tb k P w K mg base->(∀d∈ds,∃f fd dV,gm K mg d f/\jr K d.name d.qual d.st f fd dV/\rX K dV d.df=true)->ds.all (λd=>dZ d&&oJ d)=true->qr tb ds=ds.map (λd=>some d.m)->Gd (kj tb ds) (k+2*ds.length) P w K mg base
 | [],tb,k,G,_,_,_=>G
 | d::ds,tb,k,G,hf,hs,ht=>by
  rw[Ki,JK,JK] at hs
  obtain⟨t1,t2⟩:=Lo ht
  obtain⟨f,fd,dV,m,F,hd⟩:=hf d JN
  have:=Gd.all (G.add m F hd hs.1.1 hs.1.2 t1) (λe he=>hf e (JQ _ he)) hs.2 t2
  rw[JZ,show k+2*(ds.length+1)=k+2+2*ds.length by omega]
  exact this
end
noncomputable abbrev wU:=Str×Str×Arguments×FuncBody×Scope×Addr×List (Str×Addr)×Addr×Bool
noncomputable def Fy(K:JH)(d:DI):Option Addr:=match d.cl with
 | none=>match gV K d.name with
  | some (.ref f)=>some f
  | _=>none
 | some c=>match gV K c with
  | some (.ref C)=>match KO K (.ref C) d.name with
   | some (some (.ref f))=>some f
   | _=>none
  | _=>none
noncomputable def clB(K:JH)(d:DI)(f:Addr):Bool:=match d.cl with
 | none=>true
 | some c=>match gV K c with
  | some (.ref C)=>lO K C&&Nu K (.ref f)&&(!(d.name==("__init__" : Str)) || (Oy K C&&Ks K (.ref C)))
  | _=>false
noncomputable def EL(K:JH)(d:DI):Option wU:=match Fy K d with
 | some f=>match K.lookup f with
  | some ⟨_,_,.func x,_⟩=>some (x.name,x.qualname,x.params,x.body,x.scope,x.globals,x.closure,x.builtins,LS K x.code d.qual&&Ks K (.ref f)&&rX K x.defaults d.df&&clB K d f)
  | _=>none
 | none=>none
noncomputable def DL(d:DI):Option wU:=some (d.name,d.qual,bQ d.st,.stmts (a7 d.st),ay d.st,mainGlobals,[],builtinsNs,true)
theorem yP{K:JH}{h:Heap}{mg:Str->Option Value}(X:K.In h)(G:h.Ns mainGlobals mg){d:DI}(e:EL K d=DL d):∃f fd dV,gm K mg d f/\jr K d.name d.qual d.st f fd dV/\rX K dV d.df=true:=by
 unfold EL DL at e
 split at e
 ·rename_i f ef
  split at e
  ·rename_i a1 a2 x a3 el
   obtain⟨b1,b2,b3,b4,b5,b6,b7,b8,b9,b10,b11,b12,b13,b14,b15⟩:=x
   simp only[Qu,Prod.mk.injEq] at e
   obtain⟨rfl,rfl,rfl,rfl,rfl,rfl,rfl,rfl,hb⟩:=e
   simp only[JK] at hb
   obtain⟨⟨⟨g1,g2⟩,g3⟩,g4⟩:=hb
   refine⟨f,_,_,?_,⟨⟨_,_,_,_,_,_,_,_,_,rfl,el,g1⟩,g2⟩,g3⟩
   unfold gm
   unfold Fy at ef
   unfold clB at g4
   split
   ·rename_i hc
    rw[hc] at ef
    simp only at ef
    split at ef
    ·rename_i f' ev;cases ef;exact gJ X G ev
    ·cases ef
   ·rename_i c hc
    rw[hc] at ef g4
    simp only at ef g4
    split at ef
    ·rename_i C ev
     rw[ev] at g4
     simp only[JK,KI,Kd,beq_eq_false_iff_ne] at g4
     split at ef
     ·rename_i f' ev2
      cases ef
      refine⟨C,gJ X G ev,jW g4.1.1,⟨ev2,g4.1.2,g2⟩,λz=>?_⟩
      rcases g4.2 with y|y
      ·exact absurd z y
      ·rw[z] at ev2
       exact⟨y.1,ev2,g4.1.2,y.2⟩
     ·cases ef
    ·cases ef
  ·cases e
 ·cases e
noncomputable def hkO(ds:List DI)(chk:JH->Bool)(K:JH):List (Option wU)×Bool:=(ds.map (EL K),chk K)
noncomputable def hkV(ds:List DI):List (Option wU)×Bool:=(ds.map DL,true)
noncomputable def hk(ds:List DI)(chk:JH->Bool):O5 where
 α:=List (Option wU)×Bool
 obs:=λs=>hkO ds chk (W.fG s.heap)
 val:=λ_=>hkV ds
 says:=λ_ h=>∃K:JH,hkO ds chk K=hkV ds/\K.In h
 of:=λ_ s e=>⟨W.fG s.heap,e,W.iV _⟩
 keeps:=λ_ _ _ ⟨K,e,i⟩ k=>⟨K,e,i.keeps k⟩
theorem zP{ds:List DI}{chk:JH->Bool}{K:JH}{h:Heap}{mg:Str->Option Value}(X:K.In h)(G:h.Ns mainGlobals mg)(e:hkO ds chk K=hkV ds):chk K=true/\∀d∈ds,∃f fd dV,gm K mg d f/\jr K d.name d.qual d.st f fd dV/\rX K dV d.df=true:=by
 obtain⟨e1,e2⟩:=Prod.mk.inj e
 exact⟨e2,λd hd=>yP X G (List.map_eq_map_iff.mp e1 d hd)⟩
theorem uS{l:OD}{q:Program}{loose:List Str}{XP:(Str->Option Value)->Heap->Prop}{d:DefRec}{x:Str}{tb:Tb}{ds:List DI}{di:DI}(hn:l.most=some 63)(hdf:d.params.defaults=[])(dn:d.name = "law")
  (hs:(ds++[di]).all (λd=>dZ d&&oJ d)=true)(ht:qr tb ds=ds.map (λd=>some d.m))(hl:g8 (trS (kj tb ds) (tr (kj tb ds) gK) gK di.sc) (a7 di.st)=some di.m)(hdi:di.name = "law")(hcl:di.cl=none)(hdd:di.df=[])(hx:di.N.take di.n=[x])(hr:bR (2+2*ds.length) callerA)
  (hm:∀ns:List Int,ns.length<=63->∃ρ,di.M [.fr (.lst (ns.map A.int))]=some (.rt (.fr (.bl true)),ρ)) :
  O0 q loose XP (hk (ds++[di]) (gdB tb)).says l.row.toRowW d [] (λf vs=>Om f vs):=by
 refine W.vA (l:=l) (n:=63) (k:=2+2*ds.length) (x:=x) (sp:=wz) hn (by decide) hdf hr (λw mg fa h Y G hfa=>?_) (λ_ _ a ns hl _ hS=>⟨a,ns,rfl,hS,hl,λ_=>rfl⟩)
 obtain⟨K,e,KX⟩:=Y
 obtain⟨e1,e2⟩:=zP KX G e
 refine⟨K,KX,?_⟩
 rw[O6,JK] at hs
 obtain⟨f,fd,dV,m1,F1,hdv⟩:=e2 di (JL _ JN)
 rw[hdd] at hdv
 have hdv:dV=.none:=by cases dV<;>first|rfl|cases hdv
 subst hdv
 unfold gm at m1
 rw[dn] at hfa
 rw[hcl] at m1
 simp only at m1
 rw[hdi,hfa] at m1
 cases m1
 have hsd:=Kw.mp hs.2 di JN
 rw[JK] at hsd
 have h1n:di.n=1:=by have:=(dE hsd.1).2;rw[hx] at this;exact this.symm
 refine⟨fd,λs u=>?_,λbase _ _=>?_⟩
 ·obtain⟨oc,od,kV,doc,pm,an,cdv,ct,osl,rfl,lk,hcd⟩:=F1.ex
  obtain⟨S,hl2⟩:=dE hsd.1
  have hp:=hsd.2
  unfold oJ at hp
  simp only[JK,KN,Nl,beq_iff_eq] at hp
  obtain⟨⟨⟨⟨h1,h2⟩,h3⟩,h4⟩,h5⟩:=hp
  have:=mK (fd:=Lc di.name di.qual (bQ di.st) (a7 di.st) (ay di.st) .none kV doc pm an cdv ct) (us:=[u]) h1 h2 h3 h4 rfl h5 (S.nd.sublist (MR _ _)) (by rw[hx];rfl)
  rw[hx] at this
  exact .of_eq this
 ·have G1:=Gd.all (CL (P:=l.prog) (w:=w) (base:=base) KX G e1) (λd hd=>e2 d (Ka _ hd)) hs.1 ht
  have FF:=A0 G1 F1 hsd.1 hl
  rw[hx,h1n,show 1+2*ds.length+1=2+2*ds.length by omega] at FF
  exact BL FF hm
end M
set_option maxHeartbeats 4000000
namespace W
open PySem L2 M
noncomputable def top(i:Nat):Stmt:=PySem.Challenge.pw_fitwhatever_k71_numbers_as_texts.main.body.getD i (.Pass ⟨0,0,0,0⟩)
noncomputable def cX:Ms:=aF (aJ 2 (mC (.int 0))) (aF (sIf (ai (mOp fLt (ag 1) (mB1 eB (ag 0)))) (aJ 2 (mOp (fOr fIx aE) (ag 0) (ag 1))) aR) (a5 (fJ (ae (mB1 rR (mOp fGe (mB1 ui (ag 2)) (mOp gY (mC (.int 10)) (mC (.int 18))))) (ae (ag 2) (ae (mOp dw (mC (.int 17)) (ag 1)) az))))))
noncomputable def bL:Ms:=cb 1 cX
noncomputable def eU:Ms:=aF (sIf (ai (mOp fEq (mOp (fOr fIx aE) (ag 0) (mC (.int 0))) (mC (.int 1)))) (aF (aJ 2 (mOp iw (mOp (fOr fIx aE) (ag 0) (mC (.int 1))) (ag 1))) (aF (gR 0 (mC (.int 1)) (mOp nV (mOp (fOr fIx aE) (ag 0) (mC (.int 1))) (ag 1))) (a5 (ag 2)))) aR) (aF (aJ 3 (mOp aC (mOp (fOr fIx aE) (ag 0) (mC (.int 2))) (mC (.int 1)))) (aF (gR 0 (mC (.int 2)) (ag 3)) (aF (aJ 4 (mOp iw (mOp dw (mOp aC (mOp aC (mOp (fOr fIx aE) (ag 0) (mC (.int 1))) (mOp dw (mOp dw (mC (.int 7919)) (ag 3)) (ag 3))) (ag 3)) (mC (.int 48271))) (mC (.int 2305843009213693951)))) (a5 (mOp iw (mOp nV (mOp iw (mOp aC (mOp dw (ag 4) (mC (.int 1442695040888963407))) (mC (.int 4321))) (mC (.int 2305843009213693921))) (mC (.int 64))) (ag 1))))))
noncomputable def aw:Ms:=cb 3 eU
noncomputable def dh:Ms:=aF (jl BIG (ai (mOp fNe (ag 1) (mC (.int 0)))) (sv 0 1 (ae (ag 1) (ae (mOp iw (ag 0) (ag 1)) az)))) (a5 (mB1 ui (ag 0)))
noncomputable def dj:Ms:=cb 0 dh
noncomputable def gf:Ms:=aF (aJ 2 (av dj [] (ae (aM 0) (ae (aM 1) az)))) (a5 (g9 (ae (mOp nV (ag 0) (ag 2)) (ae (mOp nV (ag 1) (ag 2)) az))))
noncomputable def cI:Ms:=cb 1 gf
noncomputable def cw:Ms:=aF (sIf (ai (mOp fEq (av aw [] (ae (ag 0) (ae (mC (.int 2)) az))) (mC (.int 0)))) (a5 (g9 (ae (mOp jg (av aw [] (ae (ag 0) (ae (mC (.int 9)) az))) (mC (.int 4))) (ae (mC (.int 1)) az)))) aR) (a5 (av cI [] (ae (mOp jg (av aw [] (ae (ag 0) (ae (mC (.int 201)) az))) (mC (.int 100))) (ae (mFz (mOp aC (mC (.int 1)) (av aw [] (ae (ag 0) (ae (mC (.int 6)) az))))) az))))
noncomputable def bP:Ms:=cb 0 cw
noncomputable def bA:Ms:=aF (aJ 1 (av aw [] (ae (ag 0) (ae (mC (.int 8)) az)))) (aF (sIf (ai (mOp fEq (ag 1) (mC (.int 7)))) (a5 (g9 (ae (mOp jg (av aw [] (ae (ag 0) (ae (mFz (mOp aC (mOp dw (mC (.int 2)) (mOp gY (mC (.int 10)) (mC (.int 17)))) (mC (.int 1)))) az))) (mOp gY (mC (.int 10)) (mC (.int 17)))) (ae (mC (.int 1)) az)))) aR) (aF (sIf (ai (mOp fEq (ag 1) (mC (.int 6)))) (a5 (av cI [] (ae (mOp jg (av aw [] (ae (ag 0) (ae (mFz (mOp aC (mOp dw (mC (.int 2)) (mOp gY (mC (.int 10)) (mC (.int 8)))) (mC (.int 1)))) az))) (mOp gY (mC (.int 10)) (mC (.int 8)))) (ae (mFz (mOp aC (mC (.int 1)) (av aw [] (ae (ag 0) (ae (mOp gY (mC (.int 10)) (mC (.int 8))) az))))) az)))) aR) (a5 (av bP [] (ae (ag 0) az)))))
noncomputable def bg:Ms:=cb 1 bA
noncomputable def dS:Ms:=aF (sIf (ai (mOp fEq (av aw [] (ae (ag 0) (ae (mC (.int 4)) az))) (mC (.int 3)))) (a5 (av cI [] (ae (mFz (mOp aC (mOp jg (av aw [] (ae (ag 0) (ae (mOp jg (mOp dw (mC (.int 2)) (mOp gY (mC (.int 10)) (mC (.int 18)))) (mC (.int 1))) az))) (mOp gY (mC (.int 10)) (mC (.int 18)))) (mC (.int 1)))) (ae (mFz (mOp aC (mC (.int 1)) (av aw [] (ae (ag 0) (ae (mOp jg (mOp gY (mC (.int 10)) (mC (.int 18))) (mC (.int 1))) az))))) az)))) aR) (a5 (av bg [] (ae (ag 0) az)))
noncomputable def bX:Ms:=cb 0 dS
noncomputable def cF:Ms:=aF (aJ 1 (mOp (fOr fIx aE) (ag 0) (mC (.int 0)))) (aF (aJ 2 (mOp (fOr fIx aE) (ag 0) (mC (.int 1)))) (a5 (mIf (ai (mOp fEq (ag 2) (mC (.int 1)))) (nB (ag 1)) (mJs (mJ (nB (ag 1)) (mJ (mC (.str "/")) (mJ (nB (ag 2)) (cV []))))))))
noncomputable def aT:Ms:=cb 2 cF
noncomputable def bB:Ms:=aF (sIf (mOr (dg (ai (mB1 (cQ Ty.str) (ag 0)))) (dg (ai (cW cLe cLe (mC (.int 1)) (mB1 eB (ag 0)) (ag 2))))) (a5 (mC (.bl false))) aR) (a5 (mB1 (mz λbs=>List.all bs id) (ik 1 (nO (ag 0)) (cP 3) eF (mOp (fOr (fOr (gD false) (dk false)) (i6 false)) (ag 3) (ag 1)))))
noncomputable def bC:Ms:=cb 0 bB
noncomputable def dW:Ms:=aF (sIf (mOr (dg (ai (av bC [] (ae (aM 0) (ae (mC (.str "0123456789")) (ae (mC (.int 18)) az)))))) (lM (ai (mS1 cy (ag 0) (mC (.str "0")))) (ai (mOp fNe (ag 0) (mC (.str "0")))))) (cN "NoNumber" (ae (mC (.str "a number has one to eighteen figures, no 0 ahead")) az)) aR) (a5 (mB1 ku (ag 0)))
noncomputable def bF:Ms:=cb 0 dW
noncomputable def bW:Ms:=aF (jl BIG (ai (mOp fNe (ag 1) (mC (.int 0)))) (aF (aJ 2 (mOp iw (ag 0) (ag 1))) (aF (aJ 0 (ag 1)) (aJ 1 (ag 2))))) (a5 (ag 0))
noncomputable def bw:Ms:=cb 1 bW
noncomputable def eS:Ms:=aF (sIf (dg (ai (mB1 (cQ Ty.str) (ag 0)))) (cN "NoNumber" (ae (mC (.str "a number is told by a text")) az)) aR) (aF (aJ 1 (mS1 cy (ag 0) (mC (.str "-")))) (aF (aJ 2 (mIf (ai (ag 1)) (mS1 dr (mSl (ag 0) (kF (mC (.int 1))) gG) (mC (.str "/"))) (mS1 dr (ag 0) (mC (.str "/"))))) (aF (aJ 3 (dI 1 (nO (ag 2)) (cP 5) eF (av bF [] (ae (aM 5) az)))) (aF (sIf (mOr (ai (mOp fGt (mB1 eB (ag 3)) (mC (.int 2)))) (lM (ai (ag 1)) (ai (mOp fEq (mOp (fOr fIx aE) (ag 3) (mC (.int 0))) (mC (.int 0)))))) (cN "NoNumber" (ae (mC (.str "a number has one bottom at most, and 0 no sign")) az)) aR) (aF (aJ 4 (mIf (ai (mOp fEq (mB1 eB (ag 3)) (mC (.int 2)))) (mOp (fOr fIx aE) (ag 3) (mC (.int 1))) (mC (.int 1)))) (aF (sIf (lM (ai (mOp fEq (mB1 eB (ag 3)) (mC (.int 2)))) (mOr (ai (mOp fLt (ag 4) (mC (.int 2)))) (ai (mOp fNe (av bw [] (ae (mOp (fOr fIx aE) (ag 3) (mC (.int 0))) (ae (aM 4) az))) (mC (.int 1)))))) (cN "NoNumber" (ae (mC (.str "a number is in lowest terms, a bottom 1 isn't written")) az)) aR) (a5 (g9 (ae (mIf (ai (ag 1)) (mUn oV (mOp (fOr fIx aE) (ag 3) (mC (.int 0)))) (mOp (fOr fIx aE) (ag 3) (mC (.int 0)))) (ae (ag 4) az))))))))))
noncomputable def au:Ms:=cb 4 eS
noncomputable def cZ:Ms:=aF (aJ 3 (mOp aC (mC (.int 2)) (av aw [] (ae (ag 2) (ae (mC (.int 9)) az))))) (aF (aJ 4 (mB1 ix (mOp dw (mOp (fOr fIx aE) (ag 0) (mC (.int 0))) (ag 3)))) (aF (aJ 5 (fJ (ae (mOp aC (mC (.str "0")) (ag 1)) (ae (mOp aC (mC (.str " ")) (ag 1)) (ae (mOp aC (ag 1) (mC (.str " "))) (ae (mOp aC (mC (.str "+")) (ag 1)) (ae (mOp aC (ag 1) (mC (.str "/1"))) (ae (mOp aC (ag 1) (mC (.str "/"))) (ae (mOp aC (mC (.str "/")) (ag 1)) (ae (mOp aC (ag 1) (mC (.str ".0"))) az)))))))))) (aF (aJ 5 (mOp aC (ag 5) (fJ (ae (mOp aC (mC (.str "-")) (mOp (fOr fIx aE) (fJ (ae (mC (.str "0")) (ae (ag 1) az))) (mB1 rR (mOp fLt (mOp (fOr fIx aE) (ag 0) (mC (.int 0))) (mC (.int 0)))))) (ae (mOp aC (mOp aC (ag 4) (mC (.str "/"))) (mB1 ix (mOp dw (mOp (fOr fIx aE) (ag 0) (mC (.int 1))) (ag 3)))) (ae (mC (.str "00")) (ae (mC (.str "-0/7")) (ae (mC (.str "0/3")) az)))))))) (a5 (mOp aC (ag 5) (fJ (ae (mOp dw (mC (.str "1")) (mC (.int 19))) (ae (mOp aC (mC (.str "-")) (mOp dw (mC (.str "1")) (mC (.int 19)))) (ae (mOp aC (mC (.str "1/")) (mOp dw (mC (.str "7")) (mC (.int 19)))) (ae (mC (.str "1/0")) (ae (mC (.str "")) (ae (mC (.str "-")) (ae (mOp aC (ag 1) (mC (.str "\n"))) az)))))))))))))
noncomputable def c0:Ms:=cb 3 cZ
noncomputable def dO:Ms:=aF (sIf (ai (mOp fEq (mOp (fOr fIx aE) (ag 0) (mC (.int 1))) (mC (.int 1)))) (a5 (mB1 ix (mOp (fOr fIx aE) (ag 0) (mC (.int 0))))) aR) (a5 (mOp aC (mOp aC (mB1 ix (mOp (fOr fIx aE) (ag 0) (mC (.int 0)))) (mC (.str "/"))) (mB1 ix (mOp (fOr fIx aE) (ag 0) (mC (.int 1))))))
noncomputable def bN:Ms:=cb 0 dO
noncomputable def cD:Ms:=aF (aJ 1 (fJ az)) (aF (wC 2 (Dz ["NoNumber"]) (jo (av au [] (cB (ae (aM 0) az)))) (aF (aJ 3 (mB1 (dC (eQ [[("NoNumber",false)],[("NoNumber",false)],[("NoNumber",false)],[("NoNumber",false)],[("NoNumber",false)],[("NoNumber",false)],[("NoNumber",false)],[("NoNumber",false)],[("NoNumber",false)]])) (ag 2))) (aF (aJ 3 (uM (ag 3) (mB1 (dC (eQ [[("NoNumber",false)],[("NoNumber",false)],[("NoNumber",false)],[("NoNumber",false)]])) (ag 2)))) (aJ 1 (fJ (ae (mB1 (dC (Ag [("NoNumber",true)])) (ag 2)) (ae (mB1 (dC (Ag [("NoNumber",true)])) (ag 2)) (ae (ag 3) az)))))))) (a5 (mOp fEq (ag 1) (fJ (ae (mC (.bl true)) (ae (mC (.bl true)) (ae (mC (.bl false)) az)))))))
noncomputable def bu:Ms:=cb 3 cD
noncomputable def rg:Ms:=aF (iQ (eE (mB2 sP (mC (.int 1)) (mB2 sx (mB1 eB (ag 0)) (mC (.int 60))))) (cP 1) (aF (aJ 2 (av bL [] (ae (aM 0) (ae (aM 1) az)))) (aF (aJ 3 (av bX [] (ae (ag 2) az))) (aF (aJ 4 (av aT [] (ae (aM 3) az))) (aF (sIf (mOr (dg (ai (mB1 (cQ Ty.str) (ag 4)))) (ai (mOp fNe (ag 4) (av bN [] (ae (aM 3) az))))) (a5 (mC (.bl false))) aR) (aF (aJ 5 (av au [] (ae (aM 4) az))) (aF (sIf (mOr (dg (ai (mB1 (cQ Ty.tuple) (ag 5)))) (mOr (ai (mOp fNe (ag 5) (ag 3))) (dg (ai (mB1 (cQ Ty.int) (mOp (fOr fIx aE) (ag 5) (mC (.int 0)))))))) (a5 (mC (.bl false))) aR) (aF (sIf (mOr (ai (mB1 (cQ Ty.bool) (mOp (fOr fIx aE) (ag 5) (mC (.int 0))))) (ai (mB1 (cQ Ty.bool) (mOp (fOr fIx aE) (ag 5) (mC (.int 1)))))) (a5 (mC (.bl false))) aR) (aF (aJ 6 (av c0 [] (ae (aM 3) (ae (aM 4) (ae (ag 2) az))))) (iQ (eE (mC (.int 4))) (cP 7) (sIf (dg (ai (av bu [] (ae (mOp (fOr fIx aE) (ag 6) (av aw [] (ae (ag 2) (ae (mB1 eB (ag 6)) az)))) az)))) (a5 (mC (.bl false))) aR))))))))))) (a5 (kr (mOp fEq (av au [] (ae (mC (.str "0")) az)) (g9 (ae (mC (.int 0)) (ae (mC (.int 1)) az)))) (mOp fEq (av aT [] (ae (g9 (ae (mUn oV (mC (.int 7))) (ae (mC (.int 2)) az))) az)) (mC (.str "-7/2")))))
noncomputable def HW:Ms:=cb 7 rg
noncomputable def tb0:Tb:={ fns:=[],cst:=[("FIGURES",(.str "0123456789")),("MOST_FIGURES",(.int 18))],exs:=["NoNumber"],kit:=[("NoBins",[("NoNumber",false)]),("NoDealing",[("NoNumber",false)]),("NoFace",[("NoNumber",false)]),("NoFit",[("NoNumber",false)]),("NoJoint",[("NoNumber",false)]),("NoMaking",[("NoNumber",false)]),("NoPart",[("NoNumber",false)]),("NoProgram",[("NoNumber",false)]),("NoRow",[("NoNumber",false)]),("NoSheet",[("NoNumber",false)]),("NoSize",[("NoNumber",false)]),("NoSum",[("NoNumber",false)]),("TooMany",[("NoNumber",false)]),("FitError",[("NoNumber",true)]),("ValueError",[("NoNumber",true)])],exm:=[("NoNumber",["NoNumber"])],fld:=[],ini:=[],mts:=[] }
noncomputable def dsL:List DI:=[
 ⟨none, "_law_well",top 27,["_law_script", "_law_k", "_law_cell"],2,[],[false,false],[],[],cX,[],false⟩,
 ⟨none, "_law_take",top 28,["_law_well_here", "_law_many", "_law_digit", "_law_turn", "_law_number_here"],2,[],[true,false],[],[],eU,[],false⟩,
 ⟨none, "_law_common",top 29,["_law_one", "_law_other"],2,[],[false,false],[],[],dh,[],false⟩,
 ⟨none, "_law_num",top 30,["_law_top", "_law_bottom", "_law_by"],2,[],[false,false],[],[],gf,[],false⟩,
 ⟨none, "_law_small",top 32,["_law_well_here"],1,[],[true],[],[],cw,[],false⟩,
 ⟨none, "_law_number",top 33,["_law_well_here", "_law_way"],1,[],[true],[],[],bA,[],false⟩,
 ⟨none, "_law_any",top 36,["_law_well_here"],1,[],[true],[],[],dS,[],false⟩,
 ⟨none, "shown_number",top 23,["number", "top", "bottom"],1,[],[false],[],[],cF,[],true⟩,
 ⟨none, "is_written_in",top 19,["text", "signs", "most"],3,[],[false,false,false],[],[],bB,[],false⟩,
 ⟨none, "whole_in",top 25,["text"],1,[],[false],[],[],dW,[],true⟩,
 ⟨none, "common_divisor",top 17,["a", "b", "rest"],2,[],[false,false],[],[],bW,[],false⟩,
 ⟨none, "number_in",top 24,["text", "below", "words", "wholes", "bottom"],1,[],[false],[],[],eS,[],true⟩,
 ⟨none, "_law_bent",top 37,["_law_number_here", "_law_text", "_law_well_here", "_law_more", "_law_top", "_law_some"],3,[],[false,false,true],[],[],cZ,[],false⟩,
 ⟨none, "_law_shown",top 34,["_law_number_here"],1,[],[false],[],[],dO,[],false⟩,
 ⟨none, "_law_refused",top 35,["_law_text", "_law_told", "e", "_law_others"],1,[],[false],[],[],cD,[],false⟩]
noncomputable def mx:DI:=⟨none, "law",top 38,["_law_script", "_law_k", "_law_well_here", "_law_number_here", "_law_text", "_law_found", "_law_bent_here", "_law_turn"],1,[],[false],[],[],rg,[],false⟩
end W
set_option maxHeartbeats 1000000
set_option exponentiation.threshold 100000
namespace W
open PySem L2 M
theorem gP{α:Type}(x:α)(xs:List α):atI (x::xs) 0=some x:=by
 unfold atI L2.ixN
 rw[if_pos (by decide),if_pos (by simp only[JZ];omega)]
 rfl
theorem jh{α:Type}(x y:α)(xs:List α):atI (x::y::xs) 1=some y:=by
 unfold atI L2.ixN
 rw[if_pos (by decide),if_pos (by simp only[JZ];omega)]
 rfl
theorem FJ{α:Type}(x y z:α)(xs:List α):atI (x::y::z::xs) 2=some z:=by
 unfold atI L2.ixN
 rw[if_pos (by decide),if_pos (by simp only[JZ];omega)]
 rfl
local macro_rules | `(tactic| walk_at "evh")=>do
 let xs:=("M.Du M.xJ M.Ed M.F4 M.Bj M.e_C M.Jv M.IM M.Jj M.II M.EV M.zJ M.FE M.Je M.GF M.BJ M.F8 M.Cd M.Jg M.FC M.Bk M.HA M.Fd M.Co M.cT M.Dd M.HQ M.Gv M.CN M.CQ M.Ij M.uI M.AJ M.z3 M.D8 M.DO M.CG M.oH M.GW M.Gu M.yY M.Bz M.yJ M.IU M.Jo M.uQ M.DY M.e_J M.IE M.IH M.Iv M.fzK M.opK M.unK M.xg M.asB M.tupK M.lstK M.Ie M.HC M.GI M.AU M.IZ M.Gw M.Fo M.ixK M.dK M.GZ M.Hg M.s1K M.slK M.A5 M.res M.Sl.a M.LO.a M.cO M.aQ M.stT M.Gm M.FD M.HE M.Fz M.yT M.fOr M.gOr M.fIx M.aE M.yu M.zi M.nj M.El M.xZ M.qw M.Ds M.Cy M.Bs M.GP M.HI M.FZ M.G8 M.fEq M.fNe M.fIs M.oV M.eB M.ui M.BX M.Cq M.rR M.u4 M.oo M.xy M.cP M.ur M.kS M.pP M.qb M.yk M.Ao M.aH M.setAt M.isL M.yL M.fK M.lK M.jD NM List.getElem?_cons_succ OA OB Lv Ku Km List.replicate_succ List.replicate_zero JU J7 JZ KZ Nat.reduceAdd Nat.reduceLeDiff Nat.reduceEqDiff Nat.reduceLT if_true if_false ite_true ite_false Bool.not_true Bool.not_false LZ Lx MH gP jh FJ decide_true decide_false J1 K7 M.Jp M.CH M.Fs M.Cf M.GU M.Ck M.cQ M.Bm M.dC M.opI M.opS M.xX M.aC M.IS M.dw M.DK M.Ar M.zT M.chK M.Hf M.cLe M.cLt M.mz M.Bm M.p0 M.Jb M.Ju M.Jx M.Ff M.GB".splitOn " ").toArray.map (Lean.mkIdent ·.toName)
 `(tactic| simp only[$[$xs:ident],*, *])
noncomputable abbrev Lz(z:Str):List Nat:=z.cps.toList
theorem qf{x y:Str}(h:Lz x=Lz y):x=y:=Str.ext' (M0.mp h)
noncomputable def dgN(m:Nat):List Nat:=(Nat.toDigits 10 m).map Char.toNat
noncomputable def txI(a:Int):Str:=J4 (toString a)
theorem CM(m:Nat):Lz (txI (m:Int))=dgN m:=Qv m
theorem Cz(m:Nat):Lz (txI (Qj m))=45::dgN (m+1):=by
 have e:toString (Qj m) = "-" ++ Nat.repr (m+1):=rfl
 unfold txI Lz
 rw[Qk,e,String.toList_append,KD,Nat.toList_repr]
 rfl
theorem kK(m:Nat):∀c∈dgN m,48<=c/\c<=57:=λc hc=>by
 obtain⟨ch,hch,e⟩:=Mr.mp hc
 rw[<- e]
 exact Ql (Nat.isDigit_of_mem_toDigits (by decide) (by decide) hch)
theorem pM(m:Nat):dgN m≠[]:=λe=>by
 have h:=PySem.toDigits_len_ge 10 m
 unfold dgN at e
 rw[List.map_eq_nil_iff.mp e] at h
 exact absurd h (by decide)
theorem D1(m:Nat):K5 (dgN m)=m:=Qw m
theorem iM{m:Nat}(h:10<=m):dgN m=dgN (m / 10)++[(MM (m%10)).toNat]:=by
 unfold dgN
 rw[Nat.toDigits_of_base_le (by decide) h,KD]
 rfl
theorem i7{m:Nat}(h:m<10):dgN m=[(MM m).toNat]:=by
 unfold dgN
 rw[Nat.toDigits_of_lt_base h]
 rfl
theorem qt:∀(n m:Nat),m<=n->m≠0->∃c r,dgN m=c::r/\c≠48
 | 0,m,h,h0=>absurd (Nat.le_zero.mp h) h0
 | n+1,m,h,h0=>by
  by_cases hm:m<10
  ·refine⟨_,[],i7 hm,?_⟩
   have:∀d,d<10->d≠0->(MM d).toNat≠48:=by decide
   exact this m hm h0
  ·obtain⟨c,r,e,hc⟩:=qt n (m / 10) (by omega) (by omega)
   exact⟨c,r++[(MM (m%10)).toNat],by rw[iM (by omega),e];rfl,hc⟩
theorem G9:dgN 0=[48]:=by decide
theorem je:∀(k m:Nat),m<10^(k+1)->(dgN m).length<=k+1
 | 0,m,h=>by rw[i7 (by omega)];exact J1 _
 | k+1,m,h=>by
  by_cases hm:m<10
  ·rw[i7 hm];simp
  ·rw[iM (by omega),Kg]
   have:=je k (m / 10) (by rw[N5] at h;omega)
   simp only[JZ,KZ]
   omega
noncomputable def jn(c:Nat):List (List Nat)->List Nat
 | []=>[]
 | [p]=>p
 | p::q::r=>p++c::jn c (q::r)
theorem mF{c:Nat}:∀{p q x y:List Nat},c∉p->c∉q->p++c::x=q++c::y->p=q/\x=y
 | [],[],_,_,_,_,h=>⟨rfl,(Lo h).2⟩
 | [],b::q,_,_,_,hq,h=>absurd (by rw[(Lo h).1];exact JN) hq
 | a::p,[],_,_,hp,_,h=>absurd (by rw[<- (Lo h).1];exact JN) hp
 | a::p,b::q,x,y,hp,hq,h=>by
  obtain⟨e1,e2⟩:=Lo h
  obtain⟨e3,e4⟩:=mF (λz=>hp (JQ _ z)) (λz=>hq (JQ _ z)) e2
  exact⟨by rw[e1,e3],e4⟩
theorem v9{c:Nat}{p q x:List Nat}(hp:c∉p)(h:p=q++c::x):False:=hp (by rw[h];exact JL _ JN)
theorem qh{c:Nat}:∀{ps qs:List (List Nat)},ps≠[]->qs≠[]->(∀p∈ps,c∉p)->(∀q∈qs,c∉q)->jn c ps=jn c qs->ps=qs
 | [],_,h,_,_,_,_=>absurd rfl h
 | _,[],_,h,_,_,_=>absurd rfl h
 | [p],[q],_,_,_,_,h=>by rw[show p=q from h]
 | [p],q::q2::qs,_,_,hp,_,h=>(v9 (hp p JN) h).elim
 | p::p2::ps,[q],_,_,_,hq,h=>(v9 (hq q JN) h.symm).elim
 | p::p2::ps,q::q2::qs,_,_,hp,hq,h=>by
  obtain⟨e1,e2⟩:=mF (hp p JN) (hq q JN) h
  rw[e1,qh (O1 _ _) (O1 _ _) (λx hx=>hp x (JQ _ hx)) (λx hx=>hq x (JQ _ hx)) e2]
theorem wW(c:Nat):∀(ps:List Str),ps≠[]->Lz (NF ⟨#[c]⟩ ps)=jn c (ps.map Lz):=by
 intro ps h
 cases ps with
 | nil=>exact absurd rfl h
 | cons p ps =>
  have key:∀(qs:List Str)(acc:Array Nat),(qs.foldl (λacc p=>acc++(⟨#[c]⟩:Str).cps++p.cps) acc).toList=jn c (acc.toList::qs.map Lz):=by
   intro qs
   induction qs with
   | nil=>intro acc;rfl
   | cons q qs ih =>
    intro acc
    rw[O7,ih]
    simp only[Oj,JU]
    cases qs with
    | nil=>simp[jn]
    | cons q2 qs=>simp[jn]
  exact key ps p.cps
theorem w5{x:Str}{ps:List Str}(hne:ps≠[])(hf:∀p∈ps,(47:Nat)∉Lz p)(hj:Lz x=jn 47 (ps.map Lz)):aW x ⟨#[47]⟩=ps:=by
 have e0:aW x ⟨#[47]⟩=NW x ⟨#[47]⟩:=rfl
 have h1:=StrLaws.join_split x ⟨#[47]⟩
 have h2:=StrLaws.split_free x 47
 have h3:NW x ⟨#[47]⟩≠[]:=λz=>by have:=Qm x ⟨#[47]⟩;rw[z] at this;exact absurd this (by decide)
 have h4:Lz x=jn 47 ((NW x ⟨#[47]⟩).map Lz):=by rw[<- wW 47 _ h3,StrLaws.glued_eq_join];exact(congrArg Lz h1).symm
 rw[e0]
 have h5:=qh (c:=47) (by simpa using h3) (by simpa using hne) (by simpa using h2) (by simpa using hf) (h4.symm.trans hj)
 have inj:∀{as bs:List Str},as.map Lz=bs.map Lz->as=bs:=by
  intro as
  induction as with
  | nil=>intro bs h;cases bs with
   | nil=>rfl
   | cons _ _=>cases h
  | cons a as ih=>intro bs h;cases bs with
   | nil=>cases h
   | cons b bs =>
    obtain⟨e1,e2⟩:=Lo h
    rw[qf e1,ih e2]
 exact inj h5
theorem xf{i:Nat}{ρ0:List Sl}{x:Sl}{t:Sl}(hi:ρ0.length=i)(hx:∀o,x≠Sl.pv o):put i t (ρ0++[x])=some (ρ0++[t]):=by
 subst hi
 unfold put
 rw[KA (J1 _),PH]
 simp only[NM]
 have e:(ρ0++[x]).set ρ0.length t=ρ0++[t]:=by rw[Oa _ _ (J1 _),PH];rfl
 cases x with
 | pv o=>exact absurd rfl (hx o)
 | un=>simp only[e]
 | fr a=>simp only[e]
 | lv o=>simp only[e]
theorem comp_map{i:Nat}{e:Mi Rr}{as:List A}{ρ0:List Sl}(g:A->A)(hi:ρ0.length=i)(hl:as.length<=100000)(h:∀a∈as,∃r,e (ρ0++[.fr a])=some (.ok r,ρ0++[.fr a])/\aQ r (ρ0++[.fr a])=some (g a,ρ0++[.fr a])) :
  vI 1 (cP i) eF e as ρ0=some (.ok (.nw (.lst (as.map g))),ρ0):=by
 have key:∀(bs acc:List A)(x:Sl),(∀a∈bs,a∈as)->(∀o,x≠Sl.pv o)->∃y,d9 (cP i) eF e bs acc (ρ0++[x])=some (acc++bs.map g,ρ0++[y]):=by
  intro bs
  induction bs with
  | nil=>intro acc x _ _;exact⟨x,by rw[d9,J7,Km]⟩
  | cons b bs ih =>
   intro acc x hm hx
   obtain⟨r,h1,h2⟩:=h b (hm b JN)
   obtain⟨y,h3⟩:=ih (acc++[g b]) (.fr b) (λa ha=>hm a (JQ _ ha)) (λo z=>by cases z)
   refine⟨y,?_⟩
   rw[d9]
   simp only[cP,xf hi hx,oH,h1,h2,h3,JU,JY,Lv,Ku]
 obtain⟨y,h3⟩:=key as [] .un (λa ha=>ha) (λo z=>by cases z)
 unfold vI
 rw[if_pos hl]
 have e1:J8 1 Sl.un=[.un]:=rfl
 rw[e1,h3]
 simp
noncomputable def FIG:Str := "0123456789"
theorem pJ:FIG.cps=#[48,49,50,51,52,53,54,55,56,57]:=by decide +kernel
theorem yg:∀c∈FIG.cps.toList,eN ⟨#[c]⟩ FIG=true:=by decide +kernel
theorem Di{c:Nat}(h:¬ (48<=c/\c<=57)):eN ⟨#[c]⟩ FIG=false:=by
 unfold eN
 obtain⟨f,hch⟩:=StrLaws.occ_chain FIG ⟨#[c]⟩ 1
 cases e:Kn FIG ⟨#[c]⟩ 0 FIG.length 1 with
 | nil=>rfl
 | cons i r =>
  rw[e] at hch
  obtain⟨_,hat,_⟩:=hch
  exfalso
  have h1:i+1<=10:=hat.1
  have h2:(FIG.cps.extract i (i+1)==#[c])=true:=hat.2
  rw[pJ] at h2
  rw[beq_iff_eq] at h2
  have h3:=congrArg (λa:Array Nat=>a.toList) h2
  have h4:(NI i [48,49,50,51,52,53,54,55,56,57]).take 1=[c]:=by simpa using h3
  have:∀j,j<10->∀c,(NI j [48,49,50,51,52,53,54,55,56,57]).take 1=[c]->48<=c/\c<=57:=by
   intro j hj
   have:j=0\/j=1\/j=2\/j=3\/j=4\/j=5\/j=6\/j=7\/j=8\/j=9:=by omega
   rcases this with rfl|rfl|rfl|rfl|rfl|rfl|rfl|rfl|rfl|rfl<;>(intro c hc;cases hc;decide)
  exact h (this i (by omega) c h4)
noncomputable def isF(c:Nat):Bool:=decide (48<=c/\c<=57)
theorem By(c:Nat):eN ⟨#[c]⟩ FIG=isF c:=by
 unfold isF
 by_cases h:48<=c/\c<=57
 ·rw[decide_eq_true h]
  refine yg c ?_
  rw[pJ]
  have:c=48\/c=49\/c=50\/c=51\/c=52\/c=53\/c=54\/c=55\/c=56\/c=57:=by omega
  simpa using this
 ·rw[decide_eq_false h];exact Di h
noncomputable def wrB(z:Str):Bool:=decide (1<=z.length/\z.length<=18)&&(Lz z).all isF
theorem kJ{α:Type}(f:α->Bool):∀l:List α,eO (l.map λx=>A.bl (f x))=some (l.map f)
 | []=>rfl
 | x::l=>by rw[JU,eO,kJ f l];rfl
theorem ie{z:Str}(hz:z.length<=10000):Val bC [.str z,.str FIG,.int 18] (.bl (wrB z)):=by
 have l1:(z.length<=100000)=True:=by simp only[eq_iff_iff,iff_true];omega
 by_cases h:1<=z.length/\z.length<=18
 ·have d1:decide ((1:Int)<=(z.length:Int))=true:=decide_eq_true (by omega)
  have d2:decide ((z.length:Int)<=18)=true:=decide_eq_true (by omega)
  have ew:wrB z=(Lz z).all isF:=by unfold wrB;rw[decide_eq_true h,Lx]
  rw[ew]
  have k:=comp_map (i:=3) (e:=mOp (fOr (fOr (gD false) (dk false)) (i6 false)) (ag 3) (ag 1)) (as:=mQ z) (ρ0:=[.fr (.str z),.fr (.str FIG),.fr (.int 18)])
   (λa=>match a with | .str y=>.bl (eN y FIG)|_=>.non) rfl (by simp[mQ];have:=h.2;unfold Nv at this;omega) (by
   intro a ha
   obtain⟨c,hc,rfl⟩:=Mr.mp ha
   have e1:gD false (.str ⟨#[c]⟩) (.str FIG)=none:=rfl
   have e2:dk false (.str ⟨#[c]⟩) (.str FIG)=none:=rfl
   have e3:i6 false (.str ⟨#[c]⟩) (.str FIG)=some (.fr (.bl (eN ⟨#[c]⟩ FIG))):=rfl
   refine⟨.fr (.bl (eN ⟨#[c]⟩ FIG)),?_,rfl⟩
   walk_at "evh")
  have e4:(mQ z).map (λa=>match a with | .str y=>A.bl (eN y FIG)|_=>.non)=(Lz z).map λc=>A.bl (isF c):=by
   unfold mQ
   rw[MV]
   refine Ou λc _=>?_
   show A.bl (eN ⟨#[c]⟩ FIG)=_
   rw[By]
  rw[e4] at k
  have e5:=kJ isF (Lz z)
  have e6:((Lz z).map isF).all id=(Lz z).all isF:=by rw[NR];rfl
  unfold Val bC bB
  clear e4 hz
  walk_at "evh"
  exact⟨_,rfl⟩
 ·have ew:wrB z=false:=by unfold wrB;rw[decide_eq_false h,Ll]
  rw[ew]
  unfold Val bC bB
  by_cases h1:1<=z.length
  ·have d1:decide ((1:Int)<=(z.length:Int))=true:=decide_eq_true (by omega)
   have d2:decide ((z.length:Int)<=18)=false:=decide_eq_false (by omega)
   clear h hz
   walk_at "evh"
   exact⟨_,rfl⟩
  ·have d1:decide ((1:Int)<=(z.length:Int))=false:=decide_eq_false (by omega)
   clear h hz
   walk_at "evh"
   exact⟨_,rfl⟩
noncomputable def Z0:Str := "0"
noncomputable def wOK(z:Str):Bool:=wrB z&&!(aA z Z0&&!(decide (z=Z0)))
theorem uk{z:Str}(h:wrB z=true):z.length<=18/\1<=z.length/\PK (Lz z):=by
 unfold wrB at h
 rw[JK,decide_eq_true_eq,Kw] at h
 exact⟨h.1.2,h.1.1,λc hc=>of_decide_eq_true (h.2 c hc)⟩
theorem DE{z:Str}(h:wrB z=true):ku (.str z)=some (.fr (.int ((K5 (Lz z):Nat):Int))):=by
 obtain⟨h1,h2,h3⟩:=uk h
 unfold ku
 simp only
 rw[if_pos (by omega),PySem.intText_digits h3 (λe=>by
  have:z.length=0:=by unfold Nv;rw[<- Kv];rw[e];rfl
  omega) (by omega)]
theorem eq_str(z y:Str):eqA (.str z) (.str y)=some (decide (z=y)):=by
 unfold eqA
 simp only[toD]
 rw[if_pos (by simp[D.depth])]
 simp[D.eq,Mw]
theorem yn{z:Str}(h:wOK z=true):Val bF [.str z] (.int ((K5 (Lz z):Nat):Int)):=by
 unfold wOK at h
 rw[JK,Kd] at h
 obtain⟨hw,hs⟩:=h
 have k:=bc (ie (z:=z) (by have:=(uk hw).1;omega))
 rw[hw] at k
 have e1:=DE hw
 have e2:=eq_str z Z0
 have e3:cy z (.str Z0)=some (.fr (.bl (aA z Z0))):=rfl
 unfold FIG at k
 unfold Z0 at e2 e3 hs
 unfold Val bF dW
 simp only[JU,J7] at k ⊢
 generalize (K5 (Lz z):Nat)=d at e1 ⊢
 clear hw
 cases hb:aA z "0" with
 | false =>
  rw[hb] at e3
  clear hs
  walk_at "evh"
  exact⟨_,rfl⟩
 | true =>
  rw[hb] at e3 hs
  rw[Lx,OG] at hs
  rw[hs] at e2
  clear hs
  walk_at "evh"
  exact⟨_,rfl⟩
theorem ym{z:Str}(h:wOK z=false)(hz:z.length<=10000):eI bF [.str z] "NoNumber" := by
 have k:=bc (ie (z:=z) hz)
 unfold wOK at h
 have e2:=eq_str z Z0
 have e3:cy z (.str Z0)=some (.fr (.bl (aA z Z0))):=rfl
 unfold FIG at k
 unfold Z0 at e2 e3 h
 unfold eI bF dW
 simp only[JU,J7] at k ⊢
 clear hz
 cases hw:wrB z with
 | false =>
  rw[hw] at k
  clear h
  walk_at "evh"
  exact⟨_,rfl⟩
 | true =>
  rw[hw] at k h
  rw[Lx,OG,JK,Kd] at h
  rw[h.1] at e3
  rw[h.2] at e2
  clear h
  walk_at "evh"
  exact⟨_,rfl⟩
noncomputable def lh(n:Nat)(G:Mg)(t:Mi Bool)(e:Mi Rr)(as:List A)(ρ:List Sl):Option (Except Str Rr×List Sl):=if as.length<=100000 then match cf G t e as [] (ρ++J8 n .un) with
 | some (r,ρ')=>some (EU r,ρ'.take ρ.length)
 | none=>none else none
theorem xO(ρ:List Sl)(n:Nat)(mi:Mi (List A))(G:Mg)(t:Mi Bool)(e:Mi Rr):dI n mi G t e ρ=(match mi ρ with|some (.ok as,ρ1)=>lh n G t e as ρ1|some (.error x,ρ1)=>some (.error x,ρ1)|none=>none):=by
 unfold dI aq
 cases mi ρ with
 | none=>rfl
 | some p =>
  obtain⟨o,ρ1⟩:=p
  cases o<;>rfl
noncomputable def fO(g:A->Option A):List A->Option (List A)
 | []=>some []
 | a::as=>match g a with
  | some d=>match fO g as with
   | some ds=>some (d::ds)
   | none=>none
  | none=>none
theorem sG{i:Nat}{e:Mi Rr}{as:List A}{ρ0:List Sl}(g:A->Option A)(x:Str)(hi:ρ0.length=i)(hl:as.length<=100000)
  (h:∀a∈as,(∀d,g a=some d->e (ρ0++[.fr a])=some (.ok (.fr d),ρ0++[.fr a]))/\(g a=none->e (ρ0++[.fr a])=some (.error x,ρ0++[.fr a]))) :
  lh 1 (cP i) eF e as ρ0=some (match fO g as with|some ds=>.ok (.nw (.lst ds))|none=>.error x,ρ0):=by
 have key:∀(bs acc:List A)(y:Sl),(∀a∈bs,a∈as)->(∀o,y≠Sl.pv o)->∃y',cf (cP i) eF e bs acc (ρ0++[y])=some (match fO g bs with|some ds=>.ok (acc++ds)|none=>.error x,ρ0++[y']):=by
  intro bs
  induction bs with
  | nil=>intro acc y _ _;exact⟨y,by rw[cf,fO];simp only[Km]⟩
  | cons b bs ih =>
   intro acc y hm hy
   obtain⟨h1,h2⟩:=h b (hm b JN)
   rw[cf,fO]
   simp only[cP,xf hi hy,oH]
   cases eg:g b with
   | none=>simp only[h2 eg];exact⟨_,rfl⟩
   | some d =>
    have f:aQ (.fr d) (ρ0++[.fr b])=some (d,ρ0++[.fr b]):=rfl
    simp only[h1 d eg,f]
    obtain⟨y',e3⟩:=ih (acc++[d]) (.fr b) (λa ha=>hm a (JQ _ ha)) (λo z=>by cases z)
    rw[e3]
    refine⟨y',?_⟩
    cases fO g bs with
    | none=>rfl
    | some ds=>simp only[JY,Lv,Ku]
 obtain⟨y,h3⟩:=key as [] .un (λa ha=>ha) (λo z=>by cases z)
 unfold lh
 rw[if_pos hl]
 have e1:J8 1 Sl.un=[.un]:=rfl
 rw[e1,h3]
 simp only[Ku,Nt]
 cases fO g as<;>rfl
noncomputable def eC(z:Str):Nat:=K5 (Lz z)
noncomputable def gW:A->Option A
 | .str z=>if wOK z=true then some (.int ((eC z:Nat):Int)) else none
 | _=>none
theorem qK:∀{ws:List Str},ws.all wOK=true->fO gW (ws.map A.str)=some (ws.map λz=>A.int ((eC z:Nat):Int))
 | [],_=>rfl
 | w::ws,h=>by
  rw[Ki,JK] at h
  rw[JU,fO]
  have e:gW (.str w)=some (.int ((eC w:Nat):Int)):=by unfold gW;simp only;rw[if_pos h.1]
  rw[e,qK h.2]
  rfl
theorem uq:∀{ws:List Str},ws.all wOK=false->fO gW (ws.map A.str)=none
 | [],h=>by cases h
 | w::ws,h=>by
  rw[Ki] at h
  rw[JU,fO]
  cases hw:wOK w with
  | false =>
   have e:gW (.str w)=none:=by unfold gW;simp only;rw[hw];rfl
   rw[e]
  | true =>
   rw[hw,Lx] at h
   have e:gW (.str w)=some (.int ((eC w:Nat):Int)):=by unfold gW;simp only;rw[if_pos hw]
   rw[e,uq h]
theorem Fc{ws:List Str}{z:Str}{b:Bool}(hl:ws.length<=10000)(hw:∀w∈ws,w.length<=10000) :
  lh 1 (cP 5) eF (av bF [] (ae (aM 5) az)) (ws.map A.str) [.fr (.str z),.fr (.bl b),.fr (.lst (ws.map A.str)),.un,.un]=some (match fO gW (ws.map A.str) with|some ds=>.ok (.nw (.lst ds))|none=>.error "NoNumber",[.fr (.str z),.fr (.bl b),.fr (.lst (ws.map A.str)),.un,.un]):=by
 refine sG gW "NoNumber" rfl (by rw[Ke];omega) λa ha=>?_
 obtain⟨w,hm,rfl⟩:=Mr.mp ha
 have lw:=hw w hm
 generalize ws.map A.str=W
 refine⟨λd hd=>?_,λhd=>?_⟩
 ·unfold gW at hd
  simp only at hd
  split at hd
  ·rename_i hk
   cases hd
   have k:=bc (yn hk)
   simp only[JU,J7] at k
   unfold eC
   clear hk
   walk_at "evh"
  ·cases hd
 ·unfold gW at hd
  simp only at hd
  split at hd
  ·cases hd
  ·rename_i hk
   have k:=qd (ym (MS.mpr hk) lw)
   simp only[JU,J7] at k
   clear hk
   walk_at "evh"
noncomputable def dm:Str := "-"
noncomputable def SL:Str := "/"
theorem HP:SL=⟨#[47]⟩:=by decide +kernel
noncomputable def nY(z:Str):Str:=if aA z dm=true then Mz z (some 1) none else z
theorem Bw{z:Str}(h:z.length<=1000):(nY z).length<=1000:=by
 unfold nY
 split
 ·exact Kh (Pw _ _ _) h
 ·exact h
theorem yS{y:Str}(h:y.length<=1000):dr y (.str SL)=some (.nw (.lst ((aW y SL).map A.str)))/\(aW y SL).length<=10000/\∀w∈aW y SL,w.length<=10000:=by
 have e:aW y SL=NW y SL:=rfl
 have h1:=Qn y SL
 rw[e]
 refine⟨?_,by omega,λw hw=>by have:=Qo hw;omega⟩
 unfold dr
 simp only
 rw[e,if_pos ⟨by omega,by decide +kernel,by omega⟩]
theorem sV{z:Str}{ws:List Str}(hz:z.length<=1000)(hs:aW (nY z) SL=ws)(R:Ms) :
  (aF (sIf (dg (ai (mB1 (cQ Ty.str) (ag 0)))) (cN "NoNumber" (ae (mC (.str "a number is told by a text")) az)) aR) (aF (aJ 1 (mS1 cy (ag 0) (mC (.str "-")))) (aF (aJ 2 (mIf (ai (ag 1)) (mS1 dr (mSl (ag 0) (kF (mC (.int 1))) gG) (mC (.str "/"))) (mS1 dr (ag 0) (mC (.str "/"))))) (aF (aJ 3 (dI 1 (nO (ag 2)) (cP 5) eF (av bF [] (ae (aM 5) az)))) R)))) [.fr (.str z),.un,.un,.un,.un] =
   (match fO gW (ws.map A.str) with
    | some ds=>R [.fr (.str z),.fr (.bl (aA z dm)),.fr (.lst (ws.map A.str)),.lv (.lst ds),.un]
    | none=>some (.ex "NoNumber",[.fr (.str z),.fr (.bl (aA z dm)),.fr (.lst (ws.map A.str)),.un,.un])):=by
 obtain⟨f1,f2,f3⟩:=yS (Bw hz)
 rw[hs] at f1 f2 f3
 have k:=Fc (z:=z) (b:=aA z dm) f2 f3
 have ec:=@xO
 have l1:(z.length<=100000)=True:=by simp only[eq_iff_iff,iff_true];omega
 have l2:((ws.map A.str).length<=100000)=True:=by simp only[eq_iff_iff,iff_true,Ke];omega
 have e1:cy z (.str "-")=some (.fr (.bl (aA z dm))):=rfl
 unfold SL at f1
 unfold nY at f1
 generalize ws.map A.str=W at *
 clear f2 f3 hs hz
 cases hb:aA z dm with
 | false =>
  rw[hb] at k e1 f1
  rw[if_neg Kc] at f1
  generalize fO gW W=G at k ⊢
  clear hb
  cases G with
  | none=>walk_at "evh"
  | some ds=>walk_at "evh"
 | true =>
  rw[hb] at k e1 f1
  rw[if_pos rfl] at f1
  have e4:fSl (.str z) (some 1) none=some (.fr (.str (Mz z (some 1) none))):=by unfold fSl;simp only;rw[if_pos (by simpa using l1)]
  generalize Mz z (some 1) none=y at *
  generalize fO gW W=G at k ⊢
  clear hb
  cases G with
  | none=>walk_at "evh"
  | some ds=>walk_at "evh"
theorem HY{x y:Int}(h:y≠0)(hb:L2.Bd 9000 y):Val bw [.int x,.int y] (.int (cd x y)):=by
 unfold Val bw bW
 walk_at "evh"
 obtain⟨ρ',h1,q,r,h2⟩:=kz (t:=ai (mOp fNe (ag 1) (mC (A.int 0)))) (b:=aF (aJ 2 (mOp iw (ag 0) (ag 1))) (aF (aJ 0 (ag 1)) (aJ 1 (ag 2)))) (n:=BIG)
  (P:=λk ρ=>∃p q r,ρ=[.fr (.int p),.fr (.int q),r]/\k=q.natAbs/\(∀o,r≠Sl.pv o)/\(q=0->p=cd x y)/\(q≠0->cd p q=cd x y))
  (Q:=λρ=>∃q r,ρ=[.fr (.int (cd x y)),q,r]) (by
   rintro k ρ ⟨p,q,r,rfl,rfl,hr,h1,h2⟩
   by_cases z:q=0
   ·left
    subst z
    refine⟨[.fr (.int p),.fr (.int 0),r],?_,.fr (.int 0),r,by rw[<- h1 rfl]⟩
    walk_at "evh"
    try simp
   ·right
    refine⟨[.fr (.int p),.fr (.int q),r],[.fr (.int q),.fr (.int (p.fmod q)),.fr (.int (p.fmod q))],(p.fmod q).natAbs,?_,.inl ?_,mT p z,q,p.fmod q,_,rfl,rfl,(λo z=>by cases z),λe=>?_,λe=>?_⟩
    ·walk_at "evh"
     try simp[z]
    ·walk_at "evh"
     rw[if_pos (by simpa using z)]
     cases r with
     | pv o=>exact absurd rfl (hr o)
     | un=>rfl
     | fr a=>rfl
     | lv o=>rfl
    ·rw[<- h2 z];exact zz z e
    ·rw[z4 z e];exact h2 z) (k:=y.natAbs) (ρ:=[.fr (.int x),.fr (.int y),.un]) ⟨x,y,.un,rfl,rfl,(λo z=>by cases z),λe=>absurd e h,λ_=>rfl⟩ (wa (JR hb (Ln (by decide) (by decide))))
 refine⟨ρ',?_⟩
 rw[h1]
 subst h2
 rfl
noncomputable def il:Ms:=aF (sIf (mOr (ai (mOp fGt (mB1 eB (ag 3)) (mC (.int 2)))) (lM (ai (ag 1)) (ai (mOp fEq (mOp (fOr fIx aE) (ag 3) (mC (.int 0))) (mC (.int 0)))))) (cN "NoNumber" (ae (mC (.str "a number has one bottom at most, and 0 no sign")) az)) aR) (aF (aJ 4 (mIf (ai (mOp fEq (mB1 eB (ag 3)) (mC (.int 2)))) (mOp (fOr fIx aE) (ag 3) (mC (.int 1))) (mC (.int 1)))) (aF (sIf (lM (ai (mOp fEq (mB1 eB (ag 3)) (mC (.int 2)))) (mOr (ai (mOp fLt (ag 4) (mC (.int 2)))) (ai (mOp fNe (av bw [] (ae (mOp (fOr fIx aE) (ag 3) (mC (.int 0))) (ae (aM 4) az))) (mC (.int 1)))))) (cN "NoNumber" (ae (mC (.str "a number is in lowest terms, a bottom 1 isn't written")) az)) aR) (a5 (g9 (ae (mIf (ai (ag 1)) (mUn oV (mOp (fOr fIx aE) (ag 3) (mC (.int 0)))) (mOp (fOr fIx aE) (ag 3) (mC (.int 0)))) (ae (ag 4) az))))))
theorem iG{z:Str}{ws:List Str}(hz:z.length<=1000)(hs:aW (nY z) SL=ws):eS [.fr (.str z),.un,.un,.un,.un] =
   (match fO gW (ws.map A.str) with
    | some ds=>il [.fr (.str z),.fr (.bl (aA z dm)),.fr (.lst (ws.map A.str)),.lv (.lst ds),.un]
    | none=>some (.ex "NoNumber",[.fr (.str z),.fr (.bl (aA z dm)),.fr (.lst (ws.map A.str)),.un,.un])):=sV hz hs il
theorem F0{m:Ms}{n:Nat}{ρ ρ':List Sl}{x:Str}(h:m (ρ++J8 n .un)=some (.ex x,ρ')):cb n m ρ=some (.ex x,ρ'):=by rw[uI,h]
theorem xU{m:Ms}{n:Nat}{ρ ρ':List Sl}{r:Sl}(h:m (ρ++J8 n .un)=some (.rt r,ρ')):cb n m ρ=some (.rt r,ρ'):=by rw[uI,h]
theorem qG{z:Str}{ws:List Str}(hz:z.length<=1000)(hs:aW (nY z) SL=ws)(h:ws.all wOK=false):eI au [.str z] "NoNumber" := by
 have e:=iG hz hs
 rw[uq h] at e
 exact⟨_,F0 e⟩
noncomputable def dH(ns:List Nat):List A:=ns.map λn=>A.int ((n:Nat):Int)
theorem Eb{z:Str}{b:Bool}{W:List A}{ns:List Nat}(h:3<=ns.length\/(∃r,ns=0::r/\b=true)\/(∃x y:Nat,ns=[x,y]/\y<2/\L2.Bd 9000 ((y:Nat):Int))\/(∃x y:Nat,ns=[x,y]/\2<=y/\L2.Bd 9000 ((y:Nat):Int)/\Oe x y≠1)) :
  ∃ρ,il [.fr (.str z),.fr (.bl b),.fr (.lst W),.lv (.lst (dH ns)),.un]=some (.ex "NoNumber",ρ):=by
 have e0:∀(x:A)(r:List A),atI (x::r) 0=some x:=λx r=>gP x r
 have e1:∀(x y:A)(r:List A),atI (x::y::r) 1=some y:=λx y r=>jh x y r
 have c1:decide ((2:Int)<((2:Nat):Int))=false:=by decide
 have c2:decide (((2:Nat):Int)=2)=true:=by decide
 unfold il
 rcases h with h|⟨r,rfl,rfl⟩|⟨x,y,rfl,h,hB⟩|⟨x,y,rfl,h,hB,hg⟩
 ·have d:decide ((2:Int)<((dH ns).length:Int))=true:=decide_eq_true (by unfold dH;rw[Ke];omega)
  generalize dH ns=D at *
  clear h
  walk_at "evh"
  exact⟨_,rfl⟩
 ·unfold dH
  simp only[JU]
  generalize Oi (λn:Nat=>A.int (n:Int)) r=D at *
  have z0:((0:Nat):Int)=0:=rfl
  rw[z0]
  by_cases hd:(2:Int)<((D.length+1:Nat):Int)
  ·have d:=decide_eq_true hd
   clear hd
   walk_at "evh"
   exact⟨_,rfl⟩
  ·have d:=decide_eq_false hd
   have dx:decide ((0:Int)=0)=true:=rfl
   clear hd
   walk_at "evh"
   exact⟨_,rfl⟩
 ·unfold dH
  simp only[JU,J7]
  have d:decide (((y:Nat):Int)<2)=true:=decide_eq_true (by omega)
  cases b with
  | false =>
   clear h hB
   walk_at "evh"
   exact⟨_,rfl⟩
  | true =>
   by_cases hx:((x:Nat):Int)=0
   ·have dx:=decide_eq_true hx
    clear h hB hx
    walk_at "evh"
    exact⟨_,rfl⟩
   ·have dx:=decide_eq_false hx
    clear h hB hx
    walk_at "evh"
    exact⟨_,rfl⟩
 ·unfold dH
  simp only[JU,J7]
  have d:decide (((y:Nat):Int)<2)=false:=decide_eq_false (by omega)
  have k:=bc (HY (x:=((x:Nat):Int)) (y:=((y:Nat):Int)) (by omega) hB)
  have dc:decide (cd ((x:Nat):Int) ((y:Nat):Int)=1)=false:=decide_eq_false (by
   unfold cd
   rw[if_neg (by omega)]
   intro e
   exact hg (by exact_mod_cast e))
  simp only[JU,J7] at k
  cases b with
  | false =>
   clear h hB hg
   walk_at "evh"
   exact⟨_,rfl⟩
  | true =>
   by_cases hx:((x:Nat):Int)=0
   ·have dx:=decide_eq_true hx
    clear h hB hx hg
    walk_at "evh"
    exact⟨_,rfl⟩
   ·have dx:=decide_eq_false hx
    clear h hB hx hg
    walk_at "evh"
    exact⟨_,rfl⟩
theorem Dt{z:Str}{b:Bool}{W:List A}{x y:Nat}(hb:b=true->x≠0)(hy:2<=y)(hB:L2.Bd 9000 ((y:Nat):Int))(hg:Oe x y=1) :
  ∃ρ,il [.fr (.str z),.fr (.bl b),.fr (.lst W),.lv (.lst (dH [x,y])),.un]=some (.rt (.fr (.tup [.int (if b=true then -((x:Nat):Int) else ((x:Nat):Int)),.int ((y:Nat):Int)])),ρ):=by
 have e0:∀(x:A)(r:List A),atI (x::r) 0=some x:=λx r=>gP x r
 have e1:∀(x y:A)(r:List A),atI (x::y::r) 1=some y:=λx y r=>jh x y r
 have c1:decide ((2:Int)<((2:Nat):Int))=false:=by decide
 have c2:decide (((2:Nat):Int)=2)=true:=by decide
 unfold il
 unfold dH
 simp only[JU,J7]
 have d:decide (((y:Nat):Int)<2)=false:=decide_eq_false (by omega)
 have k:=bc (HY (x:=((x:Nat):Int)) (y:=((y:Nat):Int)) (by omega) hB)
 have dc:decide (cd ((x:Nat):Int) ((y:Nat):Int)=1)=true:=decide_eq_true (by
  unfold cd
  rw[if_neg (by omega)]
  exact_mod_cast hg)
 simp only[JU,J7] at k
 cases b with
 | false =>
  clear hb hy hB hg
  walk_at "evh"
  exact⟨_,rfl⟩
 | true =>
  have dx:decide (((x:Nat):Int)=0)=false:=decide_eq_false (by have:=hb rfl;omega)
  clear hb hy hB hg
  walk_at "evh"
  exact⟨_,rfl⟩
theorem D6{z:Str}{b:Bool}{W:List A}{x:Nat}(hb:b=true->x≠0) :
  ∃ρ,il [.fr (.str z),.fr (.bl b),.fr (.lst W),.lv (.lst (dH [x])),.un]=some (.rt (.fr (.tup [.int (if b=true then -((x:Nat):Int) else ((x:Nat):Int)),.int 1])),ρ):=by
 have e0:∀(x:A)(r:List A),atI (x::r) 0=some x:=λx r=>gP x r
 have c1:decide ((2:Int)<((1:Nat):Int))=false:=by decide
 have c2:decide (((1:Nat):Int)=2)=false:=by decide
 unfold il
 unfold dH
 simp only[JU,J7]
 cases b with
 | false =>
  clear hb
  walk_at "evh"
  exact⟨_,rfl⟩
 | true =>
  have dx:decide (((x:Nat):Int)=0)=false:=decide_eq_false (by have:=hb rfl;omega)
  clear hb
  walk_at "evh"
  exact⟨_,rfl⟩
theorem oO(ws:List Str):(ws.map λz=>A.int ((eC z:Nat):Int))=dH (ws.map eC):=by unfold dH;rw[MV];rfl
theorem o5{z:Str}{ws:List Str}(hz:z.length<=1000)(hs:aW (nY z) SL=ws)(hk:ws.all wOK=true)
  (h:3<=(ws.map eC).length\/(∃r,ws.map eC=0::r/\aA z dm=true)\/(∃x y:Nat,ws.map eC=[x,y]/\y<2/\L2.Bd 9000 ((y:Nat):Int))\/(∃x y:Nat,ws.map eC=[x,y]/\2<=y/\L2.Bd 9000 ((y:Nat):Int)/\Oe x y≠1)):eI au [.str z] "NoNumber" := by
 have e:=iG hz hs
 rw[qK hk,oO] at e
 obtain⟨ρ,q⟩:=Eb (z:=z) (W:=ws.map A.str) h
 simp only[q] at e
 exact⟨_,F0 e⟩
theorem Io{z:Str}{ws:List Str}{x y:Nat}(hz:z.length<=1000)(hs:aW (nY z) SL=ws)(hk:ws.all wOK=true)(hv:ws.map eC=[x,y])(hb:aA z dm=true->x≠0)(hy:2<=y)(hB:L2.Bd 9000 ((y:Nat):Int))(hg:Oe x y=1) :
  Val au [.str z] (.tup [.int (if aA z dm=true then -((x:Nat):Int) else ((x:Nat):Int)),.int ((y:Nat):Int)]):=by
 have e:=iG hz hs
 rw[qK hk,oO,hv] at e
 obtain⟨ρ,q⟩:=Dt (z:=z) (W:=ws.map A.str) hb hy hB hg
 simp only[q] at e
 exact⟨_,xU e⟩
theorem GS{z:Str}{ws:List Str}{x:Nat}(hz:z.length<=1000)(hs:aW (nY z) SL=ws)(hk:ws.all wOK=true)(hv:ws.map eC=[x])(hb:aA z dm=true->x≠0) :
  Val au [.str z] (.tup [.int (if aA z dm=true then -((x:Nat):Int) else ((x:Nat):Int)),.int 1]):=by
 have e:=iG hz hs
 rw[qK hk,oO,hv] at e
 obtain⟨ρ,q⟩:=D6 (z:=z) (W:=ws.map A.str) hb
 simp only[q] at e
 exact⟨_,xU e⟩
theorem aS(z:Str):z.length=(Lz z).length:=by unfold Nv;exact Kv.symm
theorem d5(z:Str)(c:Nat):aA z ⟨#[c]⟩=decide ((Lz z).head?=some c):=by
 unfold aA
 rw[StrLaws.subAt_eq]
 have e1:(⟨#[c]⟩:Str).length=1:=rfl
 rw[e1,aS]
 show (decide (0+1<=(Lz z).length)&&(((Lz z).drop 0).take 1==[c]))=_
 cases Lz z with
 | nil=>rfl
 | cons d r =>
  simp only[Nq,O8,JZ]
  rw[decide_eq_true (by omega),Lx]
  show ([d]==[c])=decide (some d=some c)
  by_cases h:d=c
  ·subst h;simp
  ·simp[h]
noncomputable abbrev toS(l:List Nat):Str:=⟨l.toArray⟩
theorem dq(l:List Nat):Lz (toS l)=l:=Ov
theorem EC{z:Str}{c:Nat}{r:List Nat}(h:Lz z=c::r):Lz (Mz z (some 1) none)=r:=by
 have hl:z.length=r.length+1:=by rw[aS,h];rfl
 rw[Qp (b:=(z.length:Int)) (by decide) (by omega) rfl]
 show (((Lz z).drop 1).take _).toArray.toList=r
 rw[h,Ov]
 show r.take _=r
 exact NS (by omega)
theorem m45:dm=⟨#[45]⟩:=by decide +kernel
theorem iT{z:Str}{r:List Nat}(h:Lz z=45::r):aA z dm=true/\Lz (nY z)=r:=by
 have e:aA z dm=true:=by rw[m45,d5,h];rfl
 refine⟨e,?_⟩
 unfold nY
 rw[if_pos e]
 exact EC h
theorem gc{z:Str}(h:(Lz z).head?≠some 45):aA z dm=false/\nY z=z:=by
 have e:aA z dm=false:=by rw[m45,d5];exact decide_eq_false h
 exact⟨e,by unfold nY;rw[e];rfl⟩
theorem fe{y:Str}{ls:List (List Nat)}(hne:ls≠[])(hf:∀l∈ls,(47:Nat)∉l)(hj:Lz y=jn 47 ls):aW y SL=ls.map toS:=by
 rw[HP]
 refine w5 (by simpa using hne) (λp hp=>?_) ?_
 ·obtain⟨l,hl,rfl⟩:=Mr.mp hp
  rw[dq];exact hf l hl
 ·rw[MV,hj]
  congr 1
  exact(List.map_id _).symm.trans (Ou λl _=>(dq l).symm)
theorem words_of(r:List Nat):∃ls:List (List Nat),ls≠[]/\(∀l∈ls,(47:Nat)∉l)/\r=jn 47 ls:=by
 induction r with
 | nil=>exact⟨[[]],by simp,by simp,rfl⟩
 | cons c r ih =>
  obtain⟨ls,h1,h2,h3⟩:=ih
  cases ls with
  | nil=>exact absurd rfl h1
  | cons l ls =>
   by_cases hc:c=47
   ·refine⟨[]::l::ls,by simp,λx hx=>?_,?_⟩
    ·rcases J6.mp hx with rfl|hx
     ·simp
     ·exact h2 x hx
    ·rw[hc,h3];rfl
   ·refine⟨(c::l)::ls,by simp,λx hx=>?_,?_⟩
    ·rcases J6.mp hx with rfl|hx
     ·intro z
      rcases J6.mp z with z|z
      ·exact hc z.symm
      ·exact h2 l JN z
     ·exact h2 x (JQ _ hx)
    ·rw[h3]
     cases ls<;>rfl
theorem l9:∀(ls:List (List Nat))(w:List Nat),ls≠[]->jn 47 (ls++[w])=jn 47 ls++47::w
 | [],_,h=>absurd rfl h
 | [p],w,_=>rfl
 | p::q::r,w,_=>by
  show p++47::jn 47 ((q::r)++[w])=(p++47::jn 47 (q::r))++47::w
  rw[l9 (q::r) w (by simp)]
  simp
theorem iH{ls:List (List Nat)}{l:List Nat}(hm:l∈ls)(hb:wOK (toS l)=false):(ls.map toS).all wOK=false:=by
 rw[OP]
 exact⟨toS l,Ot hm,by rw[hb];exact Kc⟩
theorem cx{z:Str}{w:List Nat}(hz:z.length<=1000)(hf:(47:Nat)∉w)(hb:wOK (toS w)=false)(h:Lz (nY z)=w\/∃r,Lz (nY z)=w++47::r):eI au [.str z] "NoNumber" := by
 rcases h with h|⟨r,h⟩
 ·exact qG hz (fe (ls:=[w]) (by simp) (by simpa using hf) h) (iH JN hb)
 ·obtain⟨ls,h1,h2,h3⟩:=words_of r
  cases ls with
  | nil=>exact absurd rfl h1
  | cons l ls =>
   refine qG hz (fe (ls:=w::l::ls) (by simp) (λx hx=>?_) (by rw[h,h3];rfl)) (iH JN hb)
   rcases J6.mp hx with rfl|hx
   ·exact hf
   ·exact h2 x hx
theorem lu{z:Str}{w:List Nat}(hz:z.length<=1000)(hf:(47:Nat)∉w)(hb:wOK (toS w)=false)(h:Lz (nY z)=w\/∃r,Lz (nY z)=r++47::w):eI au [.str z] "NoNumber" := by
 rcases h with h|⟨r,h⟩
 ·exact qG hz (fe (ls:=[w]) (by simp) (by simpa using hf) h) (iH JN hb)
 ·obtain⟨ls,h1,h2,h3⟩:=words_of r
  refine qG hz (fe (ls:=ls++[w]) (by simp) (λx hx=>?_) (by rw[h,h3,l9 ls w h1])) (iH (JL _ JN) hb)
  rcases J5.mp hx with hx|hx
  ·exact h2 x hx
  ·rw[J9.mp hx];exact hf
theorem vH{m:Nat}(h:m<10^18):wOK (toS (dgN m))=true/\eC (toS (dgN m))=m/\(47:Nat)∉dgN m:=by
 have hl:=je 17 m h
 have h1:1<=(dgN m).length:=by
  rcases Nat.eq_zero_or_pos (dgN m).length with z|z
  ·exact absurd (List.length_eq_zero_iff.mp z) (pM m)
  ·exact z
 have e:(toS (dgN m)).length=(dgN m).length:=by rw[aS,dq]
 have hw:wrB (toS (dgN m))=true:=by
  unfold wrB
  rw[JK,decide_eq_true_eq,e,dq,Kw]
  exact⟨⟨h1,hl⟩,λc hc=>decide_eq_true (kK m c hc)⟩
 refine⟨?_,by unfold eC;rw[dq];exact D1 m,λz=>by have:=kK m 47 z;omega⟩
 unfold wOK
 rw[hw,Lx,Kd]
 have ez:Z0=⟨#[48]⟩:=by decide +kernel
 by_cases hm:m=0
 ·subst hm
  have:toS (dgN 0)=Z0:=by rw[G9,ez]
  rw[this];simp
 ·obtain⟨c,r,e1,hc⟩:=qt m m (J1 _) hm
  rw[ez,d5,dq,e1]
  have:decide ((c::r).head?=some 48)=false:=decide_eq_false (by simpa using hc)
  rw[this];rfl
theorem iR{l:List Nat}{c:Nat}(hm:c∈l)(hc:¬ (48<=c/\c<=57)):wOK (toS l)=false:=by
 unfold wOK wrB
 have:(Lz (toS l)).all isF=false:=by
  rw[dq,OP]
  exact⟨c,hm,by unfold isF;simpa using hc⟩
 rw[this,LY,Ll]
theorem qI:wOK (toS [])=false:=by decide +kernel
theorem jB{l:List Nat}(h:18<l.length):wOK (toS l)=false:=by
 unfold wOK wrB
 rw[aS,dq,decide_eq_false (by omega),Ll,Ll]
theorem vX{l:List Nat}(h:l≠[]):wOK (toS (48::l))=false:=by
 have ez:Z0=⟨#[48]⟩:=by decide +kernel
 have h1:aA (toS (48::l)) Z0=true:=by rw[ez,d5,dq];rfl
 have h2:decide (toS (48::l)=Z0)=false:=decide_eq_false λe=>by
  have:=congrArg Lz e
  rw[dq,ez] at this
  exact h (Lo this).2
 unfold wOK
 rw[h1,h2]
 simp
noncomputable def sgn(t:Int):List Nat:=if t<0 then [45] else []
theorem rO(a:Int):Lz (txI a)=sgn a++dgN a.natAbs:=by
 unfold sgn
 cases a with
 | ofNat m =>
  rw[if_neg (by simp)]
  exact CM m
 | negSucc m =>
  rw[if_pos (Int.negSucc_lt_zero m),Cz]
  rfl
noncomputable def shT(t b:Int):Str:=if b=1 then txI t else (txI t++SL)++txI b
noncomputable def wds(t b:Int):List (List Nat):=if b=1 then [dgN t.natAbs] else [dgN t.natAbs,dgN b.natAbs]
theorem bz(x y:Str):Lz (x++y)=Lz x++Lz y:=by unfold Lz;rw[Str.cps_append,Oj]
theorem Iu:Lz SL=[47]:=by decide +kernel
theorem pL{b:Int}(h:1<=b):sgn b=[]:=by unfold sgn;rw[if_neg (by omega)]
theorem Bl{t b:Int}(hb:1<=b):Lz (shT t b)=sgn t++jn 47 (wds t b):=by
 unfold shT wds
 split
 ·exact rO t
 ·rw[bz,bz,Iu,rO,rO,pL hb]
  simp[jn]
theorem pB(m:Nat)(r:List Nat):(dgN m++r).head?≠some 45:=by
 cases e:dgN m with
 | nil=>exact absurd e (pM m)
 | cons c l =>
  have:=kK m c (by rw[e];exact JN)
  simp only[Lv,O8]
  intro z
  cases z
  omega
theorem pV(t b:Int)(r:List Nat):(jn 47 (wds t b)++r).head?≠some 45:=by
 unfold wds
 split
 ·exact pB _ _
 ·show ((dgN t.natAbs++47::dgN b.natAbs)++r).head?≠some 45
  rw[JY]
  exact pB _ _
theorem nJ{z:Str}{t:Int}{l:List Nat}(h:Lz z=sgn t++l)(hl:l.head?≠some 45):aA z dm=decide (t<0)/\Lz (nY z)=l:=by
 unfold sgn at h
 by_cases ht:t<0
 ·rw[if_pos ht] at h
  rw[decide_eq_true ht]
  exact iT h
 ·rw[if_neg ht] at h
  have h:Lz z=l:=h
  rw[decide_eq_false ht]
  obtain⟨h1,h2⟩:=gc (z:=z) (by rw[h];exact hl)
  exact⟨h1,by rw[h2];exact h⟩
structure NT (t b:Int):Prop where
 b1:1<=b
 b2:b<10^18
 t1:t.natAbs<10^18
 cp:KC t b=1
theorem NT.len{t b:Int}(h:NT t b):(shT t b).length<=50:=by
 rw[aS,Bl h.b1]
 have h1:=je 17 _ h.t1
 have h2:=je 17 b.natAbs (by have:=h.b2;have:=h.b1;omega)
 unfold wds sgn
 split<;>split<;>simp[jn]<;>omega
theorem xk{t b:Int}(h:NT t b):((wds t b).map toS).all wOK=true/\((wds t b).map toS).map eC=(if b=1 then [t.natAbs] else [t.natAbs,b.natAbs])/\∀l∈wds t b,(47:Nat)∉l:=by
 obtain⟨a1,a2,a3⟩:=vH h.t1
 obtain⟨c1,c2,c3⟩:=vH (m:=b.natAbs) (by have:=h.b2;have:=h.b1;omega)
 unfold wds
 split
 ·exact⟨by simp[a1],by simp[a2],by simpa using a3⟩
 ·exact⟨by simp[a1,c1],by simp[a2,c2],by simp[a3,c3]⟩
theorem Bg{y:Nat}(h:y<10^25):L2.Bd 9000 ((y:Nat):Int):=by
 refine L2.Bd.mono (m:=100) ?_ (by decide)
 unfold L2.Bd
 have:(10:Nat)^25<2^100:=by decide
 omega
theorem uN{t b:Int}(h:NT t b):Val au [.str (shT t b)] (.tup [.int t,.int b]):=by
 obtain⟨o1,o2,o3⟩:=xk h
 have hz:(shT t b).length<=1000:=by have:=h.len;omega
 have hl:=pV t b []
 rw[Km] at hl
 obtain⟨n1,n2⟩:=nJ (Bl h.b1) hl
 have hs:=fe (by unfold wds;split<;>simp) o3 n2
 have et:(if aA (shT t b) dm=true then -((t.natAbs:Nat):Int) else ((t.natAbs:Nat):Int))=t:=by
  rw[n1]
  by_cases z:t<0
  ·rw[decide_eq_true z,if_pos rfl];omega
  ·rw[decide_eq_false z,if_neg Kc];omega
 have hb0:aA (shT t b) dm=true->t.natAbs≠0:=λe=>by
  rw[n1] at e
  have:=of_decide_eq_true e
  omega
 by_cases hb:b=1
 ·rw[if_pos hb] at o2
  have:=GS hz hs o1 o2 hb0
  rw[et] at this
  rw[hb]
  rw[hb] at this
  exact this
 ·rw[if_neg hb] at o2
  have:=Io hz hs o1 o2 hb0 (by have:=h.b1;omega) (Bg (by have:=h.b2;have:=h.b1;omega)) (by have:=h.cp;unfold KC at this;exact this)
  rw[et] at this
  have eb:((b.natAbs:Nat):Int)=b:=by have:=h.b1;omega
  rw[eb] at this
  exact this
theorem oN:∀(k m:Nat),(dgN m).length<=k+1->m<10^(k+1)
 | 0,m,h=>by
  by_cases hm:m<10
  ·omega
  ·rw[iM (by omega),Kg] at h
   have:=List.length_pos_iff.mpr (pM (m / 10))
   simp only[JZ,KZ] at h
   omega
 | k+1,m,h=>by
  by_cases hm:m<10
  ·have:10^1<=10^(k+1+1):=Ln (by decide) (by omega)
   omega
  ·rw[iM (by omega),Kg] at h
   simp only[JZ,KZ] at h
   have:=oN k (m / 10) (by omega)
   rw[N5]
   omega
theorem dQ(m:Nat):(47:Nat)∉dgN m:=λz=>by have:=kK m 47 z;omega
theorem iU{t b:Int}(h:NT t b){z:Str}{p:List Nat}(hp:(47:Nat)∉p)(h45:(p++(sgn t++jn 47 (wds t b))).head?≠some 45)(e:Lz z=p++(sgn t++jn 47 (wds t b)))(hz:z.length<=1000)(hb:wOK (toS (p++(sgn t++dgN t.natAbs)))=false):eI au [.str z] "NoNumber" := by
 obtain⟨_,n2⟩:=gc (z:=z) (by rw[e];exact h45)
 refine cx hz (w:=p++(sgn t++dgN t.natAbs)) (λm=>?_) hb ?_
 ·rcases J5.mp m with m|m
  ·exact hp m
  ·rcases J5.mp m with m|m
   ·unfold sgn at m
    split at m<;>simp at m
   ·exact dQ _ m
 ·rw[n2,e]
  unfold wds
  split
  ·exact .inl rfl
  ·exact .inr ⟨dgN b.natAbs,by simp[jn]⟩
theorem wb(t b:Int):∃l,(47:Nat)∉l/\(jn 47 (wds t b)=l\/∃r,jn 47 (wds t b)=r++47::l):=by
 unfold wds
 split
 ·exact⟨dgN t.natAbs,dQ _,.inl rfl⟩
 ·exact⟨dgN b.natAbs,dQ _,.inr ⟨dgN t.natAbs,rfl⟩⟩
theorem gT{t b:Int}(h:NT t b){z:Str}{q:List Nat}{c:Nat}(hq:(47:Nat)∉q)(hc:c∈q)(hn:¬ (48<=c/\c<=57))(e:Lz z=(sgn t++jn 47 (wds t b))++q)(hz:z.length<=1000):eI au [.str z] "NoNumber" := by
 rw[JY] at e
 obtain⟨_,n2⟩:=nJ e (pV t b q)
 obtain⟨l,l1,l2⟩:=wb t b
 refine lu hz (w:=l++q) (λm=>(J5.mp m).elim l1 hq) (iR (JL _ hc) hn) ?_
 rcases l2 with l2|⟨r,l2⟩
 ·exact .inl (by rw[n2,l2])
 ·exact .inr ⟨r,by rw[n2,l2,JY];rfl⟩
theorem oB{t b:Int}(h:NT t b){z:Str}(e:Lz z=(sgn t++jn 47 (wds t b))++[47])(hz:z.length<=1000):eI au [.str z] "NoNumber" := by
 rw[JY] at e
 obtain⟨_,n2⟩:=nJ e (pV t b [47])
 exact lu hz (w:=[]) (by simp) qI (.inr ⟨_,n2⟩)
theorem AL:wOK (toS [49])=true/\eC (toS [49])=1:=by decide +kernel
theorem uH{t b:Int}(h:NT t b){z:Str}(e:Lz z=(sgn t++jn 47 (wds t b))++[47,49])(hz:z.length<=1000):eI au [.str z] "NoNumber" := by
 rw[JY] at e
 obtain⟨_,n2⟩:=nJ e (pV t b [47,49])
 obtain⟨o1,o2,o3⟩:=xk h
 have hne:wds t b≠[]:=by unfold wds;split<;>simp
 have hs:=fe (ls:=wds t b++[[49]]) (by simp) (λl hl=>by
  rcases J5.mp hl with hl|hl
  ·exact o3 l hl
  ·rw[J9.mp hl];decide) (by rw[n2,l9 _ _ hne])
 refine o5 hz hs (by rw[KD,O6,o1];simpa using AL.1) ?_
 rw[KD,KD,o2]
 by_cases hb:b=1
 ·rw[if_pos hb]
  exact .inr (.inr (.inl ⟨t.natAbs,1,by simp[AL.2],by decide,Bg (by decide)⟩))
 ·rw[if_neg hb]
  exact .inl (by simp)
theorem uu{t b:Int}(h:NT t b){z:Str}(ht:t<0)(e:Lz z=45::(sgn t++jn 47 (wds t b)))(hz:z.length<=1000):eI au [.str z] "NoNumber" := by
 obtain⟨_,n2⟩:=iT e
 have es:sgn t=[45]:=by unfold sgn;rw[if_pos ht]
 rw[es] at n2
 refine cx hz (w:=45::dgN t.natAbs) (λm=>?_) (iR (c:=45) JN (by decide)) ?_
 ·rcases J6.mp m with m|m
  ·cases m
  ·exact dQ _ m
 ·rw[n2]
  unfold wds
  split
  ·exact .inl rfl
  ·exact .inr ⟨dgN b.natAbs,rfl⟩
theorem rV{z:Str}(e:Lz z=[45,48]):eI au [.str z] "NoNumber" := by
 obtain⟨n1,n2⟩:=iT e
 have hs:=fe (ls:=[dgN 0]) (by simp) (by simpa using dQ 0) (by rw[n2,G9];rfl)
 obtain⟨a1,a2,_⟩:=vH (m:=0) (by decide)
 exact o5 (by rw[aS,e];decide) hs (by simpa using a1) (.inr (.inl ⟨[],by simp[a2],n1⟩))
theorem qj{z:Str}{s:Int}{x y:Nat}(e:Lz z=sgn s++(dgN x++47::dgN y))(hz:z.length<=1000)(h:10^18<=x\/10^18<=y\/y<2\/Oe x y≠1\/(x=0/\s<0)):eI au [.str z] "NoNumber" := by
 obtain⟨n1,n2⟩:=nJ e (pB _ _)
 by_cases hx:x<10^18
 ·by_cases hy:y<10^18
  ·obtain⟨a1,a2,a3⟩:=vH hx
   obtain⟨c1,c2,c3⟩:=vH hy
   have hs:=fe (ls:=[dgN x,dgN y]) (by simp) (by simp[a3,c3]) n2
   have hB:=Bg (y:=y) (LW hy (by decide))
   refine o5 hz hs (by simp[a1,c1]) ?_
   have ev:([dgN x,dgN y].map toS).map eC=[x,y]:=by simp[a2,c2]
   rw[ev]
   by_cases y2:y<2
   ·exact .inr (.inr (.inl ⟨x,y,rfl,y2,hB⟩))
   ·rcases h with h|h|h|h|⟨h,h'⟩
    ·omega
    ·omega
    ·omega
    ·exact .inr (.inr (.inr ⟨x,y,rfl,by omega,hB,h⟩))
    ·exact .inr (.inl ⟨[y],by rw[h],by rw[n1];exact decide_eq_true h'⟩)
  ·refine lu hz (dQ y) (jB ?_) (.inr ⟨_,n2⟩)
   rcases PL 18 (dgN y).length with z|z
   ·exact z
   ·exact absurd (oN 17 y z) hy
 ·refine cx hz (dQ x) (jB ?_) (.inr ⟨_,n2⟩)
  rcases PL 18 (dgN x).length with z|z
  ·exact z
  ·exact absurd (oN 17 x z) hx
theorem sf{z:Str}(h:eI au [.str z] "NoNumber"):Val bu [.str z] (.bl true):=by
 have q:=qd h
 have eq:eqA (.lst [.bl true,.bl true,.bl false]) (.lst [.bl true,.bl true,.bl false])=some true:=by rfl
 have s1:Dz ["NoNumber"] "NoNumber" = true:=by decide +kernel
 have t1:Ag [("NoNumber",true)] "NoNumber" = some true:=by rfl
 have t3:eQ [[("NoNumber",false)],[("NoNumber",false)],[("NoNumber",false)],[("NoNumber",false)],[("NoNumber",false)],[("NoNumber",false)],[("NoNumber",false)],[("NoNumber",false)],[("NoNumber",false)]] "NoNumber" = some false:=by rfl
 have t4:eQ [[("NoNumber",false)],[("NoNumber",false)],[("NoNumber",false)],[("NoNumber",false)]] "NoNumber" = some false:=by rfl
 have l2:(0+1+1<=1000)=True:=by simp
 have l3:(0+1+1+1<=1000)=True:=by simp
 have l6:(0+1+1+1<=100000)=True:=by simp
 have l8:(3<=100000)=True:=by simp
 simp only[JU,J7] at q
 unfold Val bu cD
 simp only[JU,J7]
 clear h
 walk_at "evh"
 exact⟨_,rfl⟩
theorem GL(ρ:List Sl)(m:Mi Rr):nB m ρ=(match m ρ with|some (.ok (.fr (.int a)),ρ1)=>(if a.natAbs.log2<1920 then some (.ok (.fr (.str (txI a))),ρ1) else none)|some (.ok _,_)=>none|some (.error e,ρ1)=>some (.error e,ρ1)|none=>none):=by
 unfold nB aq
 cases m ρ with
 | none=>rfl
 | some p =>
  obtain⟨o,ρ1⟩:=p
  cases o with
  | error e=>rfl
  | ok r =>
   cases r with
   | fr a=>cases a<;>rfl
   | rf i=>rfl
   | nw o=>rfl
theorem lg{a:Int}(h:a.natAbs<10^25):(a.natAbs.log2<1920)=True:=by
 simp only[eq_iff_iff,iff_true]
 by_cases h0:a.natAbs=0
 ·rw[h0];decide
 ·rw[Oo h0]
  exact JR h (KU (by decide +kernel))
theorem zE(z:Str):M8++z=z:=qf (by rw[bz];rfl)
theorem jq{a:Int}(h:a.natAbs<10^25):(txI a).length<=26:=by
 rw[aS,rO,Kg]
 have:=je 24 _ h
 unfold sgn
 split<;>simp<;>omega
theorem Hx{a:Int}(h:a.natAbs<10^25):((txI a).length<=1000)=True:=by simp only[eq_iff_iff,iff_true];have:=jq h;omega
theorem NT.b25{t b:Int}(h:NT t b):b.natAbs<10^25:=by
 have h1:=h.b2
 have h2:=h.b1
 have:b.natAbs<10^18:=by omega
 exact LW this (by decide)
theorem NT.t25{t b:Int}(h:NT t b):t.natAbs<10^25:=LW h.t1 (by decide)
theorem qv{t b:Int}(h:NT t b):Val aT [.tup [.int t,.int b]] (.str (shT t b)):=by
 have e0:∀(x:A)(r:List A),atI (x::r) 0=some x:=λx r=>gP x r
 have e1:∀(x y:A)(r:List A),atI (x::y::r) 1=some y:=λx y r=>jh x y r
 have ef:=@GL
 have l1:=lg h.t25
 have l2:=lg h.b25
 have l3:=Hx h.t25
 have l4:=Hx h.b25
 have l5:((J4 "/").length<=1000)=True:=by simp only[eq_iff_iff,iff_true];decide +kernel
 have ec:wL [txI t,SL,txI b]=(txI t++SL)++txI b:=by
  unfold wL
  simp only[O7,List.foldl_nil,zE]
 unfold Val aT cF shT
 unfold SL at ec ⊢
 by_cases hb:b=1
 ·have d:=decide_eq_true hb
  rw[if_pos hb]
  clear h hb
  walk_at "evh"
  exact⟨_,rfl⟩
 ·have d:=decide_eq_false hb
  rw[if_neg hb]
  clear h hb
  walk_at "evh"
  exact⟨_,rfl⟩
theorem qZ{a:Int}(h:(a.natAbs.log2<1920)=True):ix (.int a)=some (.fr (.str (txI a))):=by
 unfold ix
 simp only
 rw[if_pos (by rw[h];trivial)]
 rfl
theorem v8{t b:Int}(h:NT t b):Val bN [.tup [.int t,.int b]] (.str (shT t b)):=by
 have e0:∀(x:A)(r:List A),atI (x::r) 0=some x:=λx r=>gP x r
 have e1:∀(x y:A)(r:List A),atI (x::y::r) 1=some y:=λx y r=>jh x y r
 have f1:=qZ (lg h.t25)
 have f2:=qZ (lg h.b25)
 have hl:=h.len
 unfold Val bN dO shT
 unfold shT at hl
 unfold SL at hl ⊢
 by_cases hb:b=1
 ·have d:=decide_eq_true hb
  rw[if_pos hb]
  clear h hb hl
  walk_at "evh"
  exact⟨_,rfl⟩
 ·have d:=decide_eq_false hb
  rw[if_neg hb] at hl ⊢
  have ll:∀x y:Str,(x++y).length=x.length+y.length:=λx y=>by rw[aS,aS,aS,bz,Kg]
  have g1:((txI t).length+(J4 "/").length<=100000)=True:=by
   simp only[eq_iff_iff,iff_true];rw[ll] at hl;rw[ll] at hl;omega
  have g2:((txI t++J4 "/").length+(txI b).length<=100000)=True:=by
   simp only[eq_iff_iff,iff_true];rw[ll] at hl;omega
  clear h hb hl ll
  walk_at "evh"
  exact⟨_,rfl⟩
def Wl(n:Int)(o:LO):Prop:=∃f c t:Int,o=.lst [.int f,.int c,.int t]/\(f=0\/f=1)/\(f=0->c.natAbs<10^18)/\0<=t/\t<=n
theorem Wl.mono{n m:Int}{o:LO}(h:Wl n o)(k:n<=m):Wl m o:=by
 obtain⟨f,c,t,h1,h2,h3,h4,h5⟩:=h
 exact⟨f,c,t,h1,h2,h3,h4,by omega⟩
theorem E9:L2.ixN (0+1+1+1) 1=some 1:=by decide
theorem HB:L2.ixN (0+1+1+1) 2=some 2:=by decide
theorem oh{n:Int}{o:LO}{m:Int}(w:Wl n o)(hn:n<2^40)(m0:0<m)(m1:m<2^64):∃r o',gj aw o [.int m] (.fr (.int r)) o'/\0<=r/\r<m/\Wl (n+1) o':=by
 obtain⟨f,c,t,rfl,hf,hc,t0,t1⟩:=w
 have hm:(m != 0&&fits 9000 m)=true:=by
  rw[JK]
  exact⟨by simp;omega,aN (m:=64) (show m.natAbs<2^64 by omega) (by decide)⟩
 have hm0:(m != 0)=true:=by simp;omega
 unfold gj aw eU
 rcases hf with rfl|rfl
 ·have hc:=hc rfl
  have f1:fits 20000 (t+1)=true:=aN (m:=64) (show (t+1).natAbs<2^64 by omega) (by decide)
  have f2:fits 20000 7919=true:=aN (m:=64) (show (7919:Int).natAbs<2^64 by decide) (by decide)
  have f3:fits 20000 (7919*(t+1))=true:=aN (m:=64) (show (7919*(t+1)).natAbs<2^64 by omega) (by decide)
  have b1:L2.Bd 128 (7919*(t+1)*(t+1)):=(L2.Bd.mul (m:=64) (n:=64) (show (7919*(t+1)).natAbs<2^64 by omega) (show (t+1).natAbs<2^64 by omega))
  have b2:L2.Bd 130 (c+7919*(t+1)*(t+1)+(t+1)):=((L2.Bd.add (m:=128) (n:=128) (show c.natAbs<2^128 by omega) b1).add (n:=128) (show (t+1).natAbs<2^128 by omega)).mono (by decide)
  have f4:fits 20000 (c+7919*(t+1)*(t+1)+(t+1))=true:=aN b2 (by decide)
  have f5:fits 20000 48271=true:=aN (m:=64) (show (48271:Int).natAbs<2^64 by decide) (by decide)
  have hp:(0:Int)<2305843009213693951:=by decide
  have g1:=Pd ((c+7919*(t+1)*(t+1)+(t+1))*48271) (b:=2305843009213693951) (by decide)
  have g2:=Int.emod_lt_of_pos ((c+7919*(t+1)*(t+1)+(t+1))*48271) hp
  have e1:((c+7919*(t+1)*(t+1)+(t+1))*48271).fmod 2305843009213693951=((c+7919*(t+1)*(t+1)+(t+1))*48271)%2305843009213693951:=Int.fmod_eq_emod_of_nonneg _ (by decide)
  have f6:fits 20000 (((c+7919*(t+1)*(t+1)+(t+1))*48271).fmod 2305843009213693951)=true:=aN (m:=64) (show OQ _<2^64 by rw[e1];omega) (by decide)
  have f7:fits 20000 1442695040888963407=true:=aN (m:=64) (show (1442695040888963407:Int).natAbs<2^64 by decide) (by decide)
  have f8:((2305843009213693921:Int) != 0)=true:=by decide
  have f9:((2305843009213693951:Int) != 0)=true:=by decide
  have f10:((64:Int) != 0&&fits 9000 64)=true:=by
   rw[JK]
   exact⟨by decide,aN (m:=64) (show (64:Int).natAbs<2^64 by decide) (by decide)⟩
  refine⟨((((((c+7919*(t+1)*(t+1)+(t+1))*48271).fmod 2305843009213693951*1442695040888963407+4321).fmod 2305843009213693921).fdiv 64).fmod m),.lst [.int 0,.int c,.int (t+1)],?_,LC _ m0,MQ _ m0,0,c,t+1,rfl,.inl rfl,λ_=>hc,by omega,by omega⟩
  have d0:decide ((0:Int)=1)=false:=by decide
  have i2:=HB
  clear e1 g1 g2 hp b1 b2 hc m0 m1 hn t0 t1 hm
  walk_at "evh"
  exact⟨_,rfl⟩
 ·refine⟨_,.lst [.int 1,.int (c.fdiv m),.int t],?_,LC c m0,MQ c m0,1,c.fdiv m,t,rfl,.inr rfl,λz=>by omega,t0,by omega⟩
  have d0:decide ((1:Int)=1)=true:=by decide
  have i1:=E9
  have hf:fits 9000 m=true:=(Bool.and_eq_true_iff.mp hm).2
  clear hc m0 m1 hn t0 t1 hm
  walk_at "evh"
  exact⟨_,rfl⟩
theorem cw0{f:Ms}{as:List A}{o o':LO}{r:Rr}{s:Sl}(h:gj f o as s o')(hr:jD s=some r):∀ρ,bO f [] (.rf 0::as.map Rr.fr) (.pv o::ρ)=some (.ok r,.pv o'::ρ):=λρ=>lz h hr rfl
theorem cw2{f:Ms}{as:List A}{o o':LO}{r:Rr}{s:Sl}(h:gj f o as s o')(hr:jD s=some r):∀a b ρ,bO f [] (.rf 2::as.map Rr.fr) (a::b::.lv o::ρ)=some (.ok r,a::b::.lv o'::ρ):=λa b ρ=>lz (i:=2) h hr rfl
theorem tk{n:Int}{o:LO}(m:Int)(w:Wl n o)(hn:n<2^40)(m0:0<m)(m1:m<2^64):∃r o',(∀ρ,bO aw [] [.rf 0,.fr (.int m)] (.pv o::ρ)=some (.ok (.fr (.int r)),.pv o'::ρ))/\0<=r/\r<m/\Wl (n+1) o':=by
 obtain⟨r,o',h,h1,h2,h3⟩:=oh (m:=m) w hn m0 m1
 exact⟨r,o',cw0 h rfl,h1,h2,h3⟩
theorem tk2{n:Int}{o:LO}(m:Int)(w:Wl n o)(hn:n<2^40)(m0:0<m)(m1:m<2^64):∃r o',(∀a b ρ,bO aw [] [.rf 2,.fr (.int m)] (a::b::.lv o::ρ)=some (.ok (.fr (.int r)),a::b::.lv o'::ρ))/\0<=r/\r<m/\Wl (n+1) o':=by
 obtain⟨r,o',h,h1,h2,h3⟩:=oh (m:=m) w hn m0 m1
 exact⟨r,o',cw2 h rfl,h1,h2,h3⟩
theorem IF:(10:Int)^(8:Int).toNat=100000000:=by decide
theorem AV:(10:Int)^(18:Int).toNat=1000000000000000000:=by decide
theorem DW(ns:List Int)(k:Int)(k0:0<=k)(k1:k<=1000):∃o,xD bL [.lst (ns.map A.int),.int k] o/\Wl 17000 o:=by
 have p18:((0:Int)<=18/\(18:Int)<=1000000/\(10:Int).natAbs<2^64)=True:=by simp
 have q18:=AV
 have f1:fits 20000 17=true:=aN (m:=64) (show (17:Int).natAbs<2^64 by decide) (by decide)
 have f2:fits 20000 k=true:=aN (m:=64) (show k.natAbs<2^64 by omega) (by decide)
 have l1000:(0+1+1+1<=1000)=True:=by simp
 have key:∀c:Int,Wl 17000 (.lst [.int (if decide (1000000000000000000<=(if c<0 then -c else c))=true then 1 else 0),.int c,.int (17*k)]):=λc=>by
  refine⟨_,c,17*k,rfl,?_,λz=>?_,by omega,by omega⟩
  ·generalize decide (1000000000000000000<=(if c<0 then -c else c))=d
   cases d
   ·exact .inl rfl
   ·exact .inr rfl
  ·by_cases h:1000000000000000000<=(if c<0 then -c else c)
   ·simp[h] at z
   ·split at h<;>omega
 have hlen:((ns.map A.int).length:Int)=(ns.length:Int):=by rw[Ke]
 by_cases hk:k<(ns.length:Int)
 ·obtain⟨j,rfl⟩:∃j:Nat,k=j:=⟨k.toNat,by omega⟩
  have hj:j<ns.length:=by omega
  have ha:atI (ns.map A.int) (j:Int)=some (.int ns[j]):=zS (by rw[Kr,Kl hj];rfl)
  refine⟨_,?_,key ns[j]⟩
  clear key k0 k1
  unfold xD bL cX
  walk_at "evh"
  exact⟨_,rfl⟩
 ·refine⟨_,?_,key 0⟩
  clear key k0 k1
  unfold xD bL cX
  walk_at "evh"
  exact⟨_,rfl⟩
theorem tw{x y:Int}(hb:L2.Bd 9000 y):Val dj [.int x,.int y] (.int (KC x y)):=by
 unfold Val dj dh
 walk_at "evh"
 obtain⟨ρ',h1,q,h2,hg⟩:=kz (t:=ai (mOp fNe (ag 1) (mC (A.int 0)))) (b:=sv 0 1 (ae (ag 1) (ae (mOp iw (ag 0) (ag 1)) az))) (n:=BIG)
  (P:=λk ρ=>∃p q,ρ=[.fr (.int p),.fr (.int q)]/\k=q.natAbs/\KC p q=KC x y)
  (Q:=λρ=>∃p,ρ=[.fr (.int p),.fr (.int 0)]/\KC p 0=KC x y) (by
   rintro k ρ ⟨p,q,rfl,rfl,h1⟩
   by_cases z:q=0
   ·left
    subst z
    refine⟨[.fr (.int p),.fr (.int 0)],?_,p,rfl,h1⟩
    walk_at "evh"
    try simp
   ·right
    refine⟨[.fr (.int p),.fr (.int q)],[.fr (.int q),.fr (.int (p.fmod q))],(p.fmod q).natAbs,?_,.inl ?_,mT p z,q,p.fmod q,rfl,rfl,?_⟩
    ·walk_at "evh"
     try simp[z]
    ·have hz:(q != 0)=true:=by simpa using z
     clear h1 z
     walk_at "evh"
    ·rw[jk,h1]) (k:=y.natAbs) (ρ:=[.fr (.int x),.fr (.int y)]) ⟨x,y,rfl,rfl,rfl⟩ (wa (JR hb (Ln (by decide) (by decide))))
 refine⟨ρ',?_⟩
 rw[h1]
 subst h2
 walk_at "evh"
 have:(if q<0 then -q else q)=(KC x y:Int):=by
  rw[<- hg,OM]
  split<;>omega
 rw[this]
theorem og{t b:Int}(h:0<b)(hb:L2.Bd 9000 b):Val cI [.int t,.int b] (nm (nrm t b)):=by
 have h0:b≠0:=by omega
 rw[<- Af h0]
 unfold Val cI gf
 have gp:((KC t b:Int) != 0&&fits 9000 (KC t b:Int))=true:=by
  have h1:KC t b<=b.natAbs:=Int.gcd_le_natAbs_right _ h0
  have h2:KC t b≠0:=λz=>h0 (Int.gcd_eq_zero_iff.mp z).2
  rw[JK]
  exact⟨by simpa using h2,aN (show L2.Bd 9000 (KC t b:Int) from K3 (by simpa using h1) hb) (J1 _)⟩
 have k:=bc (tw (x:=t) (y:=b) hb)
 simp only[JU,J7] at k
 have e3:Cj t b=(t.fdiv (KC t b),b.fdiv (KC t b)):=if_neg (by omega)
 rw[e3]
 simp only[nm,JU,J7]
 clear hb h h0 e3
 walk_at "evh"
 exact⟨_,rfl⟩
theorem o8{t b:Int}(h:0<b)(hb:b<10^18)(ht:t.natAbs<10^18):NT (nrm t b).1 (nrm t b).2:=by
 have h0:b≠0:=by omega
 have p:=rp (t:=t) h0
 have k:=A7 (t:=t) h0
 have hc:=(qF (t:=t) h0).1 h
 have e1:(nrm t b).1*cd t b=t:=OH (ip t b)
 have e2:(nrm t b).2*cd t b=b:=OH (gH t b)
 have m1:(nrm t b).1.natAbs<=t.natAbs:=by
  have:=congrArg OQ e1
  rw[KW] at this
  rw[<- this]
  exact NX _ (by omega)
 have m2:(nrm t b).2.natAbs<=b.natAbs:=by
  have:=congrArg OQ e2
  rw[KW] at this
  rw[<- this]
  exact NX _ (by omega)
 exact⟨by omega,by omega,by omega,k.2⟩
theorem o7{t:Int}(h:t.natAbs<10^18):NT t 1:=⟨by decide,by decide,h,by simp⟩
theorem tj{n:Int}{o:LO}(w:Wl n o)(hn:n<2^39):∃x o',gj bP o [] (.fr (nm x)) o'/\NT x.1 x.2/\Wl (n+3) o':=by
 obtain⟨r1,o1,c1,a1,b1,w1⟩:=tk 2 w (by omega) (by decide) (by decide)
 by_cases h0:r1=0
 ·obtain⟨r2,o2,c2,a2,b2,w2⟩:=tk 9 w1 (by omega) (by decide) (by decide)
  refine⟨(r2-4,1),o2,?_,o7 (by show (r2-4).natAbs<_;omega),w2.mono (by omega)⟩
  subst h0
  clear a1 b1 a2 b2 w w1 w2 hn
  unfold gj bP cw
  walk_at "evh"
  exact⟨_,rfl⟩
 ·have d:=decide_eq_false h0
  obtain⟨r2,o2,c2,a2,b2,w2⟩:=tk 201 w1 (by omega) (by decide) (by decide)
  obtain⟨r3,o3,c3,a3,b3,w3⟩:=tk 6 w2 (by omega) (by decide) (by decide)
  have k:=bc (og (t:=r2-100) (b:=1+r3) (by omega) (L2.Bd.mono (m:=64) (show (1+r3).natAbs<2^64 by omega) (by decide)))
  refine⟨nrm (r2-100) (1+r3),o3,?_,o8 (by omega) (by omega) (by omega),w3.mono (by omega)⟩
  simp only[JU,J7] at k
  clear a1 b1 a2 b2 a3 b3 w w1 w2 w3 hn h0
  unfold gj bP cw
  walk_at "evh"
  exact⟨_,rfl⟩
theorem sm0{n:Int}{o:LO}(w:Wl n o)(hn:n<2^39):∃x o',(∀ρ,bO bP [] [.rf 0] (.pv o::ρ)=some (.ok (.fr (nm x)),.pv o'::ρ))/\NT x.1 x.2/\Wl (n+3) o':=by
 obtain⟨x,o',h,k,w'⟩:=tj w hn
 exact⟨x,o',cw0 h rfl,k,w'⟩
theorem HG:(10:Int)^(17:Int).toNat=100000000000000000:=by decide
theorem oX{n:Int}{o:LO}(w:Wl n o)(hn:n<2^38):∃x o',gj bg o [] (.fr (nm x)) o'/\NT x.1 x.2/\Wl (n+4) o':=by
 obtain⟨r1,o1,c1,a1,b1,w1⟩:=tk 8 w (by omega) (by decide) (by decide)
 have p8:((0:Int)<=8/\(8:Int)<=1000000/\(10:Int).natAbs<2^64)=True:=by simp
 have p17:((0:Int)<=17/\(17:Int)<=1000000/\(10:Int).natAbs<2^64)=True:=by simp
 have q8:=IF
 have q17:=HG
 have f1:fits 20000 2=true:=aN (m:=64) (show (2:Int).natAbs<2^64 by decide) (by decide)
 have f2:fits 20000 100000000=true:=aN (m:=64) (show (100000000:Int).natAbs<2^64 by decide) (by decide)
 have f3:fits 20000 100000000000000000=true:=aN (m:=64) (show (100000000000000000:Int).natAbs<2^64 by decide) (by decide)
 by_cases h7:r1=7
 ·obtain⟨r2,o2,c2,a2,b2,w2⟩:=tk (2*100000000000000000+1) w1 (by omega) (by decide) (by decide)
  refine⟨(r2-100000000000000000,1),o2,?_,o7 (by show (r2-100000000000000000).natAbs<_;omega),w2.mono (by omega)⟩
  subst h7
  clear a1 b1 a2 b2 w w1 w2 hn p8 q8
  unfold gj bg bA
  walk_at "evh"
  exact⟨_,rfl⟩
 ·have d7:=decide_eq_false h7
  by_cases h6:r1=6
  ·obtain⟨r2,o2,c2,a2,b2,w2⟩:=tk (2*100000000+1) w1 (by omega) (by decide) (by decide)
   obtain⟨r3,o3,c3,a3,b3,w3⟩:=tk 100000000 w2 (by omega) (by decide) (by decide)
   have k:=bc (og (t:=r2-100000000) (b:=1+r3) (by omega) (L2.Bd.mono (m:=64) (show (1+r3).natAbs<2^64 by omega) (by decide)))
   refine⟨nrm (r2-100000000) (1+r3),o3,?_,o8 (by omega) (by omega) (by omega),w3.mono (by omega)⟩
   simp only[JU,J7] at k
   have d6:=decide_eq_true h6
   clear a1 b1 a2 b2 a3 b3 w w1 w2 w3 hn h7 h6 p17 q17
   unfold gj bg bA
   walk_at "evh"
   exact⟨_,rfl⟩
  ·have d6:=decide_eq_false h6
   obtain⟨x,o2,k,hx,w2⟩:=sm0 w1 (by omega)
   refine⟨x,o2,?_,hx,w2.mono (by omega)⟩
   generalize nm x=X at k ⊢
   clear a1 b1 w w1 w2 hn h7 h6 hx p8 q8 p17 q17
   unfold gj bg bA
   walk_at "evh"
   exact⟨_,rfl⟩
theorem nb0{n:Int}{o:LO}(w:Wl n o)(hn:n<2^38):∃x o',(∀ρ,bO bg [] [.rf 0] (.pv o::ρ)=some (.ok (.fr (nm x)),.pv o'::ρ))/\NT x.1 x.2/\Wl (n+4) o':=by
 obtain⟨x,o',h,k,w'⟩:=oX w hn
 exact⟨x,o',cw0 h rfl,k,w'⟩
theorem xx{n:Int}{o:LO}(w:Wl n o)(hn:n<2^37):∃x o',gj bX o [] (.fr (nm x)) o'/\NT x.1 x.2/\Wl (n+5) o':=by
 obtain⟨r1,o1,c1,a1,b1,w1⟩:=tk 4 w (by omega) (by decide) (by decide)
 have p18:((0:Int)<=18/\(18:Int)<=1000000/\(10:Int).natAbs<2^64)=True:=by simp
 have q18:=AV
 have f1:fits 20000 2=true:=aN (m:=64) (show (2:Int).natAbs<2^64 by decide) (by decide)
 have f3:fits 20000 1000000000000000000=true:=aN (m:=64) (show (1000000000000000000:Int).natAbs<2^64 by decide) (by decide)
 by_cases h3:r1=3
 ·obtain⟨r2,o2,c2,a2,b2,w2⟩:=tk (2*1000000000000000000-1) w1 (by omega) (by decide) (by decide)
  obtain⟨r3,o3,c3,a3,b3,w3⟩:=tk (1000000000000000000-1) w2 (by omega) (by decide) (by decide)
  have k:=bc (og (t:=r2-1000000000000000000+1) (b:=1+r3) (by omega) (L2.Bd.mono (m:=64) (show (1+r3).natAbs<2^64 by omega) (by decide)))
  refine⟨nrm (r2-1000000000000000000+1) (1+r3),o3,?_,o8 (by omega) (by omega) (by omega),w3.mono (by omega)⟩
  simp only[JU,J7] at k
  subst h3
  clear a1 b1 a2 b2 a3 b3 w w1 w2 w3 hn
  unfold gj bX dS
  walk_at "evh"
  exact⟨_,rfl⟩
 ·have d3:=decide_eq_false h3
  obtain⟨x,o2,k,hx,w2⟩:=nb0 w1 (by omega)
  refine⟨x,o2,?_,hx,w2.mono (by omega)⟩
  generalize nm x=X at k ⊢
  clear a1 b1 w w1 w2 hn h3 hx p18 q18
  unfold gj bX dS
  walk_at "evh"
  exact⟨_,rfl⟩
theorem Ji{n:Int}{o:LO}(m:Int)(w:Wl n o)(hn:n<2^40)(m0:0<m)(m1:m<2^64):∃r o',(∀a b ρ,bO aw [] [.rf 2,.fr (.int m)] (a::b::.pv o::ρ)=some (.ok (.fr (.int r)),a::b::.pv o'::ρ))/\0<=r/\r<m/\Wl (n+1) o':=by
 obtain⟨r,o',h,h1,h2,h3⟩:=oh (m:=m) w hn m0 m1
 exact⟨r,o',λa b ρ=>lz (i:=2) h rfl rfl,h1,h2,h3⟩
noncomputable def jf(z:Str):List Str:=["0" ++ z, " " ++ z,z ++ " ", "+" ++ z,z ++ "/1",z ++ "/", "/" ++ z,z ++ ".0"]
theorem Ci{z:Str}(hz:z.length<=50)(ρ:List Sl)(a c d e f:Sl)(hf:f=.un) :
  aJ 5 (fJ (ae (mOp aC (mC (.str "0")) (ag 1)) (ae (mOp aC (mC (.str " ")) (ag 1)) (ae (mOp aC (ag 1) (mC (.str " "))) (ae (mOp aC (mC (.str "+")) (ag 1)) (ae (mOp aC (ag 1) (mC (.str "/1"))) (ae (mOp aC (ag 1) (mC (.str "/"))) (ae (mOp aC (mC (.str "/")) (ag 1)) (ae (mOp aC (ag 1) (mC (.str ".0"))) az))))))))) [a,.fr (.str z),c,d,e,f]=some (.nx,[a,.fr (.str z),c,d,e,.lv (.lst ((jf z).map A.str))]):=by
 have q1:((J4 "0").length+z.length<=100000)=True:=by
  have:(J4 "0").length=1:=by decide +kernel
  simp only[eq_iff_iff,iff_true];omega
 have q2:((J4 " ").length+z.length<=100000)=True:=by
  have:(J4 " ").length=1:=by decide +kernel
  simp only[eq_iff_iff,iff_true];omega
 have q3:((J4 "+").length+z.length<=100000)=True:=by
  have:(J4 "+").length=1:=by decide +kernel
  simp only[eq_iff_iff,iff_true];omega
 have q4:((J4 "/").length+z.length<=100000)=True:=by
  have:(J4 "/").length=1:=by decide +kernel
  simp only[eq_iff_iff,iff_true];omega
 have q5:((J4 "-").length+z.length<=100000)=True:=by
  have:(J4 "-").length=1:=by decide +kernel
  simp only[eq_iff_iff,iff_true];omega
 have q6:(z.length+(J4 " ").length<=100000)=True:=by
  have:(J4 " ").length=1:=by decide +kernel
  simp only[eq_iff_iff,iff_true];omega
 have q7:(z.length+(J4 "/1").length<=100000)=True:=by
  have:(J4 "/1").length=2:=by decide +kernel
  simp only[eq_iff_iff,iff_true];omega
 have q8:(z.length+(J4 "/").length<=100000)=True:=by
  have:(J4 "/").length=1:=by decide +kernel
  simp only[eq_iff_iff,iff_true];omega
 have q9:(z.length+(J4 ".0").length<=100000)=True:=by
  have:(J4 ".0").length=2:=by decide +kernel
  simp only[eq_iff_iff,iff_true];omega
 have q10:(z.length+(J4 "\n").length<=100000)=True:=by
  have:(J4 "\n").length=1:=by decide +kernel
  simp only[eq_iff_iff,iff_true];omega
 subst hf
 unfold jf
 simp only[JU,J7]
 clear hz
 walk_at "evh"
noncomputable def kH(t b m:Int)(z:Str):List Str:=["-" ++ (if t<0 then z else "0"),(txI (t*m) ++ "/")++txI (b*m), "00", "-0/7", "0/3"]
theorem DF{t b m:Int}{z:Str}{XA:List A}(hz:z.length<=50)(hX:XA.length=8)(ht:t.natAbs<10^18)(hb:b.natAbs<10^18)(hm:2<=m/\m<=10)(c:Sl) :
  aJ 5 (mOp aC (ag 5) (fJ (ae (mOp aC (mC (.str "-")) (mOp (fOr fIx aE) (fJ (ae (mC (.str "0")) (ae (ag 1) az))) (mB1 rR (mOp fLt (mOp (fOr fIx aE) (ag 0) (mC (.int 0))) (mC (.int 0)))))) (ae (mOp aC (mOp aC (ag 4) (mC (.str "/"))) (mB1 ix (mOp dw (mOp (fOr fIx aE) (ag 0) (mC (.int 1))) (ag 3)))) (ae (mC (.str "00")) (ae (mC (.str "-0/7")) (ae (mC (.str "0/3")) az)))))))
   [.fr (.tup [.int t,.int b]),.fr (.str z),c,.fr (.int m),.fr (.str (txI (t*m))),.lv (.lst XA)] =
   some (.nx,[.fr (.tup [.int t,.int b]),.fr (.str z),c,.fr (.int m),.fr (.str (txI (t*m))),.lv (.lst (XA++(kH t b m z).map A.str))]):=by
 have e0:∀(x:A)(r:List A),atI (x::r) 0=some x:=λx r=>gP x r
 have e1:∀(x y:A)(r:List A),atI (x::y::r) 1=some y:=λx y r=>jh x y r
 have tm:(t*m).natAbs<10^25:=by
  rw[KW]
  have:m.natAbs<=10:=by omega
  exact K3 (LF (KU ht) this) (by decide)
 have bm:(b*m).natAbs<10^25:=by
  rw[KW]
  have:m.natAbs<=10:=by omega
  exact K3 (LF (KU hb) this) (by decide)
 have l1:=jq tm
 have l2:=jq bm
 have f2:=qZ (lg bm)
 have fb:fits 20000 b=true:=aN (m:=64) (show b.natAbs<2^64 from LW hb (by decide)) (by decide)
 have fm:fits 20000 m=true:=aN (m:=64) (show m.natAbs<2^64 by omega) (by decide)
 have s1:(J4 "/").length=1:=by decide +kernel
 have s2:(J4 "-").length=1:=by decide +kernel
 have s3:(J4 "0").length=1:=by decide +kernel
 have ll:∀x y:Str,(x++y).length=x.length+y.length:=λx y=>by rw[aS,aS,aS,bz,Kg]
 have g1:((txI (t*m)).length+(J4 "/").length<=100000)=True:=by simp only[eq_iff_iff,iff_true];omega
 have g2:((txI (t*m)++J4 "/").length+(txI (b*m)).length<=100000)=True:=by simp only[eq_iff_iff,iff_true];rw[ll];omega
 have g3:((J4 "-").length+z.length<=100000)=True:=by simp only[eq_iff_iff,iff_true];omega
 have g4:((J4 "-").length+(J4 "0").length<=100000)=True:=by simp only[eq_iff_iff,iff_true];omega
 have g5:(XA.length+5<=100000)=True:=by simp only[eq_iff_iff,iff_true];omega
 have g6:(XA.length<=100000)=True:=by simp only[eq_iff_iff,iff_true];omega
 unfold kH
 simp only[JU,J7]
 clear hz hX ht hb hm tm bm l1 l2 s1 s2 s3 ll
 by_cases h:t<0
 ·have d:=decide_eq_true h
  rw[if_pos h]
  clear h
  walk_at "evh"
 ·have d:=decide_eq_false h
  rw[if_neg h]
  clear h
  walk_at "evh"
noncomputable def o19:Str := "1111111111111111111"
noncomputable def s19:Str := "7777777777777777777"
noncomputable def qJ(z:Str):List Str:=[o19, "-" ++ o19, "1/" ++ s19, "1/0", "", "-",z ++ "\n"]
theorem DR{z:Str}{XB:List A}(hz:z.length<=50)(hX:XB.length=13)(a c d e:Sl) :
  a5 (mOp aC (ag 5) (fJ (ae (mOp dw (mC (.str "1")) (mC (.int 19))) (ae (mOp aC (mC (.str "-")) (mOp dw (mC (.str "1")) (mC (.int 19)))) (ae (mOp aC (mC (.str "1/")) (mOp dw (mC (.str "7")) (mC (.int 19)))) (ae (mC (.str "1/0")) (ae (mC (.str "")) (ae (mC (.str "-")) (ae (mOp aC (ag 1) (mC (.str "\n"))) az)))))))))
   [a,.fr (.str z),c,d,e,.lv (.lst XB)]=some (.rt (.lv (.lst (XB++(qJ z).map A.str))),[a,.fr (.str z),c,d,e,.lv (.lst XB)]):=by
 have m1:OV (J4 "1") 19=o19:=by decide +kernel
 have m7:OV (J4 "7") 19=s19:=by decide +kernel
 have c1:((1:Int)<=19/\(19:Int)<=1000/\(J4 "1").length<=1000)=True:=by simp only[eq_iff_iff,iff_true];decide +kernel
 have c7:((1:Int)<=19/\(19:Int)<=1000/\(J4 "7").length<=1000)=True:=by simp only[eq_iff_iff,iff_true];decide +kernel
 have s1:(J4 "-").length=1:=by decide +kernel
 have s2:(J4 "1/").length=2:=by decide +kernel
 have s3:(J4 "\n").length=1:=by decide +kernel
 have s4:o19.length=19:=by decide +kernel
 have s5:s19.length=19:=by decide +kernel
 have g1:((J4 "-").length+o19.length<=100000)=True:=by simp only[eq_iff_iff,iff_true];omega
 have g2:((J4 "1/").length+s19.length<=100000)=True:=by simp only[eq_iff_iff,iff_true];omega
 have g3:(z.length+(J4 "\n").length<=100000)=True:=by simp only[eq_iff_iff,iff_true];omega
 have g5:(XB.length+7<=100000)=True:=by simp only[eq_iff_iff,iff_true];omega
 have g6:(XB.length<=100000)=True:=by simp only[eq_iff_iff,iff_true];omega
 unfold qJ
 simp only[JU,J7]
 generalize o19=O at *
 generalize s19=S at *
 clear hz hX s1 s2 s3 s4 s5
 walk_at "evh"
noncomputable def ko(t b m:Int)(z:Str):List Str:=jf z++kH t b m z++qJ z
theorem tX{t b:Int}{z:Str}{n:Int}{o:LO}(h:NT t b)(hz:z.length<=50)(w:Wl n o)(hn:n<2^39) :
  ∃m o',(2<=m/\m<=10)/\Wl (n+1) o'/\c0 [.fr (.tup [.int t,.int b]),.fr (.str z),.pv o]=some (.rt (.lv (.lst ((ko t b m z).map A.str))),[.fr (.tup [.int t,.int b]),.fr (.str z),.pv o',.fr (.int m),.fr (.str (txI (t*m))),.lv (.lst ((jf z++kH t b m z).map A.str))]):=by
 obtain⟨r,o',c1,r0,r1,w'⟩:=Ji 9 w (by omega) (by decide) (by decide)
 have hm:2<=2+r/\2+r<=10:=by omega
 refine⟨2+r,o',hm,w',?_⟩
 have e0:∀(x:A)(r:List A),atI (x::r) 0=some x:=λx r=>gP x r
 have tm:(t*(2+r)).natAbs<10^25:=by
  rw[KW]
  have:(2+r).natAbs<=10:=by omega
  exact K3 (LF (KU h.t1) this) (by decide)
 have f1:=qZ (lg tm)
 have ft:fits 20000 t=true:=aN (m:=64) (show t.natAbs<2^64 from LW h.t1 (by decide)) (by decide)
 have fm:fits 20000 (2+r)=true:=aN (m:=64) (show (2+r).natAbs<2^64 by omega) (by decide)
 have hb:b.natAbs<10^18:=by have:=h.b2;have:=h.b1;omega
 have s1:aJ 3 (mOp aC (mC (.int 2)) (av aw [] (ae (ag 2) (ae (mC (.int 9)) az)))) [.fr (.tup [.int t,.int b]),.fr (.str z),.pv o,.un,.un,.un]=some (.nx,[.fr (.tup [.int t,.int b]),.fr (.str z),.pv o',.fr (.int (2+r)),.un,.un]):=by
  clear f1 ft fm tm hm hb w w' r0 r1 hn hz h
  walk_at "evh"
 have s2:aJ 4 (mB1 ix (mOp dw (mOp (fOr fIx aE) (ag 0) (mC (.int 0))) (ag 3))) [.fr (.tup [.int t,.int b]),.fr (.str z),.pv o',.fr (.int (2+r)),.un,.un]=some (.nx,[.fr (.tup [.int t,.int b]),.fr (.str z),.pv o',.fr (.int (2+r)),.fr (.str (txI (t*(2+r)))),.un]):=by
  clear s1 c1 tm hm hb w w' r0 r1 hn hz h
  walk_at "evh"
 have s3:=Ci hz [] (.fr (.tup [.int t,.int b])) (.pv o') (.fr (.int (2+r))) (.fr (.str (txI (t*(2+r))))) .un rfl
 have s4:=DF (XA:=(jf z).map A.str) hz rfl h.t1 hb hm (.pv o')
 have s5:=DR (XB:=(jf z).map A.str++(kH t b (2+r) z).map A.str) hz rfl (.fr (.tup [.int t,.int b])) (.pv o') (.fr (.int (2+r))) (.fr (.str (txI (t*(2+r)))))
 refine xU ?_
 show cZ [.fr (.tup [.int t,.int b]),.fr (.str z),.pv o,.un,.un,.un]=_
 unfold cZ
 rw[cT,s1]
 simp only
 rw[cT,s2]
 simp only
 rw[cT,s3]
 simp only
 rw[cT,s4]
 simp only
 rw[s5]
 unfold ko
 simp only[KD]
theorem Dq{f:Ms}{a b:A}{o o' O:LO}{r0 r1:A}{rest:List Sl}(h:f [.fr a,.fr b,.pv o]=some (.rt (.lv O),.fr r0::.fr r1::.pv o'::rest)):∀x y ρ,bO f [] [.fr a,.fr b,.rf 2] (x::y::.lv o::ρ)=some (.ok (.nw O),x::y::.lv o'::ρ):=λx y ρ=>by
 unfold bO
 have e1:bZ ([Rr.fr a,.fr b,.rf 2]++([]:List A).map Rr.fr) (x::y::Sl.lv o::ρ)=some ([.fr a,.fr b,.lv o],x::y::.un::ρ):=rfl
 rw[e1]
 have e2:([.fr a,.fr b,.lv o]:List Sl).map toP=[.fr a,.fr b,.pv o]:=rfl
 simp only[e2,h]
 rfl
theorem wt{t b m:Int}(h:NT t b)(hm:2<=m/\m<=10):∀y∈ko t b m (shT t b),eI au [.str y] "NoNumber" := by
 have hl:=h.len
 have hL:=Bl (t:=t) h.b1
 have ll:∀x y:Str,(x++y).length=x.length+y.length:=λx y=>by rw[aS,aS,aS,bz,Kg]
 have k0:Lz ("0" : Str)=[48]:=by decide +kernel
 have kb:Lz (" " : Str)=[32]:=by decide +kernel
 have kp:Lz ("+" : Str)=[43]:=by decide +kernel
 have ks:Lz ("/" : Str)=[47]:=by decide +kernel
 have k1:Lz ("/1" : Str)=[47,49]:=by decide +kernel
 have kd:Lz (".0" : Str)=[46,48]:=by decide +kernel
 have km:Lz ("-" : Str)=[45]:=by decide +kernel
 have kn:Lz ("\n" : Str)=[10]:=by decide +kernel
 have n47:∀l:List Nat,(47:Nat)∉sgn t:=λ_ z=>by unfold sgn at z;split at z<;>simp at z
 have z50:∀x:Str,x.length<=10->(x++shT t b).length<=1000/\(shT t b++x).length<=1000:=λx hx=>by rw[ll,ll];omega
 intro y hy
 unfold ko jf kH qJ at hy
 simp only[Lv,Ku,J6,List.not_mem_nil,or_false] at hy
 rcases hy with rfl|rfl|rfl|rfl|rfl|rfl|rfl|rfl|rfl|rfl|rfl|rfl|rfl|rfl|rfl|rfl|rfl|rfl|rfl|rfl
 ·refine iU h (p:=[48]) (by decide) (by simp) (by rw[bz,k0,hL]) (z50 _ (by rw[aS,k0];decide)).1 ?_
  unfold sgn
  split
  ·exact iR (c:=45) (by simp) (by decide)
  ·exact vX (by simpa using pM t.natAbs)
 ·exact iU h (p:=[32]) (by decide) (by simp) (by rw[bz,kb,hL]) (z50 _ (by rw[aS,kb];decide)).1 (iR (c:=32) (by simp) (by decide))
 ·exact gT h (q:=[32]) (c:=32) (by decide) (by simp) (by decide) (by rw[bz,kb,hL]) (z50 _ (by rw[aS,kb];decide)).2
 ·exact iU h (p:=[43]) (by decide) (by simp) (by rw[bz,kp,hL]) (z50 _ (by rw[aS,kp];decide)).1 (iR (c:=43) (by simp) (by decide))
 ·exact uH h (by rw[bz,k1,hL]) (z50 _ (by rw[aS,k1];decide)).2
 ·exact oB h (by rw[bz,ks,hL]) (z50 _ (by rw[aS,ks];decide)).2
 ·have e:Lz ("/" ++ shT t b)=[]++47::(sgn t++jn 47 (wds t b)):=by rw[bz,ks,hL];rfl
  obtain⟨_,n2⟩:=gc (z := "/" ++ shT t b) (by rw[e];simp)
  exact cx (z50 _ (by rw[aS,ks];decide)).1 (w:=[]) (by simp) qI (.inr ⟨_,by rw[n2];exact e⟩)
 ·exact gT h (q:=[46,48]) (c:=46) (by decide) (by simp) (by decide) (by rw[bz,kd,hL]) (z50 _ (by rw[aS,kd];decide)).2
 ·by_cases ht:t<0
  ·rw[if_pos ht]
   exact uu h ht (by rw[bz,km,hL];rfl) (z50 _ (by rw[aS,km];decide)).1
  ·rw[if_neg ht]
   exact rV (by rw[bz,km,k0];rfl)
 ·have bp:1<=b*m:=by
   have:=h.b1
   exact Int.le_trans (by omega) (Int.mul_le_mul_of_nonneg_right this (by omega))
  have tm:(t*m).natAbs<10^25:=by
   rw[KW]
   have:m.natAbs<=10:=by omega
   exact K3 (LF (KU h.t1) this) (by decide)
  have bm:(b*m).natAbs<10^25:=by
   rw[KW]
   have:m.natAbs<=10:=by omega
   have hb:b.natAbs<=10^18:=by have:=h.b2;have:=h.b1;omega
   exact K3 (LF hb this) (by decide)
  refine qj (s:=t*m) (x:=(t*m).natAbs) (y:=(b*m).natAbs) ?_ ?_ (.inr (.inr (.inr (.inl ?_))))
  ·rw[bz,bz,rO,rO,ks,pL bp];simp
  ·rw[ll,ll]
   have:=jq tm
   have:=jq bm
   have:("/" : Str).length=1:=by rw[aS,ks];rfl
   omega
  ·rw[KW,KW,Nat.gcd_mul_right]
   intro e
   have h1:m.natAbs ∣ 1:=by rw[<- e];exact Nat.dvd_mul_left _ _
   have:=Nat.le_of_dvd (by decide) h1
   omega
 ·have e:Lz ("00" : Str)=[48,48]:=by decide +kernel
  obtain⟨_,n2⟩:=gc (z := "00") (by rw[e];simp)
  exact cx (by rw[aS,e];decide) (w:=[48,48]) (by decide) (vX (by simp)) (.inl (by rw[n2];exact e))
 ·exact qj (s:=-1) (x:=0) (y:=7) (by decide +kernel) (by decide +kernel) (.inr (.inr (.inr (.inr ⟨rfl,by decide⟩))))
 ·exact qj (s:=1) (x:=0) (y:=3) (by decide +kernel) (by decide +kernel) (.inr (.inr (.inr (.inl (by decide)))))
 ·have e:(Lz o19).length=19:=by decide +kernel
  obtain⟨_,n2⟩:=gc (z:=o19) (by decide +kernel)
  exact cx (by rw[aS,e];decide) (w:=Lz o19) (by decide +kernel) (jB (by rw[e];decide)) (.inl (by rw[n2]))
 ·have e:Lz ("-" ++ o19)=45::Lz o19:=by rw[bz,km];rfl
  obtain⟨_,n2⟩:=iT e
  exact cx (by rw[aS,e];decide +kernel) (w:=Lz o19) (by decide +kernel) (jB (by decide +kernel)) (.inl n2)
 ·have k2:Lz ("1/" : Str)=[49,47]:=by decide +kernel
  have e:Lz ("1/" ++ s19)=[49]++47::Lz s19:=by rw[bz,k2];rfl
  obtain⟨_,n2⟩:=gc (z := "1/" ++ s19) (by rw[e];simp)
  exact lu (by rw[aS,e];decide +kernel) (w:=Lz s19) (by decide +kernel) (jB (by decide +kernel)) (.inr ⟨[49],by rw[n2];exact e⟩)
 ·exact qj (s:=1) (x:=1) (y:=0) (by decide +kernel) (by decide +kernel) (.inr (.inr (.inl (by decide))))
 ·obtain⟨_,n2⟩:=gc (z := "") (by decide +kernel)
  exact cx (by decide +kernel) (w:=[]) (by simp) qI (.inl (by rw[n2];decide +kernel))
 ·obtain⟨_,n2⟩:=iT (z := "-") (r:=[]) km
  exact cx (by decide +kernel) (w:=[]) (by simp) qI (.inl n2)
 ·exact gT h (q:=[10]) (c:=10) (by decide) (by simp) (by decide) (by rw[bz,kn,hL]) (z50 _ (by rw[aS,kn];decide)).2
noncomputable def mB:Ms:=aF (aJ 2 (av bL [] (ae (aM 0) (ae (aM 1) az)))) (aF (aJ 3 (av bX [] (ae (ag 2) az))) (aF (aJ 4 (av aT [] (ae (aM 3) az))) (aF (sIf (mOr (dg (ai (mB1 (cQ Ty.str) (ag 4)))) (ai (mOp fNe (ag 4) (av bN [] (ae (aM 3) az))))) (a5 (mC (.bl false))) aR) (aF (aJ 5 (av au [] (ae (aM 4) az))) (aF (sIf (mOr (dg (ai (mB1 (cQ Ty.tuple) (ag 5)))) (mOr (ai (mOp fNe (ag 5) (ag 3))) (dg (ai (mB1 (cQ Ty.int) (mOp (fOr fIx aE) (ag 5) (mC (.int 0)))))))) (a5 (mC (.bl false))) aR) (aF (sIf (mOr (ai (mB1 (cQ Ty.bool) (mOp (fOr fIx aE) (ag 5) (mC (.int 0))))) (ai (mB1 (cQ Ty.bool) (mOp (fOr fIx aE) (ag 5) (mC (.int 1)))))) (a5 (mC (.bl false))) aR) (aF (aJ 6 (av c0 [] (ae (aM 3) (ae (aM 4) (ae (ag 2) az))))) (iQ (eE (mC (.int 4))) (cP 7) (sIf (dg (ai (av bu [] (ae (mOp (fOr fIx aE) (ag 6) (av aw [] (ae (ag 2) (ae (mB1 eB (ag 6)) az)))) az)))) (a5 (mC (.bl false))) aR)))))))))
noncomputable def mr:Ms:=sIf (dg (ai (av bu [] (ae (mOp (fOr fIx aE) (ag 6) (av aw [] (ae (ag 2) (ae (mB1 eB (ag 6)) az)))) az)))) (a5 (mC (.bl false))) aR
theorem uY{sc K N T F:A}{ys:List Str}{n:Int}{o:LO}{x7:Sl}(hy:∀y∈ys,eI au [.str y] "NoNumber")(hl:ys.length=20)(w:Wl n o)(hn:n<2^38)(h7:np x7=true) :
  ∃o' y7,np y7=true/\iQ (eE (mC (.int 4))) (cP 7) mr [.fr sc,.fr K,.lv o,.fr N,.fr T,.fr F,.lv (.lst (ys.map A.str)),x7]=some (.nx,[.fr sc,.fr K,.lv o',.fr N,.fr T,.fr F,.lv (.lst (ys.map A.str)),y7]):=by
 have hr:iQ (eE (mC (.int 4))) (cP 7) mr [.fr sc,.fr K,.lv o,.fr N,.fr T,.fr F,.lv (.lst (ys.map A.str)),x7]=forL (cP 7) mr [.int 0,.int 1,.int 2,.int 3] [.fr sc,.fr K,.lv o,.fr N,.fr T,.fr F,.lv (.lst (ys.map A.str)),x7]:=by rfl
 rw[hr]
 obtain⟨ρ1,hf,o',y7,g7,_,rfl⟩:=nR (G:=cP 7) (b:=mr) (as:=[.int 0,.int 1,.int 2,.int 3]) (λi ρ=>∃o' y7,np y7=true/\Wl (n+i) o'/\ρ=[.fr sc,.fr K,.lv o',.fr N,.fr T,.fr F,.lv (.lst (ys.map A.str)),y7]) (ρ:=[.fr sc,.fr K,.lv o,.fr N,.fr T,.fr F,.lv (.lst (ys.map A.str)),x7]) ⟨o,x7,h7,by simpa using w,rfl⟩ (by
  rintro i a ρ ha ⟨o1,y7,g7,w1,rfl⟩
  have hi:i<4:=(J0.mp ha).1
  obtain⟨r,o2,c,r0,r1,w2⟩:=tk2 20 w1 (by omega) (by decide) (by decide)
  obtain⟨k,rfl⟩:=Int.eq_ofNat_of_zero_le r0
  have hk:k<ys.length:=by omega
  have eA:atI (ys.map A.str) ((k:Nat):Int)=some (.str ys[k]):=by
   unfold atI L2.ixN
   rw[if_pos (by omega),if_pos (by rw[Ke];omega)]
   simp[hk]
  have v:=bc (sf (hy ys[k] (OY hk)))
  have e20:((ys.map A.str).length:Int)=20:=by rw[Ke,hl];rfl
  simp only[JU,J7] at v
  refine⟨[.fr sc,.fr K,.lv o1,.fr N,.fr T,.fr F,.lv (.lst (ys.map A.str)),.fr a],[.fr sc,.fr K,.lv o2,.fr N,.fr T,.fr F,.lv (.lst (ys.map A.str)),.fr a],?_,.inl ?_,o2,.fr a,rfl,by push_cast;exact w2.mono (by omega),rfl⟩
  ·generalize ys.map A.str=Y
   clear v eA e20 c hy ha
   walk_at "evh"
  ·unfold mr
   generalize ys[k]=y at *
   generalize ys.map A.str=Y at *
   clear hy ha w w1 w2 r0 r1 hl hn
   walk_at "evh")
 exact⟨o',y7,g7,hf⟩
theorem GD(x:Num):eqA (.tup [.int x.1,.int x.2]) (.tup [.int x.1,.int x.2])=some true:=by
 have:=EW x x
 unfold nm at this
 rw[this];simp
theorem zh(ns:List Int){k:Int}(k0:0<=k)(k1:k<=100){x2 x3 x4 x5 x6 x7:Sl}(h2:np x2=true)(h3:np x3=true)(h4:np x4=true)(h5:np x5=true)(h6:np x6=true)(h7:np x7=true) :
  ∃o N T F B y7,np y7=true/\mB [.fr (.lst (ns.map A.int)),.fr (.int k),x2,x3,x4,x5,x6,x7]=some (.nx,[.fr (.lst (ns.map A.int)),.fr (.int k),.lv o,.fr N,.fr T,.fr F,.lv B,y7]):=by
 obtain⟨o1,v1,w1⟩:=DW ns k k0 (by omega)
 have c1:=yE v1
 obtain⟨x,o2,v2,hx,w2⟩:=xx w1 (by decide)
 have c2:=cw2 v2 rfl
 have c3:=bc (qv hx)
 have c4:=bc (v8 hx)
 have c5:=bc (uN hx)
 obtain⟨m,o3,hm,w3,hb⟩:=tX hx hx.len w2 (by decide)
 have c6:=Dq hb
 have e0:∀(x:A)(r:List A),atI (x::r) 0=some x:=λx r=>gP x r
 have e1:∀(x y:A)(r:List A),atI (x::y::r) 1=some y:=λx y r=>jh x y r
 have tb:decide (Ty.bool=Ty.int)=false:=by decide
 have ez:=eq_str (shT x.1 x.2) (shT x.1 x.2)
 rw[decide_eq_true rfl] at ez
 have ex:=GD x
 have ba:=wt hx hm
 have bl:(ko x.1 x.2 m (shT x.1 x.2)).length=20:=rfl
 obtain⟨o4,y7,g7,s9⟩:=uY (sc:=.lst (ns.map A.int)) (K:=.int k) (N:=.tup [.int x.1,.int x.2]) (T:=.str (shT x.1 x.2)) (F:=.tup [.int x.1,.int x.2]) ba bl w3 (by decide) h7
 generalize (ko x.1 x.2 m (shT x.1 x.2)).map A.str=B at *
 generalize shT x.1 x.2=z at *
 unfold nm at c2
 simp only[JU,J7] at c1 c2 c3 c4 c5
 generalize A.lst (ns.map A.int)=sc at *
 clear v1 v2 w1 w2 w3 hx hm hb ba bl k0 k1
 refine⟨o4,.tup [.int x.1,.int x.2],.str z,.tup [.int x.1,.int x.2],.lst B,y7,g7,?_⟩
 have s1:(aJ 2 (av bL [] (ae (aM 0) (ae (aM 1) az)))) [.fr sc,.fr (.int k),x2,x3,x4,x5,x6,x7]=some (.nx,[.fr sc,.fr (.int k),.lv o1,x3,x4,x5,x6,x7]):=by
  clear c2 c3 c4 c5 c6 e0 e1 ez ex h3 h4 h5 h6 h7 g7 s9
  walk_at "evh"
 have s2:(aJ 3 (av bX [] (ae (ag 2) az))) [.fr sc,.fr (.int k),.lv o1,x3,x4,x5,x6,x7]=some (.nx,[.fr sc,.fr (.int k),.lv o2,.fr (.tup [.int x.1,.int x.2]),x4,x5,x6,x7]):=by
  clear s1 c1 c3 c4 c5 c6 e0 e1 ez ex h2 h4 h5 h6 h7 g7 s9
  walk_at "evh"
 have s3:(aJ 4 (av aT [] (ae (aM 3) az))) [.fr sc,.fr (.int k),.lv o2,.fr (.tup [.int x.1,.int x.2]),x4,x5,x6,x7]=some (.nx,[.fr sc,.fr (.int k),.lv o2,.fr (.tup [.int x.1,.int x.2]),.fr (.str z),x5,x6,x7]):=by
  clear s1 s2 c1 c2 c4 c5 c6 e0 e1 ez ex h2 h3 h5 h6 h7 g7 s9
  walk_at "evh"
 have s4:(sIf (mOr (dg (ai (mB1 (cQ Ty.str) (ag 4)))) (ai (mOp fNe (ag 4) (av bN [] (ae (aM 3) az))))) (a5 (mC (.bl false))) aR) [.fr sc,.fr (.int k),.lv o2,.fr (.tup [.int x.1,.int x.2]),.fr (.str z),x5,x6,x7]=some (.nx,[.fr sc,.fr (.int k),.lv o2,.fr (.tup [.int x.1,.int x.2]),.fr (.str z),x5,x6,x7]):=by
  clear s1 s2 s3 c1 c2 c3 c5 c6 e0 e1 ex h2 h3 h4 h5 h6 h7 g7 s9
  walk_at "evh"
 have s5:(aJ 5 (av au [] (ae (aM 4) az))) [.fr sc,.fr (.int k),.lv o2,.fr (.tup [.int x.1,.int x.2]),.fr (.str z),x5,x6,x7]=some (.nx,[.fr sc,.fr (.int k),.lv o2,.fr (.tup [.int x.1,.int x.2]),.fr (.str z),.fr (.tup [.int x.1,.int x.2]),x6,x7]):=by
  clear s1 s2 s3 s4 c1 c2 c3 c4 c6 e0 e1 ez ex h2 h3 h4 h6 h7 g7 s9
  walk_at "evh"
 have s6:(sIf (mOr (dg (ai (mB1 (cQ Ty.tuple) (ag 5)))) (mOr (ai (mOp fNe (ag 5) (ag 3))) (dg (ai (mB1 (cQ Ty.int) (mOp (fOr fIx aE) (ag 5) (mC (.int 0)))))))) (a5 (mC (.bl false))) aR) [.fr sc,.fr (.int k),.lv o2,.fr (.tup [.int x.1,.int x.2]),.fr (.str z),.fr (.tup [.int x.1,.int x.2]),x6,x7]=some (.nx,[.fr sc,.fr (.int k),.lv o2,.fr (.tup [.int x.1,.int x.2]),.fr (.str z),.fr (.tup [.int x.1,.int x.2]),x6,x7]):=by
  clear s1 s2 s3 s4 s5 c1 c2 c3 c4 c5 c6 e1 ez h2 h3 h4 h5 h6 h7 g7 s9
  walk_at "evh"
 have s7:(sIf (mOr (ai (mB1 (cQ Ty.bool) (mOp (fOr fIx aE) (ag 5) (mC (.int 0))))) (ai (mB1 (cQ Ty.bool) (mOp (fOr fIx aE) (ag 5) (mC (.int 1)))))) (a5 (mC (.bl false))) aR) [.fr sc,.fr (.int k),.lv o2,.fr (.tup [.int x.1,.int x.2]),.fr (.str z),.fr (.tup [.int x.1,.int x.2]),x6,x7]=some (.nx,[.fr sc,.fr (.int k),.lv o2,.fr (.tup [.int x.1,.int x.2]),.fr (.str z),.fr (.tup [.int x.1,.int x.2]),x6,x7]):=by
  clear s1 s2 s3 s4 s5 s6 c1 c2 c3 c4 c5 c6 ez ex h2 h3 h4 h5 h6 h7 g7 s9
  walk_at "evh"
 have s8:(aJ 6 (av c0 [] (ae (aM 3) (ae (aM 4) (ae (ag 2) az))))) [.fr sc,.fr (.int k),.lv o2,.fr (.tup [.int x.1,.int x.2]),.fr (.str z),.fr (.tup [.int x.1,.int x.2]),x6,x7]=some (.nx,[.fr sc,.fr (.int k),.lv o3,.fr (.tup [.int x.1,.int x.2]),.fr (.str z),.fr (.tup [.int x.1,.int x.2]),.lv (.lst B),x7]):=by
  clear s1 s2 s3 s4 s5 s6 s7 c1 c2 c3 c4 c5 e0 e1 ez ex h2 h3 h4 h5 h7 g7 s9
  walk_at "evh"
 unfold mB
 rw[cT,s1]
 simp only
 rw[cT,s2]
 simp only
 rw[cT,s3]
 simp only
 rw[cT,s4]
 simp only
 rw[cT,s5]
 simp only
 rw[cT,s6]
 simp only
 rw[cT,s7]
 simp only
 rw[cT,s8]
 simp only
 exact s9
theorem NT0:NT 0 1:=o7 (by decide)
theorem NT7:NT (-7) 2:=⟨by decide,by decide,by decide,by decide⟩
theorem xN{sc:A}{x1 x2 x3 x4 x5 x6 x7:Sl}:∃ρ,(a5 (kr (mOp fEq (av au [] (ae (mC (.str "0")) az)) (g9 (ae (mC (.int 0)) (ae (mC (.int 1)) az)))) (mOp fEq (av aT [] (ae (g9 (ae (mUn oV (mC (.int 7))) (ae (mC (.int 2)) az))) az)) (mC (.str "-7/2"))))) [.fr sc,x1,x2,x3,x4,x5,x6,x7]=some (.rt (.fr (.bl true)),ρ):=by
 have z0:shT 0 1 = "0" := by decide +kernel
 have z7:shT (-7) 2 = "-7/2" := by decide +kernel
 have c1:=bc (uN NT0)
 have c2:=bc (qv NT7)
 rw[z0] at c1
 rw[z7] at c2
 have e1:eqA (.tup [.int 0,.int 1]) (.tup [.int 0,.int 1])=some true:=by rfl
 have e2:=eq_str "-7/2" "-7/2"
 rw[decide_eq_true rfl] at e2
 have ng:(-(7:Int)) = -7:=rfl
 simp only[JU,J7] at c1 c2
 clear z0 z7
 walk_at "evh"
 exact⟨_,rfl⟩
theorem law_true:∀ns:List Int,ns.length<=63->∃ρ,mx.M [.fr (.lst (ns.map A.int))]=some (.rt (.fr (.bl true)),ρ):=by
 intro ns hns
 show ∃ρ,HW [.fr (.lst (ns.map A.int))]=some (.rt (.fr (.bl true)),ρ)
 obtain⟨top,et,t1,t2⟩:∃top:Nat,(∀ρ,eE (mB2 sP (mC (.int 1)) (mB2 sx (mB1 eB (ag 0)) (mC (.int 60)))) (.fr (.lst (ns.map A.int))::ρ)=some (.ok (jF 0 top),.fr (.lst (ns.map A.int))::ρ))/\top<=100/\1<=top:=by
  let t:Int:=if (if (60:Int)<((ns.map A.int).length:Int) then 60 else ((ns.map A.int).length:Int)) > 1 then (if (60:Int)<((ns.map A.int).length:Int) then 60 else ((ns.map A.int).length:Int)) else 1
  have ht:t<=100/\1<=t:=by
   show (if (if (60:Int)<((ns.map A.int).length:Int) then 60 else ((ns.map A.int).length:Int)) > 1 then (if (60:Int)<((ns.map A.int).length:Int) then 60 else ((ns.map A.int).length:Int)) else 1)<=100/\1<=(if (if (60:Int)<((ns.map A.int).length:Int) then 60 else ((ns.map A.int).length:Int)) > 1 then (if (60:Int)<((ns.map A.int).length:Int) then 60 else ((ns.map A.int).length:Int)) else 1)
   rw[Ke]
   constructor<;>(repeat' split)<;>omega
  refine⟨t.toNat,λρ=>?_,by omega,by omega⟩
  have k2:(-(2^60)<=t/\t<2^60)=True:=by simp only[eq_iff_iff,iff_true];omega
  walk_at "evh"
  rw[if_pos (of_eq_true k2)]
 obtain⟨ρ',hf,x1,x2,x3,x4,x5,x6,x7,rfl,_⟩:=nR (G:=cP 1) (b:=mB) (as:=jF 0 top)
  (λi ρ=>∃x1 x2 x3 x4 x5 x6 x7:Sl,ρ=[.fr (.lst (ns.map A.int)),x1,x2,x3,x4,x5,x6,x7]/\np x1=true/\np x2=true/\np x3=true/\np x4=true/\np x5=true/\np x6=true/\np x7=true)
  (ρ:=[.fr (.lst (ns.map A.int)),.un,.un,.un,.un,.un,.un,.un]) ⟨_,_,_,_,_,_,_,rfl,rfl,rfl,rfl,rfl,rfl,rfl,rfl⟩ (by
   rintro i a ρ ha ⟨x1,x2,x3,x4,x5,x6,x7,rfl,h1,h2,h3,h4,h5,h6,h7⟩
   have hi:i<top:=by
    have:=(J0.mp ha).1
    simp[jF] at this
    omega
   obtain rfl:a=.int i:=by
    unfold jF at ha
    rw[Kr,MA hi] at ha
    cases ha
    simp
   obtain⟨o,N,T,F,B,y7,g7,e⟩:=zh ns (k:=(i:Int)) (by omega) (by omega) h2 h3 h4 h5 h6 h7
   refine⟨[.fr (.lst (ns.map A.int)),.fr (.int i),x2,x3,x4,x5,x6,x7],_,?_,.inl e,_,_,_,_,_,_,_,rfl,rfl,rfl,rfl,rfl,rfl,rfl,g7⟩
   clear e ha et
   generalize A.lst (ns.map A.int)=sc
   walk_at "evh")
 obtain⟨ρ2,e2⟩:=xN (sc:=.lst (ns.map A.int)) (x1:=x1) (x2:=x2) (x3:=x3) (x4:=x4) (x5:=x5) (x6:=x6) (x7:=x7)
 refine⟨ρ2,xU ?_⟩
 show rg [.fr (.lst (ns.map A.int)),.un,.un,.un,.un,.un,.un,.un]=_
 unfold rg
 have es:(iQ (eE (mB2 sP (mC (.int 1)) (mB2 sx (mB1 eB (ag 0)) (mC (.int 60))))) (cP 1) mB) [.fr (.lst (ns.map A.int)),.un,.un,.un,.un,.un,.un,.un]=some (.nx,[.fr (.lst (ns.map A.int)),x1,x2,x3,x4,x5,x6,x7]):=by
  rw[AJ,et]
  exact hf
 unfold mB at es
 rw[cT,es]
 exact e2
end W
set_option maxHeartbeats 4000000
namespace W
open PySem L2 M
theorem C7:qr tb0 dsL=dsL.map (λd=>some d.m):=by kernel_rfl
theorem Ef:g8 (trS (kj tb0 dsL) (tr (kj tb0 dsL) gK) gK mx.sc) (a7 mx.st)=some mx.m:=by kernel_rfl
theorem Dm:(dsL++[mx]).all (λd=>dZ d&&oJ d)=true:=by decide +kernel
end W
open PySem PySem.W PyProof.Rows L2
set_option maxRecDepth 100000 in
set_option maxHeartbeats 0 in
theorem PySem.Challenge.cw_fitwhatever_k71_numbers_as_texts_holds : PySem.Challenge.rw_fitwhatever_k71_numbers_as_texts.Holds := by
 w_on
 refine holds_law (by decide +kernel) fun said=>?_
 refine holds_open (q:=W.qOf PySem.Challenge.pw_fitwhatever_k71_numbers_as_texts) (loose:=W.zD PySem.Challenge.pw_fitwhatever_k71_numbers_as_texts) (Xt:=fun s=>xlAt (W.qOf PySem.Challenge.pw_fitwhatever_k71_numbers_as_texts) [] s && recOk (RowW.records _) s) (XP:=XL (W.qOf PySem.Challenge.pw_fitwhatever_k71_numbers_as_texts) []) (Yf:=Hook.obs (M.hk (W.dsL ++ [W.mx]) (M.gdB W.tb0))) (Ya:=Hook.val (M.hk (W.dsL ++ [W.mx]) (M.gdB W.tb0))) (YP:=Hook.says (M.hk (W.dsL ++ [W.mx]) (M.gdB W.tb0))) (N:=20000) (W.wO fun w=>by kernel_rfl) (Hook.of _) (Hook.keeps _) (fun s e=>xl_of s (Bool.and_eq_true_iff.mp e).1) XL.keeps (by rfl) (by rfl) (by rfl) (fun s e=>recFacts_of (Bool.and_eq_true_iff.mp e).2) (by rfl) said (by decide +kernel) ⟨rfl,rfl,rfl,rfl,rfl,by decide +kernel⟩ ?hw ?hc
 case hw=>w_witness2
 case hc=>exact M.uS rfl rfl rfl W.Dm W.C7 W.Ef rfl rfl rfl rfl ⟨rfl,by decide,by decide⟩ W.law_true
#print axioms PySem.Challenge.cw_fitwhatever_k71_numbers_as_texts_holds
