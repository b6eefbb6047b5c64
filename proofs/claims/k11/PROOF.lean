import PyProof.Rows.All
import Wide.All
import OpenK.AllK
import Wide.FinOn
import Lean
import PyProof.EqAt
import PyProof.EqKinds
import PyProof.TupleCall
import PyProof.StrLaws
import PySem.Challenge.RW_fitwhatever_k11_least_and_most
set_option genSizeOf false
set_option genInjectivity false
set_option bootstrap.genMatcherCode false
set_option compiler.extract_closed false
open PySem.W renaming Frag->UN,kitOne->Vt,findIn->Vy,keepIn->VJ,emptyDict->VU,instObj->V5,kitAny->V9,plainGet->WO,excIn->WT,callWith_K->W2,hasDictIn->W4,hideAll->Xo,methodCall_KW->Xu,lookIn->XC,codeIn->XD,exmOne->XE,plainGet_of->XM,methodObj->XX,isFn->XY,plainOver->XZ,fnOf->X1,kitx_list->X8,kitx_dict->X9,nsIn->Yc,takerIn->Yk,makesIn->Yl,mroIn->YE,cellsFrom_some->YR,hideAll_get->Y9,of_hideAll->Zj,kitx_tuple->Zm,mg_none_of->Zr,specialIn->Zv,handedIn->ZE,takesIn->ZI,OpenLaw->ZP,WalkO->Z4,Hook->zaa
open Bool renaming and_eq_true->UO,not_eq_true'->Vf,false_ne_true->Vm,or_eq_true->V0,eq_false_iff->Ws,and_false->W5,false_eq_true->W6,eq_iff_iff->XF,beq_eq_decide_eq->XJ,and_true->X7,false_and->YL,not_true->Y4,and_eq_true_iff->ZA
open List renaming length_map->UP,getElem?_eq_some_iff->UQ,length_cons->US,size_toArray->UT,getElem?_map->UU,mem_cons_of_mem->UW,mem_append_right->UX,length_append->UY,append_assoc->U0,map_cons->U3,mem_cons->U5,map_append->U7,nodup_append->U8,mem_cons_self->U9,mem_singleton->Va,mem_append->Vb,mem_of_getElem?->Vc,replicate->Vd,getElem?_eq_getElem->Ve,length_take->Vh,mem_map->Vj,mem_append_left->Vk,getElem?_set_self->Vl,nodup_cons->Vn,range->Vo,all_cons->Vp,map_map->Vr,lookup_cons->Vs,take_add_one->Vu,getElem?_append_right->Vv,flatMap_append->Vw,drop_eq_getElem_cons->Vx,append_nil->Vz,all_eq_true->VA,find?_cons->VB,getElem?_set_ne->VC,isEmpty_iff->VG,length_singleton->VN,take_append_drop->VO,take_length->VS,getD_eq_getElem?_getD->VW,getElem?_append_left->VX,mem_filter->VZ,map_congr_left->V1,length->V2,map_nil->V8,filterMap_cons->Wc,mem_map_of_mem->Wd,drop_length->We,getElem?_cons_succ->Wf,length_nil->Wm,perm_append_comm->Wo,contains_iff_mem->Wq,flatMap_cons->Wt,toArray->Wx,getElem?_range->Wz,any_cons->WA,zip_cons_cons->WE,find?_eq_none->WG,getElem?_cons_zero->WH,any_eq_false->WJ,ext_getElem?->WK,length_range->WL,filter_eq_nil_iff->WM,getElem?_eq_none->WU,any_eq_true->WV,lookup->WY,mem_filterMap->W3,take_sublist->Xd,reverse_cons->Xh,length_drop->Xp,cons_append->Xq,take_of_length_le->XA,nil_append->XH,mem_range->XQ,mem_of_mem_take->XR,perm_iff_count->XU,getElem_of_mem->XW,count_append->Yh,getElem?_inj->Yi,getElem_mem->Yr,getD->Ys,filter_cons->Yu,eq_nil_of_length_eq_zero->Yw,of_mem_zip->Yx,length_set->Yy,dropLast_concat_getLast->YB,drop_zero->YQ,getElem?_eq_none_iff->YU,sublist_append_right->YV,getElem?_take_of_lt->Y1,eq_of_mem_replicate->Y3,getElem?_replicate->Y6,all_map->Zf,length_replicate->Zk,length_filter_le->Zu,filter_sublist->ZH,pairwise_cons->ZN,lookup_append->ZQ,getElem_take->ZY,getElem_inj->ZZ,nil_sublist->Z2,map_reverse->Z3,mem_flatMap->Z5,forIn_cons->Z7,count_cons->Z8,foldl_cons->Z9,map->zaj,drop_nil->zap,set_set->zav,any_map->zaw
open PySem.Heap renaming get?_push_of_some->UR,lt_size->U4,get?_push_size->U6,get?_none_of_le->WX,SameBut->Xz,size_update->Yt,size_push->YM,get?_update_other->Zc,FlyingW->Ze,get?_update_ne->ZG,get?_push_ne->ZX,MadeExcOf->zad
open Nat renaming lt_of_lt_of_le->UZ,le_refl->U2,le_trans->Vg,ne_of_lt->Vi,lt_irrefl->VI,zero_le->VM,le_of_ble_eq_true->VP,pow_le_pow_right->VT,lt_of_le_of_lt->Wi,le_succ->WI,le_of_lt->WN,mul_le_mul_right->W0,lt_succ_of_lt->Xi,ble->Xl,lt_succ_self->Xs,le_of_eq->Ym,sub_self->Yp,add_sub_cancel_left->Zi,min_self->Zl,sub_zero->Zq,add_le_add_left->ZL,le_max_right->Z6,le_add_right->zab,le_max_left->zae,le_add_left->zag
open Option.some renaming inj->U1
open PySem.Value renaming ref->Vq,builtin->Xg,type->Xr,str->XO,none->YC,int->YX,bool->ZC,isStrOf->zac,isInt->zaq,bytes->zar,float->zas
open Int renaming gcd->VD,mul_ne_zero->VE,mul_fdiv_cancel_left->Wa,gcd_pos_of_ne_zero_right->Wn,zero_sub->Wy,fmod_nonneg_of_pos->WQ,fmod_eq_emod_of_nonneg->Xb,gcd_dvd_right->Xj,negSucc->XT,lt_or_gt_of_ne->Ye,fmod_lt_of_pos->Yg,mul_comm->Yn,toNat_natCast->Yq,gcd_dvd_left->Yv,natAbs_mul->YT,mul_assoc->Y8,gcd_comm->Zp,natAbs_dvd_natAbs->Zz,sub_eq_add_neg->ZU,gcd_zero_right->ZV,emod_nonneg->zaf
open Array renaming length_toList->VF,getElem?_toList->WS,perm_iff_toList_perm->YI,size_map->YJ,toArray_toList->Zn,append_assoc->ZD,size_append->ZO,toList_inj->ZW,toList->zan
open PyProof.Rows renaming slot_tuple_getitem->VH,callWith_type1->WR,sortedS->Xk,risingS->Yz
open PySem.Obj renaming mapSeq->VL
open PySem.Builtin.Str renaming glued->VQ,occurrences->V7,strSliceIndices->Wh,tooLong->Xy
open Ne renaming symm->VY
open List.Sublist renaming refl->V3,append->V6
open False renaming elim->V4
open PySem renaming mem_of_lookup->Wb,Str->YW,Within->Y5,evalArgs_none->Zw,call->ZF
open PySem.Txt renaming slice->Wg,slice_le->Zo
open PySem.Builtin.Slice renaming slicePlaces->Wj,sliceAdjust->WW,sliceApplied->X4,slicePartIndex->zaB,sliceFields->zaC
open PySem.Builtin.Tuple renaming tupleExact->Wr,tupleItemsOf->X6,tupleIsExact->zaJ
open PySem.Builtin.List renaming listTooLong->Wu,listExtendWith->Yb
open ForInStep renaming yield->Wv
open PySem.NameKind renaming free->Ww
open PySem.F renaming plainAttrs_list->WB,args_tuple_add_2->W8,entry_tuple_add->Xe,plainAttrs_dict->Xf,slot_tuple_add->Xm,slot_tuple_getattribute->Xn,slot_dict_get->Xx,slot_list_extend->YF,slot_dict_values->YG,slot_dict_update->YH,args_dict_get_3->YN,entry_dict_get->YS,excAttr_ValueError->ZS,excBase_ValueError->ZT
open Sum renaming inr->WC,inl->Yj
open True renaming intro->WD
open Rat renaming add_assoc->WZ,divInt->Xa,intCast_lt_intCast->XG,zero_add->XI,divInt_eq_divInt_iff->Y7,add_zero->Zs,zero_mul->Zt,divInt_add_divInt->Zx,divInt_mul_divInt->Zy,divInt_eq_div->Z1,intCast_inj->zah,intCast_mul->zai
open Option renaming isNone_iff_eq_none->W7,isSome_map->Yd,map_eq_some_iff->Y2,getD_none->ZK
open PySem.Calls renaming call_function_entry->W9,callWith_builtin->Xw,evalArgs_plain->XN,spliced_cons->X0,Name_function_global->YD,spliced_nil->ZJ
open PySem.SeqAt renaming EqAt->Xv
open Sum.inr renaming inj->XB
open PySem.Builtin.Dict renaming updateFrom->Yo
open PySem.AutoSeq1 renaming wpAny_loadPart'->YA
open PySem.Paired renaming length->YK,snoc->zao
open PySem.Builtin.Int renaming intBits->YO
open PySem.SeqAt.EqAt renaming int_str->YY,str_int->YZ
open PySem.Around renaming under->Y0,under_plainId->Zh
open PySem.Str renaming empty->Za,length->ZR
open PySem.Code renaming isFrame->Zb,quiet_builtin->ZM
open PySem.Heap.DictOf renaming new->Zd
open PySem.Spec renaming ltCps->Zg
open PySem.Builtin.ObjectAttr renaming bindTo->Z0
open PySem.W.SharedT renaming abs->zak
open Prod renaming fst->zal,snd->zam
open PySem.Heap.IsSliceOf renaming new->zat
open PySem.W.WShape renaming has->zau
open PySem.Builtin.Range renaming rangeSize->zay
open PySem.W.Looks renaming here->zaz
open List.Pairwise renaming nil->zaE,sublist->zaM
set_option Elab.async false
set_option linter.all false
set_option maxRecDepth 100000
abbrev gu(x:YW):Prop:=(x==("__debug__" : YW))=false
abbrev zz(x:YW):Prop:=(x==("__classdict__" : YW))=false
noncomputable section
namespace L2
open PySem PySem.Spec PyProof.Rows
noncomputable abbrev Key:=Sum Int Str
noncomputable def mv:Key->Value->Bool
 | .inl k,v=>zaq k v
 | .inr x,v=>zac x v
noncomputable def SN(w:World):Key->Int
 | .inl k=>hashInt k
 | .inr x=>hashStr w x
theorem bh:∀{k:Key}{v:Value},mv k v=true->(∃i t,k=Yj i/\v=YX i t)\/(∃x t,k=WC x/\v=XO x t)
 | .inl i,v,h=>by obtain⟨t,e⟩:=Value.isInt_shape (k:=i) (v:=v) h;exact .inl ⟨i,t,rfl,e⟩
 | .inr x,v,h=>by obtain⟨t,e⟩:=Value.isStrOf_shape (x:=x) (v:=v) h;exact .inr ⟨x,t,rfl,e⟩
theorem zo(i:Int)(t:Tok):mv (.inl i) (.int i t)=true:=by simp[mv,zaq]
theorem zU(x:Str)(t:Tok):mv (.inr x) (.str x t)=true:=by simp[mv,zac]
theorem M6(a b:Int):decide ((Yj a:Key)=Yj b)=(a==b):=by
 by_cases e:a=b
 .subst e;simp
 .have h:¬ (Yj a:Key)=Yj b:=λq=>e (Yj.inj q);rw[decide_eq_false h];exact(beq_eq_false_iff_ne.mpr e).symm
theorem Kb(a b:Str):decide ((WC a:Key)=WC b)=decide (a=b):=by
 by_cases e:a=b
 .subst e;simp
 .have h:¬ (WC a:Key)=WC b:=λq=>e (XB q);rw[decide_eq_false h,decide_eq_false e]
theorem LJ(a:Int)(b:Str):decide ((Yj a:Key)=WC b)=false:=decide_eq_false (λq=>nomatch q)
theorem Nb(a:Str)(b:Int):decide ((WC a:Key)=Yj b)=false:=decide_eq_false (λq=>nomatch q)
def aJ(prog:Program)(w:World):PySem.KeyKind prog w Key where
 is:=mv
 hash:=SN w
 inj:=λv a b ha d=>by
  rcases bh ha with ⟨i,t,rfl,rfl⟩|⟨x,t,rfl,rfl⟩
  .rcases bh d with ⟨j,u,rfl,e⟩|⟨y,u,rfl,e⟩
   .injection e with e1 _;rw[e1]
   .exact nomatch e
  .rcases bh d with ⟨j,u,rfl,e⟩|⟨y,u,rfl,e⟩
   .exact nomatch e
   .injection e with e1 _;rw[e1]
 byValue:=λk v h=>by rcases bh h with ⟨i,t,rfl,rfl⟩|⟨x,t,rfl,rfl⟩<;>rfl
 pyHash:=λc h=>by
  rcases bh c with ⟨i,t,rfl,rfl⟩|⟨x,t,rfl,rfl⟩
  .exact wpAny_pyHash_int h
  .exact wpAny_pyHash_str h
 eqBool:=λf c h=>by
  rcases bh f with ⟨i,t,rfl,rfl⟩|⟨x,t,rfl,rfl⟩
  .rcases bh c with ⟨j,u,rfl,rfl⟩|⟨y,u,rfl,rfl⟩
   .rw[M6] at h;exact wpAny_eqBool_int h
   .rw[LJ] at h;exact YY i t y u _ _ _ _ h
  .rcases bh c with ⟨j,u,rfl,rfl⟩|⟨y,u,rfl,rfl⟩
   .rw[Nb] at h;exact YZ x t j u _ _ _ _ h
   .rw[Kb] at h;exact wpAny_eqBool_str h
 «strs»:=λk x t v h=>by
  rcases bh h with ⟨i,u,rfl,e⟩|⟨y,u,rfl,e⟩
  .exact nomatch e
  .injection e with e1 _;subst e1;cases v<;>rfl
theorem uQ(prog:Program)(w:World)(i:Int)(t:Tok):(aJ prog w).is (.inl i) (.int i t)=true:=zo i t
theorem sL(prog:Program)(w:World)(x:Str)(t:Tok):(aJ prog w).is (.inr x) (.str x t)=true:=zU x t
inductive V where
 |non|bl(b:Bool)|int(i:Int)|str(x:Str)|byt(b:Array UInt8)|flt(b:UInt64)|ref(a:Addr)|ty(n:String)
 deriving DecidableEq
def RelV:V->Value->Prop
 | .non,u=>u=YC
 | .bl b,u=>u=ZC b
 | .int i,u=>∃t,u=YX i t
 | .str x,u=>∃t,u=XO x t
 | .byt b,u=>∃t,u=zar b t
 | .flt b,u=>∃t,u=zas b t
 | .ref a,u=>u=Vq a
 | .ty n,u=>u=Xr n
abbrev Vals:List V->List Value->Prop:=Paired RelV
theorem Vals.length{xs:List V}{us:List Value}(r:Vals xs us):xs.length=us.length:=YK r
theorem Vals.get:∀{xs:List V}{us:List Value}{i:Nat}{x:V},Vals xs us->xs[i]?=some x->∃u,us[i]?=some u/\RelV x u
 |_,_,_,_,.nil,e=>by simp at e
 |_,_,0,_,.cons r _,e=>by simp at e;subst e;exact⟨_,rfl,r⟩
 |_,_,i+1,x,.cons _ t,e=>by obtain⟨u,h1,h2⟩:=Vals.get (i:=i) (x:=x) t (by simpa using e);exact⟨u,by simpa using h1,h2⟩
theorem Vals.set{x:V}{u:Value}(r:RelV x u):∀{xs:List V}{us:List Value}(i:Nat),Vals xs us->Vals (xs.set i x) (us.set i u)
 |_,_,_,.nil=>.nil
 |_,_,0,.cons _ t=>.cons r t
 |_,_,i+1,.cons q t=>.cons q (Vals.set r i t)
theorem Vals.append:∀{xs ys:List V}{us ws:List Value},Vals xs us->Vals ys ws->Vals (xs++ys) (us++ws)
 |_,_,_,_,.nil,s=>s
 |_,_,_,_,.cons r t,s=>.cons r (Vals.append t s)
theorem Vals.take:∀{xs:List V}{us:List Value}(n:Nat),Vals xs us->Vals (xs.take n) (us.take n)
 |_,_,0,_=>.nil
 |_,_,_+1,.nil=>.nil
 |_,_,n+1,.cons r t=>.cons r (Vals.take n t)
theorem Vals.drop:∀{xs:List V}{us:List Value}(n:Nat),Vals xs us->Vals (xs.drop n) (us.drop n)
 |_,_,0,r=>r
 |_,_,_+1,.nil=>.nil
 |_,_,n+1,.cons _ t=>Vals.drop n t
def gq:Option V->Option Value->Prop
 |some v,some u=>RelV v u
 |none,none=>True
 |_,_=>False
def KV{a:Type}:List (a×V)->List (a×Value)->Prop:=Paired λ(p:a×V)(q:a×Value)=>p.1=q.1/\RelV p.2 q.2
noncomputable def kV:Key->V
 | .inl i=>.int i
 | .inr x=>.str x
inductive HO where
  |lst(xs:List V)
  |tup(xs:List V)
  |dK(kvs:List (Key×V))|dT(kvs:List (List Key×V))
  |set(S:Int->Bool)(n:Nat)
  |ins(C dx:Addr)(fs:List (Str×V))
  |own(x:Addr)
  |xd(fs:List (Str×V))
  |met(f x:Addr)
  |rng(lo hi:Int)
  |frz(o:Obj)(u:HO)
  |tbl(ps:Array Value)
  |ext(φ:Heap->Prop)
noncomputable abbrev Hp:=Addr->Option HO
noncomputable def upd(H:Hp)(a:Addr)(o:HO):Hp:=λb=>if b=a then some o else H b
variable{H:Hp}
theorem aI{a:Addr}{o:HO}:upd H a o a=some o:=by unfold upd;rw[if_pos rfl]
variable{b:Addr}
theorem au{a:Addr}{o:HO}(h:b≠a):upd H a o b=H b:=by unfold upd;rw[if_neg h]
theorem PL{a:Addr}{o u:HO}(h:H a=some o)(h':H b=some u)(d:o≠u):a≠b:=by intro e;subst e;rw[h] at h';exact d (U1 h')
theorem aM{a:Addr}{o:HO}(h:H a=some o)(h':H b=none):a≠b:=by intro e;subst e;rw[h] at h';cases h'
variable{h:Heap}
section
variable(P:Program)(w:World)
def fg(h:Heap)(a:Addr)(items:Array Value):Prop:=∃o,h.get? a=some o/\o.cls=.type "tuple" /\ ∃n,o.data=.seq items n/\o.dict=none
theorem fg.t{a:Addr}{items:Array Value}(x:fg h a items):IsTup h a items:=let ⟨o,e,c,n,d,_⟩:=x;⟨o,e,c,n,d⟩
theorem fg.new(h:Heap)(items:Array Value):fg (h.push { cls:=.type "tuple",data:=.seq items }) h.objs.size items:=⟨_,U6 _ rfl,rfl,_,rfl,rfl⟩
def ba(H:Hp)(h:Heap)(a:Addr):HO->Prop
 | .lst xs=>xs.length<=sizeLine/\∃(its:List Value)(n:Nat),Vals xs its/\h.get? a=some { cls:=.type "list",data:=.seq its.toArray n }
 | .tup xs=>xs.length<=sizeLine/\∃its:List Value,Vals xs its/\fg h a its.toArray
 | .dK kvs=>kvs.length<=sizeLine/\(a==sysModules)=false/\∃vs,KV kvs vs/\h.DictOf (aJ P w) a vs
 | .dT kvs=>kvs.length<=sizeLine/\(a==sysModules)=false/\∃xs:List (List Key×Addr×Value),
   Paired (λ(p:List Key×V)(q:List Key×Addr×Value)=>p.1=q.1/\H q.2.1=some (.tup (p.1.map kV))/\RelV p.2 q.2.2) kvs xs /\
   ∃o es ep,h.get? a=some o/\o.ExactDict/\o.data=.dict es ep/\es.toList=xs.map (entryOfKey (tupleKind (aJ P w)))/\(xs.map (·.1)).Nodup
 | .set S n=>h.SetOf (intKind P w) a S n
 | .ins C dx fs=>H dx=some (.own a)/\fs.length<=1000/\dx≠a/\h.get? a=some (V5 C dx) /\
   ∃mA,h.Ns1 dx mA/\(∀f,gq (fs.lookup f) (mA f))/\Y5 mA (fs.map (·.1))
 | .own _=>∃o,h.get? a=some o
 | .xd fs=>∃mA,h.Ns1 a mA/\∀f,gq (fs.lookup f) (mA f)
 | .rng lo hi=>∃t u v,h.get? a=some { cls:=.type "range",data:=.fields #[.int lo t,.int hi u,.int 1 v] }
 | .frz o u=>h.get? a=some o/\ba H h a u
 | .tbl ps=>h.get? a=some { cls:=.none,data:=.fields ps }
 | .met f x=>h.get? a=some (XX (.ref f) (.ref x))
 | .ext φ=>φ h/\(∃o,h.get? a=some o)/\∀h1 h2:Heap,φ h1->(∀o,h1.get? a=some o->h2.get? a=some o)->φ h2
def jt(H:Hp)(h:Heap):Prop:=∀a o,H a=some o->ba P w H h a o
end
section
variable{P:Program}{w:World}{H H':Hp}{h h':Heap}{a:Addr}{o:HO}
theorem ba.lt(x:ba P w H h a o):a<h.objs.size:=by
 cases o with
 |lst xs=>obtain⟨_,_,_,_,e⟩:=x;exact U4 e
 |tup xs=>obtain⟨_,_,_,p⟩:=x;exact p.t.lt
 |dK kvs=>obtain⟨_,_,_,_,o,_,_,e,_⟩:=x;exact U4 e
 |dT kvs=>obtain⟨_,_,_,_,o,_,_,e,_⟩:=x;exact U4 e
 |set S n=>obtain⟨o,_,_,_,e,_⟩:=x;exact U4 e
 |ins C dx fs=>obtain⟨_,_,_,e,_⟩:=x;exact U4 e
 |own y=>obtain⟨_,e⟩:=x;exact U4 e
 |xd fs=>obtain⟨_,⟨_,_,_,e,_⟩,_⟩:=x;exact U4 e
 |rng lo hi=>obtain⟨_,_,_,e⟩:=x;exact U4 e
 |frz ob u=>obtain⟨e,_⟩:=x;exact U4 e
 |tbl ps=>exact U4 (show h.get? a=some _ from x)
 |met f y=>exact U4 (show h.get? a=some _ from x)
 |ext φ=>obtain⟨_,⟨_,e⟩,_⟩:=x;exact U4 e
theorem Paired.LI{α β:Type}{F G:α->β->Prop}:∀{e:List α}{g:List β},Paired F e g->(∀a b,F a b->G a b)->Paired G e g
 |_,_,.nil,_=>.nil
 |_,_,.cons r t,f=>.cons (f _ _ r) (Paired.LI t f)
theorem ba.pj(x:ba P w H h a o)(k:∀b u,(b=a\/H b=some (.own a))->h.get? b=some u->h'.get? b=some u)
  (ho:∀b,H b=some (.own a)->H' b=some (.own a))(i:∀b xs,H b=some (.tup xs)->H' b=some (.tup xs)):ba P w H' h' a o:=by
 induction o with
 |lst xs=>obtain⟨z,its,n,r,e⟩:=x;exact⟨z,its,n,r,k _ _ (.inl rfl) e⟩
 |tup xs=>obtain⟨z,its,r,ob,e,c⟩:=x;exact⟨z,its,r,ob,k _ _ (.inl rfl) e,c⟩
 |dK kvs=>obtain⟨z,y,vs,r,ob,es,ep,e,c⟩:=x;exact⟨z,y,vs,r,ob,es,ep,k _ _ (.inl rfl) e,c⟩
 |dT kvs=>obtain⟨z,y,xs,r,ob,es,ep,e,c⟩:=x;exact⟨z,y,xs,Paired.LI r λp q z=>⟨z.1,i _ _ z.2.1,z.2.2⟩,ob,es,ep,k _ _ (.inl rfl) e,c⟩
 |set S n=>obtain⟨ob,es,ep,t,e,c⟩:=x;exact⟨ob,es,ep,t,k _ _ (.inl rfl) e,c⟩
 |ins C dx fs=>obtain⟨d,z,ne,e,mA,⟨od,es,ep,e2,c⟩,r⟩:=x;exact⟨ho _ d,z,ne,k _ _ (.inl rfl) e,mA,⟨od,es,ep,k _ _ (.inr d) e2,c⟩,r⟩
 |own y=>obtain⟨ob,e⟩:=x;exact⟨ob,k _ _ (.inl rfl) e⟩
 |xd fs=>obtain⟨mA,⟨od,es,ep,e,c⟩,r⟩:=x;exact⟨mA,⟨od,es,ep,k _ _ (.inl rfl) e,c⟩,r⟩
 |rng lo hi=>obtain⟨t,u,v,e⟩:=x;exact⟨t,u,v,k _ _ (.inl rfl) e⟩
 |frz ob u j=>obtain⟨e,q⟩:=x;exact⟨k _ _ (.inl rfl) e,j q⟩
 |tbl ps=>have e:h.get? a=some { cls:=.none,data:=.fields ps }:=x;show h'.get? a=some { cls:=.none,data:=.fields ps };exact k a _ (.inl rfl) e
 |met f y=>have e:h.get? a=some (XX (.ref f) (.ref y)):=x;show h'.get? a=some (XX (.ref f) (.ref y));exact k a _ (.inl rfl) e
 |ext φ=>obtain⟨p,⟨o,e⟩,st⟩:=x;exact⟨st _ _ p λo q=>k _ _ (.inl rfl) q,⟨o,k _ _ (.inl rfl) e⟩,st⟩
theorem jt.lt(x:jt P w H h)(e:H a=some o):a<h.objs.size:=(x a o e).lt
theorem jt.fresh(x:jt P w H h)(e:h.objs.size<=a):H a=none:=by
 cases q:H a with
 |none=>rfl
 |some u=>exact absurd (UZ (x.lt q) e) (VI _)
theorem jt.kept(x:jt P w H h)(k:∀b u,h.get? b=some u->h'.get? b=some u):jt P w H h':=λa o e=>(x a o e).pj (λb u _ q=>k b u q) (λ_ q=>q) λ_ _ q=>q
theorem jt.laid(x:jt P w H h)(k:∀b u,h.get? b=some u->h'.get? b=some u)(hp:h.objs.size<=a)(new:ba P w (upd H a o) h' a o):jt P w (upd H a o) h':=λb u e=>by
 have hn:=x.fresh hp;by_cases d:b=a
 .subst d;rw[aI] at e;cases e;exact new
 .rw[au d] at e;exact(x b u e).pj (λc v _ q=>k c v q) (λc q=>by rw[au (aM q hn)];exact q) λc xs q=>by rw[au (aM q hn)];exact q
end
def Rd(H:Hp)(a:Addr)(u:HO):Prop:=H a=some u\/∃o,H a=some (.frz o u)
variable{P:Program}{w:World}
theorem Rd.ok{a:Addr}{u:HO}(r:Rd H a u)(x:jt P w H h):ba P w H h a u:=by
 rcases r with r|⟨o,r⟩
 .exact x a u r
 .obtain⟨_,q⟩:=x a _ r;exact q
def RF:Option HO->Prop
 |some (.lst _)=>True
 |some (.dK _)=>True
 |some (.dT _)=>True
 |some (.set _ _)=>True
 |some (.ins _ _ _)=>True
 |some (.ext _)=>True
 |_=>False
section
variable{P:Program}{w:World}{H:Hp}{h h':Heap}{x e:Addr}{o':HO}
theorem jt.write(ok:jt P w H h)(mu:RF (H x))(he:e=x\/H e=some (.own x))(k:∀b u,b≠e->h.get? b=some u->h'.get? b=some u)(o:∃u,h'.get? e=some u)
  (new:ba P w (upd H x o') h' x o'):jt P w (upd H x o') h':=λb u q=>by
 have m:∀c y,H c=some (.own y)->c≠x:=λc y r z=>by subst z;rw[r] at mu;exact mu
 have n:∀c xs,H c=some (.tup xs)->c≠x:=λc xs r z=>by subst z;rw[r] at mu;exact mu
 by_cases d:b=x
 .subst d;rw[aI] at q;cases q;exact new
 .rw[au d] at q;by_cases l:b=e
  .have p:H b=some (.own x):=by
    rcases he with z|z
    .exact absurd (l.trans z) d
    .rw[l];exact z
   rw[q] at p;cases p;obtain⟨v,s⟩:=o;exact⟨v,by rw[l];exact s⟩
  .refine(ok b u q).pj (λc v hc r=>k c v ?_ r) (λc r=>by rw[au (m c b r)];exact r) λc xs r=>by rw[au (n c xs r)];exact r
   rcases hc with rfl|hc
   .exact l
   .rintro rfl;rcases he with z|z
    .exact m c b hc z
    .rw[hc] at z;cases z;exact d rfl
end
structure Un(fs ex:List Addr)(H H':Hp)(h h':Heap):Prop where
 keep:∀b o,h.get? b=some o->H b=none->b∉fs->b∉ex->h'.get? b=some o
 slot:∀b o,h.get? b=some o->H b=none->b∈fs->b∉ex->∃sl,h'.get? b=some { o with slots:=sl }
 free:∀b o,h.get? b=some o->H b=none->b∉ex->H' b=none
 there:∀b o,h.get? b=some o->b∉ex->∃o',h'.get? b=some o'
 tups:∀b xs,H b=some (.tup xs)->H' b=some (.tup xs)
 frzs:∀b o u,H b=some (.frz o u)->H' b=some (.frz o u)
 tbls:∀b ps,H b=some (.tbl ps)->∃more,H' b=some (.tbl (ps++more))
section
variable{fs fs' ex ex':List Addr}{H H1 H2:Hp}{h h1 h2 h':Heap}{a x e:Addr}{o:HO}
theorem Un.any(u:Un fs ex H H1 h h1){ob:Obj}(q:h.get? b=some ob)(n:H b=none)(k:b∉ex):∃sl,h1.get? b=some { ob with slots:=sl }:=by
 by_cases d:b∈fs
 .exact u.slot b ob q n d k
 .exact⟨ob.slots,u.keep b ob q n d k⟩
theorem Un.kept(k:∀b u,h.get? b=some u->h'.get? b=some u):Un fs ex H H h h':=
 ⟨λb ob q _ _ _=>k b ob q,λb ob q _ _ _=>⟨ob.slots,k b ob q⟩,λ_ _ _ n _=>n,λb ob q _=>⟨ob,k b ob q⟩,λ_ _ q=>q,λ_ _ _ q=>q,λ_ ps q=>⟨#[],by rw[q];simp⟩⟩
theorem Un.refl:Un fs ex H H h h:=Un.kept λ_ _ q=>q
theorem Un.laid(k:∀b u,h.get? b=some u->h'.get? b=some u)(hp:h.objs.size<=a)(hn:H a=none):Un fs ex H (upd H a o) h h' where
 keep:=λb u q _ _ _=>k b u q
 slot:=λb u q _ _ _=>⟨u.slots,k b u q⟩
 free:=λb u q n _=>by rw[au (Vi (UZ (U4 q) hp))];exact n
 there:=λb u q _=>⟨u,k b u q⟩
 tups:=λb xs q=>by rw[au (aM q hn)];exact q
 frzs:=λb u xs q=>by rw[au (aM q hn)];exact q
 tbls:=λb ps q=>⟨#[],by rw[au (aM q hn),q];simp⟩
theorem Un.write(mu:RF (H x))(he:e=x\/H e=some (.own x))(k:∀b u,b≠e->h.get? b=some u->h'.get? b=some u)(t:∃u,h'.get? e=some u):Un fs ex H (upd H x o) h h':=by
 have v:∀b,H b=none->b≠x:=λb n z=>by subst z;rw[n] at mu;exact mu
 have d:∀b,H b=none->b≠e:=λb n z=>by
  subst z;rcases he with r|r
  .exact v b n r
  .rw[n] at r;cases r
 have hm:∀b u,H b=some u->¬ RF (some u)->b≠x:=λb u q nm z=>by subst z;rw[q] at mu;exact nm mu
 refine⟨λb u q n _ _=>k b u (d b n) q,λb u q n _ _=>⟨u.slots,k b u (d b n) q⟩,λb u q n _=>by rw[au (v b n)];exact n,λb u q _=>?_,
  λb xs q=>by rw[au (hm b _ q λz=>z)];exact q,λb u xs q=>by rw[au (hm b _ q λz=>z)];exact q,λb ps q=>⟨#[],by rw[au (hm b _ q λz=>z),q];simp⟩⟩
 by_cases l:b=e
 .subst l;exact t
 .exact⟨u,k b u l q⟩
end
noncomputable def Ld(h:Heap)(H:Hp):List Addr:=(Vo h.objs.size).filter λa=>(H a).isSome
def qS(h:Heap)(H:Hp):Heap:=Xo h (Ld h H)
theorem zK(h:Heap)(H:Hp):(qS h H).objs.size=h.objs.size:=PySem.W.hideAll_size _ _
variable{o:Obj}
theorem Br(e:h.get? b=some o)(n:H b=none):(qS h H).get? b=some o:=
 Y9 _ e λhm=>by have q:(H b).isSome=true:=(VZ.mp hm).2;rw[n] at q;simp at q
theorem F6(e:(qS h H).get? b=some o):h.get? b=some o/\H b=none:=by
 have r:h.get? b=some o:=Zj (Ld h H) e;refine⟨r,?_⟩;cases q:H b with
 |none=>rfl
 |some x=>have hm:b∈Ld h H:=VZ.mpr ⟨XQ.mpr (U4 r),by simp[q]⟩;have z:(qS h H).get? b=none:=PySem.W.hideAll_none (Ld h H) hm;rw[z] at e;cases e
noncomputable def GC(g h:Heap)(L:Addr):List (Addr×Obj):=(Vo h.objs.size).filterMap λa=>if a=L\/(g.get? a).isSome=true then none else (h.get? a).map λo=>(a,o)
def rest(g h:Heap)(L d:Addr):List (Addr×Obj):=(GC g h L).filter λp=>decide (p.1≠d)
structure Mod(K:UN)(mg:Str->Option Value)(base:Heap):Prop where
 kin:K.In base
 glob:base.Ns mainGlobals mg
 blt:∃mb,base.Ns builtinsNs mb/\∀x:Str,x ≠ "__name__" -> mb x=bootBuiltins x
 nolimit:base.NoLimit
structure Cx where
 prog:Program
 w:World
 K:UN
 mg:Str->Option Value
 base:Heap
 A:Around
 N:List Str
 s₀:Shared
 H₀:Hp
 env:Env
 outer:List Env
 stack:List Env
 ex:List Addr
 fn:Str->Bool
 calm:Bool
 pn:List (Addr×Obj)
 xe:Value->Shared->Prop
noncomputable def dz(l:List Env):List Addr:=l.filterMap (·.frame)
abbrev Cx.fs(X:Cx):List Addr:=dz X.outer
def uY(sc:Scope)(x:Str):Prop:=sc.names.lookup x=some .local\/sc.names.lookup x=some .cell\/sc.names.lookup x=some .free
def Loc(sc:Scope)(x:Str):Prop:=sc.names.lookup x=some .local\/sc.names.lookup x=some .cell
def Look(env:Env)(h:Heap)(m:Str->Option Value)(x:Str)(u:Value):Prop:=
 (env.kindOf x=some .local/\m x=some u)\/((env.kindOf x=some .cell\/env.kindOf x=some .free)/\∃c,env.cells.lookup x=some c/\h.IsCell c (some u))
structure Cx.Ok(X:Cx):Prop where
 mod:Mod X.K X.mg X.base
 kind:X.env.scope.kind=.function
 glob:X.env.globals=mainGlobals
 blt:X.env.builtins=builtinsNs
 above:X.s₀.heap.objs.size<=X.env.locals
 inj:∀x y c,X.env.cells.lookup x=some c->X.env.cells.lookup y=some c->x=y
 has:∀x,(X.env.kindOf x=some .cell\/X.env.kindOf x=some .free)->∃c,X.env.cells.lookup x=some c
 cab:∀x c,X.fn x=true->X.env.cells.lookup x=some c->X.s₀.heap.objs.size<=c
 hd:X.calm=true->X.A.handled=none
 frames:X.A.frames=some X.stack
 stk:X.stack=X.outer\/(X.stack=X.env::X.outer/\X.env.frame=some X.env.locals)
 exf:∀b∈X.ex,b≠X.env.locals/\∀x c,X.env.cells.lookup x=some c->c≠b
 bs:∀b o,X.base.get? b=some o->X.s₀.heap.get? b=some o/\X.H₀ b=none
 bsz:X.base.objs.size<=X.s₀.heap.objs.size
 noex:∀b o,X.base.get? b=some o->b∉X.ex
 exfs:∀b∈X.ex,b∉X.fs
 kf:X.s₀.heap.FunFrames X.base X.outer
 frf:∀b∈X.fs,X.H₀ b=none
structure Inv(X:Cx)(pins:List (Addr×Obj))(Y:List (Option V))(H:Hp)(s:Shared):Prop where
 ok:X.Ok
 os:s.os=X.s₀.os
 bare:AllBare s.gens
 base:Un X.fs X.ex X.H₀ H X.s₀.heap s.heap
 loc:∃m,s.heap.Ns X.env.locals m/\∀(i:Nat)(x:Str)(v:V),X.N[i]?=some x->Y[i]?=some (some v)->uY X.env.scope x->∃u,RelV v u/\Look X.env s.heap m x u
 cell:∀x c,X.env.cells.lookup x=some c->∃v,s.heap.IsCell c v
 free:H X.env.locals=none
 freeC:∀x c,X.env.cells.lookup x=some c->H c=none
 pin:∀p∈X.pn++pins,s.heap.get? p.1=some p.2/\H p.1=none/\p.1≠X.env.locals/\p.1∉X.fs/\∀v,p.2.data≠.cell v
 hok:jt X.prog X.w H s.heap
 len:Y.length=X.N.length
variable{g':Array GenState}{t' i j:Nat}{d':Drawn}{ch:List Addr}{it:Addr}{N:List Str}{x:Str}{E:Value->Shared->Prop}{v:V}{u:Value}
section
variable{X:Cx}{pins:List (Addr×Obj)}{Y:List (Option V)}{H H':Hp}{s:Shared}{h':Heap}
theorem Cx.Ok.Sn(ok:X.Ok)(e:X.base.get? b=some o):b∉X.fs:=λd=>by have:=(ok.kf.mem d).1;rw[e] at this;cases this
theorem Inv.bs(I:Inv X pins Y H s):∀b o,X.base.get? b=some o->s.heap.get? b=some o/\H b=none:=λb o e=>⟨I.base.keep b o (I.ok.bs b o e).1 (I.ok.bs b o e).2 (I.ok.Sn e) (I.ok.noex b o e),I.base.free b o (I.ok.bs b o e).1 (I.ok.bs b o e).2 (I.ok.noex b o e)⟩
theorem Inv.bk(I:Inv X pins Y H s):∀b o,X.base.get? b=some o->s.heap.get? b=some o:=λb o e=>(I.bs b o e).1
theorem Inv.mod(I:Inv X pins Y H s):Mod X.K X.mg X.base:=I.ok.mod
theorem Inv.p7(I:Inv X pins Y H s):X.K.In s.heap:=I.ok.mod.kin.keeps I.bk
theorem Inv.lt(I:Inv X pins Y H s):X.env.locals<s.heap.objs.size:=let ⟨_,hn,_⟩:=I.loc;hn.lt
theorem Inv.sz(I:Inv X pins Y H s):X.s₀.heap.objs.size<=s.heap.objs.size:=Vg I.ok.above (WN I.lt)
theorem Inv.P0(I:Inv X pins Y H s){a:Addr}(h:s.heap.objs.size<=a):a∉X.fs:=λd=>by obtain⟨_,o,ho,_⟩:=I.ok.kf.mem d;exact absurd (UZ (U4 ho) (Vg I.sz h)) (VI _)
theorem Inv.Gh(I:Inv X pins Y H s):∀x c,X.env.cells.lookup x=some c->c≠X.env.locals:=λx c e z=>by obtain⟨v,o,ho,hd⟩:=I.cell x c e;obtain⟨m,⟨o',es,ep,b,h,_⟩,_⟩:=I.loc;rw[z,b] at ho;cases ho;rw[h] at hd;cases hd
theorem Inv.kf(I:Inv X pins Y H s):s.heap.FunFrames X.base X.outer:=by
 have all:∀(l:List Env),(∀b∈dz l,b∈X.fs)->X.s₀.heap.FunFrames X.base l->s.heap.FunFrames X.base l:=by
  intro l;induction l with
  |nil=>intro _ _;trivial
  |cons env r j=>intro u hl;obtain⟨hk,⟨L,o,hf,hn,ho,hd⟩,w⟩:=hl;have q:L∈X.fs:=u L (by unfold dz;rw[Wc,hf];exact U9);obtain⟨sl,e⟩:=I.base.slot L o ho (I.ok.frf L q) q λz=>I.ok.exfs L z q;exact⟨hk,⟨L,_,hf,hn,e,hd⟩,j (λb d=>u b (by unfold dz;rw[Wc,hf];exact UW _ d)) w⟩
 exact all X.outer (λ_ d=>d) I.ok.kf
theorem Inv.stack(I:Inv X pins Y H s):s.heap.FunFrames X.base X.stack:=by
 rcases I.ok.stk with e|⟨e,hf⟩
 .rw[e];exact I.kf
 .rw[e];obtain⟨m,hn,_⟩:=I.loc;refine .cons (by rw[I.ok.kind];decide) hf hn ?_ I.kf;exact WX (Vg I.ok.bsz I.ok.above)
theorem Inv.lO(I:Inv X pins Y H s):∀b∈dz X.stack,b∈X.env.locals::X.fs:=λb d=>by
 rcases I.ok.stk with e|⟨e,hf⟩
 .rw[e] at d;exact UW _ d
 .rw[e] at d;unfold dz at d;rw[Wc,hf] at d;exact d
theorem Inv.r9(I:Inv X pins Y H s):∀b∈dz X.stack,H b=none:=λb d=>by
 rcases U5.mp (I.lO b d) with e|d
 .rw[e];exact I.free
 .obtain⟨_,o,ho,_⟩:=I.ok.kf.mem d;exact I.base.free b o ho (I.ok.frf b d) λz=>I.ok.exfs b z d
theorem Inv.step(I:Inv X pins Y H s)
  (A:∀b∈ch,(b∈X.ex\/X.s₀.heap.objs.size<=b)/\b≠X.env.locals/\(∀x c,X.env.cells.lookup x=some c->c≠b)/\∀p∈X.pn++pins,p.1≠b)
  (keep:∀b o,b≠X.env.locals->b∉X.fs->b∉ch->s.heap.get? b=some o->H b=none->h'.get? b=some o)
  (slot:∀b o,b≠X.env.locals->b∈X.fs->b∉ch->s.heap.get? b=some o->H b=none->∃sl,h'.get? b=some { o with slots:=sl })(free:∀b o,b∉ch->s.heap.get? b=some o->H b=none->H' b=none)
  (there:∀b o,b∉ch->s.heap.get? b=some o->∃o',h'.get? b=some o')
  (tups:∀b xs,H b=some (.tup xs)->H' b=some (.tup xs))(frzs:∀b o u,H b=some (.frz o u)->H' b=some (.frz o u))(tbls:∀b ps,H b=some (.tbl ps)->∃more,H' b=some (.tbl (ps++more)))
  (ns:∀m,s.heap.Ns X.env.locals m->h'.Ns X.env.locals m)(hok:jt X.prog X.w H' h')(K:AllBare g'):
  Inv X pins Y H' { s with heap:=h',gens:=g',drawn:=d',toks:=t' }:=by
 have F:∀b o,X.s₀.heap.get? b=some o->b≠X.env.locals:=λb o e=>Vi (UZ (U4 e) I.ok.above);have D:∀b o,X.s₀.heap.get? b=some o->b∉X.ex->b∉ch:=λb o e y E=>by
  rcases(A b E).1 with z|z
  .exact y z
  .exact absurd (UZ (U4 e) z) (VI _)
 have B:∀x c,X.env.cells.lookup x=some c->∀v,s.heap.IsCell c v->h'.IsCell c v:=λx c e v ⟨o,ho,hd⟩=>by
  have C:c∉ch:=λz=>(A c z).2.2.1 x c e rfl;by_cases hc:c∈X.fs
  .obtain⟨sl,q⟩:=slot c o (I.Gh x c e) hc C ho (I.freeC x c e);exact⟨_,q,hd⟩
  .exact⟨o,keep c o (I.Gh x c e) hc C ho (I.freeC x c e),hd⟩
 refine⟨I.ok,I.os,K,⟨λb o e n E y=>?_,λb o e n E y=>?_,λb o e n y=>?_,λb o e y=>?_,λb xs e=>tups b xs (I.base.tups b xs e),λb o xs e=>frzs b o xs (I.base.frzs b o xs e),λb ps e=>?_⟩,?_,λx c e=>?_,?_,λx c e=>?_,λp hp=>?_,hok,I.len⟩
 .exact keep b o (F b o e) E (D b o e y) (I.base.keep b o e n E y) (I.base.free b o e n y)
 .obtain⟨sl,e1⟩:=I.base.slot b o e n E y;obtain⟨G,e2⟩:=slot b _ (F b o e) E (D b o e y) e1 (I.base.free b o e n y);exact⟨G,e2⟩
 .obtain⟨o',e1⟩:=I.base.there b o e y;exact free b o' (D b o e y) e1 (I.base.free b o e n y)
 .obtain⟨o',e1⟩:=I.base.there b o e y;exact there b o' (D b o e y) e1
 .obtain⟨L,e1⟩:=I.base.tbls b ps e;obtain⟨N,e2⟩:=tbls b _ e1;exact⟨L++N,by rw[e2,ZD]⟩
 .obtain⟨m,hn,hl⟩:=I.loc;refine⟨m,ns m hn,λi x v e1 e2 e3=>?_⟩;obtain⟨u,r,l⟩:=hl i x v e1 e2 e3;refine⟨u,r,?_⟩;rcases l with l|⟨k,c,e,z⟩
  .exact .inl l
  .exact .inr ⟨k,c,e,B x c e _ z⟩
 .obtain⟨v,z⟩:=I.cell x c e;exact⟨v,B x c e v z⟩
 .obtain⟨m,⟨o,_,_,ho,_⟩,_⟩:=I.loc;exact free _ o (λz=>(A _ z).2.1 rfl) ho I.free
 .obtain⟨v,o,ho,hd⟩:=I.cell x c e;exact free c o (λz=>(A c z).2.2.1 x c e rfl) ho (I.freeC x c e)
 .obtain⟨e,n,ne,J,d⟩:=I.pin p hp;have C:p.1∉ch:=λz=>(A p.1 z).2.2.2 p hp rfl;exact⟨keep p.1 p.2 ne J C e n,free p.1 p.2 C e n,ne,J,d⟩
theorem Inv.un(I:Inv X pins Y H s)(u:Un X.fs [] H H' s.heap h')(hok:jt X.prog X.w H' h'):Inv X pins Y H' { s with heap:=h',toks:=t' }:=by
 obtain⟨m,⟨o,es,ep,ho,r⟩,_⟩:=id I.loc;obtain⟨sl,q⟩:=u.any ho I.free (by simp);exact I.step (g':=s.gens) (d':=s.drawn) (ch:=[]) (λ_ z=>nomatch z) (λb o _ d _ e n=>u.keep b o e n d (by simp)) (λb o _ d _ e n=>u.slot b o e n d (by simp)) (λb o _ e n=>u.free b o e n (by simp)) (λb o _ e=>u.there b o e (by simp)) u.tups u.frzs u.tbls (λQ hm=>by obtain⟨o',O,P,x,r'⟩:=hm;rw[ho] at x;cases x;exact⟨_,O,P,q,r'⟩) hok I.bare
theorem Inv.call(I:Inv X pins Y H s)(u:Un (dz X.stack) ch H H' s.heap h')(hok:jt X.prog X.w H' h')(K:AllBare g')
  (A:∀b∈ch,(b∈X.ex\/X.s₀.heap.objs.size<=b)/\b≠X.env.locals/\(∀x c,X.env.cells.lookup x=some c->c≠b)/\∀p∈X.pn++pins,p.1≠b):
  Inv X pins Y H' { s with heap:=h',gens:=g',drawn:=d',toks:=t' }:=by
 obtain⟨m,⟨o,es,ep,ho,r⟩,_⟩:=id I.loc;obtain⟨sl,q⟩:=u.any ho I.free λz=>(A _ z).2.1 rfl;exact I.step (ch:=ch) A (λb o q d hc e n=>u.keep b o e n (λz=>(U5.mp (I.lO b z)).elim q d) hc) (λb o _ _ hc e n=>u.any e n hc) (λb o hc e n=>u.free b o e n hc) (λb o hc e=>u.there b o e hc) u.tups u.frzs u.tbls (λQ hm=>by obtain⟨o',O,P,R,r'⟩:=hm;rw[ho] at R;cases R;exact⟨_,O,P,q,r'⟩) hok K
theorem Inv.turned(I:Inv X pins Y H s)(k:∀b o,b≠it->s.heap.get? b=some o->h'.get? b=some o)(hn:H it=none)(T:it≠X.env.locals)
  (h1:it∈X.ex\/X.s₀.heap.objs.size<=it)(h2:∀x c,X.env.cells.lookup x=some c->c≠it)(h3:∀p∈X.pn++pins,p.1≠it):Inv X pins Y H { s with heap:=h',toks:=t' }:=by
 have S:∀b u,H b=some u->b≠it:=λb u e z=>by rw[z,hn] at e;cases e
 refine I.step (g':=s.gens) (d':=s.drawn) (ch:=[it]) (λb d=>?_) (λb o _ _ hc e _=>k b o (λz=>hc (by simp[z])) e) (λb o _ _ hc e _=>⟨o.slots,k b o (λz=>hc (by simp[z])) e⟩) (λ_ _ _ _ n=>n)
  (λb o hc e=>⟨o,k b o (λz=>hc (by simp[z])) e⟩) (λ_ _ e=>e) (λ_ _ _ e=>e) (λb ps e=>⟨#[],by rw[e];simp⟩) (λm hm=>?_) (λb u e=>?_) I.bare
 .have e:b=it:=by simpa using d
  subst e;exact⟨h1,T,h2,h3⟩
 .obtain⟨o,es,ep,ho,r⟩:=hm;exact⟨o,es,ep,k _ o (VY T) ho,r⟩
 .refine(I.hok b u e).pj (λc v hc q=>k c v ?_ q) (λ_ q=>q) λ_ _ q=>q;rcases hc with z|z
  .rw[z];exact S b u e
  .exact S c _ z
theorem Inv.tok(I:Inv X pins Y H s)(t:Nat):Inv X pins Y H { s with toks:=t }:=I.un (h':=s.heap) (t':=t) Un.refl I.hok
theorem Inv.kept{t':Nat}(I:Inv X pins Y H s)(k:∀b u,s.heap.get? b=some u->h'.get? b=some u):Inv X pins Y H { s with heap:=h',toks:=t' }:=I.un (Un.kept k) (I.hok.kept k)
theorem Inv.laid{a:Addr}{o:HO}{t':Nat}(I:Inv X pins Y H s)(k:∀b u,s.heap.get? b=some u->h'.get? b=some u)(hp:s.heap.objs.size<=a)(new:ba X.prog X.w (upd H a o) h' a o):
  Inv X pins Y (upd H a o) { s with heap:=h',toks:=t' }:=I.un (Un.laid k hp (I.hok.fresh hp)) (I.hok.laid k hp new)
theorem Inv.write{x e:Addr}{o:HO}{t':Nat}(I:Inv X pins Y H s)(mu:RF (H x))(he:e=x\/H e=some (.own x))(k:∀b u,b≠e->s.heap.get? b=some u->h'.get? b=some u)(t:∃u,h'.get? e=some u)
  (new:ba X.prog X.w (upd H x o) h' x o):Inv X pins Y (upd H x o) { s with heap:=h',toks:=t' }:=I.un (Un.write mu he k t) (I.hok.write mu he k t new)
theorem Inv.rR{U:List (Addr×Obj)}(I:Inv X pins Y H s)(h:∀p∈U,s.heap.get? p.1=some p.2/\H p.1=none/\p.1≠X.env.locals/\p.1∉X.fs/\∀v,p.2.data≠.cell v):Inv X U Y H s:=
 ⟨I.ok,I.os,I.bare,I.base,I.loc,I.cell,I.free,I.freeC,λp hp=>(Vb.mp hp).elim (λz=>I.pin p (Vk _ z)) (h p),I.hok,I.len⟩
theorem nF(z:N.Nodup)(a:N[i]?=some x)(b:N[j]?=some x):i=j:=by obtain⟨h1,e1⟩:=UQ.mp a;obtain⟨h2,e2⟩:=UQ.mp b;exact(ZZ z).mp (e1.trans e2.symm)
theorem qa{M:Model}{A:Around}{Q:Unit->Shared->Prop}(I:Inv X pins Y H s)(hN:X.N.Nodup)(hi:X.N[i]?=some x)(hx:Loc X.env.scope x)(r:RelV v u)
  (h:∀s',Inv X pins (Y.set i (some v)) H s'->(∃a,Xz a s.heap s'.heap/\(a=X.env.locals\/X.env.cells.lookup x=some a))->Q () s')(hf:X.fn x=true\/X.env.scope.names.lookup x=some .local:=by first|exact .inl rfl|exact .inr rfl|assumption):wpAny M A (storeName X.env x u) Q E s:=by
 obtain⟨m,hn,hl⟩:=id I.loc;have hcls:(X.env.scope.kind==.class || (X.env.scope.kind==.module&&X.env.locals != X.env.globals))=false:=by rw[I.ok.kind];rfl
 have hiσ:i<Y.length:=by rw[I.len];exact(UQ.mp hi).1
 have Gh:=I.Gh;have tracked:∀{a:Addr}{h':Heap},(∃o,s.heap.get? a=some o/\H a=none)->Xz a s.heap h'->jt X.prog X.w H h':=λ{a h'} ha hs b ob e=>by
  obtain⟨_,_,hfree⟩:=ha;refine(I.hok b ob e).pj (λc w' hc q=>(hs.2 c ?_).trans q) (λ_ q=>q) λ_ _ q=>q;rintro rfl;rcases hc with rfl|hc
  .rw[hfree] at e;cases e
  .rw[hfree] at hc;cases hc
 rcases hx with hk|hk
 .refine wpAny_storeName_local hk hn (λh' hn' hs=>?_) hcls;obtain⟨oL,_,_,hoL,_⟩:=id hn;refine h _ ⟨I.ok,I.os,I.bare,⟨λb o e n hb hx=>?_,λb o e n hb hx=>?_,I.base.free,λb o e hx=>?_,I.base.tups,I.base.frzs,I.base.tbls⟩,⟨_,hn',λj y v' e1 e2 e3=>?_⟩,λy c e=>?_,I.free,I.freeC,λp hp=>?_,tracked ⟨oL,hoL,I.free⟩ hs,by simpa using I.len⟩ ⟨_,hs,.inl rfl⟩
  .exact(hs.2 b (Vi (UZ (U4 e) I.ok.above))).trans (I.base.keep b o e n hb hx)
  .obtain⟨sl,e1⟩:=I.base.slot b o e n hb hx;exact⟨sl,(hs.2 b (Vi (UZ (U4 e) I.ok.above))).trans e1⟩
  .obtain⟨o',e1⟩:=I.base.there b o e hx;exact⟨o',(hs.2 b (Vi (UZ (U4 e) I.ok.above))).trans e1⟩
  .by_cases hj:j=i
   .subst hj;rw[hi] at e1;cases e1;rw[Vl hiσ] at e2;cases e2;exact⟨u,r,.inl ⟨hk,by simp⟩⟩
   .rw[VC (VY hj)] at e2;obtain⟨u',r',q⟩:=hl j y v' e1 e2 e3;refine⟨u',r',?_⟩;rcases q with ⟨k,e⟩|⟨k,c,e,z⟩
    .refine .inl ⟨k,?_⟩;have:y≠x:=λe=>hj (nF hN e1 (e▸hi));simp[this,e]
    .exact .inr ⟨k,c,e,z.sameBut hs (Gh y c e)⟩
  .obtain⟨w',z⟩:=I.cell y c e;exact⟨w',z.sameBut hs (Gh y c e)⟩
  .obtain⟨e,n,ne,nf,d⟩:=I.pin p hp;exact⟨(hs.2 p.1 ne).trans e,n,ne,nf,d⟩
 .have hfn:X.fn x=true:=by
   rcases hf with z|z
   .exact z
   .rw[z] at hk;cases hk
  obtain⟨c,hc⟩:=I.ok.has x (.inl hk);obtain⟨w',z⟩:=I.cell x c hc;refine wpAny_storeName_cell I.ok.kind hk hc z (λh' hc' hs=>?_);obtain⟨oc,hoc,hocd⟩:=id z;refine h { s with heap:=h' } ⟨I.ok,I.os,I.bare,⟨λb o e n hb hx=>?_,λb o e n hb hx=>?_,I.base.free,λb o e hx=>?_,I.base.tups,I.base.frzs,I.base.tbls⟩,⟨m,hn.sameBut hs (VY (Gh x c hc)),λj y v' e1 e2 e3=>?_⟩,λy c' e=>?_,I.free,I.freeC,λp hp=>?_,tracked ⟨oc,hoc,I.freeC x c hc⟩ hs,by simpa using I.len⟩ ⟨c,hs,.inr hc⟩
  .exact(hs.2 b (Vi (UZ (U4 e) (I.ok.cab x c hfn hc)))).trans (I.base.keep b o e n hb hx)
  .obtain⟨sl,e1⟩:=I.base.slot b o e n hb hx;exact⟨sl,(hs.2 b (Vi (UZ (U4 e) (I.ok.cab x c hfn hc)))).trans e1⟩
  .obtain⟨o',e1⟩:=I.base.there b o e hx;exact⟨o',(hs.2 b (Vi (UZ (U4 e) (I.ok.cab x c hfn hc)))).trans e1⟩
  .by_cases hj:j=i
   .subst hj;rw[hi] at e1;cases e1;rw[Vl hiσ] at e2;cases e2;exact⟨u,r,.inr ⟨.inl hk,c,hc,hc'⟩⟩
   .rw[VC (VY hj)] at e2;obtain⟨u',r',q⟩:=hl j y v' e1 e2 e3;refine⟨u',r',?_⟩;rcases q with q|⟨k,c',e,z'⟩
    .exact .inl q
    .refine .inr ⟨k,c',e,z'.sameBut hs ?_⟩;rintro rfl;exact hj (nF hN e1 (I.ok.inj _ _ _ e hc▸hi))
  .by_cases hcc:c'=c
   .subst hcc;exact⟨_,hc'⟩
   .obtain⟨w2,z2⟩:=I.cell y c' e;exact⟨w2,z2.sameBut hs hcc⟩
  .obtain⟨e,n,ne,nf,d⟩:=I.pin p hp;refine⟨(hs.2 p.1 ?_).trans e,n,ne,nf,d⟩;intro q;rw[q,hoc] at e;have q':oc=p.2:=U1 e;exact d w' (by rw[<-q'];exact hocd)
theorem gm{M:Model}{A:Around}{Q:Unit->Shared->Prop}(I:Inv X pins Y H s)(hN:X.N.Nodup)(hi:X.N[i]?=some x)(hx:Loc X.env.scope x)(r:RelV v u)
  (h:∀s',Inv X pins (Y.set i (some v)) H s'->Q () s')(hf:X.fn x=true\/X.env.scope.names.lookup x=some .local:=by first|exact .inl rfl|exact .inr rfl|assumption):wpAny M A (storeName X.env x u) Q E s:=
 qa I hN hi hx r (λs' I' _=>h s' I') hf
theorem Inv.Jz{s':Shared}(I:Inv X pins Y H s)(ho:s'.os=s.os)(u:Un (dz X.stack) ch H H' s.heap s'.heap)(hok:jt X.prog X.w H' s'.heap)(K:AllBare s'.gens)
  (A:∀b∈ch,(b∈X.ex\/X.s₀.heap.objs.size<=b)/\b≠X.env.locals/\(∀x c,X.env.cells.lookup x=some c->c≠b)/\∀p∈X.pn++pins,p.1≠b):Inv X pins Y H' s':=by
 obtain⟨h',g',d',t',o'⟩:=s';have e:o'=s.os:=ho;subst e;exact I.call (g':=g') (t':=t') (d':=d') u hok K A
end
abbrev XK:=Value->Option Addr->Hp->Prop
noncomputable abbrev St:=List (Option V)
abbrev VK:=V->Hp->Prop
abbrev TE:=St->Hp->VK->Prop
abbrev TT:=St->Hp->(Bool->Hp->Prop)->Prop
abbrev TA:=St->Hp->(List V->Hp->Prop)->Prop
structure Ends where
 nx:St->Hp->Prop
 rt:VK
 bk:St->Hp->Prop:=λ_ _=>False
 ct:St->Hp->Prop:=λ_ _=>False
abbrev TS:=Ends->St->Hp->Prop
inductive EP(X:Cx)(pins:List (Addr×Obj))(Y:St)(Q:VK)(u:Value)(s':Shared):Prop
 |mk(v:V)(H':Hp)(i:Inv X pins Y H' s')(r:RelV v u)(q:Q v H')
inductive TP(X:Cx)(pins:List (Addr×Obj))(Y:St)(Q:Bool->Hp->Prop)(b:Bool)(s':Shared):Prop
 |mk(H':Hp)(i:Inv X pins Y H' s')(q:Q b H')
inductive AP(X:Cx)(pins:List (Addr×Obj))(Y:St)(Q:List V->Hp->Prop)(us:List Value)(s':Shared):Prop
 |mk(vs:List V)(H':Hp)(i:Inv X pins Y H' s')(r:Vals vs us)(q:Q vs H')
def SP(X:Cx)(pins:List (Addr×Obj))(D:Ends)(f:Flow)(s':Shared):Prop:=
 match f with
 | .next=>∃j H',Inv X pins j H' s'/\D.nx j H'
 | .brk=>∃j H',Inv X pins j H' s'/\D.bk j H'
 | .cont=>∃j H',Inv X pins j H' s'/\D.ct j H'
 | .ret u=>∃v j H',Inv X pins j H' s'/\RelV v u/\D.rt v H'
def PE(X:Cx)(e:Expr)(t:TE):Prop:=
 ∀(pins:List (Addr×Obj))(s:Shared)(Y:St)(H:Hp)(Q:VK),Inv X pins Y H s->t Y H Q->wpAny (model X.prog X.w) X.A (eval e X.env) (EP X pins Y Q) X.xe s
def PT(X:Cx)(e:Expr)(t:TT):Prop:=
 ∀(pins:List (Addr×Obj))(s:Shared)(Y:St)(H:Hp)(Q:Bool->Hp->Prop),Inv X pins Y H s->t Y H Q->wpAny (model X.prog X.w) X.A (isTrue e X.env (eval e X.env)) (TP X pins Y Q) X.xe s
def PW(X:Cx)(e:Expr)(t:TT):Prop:=
 ∀(I:Sem Value)(pins:List (Addr×Obj))(s:Shared)(Y:St)(H:Hp)(Q:Bool->Hp->Prop),Inv X pins Y H s->t Y H Q->wpAny (model X.prog X.w) X.A (isTrue e X.env I) (TP X pins Y Q) X.xe s
variable{X:Cx}{e:Expr}
theorem PW.pt{t:TT}(h:PW X e t):PT X e t:=h _
def PA(X:Cx)(es:List Expr)(t:TA):Prop:=
 ∀(pos:Pos)(pins:List (Addr×Obj))(s:Shared)(Y:St)(H:Hp)(Q:List V->Hp->Prop),Inv X pins Y H s->t Y H Q->wpAny (model X.prog X.w) X.A (spliced (backTo pos (starEach es X.env))) (AP X pins Y Q) X.xe s
def PS(X:Cx)(st:Stmt)(t:TS):Prop:=
 ∀(pins:List (Addr×Obj))(s:Shared)(Y:St)(H:Hp)(D:Ends),Inv X pins Y H s->t D Y H->wpAny (model X.prog X.w) X.A (exec st X.env) (SP X pins D) X.xe s
def tP(X:Cx)(st:List Stmt)(t:TS):Prop:=
 ∀(pins:List (Addr×Obj))(s:Shared)(Y:St)(H:Hp)(D:Ends),Inv X pins Y H s->t D Y H->wpAny (model X.prog X.w) X.A (execs st X.env) (SP X pins D) X.xe s
variable{α:Type}{s:Shared}
theorem bf{t:Sem α}{Q H:α->Shared->Prop}{M:Model}{A:Around}(h:wpAny M A t Q E s)(V:∀a s,Q a s->H a s):wpAny M A t H E s:=wpAny_mono h V λ_ _ x=>x
variable{pins:List (Addr×Obj)}{Y:St}{R:V->V->Hp->Prop}{pos:Pos}{Q:Value->Shared->Prop}{op:CmpOp}{c:Expr}
section
variable{X:Cx}
theorem bin{a b:Expr}{ta tb:TE}(ha:PE X a ta)(d:PE X b tb)(I:Inv X pins Y H s)(h:ta Y H λx e=>tb Y e λy c=>R x y c)
  {Q:α->Shared->Prop}{f:Value->Value->Sem α}
  (hf:∀v u s2 x y c,Inv X pins Y c s2->RelV x v->RelV y u->R x y c->wpAny (model X.prog X.w) X.A (f v u) Q X.xe s2):
  wpAny (model X.prog X.w) X.A (eval a X.env) (λv Z=>wpAny (model X.prog X.w) X.A (eval b X.env) (λu U=>wpAny (model X.prog X.w) X.A (f v u) Q X.xe U) X.xe Z) X.xe s:=by
 refine bf (ha pins s Y H _ I h) λv s1 ⟨x,e,g,i,k⟩=>?_;refine bf (d pins s1 Y e _ g k) λu s2 ⟨y,c,m,n,o⟩=>?_;exact hf v u s2 x y c m i n o
noncomputable def Bv(i:Nat):TE:=λY H Q=>∃v,Y[i]?=some (some v)/\Q v H
noncomputable def tC(v:V):TE:=λ_ H Q=>Q v H
theorem eB(hN:X.N[i]?=some x)(hv:uY X.env.scope x)(hd:gu x:=by decide)(hcd:zz x:=by decide):PE X (.Name x pos) (Bv i):=by
 intro pins s Y H Q I h;obtain⟨v,e,h⟩:=h;obtain⟨m,hn,hl⟩:=I.loc;obtain⟨u,r,l⟩:=hl i x v hN e hv;have fin:EP X pins Y Q u s:=⟨v,H,I,r,h⟩
 rcases l with ⟨hk,hm⟩|⟨hk,c,hc,hcell⟩
 .exact wpAny_Name (wpAny_loadName_local I.ok.kind hk hn hm fin) hd
 .rcases hk with hk|hk
  .exact wpAny_Name (wpAny_loadName_cell I.ok.kind hk hc hcell fin) hd
  .exact wpAny_Name (wpAny_loadName_free I.ok.kind hk hc hcell fin hcd) hd
theorem M8{i j pos}:PE X (.Constant (.int i) j pos) (tC (.int i)):=λ_ _ _ H _ I h=>wpAny_Constant_int ⟨.int i,H,I.tok _,⟨_,rfl⟩,h⟩
theorem PD{b j pos}:PE X (.Constant (.bool b) j pos) (tC (.bl b)):=λ_ _ _ H _ I h=>Constant_bool ⟨.bl b,H,I,rfl,h⟩
theorem M4{j pos}:PE X (.Constant .none j pos) (tC .non):=λ_ _ _ H _ I h=>Constant_none ⟨.non,H,I,rfl,h⟩
theorem Nd{x j pos}:PE X (.Constant (.str x) j pos) (tC (.str x)):=λ_ _ _ H _ I h=>Calls.Constant_str ⟨.str x,H,I.tok _,⟨_,rfl⟩,h⟩
def Gl(X:Cx)(x:Str):Prop:=X.env.kindOf x=some .globalImplicit
theorem jq(I:Inv X pins Y H s)(hg:Gl X x)(hm:X.mg x=some u)(h:Q u s)
  (hd:gu x:=by decide):wpAny (model X.prog X.w) X.A (eval (.Name x pos) X.env) Q E s:=
 YD I.ok.kind hg (Calls.loadGlobal_global (by rw[I.ok.glob];exact I.mod.glob.keeps I.bk) hm h) hd
theorem oY(I:Inv X pins Y H s)(hg:Gl X x)(hm:X.mg x=none)(hv:bootBuiltins x=some u)(h:Q u s)
  (hn:x ≠ "__name__" := by decide)(hd:gu x:=by decide):wpAny (model X.prog X.w) X.A (eval (.Name x pos) X.env) Q E s:=by
 obtain⟨mb,h1,h2⟩:=I.mod.blt;exact YD I.ok.kind hg (Calls.loadGlobal_builtin (by rw[I.ok.glob];exact I.mod.glob.keeps I.bk) hm (by rw[I.ok.blt];exact h1.keeps I.bk) ((h2 x hn).trans hv) h) hd
theorem rK(hg:Gl X x)(hm:X.mg x=some u)(r:RelV v u)(hd:gu x:=by decide):PE X (.Name x pos) (tC v):=
 λ_ _ _ H _ I h=>jq I hg hm ⟨v,H,I,r,h⟩ hd
theorem qM(hg:Gl X x)(hm:X.mg x=none)(hv:bootBuiltins x=some u)(r:RelV v u)(hn:x ≠ "__name__" := by decide)(hd:gu x:=by decide):PE X (.Name x pos) (tC v):=
 λ_ _ _ H _ I h=>oY I hg hm hv ⟨v,H,I,r,h⟩ hn hd
variable{a b:Expr}{ta tb:TE}{pos:Pos}
def PC(X:Cx)(op:CmpOp)(a b:Expr)(t:TE):Prop:=
 ∀(pins:List (Addr×Obj))(s:Shared)(Y:St)(H:Hp)(Q:VK),Inv X pins Y H s->t Y H Q->
  wpAny (model X.prog X.w) X.A (eval a X.env) (λv Z=>wpAny (model X.prog X.w) X.A (eval b X.env) (λu U=>wpAny (model X.prog X.w) X.A (compareOp op v u) (EP X pins Y Q) X.xe U) X.xe Z) X.xe s
noncomputable def tB(t:TE):TT:=λY H Q=>t Y H λx e=>∃c,x=.bl c/\Q c e
theorem CH{t:TE}(h:PC X op a b t)(h1:behindInMarks op b=false:=by first|exact nobehind _ (by decide) (by decide)|rfl):PE X (.Compare a [op] [b] pos) t:=λpins s Y H Q I hw=>wpAny_Compare1 (h pins s Y H Q I hw) h1
theorem Cb{t:TE}(h:PC X op a b t)(h1:behindInMarks op b=false:=by first|exact nobehind _ (by decide) (by decide)|rfl):PT X (.Compare a [op] [b] pos) (tB t):=by intro pins s Y H Q I hw;refine wpAny_isTrue_Compare1 (bf (h pins s Y H _ I hw) λv s1 h1=>bf h1 λu s2 h2=>bf h2 λc s3 ⟨x,H1,I1,r1,q1⟩=>?_) h1;obtain⟨d,rfl,q⟩:=q1;cases r1;exact wpAny_truthy_bool ⟨H1,I1,q⟩
theorem NA{t:TE}(h:PE X e t)(he:∀whole,isTrue e X.env whole=(do let v <- whole;standAt e.pos;holding [v] (truthy v)):=by intro _;rfl):PT X e (tB t):=by intro pins s Y H Q I hw;refine isTrue_plain (bf (h pins s Y H _ I hw) λv s1 ⟨x,H1,I1,r1,q1⟩=>?_) (he _);obtain⟨d,rfl,q⟩:=q1;cases r1;exact wpAny_truthy_bool ⟨H1,I1,q⟩
variable{tA tB':TT}{rest:List Expr}
noncomputable def RZ(t u:TT):TT:=λY H Q=>t Y H λc e=>if c=true then u Y e Q else Q false e
noncomputable def Uk(t u:TT):TT:=λY H Q=>t Y H λc e=>if c=true then Q true e else u Y e Q
noncomputable def S3(t:TT):TT:=λY H Q=>t Y H λc e=>Q (!c) e
theorem HA(ha:PT X a tA):PW X (.BoolOp .And [a] pos) tA:=by
 intro Z pins s Y H Q I h;refine isTrue_and (bf (ha pins s Y H Q I h) λc s1 e=>?_);cases c with
 |true=>exact isTrue_and_nil e
 |false=>exact e
theorem LF(ha:PT X a tA):PW X (.BoolOp .Or [a] pos) tA:=by
 intro Z pins s Y H Q I h;refine isTrue_or (bf (ha pins s Y H Q I h) λc s1 e=>?_);cases c with
 |false=>exact isTrue_or_nil e
 |true=>exact e
theorem LL(ha:PT X a tA)(d:PW X (.BoolOp .And (b::rest) pos) tB'):PW X (.BoolOp .And (a::b::rest) pos) (RZ tA tB'):=by
 intro Z pins s Y H Q I h;refine isTrue_and (bf (ha pins s Y H _ I h) λc s1 ⟨e,g,k⟩=>?_);cases c with
 |true=>exact d Z pins s1 Y e Q g k
 |false=>exact⟨e,g,k⟩
theorem OE(ha:PT X a tA)(d:PW X (.BoolOp .Or (b::rest) pos) tB'):PW X (.BoolOp .Or (a::b::rest) pos) (Uk tA tB'):=by
 intro Z pins s Y H Q I h;refine isTrue_or (bf (ha pins s Y H _ I h) λc s1 ⟨e,g,k⟩=>?_);cases c with
 |true=>exact⟨e,g,k⟩
 |false=>exact d Z pins s1 Y e Q g k
theorem MJ(ha:PT X a tA):PT X (.UnaryOp .Not a pos) (S3 tA):=by intro pins s Y H Q I h;exact isTrue_not (bf (ha pins s Y H (λc e=>Q (!c) e) I h) λc s' ⟨H',i,q⟩=>⟨H',i,q⟩)
noncomputable def Pu(ta tb:TE):TE:=λY H Q=>ta Y H λx e=>∃c,x=.bl c/\if c=true then tb Y e Q else Q (.bl false) e
noncomputable def Tf(ta tb:TE):TE:=λY H Q=>ta Y H λx e=>∃c,x=.bl c/\if c=true then Q (.bl true) e else tb Y e Q
noncomputable def QJ(ta:TE):TE:=λY H Q=>ta Y H λx e=>∃c,x=.bl c/\Q (.bl (!c)) e
theorem MQ{op}{t:TE}(h:PE X a t):PE X (.BoolOp op [a] pos) t:=λpins s Y H Q I b=>BoolOp_one (h pins s Y H Q I b)
theorem Nl(ha:PE X a ta)(d:PE X (.BoolOp .And (b::rest) pos) tb):PE X (.BoolOp .And (a::b::rest) pos) (Pu ta tb):=by
 intro pins s Y H Q I h;refine BoolOp_and (bf (ha pins s Y H _ I h) λv s1 ⟨x,e,g,i,k⟩=>?_);obtain⟨c,rfl,k⟩:=k;cases i;refine wpAny_truthy_bool ?_;cases c with
 |true=>exact d pins s1 Y e Q g k
 |false=>exact⟨.bl false,e,g,rfl,k⟩
theorem OO(ha:PE X a ta)(d:PE X (.BoolOp .Or (b::rest) pos) tb):PE X (.BoolOp .Or (a::b::rest) pos) (Tf ta tb):=by
 intro pins s Y H Q I h;refine BoolOp_or (bf (ha pins s Y H _ I h) λv s1 ⟨x,e,g,i,k⟩=>?_);obtain⟨c,rfl,k⟩:=k;cases i;refine wpAny_truthy_bool ?_;cases c with
 |false=>exact d pins s1 Y e Q g k
 |true=>exact⟨.bl true,e,g,rfl,k⟩
theorem J9(ha:PE X a ta):PE X (.UnaryOp .Not a pos) (QJ ta):=by intro pins s Y H Q I h;refine UnaryOp_ (bf (ha pins s Y H _ I h) λv s1 ⟨x,e,g,i,k⟩=>?_);obtain⟨c,rfl,k⟩:=k;cases i;exact not_of (wpAny_truthy_bool ⟨.bl (!c),e,g,rfl,k⟩)
noncomputable def Uz(t:TT)(ta tb:TE):TE:=λY H Q=>t Y H λc e=>if c=true then ta Y e Q else tb Y e Q
theorem Bh(hc:PT X c tA)(ha:PE X a ta)(E:PE X b tb):PE X (.IfExp c a b pos) (Uz tA ta tb):=by
 intro pins s Y H Q I h;refine wpAny_IfExp (bf (hc pins s Y H _ I h) λd s1 ⟨e,g,k⟩=>?_);cases d with
 |true=>exact ha pins s1 Y e Q g k
 |false=>exact E pins s1 Y e Q g k
end
def g9(K:UN)(H:Hp)(a:Addr)(xs:List V):Prop:=
 Rd H a (.lst xs) \/
  ∃(o:Obj)(its:Array Value)(n:Nat),K.lookup a=some o/\o.cls=.type "list" /\ o.dict=none/\o.data=.seq its n/\its.size<=sizeLine/\Vals xs its.toList
def iu(K:UN)(H:Hp)(a:Addr)(xs:List V):Prop:=
 Rd H a (.tup xs) \/
  ∃(o:Obj)(its:Array Value)(n:Nat),K.lookup a=some o/\(o.cls=.type "tuple" /\ o.dict=none)/\o.data=.seq its n/\its.size<=sizeLine/\Vals xs its.toList
noncomputable def SI:Value->Option V
 | .none=>some .non
 | .bool b=>some (.bl b)
 | .int i _=>some (.int i)
 | .str x _=>some (.str x)
 | .bytes b _=>some (.byt b)
 | .float b _=>some (.flt b)
 | .ref a=>some (.ref a)
 | .type n=>some (.ty n)
 |_=>none
theorem RelV.abs{x:V}(r:RelV x u):SI u=some x:=by
 cases x with
 |non=>cases r;rfl
 |bl _=>cases r;rfl
 |int _=>obtain⟨t,rfl⟩:=r;rfl
 |str _=>obtain⟨t,rfl⟩:=r;rfl
 |byt _=>obtain⟨t,rfl⟩:=r;rfl
 |flt _=>obtain⟨t,rfl⟩:=r;rfl
 |ref _=>cases r;rfl
 |ty _=>cases r;rfl
variable{y:V}
theorem RelV.inj{x:V}(r:RelV x u)(q:RelV y u):x=y:=U1 (r.abs.symm.trans q.abs)
theorem Vals.inj:∀{xs ys:List V}{us:List Value},Vals xs us->Vals ys us->xs=ys
 |_,_,_,.nil,.nil=>rfl
 |_,_,_,.cons r t,.cons r' t'=>by rw[r.inj r',Vals.inj t t']
section
variable{X:Cx}{pins:List (Addr×Obj)}{Y:St}{H:Hp}{s:Shared}{a:Addr}{xs ys:List V}
theorem Inv.list(I:Inv X pins Y H s)(h:g9 X.K H a xs):∃its:List Value,Vals xs its/\PlainL s.heap a its.toArray/\xs.length<=sizeLine:=by
 rcases h with h|⟨o,its,n,hk,hc,hd,u,hz,r⟩
 .obtain⟨z,its,n,r,e⟩:=h.ok I.hok;exact⟨its,r,⟨_,n,e,rfl,rfl,rfl⟩,z⟩
 .refine⟨its.toList,r,⟨o,n,I.p7 a o hk,hc,hd,by simpa using u⟩,?_⟩;have e:=r.length;simp only[VF] at e;omega
theorem Inv.tuple(I:Inv X pins Y H s)(h:iu X.K H a xs):∃its:List Value,Vals xs its/\IsTup s.heap a its.toArray/\xs.length<=sizeLine:=by
 rcases h with h|⟨o,its,n,hk,hc,u,hz,r⟩
 .obtain⟨z,its,r,p⟩:=h.ok I.hok;exact⟨its,r,p.t,z⟩
 .refine⟨its.toList,r,⟨o,I.p7 a o hk,hc.1,n,by simpa using u⟩,?_⟩;have e:=r.length;simp only[VF] at e;omega
theorem Inv.NK(I:Inv X pins Y H s)(h:iu X.K H a xs):∃its:List Value,Vals xs its/\fg s.heap a its.toArray/\xs.length<=sizeLine:=by
 rcases h with h|⟨o,its,n,hk,hc,u,hz,r⟩
 .obtain⟨z,its,r,p⟩:=h.ok I.hok;exact⟨its,r,p,z⟩
 .refine⟨its.toList,r,⟨o,I.p7 a o hk,hc.1,n,by simpa using u,hc.2⟩,?_⟩;have e:=r.length;simp only[VF] at e;omega
theorem Inv.sT(I:Inv X pins Y H s)(h:g9 X.K H a xs)(h':g9 X.K H a ys):xs=ys:=by
 obtain⟨its,r,⟨o,n,e,_,_,d⟩,_⟩:=I.list h;obtain⟨its',r',⟨o',p,f,_,_,d'⟩,_⟩:=I.list h';rw[e] at f;cases f;rw[d] at d';injection d' with d1 _;have:its=its':=by simpa using congrArg zan d1
 subst this;exact r.inj r'
theorem Inv.p6(I:Inv X pins Y H s)(h:iu X.K H a xs)(h':iu X.K H a ys):xs=ys:=by
 obtain⟨its,r,⟨o,e,_,n,d⟩,_⟩:=I.tuple h;obtain⟨its',r',⟨o',f,_,p,d'⟩,_⟩:=I.tuple h';rw[e] at f;cases f;rw[d] at d';injection d' with d1 _;have:its=its':=by simpa using congrArg zan d1
 subst this;exact r.inj r'
end
noncomputable abbrev Cx.oI(X:Cx)(E:Value->Shared->Prop):Cx:={ X with xe:=E }
abbrev Cx.yk(X:Cx):Cx:=X.oI λ_ _=>False
theorem Cx.Ok.oI{X:Cx}(ok:X.Ok)(E:Value->Shared->Prop):(X.oI E).Ok:=
 ⟨ok.mod,ok.kind,ok.glob,ok.blt,ok.above,ok.inj,ok.has,ok.cab,ok.hd,ok.frames,ok.stk,ok.exf,ok.bs,ok.bsz,ok.noex,ok.exfs,ok.kf,ok.frf⟩
theorem Cx.Ok.j2(ok:(X.oI E).Ok):X.Ok:=
 ⟨ok.mod,ok.kind,ok.glob,ok.blt,ok.above,ok.inj,ok.has,ok.cab,ok.hd,ok.frames,ok.stk,ok.exf,ok.bs,ok.bsz,ok.noex,ok.exfs,ok.kf,ok.frf⟩
section
variable{X:Cx}{pins:List (Addr×Obj)}{Y:St}{H:Hp}{s:Shared}{E:Value->Shared->Prop}
theorem Inv.oI(I:Inv X pins Y H s)(E:Value->Shared->Prop):Inv (X.oI E) pins Y H s:=⟨I.ok.oI E,I.os,I.bare,I.base,I.loc,I.cell,I.free,I.freeC,I.pin,I.hok,I.len⟩
theorem Inv.j2(I:Inv (X.oI E) pins Y H s):Inv X pins Y H s:=⟨I.ok.j2,I.os,I.bare,I.base,I.loc,I.cell,I.free,I.freeC,I.pin,I.hok,I.len⟩
end
variable{tc:TT}
section
variable{X:Cx}{st:Stmt}{rest:List Stmt}{t u:TS}{e:Expr}{te:TE}{pos:Pos}
noncomputable def Ja:TS:=λD Y H=>D.nx Y H
noncomputable def Ss(t u:TS):TS:=λD Y H=>t { D with nx:=u D } Y H
theorem HJ:tP X [] Ja:=λ_ _ Y H _ I h=>wpAny_execs_nil ⟨Y,H,I,h⟩
theorem DB(h1:PS X st t)(h2:tP X rest u):tP X (st::rest) (Ss t u):=by
 intro pins s Y H D I h;refine wpAny_execs_cons (bf (h1 pins s Y H { D with nx:=u D } I h) λf s1 q=>?_);cases f with
 |next=>obtain⟨j,H',a,q⟩:=q;exact h2 pins s1 j H' D a q
 |ret v=>exact q
 |brk=>exact q
 |cont=>exact q
theorem Fs(h1:PS X st t):tP X [st] t:=by
 intro pins s Y H D I h;refine wpAny_execs_cons (bf (h1 pins s Y H D I h) λf s1 q=>?_);cases f with
 |next=>exact wpAny_execs_nil q
 |ret v=>exact q
 |brk=>exact q
 |cont=>exact q
noncomputable def MO:TS:=λD Y H=>D.bk Y H
noncomputable def O3:TS:=λD Y H=>D.ct Y H
theorem Gf:PS X (.Pass pos) Ja:=λ_ _ Y H _ I h=>wpAny_Pass ⟨Y,H,I,h⟩
theorem Ey:PS X (.Break pos) MO:=λ_ _ Y H _ I h=>wpAny_Break ⟨Y,H,I,h⟩
theorem uh:PS X (.Continue pos) O3:=λ_ _ Y H _ I h=>wpAny_Continue ⟨Y,H,I,h⟩
theorem Inv.quiet(I:Inv X pins Y H s):interactive X.env=false:=by simp[interactive,I.ok.kind]
noncomputable def PN(te:TE):TS:=λD Y H=>te Y H λ_ e=>D.nx Y e
theorem FA(he:PE X e te)(hs:swapsWith e none pos.line X.env=pure false:=by rfl):PS X (.Expr e pos) (PN te):=by intro pins s Y H D I h;exact wpAny_Expr_any (bf (he pins s Y H _ I h) λv s1 ⟨x,H1,I1,r1,q1⟩=>⟨Y,H1,I1,q1⟩) I.quiet hs
noncomputable def S6(te:TE):TS:=λD Y H=>te Y H D.rt
theorem KR(he:PE X e te):PS X (.Return (some e) pos) (S6 te):=by intro pins s Y H D I h;exact wpAny_Return_some (bf (he pins s Y H _ I h) λv s1 ⟨x,r,g,i,k⟩=>⟨x,Y,r,g,i,k⟩)
noncomputable def Oy:TS:=λD _ H=>D.rt .non H
theorem Iw:PS X (.Return none pos) Oy:=λ_ _ Y H _ I h=>wpAny_Return_none ⟨.non,Y,H,I,rfl,h⟩
noncomputable def R0(c:TT)(t u:TS):TS:=λD Y H=>c Y H λb e=>if b=true then t D Y e else u D Y e
theorem RC{a b:List Stmt}(hc:PT X c tc)(ha:tP X a t)(E:tP X b u):PS X (.If c a b pos) (R0 tc t u):=by
 intro pins s Y H D I h;refine wpAny_If (bf (hc pins s Y H _ I h) λd s1 ⟨e,g,k⟩=>?_);cases d with
 |true=>exact ha pins s1 Y e D g k
 |false=>exact E pins s1 Y e D g k
end
abbrev TG:=V->St->Hp->(St->Hp->Prop)->Prop
abbrev JV:=List V->St->Hp->(St->Hp->Prop)->Prop
def PG(X:Cx)(h:Expr)(t:TG):Prop:=
 ∀(pins:List (Addr×Obj))(s:Shared)(Y:St)(H:Hp)(v:V)(u:Value)(Q:St->Hp->Prop),Inv X pins Y H s->RelV v u->t v Y H Q->
  wpAny (model X.prog X.w) X.A (assign h X.env u) (λ_ s'=>∃j H',Inv X pins j H' s'/\Q j H') X.xe s
def KH(X:Cx)(ts:List Expr)(t:JV):Prop:=
 ∀(pins:List (Addr×Obj))(s:Shared)(Y:St)(H:Hp)(vs:List V)(us:List Value)(Q:St->Hp->Prop),Inv X pins Y H s->Vals vs us->t vs Y H Q->
  wpAny (model X.prog X.w) X.A (assignInOrder ((assignEach ts X.env).map (·.2)) us) (λ_ s'=>∃j H',Inv X pins j H' s'/\Q j H') X.xe s
abbrev MB:=V->V->V->Hp->(Hp->Prop)->Prop
def Rj(X:Cx)(t:MB):Prop:=
 ∀(pins:List (Addr×Obj))(s:Shared)(Y:St)(H:Hp)(o i v:V)(x y u:Value)(Q:Hp->Prop),Inv X pins Y H s->RelV o x->RelV i y->RelV v u->t o i v H Q->
  wpAny (model X.prog X.w) X.A (setItem x y u) (λ_ s'=>∃H',Inv X pins Y H' s'/\Q H') X.xe s
variable{es:List Expr}{k:Nat}{tg:Expr}{te:TE}
section
variable{X:Cx}{pos:Pos}
noncomputable def D5(i:Nat):TG:=λv Y H Q=>Q (Y.set i (some v)) H
theorem GQ(hN:X.N.Nodup)(hi:X.N[i]?=some x)(hx:Loc X.env.scope x)(hf:X.fn x=true\/X.env.scope.names.lookup x=some .local:=by first|exact .inl rfl|exact .inr rfl|assumption):PG X (.Name x pos) (D5 i):=by intro pins s Y H v u Q I r h;exact wpAny_assign_Name (gm I hN hi hx r (λs' I'=>⟨_,H,I',h⟩) hf)
noncomputable def R9:JV:=λvs Y H Q=>vs=[]/\Q Y H
noncomputable def Jh(t:TG)(u:JV):JV:=λvs Y H Q=>∃v r,vs=v::r/\t v Y H λj H'=>u r j H' Q
theorem FC:KH X [] R9:=by intro pins s Y H vs us Q I r h;obtain⟨e,h⟩:=h;subst e;cases r;exact assignInOrder_nil ⟨Y,H,I,h⟩
theorem Bt{t:TG}{u:JV}(h1:PG X e t)(h2:KH X es u)
  (hs:(assignEach (e::es) X.env).map (·.2)=assign e X.env::(assignEach es X.env).map (·.2):=by rfl):KH X (e::es) (Jh t u):=by
 intro pins s Y H vs us Q I r h;obtain⟨v,vr,e1,h⟩:=h;subst e1;cases r with
 |cons r rr=>rw[hs];refine assignInOrder_cons (bf (h1 pins s Y H _ _ _ I r h) λ_ s1 ⟨σ1,H1,I1,q1⟩=>?_);exact h2 pins s1 σ1 H1 _ _ Q I1 rr q1
noncomputable def SW(K:UN)(n:Nat)(t:JV):TG:=λv Y H Q=>∃a xs,v=.ref a/\iu K H a xs/\xs.length=n/\t xs Y H Q
theorem Nz{t:JV}{n:Nat}(hc:X.calm=true)(h:KH X es t)
  (hn:(assignEach es X.env).length=n:=by rfl)(hst:(assignEach es X.env).findIdx? (·.1)=none:=by rfl):PG X (.Tuple es k pos) (SW X.K n t):=by
 intro pins s Y H v u Q I r hw;obtain⟨a,xs,e1,hq,hl,hw⟩:=hw;subst e1;cases r;obtain⟨its,rv,ht,hz⟩:=I.tuple hq;refine assign_Tuple_tuple (I.ok.hd hc) ht (by simp[hn,<-hl,rv.length]) hst λh' hx=>?_;have I1:Inv X pins Y H { s with heap:=h' }:=I.kept (t':=s.toks) λb o e=>hx b o (Vi (U4 e)) e;exact h pins _ Y H xs _ Q I1 (by simpa using rv) hw
noncomputable def Rn(to X:TE)(t:MB):TG:=λv Y H Q=>to Y H λo e=>X Y e λi c=>t o i v c λs=>Q Y s
theorem MX{o i:Expr}{to ti:TE}{t:MB}(ho:PE X o to)(hi:PE X i ti)(hs:Rj X t)
  (ha:∀v,assign (.Subscript o i pos) X.env v=(do
   let ov <- holding [v] (eval o X.env)
   let iv <- holding [v,ov] (eval i X.env)
   standAt pos
   holding [v,ov,iv] (setItem ov iv v)
   release [v,ov,iv] []):=by intro _;rfl):PG X (.Subscript o i pos) (Rn to ti t):=by
 intro pins s Y H v u Q I r h;rw[ha];refine wpAny_bind (wpAny_holding (bf (ho pins s Y H _ I h) λov s1 ⟨x,H1,I1,r1,q1⟩=>?_));refine wpAny_bind (wpAny_holding (bf (hi pins s1 Y H1 _ I1 q1) λiv s2 ⟨y,H2,I2,r2,q2⟩=>?_));refine wpAny_bind (wpAny_standAt (wpAny_bind (wpAny_holding (bf (hs pins s2 Y H2 x y v ov iv u _ I2 r1 r2 r q2) λ_ s3 ⟨H3,I3,q3⟩=>?_))));exact wpAny_release ⟨Y,H3,I3,q3⟩
noncomputable def BV(te:TE)(g:TG):TS:=λD Y H=>te Y H λx e=>g x Y e D.nx
theorem Ck{g:TG}(he:PE X e te)(hg:PG X tg g)(hs:swapsWithSole [tg] e pos.line X.env=pure false:=by rfl)(hw:swappedStores [tg] e X.env=pure none:=by rfl)
  (h1:(assignEach [tg] X.env).map (·.2)=[assign tg X.env]:=by rfl):PS X (.Assign [tg] e pos) (BV te g):=by
 intro pins s Y H D I h;refine wpAny_Assign_stores (bf (he pins s Y H _ I h) λv s1 ⟨x,H1,I1,r1,q1⟩=>?_) hs hw;rw[h1];exact bf (hg pins s1 Y H1 x v _ I1 r1 q1) λ_ s2 q=>q
theorem LG{pos':Pos}(hN:X.N.Nodup)(hi:X.N[i]?=some x)(hx:Loc X.env.scope x)(he:PE X e te)(hs:swapsWith e (some (.Name x pos')) pos.line X.env=pure false:=by rfl)(hf:X.fn x=true\/X.env.scope.names.lookup x=some .local:=by first|exact .inl rfl|exact .inr rfl|assumption):
  PS X (.Assign [.Name x pos'] e pos) (BV te (D5 i)):=by
 intro pins s Y H D I h;refine wpAny_Assign_Name (bf (he pins s Y H _ I h) λv s1 ⟨y,H1,I1,r1,q1⟩=>?_) hs;exact gm I1 hN hi hx r1 (λs2 I2=>⟨_,H1,I2,q1⟩) hf
noncomputable def Pm(i j:Nat)(ta:TA):TS:=λD Y H=>ta Y H λvs e=>∃v w,vs=[v,w]/\D.nx ((Y.set i (some v)).set j (some w)) e
theorem Ml{y:Str}{a b:Expr}{ta:TA}{px py pt:Pos}{kt k2 pt2}(hc:X.calm=true)(hN:X.N.Nodup)(hi:X.N[i]?=some x)(hj:X.N[j]?=some y)(hij:i≠j)
  (hx:X.env.scope.names.lookup x=some .local)(hy:X.env.scope.names.lookup y=some .local)(ha:PA X [a,b] ta)
  (hw:swappedStores [.Tuple [.Name x px,.Name y py] kt pt] (.Tuple [a,b] k2 pt2) X.env=pure (some [x,y]))
  (hs:swapsWithSole [.Tuple [.Name x px,.Name y py] kt pt] (.Tuple [a,b] k2 pt2) pos.line X.env=pure false:=by rfl):
  PS X (.Assign [.Tuple [.Name x px,.Name y py] kt pt] (.Tuple [a,b] k2 pt2) pos) (Pm i j ta):=by
 intro pins s Y H D I h;rw[exec_Assign_arm];refine wpAny_bind (wpAny_standAt ?_);rw[hs];refine wpAny_bind (wpAny_pure ?_);rw[if_neg (by decide)];refine wpAny_bind (Tuple_ (bf (ha _ pins s Y H _ I h) λus s1 ⟨vs,H1,I1,r1,q1⟩=>?_));obtain⟨v,w,e1,q1⟩:=q1;subst e1;obtain⟨u1,u2,rfl,rv,rw'⟩:∃u1 u2,us=[u1,u2]/\RelV v u1/\RelV w u2:=by
  cases r1 with
  |cons p q=>
   cases q with
   |cons p' q'=>cases q';exact⟨_,_,rfl,p,p'⟩
 refine wpAny_newObj_type ?_ (by show 2<=sizeLine;decide);have I2:Inv X pins Y H1 { s1 with heap:=s1.heap.push { cls:=.type "tuple",data:=.seq [u1,u2].toArray } }:=I1.kept (t':=s1.toks) λb o e=>UR _ e;rw[hw];refine wpAny_bind (wpAny_pure ?_);show wpAny (model X.prog X.w) X.A (do rule "assign.swapped-stores";let items <- unpackItems (.ref s1.heap.objs.size) 2 none;assignInOrder [λv=>bindName X.env y v,λv=>bindName X.env x v] items.reverse;pure Flow.next) _ _ _;refine wpAny_bind (wpAny_rule (wpAny_bind (unpackItems_tuple (items:=#[u1,u2]) (I.ok.hd hc) (IsTup.new s1.heap _) λh' hx'=>?_)));have I3:=I2.kept (h':=h') (t':=s1.toks) λb o e=>hx' b o (Vi (U4 e)) e;show wpAny _ _ (assignInOrder [λv=>bindName X.env y v,λv=>bindName X.env x v] [u2,u1] >>= λ_=>pure Flow.next) _ _ _;refine wpAny_bind (assignInOrder_cons (wpAny_bindName (gm I3 hN hj (.inl hy) rw' (λs2 I4=>?_) (.inr hy))));refine assignInOrder_cons (wpAny_bindName (gm I4 hN hi (.inl hx) rv (λs3 I5=>assignInOrder_nil (wpAny_pure ?_)) (.inr hx)));rw[List.set_comm _ _ (VY hij)] at I5;exact⟨_,H1,I5,q1⟩
end
variable{body:List Stmt}{tb:TS}
section
variable{X:Cx}{pos:Pos}
def KG(c:TT)(tb:TS):TS:=λD Y H=>∃W:Nat->St->Hp->Prop,(∃m,W m Y H)/\∀m Y H,W m Y H->
 c Y H λb e=>if b=true then ∃N:St->Hp->Prop,(∀j H',N j H'->∃Q,Q<m/\W Q j H')/\tb { D with nx:=N,ct:=N,bk:=D.nx } Y e else D.nx Y e
theorem AZ(hp:PassesOwn (model X.prog X.w) X.A X.env X.xe)(hc:PT X c tc)(d:tP X body tb):PS X (.While c body [] pos) (KG tc tb):=by
 intro pins s Y H D I h;obtain⟨W,⟨S,T⟩,B⟩:=h;refine wpAny_While (codeAny_whileLoop (λn s'=>∃j H',Inv X pins j H' s'/\W n j H') ?_ S ⟨Y,H,I,T⟩);rintro n s1 ⟨z,e,g,U⟩;refine wpAny_passesOwn hp (bf (hc pins s1 z e _ g (B n z e U)) fun b s2 ⟨H2,I2,o⟩=>?_);cases b with
 |true=>
  obtain ⟨N,L,o⟩:=o;rw [if_pos rfl];refine wpAny_passesOwn hp (bf (d pins s2 z H2 _ I2 o) fun f s3 q3=>?_);cases f with
  |next=>obtain ⟨R,C,F,G⟩:=q3;obtain ⟨Q,hm,J⟩:=L R C G;exact ⟨Q,hm,R,C,F,J⟩
  |cont=>obtain⟨R,C,F,G⟩:=q3;obtain⟨Q,hm,J⟩:=L R C G;exact⟨Q,hm,R,C,F,J⟩
  |brk=>exact q3
  |ret v=>exact q3
 |false=>rw[if_neg Vm];exact wpAny_execs_nil ⟨z,H2,I2,o⟩
end
structure It where
 go:Nat->Hp->Prop
 yld:Nat->Hp->V->Hp->Prop
 stop:Nat->Hp->Prop
def oi(X:Cx)(pins:List (Addr×Obj))(H:Hp)(b:Addr):Prop:=
 H b=none/\b≠X.env.locals/\b∉X.fs/\(b∈X.ex\/X.s₀.heap.objs.size<=b)/\(∀x c,X.env.cells.lookup x=some c->c≠b)/\∀p∈X.pn++pins,p.1≠b
theorem Inv.ze{H':Hp}(I:Inv X pins Y H s)(d:s.heap.objs.size<=b)(hn:H' b=none):oi X pins H' b:=by
 refine⟨hn,Nat.ne_of_gt (UZ I.lt d),I.P0 d,.inr (Vg I.sz d),λx c e z=>?_,λp hp z=>?_⟩
 .obtain⟨v,q⟩:=I.cell x c e;exact absurd (UZ q.lt (by rw[z];exact d)) (VI _)
 .exact absurd (UZ (U4 (I.pin p hp).1) (by rw[z];exact d)) (VI _)
structure Turn(P:Program)(w:World)(K:UN)(tg:Expr)(J:It)(fp:List Addr)(it:Addr)(tn:Nat->Heap->Prop):Prop where
 mem:it∈fp
 obj:∀i h,tn i h->∀b∈fp,∃o,h.get? b=some o/\∀v,o.data≠.cell v
 keep:∀i h h',tn i h->(∀b∈fp,∀o,h.get? b=some o->h'.get? b=some o)->tn i h'
 item:∀(X:Cx),X.prog=P->X.w=w->X.K=K->X.calm=true->∀(i:Nat)(pins:List (Addr×Obj))(s:Shared)(Y:St)(H:Hp)(E:Value->Shared->Prop),Inv X pins Y H s->(∀b∈fp,oi X pins H b)->tn i s.heap->J.go i H->
  wpAny (model P w) X.A (pyNext (.ref it)) (λr s1=>∃u,r=some u /\
   wpAny (model P w) X.A (letOwnedTupleGo tg (.ref it) u) (λ_ s2=>∃x H',Inv X pins Y H' s2/\RelV x u/\J.yld i H x H'/\tn (i+1) s2.heap/\∀b∈fp,H' b=none) E s1) E s
 done:∀(X:Cx),X.prog=P->X.w=w->X.K=K->X.calm=true->∀(i:Nat)(pins:List (Addr×Obj))(s:Shared)(Y:St)(H:Hp)(E:Value->Shared->Prop),Inv X pins Y H s->(∀b∈fp,oi X pins H b)->tn i s.heap->J.stop i H->
  wpAny (model P w) X.A (pyNext (.ref it)) (λr s1=>r=none/\Inv X pins Y H s1) E s
 self:∀(A:Around)(i:Nat)(s:Shared)(Q:Value->Shared->Prop)(E:Value->Shared->Prop),tn i s.heap->Q (.ref it) s->wpAny (model P w) A (pyIter (.ref it)) Q E s
abbrev TI:=St->Hp->(It->Hp->Prop)->Prop
def TU(X:Cx)(pins:List (Addr×Obj))(Y:St)(tg:Expr)(R:It->Hp->Prop)(v:Value)(s2:Shared):Prop:=
 ∃(it:Addr)(fp:List Addr)(tn:Nat->Heap->Prop)(J:It)(H':Hp),v=.ref it/\Inv X pins Y H' s2/\Turn X.prog X.w X.K tg J fp it tn/\tn 0 s2.heap/\(∀b∈fp,oi X pins H' b)/\R J H'
def PI(X:Cx)(tg iter:Expr)(D:TI):Prop:=
 ∀(pins:List (Addr×Obj))(s:Shared)(Y:St)(H:Hp)(R:It->Hp->Prop),Inv X pins Y H s->D Y H R->
  wpAny (model X.prog X.w) X.A (eval iter X.env) (λv s1=>wpAny (model X.prog X.w) X.A (pyIter v) (TU X pins Y tg R) X.xe s1) X.xe s
theorem t5{M:Model}{A:Around}{n:String}{vs:Array Value}{Q:Unit->Shared->Prop}(ho:s.heap.get? it=some o)(hc:o.cls=.type n)(hd:o.data=.fields vs)
    (hn:["enumerate", "zip", "dict_itemiterator", "dict_reverseitemiterator", "odict_iterator", "itertools.zip_longest", "itertools.pairwise"].contains n=false)(V:Q () s):wpAny M A (letOwnedTupleGo tg (.ref it) u) Q E s:=by
  unfold letOwnedTupleGo;cases tg<;>first
    |exact wpAny_pure V
    | (cases u<;>first
        |exact wpAny_pure V
        | (refine wpAny_bind (wpAny_load ho ?_)
           rw[hc,hd]
           show wpAny M A (if (["enumerate", "zip", "dict_itemiterator", "dict_reverseitemiterator", "odict_iterator", "itertools.zip_longest", "itertools.pairwise"].contains n&&vs[0]?==some (rawInt _))=true then _ else _) Q E s
           rw[if_neg (by intro h;rw[hn,YL] at h;cases h)]
           exact wpAny_pure V))
noncomputable def TQ(K:UN)(a:Addr):It:=
 ⟨λi H=>∃xs x,g9 K H a xs/\xs[i]?=some x,λi H x H'=>H'=H/\∀xs,g9 K H a xs->xs[i]?=some x,λi H=>∃xs,g9 K H a xs/\xs.length<=i⟩
noncomputable def TN(K:UN)(a:Addr):It:=
 ⟨λi H=>∃xs x,iu K H a xs/\xs[i]?=some x,λi H x H'=>H'=H/\∀xs,iu K H a xs->xs[i]?=some x,λi H=>∃xs,iu K H a xs/\xs.length<=i⟩
noncomputable def OM(lo:Int)(n:Nat):It:=⟨λi _=>i<n,λi H x H'=>H'=H/\x=.int (lo+i),λi _=>n<=i⟩
variable{K:UN}
theorem yW(a it:Addr):Turn P w K tg (TQ K a) [it] it (λi h=>h.IsListIter it a i) where
 mem:=by simp
 obj:=λi h st b N=>by
  have e:b=it:=by simpa using N
  subst e;obtain⟨o,e,c,d⟩:=st;exact⟨o,e,λv z=>by rw[d] at z;cases z⟩
 keep:=λi h h' st k=>st.at λo e=>k it (by simp) o e
 item:=by intro X l m n hc i pins s Y H E I hf st r;subst l m n;obtain⟨xs,x,j,y⟩:=r;obtain⟨its,t,p,hz⟩:=I.list j;obtain⟨u,f,J⟩:=t.get y;obtain⟨B,C,L,D,F,G⟩:=hf it (by simp);refine wpAny_pyNext_list_item st p.isList (x:=u) (by simpa using f) λh' R O=>?_;have g:Inv X pins Y H { s with heap:=h' }:=I.turned (t':=s.toks) (λb o N e=>(O.2 b N).trans e) B C D F G;obtain⟨o,e,c,d⟩:=id R;exact⟨u,rfl,t5 (s:={ s with heap:=h' }) e c d (by decide) ⟨x,H,g,J,⟨rfl,λys S=>by rw[I.sT S j];exact y⟩,R,λb N=>(hf b N).1⟩⟩
 done:=by intro X l m n hc i pins s Y H E I hf st r;subst l m n;obtain⟨xs,j,y⟩:=r;obtain⟨its,t,p,hz⟩:=I.list j;obtain⟨B,C,L,D,F,G⟩:=hf it (by simp);have hl:=t.length;exact wpAny_pyNext_list_end (I.ok.hd hc) st p.isList (by simp;omega) λh' T=>⟨rfl,I.turned (t':=s.toks) (λb o N e=>T b o N e) B C D F G⟩
 self:=λ_ _ _ _ _ st h=>wpAny_pyIter_listiter st h
theorem v5(a it:Addr):Turn P w K tg (TN K a) [it] it (λi h=>h.IsTupleIter it a i) where
 mem:=by simp
 obj:=λi h st b N=>by
  have e:b=it:=by simpa using N
  subst e;obtain⟨o,e,c,d⟩:=st;exact⟨o,e,λv z=>by rw[d] at z;cases z⟩
 keep:=λi h h' st k=>st.at λo e=>k it (by simp) o e
 item:=by intro X l m n hc i pins s Y H E I hf st r;subst l m n;obtain⟨xs,x,j,y⟩:=r;obtain⟨its,t,p,hz⟩:=I.tuple j;obtain⟨u,f,J⟩:=t.get y;obtain⟨B,C,L,D,F,G⟩:=hf it (by simp);refine wpAny_pyNext_tuple_item st (show s.heap.IsTuple a its.toArray from p) (x:=u) (by simpa using f) λh' R O=>?_;have g:Inv X pins Y H { s with heap:=h' }:=I.turned (t':=s.toks) (λb o N e=>(O.2 b N).trans e) B C D F G;obtain⟨o,e,c,d⟩:=id R;exact⟨u,rfl,t5 (s:={ s with heap:=h' }) e c d (by decide) ⟨x,H,g,J,⟨rfl,λys S=>by rw[I.p6 S j];exact y⟩,R,λb N=>(hf b N).1⟩⟩
 done:=by intro X l m n hc i pins s Y H E I hf st r;subst l m n;obtain⟨xs,j,y⟩:=r;obtain⟨its,t,p,hz⟩:=I.tuple j;obtain⟨B,C,L,D,F,G⟩:=hf it (by simp);have hl:=t.length;exact wpAny_pyNext_tuple_end (I.ok.hd hc) st (show s.heap.IsTuple a its.toArray from p) (by simp;omega) λh' T=>⟨rfl,I.turned (t':=s.toks) (λb o N e=>T b o N e) B C D F G⟩
 self:=λ_ _ _ _ _ st h=>wpAny_pyIter_tupleiter st h
theorem u4(it:Addr)(lo:Int)(n:Nat):Turn P w K tg (OM lo n) [it] it (λi h=>IsRangeIter h it (lo+(i:Nat)*1) ((n:Int)-(i:Nat)) 1) where
 mem:=by simp
 obj:=λi h st b d=>by
  have e:b=it:=by simpa using d
  subst e;exact⟨_,st,λv z=>by have x:Data.fields _=Data.cell v:=z;cases x⟩
 keep:=λi h h' st k=>k it (by simp) _ st
 item:=by intro X l m a hc i pins s Y H E I hf st r;subst l m a;obtain⟨B,C,L,D,F,G⟩:=hf it (by simp);have W:=Walks.range (prog:=X.prog) (w:=X.w) (I.ok.hd hc) it lo 1 n;refine W.item i s _ _ r st λv h' tk c R U=>?_;obtain⟨t,rfl⟩:=c;have g:Inv X pins Y H { s with heap:=h',toks:=tk }:=I.turned (λb o d e=>U b o (by simpa using d) e) B C D F G;refine⟨_,rfl,t5 (s:={ s with heap:=h',toks:=tk }) (n:= "range_iterator") R rfl rfl (by decide) ⟨.int (lo+i),H,g,⟨t,?_⟩,⟨rfl,rfl⟩,R,λb d=>(hf b d).1⟩⟩;rw[Int.mul_one]
 done:=by intro X l m a hc i pins s Y H E I hf st r;subst l m a;obtain⟨B,C,L,D,F,G⟩:=hf it (by simp);exact wpAny_pyNext_range_end (I.ok.hd hc) st (by have:n<=i:=r;omega) λh' T=>⟨rfl,I.turned (t':=s.toks) (λb o d e=>T b o d e) B C D F G⟩
 self:=λ_ _ _ _ _ st h=>wpAny_pyIter_rangeiter st h
variable{p:Pos}{fp:List Addr}
section
variable{X:Cx}{tg:Expr}
theorem uD{R:It->Hp->Prop}{lo hi:Int}{t u v:Tok}{tk:Nat}(I:Inv X pins Y H s)(h1:-(2^62)<=lo)(h2:lo<2^62)(h3:-(2^62)<=hi)(h4:hi<2^62)
  (q:R (OM lo (hi-lo).toNat) H):wpAny (model X.prog X.w) X.A (pyIter (.ref s.heap.objs.size)) (TU X pins Y tg R) E { s with heap:=s.heap.push { cls:=.type "range",data:=.fields #[.int lo t,.int hi u,.int 1 v] },toks:=tk }:=by
 refine wpAny_pyIter_range (IsRange.new ..) (small_one h1 h2 h3 h4) ?_;have g:Inv X pins Y H { s with heap:=s.heap.push { cls:=.type "range",data:=.fields #[.int lo t,.int hi u,.int 1 v] },toks:=tk }:=I.kept λb o e=>UR _ e;refine⟨(s.heap.push { cls:=.type "range",data:=.fields #[.int lo t,.int hi u,.int 1 v] }).objs.size,[(s.heap.push { cls:=.type "range",data:=.fields #[.int lo t,.int hi u,.int 1 v] }).objs.size],_,_,H,rfl,
  g.kept (t':=tk) λb o e=>UR _ e,u4 _ lo (hi-lo).toNat,?_,λb d=>?_,q⟩
 .have e1:lo+((0:Nat):Int)*1=lo:=by simp
  have e2:(((hi-lo).toNat:Nat):Int)-((0:Nat):Int)=zay lo hi 1:=by rw[rangeSize_one];split<;>omega
  show IsRangeIter _ _ (lo+((0:Nat):Int)*1) ((((hi-lo).toNat:Nat):Int)-((0:Nat):Int)) 1;rw[e1,e2];exact U6 _ rfl
 .have e:b=(s.heap.push { cls:=.type "range",data:=.fields #[.int lo t,.int hi u,.int 1 v] }).objs.size:=by simpa using d
  subst e;exact g.ze (U2 _) (g.hok.fresh (U2 _))
def Qj(ta:TA):TI:=λY H R=>ta Y H λvs e=>∃j:Int,vs=[.int j] /\ -(2^62)<=j/\j<2^62/\R (OM 0 j.toNat) e
def PM(ta:TA):TI:=λY H R=>ta Y H λvs e=>∃i j:Int,vs=[.int i,.int j]/\(-(2^62)<=i/\i<2^62 /\ -(2^62)<=j/\j<2^62)/\R (OM i (j-i).toNat) e
theorem Ad{a:Expr}{ta:TA}(hg:Gl X "range")(hm:X.mg "range" = none)(ha:PA X [a] ta)(hs:starEach [a] X.env=[(false,eval a X.env)]:=by rfl):PI X tg (.Call (.Name "range" p) [a] [] pos) (Qj ta):=by
 intro pins s Y H R I h;refine Call_ (oY I hg hm boot_range (WR (bf (ha pos pins s Y H _ I h) λus s1 ⟨vs,H1,I1,r1,q1⟩=>?_) hs rfl));obtain⟨j,e,q1,q2,q⟩:=q1;subst e;cases r1 with
 |cons r rr=>cases rr;obtain⟨t,rfl⟩:=r;exact call_range_1 (uD I1 (by omega) (by omega) q1 q2 (by simpa using q))
theorem z8{a b:Expr}{ta:TA}(hg:Gl X "range")(hm:X.mg "range" = none)(ha:PA X [a,b] ta)(hs:starEach [a,b] X.env=[(false,eval a X.env),(false,eval b X.env)]:=by rfl)(hs2:starEach [b] X.env=[(false,eval b X.env)]:=by rfl):
  PI X tg (.Call (.Name "range" p) [a,b] [] pos) (PM ta):=by
 intro pins s Y H R I h;refine Call_ (oY I hg hm boot_range (WR (bf (ha pos pins s Y H _ I h) λus s1 ⟨vs,H1,I1,r1,q1⟩=>?_) (by rw[hs,hs2]) (by rw[hs2];rfl)));obtain⟨i,j,e,⟨q1,q2,q3,q4⟩,q⟩:=q1;subst e;cases r1 with
 |cons r rr=>
  cases rr with
  |cons r' rr=>cases rr;obtain⟨t,rfl⟩:=r;obtain⟨t',rfl⟩:=r';exact call_range_2 (uD I1 q1 q2 q3 q4 q)
def Su(w:TI)(g:TG)(tb:TS):TS:=λD Y H=>w Y H λJ e=>∃W:Nat->Nat->St->Hp->Prop,(∃m,W 0 m Y e)/\∀i m Y H,W i m Y H->
 (J.stop i H/\D.nx Y H)\/(J.go i H/\∃N:St->Hp->Prop,(∀j H',N j H'->∃Q,Q<m/\W (i+1) Q j H')/\∀x H',J.yld i H x H'->g x Y H' λL c=>tb { D with nx:=N,ct:=N,bk:=D.nx } L c)
noncomputable def nS(fp:List Addr)(h:Heap):List (Addr×Obj):=fp.filterMap λb=>(h.get? b).map λo=>(b,o)
theorem gO(d:b∈fp)(e:h.get? b=some o):(b,o)∈nS fp h:=W3.mpr ⟨b,d,by rw[e];rfl⟩
theorem zj{p:Addr×Obj}(hp:p∈nS fp h):p.1∈fp/\h.get? p.1=some p.2:=by
 obtain⟨b,d,e⟩:=W3.mp hp;cases q:h.get? b with
 |none=>rw[q] at e;cases e
 |some o=>rw[q] at e;have f:(b,o)=p:=U1 e;subst f;exact⟨d,q⟩
theorem Inv.pinned(I:Inv X pins Y H s)(hf:∀b∈fp,oi X pins H b)(ho:∀b∈fp,∃o,s.heap.get? b=some o/\∀v,o.data≠.cell v):Inv X (pins++nS fp s.heap) Y H s:=
 I.rR λp hp=>(Vb.mp hp).elim (λz=>I.pin p (UX _ z)) λz=>by obtain⟨E,e⟩:=zj z;obtain⟨B,C,L,_⟩:=hf p.1 E;obtain⟨o,f,d⟩:=ho p.1 E;rw[e] at f;cases f;exact⟨e,B,C,L,d⟩
theorem Inv.dU{pl:List (Addr×Obj)}(I:Inv X (pins++pl) Y H s):Inv X pins Y H s:=I.rR λp hp=>I.pin p (UX _ (Vk _ hp))
theorem K6{iter:Expr}{wi:TI}{g:TG}(hp:PassesOwn (model X.prog X.w) X.A X.env X.xe)(hc:X.calm=true)(hi:PI X tg iter wi)(hg:PG X tg g)(hb:tP X body tb)
  (hs:∀x,foldedSetIterable iter X.env x=pure x:=by intro _;rfl):PS X (.For tg iter body [] pos) (Su wi g tb):=by
 intro pins s Y H D I h;refine wpAny_For (bf (hi pins s Y H _ I h) λv s1 h1=>bf h1 λitv s2 h2=>?_) hs;obtain⟨it,fp,tn,J,H2,e,I2,T,st2,f2,W,⟨m0,w0⟩,turn⟩:=h2;subst e;have stat:∀{H':Hp},(∀b∈fp,H' b=none)->∀b∈fp,oi X pins H' b:=λhn b hb=>⟨hn b hb,(f2 b hb).2⟩
 refine codeAny_forLoop_any (λn s'=>∃i j H',Inv X pins j H' s'/\tn i s'.heap/\(∀b∈fp,H' b=none)/\W i n j H') ?_ m0 ⟨0,Y,H2,I2,st2,λb hb=>(f2 b hb).1,w0⟩;rintro n s3 ⟨i,R,H3,I3,st3,fr3,w3⟩;rcases turn i n R H3 w3 with ⟨stop,qn⟩|⟨go,N,hN,step⟩
 .refine wpAny_passesOwn hp (bf (T.done X rfl rfl rfl hc i pins s3 R H3 X.xe I3 (stat fr3) st3 stop) λr s4 ⟨hr,I4⟩=>?_);subst hr;exact wpAny_execs_nil ⟨R,H3,I4,qn⟩
 .refine wpAny_passesOwn hp (bf (T.item X rfl rfl rfl hc i pins s3 R H3 X.xe I3 (stat fr3) st3 go) λr s4 ⟨u,hr,h4⟩=>?_);subst hr;refine wpAny_passesOwn hp (bf h4 λ_ s5 ⟨x,H5,I5,r5,y5,st5,fr5⟩=>?_);have I5':=I5.pinned (stat fr5) (T.obj _ _ st5);refine wpAny_passesOwn hp (bf (hg _ s5 R H5 x u _ I5' r5 (step x H5 y5)) λ_ s6 ⟨Z,H6,I6,q6⟩=>?_);refine wpAny_passesOwn hp (bf (hb _ s6 Z H6 _ I6 q6) λf s7 q7=>?_);have again:∀{V:St}{H7:Hp},Inv X (pins++nS fp s5.heap) V H7 s7->N V H7->∃m,m<n/\∃i j H',Inv X pins j H' s7/\tn i s7.heap/\(∀b∈fp,H' b=none)/\W i m j H':=λ{V H7} I7 n7=>by obtain⟨m',hm,w7⟩:=hN V H7 n7;refine⟨m',hm,i+1,V,H7,I7.dU,T.keep _ _ _ st5 λb hb o e=>(I7.pin (b,o) (UX _ (UX _ (gO hb e)))).1,λb hb=>?_,w7⟩;obtain⟨o,e,d⟩:=T.obj _ _ st5 b hb;exact(I7.pin (b,o) (UX _ (UX _ (gO hb e)))).2.1
  cases f with
  |next=>obtain⟨V,H7,I7,n7⟩:=q7;exact again I7 n7
  |cont=>obtain⟨V,H7,I7,n7⟩:=q7;exact again I7 n7
  |brk=>obtain⟨V,H7,I7,q7⟩:=q7;exact⟨V,H7,I7.dU,q7⟩
  |ret v=>obtain⟨x7,V,H7,I7,r7,q7⟩:=q7;exact⟨x7,V,H7,I7.dU,r7,q7⟩
end
abbrev R2:=V->V->Hp->VK->Prop
def eu(X:Cx)(f:Value->Value->Sem Value)(r:R2):Prop:=
 ∀(pins:List (Addr×Obj))(s:Shared)(Y:St)(H:Hp)(x y:V)(v u:Value)(Q:VK),Inv X pins Y H s->RelV x v->RelV y u->r x y H Q->
  wpAny (model X.prog X.w) X.A (f v u) (EP X pins Y Q) X.xe s
def Sk(X:Cx)(f:Value->Sem Value)(r:V->Hp->VK->Prop):Prop:=
 ∀(pins:List (Addr×Obj))(s:Shared)(Y:St)(H:Hp)(x:V)(v:Value)(Q:VK),Inv X pins Y H s->RelV x v->r x H Q->
  wpAny (model X.prog X.w) X.A (f v) (EP X pins Y Q) X.xe s
def bF(X:Cx)(f:Value)(r:List V->Hp->VK->Prop):Prop:=
 ∀(pins:List (Addr×Obj))(s:Shared)(Y:St)(H:Hp)(xs:List V)(us:List Value)(Q:VK),Inv X pins Y H s->Vals xs us->r xs H Q->
  wpAny (model X.prog X.w) X.A (call f us) (EP X pins Y Q) X.xe s
noncomputable def Q7(r:R2)(ta tb:TE):TE:=λY H Q=>ta Y H λx e=>tb Y e λy c=>r x y c Q
noncomputable def Uy(r:V->Hp->VK->Prop)(ta:TE):TE:=λY H Q=>ta Y H λx e=>r x e Q
noncomputable def rI(C:Int->Int->Prop)(g:Int->Int->V):R2:=λx y H Q=>∃i j,x=.int i/\y=.int j/\C i j/\Q (g i j) H
noncomputable def sI(g:Int->Int->V):R2:=λx y H Q=>∃i j,x=.int i/\y=.int j/\Q (g i j) H
def rU(g:Int->V):V->Hp->VK->Prop:=λx H Q=>∃i,x=.int i/\Q (g i) H
variable{r:R2}
section
variable{X:Cx}{a b c:Expr}{ta tb tc:TE}{pos:Pos}
theorem Na(ha:PE X a ta)(d:PE X b tb)(I:Inv X pins Y H s)
  (h:ta Y H λx e=>tb Y e λy c=>R x y c){f:Value->Value->Sem Value}
  (hf:∀v u s2 x y c,Inv X pins Y c s2->RelV x v->RelV y u->R x y c->wpAny (model X.prog X.w) X.A (f v u) Q X.xe s2):
  wpAny (model X.prog X.w) X.A (eval a X.env) (λv Z=>wpAny (model X.prog X.w) X.A (eval b X.env) (λu U=>wpAny (model X.prog X.w) X.A (f v u) Q X.xe U) X.xe Z) X.xe s:=by
 refine bf (ha pins s Y H _ I h) λv s1 ⟨x,e,g,i,k⟩=>?_;refine bf (d pins s1 Y e _ g k) λu s2 ⟨y,c,m,n,o⟩=>?_;exact hf v u s2 x y c m i n o
theorem QW{op:Operator}(ho:eu X (binaryOp op) r)(ha:PE X a ta)(d:PE X b tb):PE X (.BinOp a op b pos) (Q7 r ta tb):=by intro pins s Y H Q I h;exact wpAny_BinOp (Na ha d I h λv u s2 x y c m w z q=>ho pins s2 Y c x y v u Q m w z q)
theorem OA{op:UnaryOp}{r:V->Hp->VK->Prop}(ho:Sk X (unaryOp op) r)(ha:PE X a ta):PE X (.UnaryOp op a pos) (Uy r ta):=by intro pins s Y H Q I h;exact UnaryOp_ (bf (ha pins s Y H _ I h) λv s1 ⟨x,e,g,i,k⟩=>ho pins s1 Y e x v Q g i k)
theorem nD{f:Value->Value->Sem Value}{C:Int->Int->Prop}{g:Int->Int->Int}
  (rule:∀(i j:Int)(t u:Tok)(s:Shared)(Q:Value->Shared->Prop)(E:Value->Shared->Prop),C i j->Q (.int (g i j) s.toks) { s with toks:=s.toks+1 }->wpAny (model X.prog X.w) X.A (f (.int i t) (.int j u)) Q E s):
  eu X f (rI C λi j=>.int (g i j)):=by
 intro pins s Y H x y v u Q I b z h;obtain⟨i,j,rfl,rfl,hc,q⟩:=h;obtain⟨t,rfl⟩:=b;obtain⟨t',rfl⟩:=z;exact rule i j t t' s _ _ hc ⟨.int (g i j),H,I.tok _,⟨_,rfl⟩,q⟩
theorem Ow{f:Value->Value->Sem Value}{g:Int->Int->Int}
  (rule:∀(i j:Int)(t u:Tok)(s:Shared)(Q:Value->Shared->Prop)(E:Value->Shared->Prop),Q (.int (g i j) s.toks) { s with toks:=s.toks+1 }->wpAny (model X.prog X.w) X.A (f (.int i t) (.int j u)) Q E s):
  eu X f (sI λi j=>.int (g i j)):=by
 intro pins s Y H x y v u Q I b z h;obtain⟨i,j,rfl,rfl,q⟩:=h;obtain⟨t,rfl⟩:=b;obtain⟨t',rfl⟩:=z;exact rule i j t t' s _ _ ⟨.int (g i j),H,I.tok _,⟨_,rfl⟩,q⟩
theorem GD{f:Value->Value->Sem Value}{g:Int->Int->Bool}
  (rule:∀(i j:Int)(t u:Tok)(s:Shared)(Q:Value->Shared->Prop)(E:Value->Shared->Prop),Q (.bool (g i j)) s->wpAny (model X.prog X.w) X.A (f (.int i t) (.int j u)) Q E s):
  eu X f (sI λi j=>.bl (g i j)):=by
 intro pins s Y H x y v u Q I b z h;obtain⟨i,j,rfl,rfl,q⟩:=h;obtain⟨t,rfl⟩:=b;obtain⟨t',rfl⟩:=z;exact rule i j t t' s _ _ ⟨.bl (g i j),H,I,rfl,q⟩
def Ql(i j:Int):Prop:=0<=j/\j<=1000000/\i.natAbs<2^64
theorem Km:eu X (binaryOp .Add) (sI λi j=>.int (i+j)):=Ow λ_ _ _ _ _ _ _ q=>add_int q
theorem LY:eu X (binaryOp .Sub) (sI λi j=>.int (i-j)):=Ow λ_ _ _ _ _ _ _ q=>sub_int q
theorem Ij:eu X (binaryOp .Mod) (rI (λ_ j=>j≠0) λi j=>.int (i.fmod j)):=nD λ_ _ _ _ _ _ _ hc q=>mod_int' hc q
theorem J8:eu X (binaryOp .Pow) (rI Ql λi j=>.int (i^j.toNat)):=nD λ_ _ _ _ _ _ _ hc q=>pow_int_small hc.1 hc.2.1 hc.2.2 q
theorem UG{f:Value->Sem Value}{g:Int->Int}
  (rule:∀(i:Int)(t:Tok)(s:Shared)(Q:Value->Shared->Prop)(E:Value->Shared->Prop),Q (.int (g i) s.toks) { s with toks:=s.toks+1 }->wpAny (model X.prog X.w) X.A (f (.int i t)) Q E s):
  Sk X f (rU λi=>.int (g i)):=by
 intro pins s Y H x v Q I b h;obtain⟨i,rfl,q⟩:=h;obtain⟨t,rfl⟩:=b;exact rule i t s _ _ ⟨.int (g i),H,I.tok _,⟨_,rfl⟩,q⟩
theorem MD:Sk X (unaryOp .USub) (rU λi=>.int (-i)):=UG λ_ _ _ _ _ q=>neg_int q
end
variable{op':CmpOp}{r':R2}{us:List Value}
section
variable{X:Cx}{a b c:Expr}{ta tb tc:TE}{pos:Pos}
theorem rW{Q:VK}{k h:Bool}(I:Inv X pins Y H s)(q:Q (.bl k) H)(e:k=h):EP X pins Y Q (.bool h) s:=by subst e;exact⟨.bl k,H,I,rfl,q⟩
theorem yK:eu X (compareOp .Lt) (sI λi j=>.bl (decide (i<j))):=GD λ_ _ _ _ _ _ _ q=>lt_int q
theorem yC:eu X (compareOp .LtE) (sI λi j=>.bl (decide (i<=j))):=GD λ_ _ _ _ _ _ _ q=>le_int q
theorem CZ:eu X (compareOp .Gt) (sI λi j=>.bl (decide (j<i))):=GD λ_ _ _ _ _ _ _ q=>gt_int q
theorem Cu:eu X (compareOp .GtE) (sI λi j=>.bl (decide (j<=i))):=GD λ_ _ _ _ _ _ _ q=>ge_int q
theorem pL:eu X (compareOp .In) (λx y H Q=>∃i j,x=.str i/\y=.str j/\Q (.bl (!(V7 j i 0 j.length 1).isEmpty)) H):=by intro pins s Y H x y v u Q I b z h;obtain⟨i,j,rfl,rfl,q⟩:=h;obtain⟨t,rfl⟩:=b;obtain⟨t',rfl⟩:=z;exact in_str (rW I q rfl)
theorem BI:eu X (compareOp .Is) (λx y H Q=>y=.non/\Q (.bl (decide (x=.non))) H):=by
 intro pins s Y H x y v u Q I b z h;obtain⟨rfl,q⟩:=h;cases z;refine is_none_gen (rW I q ?_);cases x<;>first
  |(cases b;rfl)
  |(obtain⟨t,rfl⟩:=b;rfl)
theorem yr:eu X (compareOp .IsNot) (λx y H Q=>y=.non/\Q (.bl (!decide (x=.non))) H):=by
 intro pins s Y H x y v u Q I b z h;obtain⟨rfl,q⟩:=h;cases z;refine isnot_none_gen (rW I q ?_);cases x<;>first
  |(cases b;rfl)
  |(obtain⟨t,rfl⟩:=b;rfl)
theorem kE:eu X (compareOp .NotIn) (λx y H Q=>∃i j,x=.str i/\y=.str j/\Q (.bl (!(!(V7 j i 0 j.length 1).isEmpty))) H):=by intro pins s Y H x y v u Q I b z h;obtain⟨i,j,rfl,rfl,q⟩:=h;obtain⟨t,rfl⟩:=b;obtain⟨t',rfl⟩:=z;exact notIn_str (rW I q rfl)
theorem cc(b:Expr)(h:op≠.In:=by decide)(h2:op≠.NotIn:=by decide):behindInMarks op b=false:=by
 have e1:(op==CmpOp.In)=false:=by cases op<;>first|rfl|exact absurd rfl h
 have e2:(op==CmpOp.NotIn)=false:=by cases op<;>first|rfl|exact absurd rfl h2
 cases b<;>simp[behindInMarks,e1,e2]
theorem Hb(ho:eu X (compareOp op) r)(ha:PE X a ta)(d:PE X b tb)(hm:behindInMarks op b=false):PE X (.Compare a [op] [b] pos) (Q7 r ta tb):=by intro pins s Y H Q I h;exact wpAny_Compare1 (Na ha d I h λv u s2 x y c m w z q=>ho pins s2 Y c x y v u Q m w z q) hm
noncomputable def IL(t:TE):TT:=λY H Q=>t Y H λx H'=>∃k,x=.bl k/\Q k H'
theorem Ie(ho:eu X (compareOp op) r)(ha:PE X a ta)(d:PE X b tb)(hm:behindInMarks op b=false):PT X (.Compare a [op] [b] pos) (IL (Q7 r ta tb)):=by
 intro pins s Y H Q I h;refine wpAny_isTrue_Compare1 (bf (ha pins s Y H _ I h) λv s1 ⟨x,P,g,i,V⟩=>bf (d pins s1 Y P _ g V) λu s2 ⟨y,p,m,n,o⟩=>bf (ho pins s2 Y p x y v u _ m i n o) λc K ⟨z,C,F,q,k,e,A⟩=>?_) hm
 subst e;cases q;exact wpAny_truthy_bool ⟨C,F,A⟩
noncomputable def vN(r r':R2)(ta tb tc:TE):TE:=λY H Q=>ta Y H λx e=>tb Y e λy c=>r x y c λz C=>∃k,z=.bl k /\
 (if k=true then tc Y C λI X=>r' y I X Q else Q (.bl false) C)
theorem B0(ho:eu X (compareOp op) r)(ho':eu X (compareOp op') r')(ha:PE X a ta)(hb:PE X b tb)(hc:PE X c tc)
  (hm:lastMarks [op,op'] [b,c]=false:=by with_unfolding_all rfl):PE X (.Compare a [op,op'] [b,c] pos) (vN r r' ta tb tc):=by
 intro pins s Y H Q I h;refine Compare_chain (bf (ha pins s Y H _ I h) λv s1 ⟨x,H1,I1,r1,q1⟩=>chain_link (bf (hb pins s1 Y H1 _ I1 q1) λu s2 ⟨y,H2,I2,r2,q2⟩=>bf (ho pins s2 Y H2 x y v u _ I2 r1 r2 q2) λd s3 ⟨z,H3,I3,r3,k,e,q3⟩=>?_)) hm
 subst e;cases r3;refine wpAny_truthy_bool ?_;cases k with
 |false=>exact ite_ff ⟨.bl false,H3,I3,rfl,q3⟩
 |true=>exact ite_tt (chain_last (bf (hc pins s3 Y H3 _ I3 q3) λw' s4 ⟨z',H4,I4,r4,q4⟩=>ho' pins s4 Y H4 y z' u w' Q I4 r2 r4 q4))
theorem BN(ho:eu X (compareOp op) r)(ho':eu X (compareOp op') r')(ha:PE X a ta)(hb:PE X b tb)(hc:PE X c tc)
  (hm:lastMarks [op,op'] [b,c]=false:=by with_unfolding_all rfl):PT X (.Compare a [op,op'] [b,c] pos) (IL (vN r r' ta tb tc)):=by
 intro pins s Y H Q I h;refine isTrue_chain (bf (ha pins s Y H _ I h) λv s1 ⟨x,H1,I1,r1,q1⟩=>test_link (bf (hb pins s1 Y H1 _ I1 q1) λu s2 ⟨y,H2,I2,r2,q2⟩=>bf (ho pins s2 Y H2 x y v u _ I2 r1 r2 q2) λd s3 ⟨z,H3,I3,r3,k,e,q3⟩=>?_)) hm
 subst e;cases r3;refine wpAny_truthy_bool ?_;cases k with
 |false=>obtain⟨k',e',q'⟩:=q3;cases e';exact ite_ff ⟨H3,I3,q'⟩
 |true=>refine ite_tt (test_last (bf (hc pins s3 Y H3 _ I3 q3) λw' s4 ⟨z',H4,I4,r4,q4⟩=>bf (ho' pins s4 Y H4 y z' u w' _ I4 r2 r4 q4) λd' s5 ⟨z2,H5,I5,r5,k2,e2,q5⟩=>?_));subst e2;cases r5;exact wpAny_truthy_bool ⟨H5,I5,q5⟩
theorem oG:(sizeLine:Nat)<2^63:=by rw[sizeLine_eq];decide
theorem vK:eu X (binaryOp .Add) (λx y H Q=>∃i j,x=.str i/\y=.str j/\i.length+j.length<=sizeLine/\Q (.str (i++j)) H):=by intro pins s Y H x y v u Q I b z h;obtain⟨i,j,rfl,rfl,hz,q⟩:=h;obtain⟨t,rfl⟩:=b;obtain⟨t',rfl⟩:=z;exact add_str (λt' tk=>⟨.str (i++j),H,I.tok _,⟨_,rfl⟩,q⟩) hz
theorem vals1{x:V}(r:Vals [x] us):∃u,us=[u]/\RelV x u:=by
 cases r with
 |cons i n=>cases n;exact⟨_,rfl,i⟩
theorem vals2{x:V}(r:Vals [x,y] us):∃u I,us=[u,I]/\RelV x u/\RelV y I:=by
 cases r with
 |cons i n=>
  cases n with
  |cons q Y=>cases Y;exact⟨_,_,rfl,i,q⟩
theorem Bf:bF X (.builtin "abs") (λxs H Q=>∃i,xs=[.int i]/\Q (.int (if i<0 then -i else i)) H):=by intro pins s Y H xs us Q I r h;obtain⟨i,rfl,q⟩:=h;obtain⟨u,rfl,t,rfl⟩:=vals1 r;exact call_abs_int λu tk=>⟨.int (if i<0 then -i else i),H,I.tok _,⟨_,rfl⟩,q⟩
theorem zL(hc:X.calm=true):bF X (.builtin "max") (λxs H Q=>∃i j,xs=[.int i,.int j]/\Q (.int (if j > i then j else i)) H):=by
 intro pins s Y H xs us Q I r h;obtain⟨i,j,rfl,q⟩:=h;obtain⟨u,a,rfl,⟨t,rfl⟩,⟨t',rfl⟩⟩:=vals2 r;refine max_two_ints (I.ok.hd hc) λh' tk k=>⟨_,H,I.kept k,?_,q⟩
 by_cases v:j > i
 .rw[if_pos v,if_pos v];exact⟨_,rfl⟩
 .rw[if_neg v,if_neg v];exact⟨_,rfl⟩
theorem zu(hc:X.calm=true):bF X (.builtin "min") (λxs H Q=>∃i j,xs=[.int i,.int j]/\Q (.int (if j<i then j else i)) H):=by
 intro pins s Y H xs us Q I r h;obtain⟨i,j,rfl,q⟩:=h;obtain⟨u,a,rfl,⟨t,rfl⟩,⟨t',rfl⟩⟩:=vals2 r;refine min_two_ints (I.ok.hd hc) λh' tk k=>⟨_,H,I.kept k,?_,q⟩
 by_cases v:j<i
 .rw[if_pos v,if_pos v];exact⟨_,rfl⟩
 .rw[if_neg v,if_neg v];exact⟨_,rfl⟩
theorem yX:bF X (.type "int") (λxs H Q=>(∃i,xs=[.int i]/\Q (.int i) H)\/∃k,xs=[.bl k]/\Q (.int (if k then 1 else 0)) H):=by
 intro pins s Y H xs us Q I r h;rcases h with ⟨i,rfl,q⟩|⟨k,rfl,q⟩
 .obtain⟨u,rfl,t,rfl⟩:=vals1 r;exact call_int_int ⟨.int i,H,I,⟨_,rfl⟩,q⟩
 .obtain⟨u,rfl,x⟩:=vals1 r;cases x;exact call_int_bool ⟨.int (if k then 1 else 0),H,I.tok _,⟨_,rfl⟩,q⟩
def Pq(K:UN)(x:V)(H:Hp)(n:Nat):Prop:=
 match x with
 | .str y=>y.length<=sizeLine/\n=y.length
 | .byt y=>y.size<=sizeLine/\n=y.size
 | .ref p=>(∃xs,g9 K H p xs/\n=xs.length)\/∃xs,iu K H p xs/\n=xs.length
 |_=>False
theorem Cw:bF X (.builtin "len") (λxs H Q=>∃x n,xs=[x]/\Pq X.K x H n/\Q (.int n) H):=by
 intro pins s Y H xs us Q I r h;obtain⟨x,n,rfl,e,q⟩:=h;obtain⟨u,rfl,b⟩:=vals1 r;have hl:=oG;have P:sizeLine=16777216:=sizeLine_eq;cases x with
 |str y=>obtain⟨t,rfl⟩:=b;obtain⟨S,f⟩:y.length<=sizeLine/\n=y.length:=e;subst f;exact len_str (by omega) ⟨.int _,H,I.tok _,⟨_,rfl⟩,q⟩
 |byt y=>obtain⟨t,rfl⟩:=b;obtain⟨S,f⟩:y.size<=sizeLine/\n=y.size:=e;subst f;exact PySem.W.len_bytes (by omega) ⟨.int _,H,I.tok _,⟨_,rfl⟩,q⟩
 |ref p=>
  cases b;have f:(∃xs,g9 X.K H p xs/\n=xs.length)\/∃xs,iu X.K H p xs/\n=xs.length:=e;rcases f with ⟨xs,v,f⟩|⟨xs,v,f⟩
  .subst f;obtain⟨its,r',pl,hz⟩:=I.list v;have N:=r'.length;exact Calls.call_len_list pl.isList (by simp only[UT];omega) ⟨.int xs.length,H,I.tok _,⟨_,by simp only[UT];rw[N]⟩,q⟩
  .subst f;obtain⟨its,r',pl,hz⟩:=I.tuple v;have N:=r'.length;exact len_tuple pl (by simp only[UT];omega) ⟨.int xs.length,H,I.tok _,⟨_,by simp only[UT];rw[N]⟩,q⟩
 |_=>exact(show False from e).elim
end
structure vt(h:Heap)(x dx C:Addr)(mA:Str->Option Value):Prop where
 obj:h.get? x=some (V5 C dx)
 ns:h.Ns1 dx mA
 ne:dx≠x
variable{dx:Addr}{mA:Str->Option Value}
theorem zg(n:h.Ns1 dx mA):∃od,h.get? dx=some od/\∀name,XC name od=some (mA name):=by
 obtain⟨o,es,ep,ho,hd,hk,_,hm⟩:=n;refine⟨o,ho,λname=>?_⟩;have e:=hm name;unfold nsFind findBy at e;rw[<-Array.find?_toList] at e;unfold XC;rw[hd];dsimp only;split
 .rename_i y q;rw[q] at e;exact congrArg some e
 .rename_i q;rw[q] at e;have a:es.toList.any (·.refKey)=false:=by rw[WJ];intro y S;obtain⟨z,t,H⟩:=hk y (Array.mem_toList_iff.mp S);simp[DictEntry.refKey,H]
  have a':¬ es.toList.any (·.refKey)=true:=by rw[a];exact Vm
  rw[if_neg a'];exact congrArg some e
variable{C:Addr}
theorem vt.look{x:Addr}(I:vt h x dx C mA):∃od,PySem.W.InstAt h x (V5 C dx) C (some od)/\∀name,XC name od=some (mA name):=
 let ⟨od,ho,hl⟩:=zg I.ns
 ⟨od,⟨I.obj,rfl,rfl,ho⟩,hl⟩
variable{pl:Sem Bool}{kw:List (Str×Value)}
section
variable{prog:Program}{w:World}{A:Around}{E:Value->Shared->Prop}{s:Shared}{K:UN}{x dx C f:Addr}{mA:Str->Option Value}{name:Str}{v:Value}
theorem get_map{expr:Bool}(X:K.In s.heap)(I:vt s.heap x dx C mA)(r:WO K C name=true)(H:W4 K C=true)
  (ha:Vy K (.ref C) name=some none)(c:mA name=some v)(Y:ZE v=true)(h:Q v { s with toks:=s.toks+1 }):
  wpAny (model prog w) A (getAttr (.ref x) name expr) Q E s:=by
 obtain⟨od,J,hl⟩:=I.look;exact PySem.W.get_value X J (XM r).1 (PySem.W.findObj_own H ha rfl (by rw[hl,c])) Y h
theorem CS{Q:Value×List Value->Shared->Prop}(X:K.In s.heap)(I:vt s.heap x dx C mA)(r:WO K C name=true)
  (hf:Vy K (.ref C) name=some (some (.ref f)))(i:XY K (.ref f)=true)(c:mA name=none)(h:Q (.ref f,[.ref x]) s):
  wpAny (model prog w) A (getMethod (.ref x) name pl) Q E s:=by
 obtain⟨od,J,hl⟩:=I.look;exact PySem.W.method_fn X J (XM r).1 (XM r).2 hf (beq_iff_eq.mp i) (by show (XC name od).map (·.isSome)=some false;rw[hl,c];rfl) h
theorem Fw{ns:List Str}{Q:Unit->Shared->Prop}(X:K.In s.heap)(I:vt s.heap x dx C mA)
  (u:Vy K (.ref C) "__setattr__" = some (some (.builtin "object.__setattr__")))(hp:XZ K C=true)(i:Yk K C name=some none)(t:W4 K C=true)
  (m:Y5 mA ns)(hsz:ns.length<=sizeLine)
  (h:∀h',vt h' x dx C (λy=>if y=name then some v else mA y)->Xz dx s.heap h'->Q () { s with heap:=h',toks:=s.toks+2 }):
  wpAny (model prog w) A (setAttr (.ref x) name v) Q E s:=by
 obtain⟨od,J,hl⟩:=I.look;refine PySem.W.set_plain X J u (PySem.W.osa_open (s:={ s with toks:=s.toks+1 }) (r:=none) X J hp i λb=>?_);obtain⟨cd,hc,U⟩:=PySem.W.any_some t;have k:s.heap.get? x=some ⟨.ref C,some dx,.plain,#[]⟩:=I.obj;refine wpAny_bind (wpAny_pure (wpAny_bind (wpAny_bind (wpAny_loadPart k (wpAny_bind (zaz (s:={ s with toks:=s.toks+1 }) (PySem.W.looks_clsIn X hc) ?_))))));rw[U];refine wpAny_pure (a:=some dx) (wpAny_bind (wpAny_pure (wpAny_bind ?_)));refine wpAny_nsSet1 (s:={ s with toks:=s.toks+1 }) I.ns λh' Y H=>?_;obtain⟨P,N,O,V,j,p⟩:=Y.count (Y5.cons name v m);refine wpAny_bind (wpAny_lookBehind V (by rw[j];exact pastItsLine_dict (Vg p (by rw[US];omega))) ?_);exact wpAny_pure (h _ ⟨(H.2 _ (VY I.ne)).trans I.obj,Y,I.ne⟩ H)
theorem C0{R:Result->Shared->Prop}{vs:List Value}(X:K.In s.heap)(hm:Yl K C=true)
  (hi:Vy K (.ref C) "__init__" = some (some (.ref f)))(hf:PySem.W.typeIn K (.ref f)=some (.type "function"))
  (h:codeAny (model prog w) (A.under (.builtin "type.__call__" ⟨.ref C::vs,kw⟩)) (.call (.ref f) ⟨.ref (s.heap.objs.size+1)::vs,kw⟩) (PySem.W.InitBack (s.heap.objs.size+1) R)
   { s with heap:=(s.heap.push VU).push (V5 C s.heap.objs.size) }):
  codeAny (model prog w) A (.call (.ref C) ⟨vs,kw⟩) R s:=by
 obtain⟨H,g,d,t,os⟩:=s;exact PySem.W.make_core (PySem.W.makes_of X hm) (PySem.W.looks_findIn X hi) (λself=>PySem.W.bind_fn X self hf) (.inl rfl) h
end
noncomputable def gM(f:Str)(v:V):List (Str×V)->List (Str×V)
 |[]=>[(f,v)]
 |(g,x)::r=>if g=f then (g,v)::r else (g,x)::gM f v r
theorem mj(f g:Str)(v:V):∀fs:List (Str×V),(gM f v fs).lookup g=if g=f then some v else fs.lookup g
 |[]=>by
  show WY g [(f,v)]=_;by_cases h:g=f
  .have d:(g==f)=true:=beq_iff_eq.mpr h;simp only[WY,d,if_pos h]
  .have d:(g==f)=false:=beq_eq_false_iff_ne.mpr h;simp only[WY,d,if_neg h]
 |(k,x)::r=>by
  have j:=mj f g v r;rw[show gM f v ((k,x)::r)=(if k=f then (k,v)::r else (k,x)::gM f v r) from rfl];by_cases hk:k=f
  .rw[if_pos hk];by_cases h:g=k
   .have d:(g==k)=true:=beq_iff_eq.mpr h;simp only[WY,d,if_pos (h.trans hk)]
   .have d:(g==k)=false:=beq_eq_false_iff_ne.mpr h;simp only[WY,d,if_neg (λe:g=f=>h (e.trans hk.symm))]
  .rw[if_neg hk];by_cases h:g=k
   .have d:(g==k)=true:=beq_iff_eq.mpr h;simp only[WY,d,if_neg (λe:g=f=>hk (h.symm.trans e))]
   .have d:(g==k)=false:=beq_eq_false_iff_ne.mpr h;simp only[WY,d];exact j
theorem ly(f:Str)(v:V):∀fs:List (Str×V),f∈(gM f v fs).map (·.1)/\∀g,g∈fs.map (·.1)->g∈(gM f v fs).map (·.1)
 |[]=>⟨by simp[gM],λg h=>by simp at h⟩
 |(k,x)::r=>by
  obtain⟨s,X⟩:=ly f v r;rw[show gM f v ((k,x)::r)=(if k=f then (k,v)::r else (k,x)::gM f v r) from rfl];by_cases hk:k=f
  .rw[if_pos hk];subst hk;exact⟨by simp,λg h=>by simpa using h⟩
  .rw[if_neg hk];refine⟨?_,λg h=>?_⟩
   .rw[U3];exact UW _ s
   .rw[U3] at h ⊢;rcases U5.mp h with e|e
    .exact U5.mpr (.inl e)
    .exact UW _ (X g e)
theorem mB(f:Str)(v:V):∀fs:List (Str×V),(gM f v fs).length<=fs.length+1
 |[]=>by simp[gM]
 |(k,x)::r=>by
  have j:=mB f v r;rw[show gM f v ((k,x)::r)=(if k=f then (k,v)::r else (k,x)::gM f v r) from rfl];by_cases hk:k=f
  .rw[if_pos hk,US,US];omega
  .rw[if_neg hk,US,US];omega
theorem gq.some_of{o:Option Value}(r:gq (some v) o):∃u,o=some u/\RelV v u:=by
 cases o with
 |none=>exact(show False from r).elim
 |some u=>exact⟨u,rfl,r⟩
theorem gq.none_of{o:Option Value}(r:gq none o):o=none:=by
 cases o with
 |none=>rfl
 |some u=>exact(show False from r).elim
theorem yZ(r:RelV v u):ZE u=true:=by
 cases v with
 |non=>cases (show u=YC from r);rfl
 |bl b=>cases (show u=ZC b from r);rfl
 |int i=>obtain⟨t,e⟩:=(show ∃t,u=YX i t from r);cases e;rfl
 |str x=>obtain⟨t,e⟩:=(show ∃t,u=XO x t from r);cases e;rfl
 |byt b=>obtain⟨t,e⟩:=(show ∃t,u=zar b t from r);cases e;rfl
 |flt b=>obtain⟨t,e⟩:=(show ∃t,u=zas b t from r);cases e;rfl
 |ref a=>cases (show u=Vq a from r);rfl
 |ty n=>cases (show u=Xr n from r);rfl
section
variable{P:Program}{w:World}{H H':Hp}{h h':Heap}{a C dx:Addr}{fs fs':List (Str×V)}
theorem m7(hok:jt P w H h)(e:H a=some (.ins C dx fs)):∃mA,vt h a dx C mA/\(∀f,gq (fs.lookup f) (mA f))/\Y5 mA (fs.map (·.1))/\fs.length<=1000/\H dx=some (.own a):=by
 obtain⟨d,z,ne,ob,mA,n,r,q⟩:=(show ba P w H h a (.ins C dx fs) from hok a _ e)
 exact⟨mA,⟨ob,n,ne⟩,r,q,z,d⟩
end
structure pB(K:UN)(C:Addr):Prop where
 pg:WO K C Za=true
 hd:W4 K C=true
 po:XZ K C=true
 sa:Vy K (.ref C) "__setattr__" = some (some (.builtin "object.__setattr__"))
theorem pB.get(c:pB K C)(f:Str):WO K C f=true:=c.pg
def fo(K:UN)(C:Addr)(f:Str):Prop:=Vy K (.ref C) f=some none
theorem fo.Qr{f:Str}(n:fo K C f):Yk K C f=some none:=by unfold Yk;rw[show Vy K (.ref C) f=some none from n];rfl
structure Meth(K:UN)(C:Addr)(m:Str)(f:Addr):Prop where
 at_:Vy K (.ref C) m=some (some (.ref f))
 fn:XY K (.ref f)=true
 kp:VJ K (.ref f)=true
variable{m:Str}
section
variable{X:Cx}{pins:List (Addr×Obj)}{Y:St}{H:Hp}{s:Shared}{a C dx:Addr}{fs:List (Str×V)}{f:Str}{v:V}{A:Around}{E:Value->Shared->Prop}
theorem wm{b:Bool}(I:Inv X pins Y H s)(e:H a=some (.ins C dx fs))(c:pB X.K C)(n:fo X.K C f)(l:fs.lookup f=some v)
  (h:∀u s',Inv X pins Y H s'->RelV v u->Q u s'):wpAny (model X.prog X.w) A (getAttr (.ref a) f b) Q E s:=by
 obtain⟨mA,O,r,_,_,_⟩:=m7 I.hok e;obtain⟨u,x,J⟩:=gq.some_of (v:=v) (o:=mA f) (by rw[<-l];exact r f);exact get_map I.p7 O (c.get f) c.hd n x (yZ J) (h u _ (I.tok _) J)
theorem jV{g:Addr}{Q:Value×List Value->Shared->Prop}(I:Inv X pins Y H s)(e:H a=some (.ins C dx fs))(c:pB X.K C)(k:Meth X.K C m g)(l:fs.lookup m=none)
  (h:Q (.ref g,[.ref a]) s):wpAny (model X.prog X.w) A (getMethod (.ref a) m pl) Q E s:=by
 obtain⟨mA,O,r,_,_,_⟩:=m7 I.hok e;have hn:mA m=none:=gq.none_of (by rw[<-l];exact r m);exact CS I.p7 O (c.get m) k.at_ k.fn hn h
theorem vZ{Q:Unit->Shared->Prop}(I:Inv X pins Y H s)(e:H a=some (.ins C dx fs))(c:pB X.K C)(n:fo X.K C f)(hl:fs.length<1000)(U:RelV y u)
  (h:∀s',Inv X pins Y (upd H a (.ins C dx (gM f y fs))) s'->Q () s'):wpAny (model X.prog X.w) A (setAttr (.ref a) f u) Q E s:=by
 obtain⟨mA,O,r,D,_,ho⟩:=m7 I.hok e;have hz:(fs.map (·.1)).length<=sizeLine:=by rw[UP,sizeLine_eq];omega
 refine Fw I.p7 O c.sa c.po n.Qr c.hd D hz λh' R V=>h _ ?_;have hd:∃o,h'.get? dx=some o:=let ⟨o,_,_,e',_⟩:=R.ns;⟨o,e'⟩
 refine I.write (x:=a) (e:=dx) (by rw[e];exact WD) (.inr ho) (λb q d z=>(V.2 b d).trans z) hd ?_;refine⟨by rw[au O.ne];exact ho,?_,O.ne,R.obj,_,R.ns,λg=>?_,λg Z=>?_⟩
 .have:=mB f y fs;omega
 .show gq ((gM f y fs).lookup g) (if g=f then some u else mA g);rw[mj];by_cases q:g=f
  .rw[if_pos q,if_pos q];exact U
  .rw[if_neg q,if_neg q];exact r g
 .by_cases q:g=f
  .rw[q];exact(ly f y fs).1
  .refine(ly f y fs).2 g (D g λz=>Z ?_);show (if g=f then some u else mA g)=none;rw[if_neg q];exact z
theorem Inv.made(I:Inv X pins Y H s):Inv X pins Y (upd (upd H s.heap.objs.size (.own (s.heap.objs.size+1))) (s.heap.objs.size+1) (.ins C s.heap.objs.size []))
  { s with heap:=(s.heap.push VU).push (V5 C s.heap.objs.size) }:=by
 have e1:(s.heap.push VU).get? s.heap.objs.size=some VU:=U6 s.heap rfl;have e2:((s.heap.push VU).push (V5 C s.heap.objs.size)).get? (s.heap.objs.size+1)=some (V5 C s.heap.objs.size):=by have:=U6 (s.heap.push VU) (o:=V5 C s.heap.objs.size) rfl;rwa[YM] at this
 have e3:(s.heap.push VU).Ns s.heap.objs.size (λ_=>none):=⟨VU,#[],_,e1,rfl,(λe he=>absurd he (by simp)),λ_=>rfl⟩
 have g:=I.laid (a:=s.heap.objs.size) (o:=.own (s.heap.objs.size+1)) (h':=s.heap.push VU) (t':=s.toks) (λb u q=>UR _ q) (U2 _) ⟨_,e1⟩;refine g.laid (a:=s.heap.objs.size+1) (o:=.ins C s.heap.objs.size []) (t':=s.toks) (λb u q=>UR _ q) (Ym (YM _ _)) ?_;have ne:s.heap.objs.size≠s.heap.objs.size+1:=Vi (Xs _);refine⟨by rw[au ne,aI],VM _,ne,e2,λ_=>none,(Heap.Ns1.of_empty e3).at λo q=>UR _ q,λ_=>WD,λy S=>absurd rfl S⟩
theorem FK{prog:Program}{env:Env}{f:Str}(d:attributeBase e f env (eval e env)=eval e env)
  (h:wpAny (model prog w) A (eval e env) (λo Z=>wpAny (model prog w) A (getAttr o f true) Q E Z) E s):wpAny (model prog w) A (eval (.Attribute e f pos) env) Q E s:=
 Attribute_any_ h (by rw[arm_eval_Attribute,d])
end
def Tg(K:UN)(ta:TE)(f:Str):TE:=λY H Q=>ta Y H λx e=>∃a C dx fs v,x=.ref a/\e a=some (.ins C dx fs)/\pB K C/\fo K C f/\fs.lookup f=some v/\Q v e
def Sg(K:UN)(ta h:TE)(f:Str):TS:=λD Y H=>h Y H λy e=>ta Y e λx c=>∃a C dx fs,x=.ref a/\c a=some (.ins C dx fs)/\pB K C/\fo K C f/\fs.length<1000 /\
 D.nx Y (upd c a (.ins C dx (gM f y fs)))
section
variable{X:Cx}{o e value:Expr}{f:Str}{pos pos' tpos:Pos}{ta tv:TE}
theorem Mm(he:PE X e ta)(d:attributeBase e f X.env (eval e X.env)=eval e X.env):PE X (.Attribute e f pos) (Tg X.K ta f):=by intro pins s Y H Q I h;refine FK d (bf (he pins s Y H _ I h) λu s1 ⟨x,P,g,b,a,C,dx,fs,v,ex,w,c,n,l,q⟩=>?_);subst ex;obtain rfl:u=Vq a:=b;exact wm g w c n l λy s2 m J=>⟨v,P,m,J,q⟩
theorem Lv(ha:PE X o ta)(A:PE X value tv)(P:swapsWith value (some (.Attribute o f pos')) pos.line X.env=pure false):PS X (.Assign [.Attribute o f pos'] value pos) (Sg X.K ta tv f):=by intro pins s Y H D I h;refine plainObj_wpAny_Assign_Attribute (bf (A pins s Y H _ I h) λu s1 ⟨y,e,g,z,q⟩=>bf (ha pins s1 Y e _ g q) λE s2 ⟨x,t,m,b,a,C,dx,fs,ex,w,c,n,l,p⟩=>?_) P;subst ex;obtain rfl:E=Vq a:=b;exact vZ m w c n l z λv F=>⟨Y,_,F,p⟩
theorem Iy{apos:Pos}{args:List Expr}(he:PE X e te)(I:Inv X pins Y H s)
  (h:te Y H λx P=>∃a C dx fs g,x=.ref a/\P a=some (.ins C dx fs)/\pB X.K C/\Meth X.K C m g/\fs.lookup m=none /\
   ∀s1,Inv X pins Y P s1->wpAny (model X.prog X.w) X.A (callWith pos (.ref g) [.ref a] (backTo pos (starEach args X.env)) (backToKw pos (keywordEach [] X.env))) Q X.xe s1)
  (i:eval (.Call (.Attribute e m apos) args [] pos) X.env=(do
   let ov <- eval e X.env
   standAt apos.atName
   let (f,first) <- holding [ov] (getMethod ov m pl)
   callWith pos f first (backTo pos (starEach args X.env)) (backToKw pos (keywordEach [] X.env)))):
  wpAny (model X.prog X.w) X.A (eval (.Call (.Attribute e m apos) args [] pos) X.env) Q X.xe s:=by
 refine Xu (pl:=pl) (bf (he pins s Y H _ I h) λu s1 ⟨x,P,o,b,a,C,dx,fs,g,ex,y,c,k,l,q⟩=>?_) i;subst ex;obtain rfl:u=Vq a:=b;exact jV o y c k l (q s1 o)
end
section
variable{X:Cx}{pins:List (Addr×Obj)}{Y:St}{H:Hp}{s:Shared}{A:Around}{E:Value->Shared->Prop}{Q:Value->Shared->Prop}{c:Value}{b:Bool}
inductive mK(K:UN)(H:Hp):V->Value->Prop where
 |non:mK K H .non (.type "NoneType")
 |bl(x:Bool):mK K H (.bl x) (.type "bool")
 |int(i:Int):mK K H (.int i) (.type "int")
 |str(x:Str):mK K H (.str x) (.type "str")
 |flt(x:UInt64):mK K H (.flt x) (.type "float")
 |lst{a:Addr}{xs:List V}(e:H a=some (.lst xs)):mK K H (.ref a) (.type "list")
 |frz{a:Addr}{o:Obj}{xs:List V}(e:H a=some (.frz o (.lst xs))):mK K H (.ref a) (.type "list")
 |tup{a:Addr}{xs:List V}(e:H a=some (.tup xs)):mK K H (.ref a) (.type "tuple")
 |dK{a:Addr}{kvs:List (Key×V)}(e:H a=some (.dK kvs)):mK K H (.ref a) (.type "dict")
 |dT{a:Addr}{kvs:List (List Key×V)}(e:H a=some (.dT kvs)):mK K H (.ref a) (.type "dict")
 | ins {a C dx:Addr} {fs:List (Str×V)} (e:H a=some (.ins C dx fs)) (cl:pB K C) (ha:Vy K (.ref C) "__class__" = some (some (.builtin "object.__class__")))
   (hn:Zv K (.builtin "object.__class__") "__get__" = some (some (.builtin "getset_descriptor.__get__"))) (htk:ZI K (.builtin "object.__class__")=some true)
   (hm:YE K C (.type "object")=some true):mK K H (.ref a) (.ref C)
end
structure cp(k:Nat)(A:Around):Prop where
 hd:A.handled=none
 dp:A.depth+3*k+5<recursionLimit
 un:A.units+16*k+200<cLine
theorem cp.mono{A:Around}(r:cp k A)(h:j<=k):cp j A:=⟨r.hd,by have:=r.dp;omega,by have:=r.un;omega⟩
theorem cp.deeper{k:Nat}{A:Around}(r:cp (k+1) A)(env:Env):cp k (A.deeper env):=
 ⟨r.hd,by have:=r.dp;show A.depth+1+3*k+5<_;omega,by have:=r.un;show A.units+3+16*k+200<_;omega⟩
theorem vp{A:Around}:(A.under (.builtin "type.__call__" ⟨.ref C::us,kw⟩)).depth=A.depth+1:=by first|rfl|simp[Y0,Code.weight,Code.isCreation,Code.isGuard,Code.isCaller,Code.frames,Zb,guardIds]
theorem vi{A:Around}:(A.under (.builtin "type.__call__" ⟨.ref C::us,kw⟩)).units=A.units+1:=by first|rfl|simp[Y0,Code.cUnits,Code.frames,Zb]
theorem cp.make{A:Around}(r:cp (k+1) A)(C:Addr)(us:List Value)(kw:List (Str×Value)):cp k (A.under (.builtin "type.__call__" ⟨.ref C::us,kw⟩)):=
 ⟨r.hd,by have:=r.dp;rw[vp];omega,by have:=r.un;rw[vi];omega⟩
theorem cp.depth{k:Nat}{A:Around}(r:cp k A):A.depth<recursionLimit:=by have:=r.dp;omega
theorem cp.units{k:Nat}{A:Around}(r:cp k A):A.units+64<cLine:=by have:=r.un;omega
noncomputable def KY:TA:=λ_ H Q=>Q [] H
noncomputable def Jq(ta:TE)(tr:TA):TA:=λY H Q=>ta Y H λx e=>tr Y e λxs c=>Q (x::xs) c
section
variable{X:Cx}{e:Expr}{es:List Expr}{te:TE}{t:TA}{pos:Pos}
theorem dq:PA X [] KY:=λ_ _ _ _ H Q I h=>ZJ ⟨[],H,I,.nil,h⟩
theorem bu(ha:PE X e te)(hr:PA X es t)(hs:starEach (e::es) X.env=(false,eval e X.env)::starEach es X.env:=by rfl):PA X (e::es) (Jq te t):=by intro pos pins s Y H Q I h;rw[hs];show wpAny _ _ (spliced ((false,eval e X.env)::backTo pos (starEach es X.env))) _ _ s;refine X0 (bf (ha pins s Y H _ I h) λu s1 ⟨x,H1,I1,r1,q1⟩=>?_);exact bf (hr pos pins s1 Y H1 _ I1 q1) λus s2 ⟨xs,H2,I2,r2,q2⟩=>⟨x::xs,H2,I2,.cons r1 r2,q2⟩
def Th(t:TA):TE:=λY H Q=>t Y H λxs e=>xs.length<=sizeLine/\∀p,e p=none->Q (.ref p) (upd e p (.tup xs))
def Sj(t:TA):TE:=λY H Q=>t Y H λxs e=>xs.length<=sizeLine/\∀p,e p=none->Q (.ref p) (upd e p (.lst xs))
theorem B1{x1}(h:PA X es t):PE X (.Tuple es x1 pos) (Th t):=by intro pins s Y H Q I j;refine wpAny_Tuple_spliced (bf (h pos pins s Y H _ I j) λus s1 ⟨xs,P,g,r,z,q⟩=>⟨by rw[<-r.length];exact z,?_⟩);have hf:P s1.heap.objs.size=none:=g.hok.fresh (U2 _);refine⟨.ref s1.heap.objs.size,upd P s1.heap.objs.size (.tup xs),g.laid (t':=s1.toks) (λb u e=>UR _ e) (U2 _) ?_,rfl,q _ hf⟩;exact⟨z,us,r,⟨_,U6 _ rfl,rfl,_,rfl,rfl⟩⟩
theorem KA(h:PA X es t):PE X (.List es pos) (Sj t):=by intro pins s Y H Q I j;refine wpAny_List_spliced (bf (h pos pins s Y H _ I j) λus s1 ⟨xs,P,g,r,z,q⟩=>⟨by rw[<-r.length];exact z,?_⟩);have hf:P s1.heap.objs.size=none:=g.hok.fresh (U2 _);refine⟨.ref s1.heap.objs.size,upd P s1.heap.objs.size (.lst xs),g.laid (t':=s1.toks) (λb u e=>UR _ e) (U2 _) ?_,rfl,q _ hf⟩;exact⟨z,us,0,r,U6 _ rfl⟩
end
abbrev Sp:=List V->Hp->VK->XK->Prop
abbrev xi:=List Env->Hp->Shared->XK->Value->Shared->Prop
structure vL(P:Program)(w:World)(K:UN)(mg:Str->Option Value)(base:Heap)(A:Around)(outer:List Env)(s:Shared)(H:Hp):Prop where
 frames:A.frames=some outer
 mod:Mod K mg base
 bs:∀b o,base.get? b=some o->s.heap.get? b=some o/\H b=none
 bsz:base.objs.size<=s.heap.objs.size
 kf:s.heap.FunFrames base outer
 frf:∀b∈dz outer,H b=none
 hok:jt P w H s.heap
 bare:AllBare s.gens
def CE(outer:List Env)(P:Program)(w:World)(H:Hp)(s:Shared)(Q:VK)(u:Value)(s':Shared):Prop:=
 ∃v H',s'.os=s.os/\AllBare s'.gens/\Un (dz outer) [] H H' s.heap s'.heap/\jt P w H' s'.heap/\RelV v u/\Q v H'
def CR(CX:xi)(outer:List Env)(P:Program)(w:World)(H:Hp)(s:Shared)(Q:VK)(E:XK)(r:Result)(s':Shared):Prop:=
 match r with
 | .ok (.ret u)=>CE outer P w H s Q u s'
 | .ok _=>False
 | .error e=>CX outer H s E e s'
structure cV(P:Program)(w:World)(K:UN)(mg:Str->Option Value)(base:Heap)(CX:xi)(k:Nat)(f:Addr)(fd:FuncData)(ps:List Str)(sp:Sp):Prop where
 len:∀vs H Q E,sp vs H Q E->vs.length=ps.length
 run:∀(A:Around)(outer:List Env)(s:Shared)(H:Hp)(args:Args)(us:List Value)(vs:List V)(Q:VK)(E:XK),cp k A->vL P w K mg base A outer s H->BindsTo s fd args (ps.zip us)->Vals vs us->sp vs H Q E->
  codeAny (model P w) A (.call (.ref f) args) (CR CX outer P w H s Q E) s
theorem cV.mono{P:Program}{w:World}{K:UN}{mg:Str->Option Value}{base:Heap}{CX:xi}{j k:Nat}{f:Addr}{fd:FuncData}{ps:List Str}{sp:Sp}(F:cV P w K mg base CX j f fd ps sp)(h:j<=k):
  cV P w K mg base CX k f fd ps sp:=⟨F.len,λA outer s H args us vs Q E I=>F.run A outer s H args us vs Q E (I.mono h)⟩
variable{mg:Str->Option Value}{base:Heap}{CX:xi}{fd:FuncData}{ps:List Str}{sp:Sp}
theorem cV.imp{f:Addr}{X:Sp}(F:cV P w K mg base CX k f fd ps sp)
  (h:∀vs H Q E,X vs H Q E->sp vs H Q E):cV P w K mg base CX k f fd ps X:=
 ⟨λvs H Q E q=>F.len vs H Q E (h _ _ _ _ q),λA outer s H args us vs Q E I he d c u=>F.run A outer s H args us vs Q E I he d c (h _ _ _ _ u)⟩
variable{outer:List Env}
theorem vL.make{A:Around}(e:vL P w K mg base A outer s H)(C:Addr)(us:List Value)(kw:List (Str×Value)):
  vL P w K mg base (A.under (.builtin "type.__call__" ⟨.ref C::us,kw⟩)) outer s H:=⟨by first|exact e.frames|(simpa[Y0,Code.envs,Zb,pushEnvs] using e.frames),e.mod,e.bs,e.bsz,e.kf,e.frf,e.hok,e.bare⟩
section
variable{X:Cx}{pins:List (Addr×Obj)}{Y:St}{H:Hp}{s s':Shared}
theorem Inv.Kl(I:Inv X pins Y H s):vL X.prog X.w X.K X.mg X.base X.A X.stack s H:=
 ⟨I.ok.frames,I.ok.mod,I.bs,Vg I.ok.bsz I.sz,I.stack,I.r9,I.hok,I.bare⟩
theorem Inv.after{Q:VK}(I:Inv X pins Y H s)(h:CE X.stack X.prog X.w H s Q u s'):EP X pins Y Q u s':=by obtain⟨v,H',os,bare,un,hok,r,q⟩:=h;obtain⟨a,g,d,t,K⟩:=s';obtain rfl:K=s.os:=os;exact⟨v,H',I.call (h':=a) (g':=g) (d':=d) (t':=t) (ch:=[]) un hok bare (λb z=>absurd z (by simp)),r,q⟩
end
noncomputable def Pw(sp:Sp)(dvs:List V)(E:XK)(t:TA):TE:=λY H Q=>t Y H λvs e=>sp (vs++dvs) e Q E
def Ax(C:Addr)(m:Str)(sp:Sp)(dvs:List V)(E:XK)(ta:TE)(t:TA):TE:=λY H Q=>ta Y H λx e=>∃a dx fs,x=.ref a/\e a=some (.ins C dx fs)/\fs.lookup m=none /\
 t Y e λvs c=>sp (x::(vs++dvs)) c Q E
def Jn(C:Addr)(sp:Sp)(dvs:List V)(E:XK)(t:TA):TE:=λY H Q=>t Y H λvs e=>∀x dx,e x=none->e dx=none->dx≠x->
 sp (.ref x::(vs++dvs)) (upd (upd e dx (.own x)) x (.ins C dx [])) (λv c=>v=.non/\Q (.ref x) c) E
def Binds(K:UN)(fd:FuncData)(ps:List Str)(ds:List Value):Prop:=
 ∀(s:Shared)(us:List Value),K.In s.heap->(us++ds).length=ps.length->BindsTo s fd ⟨us,[]⟩ (ps.zip (us++ds))
theorem Binds.all(h:∀us:List Value,us.length=ps.length->bindArgs fd ⟨us,[]⟩=pure (ps.zip us)):Binds K fd ps []:=λs us _ hl=>by rw[Vz] at hl ⊢;exact .of_eq (h us hl)
def Passes(CX:xi)(X:Cx)(E:XK):Prop:=∀(pins:List (Addr×Obj))(Y:St)(H:Hp)(s:Shared)(e:Value)(s':Shared),Inv X pins Y H s->CX X.stack H s E e s'->X.xe e s'
variable{vs:List V}
section
variable{X:Cx}{CX:xi}{k:Nat}{f C:Addr}{fd:FuncData}{ps:List Str}{sp:Sp}{dvs:List V}{ds:List Value}{E:XK}{x m:Str}{p pos apos:Pos}{e o:Expr}{es:List Expr}{ta:TE}{t:TA}
theorem v9{Q:VK}(F:cV X.prog X.w X.K X.mg X.base CX k f fd ps sp)(l:cp k X.A)(d:Binds X.K fd ps ds)(hd:Vals dvs ds)(y:Passes CX X E)
  (I:Inv X pins Y H s)(r:Vals vs us)(h:sp (vs++dvs) H Q E):wpAny (model X.prog X.w) X.A (call (.ref f) us) (EP X pins Y Q) X.xe s:=by
 have n:Vals (vs++dvs) (us++ds):=r.append hd;have hl:(us++ds).length=ps.length:=by rw[<-n.length];exact F.len _ _ _ _ h
 refine wpAny_call (codeAny_mono (F.run X.A X.stack s H ⟨us,[]⟩ (us++ds) (vs++dvs) Q E l I.Kl (d s us I.p7 hl) n h) λr s' j=>?_);cases r with
 |error e=>exact y pins Y H s e s' I j
 |ok fl=>
  cases fl with
  |ret u=>exact I.after j
  |next=>exact V4 j
  |brk=>exact V4 j
  |cont=>exact V4 j
theorem GW(F:cV X.prog X.w X.K X.mg X.base CX k f fd ps sp)(hr:cp k X.A)(hg:Gl X x)(hm:X.mg x=some (.ref f))(hk:VJ X.K (.ref f)=true)(hb:Binds X.K fd ps ds)(hd:Vals dvs ds)(hx:Passes CX X E)
  (ha:PA X (e::es) t)(hdb:gu x:=by decide)(he:starEach (e::es) X.env=(false,eval e X.env)::starEach es X.env:=by rfl)(hpl:(backTo pos (starEach es X.env)).any (·.1)=false:=by rfl):
  PE X (.Call (.Name x p) (e::es) [] pos) (Pw sp dvs E t):=by
 intro pins s Y H Q I h;refine wpAny_Call_Name_kw (jq I hg hm ?_ hdb);refine W2 (h₀:=X.base) I.ok.mod.kin hk (bf (ha pos pins s Y H _ I h) λus s1 ⟨vs,H1,I1,r,q⟩=>⟨I1.p7,?_⟩) he hpl;exact v9 F hr hb hd hx I1 r q
theorem F5(he:PE X o ta)(c:pB X.K C)(hm:Meth X.K C m f)(F:cV X.prog X.w X.K X.mg X.base CX k f fd ps sp)(hr:cp k X.A)(hb:Binds X.K fd ps ds)(hd:Vals dvs ds)(hx:Passes CX X E)(ha:PA X (e::es) t)
  (hst:starEach (e::es) X.env=(false,eval e X.env)::starEach es X.env:=by rfl)(hpl:(backTo pos (starEach es X.env)).any (·.1)=false:=by rfl)
  (ht:eval (.Call (.Attribute o m apos) (e::es) [] pos) X.env=(do
   let ov <- eval o X.env
   standAt apos.atName
   let (f,first) <- holding [ov] (getMethod ov m pl)
   callWith pos f first (backTo pos (starEach (e::es) X.env)) (backToKw pos (keywordEach [] X.env))):=by rfl):
  PE X (.Call (.Attribute o m apos) (e::es) [] pos) (Ax C m sp dvs E ta t):=by
 intro pins s Y H Q I h;refine Xu (pl:=pl) (bf (he pins s Y H _ I h) λu s1 ⟨x,H1,I1,rx,a,dx,fs,ex,ea,l,q⟩=>?_) ht;subst ex;obtain rfl:u=Vq a:=rx;refine jV I1 ea c hm l ?_;refine W2 (first:=[.ref a]) (h₀:=X.base) I.ok.mod.kin hm.kp (bf (ha pos pins s1 Y H1 _ I1 q) λus s2 ⟨vs,H2,I2,r,q2⟩=>⟨I2.p7,?_⟩) hst hpl;exact v9 (us:=.ref a::us) (vs:=.ref a::vs) F hr hb hd hx I2 (.cons rfl r) q2
theorem Dt(he:PE X o ta)(c:pB X.K C)(hm:Meth X.K C m f)(F:cV X.prog X.w X.K X.mg X.base CX k f fd ps sp)(hr:cp k X.A)(hb:Binds X.K fd ps ds)(hd:Vals dvs ds)(hx:Passes CX X E)
  (ht:eval (.Call (.Attribute o m apos) [] [] pos) X.env=(do
   let ov <- eval o X.env
   standAt apos.atName
   let (f,first) <- holding [ov] (getMethod ov m pl)
   callWith pos f first (backTo pos (starEach [] X.env)) (backToKw pos (keywordEach [] X.env))):=by rfl):
  PE X (.Call (.Attribute o m apos) [] [] pos) (Ax C m sp dvs E ta KY):=by
 intro pins s Y H Q I h;refine Xu (pl:=pl) (bf (he pins s Y H _ I h) λu s1 ⟨x,H1,I1,rx,a,dx,fs,ex,ea,l,q⟩=>?_) ht;subst ex;obtain rfl:u=Vq a:=rx;refine jV I1 ea c hm l ?_;exact PySem.W.callWith_K0 (first:=[.ref a]) I1.p7 hm.kp (v9 (us:=[.ref a]) (vs:=[.ref a]) F hr hb hd hx I1 (.cons rfl .nil) q)
structure Mk(K:UN)(C f:Addr):Prop where
 makes:Yl K C=true
 init:Vy K (.ref C) "__init__" = some (some (.ref f))
 fn:XY K (.ref f)=true
 kp:VJ K (.ref C)=true
theorem BH{Q:VK}(M:Mk X.K C f)(F:cV X.prog X.w X.K X.mg X.base CX k f fd ps sp)(l:cp (k+1) X.A)(d:Binds X.K fd ps ds)(hd:Vals dvs ds)
  (y:Passes CX X E)(I:Inv X pins Y H s)(r:Vals vs us)
  (h:∀x dx,H x=none->H dx=none->dx≠x->sp (.ref x::(vs++dvs)) (upd (upd H dx (.own x)) x (.ins C dx [])) (λv c=>v=.non/\Q (.ref x) c) E):
  wpAny (model X.prog X.w) X.A (call (.ref C) us) (EP X pins Y Q) X.xe s:=by
 have j:=h (s.heap.objs.size+1) s.heap.objs.size (I.hok.fresh (WI _)) (I.hok.fresh (U2 _)) (Vi (Xs _));have m:=Inv.made (C:=C) I;have n:Vals (V.ref (s.heap.objs.size+1)::(vs++dvs)) (Vq (s.heap.objs.size+1)::(us++ds)):=.cons rfl (r.append hd);have hl:(Vq (s.heap.objs.size+1)::us++ds).length=ps.length:=by have e:=n.length;rw[F.len _ _ _ _ j] at e;exact e.symm
 refine wpAny_call (C0 (f:=f) I.p7 M.makes M.init (beq_iff_eq.mp M.fn) (codeAny_mono (F.run _ X.stack _ _ ⟨Vq (s.heap.objs.size+1)::us,[]⟩ (Vq (s.heap.objs.size+1)::(us++ds)) _ _ E (l.make C us [])
  (m.Kl.make C us []) (d _ (Vq (s.heap.objs.size+1)::us) m.p7 hl) n j) λr s' q=>?_))
 cases r with
 |error e=>exact y pins Y _ _ e s' m q
 |ok fl=>
  cases fl with
  |ret u=>obtain⟨v,H',G,t,N,O⟩:=m.after q;subst N;exact⟨t,⟨V.ref (s.heap.objs.size+1),H',G,rfl,O⟩⟩
  |next=>exact V4 q
  |brk=>exact V4 q
  |cont=>exact V4 q
theorem Hy(M:Mk X.K C f)(F:cV X.prog X.w X.K X.mg X.base CX k f fd ps sp)(hr:cp (k+1) X.A)(hg:Gl X x)(hm:X.mg x=some (.ref C))(hb:Binds X.K fd ps ds)(hd:Vals dvs ds)(hx:Passes CX X E)
  (ha:PA X (e::es) t)(hdb:gu x:=by decide)(he:starEach (e::es) X.env=(false,eval e X.env)::starEach es X.env:=by rfl)(hpl:(backTo pos (starEach es X.env)).any (·.1)=false:=by rfl):
  PE X (.Call (.Name x p) (e::es) [] pos) (Jn C sp dvs E t):=by
 intro pins s Y H Q I h;refine wpAny_Call_Name_kw (jq I hg hm ?_ hdb);refine W2 (h₀:=X.base) I.ok.mod.kin M.kp (bf (ha pos pins s Y H _ I h) λus s1 ⟨vs,H1,I1,r,q⟩=>⟨I1.p7,?_⟩) he hpl;exact BH M F hr hb hd hx I1 r q
end
structure kT(N P:List Str)(sc:Scope):Prop where
 kind:sc.kind=.function
 co:sc.isCoroutine=false
 gen:sc.isGenerator=false
 nd:N.Nodup
 pre:N.take P.length=P
 par:∀x∈P,sc.names.lookup x=some .local\/sc.names.lookup x=some .cell
 nofree:∀y∈sc.names,y.2≠.free
theorem qj{kindOf:Str->Option NameKind}{x:Str}:∀{s:List (Str×Value)}{m:Str->Option Value},(∀v,(x,v)∉s)->bindL kindOf s m x=m x
 |[],_,_=>rfl
 |(n,v)::r,m,h=>by
  unfold bindL;rw[qj λw b=>h w (UW _ b)];split
  .have:x≠n:=by rintro rfl;exact h v U9
   simp[this]
  .rfl
theorem qm{kindOf:Str->Option NameKind}{x:Str}:∀{s:List (Str×Value)}{m:Str->Option Value},(∀v,(x,v)∉s)->bindC kindOf s m x=m x
 |[],_,_=>rfl
 |(n,v)::r,m,h=>by
  unfold bindC;rw[qm λw b=>h w (UW _ b)];split
  .rfl
  .have:x≠n:=by rintro rfl;exact h v U9
   simp[this]
theorem pH{kindOf:Str->Option NameKind}{x:Str}{v:Value}:∀{P:List Str}{vs:List Value}{i:Nat}{m:Str->Option Value},P.Nodup->P[i]?=some x->vs[i]?=some v->kindOf x=some .local->
  bindL kindOf (P.zip vs) m x=some v
 |[],_,_,_,_,h,_,_=>by simp at h
 |_::_,[],_,_,_,_,h,_=>by simp at h
 |p::P,w::vs,0,m,nd,h1,h2,hk=>by simp at h1 h2;subst h1;subst h2;show bindL kindOf ((p,w)::P.zip vs) m p=_;unfold bindL;rw[qj λv c=>(Vn.mp nd).1 (Yx c).1,if_pos hk];simp
 |p::P,w::vs,i+1,m,nd,h1,h2,hk=>by show bindL kindOf ((p,w)::P.zip vs) m x=_;unfold bindL;exact pH (i:=i) (Vn.mp nd).2 (by simpa using h1) (by simpa using h2) hk
theorem p9{kindOf:Str->Option NameKind}{x:Str}{v:Value}:∀{P:List Str}{vs:List Value}{i:Nat}{m:Str->Option Value},P.Nodup->P[i]?=some x->vs[i]?=some v->kindOf x≠some .local->
  bindC kindOf (P.zip vs) m x=some v
 |[],_,_,_,_,h,_,_=>by simp at h
 |_::_,[],_,_,_,_,h,_=>by simp at h
 |p::P,w::vs,0,m,nd,h1,h2,hk=>by simp at h1 h2;subst h1;subst h2;show bindC kindOf ((p,w)::P.zip vs) m p=_;unfold bindC;rw[qm λv c=>(Vn.mp nd).1 (Yx c).1,if_neg hk];simp
 |p::P,w::vs,i+1,m,nd,h1,h2,hk=>by show bindC kindOf ((p,w)::P.zip vs) m x=_;unfold bindC;exact p9 (i:=i) (Vn.mp nd).2 (by simpa using h1) (by simpa using h2) hk
noncomputable def start(N:List Str)(vs:List V):St:=vs.map some++Vd (N.length-vs.length) none
noncomputable def uH(CX:xi)(P:Program)(w:World)(K:UN)(mg:Str->Option Value)(base:Heap)(N:List Str)(qual:Str)(scope:Scope)(f:Addr)(cd:Value)(A:Around)(outer:List Env)(s:Shared)(H:Hp)(E:XK):Cx where
 prog:=P
 w:=w
 K:=K
 mg:=mg
 base:=base
 A:=A.deeper (envOfC qual scope s.heap.objs.size f cd)
 N:=N
 s₀:=s
 H₀:=H
 env:=envOfC qual scope s.heap.objs.size f cd
 outer:=outer
 stack:=envOfC qual scope s.heap.objs.size f cd::outer
 ex:=[]
 calm:=true
 fn:=λ_=>true
 pn:=[]
 xe:=λe s'=>wpAny (model P w) (A.deeper (envOfC qual scope s.heap.objs.size f cd)) (leaving (envOfC qual scope s.heap.objs.size f cd) e) (λ_ Y=>CX outer H s E e Y) (λr Y=>CX outer H s E r Y) s'
theorem uK{sc:Scope}{n:Nat}(h:sc.names.lookup x=some .cell):∃c,(cellsFrom n sc.names []).lookup x=some c:=by have q:=YR sc.names n [] (.inl h);exact Option.isSome_iff_exists.mp q
variable{scope:Scope}
theorem zm{qual:Str}{f:Addr}{cd:Value}{A:Around}{s1:Shared}{E:XK}
  (S:kT N ps scope)(hd:A.handled=none)(X:vL P w K mg base A outer s H)(hl:vs.length=ps.length)(r:Vals vs us)
  (x:InCallC s s.heap.objs.size (bindL (envOfC qual scope s.heap.objs.size f cd).kindOf (ps.zip us) λ_=>none) (cellsFrom (s.heap.objs.size+1) scope.names []) (bindC (envOfC qual scope s.heap.objs.size f cd).kindOf (ps.zip us) λ_=>none) s1):
  Inv (uH CX P w K mg base N qual scope f cd A outer s H E) [] (start N vs) H s1:=by
 have T:ps.length<=N.length:=by have:=congrArg V2 S.pre;rw[Vh] at this;omega
 obtain⟨h1,tk,rfl,hk⟩:=x.done;have Y:∀b:Addr,b∉(uH CX P w K mg base N qual scope f cd A outer s H E).ex:=λb z=>absurd (show b∈([]:List Addr) from z) (by simp);refine⟨⟨X.mod,S.kind,rfl,rfl,U2 _,λy z c h1 h2=>?_,λy I=>?_,λy c _ h=>?_,λ_=>hd,Around.frames_deeper X.frames,.inr ⟨rfl,rfl⟩,λb z=>absurd z (Y b),X.bs,X.bsz,λb _ _=>Y b,λb z=>absurd z (Y b),X.kf,X.frf⟩,
  rfl,X.bare,Un.kept hk,⟨_,x.toInCall.ns,λi y v h1 h2 h3=>?_⟩,λy c h=>⟨_,x.cell y c h⟩,X.hok.fresh (U2 _),λy c h=>?_,λp hp=>absurd (show p∈([]:List (Addr×Obj)) from hp) (by simp),X.hok.kept hk,?_⟩
 .exact name_of_addr x.apart (Wb h1) (Wb h2)
 .have I:scope.names.lookup y=some .cell\/scope.names.lookup y=some .free:=I;rcases I with I|I
  .exact uK I
  .exact absurd rfl (S.nofree _ (Wb I))
 .exact WN (x.above y c (Wb h))
 .have hi:i<vs.length:=by
   unfold start at h2;by_cases hi:i<vs.length
   .exact hi
   .rw[Vv (by simpa using hi)] at h2;rw[Y6] at h2;split at h2<;>cases h2
  have ha:vs[i]?=some v:=by
   unfold start at h2;rw[VX (by simpa using hi),UU] at h2;cases e:vs[i]? with
   |none=>rw[e] at h2;cases h2
   |some a=>rw[e] at h2;cases h2;rfl
  obtain⟨u,R,t⟩:=r.get ha;have hp:ps[i]?=some y:=by rw[<-S.pre,Y1 (by omega)];exact h1
  have Q:ps.Nodup:=by rw[<-S.pre];exact S.nd.sublist (Xd _ _)
  refine⟨u,t,?_⟩;rcases S.par y (Vc hp) with k|k
  .exact .inl ⟨k,pH Q hp R k⟩
  .obtain⟨c,e⟩:=uK (n:=s.heap.objs.size+1) k;refine .inr ⟨.inl k,c,e,?_⟩;have q:=x.cell y c e;rw[p9 Q hp R (by show scope.names.lookup y≠_;rw[k];decide)] at q;exact q
 .exact X.hok.fresh (WN (x.above y c (Wb h)))
 .unfold start;show _=N.length;rw[UY,UP,Zk];omega
theorem Rg{f:Addr}{name qual:Str}{h:Arguments}{dV kV doc pm cdv ct oc:Value}{an od:Option Addr}
  {osl:Array (Option Value)}(L:K.lookup f=some ⟨oc,od,.func (X1 name qual h body scope dV kV doc pm an cdv ct),osl⟩)(p:XD K cdv qual=true)(S:kT N ps scope)
  (len:∀vs H Q E,sp vs H Q E->vs.length=ps.length)
  (U:∀(A:Around)(outer:List Env)(s:Shared)(H:Hp)(vs:List V)(Q:VK)(E:XK),cp k (A.deeper (envOfC qual scope s.heap.objs.size f cdv))->sp vs H Q E->
   ∃t,tP (uH CX P w K mg base N qual scope f cdv A outer s H E) body t/\t { nx:=λ_ H'=>Q .non H',rt:=Q } (start N vs) H):
  cV P w K mg base CX (k+1) f (X1 name qual h body scope dV kV doc pm an cdv ct) ps sp:=by
 refine⟨len,λA outer s H args us vs Q E l Z d r a=>?_⟩;have hl:=len _ _ _ _ a;have G:K.In s.heap:=Z.mod.kin.keeps λb o e=>(Z.bs b o e).1;have B:s.heap.NoLimit:=Z.mod.nolimit.keeps λb o e=>(Z.bs b o e).1;have X:∀y∈ps.zip us,scope.names.lookup y.1=some .local\/(scope.names.lookup y.1=some .cell/\((cellsFrom (s.heap.objs.size+1) scope.names []).lookup y.1).isSome=true):=λ⟨n,v⟩ O=>by
  rcases S.par n (Yx O).1 with q|q
  .exact .inl q
  .exact .inr ⟨q,YR _ _ _ (.inl q)⟩
 refine codeAny_call_function l.depth (G _ _ L) rfl S.co S.gen rfl (PySem.W.codeRec_of G p) (d _ _ _ _ ?_);refine wpAny_newFunctionEnv_cells S.kind X λenv he s1 x=>?_;subst he;refine⟨B.keeps x.toInCall.keep,codeAny_func ?_⟩;obtain⟨t,i,R⟩:=U A outer s H vs Q E (l.deeper _) a;have I:Inv (uH CX P w K mg base N qual scope f cdv A outer s H E) [] (start N vs) H s1:=zm S l.hd Z hl r x;refine wpAny_mono (i [] s1 (start N vs) H _ I R) (λfl s' Y=>?_) λe s' Y=>Y;have fin:∀{j:St}{H':Hp}{v:V}{u:Value},Inv (uH CX P w K mg base N qual scope f cdv A outer s H E) [] j H' s'->RelV v u->Q v H'->CE outer P w H s Q u s':=
  λ{j H' v u} J D q=>⟨v,H',J.os,J.bare,J.base,J.hok,D,q⟩
 cases fl with
 |ret u=>obtain⟨v,j,H',J,D,q⟩:=Y;exact fin J D q
 |next=>obtain⟨j,H',J,q⟩:=Y;exact fin (v:=V.non) (u:=YC) J rfl q
 |brk=>obtain⟨_,_,_,q⟩:=Y;exact V4 q
 |cont=>obtain⟨_,_,_,q⟩:=Y;exact V4 q
section
variable{X:Cx}{x:Str}{p pos:Pos}{e:Expr}{es:List Expr}{t:TA}{id T:String}{r:List V->Hp->VK->Prop}
noncomputable def Uc(r:List V->Hp->VK->Prop)(t:TA):TE:=λY H Q=>t Y H λvs e=>r vs e Q
theorem je(hc:bF X (.builtin id) r)(hg:Gl X x)(hm:X.mg x=none)(hv:bootBuiltins x=some (.builtin id))(ha:PA X (e::es) t)(hn:x ≠ "__name__" := by decide)(hdb:gu x:=by decide)
  (he:starEach (e::es) X.env=(false,eval e X.env)::starEach es X.env:=by rfl)(hpl:(backTo pos (starEach es X.env)).any (·.1)=false:=by rfl):PE X (.Call (.Name x p) (e::es) [] pos) (Uc r t):=by
 intro pins s Y H Q I h;refine wpAny_Call_Name_kw (oY I hg hm hv ?_ hn hdb);exact PyProof.Rows.callWith_builtin1 (bf (ha pos pins s Y H _ I h) λus s1 ⟨vs,H1,I1,r1,q1⟩=>hc pins s1 Y H1 vs us Q I1 r1 q1) he hpl
theorem Ab(hc:bF X (.type T) r)(hg:Gl X x)(hm:X.mg x=none)(hv:bootBuiltins x=some (.type T))(ha:PA X (e::es) t)(hn:x ≠ "__name__" := by decide)(hdb:gu x:=by decide)
  (he:starEach (e::es) X.env=(false,eval e X.env)::starEach es X.env:=by rfl)(hpl:(backTo pos (starEach es X.env)).any (·.1)=false:=by rfl):PE X (.Call (.Name x p) (e::es) [] pos) (Uc r t):=by
 intro pins s Y H Q I h;refine wpAny_Call_Name_kw (oY I hg hm hv ?_ hn hdb);exact WR (bf (ha pos pins s Y H _ I h) λus s1 ⟨vs,H1,I1,r1,q1⟩=>hc pins s1 Y H1 vs us Q I1 r1 q1) he hpl
end
end L2
namespace HT
open PySem PyProof.Rows
variable{Q:Value->Shared->Prop}{sl:Addr}{vl vu:Value}{lo hi:Option Int}
section
variable{prog:Program}{w:World}{A:Around}{E:Value->Shared->Prop}{s:Shared}
theorem G5{t b:Addr}{vs ws:List Value}(i:IsTup s.heap t vs.toArray)(d:IsTup s.heap b ws.toArray)(c:vs≠[])
  (h1:ws=[]->Q (.ref t) s)(h2:ws≠[]->Q (.ref s.heap.objs.size) { s with heap:=s.heap.push { cls:=.type "tuple",data:=.seq (vs++ws).toArray } })
  (hsz:vs.length+ws.length<=sizeLine):wpAny (model prog w) A (binaryOp .Add (.ref t) (.ref b)) Q E s:=by
 obtain⟨⟨cls,dd,data,sl⟩,ho,hc,n,hd⟩:=id i;obtain⟨⟨o,x,data2,H⟩,h,K,q,V⟩:=id d;simp only at hc hd K V;subst hc hd K V;have e:vs.toArray++ws.toArray=(vs++ws).toArray:=by simp
 by_cases m:ws=[]
 .exact concat_meets ⟨_,ho,rfl⟩ ⟨_,h,rfl⟩ noFill_tuple_add seq_tuple_add Xm Xe (W8 _ _)
   (tuple_addW1 t b vs.toArray ws.toArray n q dd x sl H (by simpa using c) (by simp[m])) ⟨ho,h,h1 m⟩
 .refine concat_meets ⟨_,ho,rfl⟩ ⟨_,h,rfl⟩ noFill_tuple_add seq_tuple_add Xm Xe (W8 _ _)
   (tuple_addW2 t b vs.toArray ws.toArray n q dd x sl H (by simpa using c) (by simpa using m) (by rw[UT,UT];exact hsz)) ⟨ho,h,?_⟩
  rw[e];exact h2 m
noncomputable def cW(n d:Nat):Option Int->Nat
 |none=>d
 |some v=>if v<0 then (v+(n:Int)).toNat else min v.toNat n
theorem Kn(n d:Nat)(hd:d<=n)(o:Option Int):cW n d o<=n:=by
 cases o with
 |none=>exact hd
 |some v=>
  show (if v<0 then (v+(n:Int)).toNat else min v.toNat n)<=n;by_cases c:v<0
  .rw[if_pos c];omega
  .rw[if_neg c];exact Nat.min_le_right _ _
theorem wY(v:Int)(n d:Nat):(if v<0 then max (v+(n:Int)) 0 else min v (n:Int))=((cW n d (some v):Nat):Int):=by
 show (if v<0 then max (v+(n:Int)) 0 else min v (n:Int))=(((if v<0 then (v+(n:Int)).toNat else min v.toNat n):Nat):Int);by_cases c:v<0
 .simp only[if_pos c];omega
 .simp only[if_neg c];omega
theorem wB(lo hi:Option Int)(n:Nat):WW lo hi 1 (n:Int)=(((cW n 0 lo:Nat):Int),((cW n n hi:Nat):Int)):=by
 have h1:¬ ((1:Int)<0):=by omega
 unfold WW;simp only[h1,if_false];refine Prod.ext ?_ ?_
 .cases lo with
  |none=>rfl
  |some v=>exact wY v n 0
 .cases hi with
  |none=>rfl
  |some v=>exact wY v n n
theorem vY(i j:Nat):Wj (i:Int) (j:Int) 1=j-i:=by
 unfold Wj;have h1:(1:Int) > 0:=by omega
 simp only[h1,if_true,Int.ediv_one];split<;>omega
theorem ng{v:Value}{o:Option Int}{Q:Option Int->Shared->Prop}(p:IsPart v o)(h:Q o s):wpAny (model prog w) A (zaB v) Q E s:=by
 cases p with
 |none=>exact slicePart_none h
 |int i t=>exact slicePart_int h
theorem gn{n:Nat}{Q:Int×Int×Nat->Shared->Prop}(P:s.heap.IsSliceOf sl vl vu .none)(pl:IsPart vl lo)(H:IsPart vu hi)
  (h:Q (((cW n 0 lo:Nat):Int),1,cW n n hi-cW n 0 lo) s):wpAny (model prog w) A (X4 (.ref sl) (pure (n:Int))) Q E s:=by
 obtain⟨os,u,I,v⟩:=id P;unfold X4 zaC;refine wpAny_bind (wpAny_bind (wpAny_field u v (x:=vl) rfl (wpAny_bind (wpAny_field u v (x:=vu) rfl (wpAny_bind (wpAny_field u v (x:=.none) rfl (wpAny_pure ?_)))))));refine wpAny_bind (slicePart_none ?_);show wpAny _ _ (if ((1:Int)==0)=true then _ else _) _ _ s;rw[if_neg (by decide)];refine wpAny_bind (ng pl (wpAny_bind (ng H (wpAny_bind (wpAny_pure ?_)))));show wpAny _ _ (match WW lo hi 1 (n:Int) with|(lo,hi)=>pure (lo,(1:Int),Wj lo hi 1)) _ _ s;rw[wB lo hi n];show wpAny _ _ (pure (((cW n 0 lo:Nat):Int),(1:Int),Wj ((cW n 0 lo:Nat):Int) ((cW n n hi:Nat):Int) 1)) _ _ s;rw[vY];exact wpAny_pure h
theorem A0(xs:Array Value)(i k:Nat):((Vo k).filterMap λ(m:Nat)=>xs[((i:Int)+(m:Int)*1).toNat]?).toArray=((xs.toList.drop i).take k).toArray:=by
 have e:(λ(m:Nat)=>xs[((i:Int)+(m:Int)*1).toNat]?)=λm=>xs[i+m]?:=by
  funext m
  have:((i:Int)+(m:Int)*1).toNat=i+m:=by omega
  rw[this]
 rw[e];have:=pick_run xs i k;rw[List.filterMap_map] at this;have e2:((λx=>xs[x]?)∘λx=>i+x)=λm=>xs[i+m]?:=rfl;rw[e2] at this;rw[this]
theorem ku{t:Addr}{items:Array Value}(i:IsTup s.heap t items)(P:s.heap.IsSliceOf sl vl vu .none)(pl:IsPart vl lo)(H:IsPart vu hi)
  (b:¬ (cW items.size 0 lo=0/\cW items.size items.size hi=items.size))
  (h:Q (.ref s.heap.objs.size) { s with heap:=s.heap.push { cls:=.type "tuple",data:=.seq ((items.toList.drop (cW items.size 0 lo)).take (cW items.size items.size hi-cW items.size 0 lo)).toArray } })
  (hsz:items.size<=sizeLine):wpAny (model prog w) A (getItem (.ref t) (.ref sl)) Q E s:=by
 have x:sizeOk (.seq ((items.toList.drop (cW items.size 0 lo)).take (cW items.size items.size hi-cW items.size 0 lo)).toArray):=by show ((items.toList.drop (cW items.size 0 lo)).take (cW items.size items.size hi-cW items.size 0 lo)).toArray.size<=sizeLine;rw[UT,Vh,Xp,VF];omega
 have N:cW items.size items.size hi<=items.size:=Kn _ _ (U2 _) hi;obtain⟨os,u,I,v⟩:=id P;have J:s.TypeIs (.ref sl) "slice" := ⟨os,u,I⟩
 unfold getItem
 try with_reducible refine wpAny_holding ?_
 first|refine wpAny_bind (wpAny_pure ?_)|skip
 refine wpAny_bind (wpAny_sequenceKey i.typeIs (by decide) ?_);refine wpAny_bind (wpAny_callSpecial?_slot (name:=Str.ofString "__getitem__") i.typeIs VH
  (wpAny_call_entry VH i.typeIs entry_tuple_getitem ?_ (args_tuple_getitem _ _)))
 show wpAny _ _ (X6 (.ref t) >>= _) _ _ s;refine wpAny_bind (tupleItemsOf_ i ?_);refine wpAny_bind (wpAny_typeOf J ?_);rw[if_pos (by decide)];refine wpAny_bind (gn P pl H ?_);have K:¬ ((((cW items.size 0 lo:Nat):Int)==0&&(1:Int)==1&&(cW items.size items.size hi-cW items.size 0 lo)==items.size)=true):=by intro q;rw[UO,UO] at q;have k:((cW items.size 0 lo:Nat):Int)=0:=eq_of_beq q.1.1;have o:cW items.size items.size hi-cW items.size 0 lo=items.size:=eq_of_beq q.2;exact b ⟨by omega,by omega⟩
 show wpAny _ _ (if (((cW items.size 0 lo:Nat):Int)==0&&(1:Int)==1&&(cW items.size items.size hi-cW items.size 0 lo)==items.size)=true then _ else _) _ _ s;rw[if_neg K,A0]
 first
  |exact wpAny_bind (m:=Wr _) (wpAny_newObj_type (wpAny_pure ⟨_,rfl,wpAny_pure h⟩) x)
  |exact wpAny_bind (m:=Wr _) (wpAny_newObj_type (wpAny_bind (wpAny_pure (wpAny_pure ⟨_,rfl,wpAny_pure h⟩))) x)
  |exact wpAny_bind (wpAny_bind (m:=Wr _) (wpAny_newObj_type (wpAny_pure (wpAny_pure ⟨_,rfl,wpAny_pure h⟩)) x))
  |exact wpAny_bind (wpAny_bind (m:=Wr _) (wpAny_newObj_type (wpAny_pure ⟨_,rfl,wpAny_pure h⟩) x))
end
end HT
namespace L2
open PySem PySem.Spec PyProof.Rows
abbrev TO:=St->Hp->(Option Int->Hp->Prop)->Prop
def PO(X:Cx)(e:Option Expr)(t:TO):Prop:=
 ∀(pins:List (Addr×Obj))(s:Shared)(Y:St)(H:Hp)(Q:Option Int->Hp->Prop),Inv X pins Y H s->t Y H Q->
  wpAny (model X.prog X.w) X.A (evalPart e X.env) (λu s'=>∃o H',Inv X pins Y H' s'/\IsPart u o/\Q o H') X.xe s
noncomputable def E7:TO:=λ_ H Q=>Q none H
noncomputable def P1(t:TE):TO:=λY H Q=>t Y H λx e=>∃i,x=.int i/\Q (some i) e
variable{r:V->Option Int->Option Int->Hp->VK->Prop}
section
variable{X:Cx}{e:Expr}{te:TE}{lo hi:Option Expr}{tl th:TO}{pos p2:Pos}
theorem Hw:PO X none E7:=by intro pins s Y H Q I h;rw[evalPart_none];exact wpAny_pure ⟨none,H,I,.none,h⟩
theorem Ho(h:PE X e te):PO X (some e) (P1 te):=by intro pins s Y H Q I m;rw[evalPart_some];refine bf (h pins s Y H _ I m) λu s1 ⟨x,P,g,A,k⟩=>?_;obtain⟨i,rfl,q⟩:=k;obtain⟨t,rfl⟩:=A;exact⟨some i,P,g,.int i t,q⟩
def i7(X:Cx)(r:V->Option Int->Option Int->Hp->VK->Prop):Prop:=
 ∀(pins:List (Addr×Obj))(s:Shared)(Y:St)(H:Hp)(x:V)(v E h:Value)(lo hi:Option Int)(sl:Addr)(Q:VK),Inv X pins Y H s->RelV x v->s.heap.IsSliceOf sl E h .none->IsPart E lo->IsPart h hi->r x lo hi H Q->
  ∃T id,typeLookup (.type T) "__getitem__" = pure (some (.builtin id))/\s.TypeIs v T/\wpAny (model X.prog X.w) X.A (getItem v (.ref sl)) (EP X pins Y Q) X.xe s
theorem i7.or{r':V->Option Int->Option Int->Hp->VK->Prop}(h:i7 X r)(h':i7 X r'):i7 X (λx lo hi H Q=>r x lo hi H Q\/r' x lo hi H Q):=by
 intro pins s Y H x v E w lo hi sl Q I b u pl A q;rcases q with q|q
 .exact h pins s Y H x v E w lo hi sl Q I b u pl A q
 .exact h' pins s Y H x v E w lo hi sl Q I b u pl A q
noncomputable def Uj(r:V->Option Int->Option Int->Hp->VK->Prop)(te:TE)(tl th:TO):TE:=λY H Q=>te Y H λx e=>tl Y e λl c=>th Y c λu C=>r x l u C Q
theorem En(V:i7 X r)(he:PE X e te)(hl:PO X lo tl)(f:PO X hi th):PE X (.Subscript e (.Slice lo hi none p2) pos) (Uj r te tl th):=by intro pins s Y H Q I h;refine Subscript_ (bf (he pins s Y H _ I h) λv s1 ⟨x,P,g,i,k⟩=>?_);refine wpAny_Slice (bf (hl pins s1 Y P _ g k) λE s2 ⟨l,c,m,pl,o⟩=>bf (f pins s2 Y c _ m o) λU K ⟨u,C,F,Z,O⟩=>?_);rw[evalPart_none];refine wpAny_pure ?_;have a:Inv X pins Y C { K with heap:=K.heap.push { cls:=.type "slice",data:=.fields #[E,U,.none] } }:=F.kept (t':=K.toks) λb ob q=>UR _ q;obtain⟨T,id,p,B,D⟩:=V pins { K with heap:=K.heap.push { cls:=.type "slice",data:=.fields #[E,U,.none] } } Y C x v E U l u K.heap.objs.size Q a i (zat ..) pl Z O;show wpAny (model X.prog X.w) X.A (subscriptTail e (.Slice lo hi none p2) v (.ref K.heap.objs.size)) (EP X pins Y Q) X.xe { K with heap:=K.heap.push { cls:=.type "slice",data:=.fields #[E,U,.none] } };exact tail_any (ops:=[.ref K.heap.objs.size,v]) B p D (by with_unfolding_all rfl)
def si(xs:List V)(lo hi:Option Int):List V:=(xs.drop (HT.cW xs.length 0 lo)).take (HT.cW xs.length xs.length hi-HT.cW xs.length 0 lo)
theorem l6(xs:List V)(lo hi:Option Int):(si xs lo hi).length<=xs.length:=by unfold si;rw[Vh,Xp];omega
def SF(K:UN):V->Option Int->Option Int->Hp->VK->Prop:=λx lo hi H Q=>∃a xs,x=.ref a/\iu K H a xs /\
 ¬ (HT.cW xs.length 0 lo=0/\HT.cW xs.length xs.length hi=xs.length)/\∀p,H p=none->Q (.ref p) (upd H p (.tup (si xs lo hi)))
theorem K8:i7 X (SF X.K):=by
 intro pins s Y H x v E U lo hi sl Q I w u pl A h;obtain⟨a,xs,rfl,y,m,q⟩:=h;cases w;obtain⟨its,r,i,hz⟩:=I.tuple y;have N:its.toArray.size=xs.length:=by rw[UT];exact r.length.symm
 refine⟨"tuple",_,VH.lookup,i.typeIs,?_⟩;refine HT.ku i u pl A (by rw[N];exact m) ?_ (by rw[N];exact hz);rw[N];refine⟨.ref s.heap.objs.size,_,I.laid (t':=s.toks) (o:=.tup (si xs lo hi)) (λb ob q=>UR _ q) (U2 _) ?_,rfl,q _ (I.hok.fresh (U2 _))⟩;exact⟨Vg (l6 xs lo hi) hz,_,(r.drop (HT.cW xs.length 0 lo)).take (HT.cW xs.length xs.length hi-HT.cW xs.length 0 lo),fg.new _ _⟩
def Rx(K:UN):R2:=λx y H Q=>∃a b xs ys,x=.ref a/\y=.ref b/\iu K H a xs/\iu K H b ys/\xs≠[]/\xs.length+ys.length<=sizeLine /\
 (ys=[]->Q (.ref a) H)/\(ys≠[]->∀p,H p=none->Q (.ref p) (upd H p (.tup (xs++ys))))
theorem Vals.rB{xs:List V}{us:List Value}(r:Vals xs us):us=[]↔xs=[]:=by
 cases r with
 |nil=>simp
 |cons _ _=>simp
theorem G7:eu X (binaryOp .Add) (Rx X.K):=by intro pins s Y H x y v u Q I G U h;obtain⟨a,b,xs,ys,rfl,rfl,ha,d,k,hz,V,p⟩:=h;cases G;cases U;obtain⟨its,i,J,_⟩:=I.tuple ha;obtain⟨T,n,p2,_⟩:=I.tuple d;refine HT.G5 J p2 (λz=>k (i.rB.mp z)) (λz=>⟨.ref a,H,I,rfl,V (n.rB.mp z)⟩) (λz=>?_) (by rw[<-i.length,<-n.length];exact hz);refine⟨.ref s.heap.objs.size,_,I.laid (t':=s.toks) (o:=.tup (xs++ys)) (λb ob q=>UR _ q) (U2 _) ?_,rfl,p (λw=>z (n.rB.mpr w)) _ (I.hok.fresh (U2 _))⟩;exact⟨by rw[UY];exact hz,_,i.append n,fg.new _ _⟩
end
noncomputable def uP(n:Nat)(i:Int):Option Nat:=if 0<=i then (if i<n then some i.toNat else none) else if -(n:Int)<=i then some (i+n).toNat else none
def j3{α:Type}(xs:List α)(i:Int):Option α:=(uP xs.length i).bind λj=>xs[j]?
variable{i:Int}{j:Nat}
theorem yo{n:Nat}(h:uP n i=some j):seqIndex? i n=some j/\j<n /\ -(n:Int)<=i/\i<n:=by
 unfold uP at h;by_cases h0:0<=i
 .rw[if_pos h0] at h;by_cases h1:i<n
  .rw[if_pos h1] at h;have e:i.toNat=j:=U1 h;exact⟨by rw[seqIndex_of h0 h1,e],by omega,by omega,h1⟩
  .rw[if_neg h1] at h;cases h
 .rw[if_neg h0] at h;by_cases h1:-(n:Int)<=i
  .rw[if_pos h1] at h;have e:(i+n).toNat=j:=U1 h;exact⟨by rw[seqIndex_neg (by omega) h1,e],by omega,h1,by omega⟩
  .rw[if_neg h1] at h;cases h
variable{α:Type}
theorem sy{xs:List α}{v:α}(h:j3 xs i=some v):∃j,seqIndex? i xs.length=some j/\xs[j]?=some v/\j<xs.length /\ -(xs.length:Int)<=i/\i<xs.length:=by
 unfold j3 at h;cases e:uP xs.length i with
 |none=>rw[e] at h;cases h
 |some j=>rw[e] at h;obtain⟨h1,h2,h3,h4⟩:=yo e;exact⟨j,h1,h,h2,h3,h4⟩
theorem mX{xs:List α}{v:α}(h:xs[j]?=some v):j3 xs (j:Int)=some v:=by
 have N:j<xs.length:=(UQ.mp h).1;have e:uP xs.length (j:Int)=some j:=by unfold uP;rw[if_pos (by omega),if_pos (by omega)];simp
 unfold j3;rw[e];exact h
def mM(b:Expr):Prop:=∀o i,subscripted b false o i=operate [o,i] (getItem o i)
def HP(X:Cx)(r:R2):Prop:=
 ∀(value slice:Expr)(pins:List (Addr×Obj))(s:Shared)(Y:St)(H:Hp)(x y:V)(v u:Value)(Q:VK),Inv X pins Y H s->RelV x v->RelV y u->r x y H Q->
  subscripted slice false v u=operate [v,u] (getItem v u)->wpAny (model X.prog X.w) X.A (subscriptTail value slice v u) (EP X pins Y Q) X.xe s
def R1(X:Cx)(id:String)(r:V->List V->Hp->VK->Prop):Prop:=
 ∀(pins:List (Addr×Obj))(s:Shared)(Y:St)(H:Hp)(x:V)(xs:List V)(v:Value)(us:List Value)(Q:VK),Inv X pins Y H s->RelV x v->Vals xs us->r x xs H Q->
  wpAny (model X.prog X.w) X.A (call (.builtin id) (v::us)) (EP X pins Y Q) X.xe s
variable{pins:List (Addr×Obj)}{Y:St}{H:Hp}{s:Shared}{p:Addr}{its its':List Value}{y x:V}{u v:Value}{T:String}
section
variable{X:Cx}{a b:Expr}{ta tb:TE}{pos:Pos}
theorem HP.or{r r':R2}(h:HP X r)(h':HP X r'):HP X (λx y H Q=>r x y H Q\/r' x y H Q):=by
 intro value slice pins s Y H x y v u Q I b z q P;rcases q with q|q
 .exact h value slice pins s Y H x y v u Q I b z q P
 .exact h' value slice pins s Y H x y v u Q I b z q P
theorem O8{r:R2}(l:HP X r)(ha:PE X a ta)(d:PE X b tb)(P:mM b):PE X (.Subscript a b pos) (Q7 r ta tb):=by intro pins s Y H Q I h;exact Subscript_ (Na ha d I h λv u s2 x y c m w z q=>l a b pins s2 Y c x y v u Q m w z q (P _ _))
def O5(K:UN):R2:=λx y H Q=>∃p xs i v,x=.ref p/\y=.int i/\g9 K H p xs/\j3 xs i=some v/\Q v H
def QX(K:UN):R2:=λx y H Q=>∃p xs i v,x=.ref p/\y=.int i/\iu K H p xs/\j3 xs i=some v/\Q v H
def Rz:R2:=λx y H Q=>∃z i c,x=.str z/\y=.int i/\z.length<=sizeLine/\j3 z.cps.toList i=some c/\Q (.str ⟨#[c]⟩) H
theorem Fx:HP X (O5 X.K):=by
 intro value slice pins s Y H x y v u Q I b U h P;obtain⟨p,xs,i,z,rfl,rfl,S,he,q⟩:=h;cases b;obtain⟨t,rfl⟩:=U;obtain⟨its,r,pl,hz⟩:=I.list S;obtain⟨j,h1,h2,h3,h4,h5⟩:=sy he;obtain⟨w,R,L⟩:=r.get h2;have hl:=r.length;have hn:=oG;have fin:EP X pins Y Q w s:=⟨z,H,I,L,q⟩
 by_cases h0:0<=i
 .have N:i.toNat=j:=by rw[seqIndex_of h0 h5] at h1;exact U1 h1
  exact item_listR pl.isList h0 (by omega) (by rw[N];simpa using R) fin P
 .have N:(i+(its.toArray.size:Int)).toNat=j:=by rw[seqIndex_neg (by omega) h4] at h1;rw[UT,<-hl];exact U1 h1
  exact subscriptTail_builtinR (x:=w) pl.isList.typeIs slot_list_getitem.lookup
   (wpAny_getItem_list_neg (Q:=λr s'=>r=w/\EP X pins Y Q r s') pl.isList (by omega) (by rw[UT]<;>omega) (by omega) (by rw[N];simpa using R) ⟨rfl,fin⟩) P
theorem K7:HP X (QX X.K):=by
 intro value slice pins s Y H x y v u Q I b U h P;obtain⟨p,xs,i,z,rfl,rfl,R,he,q⟩:=h;cases b;obtain⟨t,rfl⟩:=U;obtain⟨its,r,pl,hz⟩:=I.tuple R;obtain⟨j,h1,h2,h3,h4,h5⟩:=sy he;obtain⟨w,T,L⟩:=r.get h2;have hl:=r.length;have hn:=oG;have fin:EP X pins Y Q w s:=⟨z,H,I,L,q⟩
 exact subscriptTail_builtinR (x:=w) pl.typeIs slot_tuple_getitem.lookup
  (getItem_tuple (j:=j) (Q:=λr s'=>r=w/\EP X pins Y Q r s') pl (by omega) (by omega) (by rw[UT,<-hl];exact h1) (by simpa using T) ⟨rfl,fin⟩) P
theorem Mw:HP X Rz:=by
 intro value slice pins s Y H x y v u Q I b U h P;obtain⟨z,i,c,rfl,rfl,hz,he,q⟩:=h;obtain⟨t,rfl⟩:=b;obtain⟨t',rfl⟩:=U;obtain⟨j,h1,h2,h3,h4,h5⟩:=sy he;have hl:z.cps.toList.length=z.length:=by simp[ZR]
 rw[hl] at h1 h4 h5;have hn:=oG;exact tail_any (typeIs_str s z t) slot_str_getitem.lookup (getItem_str (c:=c) (by have e1:decide (i < -(2^63:Int))=false:=decide_eq_false (by omega);have e2:decide (i≥2^63)=false:=decide_eq_false (by omega);rw[e1,e2,Bool.or_false]) (by rw[h1];simpa using h2) ⟨.str ⟨#[c]⟩,H,I.tok _,⟨_,rfl⟩,q⟩) P
def TF(K:UN):R2:=λx y H Q=>O5 K x y H Q\/QX K x y H Q\/Rz x y H Q
theorem Nv:HP X (TF X.K):=Fx.or (K7.or Mw)
theorem vR(its:List Value)(n j:Nat)(u:Value):VL (·.setIfInBounds j u) { cls:=.type "list",data:=.seq its.toArray n }={ cls:=.type "list",data:=.seq (its.set j u).toArray n }:=by simp[VL]
theorem Inv.lst{xs:List V}(I:Inv X pins Y H s)(h:H p=some (.lst xs)):
  ∃(its:List Value)(n:Nat),Vals xs its/\s.heap.get? p=some { cls:=.type "list",data:=.seq its.toArray n }/\xs.length<=sizeLine:=by
 obtain⟨z,its,n,r,e⟩:=I.hok p _ h;exact⟨its,n,r,e,z⟩
theorem Inv.LP{xs ys:List V}{n Q:Nat}{f:Obj->Obj}(I:Inv X pins Y H s)(h:H p=some (.lst xs))
  (ho:s.heap.get? p=some { cls:=.type "list",data:=.seq its.toArray n })(hf:f { cls:=.type "list",data:=.seq its.toArray n }={ cls:=.type "list",data:=.seq its'.toArray Q })(r:Vals ys its')(hz:ys.length<=sizeLine)(t:Nat):
  Inv X pins Y (upd H p (.lst ys)) { s with heap:=s.heap.update p f,toks:=t }:=by
 have e:(s.heap.update p f).get? p=some { cls:=.type "list",data:=.seq its'.toArray Q }:=by rw[Heap.get?_update_self f ho (by rw[hf]<;>rfl),hf]
 refine I.write (x:=p) (e:=p) (by rw[h];trivial) (.inl rfl) (λb u d q=>(Zc _ _ (VY d)).trans q) ⟨_,e⟩ ?_;exact⟨hz,its',Q,r,e⟩
def Jl:V->V->V->Hp->(Hp->Prop)->Prop:=λo i v H Q=>∃p xs k j,o=.ref p/\i=.int k/\H p=some (.lst xs)/\uP xs.length k=some j/\Q (upd H p (.lst (xs.set j v)))
theorem set_list:Rj X Jl:=by
 intro pins s Y H o i v E y u Q I x Z D h;obtain⟨p,xs,k,j,rfl,rfl,hp,N,q⟩:=h;cases x;obtain⟨t,rfl⟩:=Z;obtain⟨its,n,r,ho,hz⟩:=I.lst hp;obtain⟨h1,h2,h3,h4⟩:=yo N;have hl:=r.length;have hn:=oG;have a:Inv X pins Y (upd H p (.lst (xs.set j v))) { s with heap:=s.heap.update p (VL (·.setIfInBounds j u)) }:=
  I.LP hp ho (vR its n j u) (r.set D j) (by rw[Yy];exact hz) s.toks
 by_cases h0:0<=k
 .have hk:k.toNat=j:=by rw[seqIndex_of h0 h4] at h1;exact U1 h1
  exact PySem.W.ki_setAt ho h0 (by omega) (by rw[UT,<-hl];exact h4) (by rw[hk];exact⟨_,a,q⟩)
 .have hk:(k+(its.toArray.size:Int)).toNat=j:=by rw[seqIndex_neg (by omega) h3] at h1;rw[UT,<-hl];exact U1 h1
  exact PySem.W.ki_setBack ho (by omega) (by rw[UT,<-hl];exact h3) (by omega) (by rw[hk];exact⟨_,a,q⟩)
theorem rn(lo hi:Option Int)(n:Nat):(sliceBounds lo hi none n).1=((HT.cW n 0 lo:Nat):Int)/\(sliceBounds lo hi none n).2.1=((HT.cW n n hi:Nat):Int)/\(sliceBounds lo hi none n).2.2=1:=by
 refine⟨?_,?_,rfl⟩
 .cases lo with
  |none=>simp[sliceBounds,HT.cW]
  |some i=>
   simp only[sliceBounds,HT.cW,ZK,show (1:Int) > 0 by decide,if_true];by_cases h:i<0
   .simp only[h,if_true]<;>omega
   .simp only[h,if_false]<;>omega
 .cases hi with
  |none=>simp[sliceBounds,HT.cW]
  |some i=>
   simp only[sliceBounds,HT.cW,ZK,show (1:Int) > 0 by decide,if_true];by_cases h:i<0
   .simp only[h,if_true]<;>omega
   .simp only[h,if_false]<;>omega
theorem pC(its:List Value)(lo hi:Option Int):slicePick its.toArray lo hi none=((its.drop (HT.cW its.length 0 lo)).take (HT.cW its.length its.length hi-HT.cW its.length 0 lo)).toArray:=by obtain⟨h1,h2,h3⟩:=rn lo hi its.toArray.size;unfold slicePick;rw[h1,h2,h3];simp only[sliceRange_one,pick_run,UT]<;>rfl
def R6(K:UN):V->Option Int->Option Int->Hp->VK->Prop:=λx lo hi H Q=>∃a xs,x=.ref a/\g9 K H a xs/\∀p,H p=none->Q (.ref p) (upd H p (.lst (si xs lo hi)))
theorem Ib:i7 X (R6 X.K):=by intro pins s Y H x v E U lo hi sl Q I w P pl A h;obtain⟨a,xs,rfl,y,q⟩:=h;cases w;obtain⟨its,r,i,hz⟩:=I.list y;have N:=r.length;refine⟨"list",_,slot_list_getitem.lookup,i.isList.typeIs,?_⟩;refine wpAny_getItem_list_slice i.isList P pl A .none (by simp) ?_ (by rw[UT]<;>omega);rw[pC,<-N];refine⟨.ref s.heap.objs.size,_,I.laid (t':=s.toks) (o:=.lst (si xs lo hi)) (λb ob q=>UR _ q) (U2 _) ?_,rfl,q _ (I.hok.fresh (U2 _))⟩;exact⟨Vg (l6 xs lo hi) hz,_,0,(r.drop (HT.cW xs.length 0 lo)).take (HT.cW xs.length xs.length hi-HT.cW xs.length 0 lo),U6 _ rfl⟩
noncomputable def iT:V->Bool
 | .non=>true
 | .bl _=>true
 | .int _=>true
 | .str _=>true
 |_=>false
noncomputable def Hk:V->V->Bool
 | .non,.non=>true
 | .bl a,.bl b=>a==b
 | .bl a,.int b=>(if a then 1 else 0)==b
 | .int a,.bl b=>a==(if b then 1 else 0)
 | .int a,.int b=>a==b
 | .str a,.str b=>a==b
 |_,_=>false
theorem cy{A:Around}(z:RelV y u)(w:RelV x v)(X:iT y=true)(fx:iT x=true):Xv A s u v (Hk y x):=by
 cases y with
 |non=>
  cases z;cases x with
  |non=>cases w;exact Xv.same _
  |bl b=>cases w;exact Xv.none_bool b
  |int b=>obtain⟨t,rfl⟩:=w;exact Xv.none_int b t
  |str b=>obtain⟨t,rfl⟩:=w;exact Xv.none_str b t
  |_=>exact absurd (show false=true from fx) Vm
 |bl a=>
  cases z;cases x with
  |non=>cases w;exact Xv.bool_none a
  |bl b=>cases w;exact Xv.bool_bool a b
  |int b=>obtain⟨t,rfl⟩:=w;exact Xv.bool_int a b t
  |str b=>obtain⟨t,rfl⟩:=w;exact Xv.bool_str a b t
  |_=>exact absurd (show false=true from fx) Vm
 |int a=>
  obtain⟨t',rfl⟩:=z;cases x with
  |non=>cases w;exact Xv.int_none a t'
  |bl b=>cases w;exact Xv.int_bool a t' b
  |int b=>obtain⟨t,rfl⟩:=w;exact Xv.int_int a t' b t
  |str b=>obtain⟨t,rfl⟩:=w;exact YY a t' b t
  |_=>exact absurd (show false=true from fx) Vm
 |str a=>
  obtain⟨t',rfl⟩:=z;cases x with
  |non=>cases w;exact Xv.str_none a t'
  |bl b=>cases w;exact Xv.str_bool a t' b
  |int b=>obtain⟨t,rfl⟩:=w;exact YZ a t' b t
  |str b=>obtain⟨t,rfl⟩:=w;exact Xv.str_str a t' b t
  |_=>exact absurd (show false=true from fx) Vm
 |_=>exact absurd (show false=true from X) Vm
def vQ(x:V)(u:Value):Bool:=match u with
 | .none=>Hk .non x
 | .bool b=>Hk (.bl b) x
 | .int i _=>Hk (.int i) x
 | .str z _=>Hk (.str z) x
 |_=>false
theorem Ba(r:RelV y u)(f:iT y=true):vQ x u=Hk y x:=by
 cases y with
 |non=>cases r;rfl
 |bl b=>cases r;rfl
 |int i=>obtain⟨t,rfl⟩:=r;rfl
 |str z=>obtain⟨t,rfl⟩:=r;rfl
 |_=>exact absurd (show false=true from f) Vm
theorem kM{x:V}:∀{xs:List V}{us:List Value},Vals xs us->xs.all iT=true->us.any (vQ x)=xs.any λy=>Hk y x
 |_,_,.nil,_=>rfl
 |y::xs,u::us,.cons r t,f=>by rw[Vp,UO] at f;rw[WA,WA,Ba r f.1,kM t f.2]
theorem i6{A:Around}{s:Shared}{x:V}{v:Value}(b:RelV x v)(fx:iT x=true):∀{xs:List V}{us:List Value},Vals xs us->xs.all iT=true->∀u∈us,Xv A s u v (vQ x u)
 |_,_,.nil,_=>λu R=>by cases R
 |y::xs,u::us,.cons r t,f=>λY R=>by
  rw[Vp,UO] at f;rcases U5.mp R with rfl|R
  .rw[Ba r f.1];exact cy r b f.1 fx
  .exact i6 b fx t f.2 Y R
def JQ(x:V)(xs:List V):Bool:=xs.any λy=>Hk y x
def RW(K:UN)(neg:Bool):R2:=λx y H Q=>∃p xs,y=.ref p/\(g9 K H p xs\/iu K H p xs)/\iT x=true/\xs.all iT=true/\Q (.bl (if neg then !JQ x xs else JQ x xs)) H
theorem qo:eu X (compareOp .In) (RW X.K false):=by
 intro pins s Y H x y v u Q I b z h;obtain⟨p,xs,rfl,j,fx,fs,q⟩:=h;cases z;rcases j with j|j
 .obtain⟨its,r,pl,hz⟩:=I.list j;refine SeqAt.in_listAt (vQ x) pl.isList (λw m=>i6 b fx r fs w (by simpa using m)) ⟨.bl _,H,I,rfl,?_⟩;rw[show its.toArray.any (vQ x)=its.any (vQ x) by simp,kM r fs];exact q
 .obtain⟨its,r,pl,hz⟩:=I.tuple j;refine SeqAt.in_tupleAt (vQ x) pl (λw m=>i6 b fx r fs w (by simpa using m)) ⟨.bl _,H,I,rfl,?_⟩;rw[show its.toArray.any (vQ x)=its.any (vQ x) by simp,kM r fs];exact q
theorem k8:eu X (compareOp .NotIn) (RW X.K true):=by
 intro pins s Y H x y v u Q I b z h;obtain⟨p,xs,rfl,j,fx,fs,q⟩:=h;cases z;rcases j with j|j
 .obtain⟨its,r,pl,hz⟩:=I.list j;refine SeqAt.notIn_listAt (vQ x) pl.isList (λw m=>i6 b fx r fs w (by simpa using m)) ⟨.bl _,H,I,rfl,?_⟩;rw[show its.toArray.any (vQ x)=its.any (vQ x) by simp,kM r fs];exact q
 .obtain⟨its,r,pl,hz⟩:=I.tuple j;refine SeqAt.notIn_tupleAt (vQ x) pl (λw m=>i6 b fx r fs w (by simpa using m)) ⟨.bl _,H,I,rfl,?_⟩;rw[show its.toArray.any (vQ x)=its.any (vQ x) by simp,kM r fs];exact q
theorem qT:bF X (.type "list") (λxs H Q=>∃p ys,xs=[.ref p]/\(g9 X.K H p ys\/iu X.K H p ys)/\∀l,H l=none->Q (.ref l) (upd H l (.lst ys))):=by
 intro pins s Y H xs us Q I r h;obtain⟨p,ys,rfl,j,q⟩:=h;obtain⟨u,rfl,G⟩:=vals1 r;cases G;have fin:∀(its:List Value),Vals ys its->ys.length<=sizeLine->∀(h':Heap)(t:Nat),(∀b o',s.heap.get? b=some o'->h'.get? b=some o')->
   h'.get? s.heap.objs.size=some { cls:=.type "list",dict:=none,data:=.seq its.toArray t,slots:=#[] }->EP X pins Y Q (.ref s.heap.objs.size) { s with heap:=h' }:=λits r' hz h' t kp e=>
  ⟨.ref s.heap.objs.size,_,I.laid (t':=s.toks) kp (U2 _) (show ba X.prog X.w _ h' _ (.lst ys) from ⟨hz,its,t,r',e⟩),rfl,q _ (I.hok.fresh (U2 _))⟩
 rcases j with j|j
 .obtain⟨its,r',pl,hz⟩:=I.list j;have N:=r'.length;obtain⟨o,ho,hc,n,hd⟩:=pl.isList;exact call_list_seq p (.inl rfl) ho hc hd (λh' t kp e=>fin its r' hz h' t kp e) (by simp only[UT]<;>omega)
 .obtain⟨its,r',pl,hz⟩:=I.tuple j;have N:=r'.length;obtain⟨o,ho,hc,n,hd⟩:=pl;exact call_list_seq p (.inr rfl) ho hc hd (λh' t kp e=>fin its r' hz h' t kp e) (by simp only[UT]<;>omega)
theorem pA:bF X (.type "tuple") (λxs H Q=>∃p ys,xs=[.ref p]/\((g9 X.K H p ys/\∀l,H l=none->Q (.ref l) (upd H l (.tup ys)))\/(iu X.K H p ys/\Q (.ref p) H))):=by
 intro pins s Y H xs us Q I r h;obtain⟨p,ys,rfl,h⟩:=h;obtain⟨u,rfl,G⟩:=vals1 r;cases G;rcases h with ⟨j,q⟩|⟨j,q⟩
 .obtain⟨its,r',pl,hz⟩:=I.list j;have N:=r'.length;refine call_tuple_list pl.isList (λh' kp=>?_) (by simp only[UT]<;>omega);have g:Inv X pins Y H { s with heap:=h' }:=I.kept (t':=s.toks) kp;have m:Inv X pins Y (upd H h'.objs.size (.tup ys)) { s with heap:=h'.push { cls:=.type "tuple",data:=.seq its.toArray } }:=
   g.laid (t':=s.toks) (λb o e=>UR _ e) (U2 _) (show ba X.prog X.w _ _ _ (.tup ys) from ⟨hz,its,r',fg.new _ _⟩)
  exact⟨.ref h'.objs.size,_,m,rfl,q _ (g.hok.fresh (U2 _))⟩
 .obtain⟨its,r',pl,hz⟩:=I.tuple j;exact call_tuple_same pl ⟨.ref p,H,I,rfl,q⟩
def RY(K:UN)(T:String)(x:V)(H:Hp):Prop:=match x with
 | .str _=>T = "str"
 | .int _=>T = "int"
 | .ref p=>(T = "list" /\ ∃xs,g9 K H p xs)\/(T = "tuple" /\ ∃o,K.lookup p=some o/\o.cls=.type "tuple" /\ o.dict=none) \/
   (T = "dict" /\ ((∃kvs,H p=some (.dK kvs))\/∃kvs,H p=some (.dT kvs)))\/(T = "set" /\ ∃S n,H p=some (.set S n))
 |_=>False
theorem CM(I:Inv X pins Y H s)(r:RelV x v)(ty:RY X.K T x H):
  s.TypeIs v T/\∀a,v=.ref a->∃ob,s.heap.get? a=some ob/\ob.dict=none:=by
 cases x with
 |str z=>obtain⟨t,rfl⟩:=r;cases (show T = "str" from ty);exact⟨typeIs_str s z t,λ_ e=>nomatch e⟩
 |int i=>obtain⟨t,rfl⟩:=r;cases (show T = "int" from ty);exact⟨typeIs_int s i t,λ_ e=>nomatch e⟩
 |ref p=>
  cases r;rcases ty with ⟨rfl,xs,j⟩|⟨rfl,o,hk,hc,hd⟩|⟨rfl,hk⟩|⟨rfl,S,n,hk⟩
  .obtain⟨its,_,pl,_⟩:=I.list j;refine⟨pl.isList.typeIs,λa e=>?_⟩;cases e;obtain⟨o,n,e,c,hd,_⟩:=pl;exact⟨o,e,hd⟩
  .refine⟨⟨o,I.p7 p o hk,hc⟩,λa e=>?_⟩;cases e;exact⟨o,I.p7 _ o hk,hd⟩
  .have z:∃o,s.heap.get? p=some o/\o.ExactDict:=by
    rcases hk with ⟨kvs,hk⟩|⟨kvs,hk⟩
    .obtain⟨_,_,_,_,o,_,_,e,ex,_⟩:=I.hok p _ hk;exact⟨o,e,ex⟩
    .obtain⟨_,_,_,_,o,_,_,e,ex,_⟩:=I.hok p _ hk;exact⟨o,e,ex⟩
   obtain⟨o,e,ex⟩:=z;refine⟨⟨o,e,ex.1⟩,λa e2=>?_⟩;cases e2;exact⟨o,e,ex.2.1⟩
  .obtain⟨o,_,_,_,e,ex,_⟩:=I.hok p _ hk;refine⟨⟨o,e,ex.1⟩,λa e2=>?_⟩;cases e2;exact⟨o,e,ex.2.1⟩
 |_=>exact V4 ty
noncomputable def S0(K:UN)(T:String)(r:V->List V->Hp->VK->Prop)(to:TE):TE:=λY H Q=>to Y H λx e=>RY K T x e/\r x [] e Q
noncomputable def TK(K:UN)(T:String)(r:V->List V->Hp->VK->Prop)(to:TE)(t:TA):TE:=λY H Q=>to Y H λx e=>RY K T x e/\t Y e λxs c=>r x xs c Q
variable{o e:Expr}{es:List Expr}{to:TE}{t:TA}{name:Str}{apos cpos:Pos}{T id:String}{r:V->List V->Hp->VK->Prop}
theorem Dg(pa:PlainAttrs T)(slot:Slot T name id)(hty:typeOf (.builtin id)=pure (.type "method_descriptor"))(hm:R1 X id r)(ho:PE X o to)
  (hbase:attributeBase o name X.env (eval o X.env)=eval o X.env:=by rfl)(hline:(apos.endLine==cpos.line)=true:=by rfl):PE X (.Call (.Attribute o name apos) [] [] cpos) (S0 X.K T r to):=by
 intro pins s Y H Q I h;refine wpAny_Call_method0_late hbase hline (bf (ho pins s Y H _ I h) λv s1 ⟨x,H1,I1,r1,ty,q1⟩=>?_);obtain⟨h1,h2⟩:=CM I1 r1 ty;exact⟨T,id,pa,slot,hty,h1,h2,Xw rfl (Zw (hm pins s1 Y H1 x [] v [] Q I1 r1 .nil q1))⟩
theorem yG(pa:PlainAttrs T)(slot:Slot T name id)(hty:typeOf (.builtin id)=pure (.type "method_descriptor"))(hm:R1 X id r)(ho:PE X o to)(ha:PA X (e::es) t)
  (hbase:attributeBase o name X.env (eval o X.env)=eval o X.env:=by rfl)
  (hfew:((backTo cpos (starEach (e::es) X.env)).all (λx=>!x.1)&&(backToKw cpos (keywordEach [] X.env)).all (λx=>x.1.isSome)
   && decide ((e::es).length+([]:List Keyword).length+(if ([]:List Keyword).isEmpty then 0 else 1)<30))=true:=by rfl)
  (hline:(apos.endLine==cpos.line)=true:=by rfl) (hs:starEach (e::es) X.env=(false,eval e X.env)::starEach es X.env:=by rfl) (hplain:(backTo cpos (starEach es X.env)).any (·.1)=false:=by rfl):
  PE X (.Call (.Attribute o name apos) (e::es) [] cpos) (TK X.K T r to t):=by
 intro pins s Y H Q I h;refine wpAny_Call_method_late hbase hfew hline rfl (bf (ho pins s Y H _ I h) λv s1 ⟨x,H1,I1,r1,ty,q1⟩=>?_);obtain⟨h1,h2⟩:=CM I1 r1 ty;refine⟨T,id,pa,slot,hty,h1,h2,?_⟩;have hA:=ha cpos pins s1 Y H1 _ I1 q1;rw[hs] at hA ⊢;refine Xw (by show (false || (backTo cpos (starEach es X.env)).any (·.1))=false;rw[hplain]<;>rfl) (XN ?_);exact bf hA λus s2 ⟨vs,H2,I2,r2,q2⟩=>hm pins s2 Y H2 x vs v us Q I2 r1 r2 q2
end
def Rk(X:Cx)(id:String)(r:V->List V->Hp->VK->Prop):Prop:=
 ∀(pins:List (Addr×Obj))(s:Shared)(Y:St)(H:Hp)(x:V)(xs:List V)(v:Value)(us:List Value)(Q:VK),Inv X pins Y H s->RelV x v->Vals xs us->r x xs H Q->
  wpAny (model X.prog X.w) X.A (call (.builtin id) (v::us)) (EP X pins Y Q) X.xe s
theorem Vals.one:∀{x:V}{us:List Value},Vals [x] us->∃u,us=[u]/\RelV x u
 |_,_,.cons r .nil=>⟨_,rfl,r⟩
theorem Vals.zero:∀{us:List Value},Vals [] us->us=[]
 |_,.nil=>rfl
theorem Vals.dropLast{xs:List V}{us:List Value}(h:Vals xs us):Vals xs.dropLast us.dropLast:=by
 induction h with
 |nil=>exact .nil
 |cons r t j=>
  cases t with
  |nil=>exact .nil
  |cons q t'=>exact .cons r j
theorem wo(l:List α):l.eraseIdx (l.length-1)=l.dropLast:=by
 induction l with
 |nil=>rfl
 |cons a r j=>
  cases r with
  |nil=>rfl
  |cons b r=>
   have e:(a::b::r).length-1=((b::r).length-1)+1:=by have h1:(a::b::r).length=r.length+2:=rfl;have h2:(b::r).length=r.length+1:=rfl;omega
   rw[e,List.eraseIdx_cons_succ,j]
   all_goals rfl
variable{t':Nat}
section
variable{X:Cx}{pins:List (Addr×Obj)}{Y:St}{H:Hp}{s:Shared}{l b:Addr}{xs ys zs:List V}
theorem Inv.Gi{n:Nat}{f:Array Value->Array Value}(I:Inv X pins Y H s)(h:H l=some (.lst xs))
  (e:s.heap.get? l=some { cls:=.type "list",data:=.seq its.toArray n })(hf:f its.toArray=its'.toArray)(c:Vals ys its')(hz:ys.length<=sizeLine):
  Inv X pins Y (upd H l (.lst ys)) { s with heap:=s.heap.update l (VL f),toks:=t' }:=by
 have q:=PySem.IsL.update e f;rw[hf] at q;refine I.write (x:=l) (e:=l) (by rw[h];exact trivial) (.inl rfl) (λQ u d R=>(Zc s.heap (VL f) (VY d)).trans R) ⟨_,q⟩ ?_;exact⟨hz,its',_,c,q⟩
theorem Inv.Sx(I:Inv X pins Y H s)(c:Vals ys its)(hz:ys.length<=sizeLine):
  Inv X pins Y (upd H s.heap.objs.size (.lst ys)) { s with heap:=s.heap.push { cls:=.type "list",data:=.seq its.toArray },toks:=t' }:=
 I.laid (λ_ _ q=>UR _ q) (U2 _) ⟨hz,its,0,c,U6 _ rfl⟩
theorem Inv.fresh(I:Inv X pins Y H s):H s.heap.objs.size=none:=I.hok.fresh (U2 _)
theorem Inv.Hj(I:Inv X pins Y H s)(h:H l=some (.lst xs)):xs.length<=sizeLine/\∃(its:List Value)(n:Nat),Vals xs its/\xs.length=its.length/\s.heap.get? l=some { cls:=.type "list",data:=.seq its.toArray n }:=by obtain⟨z,its,n,r,e⟩:=I.hok l _ h;exact⟨z,its,n,r,r.length,e⟩
theorem Ee{n:Nat}(h:n<=sizeLine):Wu n=false:=by unfold Wu;exact decide_eq_false (by omega)
end
section
variable{X:Cx}
def GI:V->List V->Hp->VK->Prop:=λx vs H Q=>∃l xs y,x=.ref l/\vs=[y]/\H l=some (.lst xs)/\xs.length<sizeLine/\Q .non (upd H l (.lst (xs++[y])))
theorem zR:Rk X "list.append" GI:=by intro pins s Y H x vs v us Q I b t h;obtain⟨l,xs,y,rfl,rfl,B,hz,q⟩:=h;cases b;obtain⟨u,rfl,J⟩:=t.one;obtain⟨z,its,n,r,hl,e⟩:=I.Hj B;refine call_meets F.slot_list_append ⟨_,e,rfl⟩ F.entry_list_append (F.args_list_append_2 _ _) (PySem.list_append l its.toArray n u (by rw[UT];omega)) ⟨e,?_⟩;refine⟨.non,_,I.Gi (its':=its++[u]) B e (by simp) (r.append (.cons J .nil)) ?_,rfl,q⟩;rw[UY,VN];omega
def SM:V->List V->Hp->VK->Prop:=λx vs H Q=>∃l xs y,x=.ref l/\vs=[]/\H l=some (.lst xs)/\xs[xs.length-1]?=some y/\Q y (upd H l (.lst xs.dropLast))
theorem Mv:Rk X "list.pop" SM:=by
 intro pins s Y H x vs v us Q I b t h;obtain⟨l,xs,y,rfl,rfl,B,S,q⟩:=h;cases b;have K:=t.zero;subst K;obtain⟨z,its,n,r,hl,e⟩:=I.Hj B;obtain⟨u,f,J⟩:=r.get S;have O:its.toArray[its.toArray.size-1]?=some u:=by show its.toArray[its.length-1]?=some u;rw[<-WS,<-hl];exact f
 refine call_meets F.slot_list_pop ⟨_,e,rfl⟩ F.entry_list_pop (F.args_list_pop_1 _) (MeetsSeq.list_pop_last l its.toArray n u O (by rw[UT];omega)) ⟨e,?_⟩;refine⟨y,_,I.Gi (its':=its.dropLast) B e ?_ r.dropLast ?_,J,q⟩
 .show its.toArray.eraseIdxIfInBounds (its.toArray.size-1)=its.dropLast.toArray;rw[UT,List.eraseIdxIfInBounds_toArray,wo]
 .rw[List.length_dropLast];omega
def LK:V->List V->Hp->VK->Prop:=λx vs H Q=>∃l xs,x=.ref l/\vs=[]/\H l=some (.lst xs)/\Q .non (upd H l (.lst []))
theorem Dx:Rk X "list.clear" LK:=by intro pins s Y H x vs v us Q I b t h;obtain⟨l,xs,rfl,rfl,B,q⟩:=h;cases b;have K:=t.zero;subst K;obtain⟨z,its,n,r,hl,e⟩:=I.Hj B;refine call_meets F.slot_list_clear ⟨_,e,rfl⟩ F.entry_list_clear (F.args_list_clear_1 _) (AutoSeq1.list_clear_list_0 l its.toArray n (by rw[UT];omega)) ⟨e,?_⟩;exact⟨.non,_,I.Gi (its':=[]) (ys:=[]) B e rfl .nil (VM _),rfl,q⟩
end
section
variable{prog:Program}{w:World}{A:Around}{E:Value->Shared->Prop}{s:Shared}
set_option maxRecDepth 100000 in
end
variable{o:Option V}
section
variable{κ:Type}[DecidableEq κ]
noncomputable def jE(kvs:List (κ×V))(k:κ):Option V:=(kvs.find? λs=>decide (s.1=k)).map (·.2)
noncomputable def putK(kvs:List (κ×V))(k:κ)(v:V):List (κ×V):=
 if (kvs.any λs=>decide (s.1=k))=true then kvs.map (λs=>if s.1=k then (s.1,v) else s) else kvs++[(k,v)]
theorem oR{p:κ×V}{r:List (κ×V)}{k:κ}(e:p.1=k):jE (p::r) k=some p.2:=by simp[jE,VB,e]
theorem oQ{p:κ×V}{r:List (κ×V)}{k:κ}(e:¬ p.1=k):jE (p::r) k=jE r k:=by simp[jE,VB,e]
theorem uw(k:κ):∀kvs:List (κ×V),(kvs.any λs=>decide (s.1=k))=(jE kvs k).isSome
 |[]=>rfl
 |p::r=>by
  rw[WA];by_cases e:p.1=k
  .simp only[oR e,decide_eq_true e,Bool.true_or,Option.isSome_some]
  .rw[oQ e,decide_eq_false e,Bool.false_or];exact uw k r
theorem iE(kvs:List (κ×V))(k:κ)(v:V):(putK kvs k v).length<=kvs.length+1:=by
 unfold putK;split
 .rw[UP];omega
 .rw[UY,US,Wm];omega
theorem gq.fY{u:Option Value}(r:gq o u):o.isSome=u.isSome:=by
 cases o with
 |none=>cases u with
  |none=>rfl
  |some _=>exact(show False from r).elim
 |some _=>cases u with
  |none=>exact(show False from r).elim
  |some _=>rfl
theorem gq.getD{o:Option V}{u:Option Value}{d:V}{d':Value}(r:gq o u)(rd:RelV d d'):RelV (o.getD d) (u.getD d'):=by
 cases o with
 |none=>cases u with
  |none=>exact rd
  |some _=>exact(show False from r).elim
 |some _=>cases u with
  |none=>exact(show False from r).elim
  |some _=>exact r
theorem KV.val{kvs:List (κ×V)}{vs:List (κ×Value)}(r:KV kvs vs)(k:κ):gq (jE kvs k) (valueAt vs k):=by
 unfold KV at r;induction r with
 |nil=>exact WD
 |@cons p q ps X h t j=>
  obtain⟨h1,h2⟩:=h;by_cases e:p.1=k
  .have f:q.1=k:=h1.symm.trans e;have b:valueAt (q::X) k=some q.2:=by simp[valueAt,VB,f]
   rw[oR e,b];exact h2
  .have f:¬ q.1=k:=λz=>e (h1.trans z);have b:valueAt (q::X) k=valueAt X k:=by simp[valueAt,VB,f]
   rw[oQ e,b];exact j
theorem KV.any{kvs:List (κ×V)}{vs:List (κ×Value)}(r:KV kvs vs)(k:κ):(kvs.any λs=>decide (s.1=k))=vs.any λs=>decide (s.1=k):=by
 unfold KV at r;induction r with
 |nil=>rfl
 |cons h t j=>rw[WA,WA,j,h.1]
theorem KV.ML{kvs:List (κ×V)}{vs:List (κ×Value)}(r:KV kvs vs)(k:κ)(U:RelV y u):
  KV (kvs.map λs=>if s.1=k then (s.1,y) else s) (vs.map λs=>if s.1=k then (s.1,u) else s):=by
 unfold KV at r ⊢;induction r with
 |nil=>exact .nil
 |@cons p q ps X h t j=>
  rw[U3,U3];refine .cons ?_ j;obtain⟨h1,h2⟩:=h;by_cases e:p.1=k
  .rw[if_pos e,if_pos (h1.symm.trans e)];exact⟨h1,U⟩
  .rw[if_neg e,if_neg (λz=>e (h1.trans z))];exact⟨h1,h2⟩
theorem KV.put{kvs:List (κ×V)}{vs:List (κ×Value)}(r:KV kvs vs)(k:κ)(z:RelV y u):KV (putK kvs k y) (stored vs k u):=by
 unfold putK stored;rw[r.any k];by_cases e:(vs.any λs=>decide (s.1=k))=true
 .rw[if_pos e,if_pos e];exact r.ML k z
 .rw[if_neg e,if_neg e];exact zao r ⟨rfl,z⟩
theorem KV.keys{kvs:List (κ×V)}{vs:List (κ×Value)}(r:KV kvs vs):kvs.map (·.1)=vs.map (·.1):=by
 unfold KV at r;induction r with
 |nil=>rfl
 |cons h t j=>rw[U3,U3,j,h.1]
theorem KV.length{kvs:List (κ×V)}{vs:List (κ×Value)}(r:KV kvs vs):kvs.length=vs.length:=YK r
end
variable{P:Program}{w:World}
theorem l9{k:Key}(r:RelV (kV k) u):(aJ P w).is k u=true:=by
 cases k with
 |inl i=>obtain⟨t,e⟩:=(show ∃t,u=YX i t from r);subst e;exact uQ P w i t
 |inr x=>obtain⟨t,e⟩:=(show ∃t,u=XO x t from r);subst e;exact sL P w x t
theorem qd{P:Program}{w:World}:∀{q:List Key}{us:List Value},Vals (q.map kV) us->ItemsAre (aJ P w) q us
 |[],_,r=>by rw[V8] at r;cases r;exact .nil
 |k::q,_,r=>by
  rw[U3] at r;cases r with
  |cons h t=>exact .cons (l9 h) (qd t)
abbrev KT(H:Hp):List (List Key×V)->List (List Key×Addr×Value)->Prop:=Paired λp q=>p.1=q.1/\H q.2.1=some (.tup (p.1.map kV))/\RelV p.2 q.2.2
variable{kvs:List (List Key×V)}{xs:List (List Key×Addr×Value)}
theorem KT.val(r:KT H kvs xs)(k:List Key):gq (jE kvs k) ((atKey xs k).map (·.2)):=by
 induction r with
 |nil=>exact WD
 |@cons p q ps X h t j=>
  obtain⟨h1,_,h2⟩:=h;by_cases e:p.1=k
  .have f:q.1=k:=h1.symm.trans e;have b:atKey (q::X) k=some q.2:=by simp[atKey,VB,f]
   rw[oR e,b];exact h2
  .have f:¬ q.1=k:=λz=>e (h1.trans z);have b:atKey (q::X) k=atKey X k:=by simp[atKey,VB,f]
   rw[oQ e,b];exact j
theorem KT.ML(r:KT H kvs xs)(k:List Key)(U:RelV y u):
  KT H (kvs.map λs=>if s.1=k then (s.1,y) else s) (xs.map (putAt k u)):=by
 induction r with
 |nil=>exact .nil
 |@cons p q ps X h t j=>
  rw[U3,U3];refine .cons ?_ j;obtain⟨h1,h2,h3⟩:=h;unfold putAt;by_cases e:p.1=k
  .rw[if_pos e,if_pos (h1.symm.trans e)];exact⟨h1,h2,U⟩
  .rw[if_neg e,if_neg (λz=>e (h1.trans z))];exact⟨h1,h2,h3⟩
theorem KT.put(r:KT H kvs xs)(k:List Key){b:Addr}(d:H b=some (.tup (k.map kV)))(z:RelV y u):
  KT H (putK kvs k y) (storedH xs k b u):=by
 have e:(kvs.any λs=>decide (s.1=k))=(atKey xs k).isSome:=by rw[uw,(r.val k).fY,Yd]
 unfold putK storedH;rw[e];by_cases q:(atKey xs k).isSome=true
 .rw[if_pos q,if_pos q];exact r.ML k z
 .rw[if_neg q,if_neg q];exact zao r ⟨rfl,d,z⟩
variable{H':Hp}
theorem KT.keeps(r:KT H kvs xs)(i:∀b ys,H b=some (.tup ys)->H' b=some (.tup ys)):KT H' kvs xs:=
 Paired.LI r λ_ _ z=>⟨z.1,i _ _ z.2.1,z.2.2⟩
section
variable{P:Program}{w:World}{H:Hp}{h:Heap}{a:Addr}
theorem Jx{u:HO}(ok:jt P w H h)(e:Rd H a u):ba P w H h a u:=e.ok ok
theorem dS{kvs:List (Key×V)}(ok:jt P w H h)(e:Rd H a (.dK kvs)):kvs.length<=sizeLine/\(a==sysModules)=false/\∃vs,KV kvs vs/\h.DictOf (aJ P w) a vs:=
 show ba P w H h a (.dK kvs) from Jx ok e
theorem tT{kvs:List (Key×V)}(ok:jt P w H h)(e:H a=some (.dK kvs)):kvs.length<=sizeLine/\(a==sysModules)=false/\∃vs,KV kvs vs/\h.DictOf (aJ P w) a vs:=dS ok (.inl e)
theorem lD{q:List Key}(ok:jt P w H h)(e:H a=some (.tup (q.map kV))):(tupleKind (aJ P w)).is h q a:=by
 obtain⟨_,its,r,o,h1,h2,n,h3,_⟩:=(show ba P w H h a (.tup (q.map kV)) from ok a _ e)
 exact⟨o,its.toArray,n,h1,h2,h3,by simpa using qd r⟩
theorem oS(ok:jt P w H h)(e:Rd H a (.dT kvs)):kvs.length<=sizeLine/\(a==sysModules)=false /\
  ∃xs,KT H kvs xs/\h.DictOfH (tupleKind (aJ P w)) a xs:=by
 obtain⟨z,y,xs,r,o,es,ep,h1,h2,h3,h4,h5⟩:=(show ba P w H h a (.dT kvs) from Jx ok e)
 refine⟨z,y,xs,r,o,es,ep,h1,h2,h3,h4,λx k=>?_,h5⟩;have all:∀{l:List (List Key×V)}{m:List (List Key×Addr×Value)},KT H l m->∀x∈m,(tupleKind (aJ P w)).is h x.1 x.2.1:=by
  intro l m q;induction q with
  |nil=>intro x k;exact nomatch k
  |@cons p q ps X j t Y=>
   intro x k;rcases U5.mp k with e|k
   .subst e;exact lD ok (by rw[<-j.1];exact j.2.1)
   .exact Y x k
 exact all r x k
theorem OL(ok:jt P w H h)(e:H a=some (.dT kvs)):kvs.length<=sizeLine/\(a==sysModules)=false /\
  ∃xs,KT H kvs xs/\h.DictOfH (tupleKind (aJ P w)) a xs:=oS ok (.inl e)
end
def iF(H:Hp)(a:Addr)(y:V)(r:Option V):Prop:=
 (∃kvs k,Rd H a (.dK kvs)/\y=kV k/\r=jE kvs k)\/∃kvs k b,Rd H a (.dT kvs)/\y=.ref b/\H b=some (.tup (k.map kV))/\r=jE kvs k
def Qx(H:Hp)(a:Addr)(y v:V)(H':Hp):Prop:=
 (∃kvs k,H a=some (.dK kvs)/\y=kV k/\kvs.length<sizeLine/\H'=upd H a (.dK (putK kvs k v))) \/
 ∃kvs k b,H a=some (.dT kvs)/\y=.ref b/\H b=some (.tup (k.map kV))/\kvs.length<sizeLine/\H'=upd H a (.dT (putK kvs k v))
variable{Q:Value->Shared->Prop}{h':Heap}
section
variable{X:Cx}{pins:List (Addr×Obj)}{Y:St}{H:Hp}{s:Shared}{a:Addr}{y v:V}{u r:Value}{o:Option V}{A:Around}{E:Value->Shared->Prop}
theorem Inv.big(I:Inv X pins Y H s):sysModules<s.heap.objs.size:=by have h:mainGlobals<s.heap.objs.size:=(I.mod.glob.keeps I.bk).lt;exact Nat.lt_trans (by decide) h
theorem zZ(f:A.units+1<cLine)(I:Inv X pins Y H s)(g:iF H a y (some v))(U:RelV y u)(h:∀r s',Inv X pins Y H s'->RelV v r->Q r s'):
  wpAny (model X.prog X.w) A (getItem (.ref a) u) Q E s:=by
 rcases g with ⟨kvs,k,e,x,l⟩|⟨kvs,k,b,e,x,T,l⟩
 .subst x;obtain⟨z,hd,vs,rel,dd⟩:=dS I.hok e;obtain⟨r,m,L⟩:=gq.some_of (v:=v) (o:=valueAt vs k) (by rw[l];exact rel.val k);exact wpAny_getItem_of (l9 U) dd.mapOf m (h r _ (I.tok _) L)
 .subst x;cases (show u=Vq b from U);obtain⟨z,hd,xs,rel,dd⟩:=oS I.hok e;obtain⟨r,m,L⟩:=gq.some_of (v:=v) (o:=(atKey xs k).map (·.2)) (by rw[l];exact rel.val k);obtain⟨p,hp,F⟩:=Y2.mp m;refine wpAny_getItem_heap (tupleKind_room_in1 f) (lD I.hok T) dd hp ?_;rw[F];exact h r _ (I.tok _) L
theorem SV(f:A.units+1<cLine)(I:Inv X pins Y H s)(g:iF H a y o)(U:RelV y u)(h:∀s',Inv X pins Y H s'->Q (.bool o.isSome) s'):
  wpAny (model X.prog X.w) A (compareOp .In u (.ref a)) Q E s:=by
 rcases g with ⟨kvs,k,e,x,l⟩|⟨kvs,k,b,e,x,T,l⟩
 .subst x;obtain⟨z,hd,vs,rel,dd⟩:=dS I.hok e;refine wpAny_in_of (l9 U) hd dd.mapOf ?_;rw[<-(rel.val k).fY,<-l];exact h _ (I.tok _)
 .subst x;cases (show u=Vq b from U);obtain⟨z,hd,xs,rel,dd⟩:=oS I.hok e;refine wpAny_in_heap (tupleKind_room_in1 f) (lD I.hok T) hd dd ?_;have q:=(rel.val k).fY;rw[Yd] at q;rw[<-q,<-l];exact h _ (I.tok _)
theorem FJ(f:A.units+1<cLine)(I:Inv X pins Y H s)(g:iF H a y o)(U:RelV y u)(h:∀s',Inv X pins Y H s'->Q (.bool (!o.isSome)) s'):
  wpAny (model X.prog X.w) A (compareOp .NotIn u (.ref a)) Q E s:=by
 rcases g with ⟨kvs,k,e,x,l⟩|⟨kvs,k,b,e,x,T,l⟩
 .subst x;obtain⟨z,hd,vs,rel,dd⟩:=dS I.hok e;refine wpAny_notIn_of (l9 U) hd dd.mapOf ?_;rw[<-(rel.val k).fY,<-l];exact h _ (I.tok _)
 .subst x;cases (show u=Vq b from U);obtain⟨z,hd,xs,rel,dd⟩:=oS I.hok e;refine wpAny_notIn_heap (tupleKind_room_in1 f) (lD I.hok T) hd dd ?_;have q:=(rel.val k).fY;rw[Yd] at q;rw[<-q,<-l];exact h _ (I.tok _)
theorem mO{ob:HO}(I:Inv X pins Y H s)(mu:RF (H a))(P:Xz a s.heap h')(he:∃q,h'.get? a=some q)(new:ba X.prog X.w (upd H a ob) h' a ob):
  Inv X pins Y (upd H a ob) { s with heap:=h',toks:=t' }:=
 I.write (x:=a) (e:=a) mu (.inl rfl) (λb q d z=>(P.2 b d).trans z) he new
theorem oo{kvs:List (Key×V)}{vs:List (Key×Value)}(z:kvs.length<=sizeLine)(hd:(a==sysModules)=false)(rel:KV kvs vs)(dd:h'.DictOf (aJ P w) a vs):
  ba P w H' h' a (.dK kvs):=⟨z,hd,vs,rel,dd⟩
theorem zY{Q:Unit->Shared->Prop}(f:A.units+1<cLine)(I:Inv X pins Y H s)(g:Qx H a y v H')(U:RelV y u)(t:RelV v r)(h:∀s',Inv X pins Y H' s'->Q () s'):
  wpAny (model X.prog X.w) A (setItem (.ref a) u r) Q E s:=by
 rcases g with ⟨kvs,k,e,x,l,Z⟩|⟨kvs,k,b,e,x,T,l,Z⟩
 .subst x Z;obtain⟨z,hd,vs,rel,dd⟩:=tT I.hok e;have hz:vs.length<=sizeLine:=by rw[<-rel.length];exact z
  have hl:(putK kvs k v).length<=sizeLine:=by have:=iE kvs k v;omega
  refine wpAny_setItem_pairs (hsz:=hz) (l9 U) dd λh' V P=>h _ ?_;have he:∃q,h'.get? a=some q:=let ⟨q,_,_,j,_⟩:=V;⟨q,j⟩
  exact mO I (by rw[e];exact WD) P he (oo hl hd (rel.put k t) V)
 .subst x Z;cases (show u=Vq b from U);obtain⟨z,hd,xs,rel,dd⟩:=OL I.hok e;have hz:xs.length<=sizeLine:=by rw[<-YK rel];exact z
  have hl:(putK kvs k v).length<=sizeLine:=by have:=iE kvs k v;omega
  refine wpAny_setItem_heap (hsz:=hz) (tupleKind_room_in1 f) (lD I.hok T) dd λh' V P=>h _ ?_;obtain⟨q,es,ep,j,h2,h3,h4,_,h5⟩:=V;refine mO I (by rw[e];exact WD) P ⟨q,j⟩ ⟨hl,hd,_,(rel.put k T t).keeps λc ys o=>?_,q,es,ep,j,h2,h3,h4,h5⟩;rw[au (PL o e (λz=>nomatch z))];exact o
end
def Bs(i:Expr):Prop:=∀E y,subscripted i false E y=operate [E,y] (getItem E y)
variable{pos:Pos}
theorem Hm{prog:Program}{A:Around}{E:Value->Shared->Prop}{env:Env}{value slice:Expr}{id:String}
  (hl:typeLookup (.type T) "__getitem__" = pure (some (.builtin id)))(P:Bs slice)
  (h:wpAny (model prog w) A (eval value env) (λo Z=>wpAny (model prog w) A (eval slice env) (λi U=>U.TypeIs o T/\wpAny (model prog w) A (getItem o i) Q E U) E Z) E s):
  wpAny (model prog w) A (eval (.Subscript value slice pos) env) Q E s:=by
 refine Subscript_ (wpAny_mono h (λo Z h₁=>wpAny_mono h₁ (λi U v=>?_) λ_ _ x=>x) λ_ _ x=>x);obtain⟨p,v⟩:=v;unfold subscriptTail;refine wpAny_bind ?_;rw[getitemInPython_of_ne p.not_modules];refine wpAny_bind (wpAny_specialOf p hl ?_);have fin:wpAny (model prog w) A (subscripted slice false o i) (λr V=>wpAny (model prog w) A (letTemporaryGo value o r >>= λ_=>pure r) Q E V) E U:=by rw[P o i];exact wpAny_operating (wpAny_mono v (λr V H=>wpAny_bind (wpAny_letTemporaryGo (wpAny_pure H))) λ_ _ x=>x)
 first
  |exact wpAny_pure (wpAny_bind fin)
  |exact wpAny_bind (wpAny_pure (wpAny_bind fin))
  |exact wpAny_bind fin
variable{X:Cx}
theorem sO{a:Addr}(I:Inv X pins Y H s)(g:iF H a y o):s.TypeIs (.ref a) "dict" := by
 rcases g with ⟨kvs,k,e,_,_⟩|⟨kvs,k,b,e,_,_,_⟩
 .obtain⟨_,_,vs,_,dd⟩:=dS I.hok e;exact dd.typeIs
 .obtain⟨_,_,xs,_,dd⟩:=oS I.hok e;exact dd.typeIs
noncomputable def PZ(I ty:TE):TE:=λY H Q=>I Y H λx e=>ty Y e λy c=>∃a v,x=.ref a/\iF c a y (some v)/\Q v c
noncomputable def Tq(ty I:TE):TE:=λY H Q=>ty Y H λy e=>I Y e λx c=>∃a o,x=.ref a/\iF c a y o/\Q (.bl o.isSome) c
noncomputable def GX(ty I:TE):TE:=λY H Q=>ty Y H λy e=>I Y e λx c=>∃a o,x=.ref a/\iF c a y o/\Q (.bl (!o.isSome)) c
noncomputable def Q0(I ty h:TE):TS:=λD Y H=>h Y H λv e=>I Y e λx c=>ty Y c λy C=>∃a X,x=.ref a/\Qx C a y v X/\D.nx Y X
section
variable{X:Cx}{o i e value:Expr}{pos pos' tpos:Pos}{td ty tv:TE}
theorem HH(f:X.A.units+1<cLine)(ho:PE X o td)(hi:PE X i ty)(P:Bs i):PE X (.Subscript o i pos) (PZ td ty):=by intro pins s Y H Q I h;refine Hm PySem.F.slot_dict_getitem.lookup P (bf (ho pins s Y H _ I h) λu s1 ⟨x,e,l,b,k⟩=>bf (hi pins s1 Y e _ l k) λq s2 ⟨y,c,m,z,a,v,ex,g,p⟩=>?_);subst ex;obtain rfl:u=Vq a:=b;exact⟨sO m g,zZ f m g z λr K G L=>⟨v,c,G,L,p⟩⟩
theorem C8(f:X.A.units+1<cLine)(hi:PE X i ty)(ho:PE X o td):PC X .In i o (Tq ty td):=by intro pins s Y H Q I h;refine bf (hi pins s Y H _ I h) λq s1 ⟨y,e,l,z,k⟩=>bf (ho pins s1 Y e _ l k) λu s2 ⟨x,c,m,b,a,E,ex,g,p⟩=>?_;subst ex;obtain rfl:u=Vq a:=b;exact SV f m g z λK F=>⟨.bl E.isSome,c,F,rfl,p⟩
theorem qp(f:X.A.units+1<cLine)(hi:PE X i ty)(ho:PE X o td):PC X .NotIn i o (GX ty td):=by intro pins s Y H Q I h;refine bf (hi pins s Y H _ I h) λq s1 ⟨y,e,l,z,k⟩=>bf (ho pins s1 Y e _ l k) λu s2 ⟨x,c,m,b,a,E,ex,g,p⟩=>?_;subst ex;obtain rfl:u=Vq a:=b;exact FJ f m g z λK F=>⟨.bl (!E.isSome),c,F,rfl,p⟩
theorem Hq(f:X.A.units+1<cLine)(ho:PE X o td)(hi:PE X i ty)(c:PE X value tv)(P:swapsWith value (some (.Subscript o i pos')) pos.line X.env=pure false):
  PS X (.Assign [.Subscript o i pos'] value pos) (Q0 td ty tv):=by
 intro pins s Y H D I h;refine wpAny_Assign_Subscript (bf (c pins s Y H _ I h) λr s1 ⟨v,e,l,t,k⟩=>bf (ho pins s1 Y e _ l k) λu s2 ⟨x,p,m,b,Q⟩=>bf (hi pins s2 Y p _ m Q) λq K ⟨y,C,F,z,a,O,ex,g,S⟩=>?_) P;subst ex;obtain rfl:u=Vq a:=b;exact zY f F g z t λZ V=>⟨Y,O,V,S⟩
end
theorem uE(h:Heap)(d:sysModules<h.objs.size):ba P w H (h.push { cls:=.type "dict",data:=.dict #[] }) h.objs.size (.dK []):=
 ⟨VM _,beq_eq_false_iff_ne.mpr (VY (Vi d)),[],.nil,Zd h⟩
def KL:TE:=λ_ H Q=>∀p,H p=none->Q (.ref p) (upd H p (.dK []))
section
variable{X:Cx}{pos:Pos}
theorem Dp:PE X (.Dict [] [] pos) KL:=λpins s Y H Q I h=>wpAny_Dict_empty ⟨.ref s.heap.objs.size,_,I.laid (a:=s.heap.objs.size) (o:=.dK []) (t':=s.toks) (λ_ _ q=>UR _ q) (U2 _) (uE s.heap I.big),rfl,h _ (I.hok.fresh (U2 _))⟩
end
def vg:List (TE×TE)->St->Hp->(List (V×V)->Hp->Prop)->Prop
 |[],_,H,Q=>Q [] H
 |(tk,tv)::r,Y,H,Q=>tk Y H λx e=>tv Y e λy c=>vg r Y c λps C=>Q ((x,y)::ps) C
abbrev VV:List (V×V)->List (Value×Value)->Prop:=Paired λp q=>RelV p.1 q.1/\RelV p.2 q.2
def RM(X:Cx)(pos:Pos)(keys:List (Option Expr))(a:List Expr)(v:List (TE×TE)):Prop:=
 ∀(pins:List (Addr×Obj))(s:Shared)(Y:St)(H:Hp)(Q:List (V×V)->Hp->Prop),Inv X pins Y H s->vg v Y H Q->
  wpAny (model X.prog X.w) X.A (evalPairs (pairTrees keys a X.env pos)) (λvs s'=>∃ps H',Inv X pins Y H' s'/\VV ps vs/\Q ps H') X.xe s
theorem FZ:RM X pos [] [] []:=λpins s Y H Q I h=>pairTrees_nil_walk ⟨[],H,I,.nil,h⟩
variable{trs:List (TE×TE)}
theorem Dv{k v:Expr}{q:List (Option Expr)}{vs:List Expr}{tk A:TE}(hk:PE X k tk)(c:PE X v A)(l:RM X pos q vs trs):
  RM X pos (some k::q) (v::vs) ((tk,A)::trs):=λpins s Y H Q I h=>
 pairTrees_cons_walk (bf (hk pins s Y H _ I h) λu s1 ⟨x,e,g,b,V⟩=>bf (c pins s1 Y e _ g V) λD s2 ⟨y,p,m,z,o⟩=>bf (l pins s2 Y p _ m o) λws K ⟨ps,C,F,rel,O⟩=>⟨(x,y)::ps,C,F,.cons ⟨b,z⟩ rel,O⟩)
def eD(kvs more:List (Key×V)):List (Key×V):=more.foldl (λacc s=>putK acc s.1 s.2) kvs
theorem KV.merge:∀{more:List (Key×V)}{rs:List (Key×Value)}{kvs:List (Key×V)}{vs:List (Key×Value)},KV more rs->KV kvs vs->KV (eD kvs more) (merged vs rs):=by
 intro more rs kvs vs r;unfold KV at r;induction r generalizing kvs vs with
 |nil=>intro q;exact q
 |@cons p q ps X h t j=>
  intro Y;have e:KV (putK kvs p.1 p.2) (stored vs q.1 q.2):=by have:=Y.put p.1 h.2;rw[<-h.1];exact this
  exact j e
theorem dR:∀(more kvs:List (Key×V)),(eD kvs more).length<=kvs.length+more.length
 |[],kvs=>by show kvs.length<=kvs.length+0;omega
 |p::r,kvs=>by have h1:=dR r (putK kvs p.1 p.2);have h2:=iE kvs p.1 p.2;show (eD (putK kvs p.1 p.2) r).length<=_;rw[US];omega
theorem ot{P:Program}{w:World}:∀{kvs:List (Key×V)}{ws:List (Value×Value)},VV (kvs.map λs=>(kV s.1,s.2)) ws->∃rs,Carries (aJ P w) ws rs/\KV kvs rs
 |[],_,r=>by rw[V8] at r;cases r;exact⟨[],WD,.nil⟩
 |p::kvs,_,r=>by
  rw[U3] at r;cases r with
  |@cons a b as bs h t=>obtain⟨rs,c,q⟩:=ot (P:=P) (w:=w) t;obtain⟨b1,b2⟩:=b;exact⟨(p.1,b2)::rs,⟨l9 h.1,rfl,c⟩,.cons ⟨rfl,h.2⟩ q⟩
def Qv(trs:List (TE×TE)):TE:=λY H Q=>∀p,H p=none->vg trs Y (upd H p (.dK [])) λps c=>c p=some (.dK [])/\∃kvs:List (Key×V),ps=kvs.map (λs=>(kV s.1,s.2))/\kvs.length<=15/\Q (.ref p) (upd c p (.dK (eD [] kvs)))
theorem HR{keys:List (Option Expr)}{r:List Expr}(h:RM X pos keys r trs)(u:keys.all (·.isSome)=true)(hl:keys.length=r.length)(h0:keys≠[])
  (v:keys.length<=15):PE X (.Dict keys r pos) (Qv trs):=by
 intro pins s Y H Q I q;have hn:=I.hok.fresh (U2 s.heap.objs.size);have g:=I.laid (a:=s.heap.objs.size) (o:=.dK []) (h':=s.heap.push { cls:=.type "dict",data:=.dict #[] }) (t':=s.toks) (λ_ _ q=>UR _ q) (U2 _) (uE s.heap I.big);refine wpAny_Dict_walk (knd:=aJ X.prog X.w) u hl h0 v (bf (h pins _ Y _ _ g (q _ hn)) λws s2 ⟨ps,t,m,rel,e,kvs,ep,L,p⟩=>?_);subst ep;obtain⟨rs,c,rk⟩:=ot (P:=X.prog) (w:=X.w) rel;obtain⟨z,hd,A,D,dd⟩:=tT m.hok e;cases D;refine⟨rs,c,dd,λh' V J=>⟨.ref s.heap.objs.size,_,?_,rfl,p⟩⟩;have hz:(eD [] kvs).length<=sizeLine:=by have h1:=dR kvs [];rw[Wm] at h1;rw[sizeLine_eq];omega
 have he:∃q,h'.get? s.heap.objs.size=some q:=let ⟨q,_,_,hq,_⟩:=V;⟨q,hq⟩
 exact mO m (by rw[e];exact WD) J he (oo hz hd (rk.merge .nil) V)
structure M1(X:Cx)(o:Expr)(m:Str)(apos:Pos)(e:Expr)(cpos:Pos):Prop where
 base:attributeBase o m X.env (eval o X.env)=eval o X.env
 few:((backTo cpos (starEach [e] X.env)).all (λx=>!x.1)&&(backToKw cpos (keywordEach [] X.env)).all (λx=>x.1.isSome)
  && decide (([e]:List Expr).length+([]:List Keyword).length+(if ([]:List Keyword).isEmpty then 0 else 1)<30))=true
 line:(apos.endLine==cpos.line)=true
 trees:backTo cpos (starEach [e] X.env)=[(false,eval e X.env)]
structure M2(X:Cx)(o:Expr)(m:Str)(apos:Pos)(e f:Expr)(cpos:Pos):Prop where
 base:attributeBase o m X.env (eval o X.env)=eval o X.env
 few:((backTo cpos (starEach [e,f] X.env)).all (λx=>!x.1)&&(backToKw cpos (keywordEach [] X.env)).all (λx=>x.1.isSome)
  && decide (([e,f]:List Expr).length+([]:List Keyword).length+(if ([]:List Keyword).isEmpty then 0 else 1)<30))=true
 line:(apos.endLine==cpos.line)=true
 trees:backTo cpos (starEach [e,f] X.env)=[(false,eval e X.env),(false,eval f X.env)]
def T1(H:Hp)(a:Addr):Prop:=(∃kvs,Rd H a (.dK kvs))\/∃kvs,Rd H a (.dT kvs)
theorem Lg{a:Addr}(I:Inv X pins Y H s)(d:T1 H a):
  s.TypeIs (.ref a) "dict" /\ (∀b,Vq a=.ref b->∃ob,s.heap.get? b=some ob/\ob.dict=none)/\(a==sysModules)=false:=by
 rcases d with ⟨kvs,e⟩|⟨kvs,e⟩
 .obtain⟨_,hd,vs,_,dd⟩:=dS I.hok e;refine⟨dd.typeIs,λb q=>?_,hd⟩;cases q;obtain⟨ob,_,_,h1,h2,_⟩:=dd;exact⟨ob,h1,h2.2.1⟩
 .obtain⟨_,hd,xs,_,dd⟩:=oS I.hok e;refine⟨dd.typeIs,λb q=>?_,hd⟩;cases q;obtain⟨ob,_,_,h1,h2,_⟩:=dd;exact⟨ob,h1,h2.2.1⟩
section
variable{X:Cx}{pins:List (Addr×Obj)}{Y:St}{H:Hp}{s:Shared}{a:Addr}{y d:V}{u r:Value}{o:Option V}{A:Around}{E:Value->Shared->Prop}
theorem KD(f:A.units+1<cLine)(I:Inv X pins Y H s)(g:iF H a y o)(U:RelV y u)(rd:RelV d r)(h:∀S s',Inv X pins Y H s'->RelV (o.getD d) S->Q S s'):
  wpAny (model X.prog X.w) A (call (.builtin "dict.get") [.ref a,u,r]) Q E s:=by
 rcases g with ⟨kvs,k,e,x,l⟩|⟨kvs,k,b,e,x,T,l⟩
 .subst x;obtain⟨z,hd,vs,rel,dd⟩:=dS I.hok e;refine call_meetsIn Xx dd.typeIs YS (YN _ _ _) (meets_dict_get_default (aJ X.prog X.w) a (l9 U) hd r) ⟨_,dd.mapOf,h _ _ (I.tok _) ?_⟩;rw[l];exact(rel.val k).getD rd
 .subst x;cases (show u=Vq b from U);obtain⟨z,hd,xs,rel,dd⟩:=oS I.hok e;refine call_meetsIn Xx dd.typeIs YS (YN _ _ _) (meetsH_dict_get_default (tupleKind (aJ X.prog X.w)) a b hd r) ⟨tupleKind_room_in1 f,k,xs,lD I.hok T,dd,h _ _ (I.tok _) ?_⟩;rw[l];exact(rel.val k).getD rd
end
noncomputable def MG(I ty h:TE):TE:=λY H Q=>I Y H λx e=>∃a,x=.ref a/\T1 e a/\ty Y e λy c=>h Y c λz C=>∃o,iF C a y o/\Q (o.getD z) C
section
variable{X:Cx}{o e f:Expr}{apos cpos:Pos}{td ty tx:TE}
theorem B2(R:X.A.units+1<cLine)(ho:PE X o td)(he:PE X e ty)(hf:PE X f tx)(m:M2 X o "get" apos e f cpos):PE X (.Call (.Attribute o "get" apos) [e,f] [] cpos) (MG td ty tx):=by
 intro pins s Y H Q I h;refine wpAny_Call_method m.base m.few m.line Xf Xx PySem.F.type_dict_get (bf (ho pins s Y H _ I h) λu s1 ⟨x,P,l,b,a,ex,d,k⟩=>?_);subst ex;obtain rfl:u=Vq a:=b;obtain⟨Z,n,_⟩:=Lg l d;refine⟨Z,n,?_⟩;rw[m.trees];refine Xw rfl (XN (X0 (bf (he pins s1 Y P _ l k) λq s2 ⟨y,c,r,U,p⟩=>X0 (bf (hf pins s2 Y c _ r p) λw K ⟨z,C,G,v,E,g,O⟩=>ZJ ?_))))
 exact KD R G g U v λS B V L=>⟨_,C,V,L,O⟩
end
section
variable{X:Cx}{pins:List (Addr×Obj)}{Y:St}{H:Hp}{s:Shared}{a:Addr}{kvs:List (Key×V)}{A:Around}{E:Value->Shared->Prop}
theorem Df(I:Inv X pins Y H s)(e:Rd H a (.dK kvs))(h:∀p s',H p=none->Inv X pins Y (upd H p (.dK kvs)) s'->Q (.ref p) s'):wpAny (model X.prog X.w) A (call (.type "dict") [.ref a]) Q E s:=by obtain⟨z,hd,vs,rel,dd⟩:=dS I.hok e;refine kt_call_dict hd dd (by rw[<-rel.length];exact z) λh' V P=>?_;refine h _ _ (I.hok.fresh (U2 _)) (I.laid (a:=s.heap.objs.size) (o:=.dK kvs) (t':=s.toks) (λb q j=>?_) (U2 _) (oo z (beq_eq_false_iff_ne.mpr (VY (Vi I.big))) rel V));exact(P.2 b (Vi (U4 j))).trans (UR _ j)
end
end L2
namespace Att
open PySem PySem.W PySem.Calls PyProof.Rows
variable{P:Params}{h:Heap}
theorem mI:∀(ns:List Int)(vs:List Value),WellAll P h vs (ns.map WData.int)->IntsAre vs ns:=by
 intro ns;induction ns with
 |nil=>intro vs w;rw[V8] at w;cases w;exact .nil
 |cons n ns j=>
  intro vs w;rw[U3] at w;cases w with
  |cons a b=>cases a;exact .cons _ _ (j _ b)
variable{l:OpenLaw}
theorem zQ{n:Nat}(hn:l.most=some n){args:List WData}{vals:List Value}
  (H:l.row.toRowW.claim.pre args=true)(Q:WellAll P h vals args):
  ∃a vs ns,vals=[Vq a]/\args=[WData.list (ns.map WData.int)]/\h.get? a=some { cls:=.type "list",data:=.seq vs.toArray }/\IntsAre vs ns/\ns.length<=n:=by
 have Y:WShape.hasAll [] args [.list .int]=true:=(pre_splitW H).1;have hc:l.pre.holds [] { args:=args }=true:=(pre_splitW H).2;obtain⟨d,r,rfl,h1,h2⟩:=hasAllW_cons Y;obtain rfl:=hasAllW_nil h2;obtain⟨xs,rfl,h3⟩:=hasW_list h1;obtain⟨ns,rfl⟩:=items_int h3;have N:ns.length<=n:=by
  unfold OpenLaw.pre at hc;have h4:(WTm.not (.lt (.lit (.int (n:Int))) (.len (.arg 0)))).holds [] { args:=[.list (ns.map .int)] }=true:=by have h4:=(holds_andW hc).1;rw[hn] at h4;exact h4
  have h5:=condW_of h4 (w_not (w_lt w_lit (w_len_list (w_arg rfl))));rw[UP] at h5;refine Nat.le_of_not_lt λq=>?_;have p:(n:Int)<((ns.length:Nat):Int):=by omega
  first
   |(rw[decide_eq_true p] at h5;exact absurd h5 (by decide))
   |(simp at h5;omega)
 cases Q with
 |cons U D=>
  cases D;cases U with
  |list ho u=>exact⟨_,_,ns,rfl,rfl,ho,mI ns _ u,N⟩
theorem zV(l:OpenLaw)(args:List WData):l.row.toRowW.claim.post args (.bool true) args=true:=
 postW_of (r:=l.row.toRowW) (X:=(true==true))
  (show zau [] (.bool true) .bool=true by first|rfl|decide|simp[zau,WShape.arms,WShape.armsAll])
  (show (WTm.eq .res (.lit (.bool true))).value [] { args:=args,res:=some (.bool true),after:=args }=some (.bool (true==true)) from w_eq_bool (w_res rfl) w_lit) rfl
theorem sU{n:Nat}{q:Program}{loose:List Str}{XP:(Str->Option Value)->Heap->Prop}{YP:World->Heap->Prop}{d:DefRec}
  (hn:l.most=some n)(J:d.params.defaults=[])
  (call:∀(w:World)(s₀ Z:Shared)(mg mb:Str->Option Value)(Q:Addr)(o:Obj)(pm cd doc:Value)(a:Addr)(vs:List Value)(ns:List Int),
   Ground q loose [] XP w s₀ mg mb Z.heap->YP w Z.heap->
   Z.heap.get? Q=some o->o.data=.func (docDef d.name d.params d.body d.scope pm cd doc)->Z.heap.CodeRec cd d.name->mg d.name=some (.ref Q)->
   Z.heap.get? a=some { cls:=.type "list",data:=.seq vs.toArray }->IntsAre vs ns->ns.length<=n->Z.gens=#[]->
   codeAny (model l.prog w) callerA (.call (.ref Q) ⟨[.ref a],[]⟩) (λr s'=>r=.ok (.ret (.bool true))/\OldK Z.heap s'.heap/\s'.os=Z.os/\AllBare s'.gens) Z):
  WalkO q loose XP YP l.row.toRowW d [] (λf vs=>ZF f vs):=by
 intro w s₀ Z mg mb G Y Q o pm cd doc dV kV ho hd p y u K args vals as h B D v O;obtain rfl:dV=.none:=Dflts.none y J;obtain rfl:kV=.none:=Dflts.noKw y;obtain⟨a,vs,ns,rfl,rfl,A,H,N⟩:=zQ hn h v;refine enter_call (codeAny_mono (call w s₀ Z mg mb Q o pm cd doc a vs ns G Y ho (fd_plain hd) p u A H N K) λr s' j=>?_);obtain⟨rfl,h2,h3,h4⟩:=j;exact⟨.inl ⟨.bool true,.bool true,[],rfl,λ_=>rfl,.bool true,zV l _,λ_=>⟨zaE,λ_ hm=>(nomatch hm)⟩⟩,h2,h3,h4⟩
end Att
namespace L2
open PySem PySem.Spec PyProof.Rows
theorem qB:∀{vs:List Value}{ns:List Int},IntsAre vs ns->Vals (ns.map V.int) vs
 |_,_,.nil=>.nil
 |_,_,.cons n t h=>.cons ⟨t,rfl⟩ (qB h)
def Ni(H:Hp):Prop:=∀b,H b=none\/∃o xs,H b=some (.frz o (.lst xs))
variable{k:Nat}
theorem DO{P:Program}{w:World}{K:UN}{mg mb:Str->Option Value}{CX:xi}{D a:Addr}{fd:FuncData}{x:Str}{sp:Sp}{Z:Shared}{vs:List Value}{ns:List Int}
  (X:K.In Z.heap)(G:Z.heap.Ns mainGlobals mg)(E:Z.heap.Ns builtinsNs mb)(I:∀x:Str,x ≠ "__name__" -> mb x=bootBuiltins x)(J:Z.heap.NoLimit)(N:Z.gens=#[])
  (ha:Z.heap.get? a=some { cls:=.type "list",data:=.seq vs.toArray })(hi:IntsAre vs ns)(hl:ns.length<=sizeLine)(p:cp k callerA)
  (F:∀base:Heap,K.In base->base.Ns mainGlobals mg->cV P w K mg base CX k D fd [x] sp)(A:∀(s:Shared)(u:Value),BindsTo s fd ⟨[u],[]⟩ [(x,u)])
  (L:∀H:Hp,Ni H->g9 K H a (ns.map V.int)->sp [.ref a] H (λv _=>v=.bl true) λ_ _ _=>False)
  (O:∀H e s',CX [] H Z (λ_ _ _=>False) e s'->False):
  codeAny (model P w) callerA (.call (.ref D) ⟨[.ref a],[]⟩) (λr s'=>r=.ok (.ret (.bool true))/\OldK Z.heap s'.heap/\s'.os=Z.os/\AllBare s'.gens) Z:=by
 have t:=qB hi;have R:=hi.length;have Q:∀H:Hp,Ni H->g9 K H a (ns.map V.int)->jt P w H Z.heap->(∀b,H b≠none->b=a)->(H a≠none->K.lookup a=none)->
   codeAny (model P w) callerA (.call (.ref D) ⟨[.ref a],[]⟩) (λr s'=>r=.ok (.ret (.bool true))/\OldK Z.heap s'.heap/\s'.os=Z.os/\AllBare s'.gens) Z:=by
  intro H l i hok C U;have eO:∀{b:Addr}{o:Obj},Z.heap.get? b=some o->H b=none->(qS Z.heap H).get? b=some o:=λe n=>Br e n;have T:∀{b:Addr}{o:Obj}{es:Array DictEntry}{ep:Nat},Z.heap.get? b=some o->o.data=.dict es ep->H b=none:=λ{b o es ep} e d=>by
   cases q:H b with
   |none=>rfl
   |some u=>have f:b=a:=C b (by rw[q];simp);subst f;rw[ha] at e;cases e;have d':Data.seq vs.toArray _=Data.dict es ep:=d;cases d'
  have Y:∀{b:Addr}{m:Str->Option Value},Z.heap.Ns b m->(qS Z.heap H).Ns b m:=λ{b m} ⟨o,es,ep,e,d,r⟩=>⟨o,es,ep,eO e (T e d),d,r⟩
  have S:K.In (qS Z.heap H):=λb o e=>eO (X b o e) (by
   cases q:H b with
   |none=>rfl
   | some u=>have f:b=a:=C b (by rw[q];simp);subst f;rw[U (by rw[q];simp)] at e;cases e)
  have g:Mod K mg (qS Z.heap H):=⟨S,Y G,⟨mb,Y E,I⟩,let ⟨mc,h1,h2⟩:=J;⟨mc,Y h1,h2⟩⟩
  have j:vL P w K mg (qS Z.heap H) callerA [] Z H:=⟨rfl,g,λb o e=>F6 e,Ym (zK _ _),trivial,λb E=>absurd (show b∈([]:List Addr) from E) (by simp),hok,.of_eq N⟩
  refine codeAny_mono ((F _ S (Y G)).run callerA [] Z H ⟨[.ref a],[]⟩ [.ref a] [.ref a] _ _ p j (A Z (.ref a)) (.cons rfl .nil) (L H l i)) λr s' h=>?_;cases r with
  |error e=>exact(O H e s' h).elim
  |ok fl=>
   cases fl with
   |next=>exact V4 h
   |brk=>exact V4 h
   |cont=>exact V4 h
   |ret u=>
    obtain⟨v,H',os,bare,un,y,r',q⟩:=h;have c:v=.bl true:=q;subst c;obtain rfl:u=ZC true:=r';refine⟨rfl,OldK.of_keep λb o e=>?_,os,bare⟩;cases q:H b with
    |none=>exact un.keep b o e q (by intro z;exact absurd (show b∈([]:List Addr) from z) (by simp)) (by simp)
    |some u=>
     rcases l b with z|⟨ob,xs,z⟩
     .rw[q] at z;cases z
     .have z2:=un.frzs b ob _ z;obtain⟨e1,_⟩:=hok b _ z;obtain⟨e2,_⟩:=y b _ z2;rw[e] at e1;cases e1;exact e2
 cases hk:K.lookup a with
 |some o=>have e:=X a o hk;rw[ha] at e;cases e;refine Q (λ_=>none) (λ_=>.inl rfl) (.inr ⟨_,vs.toArray,_,hk,rfl,rfl,rfl,by rw[UT,R];exact hl,by simpa using t⟩) (λb u z=>by have B:(none:Option HO)=some u:=z;cases B) (λb z=>absurd rfl z) λz=>absurd rfl z
 |none=>
  refine Q (λb=>if b=a then some (.frz { cls:=.type "list",data:=.seq vs.toArray } (.lst (ns.map V.int))) else none) (λb=>?_) (.inl (.inr ⟨{ cls:=.type "list",data:=.seq vs.toArray },if_pos rfl⟩)) (λb u z=>?_) (λb z=>?_) λ_=>hk
  .by_cases E:b=a
   .exact .inr ⟨_,_,if_pos E⟩
   .exact .inl (if_neg E)
  .by_cases E:b=a
   .have B:=(if_pos E).symm.trans z;cases B;subst E;exact⟨ha,by rw[UP];exact hl,vs,_,t,ha⟩
   .have B:=(if_neg E).symm.trans z;cases B
  .by_cases E:b=a
   .exact E
   .exact absurd (if_neg E) z
noncomputable def dO(s:Stmt):Arguments:=match s with
 | .FunctionDef _ a _ _ _ _ _ _ _ _=>a
 |_=>{ posonlyargs:=[],args:=[],vararg:=none,kwonlyargs:=[],kw_defaults:=[],kwarg:=none,defaults:=[] }
noncomputable def dy(s:Stmt):List Stmt:=match s with
 | .FunctionDef _ _ b _ _ _ _ _ _ _=>b
 |_=>[]
noncomputable def aZ(s:Stmt):Scope:=match s with
 | .FunctionDef _ _ _ _ _ _ sc _ _ _=>sc
 |_=>{ kind:=.function,names:=[],isGenerator:=false,isCoroutine:=false }
noncomputable abbrev E0:XK:=λ_ _ _=>False
theorem tH{A:Around}(l:cp k A):A.units+1<cLine:=Wi (ZL (by decide:1<=64) _) l.units
def Sr(H H':Hp):Prop:=∀b o,H b=some o->H' b=some o
end L2
set_option maxHeartbeats 4000000
namespace L2
open PySem PySem.Spec PyProof.Rows PySem.W
open PySem.Builtin.ObjectAttr (find dataDescriptor? getOf)
open PySem.Builtin.Getset_descriptor (descrGet descrGetter descrCheckInstance descrNameAndClass)
variable{Q:Unit->Shared->Prop}{R:Result->Shared->Prop}
section
variable{prog:Program}{w:World}{A:Around}{E:Value->Shared->Prop}{h:Heap}{g:Array GenState}{d:Drawn}{t:Nat}{os:OsState}{K:Frag}{x C:Addr}
structure gU(K:Frag)(C:Addr):Prop where
 ga:findIn K (.ref C) "__getattribute__" = some (some (.builtin "BaseException.__getattribute__"))
 gt:findIn K (.ref C) "__getattr__" = some none
 cl:findIn K (.ref C) "__class__" = some (some (.builtin "object.__class__"))
 gg:specialIn K (.builtin "object.__class__") "__get__" = some (some (.builtin "getset_descriptor.__get__"))
 tk:takesIn K (.builtin "object.__class__")=some true
 ob:mroIn K C (.type "object")=some true
 be:mroIn K C (.type "BaseException")=some true
def ExcAt(a C:Addr)(h:Heap):Prop:=∃o,h.get? a=some o/\o.cls=.ref C
theorem ExcAt.type{M:Model}(I:ExcAt x C h):Looks M h (typeOf (.ref x)) (.ref C):=by obtain⟨o,e1,e2⟩:=I;exact e2▸(Looks.ld e1).andThen .now
theorem NR{M:Model}{a:Value}(X:K.In h)(T:gU K C)(I:ExcAt x C h)(j:Q () ⟨h,g,d,t,os⟩):
  wpAny M A (checkBuiltinCall "BaseException.__getattribute__" ⟨[.ref x,a],[]⟩) Q E ⟨h,g,d,t,os⟩:=by
 have k1:builtinKind "BaseException.__getattribute__" = some .slot:=by decide +kernel
 have k2:splitId "BaseException.__getattribute__" = some ("BaseException", "__getattribute__"):=by decide +kernel
 have k3:=F.args_bexc_ga (.ref x) a;have L2:Looks M h (isInstance (.ref x) (.type "BaseException")) true:=I.type.andThen (looks_mroIn (M:=M) X T.be);simp only[checkBuiltinCall,k1,k2];refine wpAny_bind (L2.at ?_)
 repeat (first|exact j|wp_step)
theorem OB{M:Model}(X:K.In h)(T:gU K C):Looks M h (find (.ref x) (.ref C) "__class__") (.bind (.builtin "getset_descriptor.__get__") (.builtin "object.__class__")):=by have a:=looks_findIn (M:=M) X T.cl;have H:Looks M h (getOf (some (.builtin "object.__class__"))) (some (.builtin "getset_descriptor.__get__")):=looks_specialIn X T.gg;have Y:Looks M h (dataDescriptor? (some (.builtin "object.__class__")) (some (.builtin "getset_descriptor.__get__"))) (some (.builtin "getset_descriptor.__get__",.builtin "object.__class__")):=(looks_takesIn (M:=M) X T.tk).andThen .now;exact a.andThen (H.andThen (Y.andThen (Looks.tag .now)))
theorem SG{tp:Value}(X:K.In h)(T:gU K C)(I:ExcAt x C h)(q:R (.ok (.ret (.ref C))) ⟨h,g,d,t,os⟩):
  codeAny (model prog w) A (.call (.builtin "getset_descriptor.__get__") ⟨[.builtin "object.__class__",.ref x,tp],[]⟩) R ⟨h,g,d,t,os⟩:=by
 have Z:=I.type (M:=model prog w);have a:=looks_mroIn (M:=model prog w) X T.ob;refine codeAny_call_builtin (KF.slot_gs).plain (KF.entry_gs) ((KF.slot_gs).check _ _ _ _ _ _ _ _ (KF.type_class) (KF.args_gs _ _ _) ?_);unfold Builtin.«getset_descriptor.__get__»;unfold descrGet;rw[dga_obj _ tp x];refine wpAny_bind (wpAny_pure ?_);unfold descrGetter descrCheckInstance;unfold descrNameAndClass isInstance;simp only[KF.owner_class,id]
 repeat (first|lk)
 refine⟨ZM _ (by decide +kernel),codeAny_builtin (KF.entry_class) ?_⟩;unfold Builtin.«object.__class__»;unfold shownTypeOf
 repeat (first|lk)
 exact q
theorem NQ{tk:Tok}{Q:Fin->Shared->Prop}(X:K.In h)(T:gU K C)(I:ExcAt x C h)(j:Q (.done (.ret (.ref C))) ⟨h,g,d,t,os⟩):
  wpAny (model prog w) A (Builtin.«object.__getattribute__» ⟨[.ref x,.str "__class__" tk],[]⟩) Q E ⟨h,g,d,t,os⟩:=by
 have n:=I.type (M:=model prog w);have r:=OB (x:=x) (M:=model prog w) X T;unfold Builtin.«object.__getattribute__»;refine wpAny_bind (wpAny_pure ?_);refine wpAny_bind (wpAny_pure ?_);refine wpAny_bind (n.at ?_);refine wpAny_bind (r.at ?_);unfold Z0;refine wpAny_bind (wpAny_call ?_);refine SG X T I ?_;exact wpAny_pure j
theorem Pg{tk:Tok}(X:K.In h)(T:gU K C)(I:ExcAt x C h)(j:R (.ok (.ret (.ref C))) ⟨h,g,d,t,os⟩):
  codeAny (model prog w) A (.call (.builtin "BaseException.__getattribute__") ⟨[.ref x,.str "__class__" tk],[]⟩) R ⟨h,g,d,t,os⟩:=
 codeAny_call_builtin ZS.ga.plain F.entry_bexc_ga (NR X T I (NQ X T I j))
theorem UC{tk:Tok}{Q:Value->Shared->Prop}(X:K.In h)(T:gU K C)(I:ExcAt x C h)(j:Q (.ref C) ⟨h,g,d,t,os⟩):
  wpAny (model prog w) A (getAttrBy (.ref x) (.str "__class__" tk) false) Q E ⟨h,g,d,t,os⟩:=by
 have D:=ZS.ga.bind (.ref x);have H:(Xg "BaseException.__getattribute__" == Xg "object.__getattribute__")=false:=by decide +kernel
 have Y:(onTheHeap (Vq C)&&Xg "BaseException.__getattribute__" == Xg "object.__getattribute__")=false:=by rw[H];rfl
 have n:=I.type (M:=model prog w);have r:=looks_findIn (M:=model prog w) X T.ga;have L2:=looks_findIn (M:=model prog w) X T.gt;unfold getAttrBy;refine wpAny_holding (wpAny_bind (n.at (wpAny_bind (r.at ?_))));dsimp only;rw[if_neg (by rw[Y];exact Vm)];unfold getAttrByItsOwn hookBefore
 repeat (any_goals (first|assumption|with_reducible refine wpAny_bind (L2.at ?_)|with_reducible refine wpAny_bind (r.at ?_)|wp_step))
 refine Pg X T I ?_
 repeat (any_goals (first|assumption|wp_step))
theorem Oe{Q:Option Value->Shared->Prop}(X:K.In h)(T:gU K C)(I:ExcAt x C h)(j:Q (some (.ref C)) ⟨h,g,d,t+1,os⟩):
  wpAny (model prog w) A (getAttr? (.ref x) "__class__") Q E ⟨h,g,d,t,os⟩:=by
 unfold getAttr? getAttrBy?
 repeat (any_goals (first|assumption|with_reducible apply UC X T I|wp_step))
end
variable{C:Addr}
theorem gU.there{K:Frag}(T:gU K C):∃oc od cd sl,K.lookup C=some ⟨oc,od,.cls cd,sl⟩:=by
 have q:=T.ob;unfold mroIn clsIn at q;split at q
 .rename_i a b c e f;exact⟨a,b,c,e,f⟩
 .cases q
theorem Dy{K:Frag}{a:Addr}(T:gU K C):KitX K (.ref a) (.ref C) (ExcAt a C) where
 ty:=λ_ _ _ I=>I.type
 it:=λ_ _ X _=>by obtain⟨_,_,_,_,L⟩:=T.there;intro Q Z o s1 k1 V;unfold isType loadHead;exact wpAny_bind (wpAny_loadPart (k1 _ _ (X _ _ L)) (wpAny_pure V))
 ne:=λh tp dd its n sl X w=>by obtain⟨_,_,_,_,L⟩:=T.there;refine Ws.mpr λq=>?_;cases Vq.inj (beq_iff_eq.mp q);cases (X _ _ L).symm.trans w
 ca:=λ{_ _ _ _ _ s} X I k=>by obtain⟨h,g,d,t,os⟩:=s;exact Oe X T I k
open PySem PySem.Spec PyProof.Rows
noncomputable abbrev wZ:List Value:=[.type "ValueError",.type "Exception",.type "BaseException",.type "object"]
variable{K:UN}{h:Heap}
theorem GB{u:List Value}{a:String}(X:K.In h)(q:WT K C u a=true):
  ∃bm N nm v bs hdct sn sub ab col dd k0 k1 k2 k3 k5 mN,h.get? C=some (excClassObj nm v C N bs bm hdct sn sub ab col dd k0 k1 k2 k3 k5 a)/\h.Ns N mN/\mN "__init__" = none/\OwnTail h u bm:=by
 unfold WT at q;split at q
 case h_2=>cases q
 rename_i dd cd sl L;split at q
 case h_2=>cases q
 rename_i A bm k0 k1 k2 k3 n k5 em es;rw[UO,UO,UO,UO,UO,beq_iff_eq,beq_iff_eq,beq_iff_eq,Vf] at q;obtain⟨⟨⟨⟨⟨rfl,rfl⟩,nd⟩,F⟩,ok⟩,G⟩:=q;obtain⟨nm,bs,mro,ns,v,hd,sn,sub,ab,col,w⟩:=cd;have em:mro=.ref A::bm:=em;have nd:w=false:=nd;subst em nd;have x:sl=#[k0,k1,k2,k3,some (.builtin n),k5]:=by obtain⟨l⟩:=sl;have es:l=[k0,k1,k2,k3,some (.builtin n),k5]:=es;rw[es]
 subst x;exact⟨bm,ns,nm,v,bs,hd,sn,sub,ab,col,dd,k0,k1,k2,k3,k5,_,X _ _ L,.of_isNs (PySem.W.isNs_of_in X ok),PySem.W.nsMap_none_of_in X ok G,PySem.W.tail_of_in X F⟩
variable{P:Program}{w:World}{H:Hp}{o:HO}
theorem ba.is{a:Addr}(x:ba P w H h a o):∃ob,h.get? a=some ob:=by
 cases o with
 |lst xs=>obtain⟨_,_,_,_,e⟩:=x;exact⟨_,e⟩
 |tup xs=>obtain⟨_,_,_,ob,e,_⟩:=x;exact⟨_,e⟩
 |dK kvs=>obtain⟨_,_,_,_,ob,_,_,e,_⟩:=x;exact⟨_,e⟩
 |dT kvs=>obtain⟨_,_,_,_,ob,_,_,e,_⟩:=x;exact⟨_,e⟩
 |set S n=>obtain⟨ob,_,_,_,e,_⟩:=x;exact⟨_,e⟩
 |ins C dx fs=>obtain⟨_,_,_,e,_⟩:=x;exact⟨_,e⟩
 |own y=>obtain⟨_,e⟩:=x;exact⟨_,e⟩
 |xd fs=>obtain⟨_,⟨_,_,_,e,_⟩,_⟩:=x;exact⟨_,e⟩
 |rng lo hi=>obtain⟨_,_,_,e⟩:=x;exact⟨_,e⟩
 |frz ob u=>obtain⟨e,_⟩:=x;exact⟨_,e⟩
 |tbl ps=>exact⟨_,x⟩
 |met f y=>exact⟨_,x⟩
 |ext φ=>obtain⟨_,⟨_,e⟩,_⟩:=x;exact⟨_,e⟩
theorem ba.xA{a:Addr}{A:Prop}(x:ba P w H h a o)(g:h.get? a=none):A:=by obtain⟨ob,e⟩:=x.is;rw[g] at e;cases e
structure B3(P:Program)(w:World)(outer:List Env)(H:Hp)(s:Shared)(a C:Addr)(H':Hp)(s':Shared):Prop where
 os:s'.os=s.os
 bare:AllBare s'.gens
 un:Un (dz outer) [] H H' s.heap s'.heap
 hok:jt P w H' s'.heap
 new:s.heap.get? a=none
 free:H' a=none
 fl:∃(base:Heap)(a0:Value),Ze base outer a (.ref C) a0 s'.heap /\
  ∀b o,s'.heap.get? b=some o->(H' b≠none\/((∃ob,s.heap.get? b=some ob)/\b∉dz outer))->base.get? b=some o
def sd(P:Program)(w:World):xi:=λouter H s E N s'=>∃(a C:Addr)(H':Hp),N=.ref a/\B3 P w outer H s a C H' s'/\E (.ref C) none H'
variable{h' base:Heap}{l:List Env}{E:Value->Shared->Prop}{env:Env}{L:Addr}{Hc:Hp}{vs:List Value}
section
variable{P:Program}{w:World}{outer:List Env}{H H':Hp}{s s':Shared}{a C:Addr}
theorem nX(x:jt P w H h)(d:∀b o,h.get? b=some o->H b≠none->base.get? b=some o)(st:base.StaysIn h'):jt P w H h':=λb u e=>by
 refine(x b u e).pj (λc v hc q=>st c v (d c v q ?_)) (λ_ q=>q) λ_ _ q=>q;rcases hc with z|z
 .rw[z,e];intro k;cases k
 .rw[z];intro k;cases k
theorem rl(f:h.FunFrames base l){b:Addr}(d:b∈dz l):base.get? b=none/\∃o,h.get? b=some o/\∀vs,o.data≠.fields vs:=f.mem d
theorem zt{M:Model}{A:Around}{sc:Shared}
  (G:A.frames=some (env::outer))(hf:env.frame=some L)(I:s.heap.get? L=none)(t:∀b∈dz outer,H b=none)(l:∀b∈dz outer,∃o,s.heap.get? b=some o)
  (u:Un (dz outer) [] H Hc s.heap sc.heap)(ho:sc.os=s.os)(x:B3 P w (env::outer) Hc sc a C H' s')
  (q:∀Z,B3 P w outer H s a C H' Z->Q () Z):wpAny M A (leaving env (.ref a)) Q E s':=by
 obtain⟨base,a0,fl,d⟩:=x.fl;have B:dz (env::outer)=L::dz outer:=by unfold dz;rw[Wc,hf]
 refine wpAny_leaves_onW G hf fl λh' J up=>q _ ?_;have old:∀b ob,s.heap.get? b=some ob->b≠L:=λb ob e z=>by rw[z,I] at e;cases e
 have S:∀b ob o,s.heap.get? b=some ob->b∉dz outer->s'.heap.get? b=some o->base.get? b=some o:=λb ob o e n f=>by obtain⟨oc,Y⟩:=u.there b ob e (λz=>nomatch z);refine d b o f (.inr ⟨⟨oc,Y⟩,?_⟩);rw[B];exact λz=>(U5.mp z).elim (old b ob e) n
 have R:∀b o,b∈dz outer->s'.heap.get? b=some o->∀vs,o.data≠.fields vs:=λb o m e=>by obtain⟨_,h,e2,O⟩:=rl fl.2.2.1 (show b∈dz (env::outer) by rw[B];exact UW _ m);rw[e2] at e;cases e;exact O
 refine⟨x.os.trans ho,x.bare,⟨λb o e n nb nx=>?_,λb o e n mb nx=>?_,λb o e n nx=>?_,λb o e nx=>?_,λb xs e=>x.un.tups b xs (u.tups b xs e),λb o v e=>x.un.frzs b o v (u.frzs b o v e),λb ps e=>?_⟩,nX x.hok (λb o e n=>d b o e (.inl n)) J.1,?_,x.free,base,a0,J,λb o e r=>?_⟩
 .have e1:=x.un.keep b o (u.keep b o e n nb nx) (u.free b o e n nx) (by rw[B];exact λz=>(U5.mp z).elim (old b o e) nb) nx;exact J.1 b o (S b o o e nb e1)
 .obtain⟨sl,e1⟩:=u.slot b o e n mb nx;obtain⟨D,e2⟩:=x.un.slot b _ e1 (u.free b o e n nx) (by rw[B];exact UW _ mb) nx;obtain⟨F,e3⟩:=up b _ e2 (R b _ mb e2);exact⟨F,e3⟩
 .obtain⟨oc,Y⟩:=u.there b o e nx;exact x.un.free b oc Y (u.free b o e n nx) nx
 .obtain⟨oc,Y⟩:=u.there b o e nx;obtain⟨h,e2⟩:=x.un.there b oc Y nx;by_cases mb:b∈dz outer
  .obtain⟨sl,e3⟩:=up b h e2 (R b h mb e2);exact⟨_,e3⟩
  .exact⟨h,J.1 b h (S b o h e mb e2)⟩
 .obtain⟨V,e1⟩:=u.tbls b ps e;obtain⟨N,e2⟩:=x.un.tbls b _ e1;exact⟨V++N,by rw[e2,ZD]⟩
 .cases z:s.heap.get? a with
  |none=>rfl
  |some X=>obtain⟨K,e1⟩:=u.there a X z (λz=>nomatch z);rw[x.new] at e1;cases e1
 .have e:h'.get? b=some o:=e;have y:∀h,s'.heap.get? b=some h->base.get? b=some h->base.get? b=some o:=λh e2 e3=>by have:=J.1 b h e3;rw[e] at this;cases this;exact e3
  rcases r with r|⟨⟨ob,T⟩,nb⟩
  .cases z:H' b with
   |none=>exact absurd z r
   |some v=>
    have lt:=x.hok.lt z;obtain⟨h,e2⟩:∃h,s'.heap.get? b=some h:=by
     cases g:s'.heap.get? b with
     |some h=>exact⟨h,rfl⟩
     |none=>exact(x.hok b v z).xA g
    exact y h e2 (d b h e2 (.inl r))
  .obtain⟨oc,Y⟩:=u.there b ob T (λz=>nomatch z);obtain⟨h,e2⟩:=x.un.there b oc Y (λz=>nomatch z);exact y h e2 (S b ob h T nb e2)
theorem Dc{M:Model}{A:Around}{sc:Shared}{h1 J:Heap}
  (G:A.frames=some (env::outer))(hf:env.frame=some L)(I:s.heap.get? L=none)(u:Un (dz outer) [] H Hc s.heap sc.heap)(ho:sc.os=s.os)(bare:AllBare sc.gens)(hok:jt P w Hc sc.heap)
  (fr:sc.heap.FunFrames J (env::outer))(O:∀b∈dz (env::outer),Hc b=none)(y:zad sc.heap h1 a (.ref C) vs)
  (q:∀Y,B3 P w outer H s a C Hc Y->Q () Y):wpAny M A (leaving env (.ref a)) Q E { sc with heap:=h1 }:=by
 have B:dz (env::outer)=L::dz outer:=by unfold dz;rw[Wc,hf]
 have old:∀b ob,s.heap.get? b=some ob->b≠L:=λb ob e z=>by rw[z,I] at e;cases e
 have S:∀b o,sc.heap.get? b=some o->b∉dz (env::outer)->(Xo sc.heap (dz (env::outer))).get? b=some o:=λb o e n=>Y9 _ e n;have Ld:∀b,Hc b≠none->b∉dz (env::outer):=λb n m=>n (O b m);have R:∀b o,b∈dz (env::outer)->sc.heap.get? b=some o->∀vs,o.data≠.fields vs:=λb o m e=>by obtain⟨_,h,e2,D⟩:=rl fr m;rw[e2] at e;cases e;exact D
 refine wpAny_leaves_madeW (base:=Xo sc.heap (dz (env::outer))) G hf (λb o z=>Zj _ z) (PySem.W.funFrames_hide fr λen he b d=>W3.mpr ⟨en,he,d⟩) y λh' t fl _ _ up=>q _ ?_;have x:∀b ob,s.heap.get? b=some ob->b∉dz outer->b∉dz (env::outer):=λb ob e n=>by rw[B];exact λz=>(U5.mp z).elim (old b ob e) n
 refine⟨ho,bare,⟨λb o e n nb nx=>?_,λb o e n mb nx=>?_,λb o e n nx=>u.free b o e n nx,λb o e nx=>?_,u.tups,u.frzs,u.tbls⟩,nX hok (λb o e n=>S b o e (Ld b n)) fl.1,?_,?_,_,_,fl,λb o e r=>?_⟩
 .exact fl.1 b o (S b o (u.keep b o e n nb nx) (x b o e nb))
 .obtain⟨sl,e1⟩:=u.slot b o e n mb nx;obtain⟨F,e3⟩:=up b _ (y.keeps _ _ e1) (R b _ (by rw[B];exact UW _ mb) e1);exact⟨F,e3⟩
 .obtain⟨h,e2⟩:=u.there b o e nx;by_cases mb:b∈dz (env::outer)
  .obtain⟨sl,e3⟩:=up b h (y.keeps _ _ e2) (R b h mb e2);exact⟨_,e3⟩
  .exact⟨h,fl.1 b h (S b h e2 mb)⟩
 .cases z:s.heap.get? a with
  |none=>rfl
  |some X=>obtain⟨K,e1⟩:=u.there a X z (λz=>nomatch z);rw[y.new] at e1;cases e1
 .cases z:Hc a with
  |none=>rfl
  |some v=>exact(hok a v z).xA y.new
 .have e:h'.get? b=some o:=e;have Z:∀h,sc.heap.get? b=some h->b∉dz (env::outer)->(Xo sc.heap (dz (env::outer))).get? b=some o:=λh e2 n=>by have e3:=S b h e2 n;have:=fl.1 b h e3;rw[e] at this;cases this;exact e3
  rcases r with r|⟨⟨ob,T⟩,nb⟩
  .cases z:Hc b with
   |none=>exact absurd z r
   |some v=>obtain⟨h,e2⟩:=(hok b v z).is;exact Z h e2 (Ld b r)
  .obtain⟨h,e2⟩:=u.there b ob T (λz=>nomatch z);exact Z h e2 (x b ob T nb)
end
structure Xc(X:Cx)(E:XK):Prop where
 pass:Passes (sd X.prog X.w) X E
 made:∀(pins:List (Addr×Obj))(Y:St)(H:Hp)(s:Shared)(h':Heap)(e C:Addr)(vs:List Value),Inv X pins Y H s->zad s.heap h' e (.ref C) vs->E (.ref C) none H->X.xe (.ref e) { s with heap:=h' }
variable{X:Cx}{pins:List (Addr×Obj)}{Y:St}{s:Shared}
theorem Inv.Es(I:Inv X pins Y H s):X.s₀.heap.get? X.env.locals=none:=WX I.ok.above
variable{N:List Str}{scope:Scope}
theorem Jr{mg:Str->Option Value}{qual:Str}{f:Addr}{cd:Value}{A:Around}{outer:List Env}{E:XK}:
  Xc (uH (sd P w) P w K mg base N qual scope f cd A outer s H E) E:=by
 refine⟨λpins Y Hc sc e s' I x=>?_,λpins Y Hc sc h' e C vs I y q=>?_⟩
 .obtain⟨a,C,H',rfl,fl,q⟩:=x;exact zt (L:=(envOfC qual scope s.heap.objs.size f cd).locals) I.ok.frames rfl I.Es I.ok.frf (λb d=>let ⟨_,o,ho,_⟩:=I.ok.kf.mem d;⟨o,ho⟩) I.base I.os fl λZ J=>⟨a,C,H',rfl,J,q⟩
 .exact Dc (L:=(envOfC qual scope s.heap.objs.size f cd).locals) I.ok.frames rfl I.Es I.base I.os I.bare I.hok I.stack I.r9 y λZ J=>⟨e,C,Hc,rfl,J,q⟩
noncomputable def LB(C:Addr)(E:XK)(t:TA):TS:=λ_ Y H=>t Y H λvs e=>vs.length<=sizeLine/\E (.ref C) none e
variable{x:Str}{e:Expr}{es:List Expr}{pos:Pos}
theorem Eu{E:XK}{t:TA}{np cpos:Pos}(xc:Xc X E)(hc:X.calm=true)(hg:Gl X x)(hm:X.mg x=some (.ref C))(hex:WT X.K C wZ "ValueError.__new__" = true)
  (ha:PA X (e::es) t)(hd:gu x:=by decide)(he:starEach (e::es) X.env=(false,eval e X.env)::starEach es X.env:=by rfl)(hpl:(backTo cpos (starEach es X.env)).any (·.1)=false:=by rfl):
  PS X (.Raise (some (.Call (.Name x np) (e::es) [] cpos)) none pos) (LB C E t):=by
 intro pins s Y H D I h;obtain⟨tl,N,nm,q,bs,hdct,sn,sub,ab,col,dd,k0,k1,k2,k3,k5,mN,hC,hN,hni,T⟩:=GB I.ok.mod.kin hex;refine wpAny_Raise_call_subT (nm:=nm) (q:=q) (N:=N) (bs:=bs) (hdct:=hdct) (sn:=sn) (sub:=sub) (ab:=ab) (col:=col) (dd:=dd) (k0:=k0) (k1:=k1) (k2:=k2) (k3:=k3) (k5:=k5) (bm:=tl) (mN:=mN) ZT (T.hasType ZT.hasBase) (I.ok.hd hc) (by rw[he];show (false || (backTo cpos (starEach es X.env)).any (·.1))=false;rw[hpl];rfl) hni (jq I hg hm ⟨rfl,?_⟩ hd);have h1:=ha cpos pins s Y H _ I h;rw[he] at h1 ⊢;refine XN (wpAny_mono h1 (λus s2 h2=>?_) λ_ _ y=>y);obtain⟨vs,H2,I2,r2,hl,q2⟩:=h2;exact⟨rfl,by rw[<-r2.length];exact hl,I2.bk _ _ hC,hN.keeps I2.bk,T.keeps I2.bk,λh' ex hx=>xc.made pins Y H2 s2 h' ex C us I2 hx q2⟩
variable{H':Hp}{s':Shared}
theorem tL{sc:Shared}{a:Addr}{a0:Value}(x:B3 P w l Hc sc a C H' s')(fl:Ze base l a (.ref C) a0 s'.heap)
  (d:∀b o,s'.heap.get? b=some o->(H' b≠none\/((∃ob,sc.heap.get? b=some ob)/\b∉dz l))->base.get? b=some o)
  (J:Ze base l a (.ref C) a0 h')(up:s'.heap.UpToSlots h'):B3 P w l Hc sc a C H' { s' with heap:=h' }:=by
 have R:∀b o,b∈dz l->s'.heap.get? b=some o->∀vs,o.data≠.fields vs:=λb o m e=>by obtain⟨_,h,e2,O⟩:=rl fl.2.2.1 m;rw[e2] at e;cases e;exact O
 refine⟨x.os,x.bare,⟨λb o e n nb nx=>?_,λb o e n mb nx=>?_,x.un.free,λb o e nx=>?_,x.un.tups,x.un.frzs,x.un.tbls⟩,nX x.hok (λb o e n=>d b o e (.inl n)) J.1,x.new,x.free,base,a0,J,λb o e r=>?_⟩
 .exact J.1 b o (d b o (x.un.keep b o e n nb nx) (.inr ⟨⟨o,e⟩,nb⟩))
 .obtain⟨H,e2⟩:=x.un.slot b o e n mb nx;obtain⟨F,e3⟩:=up b _ e2 (R b _ mb e2);exact⟨F,e3⟩
 .obtain⟨h,e2⟩:=x.un.there b o e nx;by_cases mb:b∈dz l
  .obtain⟨sl,e3⟩:=up b h e2 (R b h mb e2);exact⟨_,e3⟩
  .exact⟨h,J.1 b h (d b h e2 (.inr ⟨⟨o,e⟩,mb⟩))⟩
 .have e:h'.get? b=some o:=e;have Z:∀h,base.get? b=some h->base.get? b=some o:=λh e3=>by have:=J.1 b h e3;rw[e] at this;cases this;exact e3
  rcases id r with q|⟨⟨ob,T⟩,nb⟩
  .cases z:H' b with
   |none=>exact absurd z q
   |some v=>obtain⟨h,e2⟩:=(x.hok b v z).is;exact Z h (d b h e2 r)
  .obtain⟨h,e2⟩:=x.un.there b ob T (λz=>nomatch z);exact Z h (d b h e2 r)
theorem B3.at{sc:Shared}{a:Addr}(x:B3 P w l Hc sc a C H' s'):ExcAt a C s'.heap:=by obtain⟨base,a0,fl,_⟩:=x.fl;exact fl.there
abbrev XS:=Value->St->Hp->Prop
def XP(X:Cx)(pins:List (Addr×Obj))(E:XS)(N:Value)(s':Shared):Prop:=
 ∃(a C:Addr)(Y:St)(Hc:Hp)(sc:Shared)(H':Hp),N=.ref a/\Inv X pins Y Hc sc/\B3 X.prog X.w X.stack Hc sc a C H' s'/\E (.ref C) Y H'
def SQ(X:Cx)(e:Expr)(t:St->Hp->VK->XK->Prop):Prop:=
 ∀(pins:List (Addr×Obj))(s:Shared)(Y:St)(H:Hp)(Q:VK)(E:XK),Inv X pins Y H s->t Y H Q E->
  wpAny (model X.prog X.w) X.A (eval e X.env) (EP X pins Y Q) (XP X pins λc j H'=>j=Y/\E c none H') s
abbrev TX:=Ends->XS->St->Hp->Prop
def PX(X:Cx)(st:Stmt)(t:TX):Prop:=
 ∀(pins:List (Addr×Obj))(s:Shared)(Y:St)(H:Hp)(D:Ends)(E:XS),Inv X pins Y H s->t D E Y H->wpAny (model X.prog X.w) X.A (exec st X.env) (SP X pins D) (XP X pins E) s
def Q2(X:Cx)(st:List Stmt)(t:TX):Prop:=
 ∀(pins:List (Addr×Obj))(s:Shared)(Y:St)(H:Hp)(D:Ends)(E:XS),Inv X pins Y H s->t D E Y H->wpAny (model X.prog X.w) X.A (execs st X.env) (SP X pins D) (XP X pins E) s
variable{us:List Value}{i:Nat}
section
variable{X:Cx}
theorem XP.mono{E Q:XS}{N:Value}(h:XP X pins E N s')(k:∀c Y H,E c Y H->Q c Y H):XP X pins Q N s':=by obtain⟨a,C,Y,Hc,sc,H',e1,e2,e3,e4⟩:=h;exact⟨a,C,Y,Hc,sc,H',e1,e2,e3,k _ _ _ e4⟩
theorem TP.j2{pins:List (Addr×Obj)}{Y:St}{Q:Bool->Hp->Prop}{u:Bool}{s:Shared}{E:Value->Shared->Prop}(h:TP (X.oI E) pins Y Q u s):TP X pins Y Q u s:=by obtain⟨H',I,q⟩:=h;exact⟨H',I.j2,q⟩
variable{k:Nat}{f C:Addr}{fd:FuncData}{ps:List Str}{sp:Sp}{dvs:List V}{ds:List Value}{x m:Str}{p pos apos:Pos}{e o:Expr}{es:List Expr}{ta:TE}{t:TA}
theorem ES{Q:VK}{E:XK}{vs:List V}(F:cV X.prog X.w X.K X.mg X.base (sd X.prog X.w) k f fd ps sp)(l:cp k X.A)(d:Binds X.K fd ps ds)(hd:Vals dvs ds)
  (I:Inv X pins Y H s)(r:Vals vs us)(h:sp (vs++dvs) H Q E):wpAny (model X.prog X.w) X.A (call (.ref f) us) (EP X pins Y Q) (XP X pins λc j H'=>j=Y/\E c none H') s:=by
 have n:Vals (vs++dvs) (us++ds):=r.append hd;have hl:(us++ds).length=ps.length:=by rw[<-n.length];exact F.len _ _ _ _ h
 refine wpAny_call (codeAny_mono (F.run X.A X.stack s H ⟨us,[]⟩ (us++ds) (vs++dvs) Q E l I.Kl (d s us I.p7 hl) n h) λres s' R=>?_);cases res with
 |error N=>obtain⟨a,C,H',rfl,fl,q⟩:=R;exact⟨a,C,Y,H,s,H',rfl,I,fl,rfl,q⟩
 |ok fl=>
  cases fl with
  |ret u=>exact I.after R
  |_=>exact V4 R
def Kq(sp:Sp)(dvs:List V)(t:TA):St->Hp->VK->XK->Prop:=λY H Q E=>t Y H λvs e=>sp (vs++dvs) e Q E
theorem sN(F:cV X.prog X.w X.K X.mg X.base (sd X.prog X.w) k f fd ps sp)(hr:cp k X.A)(hg:Gl X x)(hm:X.mg x=some (.ref f))(hk:VJ X.K (.ref f)=true)(hb:Binds X.K fd ps ds)(hd:Vals dvs ds)
  (ha:PA X.yk (e::es) t)(hdb:gu x:=by decide)(he:starEach (e::es) X.env=(false,eval e X.env)::starEach es X.env:=by rfl)(hpl:(backTo pos (starEach es X.env)).any (·.1)=false:=by rfl):
  SQ X (.Call (.Name x p) (e::es) [] pos) (Kq sp dvs t):=by
 intro pins s Y H Q E I h;refine wpAny_Call_Name_kw (jq I hg hm ?_ hdb);refine W2 (h₀:=X.base) I.ok.mod.kin hk (wpAny_mono (ha pos pins s Y H _ (I.oI _) h) (λus s1 z=>?_) (λ_ _ z=>z.elim)) he hpl;obtain⟨vs,H1,I1,r,q⟩:=z;exact⟨I1.j2.p7,ES F hr hb hd I1.j2 r q⟩
theorem Hs{t:St->Hp->VK->XK->Prop}(he:SQ X e t)(hs:swapsWith e none pos.line X.env=pure false:=by rfl):
  PX X (.Expr e pos) (λD E Y H=>t Y H (λ_ H1=>D.nx Y H1) (λc _ H1=>E c Y H1)):=by
 intro pins s Y H D E I h;refine wpAny_Expr_any (wpAny_mono (he pins s Y H _ _ I h) (λu s1 z=>?_) λev s1 z=>z.mono λc j H' q=>?_) I.quiet hs
 .obtain⟨v,H',I',_,q⟩:=z;exact⟨Y,H',I',q⟩
 .obtain⟨rfl,q⟩:=q;exact q
theorem Np{pos':Pos}{t:St->Hp->VK->XK->Prop}(hN:X.N.Nodup)(hi:X.N[i]?=some x)(hx:Loc X.env.scope x)(he:SQ X e t)(hs:swapsWith e (some (.Name x pos')) pos.line X.env=pure false:=by rfl)
  (hf:X.fn x=true\/X.env.scope.names.lookup x=some .local:=by first|exact .inl rfl|exact .inr rfl|assumption):
  PX X (.Assign [.Name x pos'] e pos) (λD E Y H=>t Y H (λv H1=>D.nx (Y.set i (some v)) H1) (λc _ H1=>E c Y H1)):=by
 intro pins s Y H D E I h;refine wpAny_Assign_Name (wpAny_mono (he pins s Y H _ _ I h) (λu s1 z=>?_) λev s1 z=>z.mono λc j H' q=>?_) hs
 .obtain⟨v,H',I',r,q⟩:=z;exact gm I' hN hi hx r (λs2 I2=>⟨_,H',I2,q⟩) hf
 .obtain⟨rfl,q⟩:=q;exact q
theorem xh{st:Stmt}{t:TX}(h:PX X st t):Q2 X [st] t:=by
 intro pins s Y H D E I q;refine wpAny_execs_cons (wpAny_mono (h pins s Y H D E I q) (λfl s1 z=>?_) λ_ _ z=>z);cases fl with
 |next=>exact wpAny_execs_nil z
 |_=>exact z
noncomputable abbrev Cx.marked(X:Cx)(a:Addr):Cx:={ X with A:=X.A.mark (some (.ref a)),calm:=false,xe:=λ_ _=>False }
theorem Inv.mark(I:Inv X pins Y H s)(a:Addr):Inv (X.marked a) pins Y H s:=
 have k:=I.ok
 ⟨⟨k.mod,k.kind,k.glob,k.blt,k.above,k.inj,k.has,k.cab,(λz=>nomatch z),k.frames,k.stk,k.exf,k.bs,k.bsz,k.noex,k.exfs,k.kf,k.frf⟩,I.os,I.bare,I.base,I.loc,I.cell,I.free,I.freeC,I.pin,I.hok,I.len⟩
theorem Inv.unmark{a:Addr}(I:Inv (X.marked a) pins Y H s)(k0:X.Ok):Inv X pins Y H s:=
 ⟨k0,I.os,I.bare,I.base,I.loc,I.cell,I.free,I.freeC,I.pin,I.hok,I.len⟩
theorem Inv.OY{a:Addr}{ho:HO}(I:Inv X pins Y H s)(r:X.s₀.heap.get? a=none)(A:a≠X.env.locals)(Q:∀x c,X.env.cells.lookup x=some c->c≠a)(h:∀p∈X.pn++pins,p.1≠a)
  (hn:H a=none)(ok:ba X.prog X.w (upd H a ho) s.heap a ho):Inv X pins Y (upd H a ho) s:=by
 have ne:∀b u,H b=some u->b≠a:=λb u e z=>by rw[z,hn] at e;cases e
 refine⟨I.ok,I.os,I.bare,⟨I.base.keep,I.base.slot,λb o e n nx=>?_,I.base.there,λb xs e=>?_,λb o v e=>?_,λb ps e=>?_⟩,I.loc,I.cell,by rw[au (VY A)];exact I.free,λx c e=>by rw[au (Q x c e)];exact I.freeC x c e,λp hp=>?_,λb u e=>?_,I.len⟩
 .rw[au (λz=>by rw[z,r] at e;cases e)];exact I.base.free b o e n nx
 .have q:=I.base.tups b xs e;rw[au (ne b _ q)];exact q
 .have q:=I.base.frzs b o v e;rw[au (ne b _ q)];exact q
 .obtain⟨more,q⟩:=I.base.tbls b ps e;exact⟨more,by rw[au (ne b _ q)];exact q⟩
 .obtain⟨e1,e2,e3⟩:=I.pin p hp;exact⟨e1,by rw[au (h p hp)];exact e2,e3⟩
 .by_cases z:b=a
  .subst z;rw[aI] at e;cases e;exact ok
  .rw[au z] at e;exact(I.hok b u e).pj (λ_ _ _ q=>q) (λc q=>by rw[au (ne c _ q)];exact q) λc xs q=>by rw[au (ne c _ q)];exact q
theorem jr{M:Model}{A:Around}{n:Str}(I:Inv X pins Y H s)(L:X.N.Nodup)(hi:X.N[i]?=some n)
  (hn:X.env.scope.names.lookup n=some .local)(q:∀s',Inv X pins (Y.set i none) H s'->Q () s'):wpAny M A (do bindName X.env n .none;unbindBehindTheSuite X.env n pos) Q E s:=by
 obtain⟨m,a,hl⟩:=id I.loc;refine wpAny_nameGoes_keeps hn a (by rw[I.ok.kind];rfl) λh' v x P=>q _ ?_;obtain⟨V,_,_,B,_⟩:=id a;have fl:∀b o,X.s₀.heap.get? b=some o->b≠X.env.locals:=λb o e=>Vi (UZ (U4 e) I.ok.above);refine⟨I.ok,I.os,I.bare,⟨λb o e n d w=>(P.2 b (fl b o e)).trans (I.base.keep b o e n d w),λb o e n d w=>?_,I.base.free,λb o e w=>?_,I.base.tups,I.base.frzs,I.base.tbls⟩,⟨_,x,λj y G e1 e2 e3=>?_⟩,λy c e=>?_,I.free,I.freeC,λp hp=>?_,λb u e=>?_,by simpa using I.len⟩
 .obtain⟨sl,e1⟩:=I.base.slot b o e n d w;exact⟨sl,(P.2 b (fl b o e)).trans e1⟩
 .obtain⟨K,e1⟩:=I.base.there b o e w;exact⟨K,(P.2 b (fl b o e)).trans e1⟩
 .by_cases S:j=i
  .subst S;have:j<Y.length:=by rw[I.len];exact(UQ.mp hi).1
   rw[Vl this] at e2;cases e2
  .rw[VC (VY S)] at e2;obtain⟨u,r,z⟩:=hl j y G e1 e2 e3;refine⟨u,r,?_⟩;rcases z with ⟨k,e⟩|⟨k,c,e,z⟩
   .refine .inl ⟨k,?_⟩;have:y≠n:=λe=>S (nF L e1 (e▸hi));simp[this,e]
   .exact .inr ⟨k,c,e,z.sameBut P (I.Gh y c e)⟩
 .obtain⟨U,z⟩:=I.cell y c e;exact⟨U,z.sameBut P (I.Gh y c e)⟩
 .obtain⟨e,nn,ne,r⟩:=I.pin p hp;exact⟨(P.2 p.1 ne).trans e,nn,ne,r⟩
 .refine(I.hok b u e).pj (λc U hc z=>(P.2 c ?_).trans z) (λ_ z=>z) λ_ _ z=>z;intro h;rcases hc with hc|hc
  .rw[<-hc,h,I.free] at e;cases e
  .rw[h,I.free] at hc;cases hc
noncomputable def tY(a C:Addr):HO:=.ext (ExcAt a C)
theorem ER{a:Addr}(x:ExcAt a C h):ba P w H h a (tY a C):=
 ⟨x,let ⟨o,e,_⟩:=x;⟨o,e⟩,λh1 h2 ⟨o,e,c⟩ k=>⟨o,k o e,c⟩⟩
noncomputable def Ends.un(D:Ends)(i:Nat):Ends:={ nx:=λY H=>D.nx (Y.set i none) H,rt:=D.rt,bk:=λY H=>D.bk (Y.set i none) H,ct:=λY H=>D.ct (Y.set i none) H }
def SA(K:UN)(T:Addr)(i:Nat)(tb:TX)(ts:TS):TS:=λD Y H=>tb D (λc j H'=>∃C,c=.ref C/\XE K (.ref C) (.ref T)=some true/\∀a,H' a=none->ts (D.un i) (j.set i (some (.ref a))) (upd H' a (tY a C))) Y H
theorem Kp{T:Addr}{n:Str}{body suite:List Stmt}{b0:Stmt}{tb:TX}{ts:TS}{np hp:Pos}(hst:X.stack=X.env::X.outer)(hfr:X.env.frame=some X.env.locals)(hex:X.ex=[])(hN:X.N.Nodup)(hi:X.N[i]?=some n)(hn:X.env.scope.names.lookup n=some .local)
  (hg:Gl X x)(hm:X.mg x=some (.ref T))(hb:Q2 X body tb)(hs:∀a,tP (X.marked a) (b0::suite) ts)(hd:gu x:=by decide)(hf:X.fn n=true\/X.env.scope.names.lookup n=some .local:=by first|exact .inl rfl|exact .inr rfl|assumption):
  PS X (.Try body [.ExceptHandler (some (.Name x np)) (some n) (b0::suite) hp] [] [] pos) (SA X.K T i tb ts):=by
 intro pins s Y H D I h;refine wpAny_Try_except (wpAny_mono (hb pins s Y H D _ I h) (λf s1 z=>?_) λev s1 z=>?_)
 .cases f with
  |next=>exact wpAny_execs_nil z
  |_=>exact z
 obtain⟨a,C,j,Hc,sc,H',rfl,Ic,fl,C',e',hx,q⟩:=z;cases e';obtain⟨base,a0,f0,hb0⟩:=fl.fl;have hA:X.A.frames=some (X.env::X.outer):=hst▸I.ok.frames;rw[hst] at f0;refine wpAny_looks_onW hA hfr f0 λh1 held up1=>?_;refine wpAny_landsW held λh2 fl2 up2=>?_;have fly2:B3 X.prog X.w X.stack Hc sc a C H' { s1 with heap:=h2 }:=tL fl (hst▸f0) hb0 (hst▸fl2) (up1.trans up2);have back:∀{s2:Shared},B3 X.prog X.w X.stack Hc sc a C H' s2->Inv X pins j H' s2:=λy=>Ic.Jz (ch:=[]) y.os y.un y.hok y.bare (λb hb=>nomatch hb);have I2:=back fly2;refine wpAny_handleBy_cons (codeAny_handlers_test ?_) (by intro q;cases q);refine jq (X:=X.marked a) (I2.mark a) hg hm ?_ hd;refine(PySem.W.exm_one (M:=model X.prog X.w) I2.p7 fly2.at.type hx) _ _ _ _ (λ_ _ k=>k) ?_;refine codeAny_handlers_suite_as ?_;obtain⟨base2,a2,f2,hb2⟩:=fly2.fl;refine lands_againW f2 λh3 fl3 up3=>?_;have fly3:=tL fly2 f2 hb2 fl3 up3;have I3:=back fly3;have n1:∀b ob,sc.heap.get? b=some ob->b≠a:=λb ob e z=>by rw[z,fl.new] at e;cases e
 have I4:Inv X pins j (upd H' a (tY a C)) { s1 with heap:=h3 }:=by
  refine I3.OY ?_ ?_ ?_ ?_ fly3.free (ER fly3.at)
  .cases z:X.s₀.heap.get? a with
   |none=>rfl
   |some oa=>obtain⟨o1,e1⟩:=Ic.base.there a oa z (by rw[hex];exact λz=>nomatch z);rw[fl.new] at e1;cases e1
  .obtain⟨m,⟨oL,_,_,eL,_⟩,_⟩:=Ic.loc;exact(n1 _ _ eL).symm
  .intro y c e;obtain⟨v,oc,ec,_⟩:=Ic.cell y c e;exact n1 c oc ec
  .intro p hp;exact n1 _ _ (Ic.pin p hp).1
 refine gm I4 hN hi (.inl hn) (v:=.ref a) rfl (λs5 I5=>?_) hf;refine wpAny_mono (hs a pins s5 _ _ (D.un i) (I5.mark a) (q a fly3.free)) (λf s6 z=>?_) λ_ _ z=>z.elim;cases f with
 |next=>obtain⟨Z,H6,I6,q6⟩:=z;exact jr (I6.unmark I.ok) hN hi hn λs7 I7=>⟨_,_,I7,q6⟩
 |ret u=>obtain⟨v,Z,H6,I6,r6,q6⟩:=z;exact jr (I6.unmark I.ok) hN hi hn λs7 I7=>⟨v,_,_,I7,r6,q6⟩
 |brk=>obtain⟨Z,H6,I6,q6⟩:=z;exact jr (I6.unmark I.ok) hN hi hn λs7 I7=>⟨_,_,I7,q6⟩
 |cont=>obtain⟨Z,H6,I6,q6⟩:=z;exact jr (I6.unmark I.ok) hN hi hn λs7 I7=>⟨_,_,I7,q6⟩
end
def Bd(n:Nat)(x:Int):Prop:=x.natAbs<2^n
variable{m:Nat}
theorem Bd.mono{n:Nat}{x:Int}(h:Bd m x)(k:m<=n):Bd n x:=UZ h (VT (by decide) k)
theorem Bd.bits{n:Nat}{x:Int}(h:Bd n x):YO x<=n:=by
 unfold YO;split
 .exact VM _
 .rename_i z;have h0:x.natAbs≠0:=λq=>z (by simp[Int.natAbs_eq_zero.mp q]);exact(Nat.log2_lt h0).mpr h
variable{y:Int}
theorem Bd.Ra{n:Nat}{x:Int}(h:Bd m x)(k:Bd n y)(P:m+n<=134217728):IntMulOk x y:=IntMulOk.of_le h.bits k.bits P
theorem Bd.mul{n:Nat}{x:Int}(h:Bd m x)(k:Bd n y):Bd (m+n) (x*y):=by unfold Bd at *;rw[YT,Nat.pow_add];exact Nat.mul_lt_mul'' h k
theorem Bd.add{n:Nat}{x:Int}(h:Bd m x)(k:Bd n y):Bd (max m n+1) (x+y):=by have h1:=h.mono (zae m n);have k1:=k.mono (Z6 m n);unfold Bd at *;have:=Int.natAbs_add_le x y;rw[Nat.pow_succ];omega
theorem Bd.neg{n:Nat}{x:Int}(h:Bd n x):Bd n (-x):=by unfold Bd at *;rwa[Int.natAbs_neg]
theorem Bd.sub{n:Nat}{x:Int}(h:Bd m x)(k:Bd n y):Bd (max m n+1) (x-y):=by rw[ZU];exact h.add k.neg
theorem Bd.log{n:Nat}{x:Int}(h:Bd n x)(hn:n<=9000):x.natAbs.log2<9000:=by
 by_cases z:x.natAbs=0
 .rw[z];decide
 .exact UZ ((Nat.log2_lt z).mpr h) hn
section
variable{X:Cx}
def Ud(_ j:Int):Prop:=j≠0/\Bd 9000 j
theorem Fp:eu X (binaryOp .Mult) (rI IntMulOk λi j=>.int (i*j)):=nD λ_ _ _ _ _ _ _ hc q=>mul_int q hc
theorem BO:eu X (binaryOp .FloorDiv) (rI Ud λi j=>.int (i.fdiv j)):=nD λ_ _ _ _ _ _ _ hc q=>floordiv_int hc.1 q (.inl (PyProof.noPylong_of_log2 (hc.2.log (U2 _))))
end
inductive D where
 |non|bl(b:Bool)|int(i:Int)|str(x:Str)|tup(ds:List D)|lst(ds:List D)
mutual
noncomputable def D.eq:D->D->Bool
 | .non,.non=>true
 | .bl a,.bl b=>a==b
 | .bl a,.int b=>(if a then 1 else 0)==b
 | .int a,.bl b=>a==(if b then 1 else 0)
 | .int a,.int b=>a==b
 | .str a,.str b=>a==b
 | .tup xs,.tup ys=>D.eqs xs ys
 | .lst xs,.lst ys=>D.eqs xs ys
 |_,_=>false
noncomputable def D.eqs:List D->List D->Bool
 |[],[]=>true
 |x::xs,y::ys=>D.eq x y&&D.eqs xs ys
 |_,_=>false
end
mutual
noncomputable def D.depth:D->Nat
 | .tup xs=>D.cX xs+1
 | .lst xs=>D.cX xs+1
 |_=>0
noncomputable def D.cX:List D->Nat
 |[]=>0
 |x::xs=>max (D.depth x) (D.cX xs)
end
mutual
theorem D.kY:∀d:D,D.eq d d=true
 | .non=>rfl
 | .bl b=>by simp[D.eq]
 | .int i=>by simp[D.eq]
 | .str x=>by simp[D.eq]
 | .tup xs=>by rw[D.eq];exact D.oB xs
 | .lst xs=>by rw[D.eq];exact D.oB xs
theorem D.oB:∀ds:List D,D.eqs ds ds=true
 |[]=>rfl
 |x::xs=>by rw[D.eqs,D.kY x,D.oB xs];rfl
end
mutual
inductive Den(K:UN)(H:Hp):V->D->Prop
 |non:Den K H .non .non
 |bl(b:Bool):Den K H (.bl b) (.bl b)
 |int(i:Int):Den K H (.int i) (.int i)
 |str(x:Str):Den K H (.str x) (.str x)
 |tup{a:Addr}{xs:List V}{ds:List D}(e:iu K H a xs)(r:gh K H xs ds):Den K H (.ref a) (.tup ds)
 |lst{a:Addr}{xs:List V}{ds:List D}(e:g9 K H a xs)(r:gh K H xs ds):Den K H (.ref a) (.lst ds)
inductive gh(K:UN)(H:Hp):List V->List D->Prop
 |nil:gh K H [] []
 |cons{x:V}{d:D}{xs:List V}{ds:List D}(h:Den K H x d)(r:gh K H xs ds):gh K H (x::xs) (d::ds)
end
theorem gh.len{K:UN}{H:Hp}:∀{xs:List V}{ds:List D},gh K H xs ds->xs.length=ds.length
 |_,_,.nil=>rfl
 |_,_,.cons _ r=>by rw[US,US,r.len]
theorem gh.at{K:UN}{H:Hp}:∀{xs:List V}{ds:List D}(j:Nat){x:V}{d:D},gh K H xs ds->xs[j]?=some x->ds[j]?=some d->Den K H x d
 |_,_,0,_,_,.cons h _,e1,e2=>by cases e1;cases e2;exact h
 |_,_,j+1,_,_,.cons _ r,e1,e2=>r.at j e1 e2
theorem D.qz:∀{ds:List D}(j:Nat){d:D},ds[j]?=some d->D.depth d<=D.cX ds
 |x::xs,0,_,e=>by cases e;exact zae _ _
 |x::xs,j+1,_,e=>Vg (D.qz (ds:=xs) j e) (Z6 _ _)
theorem D.gR:∀(xs ys:List D),D.eqs xs ys=((Vo (min xs.length ys.length)).all (λj=>D.eq (xs.getD j .non) (ys.getD j .non))&&xs.length==ys.length)
 |[],[]=>rfl
 |[],_::_=>rfl
 |_::_,[]=>rfl
 |x::xs,y::ys=>by
  rw[D.eqs,D.gR xs ys,US,US,Nat.succ_min_succ,List.range_succ_eq_map,Vp,Zf];have e:(xs.length+1==ys.length+1)=(xs.length==ys.length):=by rw[XF];simp
  rw[e,Bool.and_assoc];rfl
variable{xs ys:List V}{u v:Value}
section
variable{X:Cx}{pins:List (Addr×Obj)}{Y:St}{H:Hp}{s:Shared}
theorem yb{a:Addr}(I:Inv X pins Y H s)(h1:iu X.K H a xs)(h2:g9 X.K H a ys):False:=by obtain⟨_,_,⟨o,e,c,_⟩,_⟩:=I.tuple h1;obtain⟨_,_,⟨o',p,f,t,_,d'⟩,_⟩:=I.list h2;rw[e] at f;cases f;rw[c] at t;injection t with q;exact absurd q (by decide)
mutual
theorem Den.inj(I:Inv X pins Y H s):∀{v:V}{d e:D},Den X.K H v d->Den X.K H v e->d=e
 |_,_,_,.non,h=>by cases h;rfl
 |_,_,_,.bl b,h=>by cases h;rfl
 |_,_,_,.int i,h=>by cases h;rfl
 |_,_,_,.str x,h=>by cases h;rfl
 |_,_,_,.tup e r,h=>by
  cases h with
  |tup f r'=>cases I.p6 e f;rw[gh.inj I r r']
  |lst f r'=>exact(yb I e f).elim
 |_,_,_,.lst e r,h=>by
  cases h with
  |lst f r'=>cases I.sT e f;rw[gh.inj I r r']
  |tup f r'=>exact(yb I f e).elim
theorem gh.inj(I:Inv X pins Y H s):∀{v:List V}{d e:List D},gh X.K H v d->gh X.K H v e->d=e
 |_,_,_,.nil,h=>by cases h;rfl
 |_,_,_,.cons a r,h=>by
  cases h with
  |cons a' r'=>rw[Den.inj I a a',gh.inj I r r']
end
theorem pF(I:Inv X pins Y H s){A:Around}{x y:V}{d e:D}(f:A.units<cLine)(hf:iT x=true)(hd:Den X.K H x d)(he:Den X.K H y e)(J:RelV x u)(t:RelV y v):Xv A s u v (D.eq d e):=by
 cases hd with
 |tup=>cases hf
 |lst=>cases hf
 |non =>
  cases he with
  |tup q r=>cases J;cases t;rw[D.eq.eq_def];obtain⟨_,_,p,_⟩:=I.tuple q;exact .none_tuple p f
  |lst q r=>cases J;cases t;rw[D.eq.eq_def];obtain⟨_,_,p,_⟩:=I.list q;exact .none_list p.isList f
  |non => exact cy J t rfl rfl
  |bl b1=>exact cy J t rfl rfl
  |int o=>exact cy J t rfl rfl
  |str a=>exact cy J t rfl rfl
 |bl n=>
  cases he with
  |tup q r=>cases J;cases t;rw[D.eq.eq_def];obtain⟨_,_,p,_⟩:=I.tuple q;exact .bool_tuple _ p f
  |lst q r=>cases J;cases t;rw[D.eq.eq_def];obtain⟨_,_,p,_⟩:=I.list q;exact .bool_list _ p.isList f
  |non => exact cy J t rfl rfl
  |bl b1=>exact cy J t rfl rfl
  |int o=>exact cy J t rfl rfl
  |str a=>exact cy J t rfl rfl
 |int w=>
  cases he with
  |tup q r=>obtain⟨_,rfl⟩:=J;cases t;rw[D.eq.eq_def];obtain⟨_,_,p,_⟩:=I.tuple q;exact .int_tuple _ _ p f
  |lst q r=>obtain⟨_,rfl⟩:=J;cases t;rw[D.eq.eq_def];obtain⟨_,_,p,_⟩:=I.list q;exact .int_list _ _ p.isList f
  |non => exact cy J t rfl rfl
  |bl b1=>exact cy J t rfl rfl
  |int o=>exact cy J t rfl rfl
  |str a=>exact cy J t rfl rfl
 |str x0=>
  cases he with
  |tup q r=>obtain⟨_,rfl⟩:=J;cases t;rw[D.eq.eq_def];obtain⟨_,_,p,_⟩:=I.tuple q;exact .str_tuple _ _ p f
  |lst q r=>obtain⟨_,rfl⟩:=J;cases t;rw[D.eq.eq_def];obtain⟨_,_,p,_⟩:=I.list q;exact .str_list _ _ p.isList f
  |non => exact cy J t rfl rfl
  |bl b1=>exact cy J t rfl rfl
  |int o=>exact cy J t rfl rfl
  |str a=>exact cy J t rfl rfl
theorem Vals.QG(r:Vals xs us){j:Nat}(N:j<us.toArray.size):∃x,xs[j]?=some x/\RelV x us.toArray[j]:=by
 have hl:=r.length;have v:j<us.length:=by simpa using N
 have y:j<xs.length:=by omega
 obtain⟨u,e,J⟩:=r.get (Ve y);rw[Ve v] at e;cases e;exact⟨xs[j],Ve y,by simpa using J⟩
theorem gh.getD{K:UN}{H:Hp}{xs:List V}{ds:List D}(r:gh K H xs ds){j:Nat}{x:V}(e:xs[j]?=some x):Den K H x (ds.getD j .non)/\D.depth (ds.getD j .non)<=D.cX ds:=by
 have N:j<ds.length:=by rw[<-r.len];exact(UQ.mp e).1
 have e2:ds[j]?=some ds[j]:=Ve N;have e3:ds.getD j .non=ds[j]:=by rw[VW,e2];rfl
 rw[e3];exact⟨r.at j e e2,D.qz j e2⟩
theorem lA(I:Inv X pins Y H s){n:Nat}(o:∀{A:Around}{x y:V}{d e:D}{u v:Value},A.units+n<cLine->D.depth d<=n->Den X.K H x d->Den X.K H y e->RelV x u->RelV y v->Xv A s u v (D.eq d e))
  {A:Around}(f:A.units+(n+1)<cLine){ds es:List D}(hn:D.cX ds<=n)(r:gh X.K H xs ds)(q:gh X.K H ys es)(J:Vals xs us)(t:Vals ys vs):
  ∀j (h1:j<us.toArray.size) (h2:j<vs.toArray.size),Xv A.in1 s us.toArray[j] vs.toArray[j] (D.eq (ds.getD j .non) (es.getD j .non)):=λj h1 h2=>by
 obtain⟨x,ex,b⟩:=J.QG h1;obtain⟨y,Q,z⟩:=t.QG h2;obtain⟨a,w⟩:=r.getD ex;exact o (by show A.units+1+n<cLine;omega) (Vg w hn) a (q.getD Q).1 b z
theorem iz(I:Inv X pins Y H s):∀(n:Nat){A:Around}{x y:V}{d e:D}{u v:Value},A.units+n<cLine->D.depth d<=n->Den X.K H x d->Den X.K H y e->RelV x u->RelV y v->Xv A s u v (D.eq d e):=by
 intro n;induction n with
 |zero=>
  intro A x y d e u v f hn hd he J t;cases id hd with
  |tup=>simp[D.depth] at hn
  |lst=>simp[D.depth] at hn
  |_=>exact pF I f rfl hd he J t
 |succ n j=>
  intro A x y d e u v f hn hd he J t;have q:A.units<cLine:=by omega
  cases id hd with
  |@tup a xs ds w r=>
   cases J;obtain⟨us,E,p,_⟩:=I.tuple w;cases id he with
   |@tup b ys es T h=>
    cases t;obtain⟨vs,o,S,_⟩:=I.tuple T;by_cases Q:a=b
    .subst Q;rw[hd.inj I he,D.kY];exact .same _
    .refine .of_refs Q ?_;rw[D.eq.eq_def];simp only[];rw[D.gR];have B:us.toArray.size=ds.length:=by rw[UT,<-E.length,r.len]
     have C:vs.toArray.size=es.length:=by rw[UT,<-o.length,h.len]
     rw[<-B,<-C];exact .tuples p S q (lA I j f (by rw[D.depth] at hn;omega) r h E o)
   |@lst b ys es T h=>cases t;obtain⟨vs,o,S,_⟩:=I.list T;rw[D.eq.eq_def];exact .tuple_list p S.isList q
   |non => cases t;rw[D.eq.eq_def];exact .tuple_none p q
   |bl F=>cases t;rw[D.eq.eq_def];exact .tuple_bool _ p q
   |int G=>obtain⟨_,rfl⟩:=t;rw[D.eq.eq_def];exact .tuple_int _ _ p q
   |str x0=>obtain⟨_,rfl⟩:=t;rw[D.eq.eq_def];exact .tuple_str _ _ p q
  |@lst a xs ds w r=>
   cases J;obtain⟨us,E,p,_⟩:=I.list w;cases id he with
   |@lst b ys es T h=>
    cases t;obtain⟨vs,o,S,_⟩:=I.list T;by_cases Q:a=b
    .subst Q;rw[hd.inj I he,D.kY];exact .same _
    .refine .of_refs Q ?_;rw[D.eq.eq_def];simp only[];rw[D.gR];have B:us.toArray.size=ds.length:=by rw[UT,<-E.length,r.len]
     have C:vs.toArray.size=es.length:=by rw[UT,<-o.length,h.len]
     rw[<-B,<-C];by_cases hl:us.toArray.size=vs.toArray.size
     .have e1:(us.toArray.size==vs.toArray.size)=true:=beq_iff_eq.mpr hl;rw[e1,X7,<-hl,Zl];exact .lists p.isList S.isList hl q (lA I j f (by rw[D.depth] at hn;omega) r h E o)
     .have e1:(us.toArray.size==vs.toArray.size)=false:=beq_eq_false_iff_ne.mpr hl;rw[e1,W5];exact .lists_lengths p.isList S.isList (by simpa using hl) q
   |@tup b ys es T h=>cases t;obtain⟨vs,o,S,_⟩:=I.tuple T;rw[D.eq.eq_def];exact .list_tuple p.isList S q
   |non => cases t;rw[D.eq.eq_def];exact .list_none p.isList q
   |bl F=>cases t;rw[D.eq.eq_def];exact .list_bool _ p.isList q
   |int G=>obtain⟨_,rfl⟩:=t;rw[D.eq.eq_def];exact .list_int _ _ p.isList q
   |str x0=>obtain⟨_,rfl⟩:=t;rw[D.eq.eq_def];exact .list_str _ _ p.isList q
  |_=>exact pF I q rfl hd he J t
end
section
variable{X:Cx}{pins:List (Addr×Obj)}{Y:St}{H:Hp}{s:Shared}
theorem DG(I:Inv X pins Y H s){n:Nat}{A:Around}{x y:V}{d e:D}(f:A.units+n<cLine)(hn:D.depth d<=n)(hd:Den X.K H x d)(he:Den X.K H y e)(J:RelV x u)(t:RelV y v):SeqAt.RcAt A s u v (D.eq d e):=by
 have q:A.units<cLine:=by omega
 cases id hd with
 |non =>
  cases J;cases id he with
  |non => cases t;rw[D.eq.eq_def];exact .none_none
  |bl o=>cases t;rw[D.eq.eq_def];exact .none_bool _
  |int o=>obtain⟨_,rfl⟩:=t;rw[D.eq.eq_def];exact .none_int _ _
  |str o=>obtain⟨_,rfl⟩:=t;rw[D.eq.eq_def];exact .none_str _ _
  |@tup b ys es T h=>cases t;rw[D.eq.eq_def];obtain⟨_,_,S,_⟩:=I.tuple T;exact .none_tuple S q
  |@lst b ys es T h=>cases t;rw[D.eq.eq_def];obtain⟨_,_,S,_⟩:=I.list T;exact .none_list S.isList q
 |bl O=>
  cases J;cases id he with
  |non => cases t;rw[D.eq.eq_def];exact .bool_none _
  |bl o=>cases t;rw[D.eq.eq_def];exact .bool_bool _ _
  |int o=>obtain⟨_,rfl⟩:=t;rw[D.eq.eq_def];exact .bool_int _ _ _
  |str o=>obtain⟨_,rfl⟩:=t;rw[D.eq.eq_def];exact .bool_str _ _ _
  |@tup b ys es T h=>cases t;rw[D.eq.eq_def];obtain⟨_,_,S,_⟩:=I.tuple T;exact .bool_tuple _ S q
  |@lst b ys es T h=>cases t;rw[D.eq.eq_def];obtain⟨_,_,S,_⟩:=I.list T;exact .bool_list _ S.isList q
 |int O=>
  obtain⟨_,rfl⟩:=J;cases id he with
  |non => cases t;rw[D.eq.eq_def];exact .int_none _ _
  |bl o=>cases t;rw[D.eq.eq_def];exact .int_bool _ _ _
  |int o=>obtain⟨_,rfl⟩:=t;rw[D.eq.eq_def];exact .int_int _ _ _ _
  |str o=>obtain⟨_,rfl⟩:=t;rw[D.eq.eq_def];exact .int_str _ _ _ _
  |@tup b ys es T h=>cases t;rw[D.eq.eq_def];obtain⟨_,_,S,_⟩:=I.tuple T;exact .int_tuple _ _ S q
  |@lst b ys es T h=>cases t;rw[D.eq.eq_def];obtain⟨_,_,S,_⟩:=I.list T;exact .int_list _ _ S.isList q
 |str O=>
  obtain⟨_,rfl⟩:=J;cases id he with
  |non => cases t;rw[D.eq.eq_def];exact .str_none _ _
  |bl o=>cases t;rw[D.eq.eq_def];exact .str_bool _ _ _
  |int o=>obtain⟨_,rfl⟩:=t;rw[D.eq.eq_def];exact .str_int _ _ _ _
  |str o=>obtain⟨_,rfl⟩:=t;rw[D.eq.eq_def];exact .str_str _ _ _ _
  |@tup b ys es T h=>cases t;rw[D.eq.eq_def];obtain⟨_,_,S,_⟩:=I.tuple T;exact .str_tuple _ _ S q
  |@lst b ys es T h=>cases t;rw[D.eq.eq_def];obtain⟨_,_,S,_⟩:=I.list T;exact .str_list _ _ S.isList q
 |@tup a xs ds w r=>
  cases J;obtain⟨us,E,p,_⟩:=I.tuple w;cases id he with
  |non => cases t;rw[D.eq.eq_def];exact .tuple_none p q
  |bl o=>cases t;rw[D.eq.eq_def];exact .tuple_bool _ p q
  |int o=>obtain⟨_,rfl⟩:=t;rw[D.eq.eq_def];exact .tuple_int _ _ p q
  |str o=>obtain⟨_,rfl⟩:=t;rw[D.eq.eq_def];exact .tuple_str _ _ p q
  |@tup b ys es T h=>
   cases t;obtain⟨vs,L,S,_⟩:=I.tuple T;rw[D.depth] at hn;obtain⟨n,rfl⟩:∃m,n=m+1:=⟨n-1,by omega⟩
   rw[D.eq.eq_def];simp only[];rw[D.gR];have B:us.toArray.size=ds.length:=by rw[UT,<-E.length,r.len]
   have C:vs.toArray.size=es.length:=by rw[UT,<-L.length,h.len]
   rw[<-B,<-C];exact .tuples p S q (lA I (iz I n) f (by omega) r h E L)
  |@lst b ys es T h=>cases t;rw[D.eq.eq_def];obtain⟨_,_,S,_⟩:=I.list T;exact .tuple_list p S.isList q
 |@lst a xs ds w r=>
  cases J;obtain⟨us,E,p,_⟩:=I.list w;cases id he with
  |non => cases t;rw[D.eq.eq_def];exact .list_none p.isList q
  |bl o=>cases t;rw[D.eq.eq_def];exact .list_bool _ p.isList q
  |int o=>obtain⟨_,rfl⟩:=t;rw[D.eq.eq_def];exact .list_int _ _ p.isList q
  |str o=>obtain⟨_,rfl⟩:=t;rw[D.eq.eq_def];exact .list_str _ _ p.isList q
  |@tup b ys es T h=>cases t;rw[D.eq.eq_def];obtain⟨_,_,S,_⟩:=I.tuple T;exact .list_tuple p.isList S q
  |@lst b ys es T h=>
   cases t;obtain⟨vs,L,S,_⟩:=I.list T;rw[D.depth] at hn;obtain⟨n,rfl⟩:∃m,n=m+1:=⟨n-1,by omega⟩
   rw[D.eq.eq_def];simp only[];rw[D.gR];have B:us.toArray.size=ds.length:=by rw[UT,<-E.length,r.len]
   have C:vs.toArray.size=es.length:=by rw[UT,<-L.length,h.len]
   rw[<-B,<-C];by_cases hl:us.toArray.size=vs.toArray.size
   .have e1:(us.toArray.size==vs.toArray.size)=true:=beq_iff_eq.mpr hl;rw[e1,X7,<-hl,Zl];exact .lists p.isList S.isList hl q (lA I (iz I n) f (by omega) r h E L)
   .have e1:(us.toArray.size==vs.toArray.size)=false:=beq_eq_false_iff_ne.mpr hl;rw[e1,W5];exact .lists_lengths p.isList S.isList (by simpa using hl) q
theorem wu(I:Inv X pins Y H s){n:Nat}{A:Around}{x y:V}{d e:D}(f:A.units+n<cLine)(hn:D.depth d<=n)(hd:Den X.K H x d)(he:Den X.K H y e)(J:RelV x u)(t:RelV y v):SeqAt.RcNeAt A s u v (!D.eq d e):=by
 have q:A.units<cLine:=by omega
 cases id hd with
 |non =>
  cases J;cases id he with
  |non => cases t;rw[D.eq.eq_def];exact .none_none
  |bl o=>cases t;rw[D.eq.eq_def];exact .none_bool _
  |int o=>obtain⟨_,rfl⟩:=t;rw[D.eq.eq_def];exact .none_int _ _
  |str o=>obtain⟨_,rfl⟩:=t;rw[D.eq.eq_def];exact .none_str _ _
  |@tup b ys es T h=>cases t;rw[D.eq.eq_def];obtain⟨_,_,S,_⟩:=I.tuple T;exact .none_tuple S q
  |@lst b ys es T h=>cases t;rw[D.eq.eq_def];obtain⟨_,_,S,_⟩:=I.list T;exact .none_list S.isList q
 |bl O=>
  cases J;cases id he with
  |non => cases t;rw[D.eq.eq_def];exact .bool_none _
  |bl o=>cases t;rw[D.eq.eq_def];exact .bool_bool _ _
  |int o=>obtain⟨_,rfl⟩:=t;rw[D.eq.eq_def];exact .bool_int _ _ _
  |str o=>obtain⟨_,rfl⟩:=t;rw[D.eq.eq_def];exact .bool_str _ _ _
  |@tup b ys es T h=>cases t;rw[D.eq.eq_def];obtain⟨_,_,S,_⟩:=I.tuple T;exact .bool_tuple _ S q
  |@lst b ys es T h=>cases t;rw[D.eq.eq_def];obtain⟨_,_,S,_⟩:=I.list T;exact .bool_list _ S.isList q
 |int O=>
  obtain⟨_,rfl⟩:=J;cases id he with
  |non => cases t;rw[D.eq.eq_def];exact .int_none _ _
  |bl o=>cases t;rw[D.eq.eq_def];exact .int_bool _ _ _
  |int o=>obtain⟨_,rfl⟩:=t;rw[D.eq.eq_def];exact .int_int _ _ _ _
  |str o=>obtain⟨_,rfl⟩:=t;rw[D.eq.eq_def];exact .int_str _ _ _ _
  |@tup b ys es T h=>cases t;rw[D.eq.eq_def];obtain⟨_,_,S,_⟩:=I.tuple T;exact .int_tuple _ _ S q
  |@lst b ys es T h=>cases t;rw[D.eq.eq_def];obtain⟨_,_,S,_⟩:=I.list T;exact .int_list _ _ S.isList q
 |str O=>
  obtain⟨_,rfl⟩:=J;cases id he with
  |non => cases t;rw[D.eq.eq_def];exact .str_none _ _
  |bl o=>cases t;rw[D.eq.eq_def];exact .str_bool _ _ _
  |int o=>obtain⟨_,rfl⟩:=t;rw[D.eq.eq_def];exact .str_int _ _ _ _
  |str o=>obtain⟨_,rfl⟩:=t;rw[D.eq.eq_def];exact .str_str _ _ _ _
  |@tup b ys es T h=>cases t;rw[D.eq.eq_def];obtain⟨_,_,S,_⟩:=I.tuple T;exact .str_tuple _ _ S q
  |@lst b ys es T h=>cases t;rw[D.eq.eq_def];obtain⟨_,_,S,_⟩:=I.list T;exact .str_list _ _ S.isList q
 |@tup a xs ds w r=>
  cases J;obtain⟨us,E,p,_⟩:=I.tuple w;cases id he with
  |non => cases t;rw[D.eq.eq_def];exact .tuple_none p q
  |bl o=>cases t;rw[D.eq.eq_def];exact .tuple_bool _ p q
  |int o=>obtain⟨_,rfl⟩:=t;rw[D.eq.eq_def];exact .tuple_int _ _ p q
  |str o=>obtain⟨_,rfl⟩:=t;rw[D.eq.eq_def];exact .tuple_str _ _ p q
  |@tup b ys es T h=>
   cases t;obtain⟨vs,L,S,_⟩:=I.tuple T;rw[D.depth] at hn;obtain⟨n,rfl⟩:∃m,n=m+1:=⟨n-1,by omega⟩
   rw[D.eq.eq_def];simp only[];rw[D.gR];have B:us.toArray.size=ds.length:=by rw[UT,<-E.length,r.len]
   have C:vs.toArray.size=es.length:=by rw[UT,<-L.length,h.len]
   rw[<-B,<-C];exact .tuples p S q (lA I (iz I n) f (by omega) r h E L)
  |@lst b ys es T h=>cases t;rw[D.eq.eq_def];obtain⟨_,_,S,_⟩:=I.list T;exact .tuple_list p S.isList q
 |@lst a xs ds w r=>
  cases J;obtain⟨us,E,p,_⟩:=I.list w;cases id he with
  |non => cases t;rw[D.eq.eq_def];exact .list_none p.isList q
  |bl o=>cases t;rw[D.eq.eq_def];exact .list_bool _ p.isList q
  |int o=>obtain⟨_,rfl⟩:=t;rw[D.eq.eq_def];exact .list_int _ _ p.isList q
  |str o=>obtain⟨_,rfl⟩:=t;rw[D.eq.eq_def];exact .list_str _ _ p.isList q
  |@tup b ys es T h=>cases t;rw[D.eq.eq_def];obtain⟨_,_,S,_⟩:=I.tuple T;exact .list_tuple p.isList S q
  |@lst b ys es T h=>
   cases t;obtain⟨vs,L,S,_⟩:=I.list T;rw[D.depth] at hn;obtain⟨n,rfl⟩:∃m,n=m+1:=⟨n-1,by omega⟩
   rw[D.eq.eq_def];simp only[];rw[D.gR];have B:us.toArray.size=ds.length:=by rw[UT,<-E.length,r.len]
   have C:vs.toArray.size=es.length:=by rw[UT,<-L.length,h.len]
   rw[<-B,<-C];by_cases hl:us.toArray.size=vs.toArray.size
   .have e1:(us.toArray.size==vs.toArray.size)=true:=beq_iff_eq.mpr hl;rw[e1,X7,<-hl,Zl];exact .lists p.isList S.isList hl q (lA I (iz I n) f (by omega) r h E L)
   .have e1:(us.toArray.size==vs.toArray.size)=false:=beq_eq_false_iff_ne.mpr hl;rw[e1,W5];exact .lists_lengths p.isList S.isList (by simpa using hl) q
def Ph(K:UN):R2:=λx y H Q=>∃d e,Den K H x d/\Den K H y e/\D.depth d<=40/\Q (.bl (D.eq d e)) H
def O9(K:UN):R2:=λx y H Q=>∃d e,Den K H x d/\Den K H y e/\D.depth d<=40/\Q (.bl (!D.eq d e)) H
theorem Bx(f:X.A.units+64<cLine):eu X (compareOp .Eq) (Ph X.K):=by intro pins s Y H x y v u Q I b z h;obtain⟨d,e,hd,he,dp,q⟩:=h;exact DG I (n:=64) f (by omega) hd he b z _ _ _ _ ⟨.bl _,H,I,rfl,q⟩
theorem lC(f:X.A.units+64<cLine):eu X (compareOp .NotEq) (O9 X.K):=by intro pins s Y H x y v u Q I b z h;obtain⟨d,e,hd,he,dp,q⟩:=h;exact wu I (n:=64) f (by omega) hd he b z _ _ _ _ ⟨.bl _,H,I,rfl,q⟩
inductive xy(K:UN)(H:Hp):V->Value->Prop where
 |of{v:V}{t:Value}(h:mK K H v t):xy K H v t
 |tup{a:Addr}{xs:List V}(e:iu K H a xs):xy K H (.ref a) (.type "tuple")
 |lst{a:Addr}{xs:List V}(e:g9 K H a xs):xy K H (.ref a) (.type "list")
 |exc{a C:Addr}(e:H a=some (tY a C))(c:gU K C):xy K H (.ref a) (.ref C)
 |aP{a:Addr}{kvs:List (Key×V)}(e:Rd H a (.dK kvs)):xy K H (.ref a) (.type "dict")
noncomputable def ir:V->Value
 | .ref a=>.ref a
 | .ty n=>.type n
 |_=>.none
noncomputable def eJ:V->Bool
 | .ref _=>true
 | .ty _=>true
 |_=>false
theorem xx{x:V}(h:eJ x=true)(r:RelV x u):u=ir x:=by cases x<;>first|exact r|cases h
theorem uv:∀{xs:List V}{us:List Value},xs.all eJ=true->Vals xs us->us=xs.map ir
 |_,_,_,.nil=>rfl
 |_,_,h,.cons r t=>by rw[Vp,UO] at h;rw[U3,xx h.1 r,uv h.2 t]
theorem ow{pins:List (Addr×Obj)}{x:V}{t:Value}(I:Inv X pins Y H s)(b:RelV x u)(ty:xy X.K H x t):∃P,PySem.W.KitX X.K u t P/\P s.heap/\u≠.builtin "__main__.__loader__#opaque" := by
 cases ty with
 |tup e=>cases b;obtain⟨_,_,⟨o,h1,h2,_⟩,_⟩:=I.tuple e;exact⟨_,Zm,⟨o,h1,h2⟩,λz=>nomatch z⟩
 |lst e=>cases b;obtain⟨_,_,⟨o,_,h1,h2,_⟩,_⟩:=I.list e;exact⟨_,X8,⟨o,h1,h2⟩,λz=>nomatch z⟩
 |aP e=>cases b;obtain⟨_,_,vs,_,o,es,ep,h1,h2,_⟩:=dS I.hok e;exact⟨_,X9,⟨o,h1,h2.1⟩,λz=>nomatch z⟩
 |exc e c=>
  cases b;obtain⟨p,_⟩:=(show ba X.prog X.w H s.heap _ (tY _ _) from I.hok _ _ e)
  exact⟨_,Dy c,p,λz=>nomatch z⟩
 |of h=>
  cases h with
  |non=>cases b;exact⟨_,PySem.W.kitx_none,trivial,λz=>nomatch z⟩
  |bl y=>cases b;exact⟨_,PySem.W.kitx_bool,trivial,λz=>nomatch z⟩
  |int i=>obtain⟨_,rfl⟩:=b;exact⟨_,PySem.W.kitx_int,trivial,λz=>nomatch z⟩
  |str i=>obtain⟨_,rfl⟩:=b;exact⟨_,PySem.W.kitx_str,trivial,λz=>nomatch z⟩
  |flt i=>obtain⟨_,rfl⟩:=b;exact⟨_,PySem.W.kitx_float,trivial,λz=>nomatch z⟩
  |@lst a xs r=>
   cases b;obtain⟨_,_,n,_,h1⟩:=(show ba X.prog X.w H s.heap a (.lst xs) from I.hok a _ r)
   exact⟨_,X8,⟨_,h1,rfl⟩,λz=>nomatch z⟩
  |@frz a ob xs r=>
   cases b;obtain⟨_,_,_,n,_,h1⟩:=(show ba X.prog X.w H s.heap a (.frz ob (.lst xs)) from I.hok a _ r)
   exact⟨_,X8,⟨_,h1,rfl⟩,λz=>nomatch z⟩
  |@tup a xs r=>
   cases b;obtain⟨_,_,_,o,h1,h2,_⟩:=(show ba X.prog X.w H s.heap a (.tup xs) from I.hok a _ r)
   exact⟨_,Zm,⟨o,h1,h2⟩,λz=>nomatch z⟩
  |@dK a kvs r=>
   cases b;obtain⟨_,_,vs,_,o,es,ep,h1,h2,_⟩:=(show ba X.prog X.w H s.heap a (.dK kvs) from I.hok a _ r)
   exact⟨_,X9,⟨o,h1,h2.1⟩,λz=>nomatch z⟩
  |@dT a kvs r=>
   cases b;obtain⟨_,_,xs,_,o,es,ep,h1,h2,_⟩:=(show ba X.prog X.w H s.heap a (.dT kvs) from I.hok a _ r)
   exact⟨_,X9,⟨o,h1,h2.1⟩,λz=>nomatch z⟩
  |@ins a C dx fs r cl ha hn htk hm=>cases b;obtain⟨mA,O,_⟩:=m7 I.hok r;obtain⟨od,J,_⟩:=O.look;exact⟨_,PySem.W.kitx_own (cl.get _) cl.hd ha hn htk hm,J,λz=>nomatch z⟩
theorem ub:bF X (.builtin "isinstance") (λxs H Q=>∃x c t b,xs=[x,c]/\xy X.K H x t/\eJ c=true/\Vt X.K t (ir c)=some b/\Q (.bl b) H):=by intro pins s Y H xs us Q I r h;obtain⟨x,c,t,b,rfl,ty,hc,hk,q⟩:=h;obtain⟨u,a,rfl,J,L⟩:=vals2 r;rw[xx hc L];obtain⟨P,Z,p,nb⟩:=ow I J ty;exact PySem.W.kia_one Z I.p7 p hk nb λtk=>⟨.bl b,H,I.tok tk,rfl,q⟩
theorem zD:bF X (.builtin "isinstance") (λxs H Q=>∃x a cs t b,xs=[x,.ref a]/\H a=some (.tup cs)/\cs.all eJ=true/\xy X.K H x t/\V9 X.K t (cs.map ir)=some b/\Q (.bl b) H):=by
 intro pins s Y H xs us Q I r h;obtain⟨x,a,cs,t,b,rfl,ha,hc,ty,hk,q⟩:=h;obtain⟨u,S,rfl,J,L⟩:=vals2 r;cases L;obtain⟨P,Z,p,nb⟩:=ow I J ty;obtain⟨_,its,D,o,e,c,n,dd,_⟩:=(show ba X.prog X.w H s.heap a (.tup cs) from I.hok a _ ha)
 obtain⟨oc,od,v,osl⟩:=o;simp only at c dd;subst c dd;rw[uv hc D] at e;exact PySem.W.kia_tup Z I.p7 p e hk nb λtk=>⟨.bl b,H,I.tok tk,rfl,q⟩
end
theorem J6:bootBuiltins "len" = some (.builtin "len"):=by decide +kernel
theorem fO:bootBuiltins "isinstance" = some (.builtin "isinstance"):=by decide +kernel
theorem Nk:bootBuiltins "abs" = some (.builtin "abs"):=by decide +kernel
theorem LQ:bootBuiltins "max" = some (.builtin "max"):=by decide +kernel
theorem ME:bootBuiltins "min" = some (.builtin "min"):=by decide +kernel
theorem qG:bootBuiltins "sorted" = some (.builtin "sorted"):=by decide +kernel
theorem Cs:bootBuiltins "all" = some (.builtin "all"):=by decide +kernel
theorem B8:bootBuiltins "int" = some (.type "int"):=by decide +kernel
theorem Gn:bootBuiltins "bool" = some (.type "bool"):=by decide +kernel
theorem Mf:bootBuiltins "str" = some (.type "str"):=by decide +kernel
theorem um:bootBuiltins "tuple" = some (.type "tuple"):=by decide +kernel
theorem xV:bootBuiltins "list" = some (.type "list"):=by decide +kernel
theorem xD:bootBuiltins "dict" = some (.type "dict"):=by decide +kernel
theorem AA:Passes (sd P w) X E0:=λ_ _ _ _ _ _ _ ⟨_,_,_,_,_,z⟩=>z.elim
structure rp(K:UN)(x qual:Str)(st:Stmt)(f:Addr)(fd:FuncData)(dV:Value):Prop where
 ex:∃(oc:Value)(od:Option Addr)(kV doc pm:Value)(an:Option Addr)(cdv ct:Value)(osl:Array (Option Value)),
  fd=X1 x qual (dO st) (dy st) (aZ st) dV kV doc pm an cdv ct/\K.lookup f=some ⟨oc,od,.func fd,osl⟩/\XD K cdv qual=true
 kp:VJ K (.ref f)=true
section
variable{P:Program}{w:World}{K:UN}{mg:Str->Option Value}{base:Heap}{dV:Value}
theorem rp.ok{qual:Str}{st:Stmt}{f:Addr}{fd:FuncData}{ps:List Str}{k:Nat}{sp:Sp}(F:rp K x qual st f fd dV)(S:kT N ps (aZ st))(len:∀vs H Q E,sp vs H Q E->vs.length=ps.length)
  (U:∀(cdv:Value)(A:Around)(outer:List Env)(s:Shared)(H:Hp)(vs:List V)(Q:VK)(E:XK),cp k (A.deeper (envOfC qual (aZ st) s.heap.objs.size f cdv))->sp vs H Q E->
   ∃t,tP (uH (sd P w) P w K mg base N qual (aZ st) f cdv A outer s H E) (dy st) t/\t { nx:=λ_ H'=>Q .non H',rt:=Q } (start N vs) H):cV P w K mg base (sd P w) (k+1) f fd ps sp:=by
 obtain⟨oc,od,kV,doc,pm,an,cdv,ct,osl,rfl,L,p⟩:=F.ex;exact Rg L p S len λA outer s H vs Q E l a=>U cdv A outer s H vs Q E l a
end
@[irreducible] def QS (X:Cx) (s:Stmt) (t:TS):Prop:=PS X s t
@[irreducible] def QT (X:Cx) (s:Expr) (t:TT):Prop:=PT X s t
@[irreducible] def QA (X:Cx) (s:List Expr) (t:TA):Prop:=PA X s t
set_option autoImplicit true
set_option relaxedAutoImplicit true
variable{elt:Expr}
section
variable{prog:Program}{w:World}{A:Around}{R:Result->Shared->Prop}{s:Shared}
theorem rJ{u iter:Expr}{ifs:List Expr}{it acc:Value}(I:Nat->Shared->Prop)
  (B:∀n s,I n s->wpAny (model prog w) A (pyNext it) (λr Z=>match r with
   |none=>R (.ok .next) Z
   | some v=>wpAny (model prog w) A (letOwnedTupleGo u it v) (λ_ H=>wpAny (model prog w) A (assign u env v) (λ_ U=>
     wpAny (model prog w) A (forIn ifs true λc r=>if r=true then do let ok <- isTrue c env (eval c env);pure (Wv ok) else pure (Wv r)) (λok V=>
      if ok=true then wpAny (model prog w) A (eval elt env) (λx Y=>wpAny (model prog w) A (call (.builtin "list.append") [acc,x]) (λ_ Q=>∃m,m<n/\I m Q) (λ_ _=>False) Y) (λ_ _=>False) V
      else ∃m,m<n/\I m V) (λ_ _=>False) U) (λ_ _=>False) H) (λ_ _=>False) Z) (λ_ _=>False) s)
  (n:Nat) (h:I n s):codeAny (model prog w) A (.compLoop (.ListComp elt [⟨u,iter,ifs,0⟩] scope pos) 0 it acc env) R s:=by
 refine codeAny_loop rfl I (λn s G=>?_) n h;show wpAny _ A ((compTurn (.ListComp elt [⟨u,iter,ifs,0⟩] scope pos) 0 it acc env).onRaise (λx=>do noteFrame x env;theTreesLotGoes x)) _ _ s;refine wpAny_noted ?_;rw[compTurn_list];refine wpAny_bind (wpAny_standAt (wpAny_bind (wpAny_mono (B n s G) (λr Z h₁=>?_) λ_ _ h'=>h'.elim)));cases r with
 |none=>exact wpAny_pure h₁
 |some v=>
  refine wpAny_bind (wpAny_mono h₁ (λ_ H q=>?_) λ_ _ h'=>h'.elim);refine wpAny_bind (wpAny_mono q (λ_ U y=>wpAny_bind (wpAny_mono y (λok V X=>?_) λ_ _ h'=>h'.elim)) λ_ _ h'=>h'.elim);cases ok with
  |false=>exact wpAny_pure ⟨rfl,X⟩
  |true=>exact wpAny_bind (wpAny_bind (wpAny_mono X (λx Y D=>wpAny_bind (wpAny_mono D (λ_ Q F=>wpAny_pure (wpAny_pure ⟨rfl,F⟩)) λ_ _ h'=>h'.elim)) λ_ _ h'=>h'.elim))
end
theorem oM{env:Env}{f:Str×NameKind->List (Str×Addr)->Sem (ForInStep (List (Str×Addr)))}
  (hf:∀x cs,f x cs=if (x.2==Ww)=true then (do let c <- cellOf env x.1;pure (Wv ((x.1,c)::cs))) else pure (Wv cs)):
  ∀(l:List (Str×NameKind))(cs:List (Str×Addr)),(∀x∈l,x.2=.free->∃c,env.cells.lookup x.1=some c)->
   ∃cl,forIn l cs f=(pure cl:Sem _)/\(∀x c,cl.lookup x=some c->cs.lookup x=some c\/env.cells.lookup x=some c) /\
    (∀x,(∃c,cs.lookup x=some c)\/(x,Ww)∈l->∃c,cl.lookup x=some c)
 |[],cs,_=>⟨cs,rfl,λ_ _ h=>.inl h,λx h=>h.elim id (λz=>by cases z)⟩
 |(n,k)::l,cs,h=>by
  rw[Z7,hf];by_cases hk:k=.free
  .subst hk;obtain⟨c,hc⟩:=h (n,.free) U9 rfl;obtain⟨cl,e,h1,h2⟩:=oM hf l ((n,c)::cs) λx y=>h x (UW _ y);refine⟨cl,?_,λx t q=>?_,λx q=>h2 x ?_⟩
   .have e1:cellOf env n=pure c:=by unfold cellOf;rw[hc]
    simp only[beq_self_eq_true,if_true,e1,pure_bind];exact e
   .rcases h1 x t q with z|z
    .rw[Vs] at z;by_cases y:(x==n)=true
     .rw[y] at z;have:x=n:=eq_of_beq y;subst this;exact .inr (by rw[hc];exact z)
     .rw[Ws.mpr y] at z;exact .inl z
    .exact .inr z
   .rcases q with ⟨t,z⟩|z
    .left;rw[Vs];cases x==n with
     |true=>exact⟨c,rfl⟩
     |false=>exact⟨t,z⟩
    .rcases U5.mp z with z|z
     .left;cases z;rw[Vs,beq_self_eq_true];exact⟨c,rfl⟩
     .exact .inr z
  .obtain⟨cl,e,h1,h2⟩:=oM hf l cs λx y=>h x (UW _ y);refine⟨cl,?_,h1,λx q=>h2 x ?_⟩
   .have e1:((n,k).2==Ww)=false:=by cases k<;>first|rfl|exact absurd rfl hk
    rw[e1];simp only[W6,if_false,pure_bind];exact e
   .rcases q with z|z
    .exact .inl z
    .rcases U5.mp z with z|z
     .cases z;exact absurd rfl hk
     .exact .inr z
theorem wK(h:∀x∈scope.names,x.2=.free->∃c,env.cells.lookup x.1=some c):
  ∃cl,closureFor scope env=pure cl/\(∀x c,cl.lookup x=some c->env.cells.lookup x=some c)/\(∀x,(x,Ww)∈scope.names->∃c,cl.lookup x=some c):=by
 obtain⟨cl,e,h1,h2⟩:=oM (env:=env) (λ_ _=>rfl) scope.names [] h;refine⟨cl,?_,λx c q=>(h1 x c q).elim (λz=>by cases z) id,λx q=>h2 x (.inr q)⟩;unfold closureFor;exact(congrArg (λz:Sem (List (Str×Addr))=>z >>= λr=>pure r) e).trans (by rw[pure_bind])
section
variable{env:Env}
noncomputable def ux(env:Env):Str×NameKind->Str×NameKind:=λ(n,k)=>if (k==.free&&env.scope.kind==.function&&env.kindOf n==some .cell) then (n,.cell) else (n,k)
theorem uM(p:Str×NameKind):(ux env p).1=p.1:=by obtain⟨n,k⟩:=p;show (if _ then _ else _:Str×NameKind).1=n;split<;>rfl
theorem t9(p:Str×NameKind):(ux env p).2=p.2\/(p.2=.free/\(ux env p).2=.cell):=by
 obtain⟨n,k⟩:=p;show (if _ then _ else _:Str×NameKind).2=k\/_;split
 .rename_i h;right;rw[UO,UO] at h;refine⟨eq_of_beq h.1.1,?_⟩;show (if _ then _ else _:Str×NameKind).2=_;rw[if_pos (by rw[UO,UO];exact h)]
 .left;rfl
theorem fH:∀{names:List (Str×NameKind)}{x:Str}{k:NameKind},names.lookup x=some k->(names.map (ux env)).lookup x=some k\/(k=.free/\(names.map (ux env)).lookup x=some .cell)
 |[],_,_,h=>by cases h
 |p::r,x,k,h=>by
  rw[U3];obtain⟨n,k0⟩:=p;have e1:=uM (env:=env) (n,k0);have e2:=t9 (env:=env) (n,k0);generalize ux env (n,k0)=q at e1 e2 ⊢;obtain⟨Q,u⟩:=q;have e1:Q=n:=e1;subst e1;rw[Vs] at h ⊢;cases y:x==Q with
  |true=>
   rw[y] at h;cases h;rcases e2 with e2|⟨e2,e3⟩
   .left;exact congrArg some e2
   .right;exact⟨e2,congrArg some e3⟩
  |false=>rw[y] at h;exact fH h
theorem cx:∀{names:List (Str×NameKind)}{x:Str}{k:NameKind},(names.map (ux env)).lookup x=some k->names.lookup x=some k\/(k=.cell/\names.lookup x=some .free)
 |[],_,_,h=>by cases h
 |p::r,x,k,h=>by
  rw[U3] at h;obtain⟨n,k0⟩:=p;have e1:=uM (env:=env) (n,k0);have e2:=t9 (env:=env) (n,k0);generalize ux env (n,k0)=q at e1 e2 h;obtain⟨Q,u⟩:=q;have e1:Q=n:=e1;subst e1;rw[Vs] at h ⊢;cases y:x==Q with
  |true=>
   rw[y] at h;cases h;rcases e2 with e2|⟨e2,e3⟩
   .left;exact congrArg some e2.symm
   .right;exact⟨e3,congrArg some e2⟩
  |false=>rw[y] at h;exact cx h
theorem jm{sc:Scope}(h:sc.names.lookup x=some .local):(relabel sc env).names.lookup x=some .local:=by
 rcases fH (env:=env) h with z|⟨z,_⟩
 .exact z
 .cases z
theorem Cp{sc:Scope}(h:sc.names.lookup x=some .globalImplicit):(relabel sc env).names.lookup x=some .globalImplicit:=by
 rcases fH (env:=env) h with z|⟨z,_⟩
 .exact z
 .cases z
theorem uU{sc:Scope}(h:sc.names.lookup x=some .free):uY (relabel sc env) x:=by
 rcases fH (env:=env) h with z|⟨_,z⟩
 .exact .inr (.inr z)
 .exact .inr (.inl z)
end
structure fj(N0 N:List Str)(k:Nat)(sc de:Scope):Prop where
 kind:sc.kind=.function
 cell:∀y∈sc.names,y.2≠.cell
 names:∀y∈sc.names,y.2=.local->sc.names.lookup y.1=some .local
 len:N.length=N0.length+k
 nd:N.Nodup
 old:∀p∈(N.take N0.length).zip N0,p.1=p.2\/sc.names.lookup p.1=none
 nl:∀n∈N.take N0.length,sc.names.lookup n≠some .local
 fr:∀y∈sc.names,y.2=.free->de.names.lookup y.1=some .cell\/de.names.lookup y.1=some .free
noncomputable def ib(X:Cx)(N:List Str)(sc:Scope)(cl:List (Str×Addr))(C:Addr)(s:Shared)(H:Hp)(ex:List Addr):Cx where
 prog:=X.prog
 w:=X.w
 K:=X.K
 mg:=X.mg
 base:=X.base
 A:=X.A
 N:=N
 s₀:=s
 H₀:=H
 env:=compEnvC sc cl C X.env
 outer:=X.stack
 stack:=X.stack
 ex:=ex
 fn:=λ_=>false
 calm:=X.calm
 pn:=[]
 xe:=λ_ _=>False
theorem mem_of_lookupK{names:List (Str×NameKind)}{k:NameKind}(h:names.lookup x=some k):(x,k)∈names:=Wb h
variable{j:St}
section
variable{X:Cx}{pins:List (Addr×Obj)}{Y:St}{H:Hp}{s:Shared}{N:List Str}{k:Nat}{sc:Scope}{cl:List (Str×Addr)}{C:Addr}{fp:List Addr}{h1:Heap}{tk:Nat}
theorem BP(I:Inv X pins Y H s)(S:fj X.N N k sc X.env.scope)(R:∀x c,cl.lookup x=some c->X.env.cells.lookup x=some c)
  (Z:∀x,(x,Ww)∈sc.names->∃c,cl.lookup x=some c)(O:s.heap.objs.size<=C)(hf:∀b∈fp,oi X pins H b)(h:∀b∈fp,b<s.heap.objs.size)
  (hk:∀b o,s.heap.get? b=some o->h1.get? b=some o)(hn:∃m,h1.Ns C m):
  Inv (ib X N sc cl C s H fp) (X.pn++pins) (Y++Vd k none) H { s with heap:=h1,toks:=tk }:=by
 have a:∀b o,s.heap.get? b=some o->b≠C:=λb o e=>Vi (UZ (U4 e) O);have kind:∀x,((ib X N sc cl C s H fp).env.kindOf x=some .cell\/(ib X N sc cl C s H fp).env.kindOf x=some .free)->sc.names.lookup x=some .free:=λx w=>by
  rcases w with w|w
  .rcases cx (env:=X.env) w with z|⟨_,z⟩
   .exact absurd rfl (S.cell _ (mem_of_lookupK z))
   .exact z
  .rcases cx (env:=X.env) w with z|⟨z,_⟩
   .exact z
   .cases z
 refine⟨⟨I.ok.mod,S.kind,I.ok.glob,I.ok.blt,O,λx y c h1 h2=>I.ok.inj x y c (R _ _ h1) (R _ _ h2),λx w=>Z x (mem_of_lookupK (kind x w)),λx c z _=>absurd (show false=true from z) Vm,
  I.ok.hd,I.ok.frames,.inl rfl,λb E=>⟨Vi (UZ (h b E) O),λx c e=>(hf b E).2.2.2.2.1 x c (R _ _ e)⟩,I.bs,Vg I.ok.bsz I.sz,λb o e E=>?_,λb E K=>?_,I.stack,I.r9⟩,
  rfl,I.bare,Un.kept hk,?_,λx c e=>?_,I.hok.fresh O,λx c e=>I.freeC x c (R _ _ e),λp hp=>?_,I.hok.kept hk,?_⟩
 .rcases(hf b E).2.2.2.1 with z|z
  .exact I.ok.noex b o e z
  .exact absurd (UZ (U4 e) (Vg I.ok.bsz z)) (VI _)
 .rcases U5.mp (I.lO b K) with z|z
  .exact(hf b E).2.1 z
  .exact(hf b E).2.2.1 z
 .obtain⟨m,hn⟩:=hn;refine⟨m,hn,λi x v e1 e2 e3=>?_⟩;have hi:i<Y.length:=by
   by_cases hi:i<Y.length
   .exact hi
   .rw[Vv (by omega),Y6] at e2;split at e2<;>cases e2
  rw[VX hi] at e2;have q:i<X.N.length:=by rw[<-I.len];exact hi
  have D:(N.take X.N.length)[i]?=some x:=by rw[Y1 q];exact e1
  have F:=S.nl x (Vc D);have A:sc.names.lookup x=some .free:=by
   rcases e3 with z|z|z
   .rcases cx (env:=X.env) z with z|⟨z,_⟩
    .exact absurd z F
    .cases z
   .exact kind x (.inl z)
   .exact kind x (.inr z)
  have B:X.N[i]?=some x:=by
   have hz:((N.take X.N.length).zip X.N)[i]?=some (x,X.N[i]):=by rw[List.getElem?_zip_eq_some];exact⟨D,Ve q⟩
   rcases S.old _ (Vc hz) with z|z
   .have z:x=X.N[i]:=z;rw[Ve q,<-z]
   .have z:sc.names.lookup x=none:=z;rw[A] at z;cases z
  obtain⟨g,L,Q⟩:=I.loc;have T:uY X.env.scope x:=by
   rcases S.fr _ (mem_of_lookupK A) rfl with z|z
   .exact .inr (.inl z)
   .exact .inr (.inr z)
  obtain⟨u,r,l⟩:=Q i x v B e2 T;refine⟨u,r,.inr ⟨?_,?_⟩⟩
  .rcases uU (env:=X.env) A with z|z|z
   .rcases cx (env:=X.env) z with z|⟨z,_⟩
    .rw[A] at z;cases z
    .cases z
   .exact .inl z
   .exact .inr z
  .rcases l with ⟨z,_⟩|⟨_,c,t,J⟩
   .have z:X.env.scope.names.lookup x=some .local:=z;rcases S.fr _ (mem_of_lookupK A) rfl with V|V
    .have V:X.env.scope.names.lookup x=some .cell:=V;rw[z] at V;cases V
    .have V:X.env.scope.names.lookup x=some .free:=V;rw[z] at V;cases V
   .obtain⟨P,G⟩:=Z x (mem_of_lookupK A);have:=R _ _ G;rw [t] at this;cases this;obtain ⟨o,ho,hd⟩:=J;exact⟨c,G,o,hk _ _ ho,hd⟩
 .obtain⟨v,o,ho,hd⟩:=I.cell x c (R _ _ e);exact⟨v,o,hk _ _ ho,hd⟩
 .have hp:p∈X.pn++pins:=hp;obtain⟨e,n,ne,U,d⟩:=I.pin p hp;refine⟨hk _ _ e,n,a _ _ e,λE=>?_,d⟩;rcases U5.mp (I.lO _ E) with z|z
  .exact ne z
  .exact U z
 .show (Y++Vd k none).length=N.length;rw[UY,Zk,I.len,S.len]
theorem Au{D:Addr}{its:List Value}(I:Inv X pins Y H s)(a:Inv (ib X N sc cl C s H fp) (X.pn++pins) j H' s')(y:s.heap.objs.size<=D)(x:H' D=none)
  (pl:s'.heap.PlainList D its.toArray)(t:Vals ys its)(hl:ys.length<=sizeLine)(hf:∀b∈fp,oi X pins H b):Inv X pins Y (upd H' D (.lst ys)) s':=by
 obtain⟨n,T⟩:=pl;have u:=a.base;have ne:∀b o,s.heap.get? b=some o->b≠D:=λb o e=>Vi (UZ (U4 e) y);have r:∀b o,H' b=some o->b≠D:=λb o e=>aM e x;refine I.Jz a.os ⟨u.keep,u.slot,λb o e n nx=>?_,u.there,λb xs e=>?_,λb o v e=>?_,λb ps e=>?_⟩ (λb o e=>?_) a.bare (ch:=fp) λb d=>?_
 .rw[au (ne b o e)];exact u.free b o e n nx
 .have:=u.tups b xs e;rw[au (r _ _ this)];exact this
 .have:=u.frzs b o v e;rw[au (r _ _ this)];exact this
 .obtain⟨more,this⟩:=u.tbls b ps e;exact⟨more,by rw[au (r _ _ this)];exact this⟩
 .by_cases d:b=D
  .subst d;rw[aI] at e;cases e;exact⟨hl,its,n,t,T⟩
  .rw[au d] at e;exact(a.hok b o e).pj (λ_ _ _ q=>q) (λc q=>by rw[au (r _ _ q)];exact q) λc xs q=>by rw[au (r _ _ q)];exact q
 .obtain⟨B,A,L,R,F,G⟩:=hf b d;exact⟨R,A,F,G⟩
end
theorem Inv.u9(I:Inv X pins Y H s){a:Addr}(h:s.heap.objs.size<=a):a∉dz X.stack:=λd=>by
 rcases U5.mp (I.lO a d) with z|z
 .exact absurd (UZ I.lt (by rw[<-z];exact h)) (VI _)
 .exact I.P0 h z
def PF(X:Cx)(ifs:List Expr)(t:TT):Prop:=∀(pins:List (Addr×Obj))(s:Shared)(Y:St)(H:Hp)(Q:Bool->Hp->Prop),Inv X pins Y H s->t Y H Q->
 wpAny (model X.prog X.w) X.A (forIn ifs true λc r=>if r=true then do let ok <- isTrue c X.env (eval c X.env);pure (Wv ok) else pure (Wv r)) (TP X pins Y Q) X.xe s
noncomputable def OG:TT:=λ_ H Q=>Q true H
theorem MM:PF X [] OG:=λ_ _ _ H _ I h=>wpAny_tests_nil ⟨H,I,h⟩
theorem J2{c:Expr}{t:TT}(hc:PT X c t):PF X [c] t:=λpins s Y H Q I h=>wpAny_tests_one (hc pins s Y H Q I h)
def DS(J:It)(g:TG)(v:TT)(I:TE)(Q:VK)(Y:St)(H:Hp):Prop:=∃W:Nat->Nat->St->List V->Hp->Prop,(∃m,W 0 m Y [] H)/\∀i m Y ys H,W i m Y ys H->ys.length<=sizeLine /\
  ((J.stop i H/\∀r,H r=none->Q (.ref r) (upd H r (.lst ys))) \/
   (J.go i H/\∃N:St->List V->Hp->Prop,(∀j n H',N j n H'->∃s,s<m/\W (i+1) s j n H') /\
     ∀x H',J.yld i H x H'->g x Y H' λL c=>v L c λb C=>if b=true then I L C λy X=>N L (ys++[y]) X else N L ys C))
noncomputable def uO(n:Nat)(D:TI)(g:TG)(v:TT)(I:TE):TE:=λY H Q=>D Y H λJ e=>DS J g v I Q (Y++Vd n none) e
section
variable{X:Cx}{pins:List (Addr×Obj)}{Y:St}{H:Hp}{s:Shared}{N:List Str}{k:Nat}{sc:Scope}{cl:List (Str×Addr)}{C:Addr}{fp:List Addr}{J:It}{it:Addr}{tn:Nat->Heap->Prop}
 {tg elt iter:Expr} {ifs:List Expr} {pos:Pos} {g:TG} {tt:TT} {te:TE} {Q:VK} {E:Value->Shared->Prop} {RR:Value->Addr->Result->Shared->Prop}
theorem oy(hc:X.calm=true)(S:fj X.N N k sc X.env.scope)(F:∀x c,cl.lookup x=some c->X.env.cells.lookup x=some c)
  (hcl2:∀x,(x,Ww)∈sc.names->∃c,cl.lookup x=some c)(I:Inv X pins Y H s)(T:Turn X.prog X.w X.K tg J fp it tn)(st:tn 0 s.heap)(hf:∀b∈fp,oi X pins H b)
  (B:DS J g tt te Q (Y++Vd k none) H)
  (hg:∀C,PG (ib X N sc cl C s H fp) tg g)(ht:∀C,PF (ib X N sc cl C s H fp) ifs tt)(he:∀C,PE (ib X N sc cl C s H fp) elt te)
  (hRR:∀D C s' H' ys,Inv X pins Y (upd H' D (.lst ys)) s'->s.heap.objs.size<=C->upd H' D (.lst ys) C=none->(∃m,s'.heap.Ns C m)->Q (.ref D) (upd H' D (.lst ys))->RR (.ref D) C (.ok .next) s'):
  wpAny (model X.prog X.w) X.A (newList []) (λacc V=>wpAny (model X.prog X.w) X.A (newFunctionEnv sc X.env.globals cl [] X.env.qual none .none (some X.env)) (λf s₄=>codeAny (model X.prog X.w) X.A (.compStart (.ListComp elt [⟨tg,iter,ifs,0⟩] sc pos) 0 (.ref it) acc { f with scope:=relabel sc X.env }) (RR acc f.locals) s₄) E V) E s:=by
 refine wpAny_newObj_type (wpAny_newFunctionEnv S.cell (by intro y hy;simp at hy) (λh₁ P U=>?_) S.kind);dsimp only at P U ⊢;generalize hH2:s.heap.push { cls:=.type "list",dict:=none,data:=.seq ([]:List Value).toArray }=H2 at P U ⊢;have hC:H2.objs.size=s.heap.objs.size+1:=by rw[<-hH2,YM]
 have h:s.heap.objs.size≠H2.objs.size:=by rw[hC];exact Vi (Xs _)
 have a:s.heap.objs.size<=H2.objs.size:=by rw[hC];exact WI _
 have below:∀b,b<s.heap.objs.size->b≠H2.objs.size/\b≠s.heap.objs.size:=λb l=>⟨by rw[hC];exact Vi (Xi l),Vi l⟩
 have old:∀b o,s.heap.get? b=some o->h₁.get? b=some o:=λb o e=>U.extBut b o (below b (U4 e)).1 (UR _ (hH2▸UR _ e));have hacc:h₁.PlainList s.heap.objs.size #[]:=⟨_,U.extBut _ _ h (UR _ (hH2▸U6 _ rfl))⟩
 have G:∀b∈fp,b<s.heap.objs.size:=λb l=>let ⟨o,e,_⟩:=T.obj 0 _ st b l;U4 e
 have st1:tn 0 h₁:=T.keep _ _ _ st λb l o e=>old b o e;have I0:=BP (tk:=s.toks+([]:List (Str×Value)).length) I S F hcl2 a hf G old ⟨_,P⟩;generalize H2.objs.size=C at P U hC h a below I0 ⊢;generalize hD:s.heap.objs.size=D at hC h a below hacc G ⊢;have O:s.heap.objs.size<=D:=by rw[hD];exact U2 _
 have L:∀{H':Hp}{o:Obj},(∀b∈fp,H' b=none)->∀b∈fp,oi (ib X N sc cl C s H fp) ((X.pn++pins)++[(D,o)]) H' b:=λ{H' o} hn b l=>by
  obtain⟨f0,f1,f2,f3,f4,f5⟩:=hf b l;refine⟨hn b l,(below b (G b l)).1,λz=>?_,.inl l,λx c e=>f4 x c (F _ _ e),λp hp=>?_⟩
  .rcases U5.mp (I.lO b z) with z|z
   .exact f1 z
   .exact f2 z
  .have hp:p∈(X.pn++pins)++[(D,o)]:=hp;rcases Vb.mp hp with z|z
   .exact f5 p z
   .have:p=(D,o):=by simpa using z
    rw[this];exact VY (below b (G b l)).2
 have loop:∀V:Shared,V={ s with heap:=h₁,toks:=s.toks+([]:List (Str×Value)).length }->
   codeAny (model X.prog X.w) X.A (.compLoop (.ListComp elt [⟨tg,iter,ifs,0⟩] sc pos) 0 (.ref it) (.ref D) (compEnvC sc cl C X.env)) (RR (.ref D) C) V:=by
  rintro V rfl;obtain⟨W,⟨m0,w0⟩,step⟩:=B;refine rJ (λn s'=>∃i j H' ys its,Inv (ib X N sc cl C s H fp) (X.pn++pins) j H' s'/\tn i s'.heap/\(∀b∈fp,H' b=none)/\H' D=none/\s'.heap.PlainList D (its:List Value).toArray/\Vals ys its/\W i n j ys H') ?_ m0
   ⟨0,_,H,[],[],I0,st1,λb l=>(hf b l).1,I.hok.fresh O,hacc,.nil,w0⟩
  rintro n s3 ⟨i,R,H3,ys,its,I3,st3,fr3,hD3,⟨nn,pl3⟩,t,w3⟩;obtain⟨hl,cs⟩:=step i n R ys H3 w3;have pinD:∀{j:St}{H':Hp}{s':Shared}{o:Obj},Inv (ib X N sc cl C s H fp) (X.pn++pins) j H' s'->H' D=none->s'.heap.get? D=some o->(∀v,o.data≠.cell v)->Inv (ib X N sc cl C s H fp) ((X.pn++pins)++[(D,o)]) j H' s':=λ{j H' s' o} I' hn e d=>
   I'.rR λp hp=>(Vb.mp hp).elim (λz=>I'.pin p (UX _ z)) λz=>by
    have:p=(D,o):=by simpa using z
    subst this;exact⟨e,hn,h,λz=>I.u9 O z,d⟩
  have I3p:=pinD I3 hD3 pl3 λv z=>by cases z
  rcases cs with ⟨stop,q⟩|⟨go,NN,hN,nx⟩
  .refine bf (T.done (ib X N sc cl C s H fp) rfl rfl rfl hc i _ s3 R H3 _ I3p (L fr3) st3 stop) λr s4 ⟨hr,I4⟩=>?_;subst hr;have d4:=I4.pin (D,_) (UX _ (UX _ (Va.mpr rfl)));have I5:=Au I I4.dU O d4.2.1 ⟨nn,d4.1⟩ t hl hf;refine hRR D C s4 H3 ys I5 (by rw[hD];exact a) ?_ (let ⟨m,hm,_⟩:=I4.loc;⟨m,hm⟩) (q D d4.2.1);rw[au (VY h)];exact I4.free
  .refine bf (T.item (ib X N sc cl C s H fp) rfl rfl rfl hc i _ s3 R H3 _ I3p (L fr3) st3 go) λr s4 ⟨u,hr,h4⟩=>?_;subst hr;refine bf h4 λ_ s5 ⟨x,H5,I5,r5,y5,st5,fr5⟩=>?_;have I5':=I5.pinned (L fr5) (T.obj _ _ st5);refine bf (hg C _ s5 R H5 x u _ I5' r5 (nx x H5 y5)) λ_ s6 ⟨Z,H6,I6,q6⟩=>?_;refine bf (ht C _ s6 Z H6 _ I6 q6) λb s7 ⟨H7,I7,q7⟩=>?_;have itK:∀{s8:Shared}{H8:Hp},Inv (ib X N sc cl C s H fp) (((X.pn++pins)++[(D,({ cls:=.type "list",data:=.seq its.toArray nn }:Obj))])++nS fp s5.heap) Z H8 s8->tn (i+1) s8.heap/\∀b∈fp,H8 b=none:=λ{s8 H8} I8=>by refine⟨T.keep _ _ _ st5 λb l o e=>(I8.pin (b,o) (UX _ (UX _ (gO l e)))).1,λb l=>?_⟩;obtain⟨o,e,d⟩:=T.obj _ _ st5 b l;exact(I8.pin (b,o) (UX _ (UX _ (gO l e)))).2.1
   cases b with
   |false=>
    have q7:NN Z ys H7:=by simpa using q7
    obtain⟨m',hm,w7⟩:=hN _ _ _ q7;obtain⟨t7,f7⟩:=itK I7;have d7:=I7.pin (D,_) (UX _ (Vk _ (UX _ (Va.mpr rfl))));show ∃m,m<n/\_;exact⟨m',hm,i+1,Z,H7,ys,its,I7.dU.dU,t7,f7,d7.2.1,⟨nn,d7.1⟩,t,w7⟩
   |true=>
    have q7:te Z H7 λy H4=>NN Z (ys++[y]) H4:=by simpa using q7
    show wpAny _ _ _ _ _ _;refine bf (he C _ s7 Z H7 _ I7 q7) λyv s8 ⟨y,H8,I8,r8,q8⟩=>?_;obtain⟨m',hm,w9⟩:=hN _ _ _ q8;obtain⟨t8,f8⟩:=itK I8;have d8:=I8.pin (D,_) (UX _ (Vk _ (UX _ (Va.mpr rfl))));refine wpAny_list_append_plain (hsz:=by rw[UT,<-t.length];exact hl) ⟨nn,d8.1⟩ λh9 pl9 sb9=>?_;have I9:Inv (ib X N sc cl C s H fp) (X.pn++pins) Z H8 { s8 with heap:=h9 }:=I8.dU.dU.turned (t':=s8.toks) (it:=D) (λb o l e=>(sb9.2 b l).trans e) d8.2.1 h (.inr O) (λx c e z=>?_) (λp hp z=>?_)
    .refine⟨m',hm,i+1,Z,H8,ys++[y],its++[yv],I9,T.keep _ _ _ t8 λb l o e=>(sb9.2 b (below b (G b l)).2).trans e,f8,d8.2.1,?_,t.append (.cons r8 .nil),w9⟩;rw[<-List.push_toArray];exact pl9
    .obtain⟨v,q⟩:=I.cell x c (F _ _ e);exact absurd (UZ q.lt (by rw[z];exact O)) (VI _)
    .have hp:p∈X.pn++pins:=hp;exact absurd (UZ (U4 (I.pin p hp).1) (by rw[z];exact O)) (VI _)
 exact codeAny_compStart_list (loop _ rfl) (T.self _ _ _ _ _ st1 (loop _ rfl))
end
variable{px:Pos}
section
variable{X:Cx}{N:List Str}{k:Nat}{sc:Scope}{tg elt iter:Expr}{ifs:List Expr}{pos:Pos}{g:TG}{tt:TT}{te:TE}{wi:TI}
theorem nG(I:Inv X pins Y H s)(S:fj X.N N k sc X.env.scope):
  ∃cl,closureFor sc X.env=pure cl/\(∀x c,cl.lookup x=some c->X.env.cells.lookup x=some c)/\(∀x,(x,Ww)∈sc.names->∃c,cl.lookup x=some c):=
 wK λx y e=>I.ok.has x.1 (S.fr x y e)
theorem Inv.letGo{H0:Hp}{r:Shared}(n:Inv X pins Y H0 r)(I:Inv X pins j H s)(O:r.heap.objs.size<=C)(hn:H C=none)(V:Xz C s.heap h'):Inv X pins j H { s with heap:=h' }:=
 I.turned (t':=s.toks) (it:=C) (λb o d e=>(V.2 b d).trans e) hn (Nat.ne_of_gt (UZ n.lt O)) (.inr (Vg n.sz O))
  (λx c e z=>by obtain⟨v,q⟩:=n.cell x c e;exact absurd (UZ q.lt (by rw[z];exact O)) (VI _))
  (λp hp z=>absurd (UZ (U4 (n.pin p hp).1) (by rw[z];exact O)) (VI _))
theorem qO(hc:X.calm=true)(S:fj X.N N k sc X.env.scope)(hi:PI X tg iter wi)(hg:∀cl C s H fp,PG (ib X N sc cl C s H fp) tg g)(ht:∀cl C s H fp,PF (ib X N sc cl C s H fp) ifs tt)
  (he:∀cl C s H fp,PE (ib X N sc cl C s H fp) elt te)(hs:∀x,foldedSetIterable iter X.env x=pure x:=by intro _;rfl):PE X (.ListComp elt [⟨tg,iter,ifs,0⟩] sc pos) (uO k wi g tt te):=by
 intro pins s Y H Q I h;obtain⟨cl,hclos,h1,h2⟩:=nG I S;rw[eval_ListComp];refine wpAny_comprehension_free (use:=none) rfl hs hclos S.kind S.names (bf (hi pins s Y H _ I h) λv s1 q1=>bf q1 λitv s2 q2=>?_);obtain⟨it,fp,tn,J,H2,rfl,I2,T,st2,f2,B⟩:=q2;refine oy (RR:=λacc C=>compPost (model X.prog X.w) X.A X.xe none (EP X pins Y Q) acc C) hc S h1 h2 I2 T st2 f2 B (λC=>hg cl C s2 H2 fp) (λC=>ht cl C s2 H2 fp) (λC=>he cl C s2 H2 fp) ?_;intro D C s' H' ys I' hC hn hm q;obtain⟨m,hm⟩:=hm;exact⟨m,hm,λh' sb=>⟨.ref D,_,I2.letGo I' hC hn sb,rfl,q⟩⟩
theorem HC{spos:Pos}(hc:X.calm=true)(S:fj X.N N k sc X.env.scope)(hN:X.N.Nodup)(hx:X.N[i]?=some x)(hl:X.env.scope.names.lookup x=some .local)
  (hsw:swapsWith (.ListComp elt [⟨tg,iter,ifs,0⟩] sc pos) (some (.Name x px)) spos.line X.env=pure true)(hi:PI X tg iter wi)(hg:∀cl C s H fp,PG (ib X N sc cl C s H fp) tg g)(ht:∀cl C s H fp,PF (ib X N sc cl C s H fp) ifs tt)
  (he:∀cl C s H fp,PE (ib X N sc cl C s H fp) elt te)(hs:∀x,foldedSetIterable iter X.env x=pure x:=by intro _;rfl):PS X (.Assign [.Name x px] (.ListComp elt [⟨tg,iter,ifs,0⟩] sc pos) spos) (BV (uO k wi g tt te) (D5 i)):=by
 intro pins s Y H D0 I h;obtain⟨cl,hclos,h1,h2⟩:=nG I S;rw[exec_Assign_Name_used _ _ _ _ hsw];refine wpAny_bind (wpAny_standAt (wpAny_bind ?_));show wpAny _ X.A (do let _ <- comprehension (.ListComp elt [⟨tg,iter,ifs,0⟩] sc pos) sc X.env _ (newList []) false (eval iter X.env) (some (assign (.Name x px) X.env))) _ _ s;refine wpAny_bind (bf (wpAny_comprehension_free (use:=some (assign (.Name x px) X.env)) (Q:=λ_ s'=>SP X pins D0 .next s') rfl hs hclos S.kind S.names
  (bf (hi pins s Y H _ I h) λv s1 q1=>bf q1 λitv s2 q2=>?_)) λ_ s' hq=>wpAny_pure (wpAny_pure hq))
 obtain⟨it,fp,tn,J,H2,rfl,I2,T,st2,f2,B⟩:=q2;refine oy (RR:=λacc C=>compPost (model X.prog X.w) X.A X.xe (some (assign (.Name x px) X.env)) (λ_ s'=>SP X pins D0 .next s') acc C) hc S h1 h2 I2 T st2 f2 B (λC=>hg cl C s2 H2 fp) (λC=>ht cl C s2 H2 fp) (λC=>he cl C s2 H2 fp) ?_;intro D C s' H' ys I' hC hn hm q;obtain⟨m,hm⟩:=hm;show wpAny _ X.A (assign (.Name x px) X.env (.ref D)) _ _ _;refine wpAny_assign_Name (qa I' hN hx (.inl hl) (v:=.ref D) rfl (λs'' I'' ch=>?_) (.inr hl));obtain⟨a,sb,ha⟩:=ch;refine⟨m,hm.sameBut sb ?_,λh' sb'=>⟨_,_,I2.letGo I'' hC hn sb',q⟩⟩;rintro rfl;rcases ha with z|z
 .exact absurd (UZ I2.lt (by rw[<-z];exact hC)) (VI _)
 .obtain⟨v,q⟩:=I2.cell x _ z;exact absurd (UZ q.lt hC) (VI _)
end
theorem vB{H:List Comprehension}{sc:Scope}{line:Nat}(h1:env.blockKind=.function)(h2:env.kindOf x=some .local)(h3:(px.line==pos.line)=true)
  (h4:(sc.names.any λp=>p.1==x&&(p.2==.local || p.2==.cell))=false):swapsWith (.ListComp elt H sc pos) (some (.Name x px)) line env=pure true:=by
 unfold swapsWith;show (pure (env.blockKind==.function&&env.kindOf x==some .local&&px.line==pos.line&&!(sc.names.any λp=>p.1==x&&(p.2==.local || p.2==.cell))):Sem Bool)=pure true;rw[h1,h2,h3,h4];rfl
variable{ss:List Str}
section
variable{X:Cx}{tg:Expr}
theorem Inv.rT{a:Addr}(I:Inv X pins Y H s)(hf:∀b o,s.heap.get? b=some o->b≠a):H a=none:=by
 cases e:H a with
 |none=>rfl
 |some u=>obtain⟨ob,z⟩:=(I.hok a u e).is;exact absurd rfl (hf a ob z)
theorem Inv.IU{a:Addr}{t':Nat}(I:Inv X pins Y H s)(k:∀b u,s.heap.get? b=some u->h'.get? b=some u)(hf:∀b o,s.heap.get? b=some o->b≠a)
  (new:ba X.prog X.w (upd H a o) h' a o):Inv X pins Y (upd H a o) { s with heap:=h',toks:=t' }:=by
 have hn:=I.rT hf;refine I.un ⟨λb u e _ _ _=>k b u e,λb u e _ _ _=>⟨u.slots,k b u e⟩,λb u e n _=>by rw[au (hf b u e)];exact n,λb u e _=>⟨u,k b u e⟩,λb xs e=>by rw[au (aM e hn)];exact e,λb u v e=>by rw[au (aM e hn)];exact e,
  λb ps e=>⟨#[],by rw[au (aM e hn),e];simp⟩⟩ λb u e=>?_
 by_cases d:b=a
 .subst d;rw[aI] at e;cases e;exact new
 .rw[au d] at e;exact(I.hok b u e).pj (λc v _ q=>k c v q) (λc q=>by rw[au (aM q hn)];exact q) λc xs q=>by rw[au (aM q hn)];exact q
theorem oV:∀{us:List Value},Vals (ss.map V.str) us->StrsAre us ss:=by
 induction ss with
 |nil=>intro us r;rw[V8] at r;cases r;exact .nil
 |cons n ns j=>
  intro us r;rw[U3] at r;cases r with
  |cons i h=>obtain⟨t,e⟩:=i;subst e;exact .cons n t (j h)
theorem gT:∀{ss:List Str}{us:List Value},StrsAre us ss->Vals (ss.map V.str) us
 |_,_,.nil=>.nil
 |_,_,.cons y t r=>.cons ⟨t,rfl⟩ (gT r)
def mW(K:UN):List V->Hp->VK->Prop:=λvs H Q=>∃a ss,vs=[.ref a]/\(g9 K H a (ss.map V.str)\/∃kvs,H a=some (.dK kvs)/\kvs.map (·.1)=ss.map WC)/\ss.length<64 /\
 ∀r Y,H r=none->Y.Perm ss->sortedS Y=true->Q (.ref r) (upd H r (.lst (Y.map V.str)))
theorem iU:64<=sizeLine:=by rw[sizeLine_eq];decide
theorem pR{vs:List (Key×Value)}{acc:Array Value}(e:vs.map (·.1)=ss.map WC)
  (h:ItemsOf (λi v=>∃k x,vs[i]?=some (k,x)/\(aJ P w).is k v=true) acc vs.length):StrsAre acc.toList ss:=by
 obtain⟨Y,hi⟩:=h;have hl:ss.length=vs.length:=by have:=congrArg V2 e;simpa using this.symm
 have Z:∀(j:Nat)(v:Value),acc.toList[j]?=some v->∃(x:Str)(t:Tok),ss[j]?=some x/\v=XO x t:=λj v c=>by
  obtain⟨k,x,s,hk⟩:=hi j v (by rw[<-WS];exact c);have hk:mv k v=true:=hk;have e2:(vs.map (·.1))[j]?=some k:=by rw[UU,s];rfl
  rw[e,UU] at e2;cases A:ss[j]? with
  |none=>rw[A] at e2;cases e2
  |some z=>
   rw[A] at e2;have e3:k=WC z:=(U1 e2).symm;subst e3;rcases bh hk with ⟨i,t,q,_⟩|⟨y,t,q,rfl⟩
   .cases q
   .cases q;exact⟨z,t,rfl,rfl⟩
 have H:acc.toList.length=ss.length:=by rw[VF,Y,hl]
 clear Y hi e hl;generalize acc.toList=l at Z H;induction l generalizing ss with
 |nil=>
  cases ss with
  |nil=>exact .nil
  |cons a b=>cases H
 |cons v l o=>
  cases ss with
  |nil=>cases H
  |cons z ss=>obtain⟨x,t,s,rfl⟩:=Z 0 v rfl;have s:z=x:=U1 s;subst s;exact .cons z t (o (λj u f=>Z (j+1) u f) (by simpa using H))
theorem rM(hc:X.calm=true):bF X (.builtin "sorted") (mW X.K):=by
 intro pins s Y H vs us Q I t h;obtain⟨a,ss,rfl,j,R,q⟩:=h;obtain⟨u,rfl,J⟩:=t.one;cases J;rcases j with j|⟨kvs,hd,F⟩
 .obtain⟨its,r,p,hz⟩:=I.list j;have i:=oV r;have N:its.length=ss.length:=by have:=r.length;simpa using this.symm
  refine sorted_strs p.isList i (by omega) λout x G l O=>?_;obtain⟨e,he⟩:=sortedAll_at s.heap its out;refine⟨.ref _,_,I.laid (t':=s.toks) (o:=.lst (x.map V.str)) (λb o z=>sortedAll_old z) (WI _) ⟨?_,out.toList,e,gT G,by simpa using he⟩,rfl,q _ x (I.hok.fresh (WI _)) l O⟩;rw[UP,l.length_eq];exact Vg (WN R) iU
 .obtain⟨hz,lo,vs,T,y⟩:=tT I.hok hd;obtain⟨ep,S⟩:=y.dictAt;have Z:vs.map (·.1)=ss.map WC:=by rw[<-T.keys];exact F
  have N:vs.length=ss.length:=by have:=congrArg V2 Z;simpa using this
  refine W9 kind_sorted plain_sorted entry_sorted (args_sorted1 _) ?_;unfold Builtin.«sorted»;refine wpAny_bind (m:=checkCount "sorted" 1 1 _) (wpAny_pure ?_);refine wpAny_bind (kdu_collect (A:=X.A.in1) (kdl_dict (knd:=aJ X.prog X.w) (kvs:=vs) (ep:=ep) lo) (I.ok.hd hc) S (by have:=iU;omega) λh' tk acc hk v=>?_);have i:=pR Z v;have k:acc.toList.length=ss.length:=by rw[VF,v.1,N]
  refine wpAny_bind (wpAny_newList ?_ (by have:=iU;omega));have B:(h'.push (seqObj "list" acc.toList.toArray 0)).get? h'.objs.size=some (seqObj "list" acc.toList.toArray 0):=U6 _ rfl;refine wpAny_bind (wpAny_holding (wpAny_call_entry slot_list_sort ⟨_,B,rfl⟩ entry_list_sort (list_sort_treeK strKind_oneLt B i.keysOf (λC D rest e=>keyKind_strs (by rw[<-e];exact i)) (by omega) λE hp P=>⟨_,rfl,?_⟩) (args_list_sort _)));obtain⟨x,b1,b2,L⟩:=sorted_out_str i hp P;obtain⟨e,he⟩:=sortedHeap_at (vs:=acc.toList) (n:=0) (out:=(arrOf E).map (·.2)) B;have hf:∀b o,s.heap.get? b=some o->b≠h'.objs.size:=λb o z=>Vi (U4 (hk b o z));refine wpAny_pure ⟨_,rfl,.ref _,_,I.IU (t':=tk) (a:=h'.objs.size) (o:=.lst (x.map V.str)) (λb o z=>?_) hf ⟨?_,((arrOf E).map (·.2)).toList,e,gT b1,?_⟩,rfl,q _ x (I.rT hf) b2 L⟩
  .rw[sortedHeap_old (hf b o z) (by rw[size_push'];exact Xi (U4 (hk b o z)))];exact UR _ (hk b o z)
  .rw[UP,b2.length_eq];exact Vg (WN R) iU
  .rw[Zn];exact he
def S2:V->Option Int->Option Int->Hp->VK->Prop:=λx lo hi H Q=>∃z,x=.str z/\z.length<=sizeLine/\Q (.str (Wg z lo hi)) H
theorem tu{o:Option Int}(p:IsPart v o):∃l:Option (Int×Tok),v=partValue l/\l.map (·.1)=o:=by
 cases p with
 |none=>exact⟨none,rfl,rfl⟩
 |int i t=>exact⟨some (i,t),rfl,rfl⟩
theorem KZ:i7 X S2:=by intro pins s Y H x v E U lo hi sl Q I b P pl A h;obtain⟨z,rfl,hz,q⟩:=h;obtain⟨t,rfl⟩:=b;obtain⟨l,rfl,rfl⟩:=tu pl;obtain⟨u,rfl,rfl⟩:=tu A;refine⟨"str",_,F.slot_str_getitem.lookup,typeIs_str _ _ _,wpAny_getItem_str_slice (l:=l) (u:=u) (st:=none) P rfl ?_⟩;exact post_val_or_str ⟨Vg (Zo z _ _) hz,λt' k=>⟨.str _,H,I.tok _,⟨t',rfl⟩,q⟩⟩
noncomputable def jW(ss:List Str):Nat:=(ss.map (λz=>z.length)).sum
theorem jH:∀{us:List Value}{ss:List Str},StrsAre us ss->∃l:List (Str×Tok),us=strValues l/\l.map (·.1)=ss
 |_,_,.nil=>⟨[],rfl,rfl⟩
 |_,_,.cons y t r=>by obtain⟨l,e1,e2⟩:=jH r;exact⟨(y,t)::l,by rw[e1];rfl,by rw[U3,e2]⟩
end
variable{te:TE}
section
variable{X:Cx}{pos:Pos}
abbrev TJ:=St->Hp->(List Str->Hp->Prop)->Prop
def PJ(X:Cx)(es:List Expr)(t:TJ):Prop:=∀(out:Str)(pins:List (Addr×Obj))(s:Shared)(Y:St)(H:Hp)(Q:VK),out.length+1000*es.length<=sizeLine->Inv X pins Y H s->
 t Y H (λzs H'=>Q (.str (zs.foldl (λa b=>a++b) out)) H')->wpAny (model X.prog X.w) X.A (joinParts out (evalEach es X.env)) (EP X pins Y Q) X.xe s
theorem len_app(x y:Str):(x++y).length=x.length+y.length:=by show (x.cps++y.cps).size=x.cps.size+y.cps.size;simp
theorem M5:PJ X [] (λ_ H R=>R [] H):=λout pins s Y H Q hl I h=>joinParts_nil (show EP X pins Y Q _ _ from ⟨.str out,H,I.tok _,⟨_,rfl⟩,h⟩) (by simpa using hl)
noncomputable def tJ(te:TE)(t:TJ):TJ:=λY H R=>te Y H λx e=>∃z,x=.str z/\z.length<=1000/\t Y e λzs c=>R (z::zs) c
theorem FX{t:TJ}(h1:PE X e te)(h2:PJ X es t)(hs:evalEach (e::es) X.env=eval e X.env::evalEach es X.env:=by rfl):PJ X (e::es) (tJ te t):=by intro out pins s Y H Q hl I h;rw[hs];refine joinParts_cons (bf (h1 pins s Y H _ I h) λv s1 ⟨x,H1,I1,r1,q1⟩=>?_);obtain⟨z,rfl,hz,q⟩:=q1;obtain⟨tk,rfl⟩:=r1;rw[US] at hl;have e1:=len_app out z;exact⟨by omega,h2 (out++z) pins s1 Y H1 Q (by omega) I1 q⟩
noncomputable def Uh(te:TE):TE:=λY H Q=>te Y H λx e=>∃z,x=.str z/\z.length<=1000/\Q (.str z) e
theorem O4(h1:PE X e te):PE X (.FormattedValue e (-1) none pos) (Uh te):=by
 intro pins s Y H Q I h;refine FormattedValue_plain (bf (h1 pins s Y H _ I h) λv s1 ⟨x,P,g,i,V⟩=>?_);obtain⟨z,rfl,hz,q⟩:=V;obtain⟨tk,rfl⟩:=i;have B:1000<=sizeLine:=by rw[sizeLine_eq];decide
 exact formatField_str (λt' k=>⟨.str z,P,g.tok _,⟨t',rfl⟩,q⟩) (Vg hz B)
noncomputable def MF(zs:List Str):Str:=zs.foldl (λa b=>a++b) Za
def Fb(t:TJ):TE:=λY H Q=>t Y H λzs e=>Q (.str (MF zs)) e
theorem Qs{v1 v2:Expr}{t:TJ}(h:PJ X (v1::v2::es) t)(hl:(v1::v2::es).length<=100:=by decide)(hs:evalEach (v1::v2::es) X.env=eval v1 X.env::eval v2 X.env::evalEach es X.env:=by rfl):PE X (.JoinedStr (v1::v2::es) pos) (Fb t):=by
 intro pins s Y H Q I hw;refine JoinedStr_many ?_;rw[<-hs];refine h Za pins s Y H Q ?_ I hw;have:200000<=sizeLine:=by rw[sizeLine_eq];decide
 show 0+1000*_<=_;omega
end
section
variable{X:Cx}{pins:List (Addr×Obj)}{Y:St}{H:Hp}{s:Shared}{d:Addr}{ob:Obj}{kvs:List (Key×V)}
theorem Inv.swap{o':HO}(I:Inv X pins Y H s)(e:H d=some o)(r:∀xs,o≠.tup xs)(A:∀y,o≠.own y)(G:∀ps,o≠.tbl ps)(h0:∀u v,X.H₀ d≠some (.frz u v))(new:ba X.prog X.w (upd H d o') s.heap d o'):Inv X pins Y (upd H d o') s:=by
 have nd:∀b,H b=none->b≠d:=λb E z=>by rw[z,e] at E;cases E
 refine⟨I.ok,I.os,I.bare,⟨I.base.keep,I.base.slot,λb u q n k=>?_,I.base.there,λb xs q=>?_,λb u v q=>?_,λb ps q=>?_⟩,I.loc,I.cell,?_,λx c q=>?_,λp hp=>?_,λb u q=>?_,I.len⟩
 .have:=I.base.free b u q n k;rw[au (nd b this)];exact this
 .have:=I.base.tups b xs q;rw[au (λz=>by rw[z,e] at this;exact r _ (U1 this))];exact this
 .have:=I.base.frzs b u v q;rw[au (λz=>by rw[z] at q;exact h0 _ _ q)];exact this
 .obtain⟨more,this⟩:=I.base.tbls b ps q;exact⟨more,by rw[au (λz=>by rw[z,e] at this;exact G _ (U1 this))];exact this⟩
 .rw[au (nd _ I.free)];exact I.free
 .have:=I.freeC x c q;rw[au (nd _ this)];exact this
 .obtain⟨V,Q,O⟩:=I.pin p hp;exact⟨V,by rw[au (nd _ Q)];exact Q,O⟩
 .by_cases E:b=d
  .subst E;rw[aI] at q;cases q;exact new
  .rw[au E] at q;refine(I.hok b u q).pj (λ_ _ _ z=>z) (λc z=>?_) λc xs z=>?_
   .rw[au (λy=>by rw[y,e] at z;exact A _ (U1 z))];exact z
   .rw[au (λy=>by rw[y,e] at z;exact r _ (U1 z))];exact z
theorem Inv.freeze(I:Inv X pins Y H s)(e:H d=some (.dK kvs)):(∀u v,X.H₀ d≠some (.frz u v))/\∃ob,s.heap.get? d=some ob/\Inv X pins Y (upd H d (.frz ob (.dK kvs))) s:=by
 have h0:∀u v,X.H₀ d≠some (.frz u v):=λu v z=>by have:=I.base.frzs d u v z;rw[e] at this;cases this
 obtain⟨ob,n⟩:=(I.hok d _ e).is;exact⟨h0,ob,n,I.swap e (λ_ z=>by cases z) (λ_ z=>by cases z) (λ_ z=>by cases z) h0 ⟨n,I.hok d _ e⟩⟩
theorem Inv.Si(I:Inv X pins Y H s)(e:H d=some (.frz ob (.dK kvs)))(h0:∀u v,X.H₀ d≠some (.frz u v)):Inv X pins Y (upd H d (.dK kvs)) s:=
 I.swap e (λ_ z=>by cases z) (λ_ z=>by cases z) (λ_ z=>by cases z) h0 (I.hok d _ e).2
end
def SY(d:Addr)(ob:Obj)(kvs:List (Key×V)):It:=
 ⟨λi H=>H d=some (.frz ob (.dK kvs))/\i<kvs.length,λi H x H'=>H'=H/\∃p,kvs[i]?=some p/\x=kV p.1,λi H=>H d=some (.frz ob (.dK kvs))/\kvs.length<=i⟩
theorem HY{k:Key}(h:(aJ P w).is k v=true):RelV (kV k) v:=by
 have h:mv k v=true:=h;rcases bh h with ⟨i,t,rfl,rfl⟩|⟨y,t,rfl,rfl⟩
 .exact⟨t,rfl⟩
 .exact⟨t,rfl⟩
theorem Am{d it:Addr}{ob:Obj}{kvs:List (Key×V)}{vs:List (Key×Value)}{ep:Nat}(T:KV kvs vs)
  (A:∀h:Heap,h.get? d=some ob->h.DictAt (aJ P w) d vs ep):Turn P w K (.Name x px) (SY d ob kvs) [it] it (λi h=>h.IsKeyIter it d i vs.length ep) where
 mem:=by simp
 obj:=λi h st b N=>by rw[Va.mp N];obtain⟨o,e,c,Q⟩:=st;exact⟨o,e,λv z=>by rw[Q] at z;cases z⟩
 keep:=λi h h' st k=>by obtain⟨o,e,r⟩:=st;exact⟨o,k it (by simp) o e,r⟩
 item:=by
  intro X l m n hc i pins s Y H E I hf st Z;subst l m n;obtain⟨e,hi⟩:=Z;obtain⟨B,C,L,D,F,G⟩:=hf it (by simp);have hl:kvs.length=vs.length:=by have:=congrArg V2 T.keys;simpa using this
  have q:=(I.hok d _ e).1;obtain⟨⟨k,v⟩,S⟩:∃p,vs[i]?=some p:=⟨vs[i]'(by omega),by simp[show i<vs.length by omega]⟩
  refine wpAny_pyNext_dict_item st (A _ q) S λy h' u R O=>?_;have g:Inv X pins Y H { s with heap:=h' }:=I.turned (t':=s.toks) (λb o N e=>(O.2 b N).trans e) B C D F G;refine⟨y,rfl,wpAny_pure ⟨kV k,H,g,HY u,⟨rfl,?_⟩,R,λb N=>(hf b N).1⟩⟩;have e2:(kvs.map (·.1))[i]?=some k:=by rw[T.keys,UU,S];rfl
  rw[UU] at e2;cases a:kvs[i]? with
  |none=>rw[a] at e2;cases e2
  |some p=>rw[a] at e2;exact⟨p,rfl,by rw[<-U1 e2]⟩
 done:=by
  intro X l m n hc i pins s Y H E I hf st Z;subst l m n;obtain⟨e,hi⟩:=Z;obtain⟨B,C,L,D,F,G⟩:=hf it (by simp);have hl:kvs.length=vs.length:=by have:=congrArg V2 T.keys;simpa using this
  exact wpAny_pyNext_dict_end (I.ok.hd hc) st (A _ (I.hok d _ e).1) (by simp;omega) λh' J=>⟨rfl,I.turned (t':=s.toks) (λb o N e=>J b o N e) B C D F G⟩
 self:=λ_ _ _ _ _ st h=>wpAny_pyIter_keyiter st h
noncomputable def Sh(x:Str):It:=⟨λi _=>i<x.cps.size,λi H v H'=>H'=H/\∃c,x.cps[i]?=some c/\v=.str ⟨#[c]⟩,λi _=>x.cps.size<=i⟩
variable{tg:Expr}
theorem vX(it:Addr)(x:Str)(t:Tok):Turn P w K tg (Sh x) [it] it (λi h=>h.IsStrIter it "str_ascii_iterator" x t i) where
 mem:=by simp
 obj:=λi h st b N=>by
  have e:b=it:=by simpa using N
  subst e;obtain⟨o,e,c,d⟩:=st;exact⟨o,e,λv z=>by rw[d] at z;cases z⟩
 keep:=λi h h' st k=>by obtain⟨o,e,r⟩:=st;exact⟨o,k it (by simp) o e,r⟩
 item:=by intro X l m n hc i pins s Y H E I hf st Z;subst l m n;have Z:i<x.cps.size:=Z;obtain⟨B,C,L,D,F,G⟩:=hf it (by simp);refine wpAny_pyNext_ascii_item st (c:=x.cps[i]) (by simp[Z]) λh' R O=>?_;have g:Inv X pins Y H { s with heap:=h',toks:=s.toks+1 }:=I.turned (t':=s.toks+1) (λb o N e=>(O.2 b N).trans e) B C D F G;obtain⟨o,e,c,d⟩:=id R;exact⟨_,rfl,t5 (s:={ s with heap:=h',toks:=s.toks+1 }) e c d (by decide) ⟨.str ⟨#[x.cps[i]]⟩,H,g,⟨_,rfl⟩,⟨rfl,_,by simp[Z],rfl⟩,R,λb N=>(hf b N).1⟩⟩
 done:=by intro X l m n hc i pins s Y H E I hf st Z;subst l m n;have Z:x.cps.size<=i:=Z;obtain⟨B,C,L,D,F,G⟩:=hf it (by simp);exact wpAny_pyNext_ascii_end (I.ok.hd hc) st (by simp;omega) λh' T=>⟨rfl,I.turned (t':=s.toks) (λb o N e=>T b o N e) B C D F G⟩
 self:=λ_ _ _ _ _ st h=>wpAny_pyIter_striter_ascii st h
theorem zw(it:Addr)(x:Str)(t:Tok):Turn P w K tg (Sh x) [it] it (λi h=>h.IsStrIter it "str_iterator" x t i) where
 mem:=by simp
 obj:=λi h st b N=>by
  have e:b=it:=by simpa using N
  subst e;obtain⟨o,e,c,d⟩:=st;exact⟨o,e,λv z=>by rw[d] at z;cases z⟩
 keep:=λi h h' st k=>by obtain⟨o,e,r⟩:=st;exact⟨o,k it (by simp) o e,r⟩
 item:=by intro X l m n hc i pins s Y H E I hf st Z;subst l m n;have Z:i<x.cps.size:=Z;obtain⟨B,C,L,D,F,G⟩:=hf it (by simp);refine wpAny_pyNext_wide_item st (c:=x.cps[i]) (by simp[Z]) λh' R O=>?_;have g:Inv X pins Y H { s with heap:=h',toks:=s.toks+1 }:=I.turned (t':=s.toks+1) (λb o N e=>(O.2 b N).trans e) B C D F G;obtain⟨o,e,c,d⟩:=id R;exact⟨_,rfl,t5 (s:={ s with heap:=h',toks:=s.toks+1 }) e c d (by decide) ⟨.str ⟨#[x.cps[i]]⟩,H,g,⟨_,rfl⟩,⟨rfl,_,by simp[Z],rfl⟩,R,λb N=>(hf b N).1⟩⟩
 done:=by intro X l m n hc i pins s Y H E I hf st Z;subst l m n;have Z:x.cps.size<=i:=Z;obtain⟨B,C,L,D,F,G⟩:=hf it (by simp);exact wpAny_pyNext_wide_end (I.ok.hd hc) st (by simp;omega) λh' T=>⟨rfl,I.turned (t':=s.toks) (λb o N e=>T b o N e) B C D F G⟩
 self:=λ_ _ _ _ _ st h=>wpAny_pyIter_striter_wide st h
section
variable{X:Cx}{tg:Expr}
def QR(K:UN)(F:TE):TI:=λY H R=>F Y H λx e=>(∃a,x=.ref a/\(((∃xs,g9 K e a xs)/\R (TQ K a) e)\/((∃xs,iu K e a xs)/\R (TN K a) e)))\/∃t,x=.str t/\R (Sh t) e
theorem FT{l:Expr}{F:TE}(hl:PE X l F):PI X tg l (QR X.K F):=by
 intro pins s Y H R I h;refine bf (hl pins s Y H _ I h) λv s1 ⟨x,P,g,i,k⟩=>?_;rcases k with ⟨a,e,⟨⟨xs,j⟩,q⟩|⟨⟨xs,j⟩,q⟩⟩|⟨t,e,q⟩
 .subst e;cases i;obtain⟨its,D,p,hz⟩:=g.list j;refine wpAny_pyIter_list p.isList ?_;refine⟨s1.heap.objs.size,[s1.heap.objs.size],_,_,P,rfl,g.kept (t':=s1.toks) λb o e=>UR _ e,yW a _,⟨_,U6 _ rfl,rfl,rfl⟩,λb d=>?_,q⟩;have e:b=s1.heap.objs.size:=by simpa using d
  subst e;exact g.ze (U2 _) (g.hok.fresh (U2 _))
 .subst e;cases i;obtain⟨its,D,p,hz⟩:=g.tuple j;refine wpAny_pyIter_tuple (show s1.heap.IsTuple a its.toArray from p) ?_;refine⟨s1.heap.objs.size,[s1.heap.objs.size],_,_,P,rfl,g.kept (t':=s1.toks) λb o e=>UR _ e,v5 a _,⟨_,U6 _ rfl,rfl,rfl⟩,λb d=>?_,q⟩;have e:b=s1.heap.objs.size:=by simpa using d
  subst e;exact g.ze (U2 _) (g.hok.fresh (U2 _))
 .subst e;obtain⟨tk,rfl⟩:=i;have fin:∀b,b∈[s1.heap.objs.size]->oi X pins P b:=λb d=>by
   have e:b=s1.heap.objs.size:=by simpa using d
   subst e;exact g.ze (U2 _) (g.hok.fresh (U2 _))
  cases ha:t.cps.all (·<128)
  .refine wpAny_pyIter_wide ha ?_;exact⟨s1.heap.objs.size,[s1.heap.objs.size],_,_,P,rfl,g.kept (t':=s1.toks) λb o e=>UR _ e,zw _ t tk,⟨_,U6 _ rfl,rfl,rfl⟩,fin,q⟩
  .refine wpAny_pyIter_ascii ha ?_;exact⟨s1.heap.objs.size,[s1.heap.objs.size],_,_,P,rfl,g.kept (t':=s1.toks) λb o e=>UR _ e,vX _ t tk,⟨_,U6 _ rfl,rfl,rfl⟩,fin,q⟩
def OH(K:UN)(g:List Bool->Bool):List V->Hp->VK->Prop:=λxs H Q=>∃p ys bs,xs=[.ref p]/\g9 K H p ys/\ys=bs.map V.bl/\Q (.bl (g bs)) H
theorem range_all{bs:List Bool}{tr:Nat->Bool}(h:∀i b,bs[i]?=some b->tr i=b):(Vo bs.length).all tr=bs.all id:=by
 have:(Vo bs.length).map tr=bs:=by
  apply WK;intro i;rw[UU];by_cases hi:i<bs.length
  .rw[Wz hi,Ve hi,Option.map_some,h i _ (Ve hi)]
  .rw[WU (by simpa using hi),WU (by simpa using hi)];rfl
 calc (Vo bs.length).all tr=((Vo bs.length).map tr).all id:=by rw[Zf];rfl
  _=bs.all id:=by rw[this]
theorem Bm(hc:X.calm=true):bF X (.builtin "all") (OH X.K λbs=>bs.all id):=by
 intro pins s Y H xs us Q I r h;obtain⟨p,ys,bs,rfl,j,rfl,q⟩:=h;obtain⟨u,rfl,w⟩:=vals1 r;cases w;obtain⟨its,r',pl,hz⟩:=I.list j;have N:=r'.length;refine call_all_walk (wpAny_pyIter_list pl.isList ?_);refine⟨s.heap.objs.size,_,_,_,_,_,(λi=>bs.getD i false),rfl,Walks.list (A:=X.A.in1) (I.ok.hd hc) _ p (by obtain⟨o,ho,_⟩:=pl.isList;exact Vi (U4 ho)) its.toArray,⟨⟨_,U6 _ rfl,rfl,rfl⟩,pl.isList.at λo e=>UR _ e⟩,λi v s1 Z n l V=>?_,λh' tk hk=>?_⟩
 .have c:its[i]?=some v:=by simpa using l
  cases T:bs[i]? with
  |none=>have h1:=YU.mp T;have h2:=(UQ.mp c).1;rw[UP] at N;omega
  |some b=>
   obtain⟨u,f,J⟩:=r'.get (i:=i) (x:=.bl b) (by rw[UU,T];rfl);rw[c] at f;cases f;cases J;have:bs.getD i false=b:=by rw[VW,T];rfl
   replace V:Z (bs.getD i false) s1:=V
   rw[this] at V;exact wpAny_pure V
 .have e1:its.toArray.size=bs.length:=by simp at N ⊢;omega
  rw[e1,range_all (bs:=bs) λi b e=>by show bs.getD i false=b;rw[VW,e];rfl];exact⟨.bl _,H,I.kept (t':=tk) λb o e=>hk b o (λz=>by have:=Va.mp z;subst this;exact absurd (U4 e) (VI _)) (UR _ e),rfl,q⟩
end
end L2
namespace W
variable{q:Int}
theorem jc(p:Int)(h:q<0):q<p.fmod q/\p.fmod q<=0:=by
 rw[Int.fmod_eq_emod];have h1:=zaf p (show q≠0 by omega);have h2:=Int.emod_lt_of_neg p h;by_cases d:q ∣ p
 .rw[if_pos (Or.inr d),Int.emod_eq_zero_of_dvd d];omega
 .rw[if_neg (by intro z;rcases z with z|z;omega;exact d z)];have h3:p%q≠0:=λz=>d (Int.dvd_of_emod_eq_zero z);omega
theorem uf(p:Int)(h:q≠0):(p.fmod q).natAbs<q.natAbs:=by
 rcases Ye h with z|z
 .have:=jc p z;omega
 .have h1:=Yg p z;have h2:=WQ p z;omega
theorem nJ(p q:Int):VD q (p.fmod q)=VD p q:=by
 have h:p.fmod q=p-p.fdiv q*q:=by rw[Int.fmod_def,Yn]
 rw[h,Int.gcd_sub_mul_right_right,Zp]
noncomputable def cd(x y:Int):Int:=if y<0 then -(VD x y:Int) else (VD x y:Int)
variable{p:Int}
theorem GJ(h:q≠0)(z:p.fmod q=0):q=cd p q:=by have e:=nJ p q;rw[z,ZV] at e;unfold cd;rw[<-e];split<;>omega
theorem GN(h:q≠0)(z:p.fmod q≠0):cd q (p.fmod q)=cd p q:=by
 unfold cd;rw[nJ];rcases Ye h with g|g
 .have:=jc p g;rw[if_pos (by omega),if_pos g]
 .have h2:=WQ p g;rw[if_neg (by omega),if_neg (by omega)]
theorem uG(x y:Int):cd x y ∣ x:=by
 unfold cd;split
 .exact(Int.neg_dvd).mpr (Yv x y)
 .exact Yv x y
theorem rh(x y:Int):cd x y ∣ y:=by
 unfold cd;split
 .exact(Int.neg_dvd).mpr (Xj x y)
 .exact Xj x y
theorem wR{x y:Int}(h:y≠0):cd x y≠0:=by have:=Wn x h;unfold cd;split<;>omega
theorem D6(x y:Int):(cd x y).natAbs=VD x y:=by unfold cd;split<;>omega
theorem P8{x y:Int}(h:y≠0):(cd x y).natAbs<=y.natAbs:=by rw[D6];have h1:VD x y ∣ y.natAbs:=Int.natCast_dvd_natCast.mp (Int.dvd_natAbs.mpr (Xj x y));exact Nat.le_of_dvd (by omega) h1
noncomputable abbrev Num:=Int×Int
def gv(t b:Int):Num:=(t.fdiv (cd t b),b.fdiv (cd t b))
noncomputable def Ly(t b:Int):Num:=if b<0 then ((-t).fdiv (VD (-t) (-b)),(-b).fdiv (VD (-t) (-b))) else (t.fdiv (VD t b),b.fdiv (VD t b))
theorem kr{t g:Int}(r:g≠0)(d:g ∣ t):(-t).fdiv g=t.fdiv (-g):=by
 obtain⟨k,rfl⟩:=d;have e1:-(g*k)=g*(-k):=by rw[Int.mul_neg]
 have e2:g*k=(-g)*(-k):=by rw[Int.neg_mul_neg]
 rw[e1,Wa _ r,e2,Wa _ (by omega)]
variable{b:Int}
theorem HX{t:Int}(h:b≠0):Ly t b=gv t b:=by
 unfold Ly gv cd;by_cases z:b<0
 .rw[if_pos z,if_pos z,Int.gcd_neg,Int.neg_gcd];have H:=Wn t h;rw[kr (by omega) (Yv t b),kr (by omega) (Xj t b)]
 .rw[if_neg z,if_neg z]
open L2
def Ok(q:Num):Prop:=0<q.2/\VD q.1 q.2=1
theorem mU{t:Int}(h:b≠0):cd t b*(gv t b).1=t/\cd t b*(gv t b).2=b:=by
 have h0:=wR (x:=t) h;obtain⟨k,hk⟩:=uG t b;obtain⟨m,hm⟩:=rh t b;have e1:t.fdiv (cd t b)=k:=by have:=Wa k h0;rwa[<-hk] at this
 have e2:b.fdiv (cd t b)=m:=by have:=Wa m h0;rwa[<-hm] at this
 exact⟨by show cd t b*t.fdiv (cd t b)=t;rw[e1];exact hk.symm,by show cd t b*b.fdiv (cd t b)=b;rw[e2];exact hm.symm⟩
theorem F4{t:Int}(h:b≠0):(0<b->0<cd t b)/\(b<0->cd t b<0):=by
 have:=Wn t h;unfold cd;constructor
 .intro z;rw[if_neg (by omega)];omega
 .intro z;rw[if_pos z];omega
theorem yH{t:Int}(h:b≠0):0<(gv t b).2:=by
 obtain⟨_,e⟩:=mU (t:=t) h;obtain⟨s1,s2⟩:=F4 (t:=t) h;rcases Ye h with z|z
 .have c:=s2 z;rcases Int.lt_or_le 0 (gv t b).2 with q|q
  .exact q
  .have:=Int.mul_nonneg_of_nonpos_of_nonpos (Int.le_of_lt c) q;omega
 .have c:=s1 z;rcases Int.lt_or_le 0 (gv t b).2 with q|q
  .exact q
  .have:=Int.mul_nonpos_of_nonneg_of_nonpos (Int.le_of_lt c) q;omega
theorem Ew{t:Int}(h:b≠0):Ok (gv t b):=by
 refine⟨yH h,?_⟩;obtain⟨e1,e2⟩:=mU (t:=t) h;have g:VD (cd t b*(gv t b).1) (cd t b*(gv t b).2)=(cd t b).natAbs*VD (gv t b).1 (gv t b).2:=Int.gcd_mul_left _ _ _;rw[e1,e2,D6] at g;have p:=Wn t h;have:VD t b*1=VD t b*VD (gv t b).1 (gv t b).2:=by rw[Nat.mul_one];exact g
 exact(Nat.eq_of_mul_eq_mul_left p this).symm
theorem tG{q:Num}(h:Ok q):gv q.1 q.2=q:=by
 have e:cd q.1 q.2=1:=by unfold cd;rw[if_neg (by have:=h.1;omega),h.2];rfl
 unfold gv;rw[e];have h1:∀x:Int,x.fdiv 1=x:=λx=>by have:=Wa (a:=1) x (by decide);rwa[Int.one_mul] at this
 rw[h1,h1]
theorem Ok.neg{q:Num}(h:Ok q):Ok (-q.1,q.2):=⟨h.1,by show VD (-q.1) q.2=1;rw[Int.neg_gcd];exact h.2⟩
variable{c:Int}
theorem pf{x:Int}(h:c≠0):x.natAbs<=(c*x).natAbs:=by rw[YT];exact Nat.le_mul_of_pos_left _ (by omega)
theorem DZ{t:Int}{m n:Nat}(h:b≠0)(h1:Bd m t)(h2:Bd n b):Bd m (gv t b).1/\Bd n (gv t b).2:=by obtain⟨e1,e2⟩:=mU (t:=t) h;have G:=pf (x:=(gv t b).1) (wR (x:=t) h);have l:=pf (x:=(gv t b).2) (wR (x:=t) h);rw[e1] at G;rw[e2] at l;exact⟨Wi G h1,Wi l h2⟩
structure NB(n:Nat)(q:Num):Prop where
 ok:Ok q
 b1:Bd n q.1
 b2:Bd n q.2
theorem NB.mono{m n:Nat}{q:Num}(h:NB m q)(k:m<=n):NB n q:=⟨h.ok,h.b1.mono k,h.b2.mono k⟩
theorem NB.nz{n:Nat}{q:Num}(h:NB n q):q.2≠0:=by have:=h.ok.1;omega
theorem NB.gv{t b:Int}{n:Nat}(h:b≠0)(h1:Bd n t)(h2:Bd n b):NB n (gv t b):=⟨Ew h,(DZ h h1 h2).1,(DZ h h1 h2).2⟩
def eR(x y:Num):Num:=gv (x.1*y.2+y.1*x.2) (x.2*y.2)
def rj(x y:Num):Num:=gv (x.1*y.2-y.1*x.2) (x.2*y.2)
def wx(x y:Num):Num:=gv (x.1*y.1) (x.2*y.2)
theorem NB.add{n:Nat}{x y:Num}(h:NB n x)(k:NB n y):NB (2*n+1) (eR x y):=
 .gv (VE h.nz k.nz) (((h.b1.mul k.b2).add (k.b1.mul h.b2)).mono (by omega)) ((h.b2.mul k.b2).mono (by omega))
variable{y:Num}
theorem tO(h:Ok y):wx y (-1,1)=(-y.1,y.2):=by have e:=tG h.neg;unfold wx;simp only[Int.mul_neg,Int.mul_one];exact e
theorem BU(x y:Num):eR x (-y.1,y.2)=rj x y:=by unfold eR rj;simp only[Int.neg_mul,ZU]
theorem NB.neg{n:Nat}{y:Num}(h:NB n y):NB n (-y.1,y.2):=⟨h.ok.neg,h.b1.neg,h.b2⟩
theorem NB.zero{n:Nat}:NB (n+1) (0,1):=⟨⟨by decide,by decide⟩,UZ (by decide) (VT (by decide) (zag 1 n)),UZ (by decide:1<2^1) (VT (by decide) (zag 1 n))⟩
noncomputable def nv(x:Num):Rat:=Xa x.1 x.2
theorem vV{t:Int}(h:b≠0):nv (gv t b)=Xa t b:=by obtain⟨e1,e2⟩:=mU (t:=t) h;have p:=yH (t:=t) h;unfold nv;rw[Y7 (by omega) h];generalize (gv t b).1=k at e1 ⊢;generalize (gv t b).2=m at e2 p ⊢;rw[<-e1];rw[show k*b=k*(cd t b*m) from by rw[e2]];rw[Int.mul_left_comm,Y8]
variable{x:Num}
theorem vy(h:Ok x)(k:Ok y):nv (eR x y)=nv x+nv y:=by have h1:=h.1;have k1:=k.1;unfold eR;rw[vV (VE (by omega) (by omega))];exact(Zx _ _ (by omega) (by omega)).symm
theorem Ei(h:Ok x)(k:Ok y):nv (wx x y)=nv x*nv y:=by have h1:=h.1;have k1:=k.1;unfold wx;rw[vV (VE (by omega) (by omega))];exact(Zy _ _).symm
theorem Lx(h:Ok x)(k:Ok y):Ok (eR x y):=Ew (VE (by have:=h.1;omega) (by have:=k.1;omega))
theorem Qe{a:Int}(h:a ∣ b*c)(g:VD a b=1):a ∣ c:=by
 have h1:a.natAbs ∣ b.natAbs*c.natAbs:=by rw[<-YT];exact Zz.mpr h
 exact Zz.mp (Nat.Coprime.dvd_of_dvd_mul_left (show Nat.Coprime a.natAbs b.natAbs from g) h1)
theorem JY(h:Ok x)(k:Ok y)(e:nv x=nv y):x=y:=by have h1:=h.1;have k1:=k.1;unfold nv at e;rw[Y7 (by omega) (by omega)] at e;have a:x.2 ∣ y.2:=Qe (show x.2 ∣ x.1*y.2 from ⟨y.1,by rw[e,Yn]⟩) (by rw[Zp];exact h.2);have w:y.2 ∣ x.2:=Qe (show y.2 ∣ y.1*x.2 from ⟨x.1,by rw[<-e,Yn]⟩) (by rw[Zp];exact k.2);have e2:x.2=y.2:=Int.dvd_antisymm (by omega) (by omega) a w;rw[e2] at e;have e1:x.1=y.1:=Int.eq_of_mul_eq_mul_right (by omega) e;exact Prod.ext e1 e2
theorem Rq(h:Ok x)(k:Ok y):x.1*y.2<y.1*x.2↔nv x<nv y:=by
 have h1:=h.1;have k1:=k.1;have v:(x.2:Rat)≠0:=by intro z;have:=zah.mp (show ((x.2:Int):Rat)=((0:Int):Rat) from z);omega
 have S:(y.2:Rat)≠0:=by intro z;have:=zah.mp (show ((y.2:Int):Rat)=((0:Int):Rat) from z);omega
 have ex:nv x*(x.2:Rat)=x.1:=by unfold nv;rw[Z1];grind
 have Q:nv y*(y.2:Rat)=y.1:=by unfold nv;rw[Z1];grind
 have s:(0:Rat)<(x.2:Rat):=by have:=XG.mpr h1;simpa using this
 have u:(0:Rat)<(y.2:Rat):=by have:=XG.mpr k1;simpa using this
 have H:(0:Rat)<(x.2:Rat)*(y.2:Rat):=Rat.mul_pos s u;rw[<-XG,zai,zai,<-ex,<-Q];rw[show nv x*(x.2:Rat)*(y.2:Rat)=nv x*((x.2:Rat)*(y.2:Rat)) by grind,show nv y*(y.2:Rat)*(x.2:Rat)=nv y*((x.2:Rat)*(y.2:Rat)) by grind];exact Rat.mul_lt_mul_right H
theorem kj:nv (0,1)=0:=by decide +kernel
theorem FW:Ok (0,1):=⟨by decide,by decide⟩
section
variable{x y z:Num}(hx:Ok x)(hy:Ok y)(hz:Ok z)
noncomputable def ll(x y:Num):Bool:=decide (x.1*y.2<y.1*x.2)
include hx hy in
theorem qQ:ll x y=true↔nv x<nv y:=by unfold ll;rw[decide_eq_true_eq];exact Rq hx hy
include hx hy hz in
end
end W
set_option maxHeartbeats 1000000
namespace W
open L2 PySem
theorem NB.Hh{m n:Nat}{x y:Num}(h:NB m x)(k:NB n y):NB (m+n+1) (eR x y):=
 .gv (VE h.nz k.nz) (((h.b1.mul k.b2).add ((k.b1.mul h.b2).mono (n:=m+n) (by omega))).mono (by omega)) ((h.b2.mul k.b2).mono (by omega))
end W
namespace M
open PySem L2
inductive A where
 |non|bl(b:Bool)|int(i:Int)|str(x:Str)|tup(xs:List A)|lst(xs:List A)|aP(kvs:List (Key×A))|exc(c:Str)|obj(c:Str)(fs:List (Str×A))
structure Kx where
 K:UN
 mg:Str->Option Value
mutual
inductive RA(k:Kx)(G:Hp):V->A->Prop
 |non:RA k G .non .non
 |bl(b:Bool):RA k G (.bl b) (.bl b)
 |int(i:Int):RA k G (.int i) (.int i)
 |str(x:Str):RA k G (.str x) (.str x)
 |tup{p:Addr}{vs:List V}{as:List A}(e:iu k.K G p vs)(r:bx k G vs as):RA k G (.ref p) (.tup as)
 |lst{p:Addr}{vs:List V}{as:List A}(e:g9 k.K G p vs)(r:bx k G vs as):RA k G (.ref p) (.lst as)
 |aP{p:Addr}{vs:List (Key×V)}{as:List (Key×A)}(e:Rd G p (.dK vs))(r:dY k G vs as):RA k G (.ref p) (.aP as)
 |exc{p C:Addr}{c:Str}(e:G p=some (tY p C))(m:k.mg c=some (.ref C)):RA k G (.ref p) (.exc c)
 |obj{p C dx:Addr}{c:Str}{vs:List (Str×V)}{fs:List (Str×A)}(e:G p=some (.ins C dx vs))(m:k.mg c=some (.ref C))(r:pq k G vs fs):RA k G (.ref p) (.obj c fs)
inductive bx(k:Kx)(G:Hp):List V->List A->Prop
 |nil:bx k G [] []
 |cons{v:V}{a:A}{vs:List V}{as:List A}(h:RA k G v a)(r:bx k G vs as):bx k G (v::vs) (a::as)
inductive pq(k:Kx)(G:Hp):List (Str×V)->List (Str×A)->Prop
 |nil:pq k G [] []
 |cons{y:Str}{v:V}{a:A}{vs:List (Str×V)}{as:List (Str×A)}(h:RA k G v a)(r:pq k G vs as):pq k G ((y,v)::vs) ((y,a)::as)
inductive dY(k:Kx)(G:Hp):List (Key×V)->List (Key×A)->Prop
 |nil:dY k G [] []
 |cons{y:Key}{v:V}{a:A}{vs:List (Key×V)}{as:List (Key×A)}(h:RA k G v a)(r:dY k G vs as):dY k G ((y,v)::vs) ((y,a)::as)
end
noncomputable def Aj:HO->Option (List (Key×V))
 | .dK kvs=>some kvs
 | .frz _ (.dK kvs)=>some kvs
 |_=>none
def Oq(o o':HO):Prop:=o'=o\/∃kvs,Aj o=some kvs/\Aj o'=some kvs
variable{G:Hp}{kvs:List (Key×V)}
theorem dS{b:Addr}{o:HO}(h:G b=some o)(e:Aj o=some kvs):Rd G b (.dK kvs):=by
 unfold Aj at e;split at e
 .cases e;exact .inl h
 .cases e;exact .inr ⟨_,h⟩
 .cases e
theorem Dn{b:Addr}(h:Rd G b (.dK kvs)):∃o,G b=some o/\Aj o=some kvs:=by
 rcases h with h|⟨o,h⟩
 .exact⟨_,h,rfl⟩
 .exact⟨_,h,rfl⟩
def Sq(G G':Hp):Prop:=∀b o,G b=some o->∃o',G' b=some o'/\Oq o o'
variable{G':Hp}
theorem Sq.of(h:Sr G G'):Sq G G':=λb o e=>⟨o,h b o e,.inl rfl⟩
theorem Sq.refl(G:Hp):Sq G G:=λb o e=>⟨o,e,.inl rfl⟩
theorem Sq.keep(h:Sq G G'){b:Addr}{o:HO}(e:G b=some o)(n:Aj o=none):G' b=some o:=by
 obtain⟨o',h1,h2⟩:=h b o e;rcases h2 with rfl|⟨kvs,h3,_⟩
 .exact h1
 .rw[n] at h3;cases h3
theorem Sq.Tv(h:Sq G G'){b:Addr}(r:Rd G b (.dK kvs)):Rd G' b (.dK kvs):=by
 obtain⟨o,e,d⟩:=Dn r;obtain⟨o',h1,h2⟩:=h b o e;rcases h2 with rfl|⟨x,h3,h4⟩
 .exact dS h1 d
 .rw[d] at h3;cases h3;exact dS h1 h4
variable{p:Addr}{vs:List V}
theorem cT{K:UN}(h:Sq G G')(q:iu K G p vs):iu K G' p vs:=q.imp (λr=>by
 rcases r with r|⟨o,r⟩
 .exact .inl (h.keep r rfl)
 .exact .inr ⟨o,h.keep r rfl⟩) id
theorem oE{K:UN}(h:Sq G G')(q:g9 K G p vs):g9 K G' p vs:=q.imp (λr=>by
 rcases r with r|⟨o,r⟩
 .exact .inl (h.keep r rfl)
 .exact .inr ⟨o,h.keep r rfl⟩) id
variable{v:V}
section
variable{k:Kx}{G G':Hp}
mutual
theorem RA.sm(s:Sq G G'):∀{v:V}{a:A},RA k G v a->RA k G' v a
 |_,_,.non=>.non
 |_,_,.bl b=>.bl b
 |_,_,.int i=>.int i
 |_,_,.str x=>.str x
 |_,_,.tup e r=>.tup (cT s e) (bx.sm s r)
 |_,_,.lst e r=>.lst (oE s e) (bx.sm s r)
 |_,_,.aP e r=>.aP (s.Tv e) (dY.sm s r)
 |_,_,.exc e m=>.exc (s.keep e rfl) m
 |_,_,.obj e m r=>.obj (s.keep e rfl) m (pq.sm s r)
theorem pq.sm(s:Sq G G'):∀{vs:List (Str×V)}{as:List (Str×A)},pq k G vs as->pq k G' vs as
 |_,_,.nil=>.nil
 |_,_,.cons h r=>.cons (RA.sm s h) (pq.sm s r)
theorem bx.sm(s:Sq G G'):∀{vs:List V}{as:List A},bx k G vs as->bx k G' vs as
 |_,_,.nil=>.nil
 |_,_,.cons h r=>.cons (RA.sm s h) (bx.sm s r)
theorem dY.sm(s:Sq G G'):∀{vs:List (Key×V)}{as:List (Key×A)},dY k G vs as->dY k G' vs as
 |_,_,.nil=>.nil
 |_,_,.cons h r=>.cons (RA.sm s h) (dY.sm s r)
end
theorem bx.len:∀{vs:List V}{as:List A},bx k G vs as->vs.length=as.length
 |_,_,.nil=>rfl
 |_,_,.cons _ r=>by rw[US,US,r.len]
theorem bx.at:∀{vs:List V}{as:List A}{i:Nat}{v:V},bx k G vs as->vs[i]?=some v->∃a,as[i]?=some a/\RA k G v a
 |_,_,_,_,.nil,e=>by simp at e
 |_,_,0,_,.cons h _,e=>by cases e;exact⟨_,rfl,h⟩
 |_,_,i+1,_,.cons _ r,e=>r.at (i:=i) e
theorem bx.ta:∀{vs:List V}{as:List A}{i:Nat}{a:A},bx k G vs as->as[i]?=some a->∃v,vs[i]?=some v/\RA k G v a
 |_,_,_,_,.nil,e=>by simp at e
 |_,_,0,_,.cons h _,e=>by cases e;exact⟨_,rfl,h⟩
 |_,_,i+1,_,.cons _ r,e=>r.ta (i:=i) e
theorem bx.app:∀{vs us:List V}{as bs:List A},bx k G vs as->bx k G us bs->bx k G (vs++us) (as++bs)
 |_,_,_,_,.nil,s=>s
 |_,_,_,_,.cons h r,s=>.cons h (r.app s)
theorem bx.snoc{as:List A}{a:A}(r:bx k G vs as)(h:RA k G v a):bx k G (vs++[v]) (as++[a]):=r.app (.cons h .nil)
theorem bx.rev:∀{vs:List V}{as:List A},bx k G vs as->bx k G vs.reverse as.reverse
 |_,_,.nil=>.nil
 |_,_,.cons h r=>by rw[Xh,Xh];exact r.rev.snoc h
theorem bx.take:∀{vs:List V}{as:List A}(n:Nat),bx k G vs as->bx k G (vs.take n) (as.take n)
 |_,_,0,_=>.nil
 |_,_,_+1,.nil=>.nil
 |_,_,n+1,.cons h r=>.cons h (r.take n)
theorem bx.drop:∀{vs:List V}{as:List A}(n:Nat),bx k G vs as->bx k G (vs.drop n) (as.drop n)
 |_,_,0,r=>r
 |_,_,_+1,.nil=>.nil
 |_,_,n+1,.cons _ r=>r.drop n
theorem bx.set{v:V}{a:A}(h:RA k G v a):∀{vs:List V}{as:List A}(i:Nat),bx k G vs as->bx k G (vs.set i v) (as.set i a)
 |_,_,_,.nil=>.nil
 |_,_,0,.cons _ r=>.cons h r
 |_,_,i+1,.cons q r=>.cons q (r.set h i)
theorem bx.strs:∀{vs:List V}{ss:List Str},bx k G vs (ss.map A.str)->vs=ss.map V.str
 |_,[],.nil=>rfl
 |_,_::ss,.cons h r=>by cases h;rw[r.strs (ss:=ss)];rfl
theorem bx.ofStrs:∀(ss:List Str),bx k G (ss.map V.str) (ss.map A.str)
 |[]=>.nil
 |s::ss=>.cons (.str s) (bx.ofStrs ss)
theorem pq.len:∀{vs:List (Str×V)}{as:List (Str×A)},pq k G vs as->vs.length=as.length
 |_,_,.nil=>rfl
 |_,_,.cons _ r=>by rw[US,US,r.len]
theorem pq.get:∀{vs:List (Str×V)}{as:List (Str×A)}(y:Str),pq k G vs as->(∃v a,vs.lookup y=some v/\as.lookup y=some a/\RA k G v a)\/(vs.lookup y=none/\as.lookup y=none)
 |_,_,y,.nil=>.inr ⟨rfl,rfl⟩
 |_,_,y,.cons (y:=z) (v:=v) (a:=a) h r=>by
  rw[Vs,Vs];cases c:y==z with
  |true=>exact .inl ⟨v,a,rfl,rfl,h⟩
  |false=>exact r.get y
def p5(f:Str)(a:A):List (Str×A)->List (Str×A)
 |[]=>[(f,a)]
 |(g,b)::fs=>if g=f then (g,a)::fs else (g,b)::p5 f a fs
theorem pq.put{f:Str}{v:V}{a:A}(h:RA k G v a):∀{vs:List (Str×V)}{as:List (Str×A)},pq k G vs as->pq k G (gM f v vs) (p5 f a as)
 |_,_,.nil=>.cons h .nil
 |_,_,.cons (y:=z) q r=>by
  unfold gM p5;split
  .exact .cons h r
  .exact .cons q (pq.put h r)
noncomputable def gp{α:Type}(as:List (Key×α))(y:Key):Option α:=(as.find? λs=>decide (s.1=y)).map (·.2)
noncomputable def jD{α:Type}(as:List (Key×α))(y:Key)(a:α):List (Key×α):=
 if (as.any λs=>decide (s.1=y))=true then as.map λs=>if s.1=y then (s.1,a) else s else as++[(y,a)]
theorem dY.len:∀{vs:List (Key×V)}{as:List (Key×A)},dY k G vs as->vs.length=as.length
 |_,_,.nil=>rfl
 |_,_,.cons _ r=>by rw[US,US,r.len]
theorem dY.keys:∀{vs:List (Key×V)}{as:List (Key×A)},dY k G vs as->vs.map (·.1)=as.map (·.1)
 |_,_,.nil=>rfl
 |_,_,.cons _ r=>by rw[U3,U3,r.keys]
theorem dY.app:∀{vs us:List (Key×V)}{as bs:List (Key×A)},dY k G vs as->dY k G us bs->dY k G (vs++us) (as++bs)
 |_,_,_,_,.nil,s=>s
 |_,_,_,_,.cons h r,s=>.cons h (r.app s)
theorem dY.get:∀{vs:List (Key×V)}{as:List (Key×A)}(y:Key),dY k G vs as->(∃v a,jE vs y=some v/\gp as y=some a/\RA k G v a)\/(jE vs y=none/\gp as y=none)
 |_,_,y,.nil=>.inr ⟨rfl,rfl⟩
 |_,_,y,.cons (y:=z) (v:=v) (a:=a) (vs:=vs) (as:=as) h r=>by
  unfold jE gp;by_cases c:z=y
  .left;exact⟨v,a,by simp[VB,c],by simp[VB,c],h⟩
  .have:=dY.get y r;unfold jE gp at this;simpa[VB,c] using this
theorem dY.any:∀{vs:List (Key×V)}{as:List (Key×A)}(y:Key),dY k G vs as->(vs.any λs=>decide (s.1=y))=(as.any λs=>decide (s.1=y))
 |_,_,y,.nil=>rfl
 |_,_,y,.cons h r=>by rw[WA,WA,dY.any y r]
theorem dY.wO{v:V}{a:A}(y:Key)(h:RA k G v a):∀{vs:List (Key×V)}{as:List (Key×A)},dY k G vs as->dY k G (vs.map λs=>if s.1=y then (s.1,v) else s) (as.map λs=>if s.1=y then (s.1,a) else s)
 |_,_,.nil=>.nil
 |_,_,.cons (y:=z) q r=>by
  rw[U3,U3];by_cases c:z=y
  .simp only[c,if_true];exact .cons h (dY.wO y h r)
  .simp only[c,if_false];exact .cons q (dY.wO y h r)
theorem dY.put{vs:List (Key×V)}{as:List (Key×A)}{a:A}(y:Key)(r:dY k G vs as)(h:RA k G v a):dY k G (putK vs y v) (jD as y a):=by
 unfold putK jD;rw[r.any y];split
 .exact dY.wO y h r
 .exact r.app (.cons h .nil)
end
noncomputable def cut(H:Hp)(L:List Addr):Hp:=λa=>if a∈L then none else H a
variable{H:Hp}{L:List Addr}
theorem Ct{a:Addr}(h:a∈L):cut H L a=none:=if_pos h
theorem rE{a:Addr}(h:a∉L):cut H L a=H a:=if_neg h
theorem CJ(H:Hp)(L:List Addr):Sq (cut H L) H:=Sq.of λb o e=>by
 unfold cut at e;split at e
 .cases e
 .exact e
variable{L':List Addr}
theorem Ay(h:∀a,a∈L'->a∈L):Sq (cut H L) (cut H L'):=Sq.of λb o e=>by
 by_cases c:b∈L
 .rw[Ct c] at e;cases e
 .rw[rE c] at e;rw[rE λz=>c (h b z)];exact e
inductive LO where
 |lst(xs:List A)|aP(kvs:List (Key×A))|obj(c:Str)(fs:List (Str×A))
def LO.a:LO->A
 | .lst xs=>.lst xs
 | .aP kvs=>.aP kvs
 | .obj c fs=>.obj c fs
inductive Sl where
 |un|fr(a:A)|lv(o:LO)|pv(o:LO)
inductive LR(k:Kx)(G H:Hp)(p:Addr):LO->Prop
 |lst{vs:List V}{as:List A}(e:H p=some (.lst vs))(r:bx k G vs as):LR k G H p (.lst as)
 |aP{vs:List (Key×V)}{as:List (Key×A)}(e:H p=some (.dK vs))(r:dY k G vs as):LR k G H p (.aP as)
 |obj{C dx:Addr}{c:Str}{vs:List (Str×V)}{fs:List (Str×A)}(e:H p=some (.ins C dx vs))(m:k.mg c=some (.ref C))(r:pq k G vs fs):LR k G H p (.obj c fs)
inductive i7(k:Kx)(G H:Hp):Option V->Sl->List Addr->Prop
 |un(x:Option V):i7 k G H x .un []
 |fr{v:V}{a:A}(h:RA k G v a):i7 k G H (some v) (.fr a) []
 |lv{p:Addr}{o:LO}(h:LR k G H p o):i7 k G H (some (.ref p)) (.lv o) [p]
 |pv{p:Addr}{o:LO}(h:LR k G H p o):i7 k G H (some (.ref p)) (.pv o) [p]
inductive aB(k:Kx)(G H:Hp):St->List Sl->List Addr->Prop
 |nil:aB k G H [] [] []
 |cons{x:Option V}{s:Sl}{Y:St}{Z:List Sl}{L L':List Addr}(h:i7 k G H x s L)(r:aB k G H Y Z L'):aB k G H (x::Y) (s::Z) (L++L')
variable{o:LO}
section
variable{k:Kx}{G G' H H':Hp}{L:List Addr}
theorem LR.is(h:LR k G H p o):∃u,H p=some u:=by cases h with|lst e _=>exact⟨_,e⟩|aP e _=>exact⟨_,e⟩|obj e _ _=>exact⟨_,e⟩
theorem LR.sm(s:Sq G G'){p:Addr}{o:LO}(e:∀u,H p=some u->H' p=some u)(h:LR k G H p o):LR k G' H' p o:=by
 cases h with
 |lst q r=>exact .lst (e _ q) (r.sm s)
 |aP q r=>exact .aP (e _ q) (r.sm s)
 |obj q m r=>exact .obj (e _ q) m (r.sm s)
theorem i7.is{x:Option V}{t:Sl}(h:i7 k G H x t L):∀p∈L,∃u,H p=some u:=by
 cases h with
 |un=>intro p hp;cases hp
 |fr=>intro p hp;cases hp
 |lv h=>intro p hp;rw[Va.mp hp];exact h.is
 |pv h=>intro p hp;rw[Va.mp hp];exact h.is
theorem i7.sm(s:Sq G G'){x:Option V}{t:Sl}(e:∀p∈L,∀u,H p=some u->H' p=some u)(h:i7 k G H x t L):i7 k G' H' x t L:=by
 cases h with
 |un=>exact .un _
 |fr h=>exact .fr (h.sm s)
 |lv h=>exact .lv (h.sm s (e _ (Va.mpr rfl)))
 |pv h=>exact .pv (h.sm s (e _ (Va.mpr rfl)))
theorem aB.is:∀{Y:St}{Z:List Sl}{L:List Addr},aB k G H Y Z L->∀p∈L,∃u,H p=some u
 |_,_,_,.nil,p,hp=>by cases hp
 |_,_,_,.cons h r,p,hp=>(Vb.mp hp).elim (h.is p) (r.is p)
theorem aB.sm(s:Sq G G'):∀{Y:St}{Z:List Sl}{L:List Addr},(∀p∈L,∀u,H p=some u->H' p=some u)->aB k G H Y Z L->aB k G' H' Y Z L
 |_,_,_,_,.nil=>.nil
 |_,_,_,e,.cons h r=>.cons (h.sm s λp hp=>e p (Vk _ hp)) (r.sm s λp hp=>e p (UX _ hp))
theorem aB.len:∀{Y:St}{Z:List Sl}{L:List Addr},aB k G H Y Z L->Y.length=Z.length
 |_,_,_,.nil=>rfl
 |_,_,_,.cons _ r=>by rw[US,US,r.len]
theorem aB.at:∀{Y:St}{Z:List Sl}{L:List Addr}{i:Nat}{s:Sl},aB k G H Y Z L->Z[i]?=some s->
  ∃x I L2 X,Y[i]?=some x/\i7 k G H x s L2/\L=I++L2++X/\∀{G' H':Hp}{y:Option V}{t:Sl}{L':List Addr},Sq G G'->(∀p∈I++X,∀u,H p=some u->H' p=some u)->i7 k G' H' y t L'->aB k G' H' (Y.set i y) (Z.set i t) (I++L'++X)
 |_,_,_,_,_,.nil,e=>by simp at e
 |_,_,_,0,_,.cons (x:=x) (L:=L) (L':=L') h r,e=>by cases e;refine⟨x,[],L,L',rfl,h,by simp,λsm e q=>?_⟩;simp only[List.set_cons_zero,XH];exact .cons q (r.sm sm (by simpa using e))
 |_,_,_,i+1,_,.cons (L:=L) h r,e=>by obtain⟨x,I,L2,X,e1,e2,e3,e4⟩:=aB.at (i:=i) r e;refine⟨x,L++I,L2,X,e1,e2,by rw[e3];simp,λsm e q=>?_⟩;simp only[List.set_cons_succ];have:=aB.cons (h.sm sm λp hp=>e p (by simp[hp])) (e4 sm (λp hp=>e p (by rcases Vb.mp hp with z|z<;>simp[z])) q);simpa[U0] using this
theorem aB.app:∀{Y B:St}{Z θ:List Sl}{L L':List Addr},aB k G H Y Z L->aB k G H B θ L'->aB k G H (Y++B) (Z++θ) (L++L')
 |_,_,_,_,_,_,.nil,s=>s
 |_,_,_,_,_,_,.cons h r,s=>by have:=aB.cons h (r.app s);simpa[U0] using this
theorem aB.split:∀{Y B:St}{Z θ:List Sl}{L:List Addr},Y.length=Z.length->aB k G H (Y++B) (Z++θ) L->∃I L2,L=I++L2/\aB k G H Y Z I/\aB k G H B θ L2
 |[],_,[],_,L,_,h=>⟨[],L,rfl,.nil,h⟩
 |x::Y,B,s::Z,θ,_,e,.cons (L:=L) h r=>by obtain⟨I,L2,e1,i,n⟩:=aB.split (by simpa using e) r;exact⟨L++I,L2,by rw[e1];simp,.cons h i,n⟩
 |_::_,_,[],_,_,e,_=>by simp at e
 |[],_,_::_,_,_,e,_=>by simp at e
theorem aB.dz:∀{vs:List V}{as:List A},bx k G vs as->aB k G H (vs.map some) (as.map Sl.fr) []
 |_,_,.nil=>.nil
 |_,_,.cons h r=>aB.cons (L:=[]) (.fr h) (aB.dz r)
theorem aB.Bw:∀{vs:List V}{as:List A}{L:List Addr},aB k G H (vs.map some) (as.map Sl.fr) L->L=[]/\bx k G vs as
 |[],[],_,.nil=>⟨rfl,.nil⟩
 |v::vs,a::as,_,.cons h r=>by
  cases h with
  |fr h=>obtain⟨e,q⟩:=aB.Bw r;exact⟨by rw[e];rfl,.cons h q⟩
end
structure Cn extends Kx where
 σ0:St
 H0:Hp
 Lp:List Addr
 Hd:List Addr
 Wk:List (Addr×HO)
def Cn.g(c:Cn)(H:Hp)(L:List Addr):Hp:=cut H (L++c.Hd)
structure Fr(c:Cn)(H:Hp):Prop where
 st:∀b o,c.H0 b=some o->∃u,H b=some u/\(b∉c.Lp->(∀w,(b,w)∉c.Wk)->u=o)
 pk:∀p∈c.Wk,H p.1=some p.2/\(∃ob vs,p.2=.frz ob (.dK vs))/\p.1∉c.Hd
variable{c:Cn}
theorem Fr.new{o:HO}(f:Fr c H)(h:H p=none):Fr c (upd H p o):=⟨λb u e=>by
 obtain⟨w,h1,h2⟩:=f.st b u e;exact⟨w,by rw[au (aM h1 h)];exact h1,h2⟩,λq j=>by
 obtain⟨h1,h2⟩:=f.pk q j;exact⟨by rw[au (aM h1 h)];exact h1,h2⟩⟩
theorem Fr.fresh(f:Fr c H)(h:H p=none):c.H0 p=none:=by
 cases e:c.H0 p with
 |none=>rfl
 |some o=>obtain⟨u,h1,_⟩:=f.st p o e;rw[h] at h1;cases h1
def fX(σ0 Y:St)(Z:List Sl):Prop:=∀(i:Nat)(o:LO),Z[i]?=some (Sl.pv o)->Y[i]?=σ0[i]?
structure eA(c:Cn)(Y:St)(H:Hp)(Z:List Sl)(B:St)(θ:List Sl)(L:List Addr):Prop where
 nd:L.Nodup
 rel:aB c.toKx (c.g H L) H (B++Y) (θ++Z) L
 own:∀p∈L,p∈c.Lp\/c.H0 p=none
 fr:Fr c H
 kp:fX c.σ0 Y Z
 lt:B.length=θ.length
 hd:∀p∈c.Hd,(∃u,c.H0 p=some u)/\p∉c.Lp
theorem g_same(c:Cn)(H:Hp)(L:List Addr):Sq (c.g H L) H:=CJ _ _
theorem dk(h:∀a,a∈L'->a∈L):Sq (c.g H L) (c.g H L'):=Ay λa ha=>by
 rcases Vb.mp ha with z|z
 .exact Vk _ (h a z)
 .exact UX _ z
theorem gP{a:Addr}(h:a∈L\/a∈c.Hd):c.g H L a=none:=Ct (by simpa using h)
theorem bz{a:Addr}(h:a∉L)(h':a∉c.Hd):c.g H L a=H a:=rE (by simp[h,h'])
variable{Y B:St}{Z θ:List Sl}
theorem eA.NW(b:eA c Y H Z B θ L)(h:p∈L):p∉c.Hd:=λz=>by
 obtain⟨⟨u,e⟩,n⟩:=b.hd p z;rcases b.own p h with y|y
 .exact n y
 .rw[y] at e;cases e
theorem eA.Pl(b:eA c Y H Z B θ L)(h:H p=none):p∉c.Hd:=λz=>by obtain⟨⟨u,e⟩,n⟩:=b.hd p z;rw[b.fr.fresh h] at e;cases e
def Bd(c:Cn)(Y:St)(H:Hp)(Z:List Sl)(B:St)(θ:List Sl):Prop:=∃L,eA c Y H Z B θ L
variable{s:Sl}{u:HO}{i:Nat}
section
variable{c:Cn}{Y:St}{H:Hp}{Z:List Sl}{B:St}{θ:List Sl}
theorem Bd.jW(b:Bd c Y H Z B θ):Y.length=Z.length:=by obtain⟨L,b⟩:=b;have:=b.rel.len;rw[UY,UY,b.lt] at this;omega
theorem Bd.push{a:A}(b:Bd c Y H Z B θ)(h:∀G,RA c.toKx G v a):Bd c Y H Z (some v::B) (.fr a::θ):=by obtain⟨L,b⟩:=b;exact⟨L,b.nd,aB.cons (L:=[]) (.fr (h _)) b.rel,b.own,b.fr,b.kp,by simp[b.lt],b.hd⟩
theorem Bd.pop{x:Option V}(b:Bd c Y H Z (x::B) (s::θ)):Bd c Y H Z B θ:=by
 obtain⟨L,b⟩:=b;obtain⟨nd,rel,own,fr,kp,lt,u⟩:=b;have rel:aB c.toKx (c.g H L) H (x::(B++Y)) (s::(θ++Z)) L:=rel;cases rel with
 |cons h r=>rename_i I L2;exact⟨L2,(U8.mp nd).2.1,r.sm (dk λa ha=>UX _ ha) (λ_ _ _ e=>e),λp hp=>own p (UX _ hp),fr,kp,by simpa using lt,u⟩
theorem Bd.HV:∀{xs:St}{ss:List Sl},xs.length=ss.length->Bd c Y H Z (xs++B) (ss++θ)->Bd c Y H Z B θ
 |[],[],_,b=>b
 |x::xs,s::ss,e,b=>Bd.HV (xs:=xs) (ss:=ss) (by simpa using e) (Bd.pop b)
 |[],_::_,e,_=>by simp at e
 |_::_,[],e,_=>by simp at e
theorem Bd.new{p:Addr}{o:HO}(b:Bd c Y H Z B θ)(h:H p=none):Bd c Y (upd H p o) Z B θ:=by
 obtain⟨L,b⟩:=b;have hp:p∉L:=λz=>by obtain⟨u,e⟩:=b.rel.is p z;rw[h] at e;cases e
 refine⟨L,b.nd,b.rel.sm (Sq.of λa u e=>?_) (λq j u e=>by rw[au (aM e h)];exact e),b.own,b.fr.new h,b.kp,b.lt,b.hd⟩;by_cases z:a∈L\/a∈c.Hd
 .rw[gP z] at e;cases e
 .rw[bz (λy=>z (.inl y)) (λy=>z (.inr y))] at e;rw[bz (λy=>z (.inl y)) (λy=>z (.inr y)),au (aM e h)];exact e
theorem Bd.dz{as:List A}(b:Bd c Y H Z (vs.map some++B) (as.map Sl.fr++θ))(e:vs.length=as.length):∃L,eA c Y H Z B θ L/\bx c.toKx (c.g H L) vs as:=by obtain⟨L,b⟩:=b;have r:=b.rel;rw[U0,U0] at r;obtain⟨I,L2,e1,i,n⟩:=aB.split (by simp[e]) r;obtain⟨z,x⟩:=aB.Bw i;subst z;have e1:L=L2:=e1;subst e1;exact⟨L,⟨b.nd,n,b.own,b.fr,b.kp,by have:=b.lt;simp at this;omega,b.hd⟩,x⟩
theorem eA.push{a:A}(b:eA c Y H Z B θ L)(h:RA c.toKx (c.g H L) v a):Bd c Y H Z (some v::B) (.fr a::θ):=
 ⟨L,b.nd,aB.cons (L:=[]) (.fr h) b.rel,b.own,b.fr,b.kp,by simp[b.lt],b.hd⟩
theorem eA.new{L:List Addr}{p:Addr}{o:HO}(b:eA c Y H Z B θ L)(h:H p=none):eA c Y (upd H p o) Z B θ L/\Sq (c.g H L) (c.g (upd H p o) L)/\p∉L:=by
 have hp:p∉L:=λz=>by obtain⟨u,e⟩:=b.rel.is p z;rw[h] at e;cases e
 have sm:Sq (c.g H L) (c.g (upd H p o) L):=Sq.of λa u e=>by
  by_cases z:a∈L\/a∈c.Hd
  .rw[gP z] at e;cases e
  .rw[bz (λy=>z (.inl y)) (λy=>z (.inr y))] at e;rw[bz (λy=>z (.inl y)) (λy=>z (.inr y)),au (aM e h)];exact e
 exact⟨⟨b.nd,b.rel.sm sm (λq j u e=>by rw[au (aM e h)];exact e),b.own,b.fr.new h,b.kp,b.lt,b.hd⟩,sm,hp⟩
theorem Bd.Nr{as:List A}(b:Bd c Y H Z (vs.map some++B) (as.map Sl.fr++θ))(e:vs.length=as.length)(h:H p=none)(ws:List V)(bs:List A)(m:∀G,bx c.toKx G vs as->bx c.toKx G ws bs):
  Bd c Y (upd H p (.tup ws)) Z (some (.ref p)::B) (.fr (.tup bs)::θ):=by
 obtain⟨L,bl,x⟩:=b.dz e;obtain⟨b2,sm,hp⟩:=bl.new (o:=.tup ws) h;exact b2.push (.tup (.inl (.inl (by rw[bz hp (bl.Pl h)];exact aI))) (m _ (x.sm sm)))
theorem eA.fZ(b:eA c Y H Z B θ L)(h:H p=none)(l:∀G H',Sq (c.g H L) G->H' p=some u->LR c.toKx G H' p o):Bd c Y (upd H p u) Z (some (.ref p)::B) (.lv o::θ):=by
 have hp:p∉L:=λz=>by obtain⟨u,e⟩:=b.rel.is p z;rw[h] at e;cases e
 have sm:Sq (c.g H L) (c.g (upd H p u) (p::L)):=Sq.of λa w e=>by
  by_cases z:a∈L\/a∈c.Hd
  .rw[gP z] at e;cases e
  .rw[bz (λy=>z (.inl y)) (λy=>z (.inr y))] at e;have r:=aM e h;rw[bz (λy=>by rcases U5.mp y with y|y;exact r y;exact z (.inl y)) (λy=>z (.inr y)),au r];exact e
 refine⟨p::L,Vn.mpr ⟨hp,b.nd⟩,aB.cons (L:=[p]) (.lv (l _ _ sm aI)) (b.rel.sm sm (λq j w e=>by rw[au (aM e h)];exact e)),λq j=>?_,b.fr.new h,b.kp,by simp[b.lt],b.hd⟩;rcases U5.mp j with z|z
 .subst z;exact .inr (b.fr.fresh h)
 .exact b.own q z
theorem Bd.By{as:List A}(b:Bd c Y H Z (vs.map some++B) (as.map Sl.fr++θ))(e:vs.length=as.length)(h:H p=none)(ws:List V)(bs:List A)(m:∀G,bx c.toKx G vs as->bx c.toKx G ws bs):
  Bd c Y (upd H p (.lst ws)) Z (some (.ref p)::B) (.lv (.lst bs)::θ):=by
 obtain⟨L,bl,x⟩:=b.dz e;exact bl.fZ h λG H' sm q=>.lst q (m _ (x.sm sm))
theorem LR.a{k:Kx}{G H:Hp}{p:Addr}{o:LO}(h:LR k G H p o)(sm:Sq G H):RA k H (.ref p) o.a:=by
 cases h with
 |lst e r=>exact .lst (.inl (.inl e)) (r.sm sm)
 |aP e r=>exact .aP (.inl e) (r.sm sm)
 |obj e m r=>exact .obj e m (r.sm sm)
theorem LR.a'{k:Kx}(h:LR k G H p o)(sm:Sq G G')(e:∀u,H p=some u->G' p=some u):RA k G' (.ref p) o.a:=by
 cases h with
 |lst q r=>exact .lst (.inl (.inl (e _ q))) (r.sm sm)
 |aP q r=>exact .aP (.inl (e _ q)) (r.sm sm)
 |obj q m r=>exact .obj (e _ q) m (r.sm sm)
def Sl.a:Sl->Option A
 | .fr a=>some a
 | .lv o=>some o.a
 | .pv o=>some o.a
 | .un=>none
theorem i7.read{k:Kx}{x:Option V}{a:A}(h:i7 k G H x s L)(sm:Sq G H)(e:s.a=some a):∃v,x=some v/\RA k H v a:=by
 cases h with
 |un=>cases e
 |fr h=>cases e;exact⟨_,rfl,h.sm sm⟩
 |lv h=>cases e;exact⟨_,rfl,h.a sm⟩
 |pv h=>cases e;exact⟨_,rfl,h.a sm⟩
theorem fX.set{σ0 Y:St}{Z:List Sl}{i:Nat}{t:Sl}{y:Option V}(k:fX σ0 Y Z)(h:∀o,Z[i]?≠some (.pv o))(hi:i<Z.length)(e:∀o,t≠.pv o):fX σ0 (Y.set i y) (Z.set i t):=λj o q=>by
 by_cases z:j=i
 .subst z;rw[Vl hi] at q;exact absurd (U1 q) (e o)
 .rw[VC (VY z)] at q ⊢;exact k j o q
theorem fX.GP{σ0:St}{t:Sl}(k:fX σ0 Y Z)(h:∀o,t=.pv o->∃o',Z[i]?=some (.pv o')):fX σ0 Y (Z.set i t):=λj o q=>by
 by_cases z:j=i
 .subst z;by_cases hi:j<Z.length
  .rw[Vl hi] at q;obtain⟨o',e⟩:=h o (U1 q);exact k j o' e
  .rw[WU (by simp;omega)] at q;cases q
 .rw[VC (VY z)] at q;exact k j o q
theorem Bd.slot{a:A}(b:Bd c Y H Z B θ)(e:Z[i]?=some s)(w:s.a=some a):∃v,Y[i]?=some (some v)/\RA c.toKx H v a:=by obtain⟨L,b⟩:=b;obtain⟨I,L2,e1,o,n⟩:=aB.split b.lt b.rel;obtain⟨x,_,_,_,y,P,_⟩:=n.at e;obtain⟨v,rfl,h⟩:=P.read (g_same _ _ _) w;exact⟨v,y,h⟩
theorem Bd.load{a:A}(b:Bd c Y H Z B θ)(e:Z[i]?=some (.fr a)):∃v,Y[i]?=some (some v)/\Bd c Y H Z (some v::B) (.fr a::θ):=by
 obtain⟨L,b⟩:=b;obtain⟨I,L2,e1,o,n⟩:=aB.split b.lt b.rel;obtain⟨x,_,_,_,y,P,_⟩:=n.at e;cases P with
 |fr h=>exact⟨_,y,b.push h⟩
theorem Bd.rY(b:Bd c Y H Z B θ)(e:Z[i]?=some (.lv o)):Bd c Y H (Z.set i (.fr o.a)) B θ:=by
 obtain⟨L,b⟩:=b;obtain⟨I,L2,e1,A,r⟩:=aB.split b.lt b.rel;obtain⟨x,M1,M2,v,k,P,e2,ins⟩:=r.at e;cases P with
 |lv h=>
  rename_i p;have nd:=b.nd;have T:L=(I++M1)++p::v:=by rw[e1,e2];simp
  rw[T] at nd;have hp:p∉I++M1++v:=by
   obtain⟨E,V,G⟩:=U8.mp nd;obtain⟨s,N⟩:=Vn.mp V;intro z;rcases Vb.mp z with z|z
   .exact G p z p (by simp) rfl
   .exact s z
  have sub:∀a,a∈I++M1++v->a∈L:=λa ha=>by rw[T];simp only[Vb,U5] at ha ⊢;rcases ha with (z|z)|z<;>simp[z]
  have sm:Sq (c.g H L) (c.g H (I++M1++v)):=dk sub;have X:=ins (y:=some (.ref p)) (t:=.fr o.a) (L':=[]) sm (λ_ _ _ e=>e) (.fr (h.a' sm λu e=>by rw[bz hp (b.NW (by rw[T];simp))];exact e));have K:Y.set i (some (.ref p))=Y:=by
   apply WK;intro j;by_cases z:j=i
   .subst z;rw[Vl (UQ.mp k).1,k]
   .rw[VC (VY z)]
  rw[K] at X;refine⟨I++M1++v,?_,?_,λq R=>b.own q (sub q R),b.fr,b.kp.GP (λo z=>by cases z),b.lt,b.hd⟩
  .exact(U8.mp nd).1 |> λn=>U8.mpr ⟨n,(Vn.mp (U8.mp nd).2.1).2,λa ha Q d=>(U8.mp nd).2.2 a ha Q (UW _ d)⟩
  .have:=(A.sm sm (λ_ _ _ e=>e)).app X;simpa[U0] using this
theorem eA.change{t:Sl}{o':LO}(b:eA c Y H Z B θ L)(e:Z[i]?=some s)(es:s=.lv o/\t=.lv o'\/s=.pv o/\t=.pv o')
  : ∃p,Y[i]?=some (some (.ref p))/\LR c.toKx (c.g H L) H p o/\((∀H',H' p=some u->LR c.toKx (c.g H L) H' p o')->Bd c Y (upd H p u) (Z.set i t) B θ):=by
 obtain⟨I,L2,e1,C,n⟩:=aB.split b.lt b.rel;obtain⟨x,M1,M2,A,k,P,e2,ins⟩:=n.at e;have v:∀p,x=some (.ref p)->M2=[p]->LR c.toKx (c.g H L) H p o->(∀G H',LR c.toKx G H' p o'->i7 c.toKx G H' (some (.ref p)) t [p])->(∀Q,t=.pv Q->∃o',Z[i]?=some (.pv o'))->
   ∃p,Y[i]?=some (some (.ref p))/\LR c.toKx (c.g H L) H p o/\((∀H',H' p=some u->LR c.toKx (c.g H L) H' p o')->Bd c Y (upd H p u) (Z.set i t) B θ):=by
  intro p ex em l mk pk;subst ex em;refine⟨p,k,l,λhn=>?_⟩;have nd:=b.nd;have T:L=(I++M1)++p::A:=by rw[e1,e2];simp
  have X:p∈L:=by rw[T];simp
  have S:∀q,q∈I++M1++A->q≠p:=λq R z=>by
   subst z;rw[T] at nd;obtain⟨N,D,O⟩:=U8.mp nd;obtain⟨U,m⟩:=Vn.mp D;rcases Vb.mp R with z|z
   .exact O q z q (by simp) rfl
   .exact U z
  have V:c.g (upd H p u) L=c.g H L:=by
   funext a
   by_cases z:a∈L\/a∈c.Hd
   .rw[gP z,gP z]
   .rw[bz (λy=>z (.inl y)) (λy=>z (.inr y)),bz (λy=>z (.inl y)) (λy=>z (.inr y)),au λy=>z (.inl (by rw[y];exact X))]
  have r:∀q,q∈I++M1++A->∀w,H q=some w->upd H p u q=some w:=λq R w e=>by rw[au (S q R)];exact e
  have E:=ins (G':=c.g (upd H p u) L) (H':=upd H p u) (y:=some (.ref p)) (t:=t) (L':=[p]) (by rw[V];exact Sq.refl _) (λq R=>r q (by rcases Vb.mp R with z|z<;>simp[z])) (mk _ _ (by rw[V];exact hn _ aI));have K:Y.set i (some (.ref p))=Y:=by
   apply WK;intro j;by_cases z:j=i
   .subst z;rw[Vl (UQ.mp k).1,k]
   .rw[VC (VY z)]
  rw[K] at E;refine⟨L,nd,?_,b.own,⟨λq w e=>?_,λq R=>?_⟩,b.kp.GP pk,b.lt,b.hd⟩
  .have:=(C.sm (G':=c.g (upd H p u) L) (H':=upd H p u) (by rw[V];exact Sq.refl _) (λq R=>r q (by simp[R]))).app E;have z:I++(M1++[p]++A)=L:=by rw[T];simp
   rw[z] at this;exact this
  .obtain⟨F,h1,h2⟩:=b.fr.st q w e;by_cases z:q=p
   .subst z;refine⟨u,aI,λJ=>?_⟩;rcases b.own q X with y|y
    .exact absurd y J
    .rw[y] at e;cases e
   .exact⟨F,by rw[au z];exact h1,h2⟩
  .obtain⟨h1,⟨ob,vs,h2⟩,h3⟩:=b.fr.pk q R;refine⟨?_,⟨ob,vs,h2⟩,h3⟩;rw[au λy=>?_]
   .exact h1
   .rw[y,h2] at h1;cases l with
    |lst e _=>rw[e] at h1;cases h1
    |aP e _=>rw[e] at h1;cases h1
    |obj e _ _=>rw[e] at h1;cases h1
 rcases es with ⟨rfl,rfl⟩|⟨rfl,rfl⟩
 .cases P with
  |lv h=>exact v _ rfl rfl h (λ_ _ h=>.lv h) (λ_ z=>by cases z)
 .cases P with
  |pv h=>exact v _ rfl rfl h (λ_ _ h=>.pv h) (λ_ z=>⟨_,e⟩)
theorem Bd.store{t:Sl}(b:Bd c Y H Z (some v::B) (t::θ))(e:Z[i]?=some s)(P:∀o,s≠.pv o)(K:∀o,t≠.pv o):Bd c (Y.set i (some v)) H (Z.set i t) B θ:=by
 obtain⟨L,nd,rel,own,fr,kp,lt,u⟩:=b;have rel:aB c.toKx (c.g H L) H (some v::(B++Y)) (t::(θ++Z)) L:=rel;cases rel with
 |cons h r=>
  rename_i n L';obtain⟨I,L2,e1,C,p⟩:=aB.split (by simpa using lt) r;obtain⟨x,M1,M2,A,y,X,e2,ins⟩:=p.at e;subst e1 e2;have sub:∀a,a∈I++(M1++n++A)->a∈n++(I++(M1++M2++A)):=λa ha=>by simp at ha ⊢;rcases ha with z|z|z|z<;>simp[z]
  have sm:Sq (c.g H (n++(I++(M1++M2++A)))) (c.g H (I++(M1++n++A))):=dk sub;have hi:i<Z.length:=(UQ.mp e).1;refine⟨I++(M1++n++A),?_,?_,λq j=>own q (sub q j),fr,kp.set (λo z=>?_) hi K,by simpa using lt,u⟩
  .have J:(n++(I++(M1++M2++A))).Perm (M2++(I++(M1++n++A))):=by rw[XU];intro a;simp only[Yh];omega
   exact(U8.mp ((J.nodup_iff).mp nd)).2.1
  .exact(C.sm sm (λ_ _ _ e=>e)).app (ins sm (λ_ _ _ e=>e) (h.sm sm (λ_ _ _ e=>e)))
  .rw[e] at z;exact P o (U1 z)
end
inductive Rr where
 |rf(i:Nat)|fr(a:A)|nw(o:LO)
noncomputable abbrev Mi(α:Type):=List Sl->Option (Except Str α×List Sl)
noncomputable def aF{α β:Type}(m:Mi α)(f:α->Mi β):Mi β:=λZ=>match m Z with
 |some (.ok x,U)=>f x U
 |some (.error e,U)=>some (.error e,U)
 |none=>none
noncomputable def fk{α:Type}(x:α):Mi α:=λZ=>some (.ok x,Z)
noncomputable def bH:Rr->V->St->St
 | .rf _,_,B=>B
 | .fr _,v,B=>some v::B
 | .nw _,v,B=>some v::B
noncomputable def bG:Rr->List Sl->List Sl
 | .rf _,θ=>θ
 | .fr a,θ=>.fr a::θ
 | .nw o,θ=>.lv o::θ
def VR(Y:St):Rr->V->Prop
 | .rf i,v=>Y[i]?=some (some v)
 |_,_=>True
noncomputable def res(Z:List Sl):Rr->Option A
 | .rf i=>match Z[i]? with
  |some s=>s.a
  |none=>none
 | .fr a=>some a
 | .nw o=>some o.a
def Sa(K:Kx)(E:XK)(c:Cn)(Y:St)(Z:List Sl)(B:St)(θ:List Sl)(Q:VK):Except Str Rr->Prop
 | .ok r=>∀v H,VR Y r v->Bd c Y H Z (bH r v B) (bG r θ)->Q v H
 | .error x=>∀C H,K.mg x=some (.ref C)->Bd c Y H Z B θ->E (.ref C) none H
inductive il(K:Kx)(E:XK)(m:Mi Rr)(Y:St)(H:Hp)(Q:VK):Prop
 |mk(c:Cn)(Z:List Sl)(B:St)(θ:List Sl)(o:Except Str Rr)(O:List Sl)(h1:c.toKx=K)(h2:Bd c Y H Z B θ)(h3:m Z=some (o,O))(h4:Sa K E c Y O B θ Q o)
def OU(K:Kx)(E:XK)(c:Cn)(Y:St)(Z:List Sl)(B:St)(θ:List Sl)(Q:Bool->Hp->Prop):Except Str Bool->Prop
 | .ok b=>∀H,Bd c Y H Z B θ->Q b H
 | .error x=>∀C H,K.mg x=some (.ref C)->Bd c Y H Z B θ->E (.ref C) none H
inductive wW(K:Kx)(E:XK)(m:Mi Bool)(Y:St)(H:Hp)(Q:Bool->Hp->Prop):Prop
 |mk(c:Cn)(Z:List Sl)(B:St)(θ:List Sl)(o:Except Str Bool)(O:List Sl)(h1:c.toKx=K)(h2:Bd c Y H Z B θ)(h3:m Z=some (o,O))(h4:OU K E c Y O B θ Q o)
def cI:List Rr->List V->St->St
 |r::rs,v::vs,B=>cI rs vs (bH r v B)
 |_,_,B=>B
def cK:List Rr->List Sl->List Sl
 |r::rs,θ=>cK rs (bG r θ)
 |[],θ=>θ
def mP(Y:St):List Rr->List V->Prop
 |[],[]=>True
 |r::rs,v::vs=>VR Y r v/\mP Y rs vs
 |_,_=>False
def RD(K:Kx)(E:XK)(c:Cn)(Y:St)(Z:List Sl)(B:St)(θ:List Sl)(Q:List V->Hp->Prop):Except Str (List Rr)->Prop
 | .ok rs=>∀vs H,mP Y rs vs->Bd c Y H Z (cI rs vs B) (cK rs θ)->Q vs H
 | .error x=>∀C H,K.mg x=some (.ref C)->Bd c Y H Z B θ->E (.ref C) none H
inductive Qh(K:Kx)(E:XK)(m:Mi (List Rr))(Y:St)(H:Hp)(Q:List V->Hp->Prop):Prop
 |mk(c:Cn)(Z:List Sl)(B:St)(θ:List Sl)(o:Except Str (List Rr))(O:List Sl)(h1:c.toKx=K)(h2:Bd c Y H Z B θ)(h3:m Z=some (o,O))(h4:RD K E c Y O B θ Q o)
noncomputable abbrev kx(X:Cx):Kx:=⟨X.K,X.mg⟩
structure JE(X:Cx)(E:XK)(e:Expr)(m:Mi Rr):Prop where
 p:PE X e (il (kx X) E m)
structure JT(X:Cx)(E:XK)(e:Expr)(m:Mi Bool):Prop where
 p:PT X e (wW (kx X) E m)
structure JW(X:Cx)(E:XK)(e:Expr)(m:Mi Bool):Prop where
 p:PW X e (wW (kx X) E m)
structure JA(X:Cx)(E:XK)(es:List Expr)(m:Mi (List Rr)):Prop where
 p:PA X es (Qh (kx X) E m)
variable{X:Cx}{e:Expr}
theorem PE.weaken{t t':TE}(h:PE X e t)(f:∀Y H Q,t' Y H Q->t Y H Q):PE X e t':=λpins s Y H Q I q=>h pins s Y H Q I (f Y H Q q)
variable{t':TT}
theorem PT.weaken{t:TT}(h:PT X e t)(f:∀Y H Q,t' Y H Q->t Y H Q):PT X e t':=λpins s Y H Q I q=>h pins s Y H Q I (f Y H Q q)
theorem PW.weaken{t:TT}(h:PW X e t)(f:∀Y H Q,t' Y H Q->t Y H Q):PW X e t':=λZ pins s Y H Q I q=>h Z pins s Y H Q I (f Y H Q q)
theorem PA.weaken{e:List Expr}{t t':TA}(h:PA X e t)(f:∀Y H Q,t' Y H Q->t Y H Q):PA X e t':=λpos pins s Y H Q I q=>h pos pins s Y H Q I (f Y H Q q)
section
variable{c:Cn}{Y:St}{H:Hp}{Z:List Sl}{B:St}{θ:List Sl}
theorem Bd.drop{r:Rr}(b:Bd c Y H Z (bH r v B) (bG r θ)):Bd c Y H Z B θ:=by
 cases r with
 |rf i=>exact b
 |fr a=>exact Bd.pop b
 |nw o=>exact Bd.pop b
theorem Bd.drops:∀{rs:List Rr}{vs:List V}{B:St}{θ:List Sl},rs.length=vs.length->Bd c Y H Z (cI rs vs B) (cK rs θ)->Bd c Y H Z B θ
 |[],[],_,_,_,b=>b
 |r::rs,v::vs,_,_,e,b=>Bd.drop (r:=r) (v:=v) (Bd.drops (by simpa using e) b)
 |[],_::_,_,_,e,_=>by simp at e
 |_::_,[],_,_,e,_=>by simp at e
theorem Bd.top{a:A}(b:Bd c Y H Z (some v::B) (s::θ))(e:s.a=some a):RA c.toKx H v a:=by
 obtain⟨L,nd,rel,_⟩:=b;have rel:aB c.toKx (c.g H L) H (some v::(B++Y)) (s::(θ++Z)) L:=rel;cases rel with
 |cons h r=>obtain⟨u,z,q⟩:=h.read (g_same _ _ _) e;cases z;exact q
theorem Bd.rd{r:Rr}{a:A}(b:Bd c Y H Z (bH r v B) (bG r θ))(q:VR Y r v)(e:res Z r=some a):RA c.toKx H v a:=by
 cases r with
 |rf i=>
  unfold res at e;cases es:Z[i]? with
  |none=>simp only[es] at e;cases e
  |some s=>simp only[es] at e;obtain⟨u,h1,h2⟩:=Bd.slot b es e;have q:Y[i]?=some (some v):=q;rw[q] at h1;cases h1;exact h2
 |fr a'=>cases e;exact Bd.top b rfl
 |nw o=>cases e;exact Bd.top b rfl
theorem i7.items{k:Kx}{x:Option V}(h:i7 k G H x s L)(sm:Sq G H):
  (∀as,s.a=some (.lst as)->∃p vs,x=some (.ref p)/\g9 k.K H p vs/\bx k G vs as)/\(∀as,s.a=some (.tup as)->∃p vs,x=some (.ref p)/\iu k.K G p vs/\bx k G vs as) /\
  (∀as,s.a=some (.aP as)->∃p vs,x=some (.ref p)/\Rd H p (.dK vs)/\dY k G vs as):=by
 have lo:∀p o,LR k G H p o->(∀as,o.a=A.lst as->∃vs,g9 k.K H p vs/\bx k G vs as)/\(∀as,o.a≠A.tup as)/\(∀as,o.a=A.aP as->∃vs,Rd H p (.dK vs)/\dY k G vs as):=by
  intro p o h;cases h with
  |lst e r=>exact⟨λas z=>by cases z;exact⟨_,.inl (.inl e),r⟩,λas z=>(by cases z),λas z=>(by cases z)⟩
  |aP e r=>exact⟨λas z=>(by cases z),λas z=>(by cases z),λas z=>by cases z;exact⟨_,.inl e,r⟩⟩
  |obj e m r=>exact⟨λas z=>(by cases z),λas z=>(by cases z),λas z=>(by cases z)⟩
 cases h with
 |un=>exact⟨λ_ z=>(by cases z),λ_ z=>(by cases z),λ_ z=>(by cases z)⟩
 |fr h=>
  refine⟨λas z=>?_,λas z=>?_,λas z=>?_⟩
  .cases z;cases h with|lst e r=>exact⟨_,_,rfl,oE sm e,r⟩
  .cases z;cases h with|tup e r=>exact⟨_,_,rfl,e,r⟩
  .cases z;cases h with|aP e r=>exact⟨_,_,rfl,sm.Tv e,r⟩
 |lv h=>
  rename_i p o;obtain⟨B,C,Y⟩:=lo p o h;refine⟨λas z=>?_,λas z=>absurd (U1 z) (C as),λas z=>?_⟩
  .obtain⟨vs,h1,h2⟩:=B as (U1 z);exact⟨p,vs,rfl,h1,h2⟩
  .obtain⟨vs,h1,h2⟩:=Y as (U1 z);exact⟨p,vs,rfl,h1,h2⟩
 |pv h=>
  rename_i p o;obtain⟨B,C,Y⟩:=lo p o h;refine⟨λas z=>?_,λas z=>absurd (U1 z) (C as),λas z=>?_⟩
  .obtain⟨vs,h1,h2⟩:=B as (U1 z);exact⟨p,vs,rfl,h1,h2⟩
  .obtain⟨vs,h1,h2⟩:=Y as (U1 z);exact⟨p,vs,rfl,h1,h2⟩
def Ao(c:Cn)(H:Hp)(L:List Addr)(v:V)(a:A):Prop:=
  (∀as,a=.lst as->∃p vs,v=.ref p/\g9 c.K H p vs/\bx c.toKx (c.g H L) vs as)/\(∀as,a=.tup as->∃p vs,v=.ref p/\iu c.K (c.g H L) p vs/\bx c.toKx (c.g H L) vs as) /\
  (∀as,a=.aP as->∃p vs,v=.ref p/\Rd H p (.dK vs)/\dY c.toKx (c.g H L) vs as)
theorem Ao.mono{a:A}(h:Ao c H L v a)(s:∀a,a∈L'->a∈L):Ao c H L' v a:=by
 obtain⟨h1,h2,h3⟩:=h;refine⟨λas e=>?_,λas e=>?_,λas e=>?_⟩
 .obtain⟨p,vs,k,o,O⟩:=h1 as e;exact⟨p,vs,k,o,O.sm (dk s)⟩
 .obtain⟨p,vs,k,o,O⟩:=h2 as e;exact⟨p,vs,k,cT (dk s) o,O.sm (dk s)⟩
 .obtain⟨p,vs,k,o,O⟩:=h3 as e;exact⟨p,vs,k,o,O.sm (dk s)⟩
theorem Ao.of{L2:List Addr}{x:Option V}{a:A}(ex:x=some v)(h:i7 c.toKx (c.g H L) H x s L2)(w:s.a=some a):Ao c H L v a:=by
 subst ex;obtain⟨B,C,Y⟩:=h.items (g_same _ _ _);refine⟨λas z=>?_,λas z=>?_,λas z=>?_⟩<;>subst z
 .obtain⟨p,vs,q,h1,h2⟩:=B as w;exact⟨p,vs,U1 q,h1,h2⟩
 .obtain⟨p,vs,q,h1,h2⟩:=C as w;exact⟨p,vs,U1 q,h1,h2⟩
 .obtain⟨p,vs,q,h1,h2⟩:=Y as w;exact⟨p,vs,U1 q,h1,h2⟩
theorem eA.open{r:Rr}{a:A}{n:List Addr}(b:eA c Y H Z (bH r v B) (bG r θ) n)(q:VR Y r v)(e:res Z r=some a):∃L,(∀a,a∈L->a∈n)/\eA c Y H Z B θ L/\Ao c H L v a:=by
 have u:∀s,eA c Y H Z (some v::B) (s::θ) n->s.a=some a->∃L,(∀a,a∈L->a∈n)/\eA c Y H Z B θ L/\Ao c H L v a:=by
  intro s b w;obtain⟨nd,rel,own,fr,kp,lt,K⟩:=b;have rel:aB c.toKx (c.g H n) H (some v::(B++Y)) (s::(θ++Z)) n:=rel;cases rel with
  |cons h r=>rename_i I L2;have sm:Sq (c.g H (I++L2)) (c.g H L2):=dk λa ha=>UX _ ha;exact⟨L2,λa ha=>UX _ ha,⟨(U8.mp nd).2.1,r.sm sm (λ_ _ _ e=>e),λp hp=>own p (UX _ hp),fr,kp,by simpa using lt,K⟩,Ao.of rfl (h.sm sm (λ_ _ _ e=>e)) w⟩
 cases r with
 |rf i=>
  unfold res at e;cases es:Z[i]? with
  |none=>simp only[es] at e;cases e
  |some s=>simp only[es] at e;obtain⟨I,L2,e1,C,X⟩:=aB.split b.lt b.rel;obtain⟨x,_,_,_,y,P,_⟩:=X.at es;have q:Y[i]?=some (some v):=q;rw[q] at y;exact⟨n,λ_ h=>h,b,Ao.of (U1 y).symm P e⟩
 |fr a'=>exact u _ b e
 |nw o=>exact u _ b e
theorem Bd.open{r:Rr}{v:V}{a:A}(b:Bd c Y H Z (bH r v B) (bG r θ))(q:VR Y r v)(e:res Z r=some a):∃L,eA c Y H Z B θ L/\Ao c H L v a:=by obtain⟨L,b⟩:=b;obtain⟨L',_,h⟩:=b.open q e;exact⟨L',h⟩
theorem Bd.tS{r r':Rr}{u:V}{a a':A}(b:Bd c Y H Z (bH r' u (bH r v B)) (bG r' (bG r θ)))(q:VR Y r v)(x:VR Y r' u)(e:res Z r=some a)(f:res Z r'=some a'):∃L,eA c Y H Z B θ L/\Ao c H L v a/\Ao c H L u a':=by obtain⟨L,b⟩:=b;obtain⟨I,s1,b1,o⟩:=b.open x f;obtain⟨L2,s2,b2,X⟩:=b1.open q e;exact⟨L2,b2,X,o.mono s2⟩
end
variable{x:Str}{pos:Pos}{α β:Type}{O:List Sl}{ma mb m:Mi Rr}{Q:VK}{r:R2}{b:Expr}{op:CmpOp}{mt:Mi Bool}{es:List Expr}
section
variable{X:Cx}{E:XK}
noncomputable def ae(i:Nat):Mi Rr:=λZ=>match Z[i]? with
 |some (.fr a)=>some (.ok (.fr a),Z)
 |some (.lv _)=>some (.ok (.rf i),Z)
 |some (.pv _)=>some (.ok (.rf i),Z)
 |_=>none
noncomputable def aj(i:Nat):Mi Rr:=λZ=>match Z[i]? with
 |some (.fr a)=>some (.ok (.fr a),Z)
 |some (.lv o)=>some (.ok (.fr o.a),Z.set i (.fr o.a))
 |_=>none
noncomputable def mC(a:A):Mi Rr:=λZ=>some (.ok (.fr a),Z)
theorem Nw(L:X.N[i]?=some x)(A:uY X.env.scope x)(hd:gu x)(p:zz x):JE X E (.Name x pos) (ae i):=
 ⟨PE.weaken (eB L A hd p) λY H Q h=>by
  obtain⟨c,Z,B,θ,o,O,F,b,em,q⟩:=h;unfold ae at em;cases es:Z[i]? with
  |none=>simp only[es] at em;cases em
  |some s=>
   cases s with
   |un=>simp only[es] at em;cases em
   |fr a=>simp only[es] at em;cases em;obtain⟨v,h1,h2⟩:=b.load es;exact⟨v,h1,q v H trivial h2⟩
   |lv o=>simp only[es] at em;cases em;obtain⟨v,h1,h2⟩:=b.slot es rfl;exact⟨v,h1,q v H h1 b⟩
   | pv o=>simp only[es] at em;cases em;obtain⟨v,h1,h2⟩:=b.slot es rfl;exact⟨v,h1,q v H h1 b⟩⟩
theorem Ge(L:X.N[i]?=some x)(A:uY X.env.scope x)(hd:gu x)(p:zz x):JE X E (.Name x pos) (aj i):=
 ⟨PE.weaken (eB L A hd p) λY H Q h=>by
  obtain⟨c,Z,B,θ,o,O,F,b,em,q⟩:=h;unfold aj at em;cases es:Z[i]? with
  |none=>simp only[es] at em;cases em
  |some s=>
   cases s with
   |un=>simp only[es] at em;cases em
   |fr a=>simp only[es] at em;cases em;obtain⟨v,h1,h2⟩:=b.load es;exact⟨v,h1,q v H trivial h2⟩
   |lv o=>simp only[es] at em;cases em;have b2:=b.rY es;have hi:i<Z.length:=(UQ.mp es).1;obtain⟨v,h1,h2⟩:=b2.load (i:=i) (a:=o.a) (Vl hi);exact⟨v,h1,q v H trivial h2⟩
   | pv o=>simp only[es] at em;cases em⟩
theorem AF{a:A}(h:PE X e (tC v))(r:∀G,RA (kx X) G v a):JE X E e (mC a):=⟨PE.weaken h λY H Q h=>by obtain⟨c,Z,B,θ,o,O,F,b,em,q⟩:=h;cases em;exact q v H trivial (b.push (by rw[F];exact r))⟩
theorem Mr{i j pos}:JE X E (.Constant (.int i) j pos) (mC (.int i)):=AF M8 λ_=>.int _
theorem PR{b j pos}:JE X E (.Constant (.bool b) j pos) (mC (.bl b)):=AF PD λ_=>.bl _
theorem Mj{j pos}:JE X E (.Constant .none j pos) (mC .non):=AF M4 λ_=>.non
theorem Dh{x j pos}:JE X E (.Constant (.str x) j pos) (mC (.str x)):=AF Nd λ_=>.str _
theorem FU{u:Value}{a:A}(K:Gl X x)(hm:X.mg x=some u)(r:RelV v u)(H:∀G,RA (kx X) G v a)(hd:gu x):JE X E (.Name x pos) (mC a):=AF (rK K hm r hd) H
def az(f:A->A->Option Rr)(ma mb:Mi Rr):Mi Rr:=aF ma λx=>aF mb λy=>λZ=>match res Z x,res Z y with
 |some a,some b=>match f a b with
  |some r=>some (.ok r,Z)
  |none=>none
 |_,_=>none
def gA(K:Kx)(r:R2)(f:A->A->Option Rr):Prop:=∀(c:Cn)(Y:St)(H:Hp)(Z:List Sl)(B:St)(θ:List Sl)(x y:Rr)(v w:V)(a b:A)(q:Rr)(Q:VK),c.toKx=K->VR Y x v->VR Y y w->
 Bd c Y H Z (bH y w (bH x v B)) (bG y (bG x θ))->res Z x=some a->res Z y=some b->f a b=some q->(∀u H',VR Y q u->Bd c Y H' Z (bH q u B) (bG q θ)->Q u H')->r v w H Q
theorem bind_some{m:Mi α}{f:α->Mi β}{o:Except Str β}(h:aF m f Z=some (o,O)):(∃x U,m Z=some (.ok x,U)/\f x U=some (o,O))\/∃e,m Z=some (.error e,O)/\o=.error e:=by
 unfold aF at h;cases e:m Z with
 |none=>simp only[e] at h;cases h
 |some p=>
  obtain⟨r,U⟩:=p;cases r with
  |ok x=>simp only[e] at h;exact .inl ⟨x,U,rfl,h⟩
  |error x=>simp only[e] at h;cases h;exact .inr ⟨x,rfl,rfl⟩
theorem aR{f:Rr->Mi β}{o:Except Str β}(F:c.toKx=kx X)(b:Bd c Y H Z B θ)(em:aF ma f Z=some (o,O))
  (h1:∀x v U P,VR Y x v->Bd c Y P U (bH x v B) (bG x θ)->f x U=some (o,O)->Q v P)
  (h2:∀e,o=.error e->∀C H,X.mg e=some (.ref C)->Bd c Y H O B θ->E (.ref C) none H):il (kx X) E ma Y H Q:=by
 rcases bind_some em with ⟨x,U,e1,e2⟩|⟨e,e1,e2⟩
 .exact⟨c,Z,B,θ,_,U,F,b,e1,λv P q b1=>h1 x v U P q b1 e2⟩
 .exact⟨c,Z,B,θ,_,O,F,b,e1,λC P hm b1=>h2 e e2 C P hm b1⟩
theorem dZ{x:Rr}{o:Except Str β}(h:∀e,o=.error e->∀C H,X.mg e=some (.ref C)->Bd c Y H O B θ->E (.ref C) none H):
  ∀e,o=.error e->∀C H,X.mg e=some (.ref C)->Bd c Y H O (bH x v B) (bG x θ)->E (.ref C) none H:=λe r C H hm b=>h e r C H hm b.drop
theorem aQ{o:Except Str Rr}(q:Sa (kx X) E c Y O B θ Q o):∀e,o=.error e->∀C H,X.mg e=some (.ref C)->Bd c Y H O B θ->E (.ref C) none H:=λe r=>by subst r;exact q
theorem kR{o:Except Str Bool}{Q:Bool->Hp->Prop}(q:OU (kx X) E c Y O B θ Q o):∀e,o=.error e->∀C H,X.mg e=some (.ref C)->Bd c Y H O B θ->E (.ref C) none H:=λe r=>by subst r;exact q
theorem EB{o:Except Str (List Rr)}{Q:List V->Hp->Prop}(q:RD (kx X) E c Y O B θ Q o):∀e,o=.error e->∀C H,X.mg e=some (.ref C)->Bd c Y H O B θ->E (.ref C) none H:=λe r=>by subst r;exact q
theorem Hl{f:A->A->Option Rr}{x y:Rr}{o:Except Str Rr}(h:(match res Z x,res Z y with|some a,some b=>(match f a b with|some r=>some ((.ok r:Except Str Rr),Z)|none=>none)|_,_=>none)=some (o,O)):
  ∃a b r,res Z x=some a/\res Z y=some b/\f a b=some r/\o=.ok r/\O=Z:=by
 cases e1:res Z x with
 |none=>simp only[e1] at h;cases h
 |some a=>
  cases e2:res Z y with
  |none=>simp only[e1,e2] at h;cases h
  |some b=>
   simp only[e1,e2] at h;cases e3:f a b with
   |none=>simp only[e3] at h;cases h
   |some r=>simp only[e3] at h;cases h;exact⟨a,b,r,rfl,rfl,e3,rfl,rfl⟩
theorem dM{f:A->A->Option Rr}(hf:gA (kx X) r f)(Y:St)(H:Hp)(Q:VK)(h:il (kx X) E (az f ma mb) Y H Q):Q7 r (il (kx X) E ma) (il (kx X) E mb) Y H Q:=by obtain⟨c,Z,B,θ,o,O,F,b,em,q⟩:=h;refine aR F b em (λx v U e K b1 u=>?_) (aQ q);refine aR F b1 u (λy w Z' p m b2 s=>?_) (dZ (aQ q));obtain⟨a,d,r,e1,e2,e3,rfl,rfl⟩:=Hl s;exact hf c Y p _ B θ x y v w a d r Q F K m b2 e1 e2 e3 q
theorem pI{op:Operator}{f:A->A->Option Rr}{a:Expr}(ho:eu X (binaryOp op) r)(hf:gA (kx X) r f)(ha:JE X E a ma)(d:JE X E b mb):JE X E (.BinOp a op b pos) (az f ma mb):=
 ⟨PE.weaken (QW ho ha.p d.p) (dM hf)⟩
theorem dD{f:A->A->Option Rr}{a:Expr}(ho:eu X (compareOp op) r)(hf:gA (kx X) r f)(ha:JE X E a ma)(d:JE X E b mb)(hm:behindInMarks op b=false):JE X E (.Compare a [op] [b] pos) (az f ma mb):=
 ⟨PE.weaken (Hb ho ha.p d.p hm) (dM hf)⟩
noncomputable def Up:Rr->Option Bool
 | .fr (.bl b)=>some b
 |_=>none
def ao(m:Mi Rr):Mi Bool:=aF m λr Z=>match Up r with
 |some b=>some (.ok b,Z)
 |none=>none
theorem eV(Y:St)(H:Hp)(Q:Bool->Hp->Prop)(h:wW (kx X) E (ao m) Y H Q):il (kx X) E m Y H λx H'=>∃k,x=.bl k/\Q k H':=by
 obtain⟨c,Z,B,θ,o,O,F,b,em,q⟩:=h;refine aR F b em (λx v U e A b1 u=>?_) (kR q);cases x with
 |rf i=>cases u
 |nw o=>cases u
 |fr a=>
  cases a with
  |bl k=>cases u;have r:=Bd.top b1 (a:=.bl k) rfl;cases r;exact⟨k,rfl,q e b1.pop⟩
  |_=>cases u
theorem dC{f:A->A->Option Rr}{a:Expr}(ho:eu X (compareOp op) r)(hf:gA (kx X) r f)(ha:JE X E a ma)(d:JE X E b mb)(hm:behindInMarks op b=false):JT X E (.Compare a [op] [b] pos) (ao (az f ma mb)):=
 ⟨PT.weaken (Ie ho ha.p d.p hm) λY H Q h=>dM hf Y H _ (eV Y H Q h)⟩
theorem LN(h:JE X E e m)(he:∀whole,isTrue e X.env whole=(do let v <- whole;standAt e.pos;holding [v] (truthy v)):=by intro _;rfl):JT X E e (ao m):=
 ⟨PT.weaken (NA h.p he) λY H Q h=>eV Y H Q h⟩
def oe(m n:Mi Bool):Mi Bool:=aF m λb=>if b then n else fk false
def Ae(m n:Mi Bool):Mi Bool:=aF m λb=>if b then fk true else n
def gQ(m:Mi Bool):Mi Bool:=aF m λb=>fk (!b)
theorem k6{m:Mi Bool}{f:Bool->Mi β}{o:Except Str β}{Q:Bool->Hp->Prop}(F:c.toKx=kx X)(b:Bd c Y H Z B θ)(em:aF m f Z=some (o,O))
  (h1:∀k U P,Bd c Y P U B θ->f k U=some (o,O)->Q k P)
  (h2:∀e,o=.error e->∀C H,X.mg e=some (.ref C)->Bd c Y H O B θ->E (.ref C) none H):wW (kx X) E m Y H Q:=by
 rcases bind_some em with ⟨x,U,e1,e2⟩|⟨e,e1,e2⟩
 .exact⟨c,Z,B,θ,_,U,F,b,e1,λP b1=>h1 x U P b1 e2⟩
 .exact⟨c,Z,B,θ,_,O,F,b,e1,λC P hm b1=>h2 e e2 C P hm b1⟩
theorem MC{a:Expr}{m:Mi Bool}(h:JT X E a m):JT X E (.UnaryOp .Not a pos) (gQ m):=⟨PT.weaken (MJ h.p) λY H Q h=>by obtain⟨c,Z,B,θ,o,O,F,b,em,q⟩:=h;refine k6 F b em (λk U e b1 u=>?_) (kR q);cases u;exact q e b1⟩
theorem Im{a:Expr}{m:Mi Bool}(h:JT X E a m):JW X E (.BoolOp .And [a] pos) m:=⟨HA h.p⟩
theorem Li{a:Expr}{m:Mi Bool}(h:JT X E a m):JW X E (.BoolOp .Or [a] pos) m:=⟨LF h.p⟩
theorem M9{a:Expr}{rest:List Expr}{m n:Mi Bool}(h:JT X E a m)(h':JW X E (.BoolOp .And (b::rest) pos) n):JW X E (.BoolOp .And (a::b::rest) pos) (oe m n):=⟨PW.weaken (LL h.p h'.p) λY H Q h=>by
 obtain⟨c,Z,B,θ,o,O,F,b,em,q⟩:=h;refine k6 F b em (λk U e b1 u=>?_) (kR q);cases k with
 |true=>rw[if_pos rfl];exact⟨c,U,B,θ,o,O,F,b1,u,q⟩
 | false=>rw[if_neg (by decide)];cases u;exact q e b1⟩
theorem Rm{a:Expr}{rest:List Expr}{m n:Mi Bool}(h:JT X E a m)(h':JW X E (.BoolOp .Or (b::rest) pos) n):JW X E (.BoolOp .Or (a::b::rest) pos) (Ae m n):=⟨PW.weaken (OE h.p h'.p) λY H Q h=>by
 obtain⟨c,Z,B,θ,o,O,F,b,em,q⟩:=h;refine k6 F b em (λk U e b1 u=>?_) (kR q);cases k with
 |true=>rw[if_pos rfl];cases u;exact q e b1
 | false=>rw[if_neg (by decide)];exact⟨c,U,B,θ,o,O,F,b1,u,q⟩⟩
theorem Qq{m:Mi Bool}(h:JW X E e m):JT X E e m:=⟨h.p.pt⟩
def tf(m n:Mi Rr):Mi Rr:=aF (ao m) λb=>if b then n else mC (.bl false)
def QZ(m n:Mi Rr):Mi Rr:=aF (ao m) λb=>if b then mC (.bl true) else n
def yB(m:Mi Rr):Mi Rr:=aF (ao m) λb=>mC (.bl (!b))
theorem qP{f:Bool->Mi β}{o:Except Str β}{Q:Bool->Hp->Prop}(F:c.toKx=kx X)(b:Bd c Y H Z B θ)(em:aF (ao m) f Z=some (o,O))
  (h1:∀k U P,Bd c Y P U B θ->f k U=some (o,O)->Q k P)
  (h2:∀e,o=.error e->∀C H,X.mg e=some (.ref C)->Bd c Y H O B θ->E (.ref C) none H):il (kx X) E m Y H λx H'=>∃k,x=.bl k/\Q k H':=
 eV Y H Q (k6 F b em h1 h2)
theorem Ks{op}{a:Expr}(h:JE X E a m):JE X E (.BoolOp op [a] pos) m:=⟨MQ h.p⟩
theorem My{a:Expr}{rest:List Expr}{n:Mi Rr}(h:JE X E a m)(h':JE X E (.BoolOp .And (b::rest) pos) n):JE X E (.BoolOp .And (a::b::rest) pos) (tf m n):=⟨PE.weaken (Nl h.p h'.p) λY H Q h=>by
 obtain⟨c,Z,B,θ,o,O,F,b,em,q⟩:=h;refine qP (Q:=λk e=>if k=true then il (kx X) E n Y e Q else Q (.bl false) e) F b em (λk U e b1 u=>?_) (aQ q);cases k with
 |true=>rw[if_pos rfl];exact⟨c,U,B,θ,o,O,F,b1,u,q⟩
 | false=>rw[if_neg (by decide)];cases u;exact q (.bl false) e trivial (b1.push λ_=>.bl _)⟩
theorem RI{a:Expr}{rest:List Expr}{n:Mi Rr}(h:JE X E a m)(h':JE X E (.BoolOp .Or (b::rest) pos) n):JE X E (.BoolOp .Or (a::b::rest) pos) (QZ m n):=⟨PE.weaken (OO h.p h'.p) λY H Q h=>by
 obtain⟨c,Z,B,θ,o,O,F,b,em,q⟩:=h;refine qP (Q:=λk e=>if k=true then Q (.bl true) e else il (kx X) E n Y e Q) F b em (λk U e b1 u=>?_) (aQ q);cases k with
 |true=>rw[if_pos rfl];cases u;exact q (.bl true) e trivial (b1.push λ_=>.bl _)
 | false=>rw[if_neg (by decide)];exact⟨c,U,B,θ,o,O,F,b1,u,q⟩⟩
theorem Le{a:Expr}(h:JE X E a m):JE X E (.UnaryOp .Not a pos) (yB m):=⟨PE.weaken (J9 h.p) λY H Q h=>by obtain⟨c,Z,B,θ,o,O,F,b,em,q⟩:=h;refine qP (Q:=λk e=>Q (.bl (!k)) e) F b em (λk U e b1 u=>?_) (aQ q);cases u;exact q (.bl (!k)) e trivial (b1.push λ_=>.bl _)⟩
def JM(t:Mi Bool)(m n:Mi Rr):Mi Rr:=aF t λb=>if b then m else n
theorem ON{t a:Expr}{n:Mi Rr}(i:JT X E t mt)(ha:JE X E a m)(d:JE X E b n):JE X E (.IfExp t a b pos) (JM mt m n):=⟨PE.weaken (Bh i.p ha.p d.p) λY H Q h=>by
 obtain⟨c,Z,B,θ,o,O,F,b,em,q⟩:=h;refine k6 F b em (λk U e b1 u=>?_) (aQ q);cases k with
 |true=>rw[if_pos rfl];exact⟨c,U,B,θ,o,O,F,b1,u,q⟩
 | false=>rw[if_neg (by decide)];exact⟨c,U,B,θ,o,O,F,b1,u,q⟩⟩
def eP:Mi (List Rr):=fk []
def bZ(m:Mi Rr)(n:Mi (List Rr)):Mi (List Rr):=aF m λr=>aF n λrs=>fk (r::rs)
theorem AL:JA X E [] eP:=⟨PA.weaken dq λY H Q h=>by obtain⟨c,Z,B,θ,o,O,F,b,em,q⟩:=h;cases em;exact q [] H trivial b⟩
theorem xC{n:Mi (List Rr)}(h:JE X E e m)(h':JA X E es n)(hs:starEach (e::es) X.env=(false,eval e X.env)::starEach es X.env:=by rfl):JA X E (e::es) (bZ m n):=⟨PA.weaken (bu h.p h'.p hs) λY H Q h=>by
 obtain⟨c,Z,B,θ,o,O,ek,b,em,q⟩:=h;refine aR ek b em (λx v U H1 hv b1 em1=>?_) (EB q);rcases bind_some em1 with ⟨rs,Z',e1,e2⟩|⟨e,e1,e2⟩
 .cases e2;exact⟨c,U,_,_,_,O,ek,b1,e1,λvs H2 hvs b2=>q (v::vs) H2 ⟨hv,hvs⟩ b2⟩
 .subst e2;exact⟨c,U,_,_,_,O,ek,b1,e1,λC H2 hm b2=>q C H2 hm b2.drop⟩⟩
end
variable{xs:St}{ss:List Sl}{rs:List Rr}
section
variable{c:Cn}{Y:St}{H:Hp}{Z:List Sl}{B:St}{θ:List Sl}
theorem Bk{l:List α}{x:α}(h:l[i]?=some x):l.set i x=l:=by
 apply WK;intro j;by_cases z:j=i
 .subst z;rw[Vl (UQ.mp h).1,h]
 .rw[VC (VY z)]
theorem LM(h:∀a,a∈L↔a∈L'):c.g H L=c.g H L':=by
 funext a
 by_cases z:a∈L\/a∈c.Hd
 .rw[gP z,gP (by rwa[<-h a])]
 .rw[bz (λy=>z (.inl y)) (λy=>z (.inr y)),bz (λy=>z (.inl ((h a).mpr y))) (λy=>z (.inr y))]
theorem eA.perm(b:eA c Y H Z B θ L){J:St}{T:List Sl}(pm:L'.Perm L)(lt:J.length=T.length)(r:aB c.toKx (c.g H L) H (J++Y) (T++O) L')(kp:fX c.σ0 Y O):eA c Y H O J T L':=
 ⟨(pm.nodup_iff).mpr b.nd,by rw[LM (L':=L) λa=>pm.mem_iff];exact r,λp hp=>b.own p (pm.mem_iff.mp hp),b.fr,kp,lt,b.hd⟩
theorem Bd.Px(e:xs.length=ss.length)(b:Bd c Y H Z (xs++some v::B) (ss++.lv o::θ)):Bd c Y H Z (xs++some v::B) (ss++.fr o.a::θ):=by
 obtain⟨L,b⟩:=b;have r:aB c.toKx (c.g H L) H (xs++(some v::(B++Y))) (ss++(.lv o::(θ++Z))) L:=by have:=b.rel;simpa[U0] using this
 obtain⟨I,L2,e1,i,n⟩:=aB.split e r;cases n with
 |cons h S=>
  rename_i K x;cases h with
  |lv h=>
   rename_i p;have nd:=b.nd;rw[e1] at nd;have hp:p∉I++x:=by
    obtain⟨E,V,G⟩:=U8.mp nd;obtain⟨s,N⟩:=Vn.mp V;intro z;rcases Vb.mp z with z|z
    .exact G p z p (by simp) rfl
    .exact s z
   have sub:∀a,a∈I++x->a∈L:=λa ha=>by rw[e1];simp at ha ⊢;rcases ha with z|z<;>simp[z]
   have sm:Sq (c.g H L) (c.g H (I++x)):=dk sub;have X:p∈L:=by rw[e1];simp
   refine⟨I++x,?_,?_,λq j=>b.own q (sub q j),b.fr,b.kp,by have:=b.lt;simp at this ⊢;omega,b.hd⟩
   .obtain⟨E,V,G⟩:=U8.mp nd;exact U8.mpr ⟨E,(Vn.mp V).2,λa ha Q d=>G a ha Q (UW _ d)⟩
   .have:=(i.sm sm (λ_ _ _ e=>e)).app (aB.cons (L:=[]) (.fr (h.a' sm λu e=>by rw[bz hp (b.NW X)];exact e)) (S.sm sm (λ_ _ _ e=>e)));simpa[U0] using this
theorem Bd.MI{a:A}(e:xs.length=ss.length)(b:Bd c Y H Z (xs++B) (ss++θ))(q:Y[i]?=some (some v))(P:Z[i]?=some (.fr a)):Bd c Y H Z (xs++some v::B) (ss++.fr a::θ):=by
 obtain⟨L,b⟩:=b;obtain⟨M1,M2,_,_,n⟩:=aB.split b.lt b.rel;obtain⟨x,_,_,_,y,o,_⟩:=n.at P;rw[q] at y;cases y;cases o with
 |fr h=>
  have r:aB c.toKx (c.g H L) H (xs++(B++Y)) (ss++(θ++Z)) L:=by have:=b.rel;simpa[U0] using this
  obtain⟨I,L2,e1,C,n⟩:=aB.split e r;refine⟨L,b.nd,?_,b.own,b.fr,b.kp,by have:=b.lt;simp at this ⊢;omega,b.hd⟩;have:=C.app (aB.cons (L:=[]) (.fr h) n);rw[e1] at this ⊢;simpa[U0] using this
theorem AH(I L2 M1 A:List Addr)(p:Addr):(I++p::(L2++(M1++A))).Perm (I++(L2++(M1++p::A))):=by rw[XU];intro a;simp only[Yh,Z8];omega
theorem Bd.Hf(e:xs.length=ss.length)(b:Bd c Y H Z (xs++B) (ss++θ))(q:Y[i]?=some (some v))(P:Z[i]?=some s)(hk:s=.lv o\/s=.pv o):
  Bd c Y H (Z.set i .un) (xs++some v::B) (ss++.lv o::θ):=by
 obtain⟨L,b⟩:=b;have r:aB c.toKx (c.g H L) H (xs++(B++Y)) (ss++(θ++Z)) L:=by have:=b.rel;simpa[U0] using this
 obtain⟨I,L2,e1,C,n⟩:=aB.split e r;obtain⟨R,K,e2,E,V⟩:=aB.split (by have:=b.lt;simp at this;omega) n;obtain⟨x,M1,M2,A,k,a,e3,ins⟩:=V.at P;rw[q] at k;cases k;have fin:∀p,v=.ref p->M2=[p]->LR c.toKx (c.g H L) H p o->Bd c Y H (Z.set i .un) (xs++some v::B) (ss++.lv o::θ):=by
  intro p N em h;subst N em;have S:=ins (y:=some (.ref p)) (t:=.un) (L':=[]) (Sq.refl _) (λ_ _ _ e=>e) (.un _);rw[Bk q] at S;have w:=C.app (aB.cons (i7.lv h) (E.app S));have pm:(I++([p]++(R++(M1++[]++A)))).Perm L:=by rw[e1,e2,e3];simpa using AH I R M1 A p
  exact⟨_,b.perm pm (by have:=b.lt;simp at this ⊢;omega) (by simpa[U0] using w) (b.kp.GP (λo z=>by cases z))⟩
 rcases hk with rfl|rfl
 .cases a with|lv h=>exact fin _ rfl rfl h
 .cases a with|pv h=>exact fin _ rfl rfl h
theorem Bd.putBack{t:Sl}(b:Bd c Y H Z (some v::B) (.lv o::θ))(A:Y[i]?=some (some v))(P:Z[i]?=some .un)(hk:t=.lv o\/(t=.pv o/\Y[i]?=c.σ0[i]?)):Bd c Y H (Z.set i t) B θ:=by
 obtain⟨L,b⟩:=b;have r:aB c.toKx (c.g H L) H (some v::(B++Y)) (.lv o::(θ++Z)) L:=b.rel;cases r with
 |cons h r=>
  rename_i V L';obtain⟨I,L2,e1,C,n⟩:=aB.split (by have:=b.lt;simpa using this) r;obtain⟨x,M1,M2,R,y,s,e3,ins⟩:=n.at P;cases s with
  |un=>
   cases h with
   |lv h=>
    rename_i p;have fin:i7 c.toKx (c.g H ([p]++L')) H (some (.ref p)) t [p]->fX c.σ0 Y (Z.set i t)->Bd c Y H (Z.set i t) B θ:=λh kp=>by
     have S:=ins (Sq.refl _) (λ_ _ _ e=>e) h;rw[Bk A] at S;have pm:(I++(M1++[p]++R)).Perm ([p]++L'):=by rw[e1,e3];rw[XU];intro a;simp only[Yh,Z8,List.count_nil];omega
     exact⟨_,b.perm pm (by have:=b.lt;simpa using this) (C.app S) kp⟩
    rcases hk with rfl|⟨rfl,hk⟩
    .exact fin (.lv h) (b.kp.GP (λ_ z=>by cases z))
    .refine fin (.pv h) λj o' q=>?_;by_cases z:j=i
     .subst z;exact hk
     .rw[VC (VY z)] at q;exact b.kp j o' q
theorem dG:∀(rs:List Rr)(vs:List V)(B:St),cI rs vs B=cI rs vs []++B
 |[],_,B=>rfl
 |r::rs,[],B=>rfl
 |r::rs,v::vs,B=>by
  show cI rs vs (bH r v B)=cI rs vs (bH r v [])++B;rw[dG rs vs (bH r v B),dG rs vs (bH r v []),U0]
  congr 1
  cases r<;>rfl
theorem dI:∀(rs:List Rr)(θ:List Sl),cK rs θ=cK rs []++θ
 |[],θ=>rfl
 |r::rs,θ=>by
  show cK rs (bG r θ)=cK rs (bG r [])++θ;rw[dI rs (bG r θ),dI rs (bG r []),U0]
  congr 1
  cases r<;>rfl
theorem mP.len:∀{rs:List Rr}{vs:List V},mP Y rs vs->rs.length=vs.length
 |[],[],_=>rfl
 |_::rs,_::vs,h=>by rw[US,US,mP.len h.2]
 |[],_::_,h=>h.elim
 |_::_,[],h=>h.elim
theorem rQ:∀(rs:List Rr)(vs:List V),rs.length=vs.length->(cI rs vs []).length=(cK rs []).length
 |[],[],_=>rfl
 |r::rs,v::vs,h=>by
  show (cI rs vs (bH r v [])).length=(cK rs (bG r [])).length;rw[dG,dI,UY,UY,rQ rs vs (by simpa using h)]
  congr 1
  cases r<;>rfl
 |[],_::_,h=>by simp at h
 |_::_,[],h=>by simp at h
noncomputable def a8:Rr->List Sl->Option (A×List Sl)
 | .fr a,Z=>some (a,Z)
 | .nw o,Z=>some (o.a,Z)
 | .rf i,Z=>match Z[i]? with
  |some (.lv o)=>some (o.a,Z.set i (.fr o.a))
  |some (.fr a)=>some (a,Z)
  |_=>none
def fW:List Rr->List Sl->Option (List A×List Sl)
 |[],Z=>some ([],Z)
 |r::rs,Z=>match a8 r Z with
  |some (a,U)=>match fW rs U with
   |some (as,Z')=>some (a::as,Z')
   |none=>none
  |none=>none
theorem Bd.a8{r:Rr}{v:V}{a:A}{O:List Sl}{xs:St}{ss:List Sl}(e:xs.length=ss.length)(b:Bd c Y H Z (xs++bH r v B) (ss++bG r θ))(q:VR Y r v)(h:a8 r Z=some (a,O)):Bd c Y H O (xs++some v::B) (ss++.fr a::θ):=by
 cases r with
 |fr a'=>cases h;exact b
 |nw o=>cases h;exact Bd.Px e b
 |rf i=>
  unfold M.a8 at h;cases es:Z[i]? with
  |none=>simp only[es] at h;cases h
  |some s=>
   cases s with
   |un=>simp only[es] at h;cases h
   |pv o=>simp only[es] at h;cases h
   |fr a'=>simp only[es] at h;cases h;exact Bd.MI e b q es
   |lv o=>simp only[es] at h;cases h;have b2:=Bd.rY b es;exact Bd.MI e b2 q (Vl (UQ.mp es).1)
theorem Ai{r:Rr}{as:List A}(h:fW (r::rs) Z=some (as,O)):∃a H U,a8 r Z=some (a,U)/\fW rs U=some (H,O)/\as=a::H:=by
 unfold fW at h;cases e1:a8 r Z with
 |none=>simp only[e1] at h;cases h
 |some p=>
  obtain⟨a,U⟩:=p;simp only[e1] at h;cases e2:fW rs U with
  |none=>simp only[e2] at h;cases h
  |some q=>obtain⟨H,Z'⟩:=q;simp only[e2] at h;cases h;exact⟨a,H,U,rfl,e2,rfl⟩
theorem Bd.fW:∀{rs:List Rr}{vs:List V}{as:List A}{Z O:List Sl}{B:St}{θ:List Sl},mP Y rs vs->Bd c Y H Z (cI rs vs B) (cK rs θ)->fW rs Z=some (as,O)->Bd c Y H O (vs.reverse.map some++B) (as.reverse.map Sl.fr++θ)/\vs.length=as.length
 |[],[],_,_,_,_,_,_,b,h=>by cases h;exact⟨b,rfl⟩
 |r::rs,v::vs,_,Z,O,B,θ,hv,b,h=>by obtain⟨a,as,U,e1,e2,rfl⟩:=Ai h;have b:Bd c Y H Z (cI rs vs (bH r v B)) (cK rs (bG r θ)):=b;rw[dG,dI] at b;have b1:=Bd.a8 (rQ rs vs (mP.len hv.2)) b hv.1 e1;rw[<-dG rs vs (some v::B),<-dI rs (.fr a::θ)] at b1;obtain⟨b2,e3⟩:=Bd.fW hv.2 b1 e2;exact⟨by simpa using b2,by simp[e3]⟩
 |[],_::_,_,_,_,_,_,h,_,_=>h.elim
 |_::_,[],_,_,_,_,_,h,_,_=>h.elim
end
section
variable{X:Cx}{E:XK}
theorem ye{m:Mi (List Rr)}{f:List Rr->Mi β}{o:Except Str β}{Q:List V->Hp->Prop}(F:c.toKx=kx X)(b:Bd c Y H Z B θ)(em:aF m f Z=some (o,O))
  (h1:∀rs vs U P,mP Y rs vs->Bd c Y P U (cI rs vs B) (cK rs θ)->f rs U=some (o,O)->Q vs P)
  (h2:∀e,o=.error e->∀C H,X.mg e=some (.ref C)->Bd c Y H O B θ->E (.ref C) none H):Qh (kx X) E m Y H Q:=by
 rcases bind_some em with ⟨x,U,e1,e2⟩|⟨e,e1,e2⟩
 .exact⟨c,Z,B,θ,_,U,F,b,e1,λvs P q b1=>h1 x vs U P q b1 e2⟩
 .exact⟨c,Z,B,θ,_,O,F,b,e1,λC P hm b1=>h2 e e2 C P hm b1⟩
def aU (m:Mi (List Rr)):Mi Rr:=aF m fun rs Z=>match fW rs Z with
 |some (as,O)=>if as.length ≤ 1000 then some (.ok (.fr (.tup as)),O) else none
 |none=>none
def eM (m:Mi (List Rr)):Mi Rr:=aF m fun rs Z=>match fW rs Z with
 |some (as,O)=>if as.length ≤ 1000 then some (.ok (.nw (.lst as)),O) else none
 |none=>none
theorem wG{k:Kx}{as:List A}:∀G,bx k G vs.reverse as.reverse->bx k G vs as:=λG h=>by have:=h.rev;simpa using this
theorem tm:1000<=sizeLine:=by rw[sizeLine_eq];decide
theorem J1{m:Mi (List Rr)}{x1 pos}(h:JA X E es m):JE X E (.Tuple es x1 pos) (aU m):=⟨PE.weaken (B1 h.p) λY H Q h=>by
 obtain⟨c,Z,B,θ,o,O,F,b,em,q⟩:=h;refine ye F b em (λrs vs U e A b1 u=>?_) (aQ q);cases e1:fW rs U with
 |none=>simp only[e1] at u;cases u
 |some p=>
  obtain⟨as,Z'⟩:=p;simp only[e1] at u;obtain⟨b2,e2⟩:=Bd.fW A b1 e1;split at u
  .rename_i hl;cases u;exact⟨by have:=tm;omega,λp hp=>q (.ref p) _ trivial (Bd.Nr b2 (by simp[e2]) hp vs as wG)⟩
  .cases u⟩
theorem MA{m:Mi (List Rr)}{pos}(h:JA X E es m):JE X E (.List es pos) (eM m):=⟨PE.weaken (KA h.p) λY H Q h=>by
 obtain⟨c,Z,B,θ,o,O,F,b,em,q⟩:=h;refine ye F b em (λrs vs U e A b1 u=>?_) (aQ q);cases e1:fW rs U with
 |none=>simp only[e1] at u;cases u
 |some p=>
  obtain⟨as,Z'⟩:=p;simp only[e1] at u;obtain⟨b2,e2⟩:=Bd.fW A b1 e1;split at u
  .rename_i hl;cases u;exact⟨by have:=tm;omega,λp hp=>q (.ref p) _ trivial (Bd.By b2 (by simp[e2]) hp vs as wG)⟩
  .cases u⟩
end
inductive Fl where
 |nx|rt(s:Sl)|bk|ct|ex(c:Str)
noncomputable abbrev Ms:=List Sl->Option (Fl×List Sl)
def bg:Nat->List Sl->List Sl
 |0,_=>[]
 |n+1,[]=>.un::bg n []
 |n+1,.pv o::Z=>.pv o::bg n Z
 |n+1,_::Z=>.un::bg n Z
def uZ(K:Kx)(n:Nat)(m:Ms):Sp:=λvs H Q E=>vs.length=n/\∃(c:Cn)(Z:List Sl)(f:Fl)(O:List Sl),c.toKx=K/\c.σ0=vs.map some/\c.H0=H/\eA c (vs.map some) H Z [] [] c.Lp/\m Z=some (f,O) /\
  (match f with
   | .rt s=>∀v H',(∀o,s≠.pv o)->Bd c (vs.map some) H' (bg vs.length O) [some v] [s]->Q v H'
   | .ex x=>∀C H',K.mg x=some (.ref C)->Bd c (vs.map some) H' (bg vs.length O) [] []->E (.ref C) none H'
   | _=>False)
section
variable{k:Kx}{G H:Hp}
theorem aB.back:∀{σ0 Y:St}{Z:List Sl}{L:List Addr},aB k G H Y Z L->(∀(i:Nat)(o:LO),Z[i]?=some (.pv o)->i<σ0.length->Y[i]?=σ0[i]?)->∃L',L'.Sublist L/\aB k G H σ0 (bg σ0.length Z) L'
 |[],_,_,_,_,_=>⟨[],Z2 _,.nil⟩
 |x::σ0,_,_,_,.nil,h=>by obtain⟨L',s,r⟩:=aB.back (σ0:=σ0) (Y:=[]) (Z:=[]) .nil (λi o e=>by simp at e);exact⟨L',s,aB.cons (L:=[]) (.un x) r⟩
 |x::σ0,_,_,_,.cons (x:=y) (s:=s) (Z:=U) (L:=L1) (L':=L2) hs r,h=>by
  obtain⟨L',sl,r'⟩:=aB.back (σ0:=σ0) r (λi o e hi=>by have:=h (i+1) o e (by simpa using hi);simpa using this);have fin:bg (x::σ0).length (s::U)=.un::bg σ0.length U->∃L',L'.Sublist (L1++L2)/\aB k G H (x::σ0) (bg (x::σ0).length (s::U)) L':=λe=>by rw[e];exact⟨L',sl.trans (YV _ _),aB.cons (L:=[]) (.un x) r'⟩
  cases s with
  |un=>exact fin rfl
  |fr a=>exact fin rfl
  |lv o=>exact fin rfl
  |pv o=>
   have e:=h 0 o rfl (by simp);have e:y=x:=by simpa using e
   subst e;exact⟨L1++L',V6 (V3 _) sl,aB.cons hs r'⟩
end
variable{as:List Sl}
section
variable{c:Cn}{Y:St}{H:Hp}{Z:List Sl}{B:St}{θ:List Sl}
theorem Bd.back(b:Bd c Y H Z B θ):Bd c c.σ0 H (bg c.σ0.length Z) B θ:=by
 obtain⟨L,b⟩:=b;obtain⟨I,L2,e1,C,n⟩:=aB.split b.lt b.rel;obtain⟨L',sl,r⟩:=n.back (σ0:=c.σ0) (λi o e _=>b.kp i o e);have D:(I++L').Sublist L:=by rw[e1];exact V6 (V3 _) sl
 have sm:Sq (c.g H L) (c.g H (I++L')):=dk λa ha=>D.subset ha;exact⟨I++L',b.nd.sublist D,(C.app r).sm sm (λ_ _ _ e=>e),λp hp=>b.own p (D.subset hp),b.fr,λi o _=>rfl,b.lt,b.hd⟩
def take1:Rr->List Sl->Option (Sl×List Sl)
 | .fr a,Z=>some (.fr a,Z)
 | .nw o,Z=>some (.fr o.a,Z)
 | .rf i,Z=>match Z[i]? with
  |some (.lv o)=>some (.lv o,Z.set i .un)
  |some (.pv o)=>some (.lv o,Z.set i .un)
  |some (.fr a)=>some (.fr a,Z)
  |_=>none
def cg:List Rr->List Sl->Option (List Sl×List Sl)
 |[],Z=>some ([],Z)
 |r::rs,Z=>match take1 r Z with
  |some (a,U)=>match cg rs U with
   |some (as,Z')=>some (a::as,Z')
   |none=>none
  |none=>none
noncomputable def sH:Sl->Sl
 | .lv o=>.pv o
 |s=>s
theorem wI{r:Rr}(h:cg (r::rs) Z=some (as,O)):∃a H U,take1 r Z=some (a,U)/\cg rs U=some (H,O)/\as=a::H:=by
 unfold cg at h;cases e1:take1 r Z with
 |none=>simp only[e1] at h;cases h
 |some p=>
  obtain⟨a,U⟩:=p;simp only[e1] at h;cases e2:cg rs U with
  |none=>simp only[e2] at h;cases h
  |some q=>obtain⟨H,Z'⟩:=q;simp only[e2] at h;cases h;exact⟨a,H,U,rfl,e2,rfl⟩
theorem Bd.take1{r:Rr}{v:V}{a:Sl}{O:List Sl}{xs:St}{ss:List Sl}(e:xs.length=ss.length)(b:Bd c Y H Z (xs++bH r v B) (ss++bG r θ))(q:VR Y r v)(h:take1 r Z=some (a,O)):Bd c Y H O (xs++some v::B) (ss++a::θ):=by
 cases r with
 |fr a'=>cases h;exact b
 |nw o=>cases h;exact Bd.Px e b
 |rf i=>
  unfold M.take1 at h;cases es:Z[i]? with
  |none=>simp only[es] at h;cases h
  |some s=>
   cases s with
   |un=>simp only[es] at h;cases h
   |fr a'=>simp only[es] at h;cases h;exact Bd.MI e b q es
   |lv o=>simp only[es] at h;cases h;exact Bd.Hf e b q es (.inl rfl)
   |pv o=>simp only[es] at h;cases h;exact Bd.Hf e b q es (.inr rfl)
theorem Bd.cg:∀{rs:List Rr}{vs:List V}{as:List Sl}{Z O:List Sl}{B:St}{θ:List Sl},mP Y rs vs->Bd c Y H Z (cI rs vs B) (cK rs θ)->cg rs Z=some (as,O)->Bd c Y H O (vs.reverse.map some++B) (as.reverse++θ)/\vs.length=as.length
 |[],[],_,_,_,_,_,_,b,h=>by cases h;exact⟨b,rfl⟩
 |r::rs,v::vs,_,Z,O,B,θ,hv,b,h=>by obtain⟨a,as,U,e1,e2,rfl⟩:=wI h;have b:Bd c Y H Z (cI rs vs (bH r v B)) (cK rs (bG r θ)):=b;rw[dG,dI] at b;have b1:=Bd.take1 (rQ rs vs (mP.len hv.2)) b hv.1 e1;rw[<-dG rs vs (some v::B),<-dI rs (a::θ)] at b1;obtain⟨b2,e3⟩:=Bd.cg hv.2 b1 e2;exact⟨by simpa using b2,by simp[e3]⟩
 |[],_::_,_,_,_,_,_,h,_,_=>h.elim
 |_::_,[],_,_,_,_,_,h,_,_=>h.elim
def sM(S:List Sl):Rr->Sl->List Sl->Option (List Sl)
 | .rf i,s,Z=>match S[i]?,s,Z[i]? with
  |some (.lv _),.pv o,some .un=>some (Z.set i (.lv o))
  |some (.pv _),.pv o,some .un=>some (Z.set i (.pv o))
  |some (.fr _),_,_=>some Z
  |_,_,_=>none
 |_,_,Z=>some Z
def putL(S:List Sl):List Rr->List Sl->List Sl->Option (List Sl)
 |r::rs,s::ss,Z=>match putL S rs ss Z with
  |some U=>sM S r s U
  |none=>none
 |[],[],Z=>some Z
 |_,_,_=>none
end
section
variable{k:Kx}{G H:Hp}
theorem aB.NT:∀{Y:St}{Z:List Sl}{L:List Addr},aB k G H Y Z L->∃L',L'.Perm L/\aB k G H Y.reverse Z.reverse L'
 |_,_,_,.nil=>⟨[],.refl _,.nil⟩
 |_,_,_,.cons (L:=L1) (L':=L2) h r=>by obtain⟨L',pm,r'⟩:=aB.NT r;refine⟨L'++(L1++[]),?_,by rw[Xh,Xh];exact r'.app (aB.cons h .nil)⟩;rw[Vz];exact(pm.append_right L1).trans Wo
theorem aB.xJ:∀{Y:St}{Z:List Sl}{L:List Addr},aB k G H Y Z L->∀p∈L,∀ob vs,H p=some (.frz ob (.dK vs))->False
 |_,_,_,.nil,p,hp,_,_,_=>by cases hp
 |_,_,_,.cons h r,p,hp,ob,vs,e=>by
  rcases Vb.mp hp with z|z
  .have v:∀o,LR k G H p o->False:=λo h=>by cases h with|lst q _=>rw[q] at e;cases e|aP q _=>rw[q] at e;cases e|obj q _ _=>rw[q] at e;cases e
   cases h with
   |un=>cases z
   |fr=>cases z
   |lv h=>rw[Va.mp z] at v;exact v _ h
   |pv h=>rw[Va.mp z] at v;exact v _ h
  .exact r.xJ p z ob vs e
theorem aB.sH:∀{Y:St}{Z:List Sl}{L:List Addr},aB k G H Y Z L->aB k G H Y (Z.map sH) L
 |_,_,_,.nil=>.nil
 |_,_,_,.cons h r=>by
  refine aB.cons ?_ (aB.sH r);cases h with
  |un=>exact .un _
  |fr h=>exact .fr h
  |lv h=>exact .pv h
  |pv h=>exact .pv h
noncomputable def Dz:Sl->Sl
 | .pv o=>.lv o
 |s=>s
theorem aB.Dz:∀{Y:St}{Z:List Sl}{L:List Addr},aB k G H Y Z L->aB k G H Y (Z.map Dz) L
 |_,_,_,.nil=>.nil
 |_,_,_,.cons h r=>by
  refine aB.cons ?_ (aB.Dz r);cases h with
  |un=>exact .un _
  |fr h=>exact .fr h
  |lv h=>exact .lv h
  |pv h=>exact .lv h
end
section
variable{c:Cn}{Y:St}{H:Hp}{Z:List Sl}{B:St}{θ:List Sl}
theorem Bd.enter(e:vs.length=as.length)(b:Bd c Y H Z (vs.reverse.map some++B) (as.reverse++θ)):
  ∃t:Cn,t.toKx=c.toKx/\t.σ0=vs.map some/\t.H0=H/\eA t (vs.map some) H (as.map sH) [] [] t.Lp /\
   ∀(H':Hp)(O:List Sl)(J:St)(T:List Sl),(∀s∈T,∀o,s≠.pv o)->O.length=vs.length->Bd t (vs.map some) H' O J T->Bd c Y H' Z (vs.reverse.map some++(J++B)) ((O.map Dz).reverse++(T++θ)):=by
 obtain⟨L,b⟩:=b;have r:aB c.toKx (c.g H L) H (vs.reverse.map some++(B++Y)) (as.reverse++(θ++Z)) L:=by have:=b.rel;simpa[U0] using this
 obtain⟨La,v,e1,r1,n⟩:=aB.split (by simp[e]) r;obtain⟨Lp,pm,V⟩:=r1.NT;have V:aB c.toKx (c.g H L) H (vs.map some) as Lp:=by simpa[<-Z3] using V
 have R:∀a,a∈Lp++(v++c.Hd)↔a∈L++c.Hd:=λa=>by
  rw[e1,Vb,Vb,Vb,Vb,pm.mem_iff];constructor
  .rintro(h|h|h)
   .exact .inl (.inl h)
   .exact .inl (.inr h)
   .exact .inr h
  .rintro((h|h)|h)
   .exact .inl h
   .exact .inr (.inl h)
   .exact .inr (.inr h)
 have nd:=b.nd;rw[e1] at nd;obtain⟨n1,n2,G⟩:=U8.mp nd
 let t:Cn:={ toKx:=c.toKx,σ0:=vs.map some,H0:=H,Lp:=Lp,Hd:=v++c.Hd,Wk:=[] }
 have C:∀P I L2,(∀a,a∈I++(v++c.Hd)↔a∈L2++c.Hd)->t.g P I=c.g P L2:=λP I L2 hm=>by
  funext a
  show (if a∈I++(v++c.Hd) then none else P a)=(if a∈L2++c.Hd then none else P a)
  by_cases z:a∈I++(v++c.Hd)
  .rw[if_pos z,if_pos ((hm a).mp z)]
  .rw[if_neg z,if_neg λy=>z ((hm a).mpr y)]
 refine⟨t,rfl,rfl,rfl,⟨(pm.nodup_iff).mpr n1,?_,λp hp=>.inl hp,⟨λq o h=>⟨o,h,λ_ _=>rfl⟩,λq j=>by cases j⟩,λi o _=>rfl,rfl,λp hp=>?_⟩,?_⟩
 .show aB c.toKx (t.g H Lp) H (vs.map some) (as.map sH) Lp;rw[C H Lp L R];exact V.sH
 .rcases Vb.mp hp with z|z
  .exact⟨n.is p z,λy=>G p (pm.mem_iff.mp y) p z rfl⟩
  .refine⟨?_,λy=>b.NW (by rw[e1];exact Vk _ (pm.mem_iff.mp y)) z⟩;obtain⟨⟨u,h1⟩,h2⟩:=b.hd p z;obtain⟨D,h3,_⟩:=b.fr.st p u h1;exact⟨D,h3⟩
 .intro H' O J T hθ hl Q;obtain⟨L',Q⟩:=Q;obtain⟨U,Ls,e2,q1,q2⟩:=aB.split Q.lt Q.rel;obtain⟨X,l,q3⟩:=q2.Dz.NT;have lt':B.length=θ.length:=by have:=b.lt;simp[e] at this;omega
  obtain⟨Lτ,Lσ,e3,s1,s2⟩:=aB.split lt' n;have x:∀p∈L',p∈Lp\/H p=none:=Q.own;have k:∀p,p∈v->∀u,H p=some u->H' p=some u:=λp hp u h=>by obtain⟨D,h1,h2⟩:=Q.fr.st p u h;have:p∉Lp:=λy=>G p (pm.mem_iff.mp y) p hp rfl;rw[h1,h2 this (λw m=>by cases m)]
  have S:∀p,p∈L'->p∉v:=λp hp y=>by
   rcases x p hp with z|z
   .exact G p (pm.mem_iff.mp z) p y rfl
   .obtain⟨u,h⟩:=n.is p y;rw[z] at h;cases h
  have E:Sq (c.g H L) (t.g H' L'):=λa u h=>by
   by_cases z:a∈L\/a∈c.Hd
   .rw[gP z] at h;cases h
   .rw[bz (λy=>z (.inl y)) (λy=>z (.inr y))] at h;have f:a∉Lp:=λy=>z (.inl (by rw[e1];exact Vk _ (pm.mem_iff.mp y)));have nr:a∉v:=λy=>z (.inl (by rw[e1];exact UX _ y));obtain⟨D,h1,h2⟩:=Q.fr.st a u h;refine⟨D,?_,.inl (h2 f (λw m=>by cases m))⟩;rw[bz (c:=t) (λy=>?_) (λy=>?_)]
    .exact h1
    .rcases x a y with w|w
     .exact f w
     .rw[w] at h;cases h
    .rcases Vb.mp y with w|w
     .exact nr w
     .exact z (.inr w)
  have A:t.g H' L'=c.g H' (L'++v):=C H' L' (L'++v) λa=>by simp[Vb,or_assoc]
  have s3:aB c.toKx (t.g H' L') H' (B++Y) (θ++Z) v:=n.sm E k;have N:aB c.toKx (t.g H' L') H' (vs.reverse.map some++(J++B)++Y) ((O.map Dz).reverse++(T++θ)++Z) (X++(U++v)):=by have:=q3.app (q1.app s3);simpa[U0,<-Z3] using this
  have K:(X++(U++v)).Perm (L'++v):=by rw[e2];have:=l.append_right (U++v);refine this.trans ?_;rw[<-U0];exact Wo.append_right v
  refine⟨X++(U++v),(K.nodup_iff).mpr (U8.mpr ⟨Q.nd,n2,λa ha b2 hb z=>S a ha (by rw[z];exact hb)⟩),?_,λp hp=>?_,⟨λq u h=>?_,λq j=>?_⟩,b.kp,?_,b.hd⟩
  .rw[LM (c:=c) (H:=H') (L':=L'++v) λa=>K.mem_iff,<-A];exact N
  .rcases Vb.mp (K.mem_iff.mp hp) with z|z
   .rcases x p z with y|y
    .exact b.own p (by rw[e1];exact Vk _ (pm.mem_iff.mp y))
    .exact .inr (b.fr.fresh y)
   .exact b.own p (by rw[e1];exact UX _ z)
  .obtain⟨u1,h1,h2⟩:=b.fr.st q u h;obtain⟨F,h3,h4⟩:=Q.fr.st q u1 h1;refine⟨F,h3,λd nw=>?_⟩;rw[h4 (λy=>?_) (λw m=>by cases m),h2 d nw];rcases b.own q (by rw[e1];exact Vk _ (pm.mem_iff.mp y)) with w|w
   .exact d w
   .rw[w] at h;cases h
  .obtain⟨h1,⟨ob,ws,h2⟩,h3⟩:=b.fr.pk q j;refine⟨?_,⟨ob,ws,h2⟩,h3⟩;obtain⟨F,h4,h5⟩:=Q.fr.st q.1 q.2 h1;rw[h4,h5 (λy=>?_) (λw m=>by cases m)];exact V.xJ q.1 y ob ws (by rw[h1,h2])
  .have:=Q.lt;simp[hl];omega
end
section
variable{c:Cn}{Y:St}{H:Hp}{Z:List Sl}{B:St}{θ:List Sl}
theorem Bd.sM{S O:List Sl}{r:Rr}{s:Sl}{v:V}(kp:fX c.σ0 Y S)(q:VR Y r v)(b:Bd c Y H Z (some v::B) (Dz s::θ))(h:sM S r s Z=some O):Bd c Y H O B θ:=by
 cases r with
 |fr a=>cases h;exact b.pop
 |nw o=>cases h;exact b.pop
 |rf i=>
  unfold M.sM at h;cases X:S[i]? with
  |none=>simp only[X] at h;cases h
  |some p=>
   simp only[X] at h;cases p with
   |un=>simp at h
   |fr a=>simp at h;subst h;exact b.pop
   |lv x=>
    cases s with
    |pv o=>
     cases e1:Z[i]? with
     |none=>simp[e1] at h
     |some s1=>
      cases s1 with
      |un=>simp[e1] at h;subst h;exact Bd.putBack b q e1 (.inl rfl)
      |_=>simp[e1] at h
    |_=>simp at h
   |pv x=>
    cases s with
    |pv o=>
     cases e1:Z[i]? with
     |none=>simp[e1] at h
     |some s1=>
      cases s1 with
      |un=>simp[e1] at h;subst h;exact Bd.putBack b q e1 (.inr ⟨rfl,kp i x X⟩)
      |_=>simp[e1] at h
    |_=>simp at h
theorem Bd.putL{S:List Sl}(kp:fX c.σ0 Y S):∀{rs:List Rr}{vs:List V}{ss:List Sl}{Z O:List Sl}{B:St}{θ:List Sl},mP Y rs vs->Bd c Y H Z (vs.reverse.map some++B) ((ss.map Dz).reverse++θ)->M.putL S rs ss Z=some O->Bd c Y H O B θ
 |[],[],[],_,_,_,_,_,b,h=>by cases h;exact b
 |r::rs,v::vs,s::ss,Z,O,B,θ,hv,b,h=>by
  unfold M.putL at h;cases e:M.putL S rs ss Z with
  |none=>simp only[e] at h;cases h
  |some U=>
   simp only[e] at h;have b1:Bd c Y H Z (vs.reverse.map some++(some v::B)) ((ss.map Dz).reverse++(Dz s::θ)):=by simpa[U0] using b
   exact Bd.sM kp hv.1 (Bd.putL kp hv.2 b1 e) h
 |[],_::_,_,_,_,_,_,h,_,_=>h.elim
 |_::_,[],_,_,_,_,_,h,_,_=>h.elim
 |[],[],_::_,_,_,_,_,_,_,h=>by cases h
 |_::_,_::_,[],_,_,_,_,_,_,h=>by cases h
theorem bL:∀(n:Nat)(Z:List Sl),(bg n Z).length=n
 |0,_=>rfl
 |n+1,[]=>by show (Sl.un::bg n []).length=_;rw[US,bL n []]
 |n+1,s::Z=>by cases s<;>(show (_::bg n Z).length=_;rw[US,bL n Z])
theorem mP.app:∀{rs X:List Rr}{vs us:List V},mP Y rs vs->mP Y X us->mP Y (rs++X) (vs++us)
 |[],_,[],_,_,h=>h
 |_::rs,_,_::vs,_,h1,h2=>⟨h1.1,mP.app h1.2 h2⟩
 |[],_,_::_,_,h,_=>h.elim
 |_::_,_,[],_,h,_=>h.elim
theorem mP.dz:∀{das:List A}{dvs:List V},das.length=dvs.length->mP Y (das.map Rr.fr) dvs
 |[],[],_=>trivial
 |_::das,_::dvs,h=>⟨trivial,mP.dz (by simpa using h)⟩
 |[],_::_,h=>by simp at h
 |_::_,[],h=>by simp at h
theorem n8:∀{rs:List Rr}{vs:List V}(X:List Rr)(us:List V)(B:St),rs.length=vs.length->cI (rs++X) (vs++us) B=cI X us (cI rs vs B)
 |[],[],_,_,_,_=>rfl
 |r::rs,v::vs,X,us,B,h=>n8 (rs:=rs) (vs:=vs) X us (bH r v B) (by simpa using h)
 |[],_::_,_,_,_,h=>by simp at h
 |_::_,[],_,_,_,h=>by simp at h
theorem lH:∀(rs X:List Rr)(θ:List Sl),cK (rs++X) θ=cK X (cK rs θ)
 |[],_,_=>rfl
 |r::rs,X,θ=>lH rs X (bG r θ)
theorem Bd.vH:∀{das:List A}{dvs:List V}{B:St}{θ:List Sl},(∀G,bx c.toKx G dvs das)->Bd c Y H Z B θ->Bd c Y H Z (cI (das.map Rr.fr) dvs B) (cK (das.map Rr.fr) θ)
 |[],[],_,_,_,b=>b
 |a::das,v::dvs,_,_,h,b=>Bd.vH (das:=das) (dvs:=dvs) (λG=>by cases h G;assumption) (Bd.push b λG=>by cases h G;assumption)
 |[],_::_,_,_,h,_=>by cases h (λ_=>none)
 |_::_,[],_,_,h,_=>by cases h (λ_=>none)
end
noncomputable def pD:Sl->Option Rr
 | .fr a=>some (.fr a)
 | .lv o=>some (.nw o)
 |_=>none
def fq(f:Ms)(das:List A)(ma:Mi (List Rr)):Mi Rr:=aF ma λrs Z=>match cg (rs++das.map Rr.fr) Z with
 |some (as,T)=>match f (as.map sH) with
  |some (.rt s,U)=>match pD s,putL Z (rs++das.map Rr.fr) (bg as.length U) T with
   |some r,some O=>some (.ok r,O)
   |_,_=>none
  |some (.ex x,U)=>match putL Z (rs++das.map Rr.fr) (bg as.length U) T with
   |some O=>some (.error x,O)
   |none=>none
  |_=>none
 |none=>none
variable{dvs:List V}{k:Nat}{fd:FuncData}{ps N:List Str}
section
variable{X:Cx}{E:XK}
theorem lF{m:Ms}{n:Nat}{das:List A}(hd:∀G,bx (kx X) G dvs das){o:Except Str Rr}(F:c.toKx=kx X)(hn:(vs++dvs).length=n)
  (q:mP Y rs vs)(b:Bd c Y H Z (cI rs vs B) (cK rs θ)) (em:(match cg (rs++das.map Rr.fr) Z with
 |some (as,T)=>match m (as.map sH) with
  |some (.rt s,U)=>match pD s,putL Z (rs++das.map Rr.fr) (bg as.length U) T with
   |some r,some O=>some (.ok r,O)
   |_,_=>none
  |some (.ex x,U)=>match putL Z (rs++das.map Rr.fr) (bg as.length U) T with
   |some O=>some (.error x,O)
   |none=>none
  |_=>none
 | none=>none)=some (o,O)) (k:∀r,o=.ok r->∀v H',VR Y r v->Bd c Y H' O (bH r v B) (bG r θ)->Q v H') (V:∀x,o=.error x->∀C H',X.mg x=some (.ref C)->Bd c Y H' O B θ->E (.ref C) none H'):uZ (kx X) n m (vs++dvs) H Q E:=by
 refine⟨hn,?_⟩;cases e1:cg (rs++das.map Rr.fr) Z with
 |none=>simp only[e1] at em;cases em
 |some p=>
  obtain⟨as,T⟩:=p;simp only[e1] at em;have ld:das.length=dvs.length:=(hd λ_=>none).len.symm;have h:mP Y (rs++das.map Rr.fr) (vs++dvs):=q.app (mP.dz ld);have b2:Bd c Y H Z (cI (rs++das.map Rr.fr) (vs++dvs) B) (cK (rs++das.map Rr.fr) θ):=by rw[n8 _ _ _ q.len,lH];exact Bd.vH (by rw[F];exact hd) b
  obtain⟨t,e3⟩:=Bd.cg h b2 e1;obtain⟨P,k1,k2,k3,D,k5⟩:=Bd.enter e3 t;have kp:fX c.σ0 Y Z:=by obtain⟨L,b⟩:=b;exact b.kp
  cases e4:m (as.map sH) with
  |none=>simp only[e4] at em;cases em
  |some p=>
   obtain⟨f,U⟩:=p;simp only[e4] at em;refine⟨P,_,f,U,k1.trans F,k2,k3,D,e4,?_⟩;cases f with
   |nx=>cases em
   |bk=>cases em
   |ct=>cases em
   |rt s=>
    simp only at em;cases e5:pD s with
    |none=>simp only[e5] at em;cases em
    |some r=>
     cases e6:putL Z (rs++das.map Rr.fr) (bg as.length U) T with
     |none=>simp only[e5,e6] at em;cases em
     |some Z'=>
      simp only[e5,e6] at em;cases em;intro v H' u R;have K:=k5 H' _ _ _ (λs' w o z=>by rw[Va.mp w] at z;exact u o z) (bL _ _) R;rw[e3] at K;have S:=Bd.putL kp h K e6;cases s with
      |fr a=>cases e5;exact k _ rfl v H' trivial S
      |lv o=>cases e5;exact k _ rfl v H' trivial S
      |_=>cases e5
   |ex x=>
    simp only at em;cases e6:putL Z (rs++das.map Rr.fr) (bg as.length U) T with
    |none=>simp only[e6] at em;cases em
    |some Z'=>simp only[e6] at em;cases em;intro C H' hm R;have K:=k5 H' _ _ _ (λs' w=>by cases w) (bL _ _) R;rw[e3] at K;exact V x rfl C H' hm (Bd.putL kp h K e6)
theorem FL{CX:xi}{n:Nat}{f:Addr}{m:Ms}{das:List A}{ds:List Value}{p:Pos}{ma:Mi (List Rr)}(F:cV X.prog X.w X.K X.mg X.base CX k f fd ps (uZ (kx X) n m))(hr:cp k X.A)(hg:Gl X x)
  (hm:X.mg x=some (.ref f))(hk:VJ X.K (.ref f)=true)(hb:Binds X.K fd ps ds)(hd:Vals dvs ds)(hda:∀G,bx (kx X) G dvs das)(hx:Passes CX X E)(ha:JA X E (e::es) ma)(hn:∀Z rs O,ma Z=some (.ok rs,O)->rs.length+das.length=n)(hdb:gu x)
  (he:starEach (e::es) X.env=(false,eval e X.env)::starEach es X.env:=by rfl)(hpl:(backTo pos (starEach es X.env)).any (·.1)=false:=by rfl):JE X E (.Call (.Name x p) (e::es) [] pos) (fq m das ma):=
 ⟨PE.weaken (GW F hr hg hm hk hb hd hx ha.p hdb he hpl) λY H Q h=>by
  obtain⟨c,Z,B,θ,o,O,ek,b,em,q⟩:=h;rcases bind_some em with ⟨rs,U,e1,e2⟩|⟨e,e1,e2⟩
  .refine⟨c,Z,B,θ,_,U,ek,b,e1,λvs H1 hv b1=>?_⟩;refine lF hda ek ?_ hv b1 e2 (λr hr v H' hv b=>by subst hr;exact q v H' hv b) (λx hx=>by subst hx;exact q);rw[UY,<-hv.len,<-hn Z rs U e1,(hda λ_=>none).len]
  .subst e2;exact⟨c,Z,B,θ,_,O,ek,b,e1,λC H1 hm b1=>q C H1 hm b1⟩⟩
theorem B5:∀Z rs O,eP Z=some (.ok rs,O)->rs.length=0:=λZ rs O h=>by cases h;rfl
theorem xf{ma:Mi (List Rr)}{n:Nat}(h:∀Z rs O,ma Z=some (.ok rs,O)->rs.length=n):∀Z rs O,bZ m ma Z=some (.ok rs,O)->rs.length=n+1:=λZ rs O e=>by
 rcases bind_some e with ⟨r,U,e1,e2⟩|⟨_,_,e2⟩
 .rcases bind_some e2 with ⟨rs',Z',e3,e4⟩|⟨_,_,e4⟩
  .cases e4;rw[US,h _ _ _ e3]
  .cases e4
 .cases e2
theorem vD{ma:Mi (List Rr)}{n d N:Nat}(h:∀Z rs O,ma Z=some (.ok rs,O)->rs.length=n)(e:n+d=N):∀Z rs O,ma Z=some (.ok rs,O)->rs.length+d=N:=λZ rs O q=>by rw[h Z rs O q];exact e
def F9(K:Kx)(E:XK)(c:Cn)(Z:List Sl)(B:St)(θ:List A)(D:Ends):Fl->Prop
 | .nx=>∀Y H,Bd c Y H Z B (θ.map Sl.fr)->D.nx Y H
 | .rt s=>∀v Y H,(∀o,s≠.pv o)->Bd c Y H Z (some v::B) (s::θ.map Sl.fr)->D.rt v H
 | .bk=>∀Y H,Bd c Y H Z B (θ.map Sl.fr)->D.bk Y H
 | .ct=>∀Y H,Bd c Y H Z B (θ.map Sl.fr)->D.ct Y H
 | .ex x=>∀C Y H,K.mg x=some (.ref C)->Bd c Y H Z B (θ.map Sl.fr)->E (.ref C) none H
inductive R3(K:Kx)(E:XK)(m:Ms)(D:Ends)(Y:St)(H:Hp):Prop
 |mk(c:Cn)(Z:List Sl)(B:St)(θ:List A)(f:Fl)(O:List Sl)(h1:c.toKx=K)(h2:Bd c Y H Z B (θ.map Sl.fr))(h3:m Z=some (f,O))(h4:F9 K E c O B θ D f)
structure JS(X:Cx)(E:XK)(s:Stmt)(m:Ms):Prop where
 p:PS X s (R3 (kx X) E m)
structure An(X:Cx)(E:XK)(s:List Stmt)(m:Ms):Prop where
 p:tP X s (R3 (kx X) E m)
theorem PS.weaken{e:Stmt}{t t':TS}(h:PS X e t)(f:∀D Y H,t' D Y H->t D Y H):PS X e t':=λpins s Y H D I q=>h pins s Y H D I (f D Y H q)
theorem tP.weaken{e:List Stmt}{t t':TS}(h:tP X e t)(f:∀D Y H,t' D Y H->t D Y H):tP X e t':=λpins s Y H D I q=>h pins s Y H D I (f D Y H q)
noncomputable def aS:Ms:=λZ=>some (.nx,Z)
noncomputable def ay(m n:Ms):Ms:=λZ=>match m Z with
 |some (.nx,U)=>n U
 |r=>r
theorem EW:An X E [] aS:=⟨tP.weaken HJ λD Y H h=>by obtain⟨c,Z,B,θ,f,O,F,b,em,q⟩:=h;cases em;exact q Y H b⟩
theorem F8{s:Stmt}{m:Ms}(h:JS X E s m):An X E [s] m:=⟨Fs h.p⟩
theorem AD{s:Stmt}{r:List Stmt}{m n:Ms}(h:JS X E s m)(h':An X E r n):An X E (s::r) (ay m n):=⟨tP.weaken (DB h.p h'.p) λD Y H h=>by
 obtain⟨c,Z,B,θ,f,O,F,b,em,q⟩:=h;unfold ay at em;cases e:m Z with
 |none=>simp only[e] at em;cases em
 |some p=>
  obtain⟨C,U⟩:=p;simp only[e] at em;refine⟨c,Z,B,θ,C,U,F,b,e,?_⟩;cases C with
  |nx=>exact λj H' Q=>⟨c,U,B,θ,f,O,F,Q,em,q⟩
  |rt s=>cases em;exact q
  |bk=>cases em;exact q
  |ct=>cases em;exact q
  | ex x=>cases em;exact q⟩
theorem He{pos}:JS X E (.Pass pos) aS:=⟨PS.weaken Gf λD Y H h=>by obtain⟨c,Z,B,θ,f,O,F,b,em,q⟩:=h;cases em;exact q Y H b⟩
noncomputable def AG:Ms:=λZ=>some (.bk,Z)
noncomputable def IW:Ms:=λZ=>some (.ct,Z)
theorem Di{pos}:JS X E (.Break pos) AG:=⟨PS.weaken Ey λD Y H h=>by obtain⟨c,Z,B,θ,f,O,F,b,em,q⟩:=h;cases em;exact q Y H b⟩
theorem Ha{pos}:JS X E (.Continue pos) IW:=⟨PS.weaken uh λD Y H h=>by obtain⟨c,Z,B,θ,f,O,F,b,em,q⟩:=h;cases em;exact q Y H b⟩
noncomputable def cH{α:Type}(m:Mi α)(f:α->Ms):Ms:=λZ=>match m Z with
 |some (.ok x,U)=>f x U
 |some (.error e,U)=>some (.ex e,U)
 |none=>none
theorem bE{m:Mi α}{f:α->Ms}{o:Fl}(h:cH m f Z=some (o,O)):(∃x U,m Z=some (.ok x,U)/\f x U=some (o,O))\/∃e,m Z=some (.error e,O)/\o=.ex e:=by
 unfold cH at h;cases e:m Z with
 |none=>simp only[e] at h;cases h
 |some p=>
  obtain⟨r,U⟩:=p;cases r with
  |ok x=>simp only[e] at h;exact .inl ⟨x,U,rfl,h⟩
  |error x=>simp only[e] at h;cases h;exact .inr ⟨x,rfl,rfl⟩
theorem fM{θ:List A}{f:Rr->Ms}{o:Fl}{D:Ends}(F:c.toKx=kx X)(b:Bd c Y H Z B (θ.map Sl.fr))(em:cH m f Z=some (o,O))(q:F9 (kx X) E c O B θ D o)
  (h1:∀x v U P,VR Y x v->Bd c Y P U (bH x v B) (bG x (θ.map Sl.fr))->f x U=some (o,O)->Q v P):il (kx X) E m Y H Q:=by
 rcases bE em with ⟨x,U,e1,e2⟩|⟨e,e1,e2⟩
 .exact⟨c,Z,B,_,_,U,F,b,e1,λv P s b1=>h1 x v U P s b1 e2⟩
 .subst e2;exact⟨c,Z,B,_,_,O,F,b,e1,λC P hm b1=>q C Y P hm b1⟩
theorem Fn{θ:List A}{m:Mi Bool}{f:Bool->Ms}{o:Fl}{Q:Bool->Hp->Prop}{D:Ends}(F:c.toKx=kx X)(b:Bd c Y H Z B (θ.map Sl.fr))(em:cH m f Z=some (o,O))(q:F9 (kx X) E c O B θ D o)
  (h1:∀k U P,Bd c Y P U B (θ.map Sl.fr)->f k U=some (o,O)->Q k P):wW (kx X) E m Y H Q:=by
 rcases bE em with ⟨x,U,e1,e2⟩|⟨e,e1,e2⟩
 .exact⟨c,Z,B,_,_,U,F,b,e1,λP b1=>h1 x U P b1 e2⟩
 .subst e2;exact⟨c,Z,B,_,_,O,F,b,e1,λC P hm b1=>q C Y P hm b1⟩
def bO(m:Mi Rr):Ms:=cH m λ_ Z=>some (.nx,Z)
theorem Fi(h:JE X E e m)(hs:swapsWith e none pos.line X.env=pure false:=by rfl):JS X E (.Expr e pos) (bO m):=⟨PS.weaken (FA h.p hs) λD Y H h=>by obtain⟨c,Z,B,θ,f,O,ek,b,em,q⟩:=h;refine fM ek b em q λx v U H1 hv b1 em1=>?_;cases em1;exact q Y H1 b1.drop⟩
def eS(t:Mi Bool)(m n:Ms):Ms:=cH t λb=>if b then m else n
theorem Rw{t:Expr}{a b:List Stmt}{m n:Ms}(i:JT X E t mt)(ha:An X E a m)(d:An X E b n):JS X E (.If t a b pos) (eS mt m n):=⟨PS.weaken (RC i.p ha.p d.p) λD Y H h=>by
 obtain⟨c,Z,B,θ,f,O,F,b,em,q⟩:=h;refine Fn F b em q λk U e b1 u=>?_;cases k with
 |true=>rw[if_pos rfl];exact⟨c,U,B,θ,f,O,F,b1,u,q⟩
 | false=>rw[if_neg (by decide)];exact⟨c,U,B,θ,f,O,F,b1,u,q⟩⟩
def M0:Rr->List Sl->Option (Sl×List Sl)
 | .fr a,Z=>some (.fr a,Z)
 | .nw o,Z=>some (.lv o,Z)
 | .rf i,Z=>match Z[i]? with
  |some (.lv o)=>some (.lv o,Z.set i .un)
  |_=>none
def aN(m:Mi Rr):Ms:=cH m λr Z=>match M0 r Z with
 |some (s,O)=>some (.rt s,O)
 |none=>none
theorem ND(h:JE X E e m):JS X E (.Return (some e) pos) (aN m):=⟨PS.weaken (KR h.p) λD Y H h=>by
 obtain⟨c,Z,B,θ,f,O,F,b,em,q⟩:=h;refine fM F b em q λx v U P A b1 u=>?_;cases x with
 |fr a=>cases u;exact q v Y P (λo z=>by cases z) b1
 |nw o=>cases u;exact q v Y P (λo z=>by cases z) b1
 |rf i=>
  unfold M0 at u;cases es:U[i]? with
  |none=>simp only[es] at u;cases u
  |some s=>
   cases s with
   |lv o=>simp only[es] at u;cases u;exact q v Y P (λo z=>by cases z) (Bd.Hf (xs:=[]) (ss:=[]) rfl b1 A es (.inl rfl))
   | _=>simp only[es] at u;cases u⟩
noncomputable def Jj:Ms:=λZ=>some (.rt (.fr .non),Z)
theorem E8:JS X E (.Return none pos) Jj:=⟨PS.weaken Iw λD Y H h=>by obtain⟨c,Z,B,θ,f,O,F,b,em,q⟩:=h;cases em;exact q .non Y H (λo z=>by cases z) (b.push λ_=>.non)⟩
def xF:Rr->List Sl->Option (Sl×List Sl)
 | .fr a,Z=>some (.fr a,Z)
 | .nw o,Z=>some (.lv o,Z)
 | .rf i,Z=>match a8 (.rf i) Z with
  |some (a,O)=>some (.fr a,O)
  |none=>none
noncomputable def put(i:Nat)(s:Sl)(Z:List Sl):Option (List Sl):=match Z[i]? with
 |some (.pv _)=>none
 |some _=>some (Z.set i s)
 |none=>none
theorem Bd.put{c:Cn}{Y:St}{H:Hp}{Z O:List Sl}{B:St}{θ:List Sl}{i:Nat}{v:V}{t:Sl}(b:Bd c Y H Z (some v::B) (t::θ))(K:∀o,t≠.pv o)(h:put i t Z=some O):Bd c (Y.set i (some v)) H O B θ:=by
 unfold M.put at h;cases es:Z[i]? with
 |none=>simp only[es] at h;cases h
 |some s=>
  cases s with
  |pv o=>simp only[es] at h;cases h
  |un=>simp only[es] at h;cases h;exact b.store es (λo z=>by cases z) K
  |fr a=>simp only[es] at h;cases h;exact b.store es (λo z=>by cases z) K
  |lv o=>simp only[es] at h;cases h;exact b.store es (λo z=>by cases z) K
theorem Bd.xF{c:Cn}{Y:St}{H:Hp}{Z O:List Sl}{B:St}{θ:List Sl}{r:Rr}{v:V}{t:Sl}(q:VR Y r v)(b:Bd c Y H Z (bH r v B) (bG r θ))(h:xF r Z=some (t,O)):Bd c Y H O (some v::B) (t::θ)/\∀o,t≠.pv o:=by
 cases r with
 |fr a=>cases h;exact⟨b,λo z=>by cases z⟩
 |nw o=>cases h;exact⟨b,λo z=>by cases z⟩
 |rf i=>
  unfold M.xF at h;cases e:M.a8 (.rf i) Z with
  |none=>simp only[e] at h;cases h
  |some p=>obtain⟨a,U⟩:=p;simp only[e] at h;cases h;exact⟨Bd.a8 (r:=.rf i) (xs:=[]) (ss:=[]) rfl b q e,λo z=>by cases z⟩
def aG(i:Nat)(m:Mi Rr):Ms:=cH m λr Z=>match xF r Z with
 |some (t,U)=>match put i t U with
  |some Z'=>some (.nx,Z')
  |none=>none
 |none=>none
theorem Cv{pos':Pos}(hN:X.N.Nodup)(hi:X.N[i]?=some x)(hx:Loc X.env.scope x)(he:JE X E e m)(hs:swapsWith e (some (.Name x pos')) pos.line X.env=pure false:=by rfl)
  (hf:X.fn x=true\/X.env.scope.names.lookup x=some .local:=by first|exact .inl rfl|exact .inr rfl|assumption):JS X E (.Assign [.Name x pos'] e pos) (aG i m):=⟨PS.weaken (LG hN hi hx he.p hs hf) λD Y H h=>by
 obtain⟨c,Z,B,θ,f,O,ek,b,em,q⟩:=h;refine fM ek b em q λr v U H1 hv b1 em1=>?_;cases e1:xF r U with
 |none=>simp only[e1] at em1;cases em1
 |some p=>
  obtain⟨t,Z'⟩:=p;simp only[e1] at em1;obtain⟨b2,ht⟩:=Bd.xF hv b1 e1;cases e2:put i t Z' with
  |none=>simp only[e2] at em1;cases em1
  | some Y'=>simp only[e2] at em1;cases em1;exact q _ H1 (Bd.put b2 ht e2)⟩
def aV(loc:Nat)(m:Ms):Ms:=λZ=>match m (Z++Vd loc .un) with
 |some (.nx,O)=>some (.rt (.fr .non),O)
 |some (.rt s,O)=>some (.rt s,O)
 |some (.ex x,O)=>some (.ex x,O)
 |_=>none
theorem nW{k:Kx}{G H:Hp}:∀n,aB k G H (Vd n none) (Vd n Sl.un) []
 |0=>.nil
 |n+1=>aB.cons (L:=[]) (.un _) (nW n)
theorem eA.start{c:Cn}{vs:List V}{H:Hp}{Z:List Sl}(N:List Str)(b:eA c (vs.map some) H Z [] [] c.Lp)(e:c.σ0=vs.map some):Bd c (start N vs) H (Z++Vd (N.length-vs.length) .un) [] []:=by
 have hl:vs.length=Z.length:=by have:=b.rel.len;simpa using this
 refine⟨c.Lp,b.nd,?_,b.own,b.fr,λi o h=>?_,rfl,b.hd⟩
 .have:=b.rel.app (nW (k:=c.toKx) (G:=c.g H c.Lp) (H:=H) (N.length-vs.length));simpa[L2.start] using this
 .have hi:i<Z.length:=by
   by_cases z:i<Z.length
   .exact z
   .rw[Vv (by omega)] at h;have:=Vc h;have:=Y3 this;cases this
  unfold L2.start;rw[VX (by simp;omega),e]
theorem MZ{P:Program}{w:World}{K:UN}{mg:Str->Option Value}{base:Heap}{dV:Value}{qual:Str}{st:Stmt}{f:Addr}{m:Ms}(F:rp K x qual st f fd dV)(S:kT N ps (aZ st))
  (d:∀(cdv:Value)(A:Around)(outer:List Env)(s:Shared)(H:Hp)(E:XK),cp k (A.deeper (PyProof.Rows.envOfC qual (aZ st) s.heap.objs.size f cdv))->
   An (uH (sd P w) P w K mg base N qual (aZ st) f cdv A outer s H E) E (dy st) m):cV P w K mg base (sd P w) (k+1) f fd ps (uZ ⟨K,mg⟩ ps.length (aV (N.length-ps.length) m)):=
 F.ok S (λvs H Q E h=>h.1) λcdv A outer s H vs Q E l h=>by
  obtain⟨hn,c,Z,f,O,r,X,e1,b,em,q⟩:=h;refine⟨_,(d cdv A outer s H E l).p,?_⟩;have bs:=b.start N X;rw[hn] at bs;unfold aV at em;cases e:m (Z++Vd (N.length-ps.length) .un) with
  |none=>simp only[e] at em;cases em
  |some p=>
   obtain⟨a,U⟩:=p;simp only[e] at em;refine⟨c,_,[],[],a,U,r,bs,e,?_⟩;have bk:∀{j:St}{H':Hp}{J:St}{T:List Sl},Bd c j H' U J T->Bd c (vs.map some) H' (bg vs.length U) J T:=λY=>by have:=Y.back;rw[X,UP] at this;exact this
   cases a with
   |nx=>cases em;exact λj H' Y=>q .non H' (λo z=>by cases z) ((bk Y).push λ_=>.non)
   |rt s=>cases em;exact λv j H' u Y=>q v H' u (bk Y)
   |ex x=>cases em;exact λC j H' hm Y=>q C H' hm (bk Y)
   |bk=>cases em
   |ct=>cases em
end
variable{r':R2}{K:Kx}{q:Rr}
section
variable{X:Cx}{E:XK}
theorem eu.or'{f:Value->Value->Sem Value}(h:eu X f r)(h':eu X f r'):eu X f (λx y H Q=>r x y H Q\/r' x y H Q):=by
 intro pins s Y H x y v u Q I b z q;rcases q with q|q
 .exact h pins s Y H x y v u Q I b z q
 .exact h' pins s Y H x y v u Q I b z q
theorem bF.or'{f:Value}{r r':List V->Hp->VK->Prop}(h:bF X f r)(h':bF X f r'):bF X f (λxs H Q=>r xs H Q\/r' xs H Q):=by
 intro pins s Y H xs us Q I b q;rcases q with q|q
 .exact h pins s Y H xs us Q I b q
 .exact h' pins s Y H xs us Q I b q
noncomputable def dJ(f g:A->A->Option Rr):A->A->Option Rr:=λa b=>match f a b with
 |some r=>some r
 |none=>g a b
theorem gA.or{f g:A->A->Option Rr}(h:gA K r f)(h':gA K r' g):gA K (λx y H Q=>r x y H Q\/r' x y H Q) (dJ f g):=by
 intro c Y H Z B θ x y v w a b q Q F s m o e1 e2 e3 k;unfold dJ at e3;cases e:f a b with
 |some z=>simp only[e] at e3;cases e3;exact .inl (h c Y H Z B θ x y v w a b _ Q F s m o e1 e2 e k)
 |none=>simp only[e] at e3;exact .inr (h' c Y H Z B θ x y v w a b _ Q F s m o e1 e2 e3 k)
theorem Mt{f g:A->A->Option Rr}(h:il (kx X) E (az (dJ f g) ma mb) Y H Q):il (kx X) E (az f ma mb) Y H Q\/il (kx X) E (az g ma mb) Y H Q:=by
 obtain⟨c,Z,B,θ,o,O,F,b,em,q⟩:=h;have v:az f ma mb Z=some (o,O)\/az g ma mb Z=some (o,O):=by
  unfold az aF at em ⊢;cases e1:ma Z with
  |none=>simp only[e1] at em;cases em
  |some p=>
   obtain⟨x,U⟩:=p;cases x with
   |error e=>simp only[e1] at em ⊢;exact .inl em
   |ok x=>
    simp only[e1] at em ⊢;cases e2:mb U with
    |none=>simp only[e2] at em;cases em
    |some p=>
     obtain⟨y,Z'⟩:=p;cases y with
     |error e=>simp only[e2] at em ⊢;exact .inl em
     |ok y=>
      simp only[e2] at em ⊢;cases e3:res Z' x with
      |none=>simp only[e3] at em;cases em
      |some a=>
       cases e4:res Z' y with
       |none=>simp only[e3,e4] at em;cases em
       |some d=>
        simp only[e3,e4] at em ⊢;unfold dJ at em;cases e5:f a d with
        |some z=>simp only[e5] at em ⊢;exact .inl em
        |none=>simp only[e5] at em;exact .inr em
 exact v.imp (λk=>⟨c,Z,B,θ,o,O,F,b,k,q⟩) (λk=>⟨c,Z,B,θ,o,O,F,b,k,q⟩)
theorem f9{f g:A->A->Option Rr}(h:JE X E e (az f ma mb))(h':JE X E e (az g ma mb)):JE X E e (az (dJ f g) ma mb):=
 ⟨λpins s Y H Q I q=>(Mt q).elim (λq=>h.p pins s Y H Q I q) (λq=>h'.p pins s Y H Q I q)⟩
theorem CI{f g:A->A->Option Rr}{Q:Bool->Hp->Prop}(h:wW (kx X) E (ao (az (dJ f g) ma mb)) Y H Q):wW (kx X) E (ao (az f ma mb)) Y H Q\/wW (kx X) E (ao (az g ma mb)) Y H Q:=by
 obtain⟨c,Z,B,θ,o,O,F,b,em,q⟩:=h;have v:ao (az f ma mb) Z=some (o,O)\/ao (az g ma mb) Z=some (o,O):=by
  unfold ao az aF at em ⊢;cases e1:ma Z with
  |none=>simp only[e1] at em;cases em
  |some p=>
   obtain⟨x,U⟩:=p;cases x with
   |error e=>simp only[e1] at em ⊢;exact .inl em
   |ok x=>
    simp only[e1] at em ⊢;cases e2:mb U with
    |none=>simp only[e2] at em;cases em
    |some p=>
     obtain⟨y,Z'⟩:=p;cases y with
     |error e=>simp only[e2] at em ⊢;exact .inl em
     |ok y=>
      simp only[e2] at em ⊢;cases e3:res Z' x with
      |none=>simp only[e3] at em;cases em
      |some a=>
       cases e4:res Z' y with
       |none=>simp only[e3,e4] at em;cases em
       |some d=>
        simp only[e3,e4] at em ⊢;unfold dJ at em;cases e5:f a d with
        |some z=>simp only[e5] at em ⊢;exact .inl em
        |none=>simp only[e5] at em;exact .inr em
 exact v.imp (λk=>⟨c,Z,B,θ,o,O,F,b,k,q⟩) (λk=>⟨c,Z,B,θ,o,O,F,b,k,q⟩)
theorem jx{f g:A->A->Option Rr}(h:JT X E e (ao (az f ma mb)))(h':JT X E e (ao (az g ma mb))):JT X E e (ao (az (dJ f g) ma mb)):=
 ⟨λpins s Y H Q I q=>(CI q).elim (λq=>h.p pins s Y H Q I q) (λq=>h'.p pins s Y H Q I q)⟩
theorem gA.scalar{f:A->A->Option Rr}(h:∀H v w a b q,RA K H v a->RA K H w b->f a b=some q->∃u d,q=.fr d/\(∀G,RA K G u d)/\∀Q:VK,Q u H->r v w H Q):gA K r f:=by intro c Y H Z B θ x y v w a b q Q F s m o e1 e2 e3 k;have n:=Bd.rd o m e2;have i:=Bd.rd o.drop s e1;rw[F] at i n;obtain⟨u,d,rfl,R,j⟩:=h H v w a b q i n e3;exact j Q (k u H trivial (Bd.push o.drop.drop (by rw[F];exact R)))
noncomputable def fits(n:Nat)(i:Int):Bool:=decide (i.natAbs<2^n)
theorem sE{n:Nat}{i:Int}(h:fits n i=true):L2.Bd n i:=show i.natAbs<2^n from of_decide_eq_true h
theorem fI{n m:Nat}{i:Int}(h:L2.Bd m i)(k:m<=n):fits n i=true:=decide_eq_true (show i.natAbs<2^n from h.mono k)
noncomputable def nD(f:Int->Int->Option Rr):A->A->Option Rr
 | .int i,.int j=>f i j
 |_,_=>none
theorem bY{f:Int->Int->Option Rr}{a b:A}(h:nD f a b=some q):∃i j,a=.int i/\b=.int j/\f i j=some q:=by
 unfold nD at h;split at h
 .exact⟨_,_,rfl,rfl,h⟩
 .cases h
noncomputable def R7(f:Str->Str->Option Rr):A->A->Option Rr
 | .str i,.str j=>f i j
 |_,_=>none
theorem B4{f:Str->Str->Option Rr}{a b:A}(h:R7 f a b=some q):∃i j,a=.str i/\b=.str j/\f i j=some q:=by
 unfold R7 at h;split at h
 .exact⟨_,_,rfl,rfl,h⟩
 .cases h
def wV:A->A->Option Rr:=nD λi j=>some (.fr (.int (i+j)))
def fD:A->A->Option Rr:=nD λi j=>some (.fr (.int (i-j)))
def uJ:A->A->Option Rr:=nD λi j=>if fits 20000 i&&fits 20000 j then some (.fr (.int (i*j))) else none
def j9:A->A->Option Rr:=nD λi j=>if j != 0&&fits 9000 j then some (.fr (.int (i.fdiv j))) else none
def iq:A->A->Option Rr:=nD λi j=>if j != 0 then some (.fr (.int (i.fmod j))) else none
def gX:A->A->Option Rr:=nD λi j=>if 0<=j/\j<=1000000/\i.natAbs<2^64 then some (.fr (.int (i^j.toNat))) else none
def u0:A->A->Option Rr:=nD λi j=>some (.fr (.bl (decide (i<j))))
def RN:A->A->Option Rr:=nD λi j=>some (.fr (.bl (decide (i<=j))))
def G8:A->A->Option Rr:=nD λi j=>some (.fr (.bl (decide (j<i))))
def NX:A->A->Option Rr:=nD λi j=>some (.fr (.bl (decide (j<=i))))
theorem Fj:gA K (sI λi j=>.int (i+j)) wV:=.scalar λH v w a b q C n h=>by
 replace h:=bY h
 obtain⟨i,j,rfl,rfl,h⟩:=h
 cases C;cases n;cases h
 exact⟨_,_,rfl,λ_=>.int _,λQ k=>⟨_,_,rfl,rfl,k⟩⟩
theorem Mq:gA K (sI λi j=>.int (i-j)) fD:=.scalar λH v w a b q C n h=>by
 replace h:=bY h
 obtain⟨i,j,rfl,rfl,h⟩:=h
 cases C;cases n;cases h
 exact⟨_,_,rfl,λ_=>.int _,λQ k=>⟨_,_,rfl,rfl,k⟩⟩
theorem Ga:gA K (rI IntMulOk λi j=>.int (i*j)) uJ:=.scalar λH v w a b q C n h=>by
 replace h:=bY h
 obtain⟨i,j,rfl,rfl,h⟩:=h
 cases C;cases n
 split at h
 .rename_i hc
  rw[UO] at hc
  cases h
  exact⟨_,_,rfl,λ_=>.int _,λQ k=>⟨_,_,rfl,rfl,(sE hc.1).Ra (sE hc.2) (by decide),k⟩⟩
 .cases h
theorem J5:gA K (rI Ud λi j=>.int (i.fdiv j)) j9:=.scalar λH v w a b q C n h=>by
 replace h:=bY h
 obtain⟨i,j,rfl,rfl,h⟩:=h
 cases C;cases n
 split at h
 .rename_i hc
  rw[UO] at hc
  cases h
  exact⟨_,_,rfl,λ_=>.int _,λQ k=>⟨_,_,rfl,rfl,⟨by simpa using hc.1,sE hc.2⟩,k⟩⟩
 .cases h
theorem NS:gA K (rI (λ_ j=>j≠0) λi j=>.int (i.fmod j)) iq:=.scalar λH v w a b q C n h=>by
 replace h:=bY h
 obtain⟨i,j,rfl,rfl,h⟩:=h
 cases C;cases n
 split at h
 .rename_i hc
  cases h
  exact⟨_,_,rfl,λ_=>.int _,λQ k=>⟨_,_,rfl,rfl,by simpa using hc,k⟩⟩
 .cases h
theorem Ma:gA K (rI Ql λi j=>.int (i^j.toNat)) gX:=.scalar λH v w a b q C n h=>by
 replace h:=bY h
 obtain⟨i,j,rfl,rfl,h⟩:=h
 cases C;cases n
 split at h
 .rename_i hc
  cases h
  exact⟨_,_,rfl,λ_=>.int _,λQ k=>⟨_,_,rfl,rfl,hc,k⟩⟩
 .cases h
theorem IM:gA K (sI λi j=>.bl (decide (i<j))) u0:=.scalar λH v w a b q C n h=>by
 replace h:=bY h
 obtain⟨i,j,rfl,rfl,h⟩:=h
 cases C;cases n;cases h
 exact⟨_,_,rfl,λ_=>.bl _,λQ k=>⟨_,_,rfl,rfl,k⟩⟩
theorem Jm:gA K (sI λi j=>.bl (decide (i<=j))) RN:=.scalar λH v w a b q C n h=>by
 replace h:=bY h
 obtain⟨i,j,rfl,rfl,h⟩:=h
 cases C;cases n;cases h
 exact⟨_,_,rfl,λ_=>.bl _,λQ k=>⟨_,_,rfl,rfl,k⟩⟩
theorem Js:gA K (sI λi j=>.bl (decide (j<i))) G8:=.scalar λH v w a b q C n h=>by
 replace h:=bY h
 obtain⟨i,j,rfl,rfl,h⟩:=h
 cases C;cases n;cases h
 exact⟨_,_,rfl,λ_=>.bl _,λQ k=>⟨_,_,rfl,rfl,k⟩⟩
theorem JH:gA K (sI λi j=>.bl (decide (j<=i))) NX:=.scalar λH v w a b q C n h=>by
 replace h:=bY h
 obtain⟨i,j,rfl,rfl,h⟩:=h
 cases C;cases n;cases h
 exact⟨_,_,rfl,λ_=>.bl _,λQ k=>⟨_,_,rfl,rfl,k⟩⟩
mutual
noncomputable def toD:A->Option D
 | .non=>some .non
 | .bl b=>some (.bl b)
 | .int i=>some (.int i)
 | .str x=>some (.str x)
 | .tup xs=>match gC xs with
  |some ds=>some (.tup ds)
  |none=>none
 | .lst xs=>match gC xs with
  |some ds=>some (.lst ds)
  |none=>none
 | .aP _=>none
 | .exc _=>none
 | .obj _ _=>none
noncomputable def gC:List A->Option (List D)
 |[]=>some []
 |a::as=>match toD a,gC as with
  |some d,some ds=>some (d::ds)
  |_,_=>none
end
mutual
theorem jZ{K:Kx}{H:Hp}:∀{v:V}{a:A}{d:D},RA K H v a->toD a=some d->Den K.K H v d
 |_,_,_,.non,h=>by rw[toD] at h;cases h;exact .non
 |_,_,_,.bl b,h=>by rw[toD] at h;cases h;exact .bl _
 |_,_,_,.int i,h=>by rw[toD] at h;cases h;exact .int _
 |_,_,_,.str x,h=>by rw[toD] at h;cases h;exact .str _
 |_,_,_,.tup (as:=as) e r,h=>by
  rw[toD] at h;cases q:gC as with
  |none=>simp only[q] at h;cases h
  |some ds=>simp only[q] at h;cases h;exact .tup e (qV r q)
 |_,_,_,.lst (as:=as) e r,h=>by
  rw[toD] at h;cases q:gC as with
  |none=>simp only[q] at h;cases h
  |some ds=>simp only[q] at h;cases h;exact .lst e (qV r q)
 |_,_,_,.aP e r,h=>by rw[toD] at h;cases h
 |_,_,_,.exc e m,h=>by rw[toD] at h;cases h
 |_,_,_,.obj e m r,h=>by rw[toD] at h;cases h
theorem qV{K:Kx}{H:Hp}:∀{vs:List V}{as:List A}{ds:List D},bx K H vs as->gC as=some ds->gh K.K H vs ds
 |_,_,_,.nil,h=>by rw[gC] at h;cases h;exact .nil
 |_,_,_,.cons (a:=a) (as:=as) q r,h=>by
  rw[gC] at h;cases e1:toD a with
  |none=>simp only[e1] at h;cases h
  |some d=>
   cases e2:gC as with
   |none=>simp only[e1,e2] at h;cases h
   |some ds=>simp only[e1,e2] at h;cases h;exact .cons (jZ q e1) (qV r e2)
end
def pz(a b:A):Option Bool:=match toD a,toD b with
 |some d,some e=>if D.depth d<=40 then some (D.eq d e) else none
 |_,_=>none
def dP(a b:A):Option Rr:=match pz a b with
 |some k=>some (.fr (.bl k))
 |none=>none
def iy(a b:A):Option Rr:=match pz a b with
 |some k=>some (.fr (.bl (!k)))
 |none=>none
theorem n9{a b:A}{k:Bool}(h:pz a b=some k):∃d e,toD a=some d/\toD b=some e/\D.depth d<=40/\k=D.eq d e:=by
 unfold pz at h;cases e1:toD a with
 |none=>simp only[e1] at h;cases h
 |some d=>
  cases e2:toD b with
  |none=>simp only[e1,e2] at h;cases h
  |some e=>
   simp only[e1,e2] at h;split at h
   .rename_i hd;cases h;exact⟨d,e,rfl,rfl,hd,rfl⟩
   .cases h
theorem os_eq:gA K (Ph K.K) dP:=.scalar λH v w a b q i n h=>by
 unfold dP at h;cases e:pz a b with
 |none=>simp only[e] at h;cases h
 |some k=>simp only[e] at h;cases h;obtain⟨d,d',h1,h2,h3,rfl⟩:=n9 e;exact⟨_,_,rfl,λ_=>.bl _,λQ k=>⟨d,d',jZ i h1,jZ n h2,h3,k⟩⟩
theorem yy:gA K (O9 K.K) iy:=.scalar λH v w a b q i n h=>by
 unfold iy at h;cases e:pz a b with
 |none=>simp only[e] at h;cases h
 |some k=>simp only[e] at h;cases h;obtain⟨d,d',h1,h2,h3,rfl⟩:=n9 e;exact⟨_,_,rfl,λ_=>.bl _,λQ k=>⟨d,d',jZ i h1,jZ n h2,h3,k⟩⟩
def xt:A->A->Option Rr:=R7 λx y=>if x.length+y.length<=100000 then some (.fr (.str (x++y))) else none
theorem jK:100000<=sizeLine:=by rw[sizeLine_eq];decide
theorem Fy:gA K (λx y H Q=>∃i j,x=.str i/\y=.str j/\i.length+j.length<=sizeLine/\Q (.str (i++j)) H) xt:=.scalar λH v w a b q C n h=>by
 replace h:=B4 h
 obtain⟨i,j,rfl,rfl,h⟩:=h
 cases C;cases n
 split at h
 .rename_i hc
  cases h
  exact⟨_,_,rfl,λ_=>.str _,λQ k=>⟨_,_,rfl,rfl,Vg hc jK,k⟩⟩
 .cases h
noncomputable def II:R2:=λx y H Q=>∃z n,x=.str z/\y=.int n/\MulOk z n/\Q (.str (Txt.mul z n)) H
theorem HZ:eu X (binaryOp .Mult) II:=by intro pins s Y H x y v u Q I b U h;obtain⟨z,n,rfl,rfl,hok,q⟩:=h;obtain⟨t,rfl⟩:=b;obtain⟨t',rfl⟩:=U;exact SB.mul hok λZ k=>⟨.str _,H,I.tok _,⟨Z,rfl⟩,q⟩
noncomputable def xK:A->A->Option Rr
 | .str z,.int n=>if 1<=n/\n<=1000/\z.length<=1000 then some (.fr (.str (Txt.mul z n))) else none
 |_,_=>none
theorem FH:gA K II xK:=.scalar λH v w a b q i p h=>by
 cases a<;>first|(cases h;done)|(cases b<;>first|(cases h;done)|skip)
 cases i;cases p;rename_i z n;unfold xK at h;simp only at h;split at h
 .rename_i hc;cases h;refine⟨_,_,rfl,λ_=>.str _,λQ k=>⟨_,_,rfl,rfl,⟨?_,λ_ _ Y=>?_,λ_ _=>?_⟩,k⟩⟩
  .rw[Bool.or_eq_false_iff];exact⟨decide_eq_false (by omega),decide_eq_false (by omega)⟩
  .have h1:n*(z.length:Int)<=1000*1000:=Int.mul_le_mul hc.2.1 (by omega) (by omega) (by decide);have h2:(z.length:Int)<=(2^63-1) / n:=by rw[Int.le_ediv_iff_mul_le (by omega)];rw[Yn];omega
   omega
  .unfold Xy;refine decide_eq_false ?_;have h1:z.length*n.toNat<=1000*1000:=Nat.mul_le_mul hc.2.2 (by omega);have:=sizeLine_eq;omega
 .cases h
noncomputable def tF:A->A->Option Rr
 | .tup xs,.tup ys=>if xs.length+ys.length<=100000 then some (.fr (.tup (xs++ys))) else none
 |_,_=>none
def IV(K:UN):R2:=λx y H Q=>∃a b xs ys,x=.ref a/\y=.ref b/\iu K H a xs/\iu K H b ys/\xs.length+ys.length<=sizeLine/\(xs=[]->Q (.ref b) H)/\(xs≠[]->ys=[]->Q (.ref a) H) /\
 (xs≠[]->ys≠[]->∀p,H p=none->Q (.ref p) (upd H p (.tup (xs++ys))))
theorem Il:eu X (binaryOp .Add) (IV X.K):=by
 intro pins s Y H x y v u Q I w z h;obtain⟨a,b,xs,ys,rfl,rfl,ha,d,hz,r,E,O⟩:=h;by_cases k:xs=[]
 .subst k;cases w;cases z;obtain⟨its,i,J,_⟩:=I.tuple ha;obtain⟨S,n,T,_⟩:=I.tuple d;cases i;obtain⟨⟨R,t,U,B⟩,e1,Z,N,o⟩:=id J;obtain⟨⟨c2,D,l,C⟩,e2,p,q,V⟩:=id T;simp only at Z o p V;subst Z o p V;exact concat_meets ⟨_,e1,rfl⟩ ⟨_,e2,rfl⟩ noFill_tuple_add seq_tuple_add Xm Xe (W8 _ _) (PyProof.Rows.tuple_addW0 a b _ _ N q t D B C rfl) ⟨e1,e2,.ref b,H,I,rfl,r rfl⟩
 .exact G7 pins s Y H (.ref a) (.ref b) v u Q I w z ⟨a,b,xs,ys,rfl,rfl,ha,d,k,hz,E k,O k⟩
theorem EV:gA K (IV K.K) tF:=by
 intro c Y H Z B θ x y v w a b q Q F A m E e1 e2 e3 k;cases a<;>first|(cases e3;done)|(cases b<;>first|(cases e3;done)|skip)
 rename_i xs ys;unfold tF at e3;simp only at e3;split at e3
 .rename_i hc;cases e3;obtain⟨L,bl,s,X⟩:=Bd.tS E A m e1 e2;obtain⟨J,h,rfl,s1,i⟩:=s.2.1 xs rfl;obtain⟨S,r,rfl,s2,n⟩:=X.2.1 ys rfl;have O:=i.len;have C:=n.len;subst F;refine⟨J,S,h,r,rfl,rfl,cT (g_same _ _ _) s1,cT (g_same _ _ _) s2,by have:=jK;omega,λz=>?_,λ_ z=>?_,λ_ _ p hp=>?_⟩
  .subst z;have:xs=[]:=Yw (by rw[<-O];rfl);subst this;exact k _ H trivial (bl.push (.tup s2 n))
  .subst z;have:ys=[]:=Yw (by rw[<-C];rfl);subst this;rw[Vz] at k;exact k _ H trivial (bl.push (.tup s1 i))
  .obtain⟨b2,sm,np⟩:=bl.new (o:=.tup (h++r)) hp;exact k _ _ trivial (b2.push (.tup (.inl (.inl (by rw[bz np (bl.Pl hp)];exact aI))) ((i.app n).sm sm)))
 .cases e3
end
variable{w:V}{id:String}
section
variable{X:Cx}{E:XK}
def vG:A->A->Option Rr
 | .lst xs,.int i=>match j3 xs i with
  |some a=>some (.fr a)
  |none=>none
 | .tup xs,.int i=>match j3 xs i with
  |some a=>some (.fr a)
  |none=>none
 | .str z,.int i=>if z.length<=100000 then match j3 z.cps.toList i with
  |some c=>some (.fr (.str ⟨#[c]⟩))
  |none=>none else none
 |_,_=>none
theorem bx.j3{k:Kx}{G:Hp}{vs:List V}{as:List A}{i:Int}{a:A}(r:bx k G vs as)(h:j3 as i=some a):∃v,j3 vs i=some v/\RA k G v a:=by
 unfold L2.j3 at h ⊢;rw[r.len];cases e:uP as.length i with
 |none=>rw[e] at h;cases h
 |some j=>rw[e] at h;obtain⟨v,h1,h2⟩:=r.ta h;exact⟨v,h1,h2⟩
theorem Pp:gA K (TF K.K) vG:=by
 intro c Y H Z B θ x y v w a b q Q F A m o e1 e2 e3 k;subst F;have n:=Bd.rd o m e2;obtain⟨L,bl,s,X⟩:=Bd.tS o A m e1 e2;have C:=Bd.rd o.drop A e1;cases a<;>first|(cases e3;done)|(cases b<;>first|(cases e3;done)|skip)
 .rename_i z i;cases C;cases n;unfold vG at e3;simp only at e3;split at e3
  .rename_i hz;cases e:j3 z.cps.toList i with
   |none=>simp only[e] at e3;cases e3
   |some ch=>simp only[e] at e3;cases e3;exact .inr (.inr ⟨z,i,ch,rfl,rfl,Vg hz jK,e,k _ H trivial (Bd.push ⟨L,bl⟩ λ_=>.str _)⟩)
  .cases e3
 .rename_i xs i;cases n;unfold vG at e3;simp only at e3;cases e:j3 xs i with
  |none=>simp only[e] at e3;cases e3
  |some d=>simp only[e] at e3;cases e3;obtain⟨p,vs,rfl,s1,h⟩:=s.2.1 xs rfl;obtain⟨u,h1,h2⟩:=h.j3 e;exact .inr (.inl ⟨p,vs,i,u,rfl,rfl,cT (g_same _ _ _) s1,h1,k u H trivial (bl.push h2)⟩)
 .rename_i xs i;cases n;unfold vG at e3;simp only at e3;cases e:j3 xs i with
  |none=>simp only[e] at e3;cases e3
  |some d=>simp only[e] at e3;cases e3;obtain⟨p,vs,rfl,s1,h⟩:=s.1 xs rfl;obtain⟨u,h1,h2⟩:=h.j3 e;exact .inl ⟨p,vs,i,u,rfl,rfl,s1,h1,k u H trivial (bl.push h2)⟩
theorem KQ{a:Expr}(ha:JE X E a ma)(d:JE X E b mb)(P:mM b):JE X E (.Subscript a b pos) (az vG ma mb):=
 ⟨PE.weaken (O8 Nv ha.p d.p P) (dM Pp)⟩
noncomputable def gB:A->Option Key
 | .int i=>some (.inl i)
 | .str x=>some (.inr x)
 |_=>none
theorem jf{b:A}{y:Key}(r:RA K H w b)(h:gB b=some y):w=kV y:=by cases r<;>first|(cases h;rfl)|(cases h;done)
def iC:A->A->Option Rr
 | .aP kvs,b=>match gB b with
  |some y=>match gp kvs y with
   |some a=>some (.fr a)
   |none=>none
  |none=>none
 |_,_=>none
theorem HN:gA K (λx y H Q=>∃a v,x=.ref a/\iF H a y (some v)/\Q v H) iC:=by
 intro c Y H Z B θ x y v w a b q Q F A m o e1 e2 e3 k;subst F;have n:=Bd.rd o m e2;obtain⟨L,bl,s,X⟩:=Bd.tS o A m e1 e2;cases a<;>first|(cases e3;done)|skip
 rename_i kvs;unfold iC at e3;simp only at e3;cases h:gB b with
 |none=>simp only[h] at e3;cases e3
 |some r=>
  simp only[h] at e3;obtain⟨p,vs,rfl,s1,z⟩:=s.2.2 kvs rfl;rcases z.get r with ⟨u,a,h1,h2,h3⟩|⟨h1,h2⟩
  .simp only[h2] at e3;cases e3;exact⟨p,u,rfl,.inl ⟨vs,r,s1,jf n h,h1.symm⟩,k u H trivial (bl.push h3)⟩
  .simp only[h2] at e3;cases e3
theorem HM{a:Expr}(f:X.A.units+1<cLine)(ha:JE X E a ma)(d:JE X E b mb)(P:Bs b):JE X E (.Subscript a b pos) (az iC ma mb):=
 ⟨PE.weaken (HH f ha.p d.p P) (dM (r:=λx y H Q=>∃a v,x=.ref a/\iF H a y (some v)/\Q v H) HN)⟩
theorem Pc{a:Expr}(f:X.A.units+1<cLine)(ha:JE X E a ma)(d:JE X E b mb)(P:mM b)(w:Bs b):JE X E (.Subscript a b pos) (az (dJ vG iC) ma mb):=f9 (KQ ha d P) (HM f ha d w)
noncomputable def lX:A->Bool
 | .non=>true
 | .bl _=>true
 | .int _=>true
 | .str _=>true
 |_=>false
noncomputable def mG:A->V
 | .non=>.non
 | .bl b=>.bl b
 | .int i=>.int i
 | .str x=>.str x
 |_=>.non
theorem DD{b:A}(r:RA K H w b)(h:lX b=true):w=mG b/\iT w=true:=by cases r<;>first|exact⟨rfl,rfl⟩|(cases h;done)
theorem yO{K:Kx}{H:Hp}:∀{vs:List V}{as:List A},bx K H vs as->as.all lX=true->vs=as.map mG/\vs.all iT=true
 |_,_,.nil,_=>⟨rfl,rfl⟩
 |_,_,.cons h r,e=>by rw[Vp,UO] at e;obtain⟨h1,h2⟩:=DD h e.1;obtain⟨h3,h4⟩:=yO r e.2;exact⟨by rw[h1,h3];rfl,by rw[Vp,h2,h4];rfl⟩
def Jt(neg:Bool)(x:A)(xs:List A):Option Rr:=if lX x&&xs.all lX then some (.fr (.bl (if neg then !JQ (mG x) (xs.map mG) else JQ (mG x) (xs.map mG)))) else none
def jF(neg:Bool):A->A->Option Rr
 |x,.lst xs=>Jt neg x xs
 |x,.tup xs=>Jt neg x xs
 |_,_=>none
theorem rq{neg:Bool}:gA K (RW K.K neg) (jF neg):=.scalar λH v w a b q i n h=>by
 have Z:∀(xs:List A)(vs:List V)(p:Addr),bx K H vs xs->(g9 K.K H p vs\/iu K.K H p vs)->Jt neg a xs=some q->∃u d,q=.fr d/\(∀G,RA K G u d)/\∀Q:VK,Q u H->RW K.K neg v (.ref p) H Q:=by
  intro xs vs p z sq h;unfold Jt at h;split at h
  .rename_i hc;rw[UO] at hc;cases h;obtain⟨rfl,h2⟩:=DD i hc.1;obtain⟨rfl,h4⟩:=yO z hc.2;exact⟨_,_,rfl,λ_=>.bl _,λQ k=>⟨p,_,rfl,sq,h2,h4,k⟩⟩
  .cases h
 cases b<;>first|(cases h;done)|skip
 .cases n with|tup e r=>exact Z _ _ _ r (.inr e) h
 .cases n with|lst e r=>exact Z _ _ _ r (.inl e) h
def gE(neg:Bool):A->A->Option Rr
 |x,.aP kvs=>match gB x with
  |some y=>some (.fr (.bl (if neg then !(gp kvs y).isSome else (gp kvs y).isSome)))
  |none=>none
 |_,_=>none
theorem AW:gA K (λy x H Q=>∃a o,x=.ref a/\iF H a y o/\Q (.bl o.isSome) H) (gE false):=.scalar λH v w a b q i n h=>by
 cases b<;>first|(cases h;done)|skip
 cases n with
 |aP e r=>
  unfold gE at h;simp only at h;cases Y:gB a with
  |none=>simp only[Y] at h;cases h
  |some y=>
   simp only[Y] at h;cases h;refine⟨_,_,rfl,λ_=>.bl _,λQ k=>⟨_,_,rfl,.inl ⟨_,y,e,jf i Y,rfl⟩,?_⟩⟩;rcases r.get y with ⟨u,a,h1,h2,h3⟩|⟨h1,h2⟩
   .rw[h1];rw[h2] at k;exact k
   .rw[h1];rw[h2] at k;exact k
theorem xZ:gA K (λy x H Q=>∃a o,x=.ref a/\iF H a y o/\Q (.bl (!o.isSome)) H) (gE true):=.scalar λH v w a b q i n h=>by
 cases b<;>first|(cases h;done)|skip
 cases n with
 |aP e r=>
  unfold gE at h;simp only at h;cases Y:gB a with
  |none=>simp only[Y] at h;cases h
  |some y=>
   simp only[Y] at h;cases h;refine⟨_,_,rfl,λ_=>.bl _,λQ k=>⟨_,_,rfl,.inl ⟨_,y,e,jf i Y,rfl⟩,?_⟩⟩;rcases r.get y with ⟨u,a,h1,h2,h3⟩|⟨h1,h2⟩
   .rw[h1];rw[h2] at k;exact k
   .rw[h1];rw[h2] at k;exact k
theorem K1{a:Expr}(f:X.A.units+1<cLine)(ha:JE X E a ma)(d:JE X E b mb)(hm:behindInMarks .In b=false):JE X E (.Compare a [.In] [b] pos) (az (gE false) ma mb):=
 ⟨PE.weaken (CH (C8 f ha.p d.p) hm) (dM (r:=λy x H Q=>∃a o,x=.ref a/\iF H a y o/\Q (.bl o.isSome) H) AW)⟩
theorem LA{a:Expr}(f:X.A.units+1<cLine)(ha:JE X E a ma)(d:JE X E b mb)(hm:behindInMarks .In b=false):JT X E (.Compare a [.In] [b] pos) (ao (az (gE false) ma mb)):=
 ⟨PT.weaken (Cb (C8 f ha.p d.p) hm) λY H Q h=>dM (r:=λy x H Q=>∃a o,x=.ref a/\iF H a y o/\Q (.bl o.isSome) H) AW Y H _ (eV Y H Q h)⟩
theorem Gv{a:Expr}(f:X.A.units+1<cLine)(ha:JE X E a ma)(d:JE X E b mb)(hm:behindInMarks .NotIn b=false):JE X E (.Compare a [.NotIn] [b] pos) (az (gE true) ma mb):=
 ⟨PE.weaken (CH (qp f ha.p d.p) hm) (dM (r:=λy x H Q=>∃a o,x=.ref a/\iF H a y o/\Q (.bl (!o.isSome)) H) xZ)⟩
theorem Ip{a:Expr}(f:X.A.units+1<cLine)(ha:JE X E a ma)(d:JE X E b mb)(hm:behindInMarks .NotIn b=false):JT X E (.Compare a [.NotIn] [b] pos) (ao (az (gE true) ma mb)):=
 ⟨PT.weaken (Cb (qp f ha.p d.p) hm) λY H Q h=>dM (r:=λy x H Q=>∃a o,x=.ref a/\iF H a y o/\Q (.bl (!o.isSome)) H) xZ Y H _ (eV Y H Q h)⟩
theorem Rb{a:Expr}(f:X.A.units+1<cLine)(ha:JE X E a ma)(d:JE X E b mb)(hm:behindInMarks .In b=false):JE X E (.Compare a [.In] [b] pos) (az (dJ (jF false) (gE false)) ma mb):=f9 (dD qo rq ha d hm) (K1 f ha d hm)
theorem Po{a:Expr}(f:X.A.units+1<cLine)(ha:JE X E a ma)(d:JE X E b mb)(hm:behindInMarks .In b=false):JT X E (.Compare a [.In] [b] pos) (ao (az (dJ (jF false) (gE false)) ma mb)):=jx (dC qo rq ha d hm) (LA f ha d hm)
theorem Nc{a:Expr}(f:X.A.units+1<cLine)(ha:JE X E a ma)(d:JE X E b mb)(hm:behindInMarks .NotIn b=false):JE X E (.Compare a [.NotIn] [b] pos) (az (dJ (jF true) (gE true)) ma mb):=f9 (dD k8 rq ha d hm) (Gv f ha d hm)
theorem MT{a:Expr}(f:X.A.units+1<cLine)(ha:JE X E a ma)(d:JE X E b mb)(hm:behindInMarks .NotIn b=false):JT X E (.Compare a [.NotIn] [b] pos) (ao (az (dJ (jF true) (gE true)) ma mb)):=jx (dC k8 rq ha d hm) (Ip f ha d hm)
noncomputable def vC:A->Bool
 | .non=>true
 |_=>false
def EJ(neg:Bool):A->A->Option Rr
 |a,.non=>some (.fr (.bl (if neg then !vC a else vC a)))
 |_,_=>none
theorem xY{a:A}(r:RA K H v a):decide (v=.non)=vC a:=by cases r<;>rfl
theorem Jf:gA K (λx y H Q=>y=.non/\Q (.bl (decide (x=.non))) H) (EJ false):=.scalar λH v w a b q i n h=>by
 cases b<;>first|(cases h;done)|skip
 cases n;cases h;exact⟨_,_,rfl,λ_=>.bl _,λQ k=>⟨rfl,by rw[xY i];exact k⟩⟩
theorem xl:gA K (λx y H Q=>y=.non/\Q (.bl (!decide (x=.non))) H) (EJ true):=.scalar λH v w a b q i n h=>by
 cases b<;>first|(cases h;done)|skip
 cases n;cases h;exact⟨_,_,rfl,λ_=>.bl _,λQ k=>⟨rfl,by rw[xY i];exact k⟩⟩
def j4(f:A->Option Rr)(m:Mi Rr):Mi Rr:=aF m λx Z=>match res Z x with
 |some a=>match f a with
  |some r=>some (.ok r,Z)
  |none=>none
 |none=>none
def lq(K:Kx)(r:V->Hp->VK->Prop)(f:A->Option Rr):Prop:=∀(c:Cn)(Y:St)(H:Hp)(Z:List Sl)(B:St)(θ:List Sl)(x:Rr)(v:V)(a:A)(q:Rr)(Q:VK),c.toKx=K->VR Y x v->
 Bd c Y H Z (bH x v B) (bG x θ)->res Z x=some a->f a=some q->(∀u H',VR Y q u->Bd c Y H' Z (bH q u B) (bG q θ)->Q u H')->r v H Q
theorem sC{f:A->Option Rr}{x:Rr}{o:Except Str Rr}(h:(match res Z x with|some a=>(match f a with|some r=>some ((.ok r:Except Str Rr),Z)|none=>none)|none=>none)=some (o,O)):∃a r,res Z x=some a/\f a=some r/\o=.ok r/\O=Z:=by
 cases e1:res Z x with
 |none=>simp only[e1] at h;cases h
 |some a=>
  simp only[e1] at h;cases e3:f a with
  |none=>simp only[e3] at h;cases h
  |some r=>simp only[e3] at h;cases h;exact⟨a,r,rfl,e3,rfl,rfl⟩
theorem gZ{r:V->Hp->VK->Prop}{f:A->Option Rr}(hf:lq (kx X) r f)(Y:St)(H:Hp)(Q:VK)(h:il (kx X) E (j4 f m) Y H Q):il (kx X) E m Y H λv H'=>r v H' Q:=by obtain⟨c,Z,B,θ,o,O,F,b,em,q⟩:=h;refine aR F b em (λx v U e s b1 u=>?_) (aQ q);obtain⟨a,r,e1,e3,rfl,rfl⟩:=sC u;exact hf c Y e _ B θ x v a r Q F s b1 e1 e3 q
theorem lq.scalar{r:V->Hp->VK->Prop}{f:A->Option Rr}(h:∀H v a q,RA K H v a->f a=some q->∃u d,q=.fr d/\(∀G,RA K G u d)/\∀Q:VK,Q u H->r v H Q):lq K r f:=by intro c Y H Z B θ x v a q Q F s o e1 e3 k;have i:=Bd.rd o s e1;rw[F] at i;obtain⟨u,d,rfl,R,j⟩:=h H v a q i e3;exact j Q (k u H trivial (Bd.push o.drop (by rw[F];exact R)))
noncomputable def BG:A->Option Rr
 | .int i=>some (.fr (.int (-i)))
 |_=>none
theorem Lm{a:Expr}(h:JE X E a m):JE X E (.UnaryOp .USub a pos) (j4 BG m):=⟨PE.weaken (OA MD h.p) (gZ (.scalar λH v a q i h=>by
 cases a<;>first|(cases h;done)|skip
 cases i;cases h;exact⟨_,_,rfl,λ_=>.int _,λQ k=>⟨_,rfl,k⟩⟩))⟩
def dg(f:A->Option Rr)(m:Mi Rr):Mi Rr:=j4 f m
def EE(f:A->A->Option Rr)(m n:Mi Rr):Mi Rr:=az f m n
theorem uI{r:List V->Hp->VK->Prop}{f:A->Option Rr}{p:Pos}(hc:bF X (.builtin id) r)(hf:lq (kx X) (λv=>r [v]) f)(hg:Gl X x)(hm:X.mg x=none)(hv:bootBuiltins x=some (.builtin id))(ha:JE X E e m)(hn:x ≠ "__name__")
  (hdb:gu x)(hs:starEach [e] X.env=(false,eval e X.env)::starEach [] X.env:=by rfl)(hp:(backTo pos (starEach [] X.env)).any (·.1)=false:=by rfl):JE X E (.Call (.Name x p) [e] [] pos) (dg f m):=
 ⟨PE.weaken (je hc hg hm hv (bu ha.p dq hs) hn hdb hs hp) λY H Q h=>gZ hf Y H Q h⟩
theorem ym{T:String}{r:List V->Hp->VK->Prop}{f:A->Option Rr}{p:Pos}(hc:bF X (.type T) r)(hf:lq (kx X) (λv=>r [v]) f)(hg:Gl X x)(hm:X.mg x=none)(hv:bootBuiltins x=some (.type T))(ha:JE X E e m)(hn:x ≠ "__name__")
  (hdb:gu x)(hs:starEach [e] X.env=(false,eval e X.env)::starEach [] X.env:=by rfl)(hp:(backTo pos (starEach [] X.env)).any (·.1)=false:=by rfl):JE X E (.Call (.Name x p) [e] [] pos) (dg f m):=
 ⟨PE.weaken (Ab hc hg hm hv (bu ha.p dq hs) hn hdb hs hp) λY H Q h=>gZ hf Y H Q h⟩
theorem Jv{r:List V->Hp->VK->Prop}{f:A->A->Option Rr}{p:Pos}{e1 e2:Expr}{n:Mi Rr}(hc:bF X (.builtin id) r)(hf:gA (kx X) (λv w=>r [v,w]) f)(hg:Gl X x)(hm:X.mg x=none)(hv:bootBuiltins x=some (.builtin id))(h1:JE X E e1 m)(h2:JE X E e2 n)(hn:x ≠ "__name__")
  (hdb:gu x)(hs:starEach [e1,e2] X.env=(false,eval e1 X.env)::starEach [e2] X.env:=by rfl)(hs2:starEach [e2] X.env=(false,eval e2 X.env)::starEach [] X.env:=by rfl)(hp:(backTo pos (starEach [e2] X.env)).any (·.1)=false:=by rfl):JE X E (.Call (.Name x p) [e1,e2] [] pos) (EE f m n):=
 ⟨PE.weaken (je hc hg hm hv (bu h1.p (bu h2.p dq hs2) hs) hn hdb hs hp) λY H Q h=>dM (r:=λv w=>r [v,w]) hf Y H Q h⟩
noncomputable def kl:A->Option Rr
 | .str z=>if z.length<=100000 then some (.fr (.int z.length)) else none
 | .lst xs=>some (.fr (.int xs.length))
 | .tup xs=>some (.fr (.int xs.length))
 |_=>none
theorem Mz:lq K (λv H Q=>∃x n,[v]=[x]/\Pq K.K x H n/\Q (.int n) H) kl:=.scalar λH v a q i h=>by
 cases a<;>first|(cases h;done)|skip
 .cases i;unfold kl at h;simp only at h;split at h
  .rename_i hz;cases h;exact⟨_,_,rfl,λ_=>.int _,λQ k=>⟨_,_,rfl,⟨Vg hz jK,rfl⟩,k⟩⟩
  .cases h
 .cases i with
  |tup e r=>cases h;exact⟨_,_,rfl,λ_=>.int _,λQ k=>⟨_,_,rfl,.inr ⟨_,e,rfl⟩,by rw[r.len];exact k⟩⟩
 .cases i with
  |lst e r=>cases h;exact⟨_,_,rfl,λ_=>.int _,λQ k=>⟨_,_,rfl,.inl ⟨_,e,rfl⟩,by rw[r.len];exact k⟩⟩
noncomputable def zG:A->Option Rr
 | .int i=>some (.fr (.int (if i<0 then -i else i)))
 |_=>none
theorem MW:lq K (λv H Q=>∃i,[v]=[V.int i]/\Q (.int (if i<0 then -i else i)) H) zG:=.scalar λH v a q C h=>by
 cases a<;>first|(cases h;done)|skip
 cases C;cases h;exact⟨_,_,rfl,λ_=>.int _,λQ k=>⟨_,rfl,k⟩⟩
def Bo:A->A->Option Rr:=nD λi j=>some (.fr (.int (if j > i then j else i)))
def Cj:A->A->Option Rr:=nD λi j=>some (.fr (.int (if j<i then j else i)))
theorem KI:gA K (λv w H Q=>∃i j,[v,w]=[V.int i,V.int j]/\Q (.int (if j > i then j else i)) H) Bo:=.scalar λH v w a b q C n h=>by
 replace h:=bY h
 obtain⟨i,j,rfl,rfl,h⟩:=h
 cases C;cases n;cases h
 exact⟨_,_,rfl,λ_=>.int _,λQ k=>⟨_,_,rfl,k⟩⟩
theorem KW:gA K (λv w H Q=>∃i j,[v,w]=[V.int i,V.int j]/\Q (.int (if j<i then j else i)) H) Cj:=.scalar λH v w a b q C n h=>by
 replace h:=bY h
 obtain⟨i,j,rfl,rfl,h⟩:=h
 cases C;cases n;cases h
 exact⟨_,_,rfl,λ_=>.int _,λQ k=>⟨_,_,rfl,k⟩⟩
noncomputable def Fd:A->Option Rr
 | .int i=>some (.fr (.int i))
 | .bl k=>some (.fr (.int (if k then 1 else 0)))
 |_=>none
theorem Nn:lq K (λv H Q=>(∃i,[v]=[V.int i]/\Q (.int i) H)\/∃k,[v]=[V.bl k]/\Q (.int (if k then 1 else 0)) H) Fd:=.scalar λH v a q C h=>by
 cases a<;>first|(cases h;done)|skip
 .cases C;cases h;exact⟨_,_,rfl,λ_=>.int _,λQ k=>.inr ⟨_,rfl,k⟩⟩
 .cases C;cases h;exact⟨_,_,rfl,λ_=>.int _,λQ k=>.inl ⟨_,rfl,k⟩⟩
noncomputable def Mo:A->Option (List A)
 | .lst xs=>some xs
 | .tup xs=>some xs
 |_=>none
def DE(a:A):Option Rr:=match Mo a with
 |some xs=>some (.nw (.lst xs))
 |none=>none
def fB(a:A):Option Rr:=match Mo a with
 |some xs=>some (.fr (.tup xs))
 |none=>none
theorem Hn:lq K (λv H Q=>∃p ys,[v]=[V.ref p]/\(g9 K.K H p ys\/iu K.K H p ys)/\∀l,H l=none->Q (.ref l) (upd H l (.lst ys))) DE:=by
 intro c Y H Z B θ x v a q Q F A o e1 e3 k;subst F;obtain⟨L,bl,s⟩:=Bd.open o A e1;cases a<;>first|(cases e3;done)|skip
 .rename_i xs;cases e3;obtain⟨p,vs,rfl,s1,z⟩:=s.2.1 xs rfl;exact⟨p,vs,rfl,.inr (cT (g_same _ _ _) s1),λl hl=>k _ _ trivial (bl.fZ hl λG H' sm q=>.lst q (z.sm sm))⟩
 .rename_i xs;cases e3;obtain⟨p,vs,rfl,s1,z⟩:=s.1 xs rfl;exact⟨p,vs,rfl,.inl s1,λl hl=>k _ _ trivial (bl.fZ hl λG H' sm q=>.lst q (z.sm sm))⟩
theorem CO:lq K (λv H Q=>∃p ys,[v]=[V.ref p]/\((g9 K.K H p ys/\∀l,H l=none->Q (.ref l) (upd H l (.tup ys)))\/(iu K.K H p ys/\Q (.ref p) H))) fB:=by
 intro c Y H Z B θ x v a q Q F A E e1 e3 k;subst F;obtain⟨L,bl,s⟩:=Bd.open E A e1;cases a<;>first|(cases e3;done)|skip
 .rename_i xs;cases e3;obtain⟨p,vs,rfl,s1,z⟩:=s.2.1 xs rfl;exact⟨p,vs,rfl,.inr ⟨cT (g_same _ _ _) s1,k _ _ trivial (bl.push (.tup s1 z))⟩⟩
 .rename_i xs;cases e3;obtain⟨p,vs,rfl,s1,z⟩:=s.1 xs rfl;refine⟨p,vs,rfl,.inl ⟨s1,λl hl=>?_⟩⟩;obtain⟨b2,sm,np⟩:=bl.new (o:=.tup vs) hl;exact k _ _ trivial (b2.push (.tup (.inl (.inl (by rw[bz np (bl.Pl hl)];exact aI))) (z.sm sm)))
end
section
variable{c:Cn}{Y:St}{H:Hp}{Z:List Sl}{B:St}{θ:List Sl}
theorem Bd.nR{x:Option V}(e:xs.length=ss.length)(b:Bd c Y H Z (x::(xs++B)) (s::(ss++θ))):Bd c Y H Z (x::B) (s::θ):=by
 obtain⟨L,b⟩:=b;have r:aB c.toKx (c.g H L) H (x::(xs++(B++Y))) (s::(ss++(θ++Z))) L:=by have:=b.rel;simpa[U0] using this
 cases r with
 |cons h r=>rename_i n L';obtain⟨I,L2,e1,i,X⟩:=aB.split e r;subst e1;have sl:(n++L2).Sublist (n++(I++L2)):=V6 (V3 _) (YV _ _);have sm:Sq (c.g H (n++(I++L2))) (c.g H (n++L2)):=dk λa ha=>sl.subset ha;exact⟨n++L2,b.nd.sublist sl,aB.cons (h.sm sm (λ_ _ _ e=>e)) (X.sm sm (λ_ _ _ e=>e)),λp hp=>b.own p (sl.subset hp),b.fr,b.kp,by have:=b.lt;simp at this ⊢;omega,b.hd⟩
theorem Bd.R8{ys:St}(b:Bd c (Y++ys) H Z B θ):Bd c Y H (Z.take Y.length) B θ:=by
 have hl:=b.jW;rw[UY] at hl;obtain⟨L,b⟩:=b;have r:aB c.toKx (c.g H L) H ((B++Y)++ys) ((θ++Z.take Y.length)++Z.drop Y.length) L:=by have:=b.rel;rw[U0,U0,VO];exact this
 obtain⟨I,L2,e1,C,n⟩:=aB.split (by simp[b.lt];omega) r;subst e1;have sm:Sq (c.g H (I++L2)) (c.g H I):=dk λa ha=>Vk _ ha;refine⟨I,(U8.mp b.nd).1,C.sm sm (λ_ _ _ e=>e),λp hp=>b.own p (Vk _ hp),b.fr,λi o h=>?_,b.lt,b.hd⟩;have hi:i<(Z.take Y.length).length:=(UQ.mp h).1;rw[Vh] at hi;have h':Z[i]?=some (.pv o):=by rw[List.getElem?_take] at h;split at h;exact h;cases h
 have:=b.kp i o h';rwa[VX (by omega)] at this
theorem Bd.E6{n:Nat}(b:Bd c Y H Z B θ):Bd c (Y++Vd n none) H (Z++Vd n .un) B θ:=by
 have hl:=b.jW;obtain⟨L,b⟩:=b;refine⟨L,b.nd,?_,b.own,b.fr,λi o h=>?_,b.lt,b.hd⟩
 .have:=b.rel.app (nW (k:=c.toKx) (G:=c.g H L) (H:=H) n);simpa[U0] using this
 .by_cases z:i<Z.length
  .rw[VX z] at h;rw[VX (by omega)];exact b.kp i o h
  .rw[Vv (by omega)] at h;have:=Y3 (Vc h);cases this
end
noncomputable abbrev Mg:=A->List Sl->Option (List Sl)
noncomputable abbrev ED:=List A->List Sl->Option (List Sl)
inductive N8(K:Kx)(lo:Nat)(G:Mg)(v:V)(Y:St)(H:Hp)(Q:St->Hp->Prop):Prop
 |mk(c:Cn)(Z:List Sl)(B:St)(θ:List Sl)(a:A)(O:List Sl)(h1:c.toKx=K)(h2:Bd c Y H Z (some v::B) (.fr a::θ))(h3:G a Z=some O)(h4:∀j H',j.take lo=Y.take lo->j.length=Y.length->Bd c j H' O B θ->Q j H')
inductive SX(K:Kx)(lo:Nat)(G:ED)(vs:List V)(Y:St)(H:Hp)(Q:St->Hp->Prop):Prop
 |mk(c:Cn)(Z:List Sl)(B:St)(θ:List Sl)(as:List A)(O:List Sl)(h1:c.toKx=K)(h2:vs.length=as.length)(h3:Bd c Y H Z (vs.map some++B) (as.map Sl.fr++θ))(h4:G as Z=some O)(h5:∀j H',j.take lo=Y.take lo->j.length=Y.length->Bd c j H' O B θ->Q j H')
structure JG(X:Cx)(lo:Nat)(tg:Expr)(G:Mg):Prop where
 p:PG X tg (N8 (kx X) lo G)
structure Ro(X:Cx)(lo:Nat)(tg:List Expr)(G:ED):Prop where
 p:KH X tg (SX (kx X) lo G)
def aH(i:Nat):Mg:=λa Z=>put i (.fr a) Z
noncomputable def dw:ED:=λas Z=>match as with
 |[]=>some Z
 |_=>none
noncomputable def aE(g:Mg)(H:ED):ED:=λas Z=>match as with
 |a::as=>match g a Z with
  |some U=>H as U
  |none=>none
 |[]=>none
noncomputable def cY(n:Nat)(H:ED):Mg:=λa Z=>match a with
 | .tup as=>if as.length=n then H as Z else none
 |_=>none
variable{gs:ED}{tg iter:Expr}{body:List Stmt}
section
variable{X:Cx}{E:XK}{lo:Nat}
theorem Iv(hN:X.N.Nodup)(hi:X.N[i]?=some x)(hx:Loc X.env.scope x)(hl:lo<=i)(hf:X.fn x=true\/X.env.scope.names.lookup x=some .local:=by first|exact .inl rfl|exact .inr rfl|assumption):JG X lo (.Name x pos) (aH i):=⟨λpins s Y H v u Q I r h=>by refine GQ hN hi hx hf pins s Y H v u Q I r ?_;obtain⟨c,Z,B,θ,a,O,ek,b,em,q⟩:=h;exact q _ H (by rw[List.take_set_of_le hl]) (by simp) (Bd.put b (λo z=>by cases z) em)⟩
theorem Gu:Ro X lo [] dw:=⟨λpins s Y H v u Q I r h=>by
 refine FC pins s Y H v u Q I r ?_;obtain⟨c,Z,B,θ,as,O,F,hl,b,em,q⟩:=h;cases as with
 |nil=>cases em;cases v with|nil=>exact⟨rfl,q Y H rfl rfl b⟩|cons _ _=>simp at hl
 | cons _ _=>cases em⟩
theorem CT{g:Mg}(h1:JG X lo e g)(h2:Ro X lo es gs)(hp:∀{t:TG}{u:JV},PG X e t->KH X es u->KH X (e::es) (Jh t u)):Ro X lo (e::es) (aE g gs):=⟨λpins s Y H v u Q I r h=>by
 refine hp h1.p h2.p pins s Y H v u Q I r ?_;obtain⟨c,Z,B,θ,as,O,F,hl,b,em,q⟩:=h;cases as with
 |nil=>cases em
 |cons a as=>
  cases v with
  |nil=>simp at hl
  |cons v vs=>
   unfold aE at em;simp only at em;cases e1:g a Z with
   |none=>simp only[e1] at em;cases em
   | some U=>simp only[e1] at em;refine⟨v,vs,rfl,c,Z,_,_,a,U,F,b,e1,λj H' x w b1=>⟨c,U,B,θ,as,O,F,by simpa using hl,b1,em,λL K l C b2=>q L K (l.trans x) (C.trans w) b2⟩⟩⟩
theorem Nj{n:Nat}(hc:X.calm=true)(h:Ro X lo es gs)(hn:(assignEach es X.env).length=n:=by rfl)(hst:(assignEach es X.env).findIdx? (·.1)=none:=by rfl):JG X lo (.Tuple es k pos) (cY n gs):=⟨λpins s Y H v u Q I r h'=>by
 refine Nz hc h.p hn hst pins s Y H v u Q I r ?_;obtain⟨c,Z,B,θ,a,O,ek,b,em,q⟩:=h';cases a<;>first|(cases em;done)|skip
 rename_i as;unfold cY at em;simp only at em;split at em
 .rename_i hl;obtain⟨L,bl,i1⟩:=Bd.open (r:=.fr (.tup as)) b trivial rfl;obtain⟨p,vs,rfl,s1,rr⟩:=i1.2.1 as rfl;have:c.K=X.K:=by have:=congrArg Kx.K ek;exact this
  refine⟨p,vs,rfl,by rw[<-this];exact cT (g_same _ _ _) s1,by rw[rr.len];exact hl,c,Z,B,θ,as,O,ek,rr.len,?_,em,q⟩;obtain⟨nd,rel,own,fr,kp,lt,hdd⟩:=bl;exact⟨L,nd,by have:=(aB.dz (H:=H) rr).app rel;simpa[U0] using this,own,fr,kp,by simp[lt,rr.len],hdd⟩
 .cases em⟩
def Qm(K:Kx)(J:It)(T:St)(P:List A)(as:List A):Prop:=∀(c:Cn)(Y:St)(H:Hp)(Z:List Sl)(F:St)(D:List Sl)(B:St)(θ:List Sl)(i:Nat),c.toKx=K->F.length=D.length->Bd c Y H Z (F++(T++B)) (D++(P.map Sl.fr++θ))->
 (as.length<=i->J.stop i H)/\∀a,as[i]?=some a->J.go i H/\∀x H',J.yld i H x H'->Bd c Y H' Z (some x::(F++(T++B))) (.fr a::(D++(P.map Sl.fr++θ)))
def QY(K:Kx)(E:XK)(c:Cn)(Y:St)(Z:List Sl)(B:St)(θ:List Sl)(R:It->Hp->Prop):Except Str (List A)->Prop
 | .ok as=>∀J H T P,T.length=P.length->Qm K J T P as->Bd c Y H Z (T++B) (P.map Sl.fr++θ)->R J H
 | .error x=>∀C H,K.mg x=some (.ref C)->Bd c Y H Z B θ->E (.ref C) none H
inductive TH(K:Kx)(E:XK)(m:Mi (List A))(Y:St)(H:Hp)(R:It->Hp->Prop):Prop
 |mk(c:Cn)(Z:List Sl)(B:St)(θ:List Sl)(o:Except Str (List A))(O:List Sl)(h1:c.toKx=K)(h2:Bd c Y H Z B θ)(h3:m Z=some (o,O))(h4:QY K E c Y O B θ R o)
structure JI(X:Cx)(E:XK)(tg iter:Expr)(m:Mi (List A)):Prop where
 p:PI X tg iter (TH (kx X) E m)
theorem kX{o:Except Str (List A)}{R:It->Hp->Prop}(q:QY (kx X) E c Y O B θ R o):∀e,o=.error e->∀C H,X.mg e=some (.ref C)->Bd c Y H O B θ->E (.ref C) none H:=λe r=>by subst r;exact q
noncomputable def ug(s:Str):List A:=s.cps.toList.map λc=>.str ⟨#[c]⟩
def KC:A->Option (List A)
 | .str s=>some (ug s)
 |a=>Mo a
def bU(m:Mi Rr):Mi (List A):=aF m λr Z=>match a8 r Z with
 |some (a,O)=>match KC a with
  |some as=>some (.ok as,O)
  |none=>none
 |none=>none
theorem Bd.mid{a:A}(e:xs.length=ss.length)(b:Bd c Y H Z (xs++(some v::B)) (ss++(.fr a::θ))):∃L,eA c Y H Z (xs++(some v::B)) (ss++(.fr a::θ)) L/\RA c.toKx (c.g H L) v a:=by
 obtain⟨L,b⟩:=b;have r:aB c.toKx (c.g H L) H (xs++(some v::(B++Y))) (ss++(.fr a::(θ++Z))) L:=by have:=b.rel;simpa[U0] using this
 obtain⟨I,L2,e1,i,n⟩:=aB.split e r;cases n with
 |cons h E=>cases h with|fr h=>exact⟨L,b,h⟩
theorem vT{l:Expr}(hl:JE X E l m):JI X E tg l (bU m):=⟨λpins s Y H R I h=>by
 refine FT hl.p pins s Y H R I ?_;obtain⟨c,Z,B,θ,o,O,z,b,em,q⟩:=h;refine aR z b em (λx v U e A b1 Q=>?_) (kX q);cases e1:a8 x U with
 |none=>simp only[e1] at Q;cases Q
 |some p=>
  obtain⟨a,Z'⟩:=p;simp only[e1] at Q;have b2:=Bd.a8 (xs:=[]) (ss:=[]) rfl b1 A e1;cases e2:KC a with
  |none=>simp only[e2] at Q;cases Q
  |some as=>
   simp only[e2] at Q;cases Q;have g:c.K=X.K:=congrArg Kx.K z;cases a<;>first|(cases e2;done)|skip
   .rename_i t;cases e2;have rt:=Bd.top b2 (a:=.str t) rfl;cases rt;refine .inr ⟨t,rfl,q _ e [some (.str t)] [.str t] rfl (λP j H' O F D J T i V G S=>?_) b2⟩;obtain⟨L,bl,h⟩:=Bd.mid G S;have hl:(ug t).length=t.cps.size:=by simp[ug]
    refine⟨λhi=>by rw[hl] at hi;exact hi,λa ha=>?_⟩;have hi:i<t.cps.size:=by rw[<-hl];exact(UQ.mp ha).1
    refine⟨hi,λx N y=>?_⟩;obtain⟨rfl,c,hc,rfl⟩:=y;have:a=.str ⟨#[c]⟩:=by unfold ug at ha;rw[UU,WS,hc] at ha;exact(U1 ha).symm
    subst this;exact bl.push (.str _)
   .cases e2;have rt:=Bd.top b2 (a:=.tup as) rfl;cases rt with
    |tup k f=>
     rename_i p vs;refine .inl ⟨p,rfl,.inr ⟨⟨vs,by rw[<-g];exact k⟩,q _ e [some (.ref p)] [.tup as] rfl (λP j H' O F D J T i V G S=>?_) b2⟩⟩;have w:P.K=X.K:=congrArg Kx.K V;obtain⟨L,bl,h⟩:=Bd.mid G S;cases h with
     |tup e3 r=>
      rename_i us;have sq:iu X.K H' p us:=by rw[<-w];exact cT (g_same _ _ _) e3
      refine⟨λhi=>⟨us,sq,by rw[r.len];exact hi⟩,λa ha=>?_⟩;obtain⟨u,h1,h2⟩:=r.ta ha;refine⟨⟨us,u,sq,h1⟩,λx N y=>?_⟩;obtain⟨rfl,y⟩:=y;have:=y us sq;rw[h1] at this;cases this;exact bl.push h2
   .cases e2;have rt:=Bd.top b2 (a:=.lst as) rfl;cases rt with
    |lst k f=>
     rename_i p vs;refine .inl ⟨p,rfl,.inl ⟨⟨vs,by rw[<-g];exact k⟩,q _ e [some (.ref p)] [.lst as] rfl (λP j H' O F D J T i V G S=>?_) b2⟩⟩;have w:P.K=X.K:=congrArg Kx.K V;obtain⟨L,bl,h⟩:=Bd.mid G S;cases h with
     |lst e3 r=>
      rename_i us;have sq:g9 X.K H' p us:=by rw[<-w];exact oE (g_same _ _ _) e3
      refine⟨λhi=>⟨us,sq,by rw[r.len];exact hi⟩,λa ha=>?_⟩;obtain⟨u,h1,h2⟩:=r.ta ha;refine⟨⟨us,u,sq,h1⟩,λx N y=>?_⟩;obtain⟨rfl,y⟩:=y;have:=y us sq;rw[h1] at this;cases this;exact bl.push h2⟩
noncomputable def cU(lo:Int)(n:Nat):List A:=(Vo n).map λi=>.int (lo+(i:Nat))
theorem AJ{lo:Int}{n:Nat}:Qm K (OM lo n) [] [] (cU lo n):=λc Y H Z F D B θ i r G b=>by
 have hl:(cU lo n).length=n:=by simp[cU]
 refine⟨λh=>by rw[hl] at h;exact h,λa ha=>?_⟩;have hi:i<n:=by rw[<-hl];exact(UQ.mp ha).1
 refine⟨hi,λx H' y=>?_⟩;obtain⟨rfl,rfl⟩:=y;have:a=.int (lo+i):=by unfold cU at ha;rw[UU,Wz hi] at ha;exact(U1 ha).symm
 subst this;exact b.push λ_=>.int _
def fz(m:Mi Rr):Mi (List A):=aF m λr Z=>match res Z r with
 |some (.int j)=>if -(2^60)<=j/\j<2^60 then some (.ok (cU 0 j.toNat),Z) else none
 |_=>none
theorem Fz{a:Expr}{p:Pos}(hg:Gl X "range")(hm:X.mg "range" = none)(ha:JE X E a m)(hs:starEach [a] X.env=[(false,eval a X.env)]:=by rfl)(hs':starEach [a] X.env=(false,eval a X.env)::starEach [] X.env:=by rfl):JI X E tg (.Call (.Name "range" p) [a] [] pos) (fz m):=⟨λpins s Y H R I h=>by
 refine Ad hg hm (bu ha.p dq hs') hs pins s Y H R I ?_;obtain⟨c,Z,B,θ,o,O,ek,b,em,q⟩:=h;refine aR ek b em (λx v U H1 hv b1 em1=>?_) (kX q);cases e1:res U x with
 |none=>simp only[e1] at em1;cases em1
 |some a=>
  have r1:=Bd.rd b1 hv e1;simp only[e1] at em1;cases a<;>first|(cases em1;done)|skip
  rename_i j;simp only at em1;split at em1
  .rename_i hj;cases em1;cases r1;exact⟨j,rfl,by omega,by omega,q _ H1 [] [] rfl AJ b1.drop⟩
  .cases em1⟩
theorem Bz{u:Option A}{F:Int->Option α}{r:α} (h:(match u with
   |some (.int k)=>F k
   | _=>none)=some r):∃k,u=some (.int k)/\F k=some r:=by
 split at h
 .rename_i k;exact⟨k,rfl,h⟩
 .cases h
theorem tV{u w:Option A}{F:Int->Int->Option α}{r:α} (h:(match u,w with
 |some (.int i),some (.int j)=>F i j
 | _,_=>none)=some r):∃i j,u=some (.int i)/\w=some (.int j)/\F i j=some r:=by
 split at h
 .rename_i i j;exact⟨i,j,rfl,rfl,h⟩
 .cases h
def uq(m n:Mi Rr):Mi (List A):=aF m λr=>aF n λt=>λZ=>match res Z r,res Z t with
 |some (.int i),some (.int j)=>if -(2^60)<=i/\i<2^60 /\ -(2^60)<=j/\j<2^60 then some (.ok (cU i (j-i).toNat),Z) else none
 |_,_=>none
theorem Ir{a:Expr}{n:Mi Rr}{p:Pos}(hg:Gl X "range")(hm:X.mg "range" = none)(ha:JE X E a m)(hb:JE X E b n)(hs:starEach [a,b] X.env=[(false,eval a X.env),(false,eval b X.env)]:=by rfl)(hs2:starEach [b] X.env=[(false,eval b X.env)]:=by rfl)
  (hs3:starEach [a,b] X.env=(false,eval a X.env)::starEach [b] X.env:=by rfl)(hs4:starEach [b] X.env=(false,eval b X.env)::starEach [] X.env:=by rfl):JI X E tg (.Call (.Name "range" p) [a,b] [] pos) (uq m n):=⟨λpins s Y H R I h=>by
 refine z8 hg hm (bu ha.p (bu hb.p dq hs4) hs3) hs hs2 pins s Y H R I ?_;obtain⟨c,Z,B,θ,o,O,ek,b,em,q⟩:=h;refine aR ek b em (λx v U H1 hv b1 em1=>?_) (kX q);refine aR ek b1 em1 (λy w Z' H2 hw b2 em2=>?_) (dZ (kX q));obtain⟨i,j,e1,e2,em2⟩:=tV em2;obtain⟨rfl,rfl⟩:v=.int i/\w=.int j:=by have r2:=Bd.rd b2 hw e2;have r1:=Bd.rd b2.drop hv e1;cases r1;cases r2;exact⟨rfl,rfl⟩
 split at em2
 .rename_i hj;cases em2;exact⟨i,j,rfl,⟨by omega,by omega,by omega,by omega⟩,q _ H2 [] [] rfl AJ b2.drop.drop⟩
 .cases em2⟩
noncomputable def forL(G:Mg)(b:Ms):List A->Ms
 |[],Z=>some (.nx,Z)
 |a::as,Z=>match G a Z with
  |none=>none
  |some U=>match b U with
   |some (.nx,Z')=>forL G b as Z'
   |some (.ct,Z')=>forL G b as Z'
   |some (.bk,Z')=>some (.nx,Z')
   |r=>r
def dm(m:Mi (List A))(G:Mg)(b:Ms):Ms:=cH m λas Z=>forL G b as Z
theorem Mc{m:Mi (List A)}{G:Mg}{mb:Ms}(hp:PassesOwn (model X.prog X.w) X.A X.env X.xe)(hc:X.calm=true)(hi:JI X E tg iter m)(hg:JG X 0 tg G)(hb:An X E body mb)
  (hs:∀x,foldedSetIterable iter X.env x=pure x:=by intro _;rfl):JS X E (.For tg iter body [] pos) (dm m G mb):=⟨PS.weaken (K6 hp hc hi.p hg.p hb.p hs) λD Y H h=>by
 obtain⟨c,Z,B,θ,f,O,ek,b,em,q⟩:=h;rcases bE em with ⟨as,U,e1,e2⟩|⟨e,e1,e2⟩
 .refine⟨c,Z,B,_,_,U,ek,b,e1,λJ H1 T P li it b1=>?_⟩;refine⟨λi m j H'=>m=as.length-i/\i<=as.length/\∃S,Bd c j H' S (T++B) (P.map Sl.fr++θ.map Sl.fr)/\forL G mb (as.drop i) S=some (f,O),⟨_,rfl,VM _,U,b1,by simpa using e2⟩,?_⟩;rintro i m j H' ⟨rfl,hi,S,bi,ei⟩;obtain⟨i1,i2⟩:=it c j H' S [] [] B (θ.map Sl.fr) i ek rfl bi;by_cases hlt:i<as.length
  .have hd:as.drop i=as[i]::as.drop (i+1):=Vx hlt;rw[hd] at ei;obtain⟨go,yl⟩:=i2 as[i] (by simp[hlt]);refine .inr ⟨go,λL H2=>∃Z',Bd c L H2 Z' (T++B) (P.map Sl.fr++θ.map Sl.fr)/\forL G mb (as.drop (i+1)) Z'=some (f,O),λL H2 ⟨Z',q1,q2⟩=>⟨as.length-(i+1),by omega,rfl,hlt,Z',q1,q2⟩,λx H2 y=>?_⟩;have b2:=yl x H2 y;unfold forL at ei;cases eg:G as[i] S with
   |none=>simp only[eg] at ei;cases ei
   |some Z'=>
    simp only[eg] at ei;refine⟨c,S,_,_,as[i],Z',ek,b2,eg,λR H3 _ _ b3=>?_⟩;cases eb:mb Z' with
    |none=>simp only[eb] at ei;cases ei
    |some p=>
     obtain⟨f1,Y'⟩:=p;simp only[eb] at ei;refine⟨c,Z',T++B,P++θ,f1,Y',ek,by rw[U7];exact b3,eb,?_⟩;cases f1 with
     |nx=>intro V H4 b4;rw[U7] at b4;exact⟨Y',b4,ei⟩
     |ct=>intro V H4 b4;rw[U7] at b4;exact⟨Y',b4,ei⟩
     |bk=>cases ei;intro V H4 b4;rw[U7] at b4;exact q V H4 (Bd.HV (by simp[li]) b4)
     |rt s=>cases ei;intro v V H4 hs b4;rw[U7] at b4;exact q v V H4 hs (Bd.nR (by simp[li]) b4)
     |ex x=>cases ei;intro C V H4 hm b4;rw[U7] at b4;exact q C V H4 hm (Bd.HV (by simp[li]) b4)
  .have e:i=as.length:=by omega
   subst e;rw[We] at ei;cases ei;exact .inl ⟨i1 (U2 _),q j H' (Bd.HV (by simp[li]) bi)⟩
 .subst e2;exact⟨c,Z,B,_,_,O,ek,b,e1,λC H1 hm b1=>q C Y H1 hm b1⟩⟩
noncomputable def eZ(t:Mi Bool)(b:Ms):Nat->Ms
 |0,_=>none
 |n+1,Z=>match t Z with
  |some (.ok true,U)=>match b U with
   |some (.nx,Z')=>eZ t b n Z'
   |some (.ct,Z')=>eZ t b n Z'
   |some (.bk,Z')=>some (.nx,Z')
   |r=>r
  |some (.ok false,U)=>some (.nx,U)
  |some (.error e,U)=>some (.ex e,U)
  |none=>none
def lL(n:Nat)(t:Mi Bool)(b:Ms):Ms:=eZ t b n
theorem BS{n:Nat}{t:Expr}{mb:Ms}(hp:PassesOwn (model X.prog X.w) X.A X.env X.xe)(i:JT X E t mt)(d:An X E body mb):JS X E (.While t body [] pos) (lL n mt mb):=⟨PS.weaken (AZ hp i.p d.p) λD Y H h=>by
 obtain⟨c,Z,B,θ,f,O,F,b,em,q⟩:=h;refine⟨λm j H'=>∃S,Bd c j H' S B (θ.map Sl.fr)/\eZ mt mb m S=some (f,O),⟨n,Z,b,em⟩,?_⟩;rintro m j H' ⟨S,R,a⟩;cases m with
 |zero=>cases a
 |succ m=>
  unfold eZ at a;cases K:mt S with
  |none=>simp only[K] at a;cases a
  |some p=>
   obtain⟨o,U⟩:=p;refine⟨c,S,B,_,o,U,F,R,K,?_⟩;cases o with
   |error e=>simp only[K] at a;cases a;exact λC P hm b1=>q C j P hm b1
   |ok k=>
    intro P b1;cases k with
    |false=>simp only[K] at a;cases a;rw[if_neg (by decide)];exact q j P b1
    |true=>
     simp only[K] at a;rw[if_pos rfl];refine⟨λL N=>∃Z',Bd c L N Z' B (θ.map Sl.fr)/\eZ mt mb m Z'=some (f,O),λL N w=>⟨m,Xs _,w⟩,?_⟩;cases J:mb U with
     |none=>simp only[J] at a;cases a
     |some p=>
      obtain⟨y,Y'⟩:=p;simp only[J] at a;refine⟨c,U,B,θ,y,Y',F,b1,J,?_⟩;cases y with
      |nx=>exact λV T Q=>⟨Y',Q,a⟩
      |ct=>exact λV T Q=>⟨Y',Q,a⟩
      |bk=>cases a;exact λV T Q=>q V T Q
      |rt s=>cases a;exact λv V T u Q=>q v V T u Q
      | ex x=>cases a;exact λC V T hm Q=>q C V T hm Q⟩
end
theorem eU(r:Rr)(v:V)(t:St)(u:List Sl):bH r v t=bH r v []++t/\bG r u=bG r []++u/\(bH r v []).length=(bG r []).length:=by cases r<;>exact⟨rfl,rfl,rfl⟩
theorem nE:100000<sizeLine:=by rw[sizeLine_eq];decide
def bK(G:Mg)(t:Mi Bool)(e:Mi Rr):List A->List A->List Sl->Option (List A×List Sl)
 |[],acc,Z=>some (acc,Z)
 |a::as,acc,Z=>match G a Z with
  |none=>none
  |some U=>match t U with
   |some (.ok true,Z')=>match e Z' with
    |some (.ok r,Y')=>match a8 r Y' with
     |some (d,V)=>bK G t e as (acc++[d]) V
     |none=>none
    |_=>none
   |some (.ok false,Z')=>bK G t e as acc Z'
   |_=>none
inductive PH(G:Mg)(t:Mi Bool)(e:Mi Rr)(a:A)(as acc:List A)(Z:List Sl)(r:List A×List Sl):Prop
 |skip{U Z':List Sl}(g:G a Z=some U)(k:t U=some (.ok false,Z'))(q:bK G t e as acc Z'=some r)
 |take{d:A}{u:Rr}{U Z' Y' V:List Sl}(g:G a Z=some U)(k:t U=some (.ok true,Z'))(m:e Z'=some (.ok u,Y'))(f:a8 u Y'=some (d,V))(q:bK G t e as (acc++[d]) V=some r)
theorem zd{G:Mg}{t:Mi Bool}{e:Mi Rr}{a:A}{as acc:List A}{r:List A×List Sl}(h:bK G t e (a::as) acc Z=some r):PH G t e a as acc Z r:=by
 unfold bK at h;split at h
 .cases h
 .rename_i U H;split at h
  .rename_i Z' K;split at h
   .rename_i u Y' Y;split at h
    .rename_i d V B;exact .take H K Y B h
    .cases h
   .cases h
  .rename_i Z' K;exact .skip H K h
  .cases h
def bw:Mi Bool:=fk true
def cA(n:Nat)(H:Mi (List A))(G:Mg)(t:Mi Bool)(e:Mi Rr):Mi Rr:=aF H λas Z=>if as.length<=100000 then match bK G t e as [] (Z++Vd n .un) with
 |some (ys,O)=>some (.ok (.nw (.lst ys)),O.take Z.length)
 |none=>none else none
structure JF(X:Cx)(E:XK)(ifs:List Expr)(m:Mi Bool):Prop where
 p:PF X ifs (wW (kx X) E m)
variable{me mk:Mi Rr}{lo:Nat}{elt ek:Expr}{ifs:List Expr}{px apos cpos p1:Pos}
section
variable{X:Cx}{E:XK}
theorem Ng:JF X E [] bw:=⟨λpins s Y H Q I h=>by refine MM pins s Y H Q I ?_;obtain⟨c,Z,B,θ,o,O,ek,b,em,q⟩:=h;cases em;exact q H b⟩
theorem L7{t:Expr}{m:Mi Bool}(h:JT X E t m):JF X E [t] m:=⟨J2 h.p⟩
noncomputable abbrev jC:XK:=λ_ _ _=>False
theorem jv{n:Nat}{G:Mg}{T:St}{u:Hp}{U Z':List Sl}{P as ys:List A}{J:It}(I:Y.length=lo)(ek:c.toKx=kx X)(li:T.length=P.length)
  (it:∀Y H Z F D i,F.length=D.length->Bd c Y H Z (F++(T++B)) (D++(P.map Sl.fr++θ))->(as.length<=i->J.stop i H)/\∀a,as[i]?=some a->J.go i H/\∀x H',J.yld i H x H'->Bd c Y H' Z (some x::(F++(T++B))) (.fr a::(D++(P.map Sl.fr++θ))))
  (b1:Bd c Y u U (T++B) (P.map Sl.fr++θ))(b:as.length<=100000)(ec:bK G mt me as [] (U++Vd n .un)=some (ys,Z'))(q:Sa (kx X) E c Y (Z'.take U.length) B θ Q (.ok (.nw (.lst ys)))):
  DS J (N8 (kx X) lo G) (wW (kx X) jC mt) (il (kx X) jC me) Q (Y++Vd n none) u:=by
 have N:Y.length=U.length:=b1.jW;refine⟨λi m j vs H'=>m=as.length-i/\i<=as.length/\j.take lo=Y/\∃S acc,vs.length=acc.length/\acc.length<=i/\Bd c j H' S (vs.reverse.map some++(T++B)) (acc.reverse.map Sl.fr++(P.map Sl.fr++θ))/\bK G mt me (as.drop i) acc S=some (ys,Z'),
  ⟨_,rfl,VM _,by rw[<-I,List.take_left],_,[],rfl,VM _,b1.E6,by simpa using ec⟩,?_⟩
 rintro i m j vs H' ⟨rfl,hi,htk,S,acc,lv,la,C,t⟩;refine⟨by have:=jK;omega,?_⟩;obtain⟨i1,i2⟩:=it j H' S (vs.reverse.map some) (acc.reverse.map Sl.fr) i (by simp[lv]) C;by_cases o:i<as.length
 .have hd:as.drop i=as[i]::as.drop (i+1):=Vx o;rw[hd] at t;obtain⟨go,yl⟩:=i2 as[i] (by simp[o]);refine .inr ⟨go,λL r K=>L.take lo=Y/\∃Y' h,r.length=h.length/\h.length<=i+1/\Bd c L K Y' (r.reverse.map some++(T++B)) (h.reverse.map Sl.fr++(P.map Sl.fr++θ))/\bK G mt me (as.drop (i+1)) h Y'=some (ys,Z'),
   λL r K ⟨q0,Y',h,q1,q2,q3,q4⟩=>⟨as.length-(i+1),by omega,rfl,o,q0,Y',h,q1,q2,q3,q4⟩,λx K y=>?_⟩
  have b2:=yl x K y;have fin:∀{Y' V:List Sl}{k:Bool},G as[i] S=some Y'->mt Y'=some (.ok k,V)->(∀R O,R.take lo=Y->Bd c R O V (vs.reverse.map some++(T++B)) (acc.reverse.map Sl.fr++(P.map Sl.fr++θ))->if k=true then il (kx X) jC me R O λv s=>R.take lo=Y/\∃Y' h,(vs++[v]).length=h.length/\h.length<=i+1/\Bd c R s Y' ((vs++[v]).reverse.map some++(T++B)) (h.reverse.map Sl.fr++(P.map Sl.fr++θ))/\bK G mt me (as.drop (i+1)) h Y'=some (ys,Z') else R.take lo=Y/\∃Y' h,vs.length=h.length/\h.length<=i+1/\Bd c R O Y' (vs.reverse.map some++(T++B)) (h.reverse.map Sl.fr++(P.map Sl.fr++θ))/\bK G mt me (as.drop (i+1)) h Y'=some (ys,Z'))->N8 (kx X) lo G x j K λR d=>wW (kx X) jC mt R d λk O=>if k=true then il (kx X) jC me R O λv s=>R.take lo=Y/\∃Y' h,(vs++[v]).length=h.length/\h.length<=i+1/\Bd c R s Y' ((vs++[v]).reverse.map some++(T++B)) (h.reverse.map Sl.fr++(P.map Sl.fr++θ))/\bK G mt me (as.drop (i+1)) h Y'=some (ys,Z') else R.take lo=Y/\∃Y' h,vs.length=h.length/\h.length<=i+1/\Bd c R O Y' (vs.reverse.map some++(T++B)) (h.reverse.map Sl.fr++(P.map Sl.fr++θ))/\bK G mt me (as.drop (i+1)) h Y'=some (ys,Z'):=
   λw l f=>⟨c,S,_,_,as[i],_,ek,b2,w,λR d z l3 b3=>⟨c,_,_,_,.ok _,_,ek,b3,l,λO g=>f R O (z.trans htk) g⟩⟩
  cases zd t with
  |skip w l t=>exact fin w l λR O z g=>⟨z,_,acc,lv,by omega,g,t⟩
  |take w l ee ef t=>exact fin w l λR O z g=>⟨c,_,_,_,_,_,ek,g,ee,λv s hv b5=>⟨z,_,_,by simp[lv],by simp;omega,by simpa using Bd.a8 (xs:=[]) (ss:=[]) rfl b5 hv ef,t⟩⟩
 .have e:i=as.length:=by omega
  subst e;rw[We] at t;cases t;refine .inl ⟨i1 (U2 _),λp hp=>?_⟩;have b7:=Bd.By C (by simp[lv]) hp vs ys wG;have b8:=Bd.nR (by simp[li]) b7;have es:j=Y++j.drop lo:=by rw[<-htk];exact(VO _ _).symm
  rw[es] at b8;have b9:=b8.R8;rw[N] at b9;exact q _ _ trivial b9
theorem pW{n:Nat}{a:Mi (List A)}{G:Mg}(Y:St)(H:Hp)(Q:VK)(I:Y.length=lo)(h:il (kx X) E (cA n a G mt me) Y H Q):
  uO n (TH (kx X) E a) (N8 (kx X) lo G) (wW (kx X) jC mt) (il (kx X) jC me) Y H Q:=by
 obtain⟨c,Z,B,θ,o,O,ek,b,em,q⟩:=h;rcases bind_some em with ⟨as,U,e1,e2⟩|⟨e,e1,e2⟩
 .refine⟨c,Z,B,θ,_,U,ek,b,e1,λJ r T P x it b1=>?_⟩;split at e2
  .rename_i v;cases V:bK G mt me as [] (U++Vd n .un) with
   |none=>simp only[V] at e2;cases e2
   |some p=>obtain⟨ys,Z'⟩:=p;simp only[V] at e2;cases e2;exact jv I ek x (λY H Z F D i l b=>it c Y H Z F D B θ i ek l b) b1 v V q
  .cases e2
 .subst e2;exact⟨c,Z,B,θ,_,O,ek,b,e1,λC r hm b1=>q C r hm b1⟩
theorem Fv{sc:Scope}{mi:Mi (List A)}{G:Mg}(hc:X.calm=true)(S:fj X.N N k sc X.env.scope)(hlo:X.N.length=lo)(hi:JI X E tg iter mi)
  (hg:∀cl C s H fp,JG (ib X N sc cl C s H fp) lo tg G)(ht:∀cl C s H fp,JF (ib X N sc cl C s H fp) jC ifs mt)(he:∀cl C s H fp,JE (ib X N sc cl C s H fp) jC elt me)(hs:∀x,foldedSetIterable iter X.env x=pure x:=by intro _;rfl):
  JE X E (.ListComp elt [⟨tg,iter,ifs,0⟩] sc pos) (cA k mi G mt me):=
 ⟨λpins s Y H Q I h=>qO hc S hi.p (λcl C s H fp=>(hg cl C s H fp).p) (λcl C s H fp=>(ht cl C s H fp).p) (λcl C s H fp=>(he cl C s H fp).p) hs pins s Y H Q I (pW Y H Q (I.len.trans hlo) h)⟩
theorem E2{spos:Pos}{sc:Scope}{mi:Mi (List A)}{G:Mg}(hc:X.calm=true)(S:fj X.N N k sc X.env.scope)(hlo:X.N.length=lo)(hN:X.N.Nodup)(hx:X.N[i]?=some x)
  (hl:X.env.scope.names.lookup x=some .local)(hsw:swapsWith (.ListComp elt [⟨tg,iter,ifs,0⟩] sc pos) (some (.Name x px)) spos.line X.env=pure true)(hi:JI X E tg iter mi)
  (hg:∀cl C s H fp,JG (ib X N sc cl C s H fp) lo tg G)(ht:∀cl C s H fp,JF (ib X N sc cl C s H fp) jC ifs mt)(he:∀cl C s H fp,JE (ib X N sc cl C s H fp) jC elt me)(hs:∀x,foldedSetIterable iter X.env x=pure x:=by intro _;rfl):
  JS X E (.Assign [.Name x px] (.ListComp elt [⟨tg,iter,ifs,0⟩] sc pos) spos) (aG i (cA k mi G mt me)):=
 ⟨λpins s Y H D I h=>HC hc S hN hx hl hsw hi.p (λcl C s H fp=>(hg cl C s H fp).p) (λcl C s H fp=>(ht cl C s H fp).p) (λcl C s H fp=>(he cl C s H fp).p) hs pins s Y H D I (by
  obtain⟨c,Z,B,θ,f,O,ek,b,em,q⟩:=h;refine pW (E:=E) Y H _ (I.len.trans hlo) (fM ek b em q λr v U H1 hv b1 em1=>?_);cases e1:xF r U with
  |none=>simp only[e1] at em1;cases em1
  |some p=>
   obtain⟨t,Z'⟩:=p;simp only[e1] at em1;obtain⟨b2,ht⟩:=Bd.xF hv b1 e1;cases e2:put i t Z' with
   |none=>simp only[e2] at em1;cases em1
   | some Y'=>simp only[e2] at em1;cases em1;exact q _ H1 (Bd.put b2 ht e2))⟩
noncomputable def aL(Z:List Sl)(i:Nat):Option LO:=match Z[i]? with
 |some (.lv o)=>some o
 |some (.pv o)=>some o
 |_=>none
noncomputable def setAt(Z:List Sl)(i:Nat)(o:LO):List Sl:=match Z[i]? with
 |some (.pv _)=>Z.set i (.pv o)
 |_=>Z.set i (.lv o)
theorem eA.live(b:eA c Y H Z B θ L)(h:aL Z i=some o)(o':LO)(u:HO):
  ∃p,Y[i]?=some (some (.ref p))/\LR c.toKx (c.g H L) H p o/\((∀H',H' p=some u->LR c.toKx (c.g H L) H' p o')->Bd c Y (upd H p u) (setAt Z i o') B θ):=by
 unfold aL at h;unfold setAt;cases es:Z[i]? with
 |none=>simp only[es] at h;cases h
 |some s=>
  cases s with
  |un=>simp only[es] at h;cases h
  |fr a=>simp only[es] at h;cases h
  |lv K=>simp only[es] at h;cases h;exact b.change es (.inl ⟨rfl,rfl⟩)
  |pv K=>simp only[es] at h;cases h;exact b.change es (.inr ⟨rfl,rfl⟩)
theorem Bd.sX{a:A}(b:Bd c Y H Z (some v::B) (.fr a::θ)):∃L,eA c Y H Z B θ L/\RA c.toKx (c.g H L) v a:=by obtain⟨L,bl,r⟩:=Bd.dz (vs:=[v]) (as:=[a]) b rfl;cases r with|cons h _=>exact⟨L,bl,h⟩
def dN(i:Nat)(m:Mi Rr):Mi Rr:=aF m λr Z=>match a8 r Z with
 |some (a,U)=>match aL U i with
  |some (.lst xs)=>if xs.length<=100000 then some (.ok (.fr .non),setAt U i (.lst (xs++[a]))) else none
  |_=>none
 |none=>none
theorem iZ{xs:List A}(b:Bd c Y H Z B θ)(h:aL Z i=some (.lst xs)):∃p vs,Y[i]?=some (some (.ref p))/\H p=some (.lst vs):=by obtain⟨L,b⟩:=b;obtain⟨p,h1,h2,_⟩:=b.live h (.lst xs) (.lst []);cases h2 with|lst e r=>exact⟨p,_,h1,e⟩
def LC(Z:List Sl)(i:Nat):Bool:=match aL Z i with
 |some (.lst _)=>true
 |_=>false
def iJ(i:Nat)(m:Mi Rr):Mi Rr:=λZ=>if LC Z i then m Z else none
theorem o9(h:LC Z i=true):∃xs,aL Z i=some (.lst xs):=by
 unfold LC at h;cases e:aL Z i with
 |none=>rw[e] at h;cases h
 |some o=>cases o with
  |lst xs=>exact⟨xs,rfl⟩
  |aP _=>rw[e] at h;cases h
  |obj _ _=>rw[e] at h;cases h
theorem yY(hN:X.N[i]?=some x)(hv:uY X.env.scope x)(hd:gu x)(hcd:zz x)(he:JE X E e m)
  (hbase:attributeBase (.Name x px) "append" X.env (eval (.Name x px) X.env)=eval (.Name x px) X.env:=by rfl)
  (hfew:((backTo cpos (starEach [e] X.env)).all (λx=>!x.1)&&(backToKw cpos (keywordEach [] X.env)).all (λx=>x.1.isSome)&&decide (([e]:List Expr).length+([]:List Keyword).length+(if ([]:List Keyword).isEmpty then 0 else 1)<30))=true:=by rfl)
  (hline:(apos.endLine==cpos.line)=true:=by rfl)(hs:starEach [e] X.env=(false,eval e X.env)::starEach [] X.env:=by rfl)(hplain:(backTo cpos (starEach [] X.env)).any (·.1)=false:=by rfl):
  JE X E (.Call (.Attribute (.Name x px) "append" apos) [e] [] cpos) (iJ i (dN i m)):=
 ⟨PE.weaken (yG WB PySem.F.slot_list_append PySem.F.type_list_append zR (eB hN hv hd hcd) (bu he.p dq hs) hbase hfew hline hs hplain) λY H Q h=>by
  obtain⟨c,Z,B,θ,o,O,ek,b,em,q⟩:=h;unfold iJ at em;split at em
  .rename_i hl;obtain⟨xs0,hl⟩:=o9 hl;obtain⟨p,vs,hp,hH⟩:=iZ b hl;refine⟨_,hp,.inl ⟨rfl,vs,.inl (.inl hH)⟩,?_⟩;refine aR ek b em (λr v U H1 hv b1 em1=>?_) (aQ q);cases e1:a8 r U with
   |none=>simp only[e1] at em1;cases em1
   |some pr=>
    obtain⟨a,Z'⟩:=pr;simp only[e1] at em1;have b2:=Bd.a8 (xs:=[]) (ss:=[]) rfl b1 hv e1;cases e2:aL Z' i with
    |none=>simp only[e2] at em1;cases em1
    |some lo=>
     cases lo with
     |aP _=>simp only[e2] at em1;cases em1
     |obj _ _=>simp only[e2] at em1;cases em1
     |lst xs=>
      simp only[e2] at em1;split at em1
      .rename_i hx;cases em1;obtain⟨L,bl,ra⟩:=Bd.sX b2;obtain⟨p',h1,h2,h3⟩:=bl.live e2 (.lst (xs++[a])) (.lst ((match H1 p with|some (.lst ws)=>ws|_=>[])++[v]));rw[hp] at h1;cases h1;cases h2 with
       |lst e rr=>rename_i ws;simp only[e] at h3;refine⟨p,ws,v,rfl,rfl,e,by have:=rr.len;have:=nE;omega,q _ _ trivial (Bd.push (h3 λH' hh=>.lst hh (rr.snoc ra)) λ_=>.non)⟩
      .cases em1
  .cases em⟩
def ou(i:Nat)(mk m:Mi Rr):Ms:=cH m λr S=>if LC S i then cH mk (λrk=>λZ=>match a8 r Z with
 |some (a,U)=>match res U rk,aL U i with
  |some (.int k),some (.lst xs)=>match uP xs.length k with
   |some j=>some (.nx,setAt U i (.lst (xs.set j a)))
   |none=>none
  |_,_=>none
 | none=>none) S else none
theorem BB(l:X.N[i]?=some x)(A:uY X.env.scope x)(hd:gu x)(S:zz x)(hk:JE X E ek mk)(he:JE X E e m)
  (hp:∀{to G I:TE},PE X (.Name x px) to->PE X ek G->PE X e I->PS X (.Assign [.Subscript (.Name x px) ek p1] e pos) (BV I (Rn to G Jl))):JS X E (.Assign [.Subscript (.Name x px) ek p1] e pos) (ou i mk m):=
 ⟨PS.weaken (hp (eB l A hd S) hk.p he.p) λD Y H h=>by
  obtain⟨c,Z,B,θ,f,O,ek,b,em,q⟩:=h;refine fM ek b em q λr v U H1 A b1 u=>?_;split at u
  .rename_i hl;obtain⟨J,hl⟩:=o9 hl;obtain⟨p,vs,hp,hH⟩:=iZ b1 hl;refine⟨_,hp,?_⟩;rcases bE u with ⟨rk,Z',e1,e2⟩|⟨ee,e1,e2⟩
   .refine⟨c,U,_,_,_,Z',ek,b1,e1,λw t K b2=>?_⟩;cases V:a8 r Z' with
    |none=>simp only[V] at e2;cases e2
    |some pr=>
     obtain⟨a,Y'⟩:=pr;simp only[V] at e2;have R:Bd c Y t Y' (bH rk w (some v::B)) (bG rk (.fr a::θ.map Sl.fr)):=by obtain⟨g,s,P⟩:=eU rk w (bH r v B) (bG r (θ.map Sl.fr));obtain⟨n,F,_⟩:=eU rk w (some v::B) (.fr a::θ.map Sl.fr);rw[n,F];rw[g,s] at b2;exact Bd.a8 P b2 A V
     cases Q:res Y' rk with
     |none=>simp only[Q] at e2;cases e2
     |some d=>
      cases d<;>first|(simp only[Q] at e2;cases e2;done)|skip
      rename_i k;have o:=Bd.rd R K Q;cases o;cases T:aL Y' i with
      |none=>simp only[Q,T] at e2;cases e2
      |some lo=>
       cases lo with
       |aP _=>simp only[Q,T] at e2;cases e2
       |obj _ _=>simp only[Q,T] at e2;cases e2
       |lst xs=>
        simp only[Q,T] at e2;cases y:uP xs.length k with
        |none=>simp only[y] at e2;cases e2
        |some j=>
         simp only[y] at e2;cases e2;obtain⟨L,bl,ra⟩:=Bd.sX R.drop;obtain⟨p',h1,h2,h3⟩:=bl.live T (.lst (xs.set j a)) (.lst ((match t p with|some (.lst ws)=>ws|_=>[]).set j v));rw[hp] at h1;cases h1;cases h2 with
         |lst e z=>rename_i ws;simp only[e] at h3;exact⟨p,ws,k,j,rfl,rfl,e,by rw[z.len];exact y,q Y _ (h3 λH' hh=>.lst hh (z.set ra j))⟩
   .subst e2;exact⟨c,U,_,_,_,O,ek,b1,e1,λC t hm b2=>q C Y t hm b2.drop⟩
  .cases u⟩
def yS(Z:List Sl)(i:Nat):Bool:=match aL Z i with
 |some (.aP _)=>true
 |_=>false
theorem pU(h:yS Z i=true):∃xs,aL Z i=some (.aP xs):=by
 unfold yS at h;cases e:aL Z i with
 |none=>rw[e] at h;cases h
 |some o=>cases o with
  |aP xs=>exact⟨xs,rfl⟩
  |lst _=>rw[e] at h;cases h
  |obj _ _=>rw[e] at h;cases h
theorem m9{xs:List (Key×A)}(b:Bd c Y H Z B θ)(h:aL Z i=some (.aP xs)):∃p vs,Y[i]?=some (some (.ref p))/\H p=some (.dK vs):=by obtain⟨L,b⟩:=b;obtain⟨p,h1,h2,_⟩:=b.live h (.aP xs) (.lst []);cases h2 with|aP e r=>exact⟨p,_,h1,e⟩
def hV(i:Nat)(mk m:Mi Rr):Ms:=cH m λr S=>if yS S i then cH mk (λrk=>λZ=>match a8 r Z with
 |some (a,U)=>match res U rk,aL U i with
  |some ka,some (.aP kvs)=>match gB ka with
   |some y=>if kvs.length<=100000 then some (.nx,setAt U i (.aP (jD kvs y a))) else none
   |none=>none
  |_,_=>none
 | none=>none) S else none
theorem HK(hu:X.A.units+1<cLine)(hN:X.N[i]?=some x)(hv:uY X.env.scope x)(hd:gu x)(hcd:zz x)(hk:JE X E ek mk)(he:JE X E e m)
  (hs:swapsWith e (some (.Subscript (.Name x px) ek p1)) pos.line X.env=pure false:=by rfl):JS X E (.Assign [.Subscript (.Name x px) ek p1] e pos) (hV i mk m):=
 ⟨PS.weaken (Hq hu (eB hN hv hd hcd) hk.p he.p hs) λD Y H h=>by
  obtain⟨c,Z,B,θ,f,O,ek,b,em,q⟩:=h;refine fM ek b em q λr v U H1 hv b1 em1=>?_;split at em1
  .rename_i hl;obtain⟨xs0,hl⟩:=pU hl;obtain⟨p,vs,hp,hH⟩:=m9 b1 hl;refine⟨_,hp,?_⟩;rcases bE em1 with ⟨rk,Z',e1,e2⟩|⟨ee,e1,e2⟩
   .refine⟨c,U,_,_,_,Z',ek,b1,e1,λw H2 hw b2=>?_⟩;cases ef:a8 r Z' with
    |none=>simp only[ef] at e2;cases e2
    |some pr=>
     obtain⟨a,Y'⟩:=pr;simp only[ef] at e2;have b3:Bd c Y H2 Y' (bH rk w (some v::B)) (bG rk (.fr a::θ.map Sl.fr)):=by obtain⟨g1,g2,g3⟩:=eU rk w (bH r v B) (bG r (θ.map Sl.fr));obtain⟨g4,g5,_⟩:=eU rk w (some v::B) (.fr a::θ.map Sl.fr);rw[g4,g5];rw[g1,g2] at b2;exact Bd.a8 g3 b2 hv ef
     cases er:res Y' rk with
     |none=>simp only[er] at e2;cases e2
     |some ka=>
      have rk':=Bd.rd b3 hw er;cases el:aL Y' i with
      |none=>simp only[er,el] at e2;cases e2
      |some lo=>
       cases lo with
       |lst _=>simp only[er,el] at e2;cases e2
       |obj _ _=>simp only[er,el] at e2;cases e2
       |aP kvs=>
        simp only[er,el] at e2;cases ej:gB ka with
        |none=>simp only[ej] at e2;cases e2
        |some y=>
         simp only[ej] at e2;split at e2
         .rename_i h100;cases e2;obtain⟨L,bl,ra⟩:=Bd.sX b3.drop;obtain⟨p',h1,h2,h3⟩:=bl.live el (.aP (jD kvs y a)) (.dK (putK (match H2 p with|some (.dK ws)=>ws|_=>[]) y v));rw[hp] at h1;cases h1;cases h2 with
          |aP e rr=>rename_i ws;simp only[e] at h3;exact⟨p,_,rfl,.inl ⟨ws,y,e,jf rk' ej,by have:=rr.len;have:=nE;omega,rfl⟩,q Y _ (h3 λH' hh=>.aP hh (rr.put y ra))⟩
         .cases e2
   .subst e2;exact⟨c,U,_,_,_,O,ek,b1,e1,λC H2 hm b2=>q C Y H2 hm b2.drop⟩
  .cases em1⟩
noncomputable def pX:Mi Rr:=λZ=>some (.ok (.nw (.aP [])),Z)
theorem GU{pos}:JE X E (.Dict [] [] pos) pX:=⟨PE.weaken Dp λY H Q h=>by obtain⟨c,Z,B,θ,o,O,ek,b,em,q⟩:=h;cases em;intro p hp;obtain⟨L,bl⟩:=b;exact q _ _ trivial (bl.fZ hp λG H' sm a=>.aP a .nil)⟩
def nT(Y mk H:Mi Rr):Mi Rr:=aF Y λd S=>match res S d with
 | some (.aP _)=>aF mk (λk=>aF H λx=>λZ=>match res Z d,res Z k with
  |some (.aP kvs),some ka=>match gB ka with
   |some y=>match gp kvs y with
    |some a=>some (.ok (.fr a),Z)
    |none=>match a8 x Z with
     |some (a,U)=>some (.ok (.fr a),U)
     |none=>none
   |none=>none
  | _,_=>none) S
 |_=>none
theorem Ia{o f:Expr}{J r:Mi Rr}(I:X.A.units+1<cLine)(ho:JE X E o J)(he:JE X E e mk)(hf:JE X E f r)(m:M2 X o "get" apos e f cpos):JE X E (.Call (.Attribute o "get" apos) [e,f] [] cpos) (nT J mk r):=
 ⟨PE.weaken (B2 I ho.p he.p hf.p m) λY H Q h=>by
  obtain⟨c,Z,B,θ,o,O,ek,b,em,q⟩:=h;refine aR ek b em (λd v U H1 K b1 T=>?_) (aQ q);cases j:res U d with
  |none=>simp only[j] at T;cases T
  |some a0=>
   cases a0<;>first|(simp only[j] at T;cases T;done)|skip
   rename_i t;simp only[j] at T;obtain⟨L0,i,P⟩:=Bd.open b1 K j;obtain⟨p,G,rfl,n,_⟩:=P.2.2 t rfl;refine⟨p,rfl,.inl ⟨G,n⟩,?_⟩;refine aR ek b1 T (λk w Z' H2 N b2 s=>?_) (dZ (aQ q));refine aR ek b2 s (λx z Y' C hz R D=>?_) (dZ (dZ (aQ q)));cases e1:res Y' d with
   |none=>simp only[e1] at D;cases D
   |some F=>
    cases F<;>first|(simp only[e1] at D;cases D;done)|skip
    rename_i kvs;cases e2:res Y' k with
    |none=>simp only[e1,e2] at D;cases D
    |some ka=>
     simp only[e1,e2] at D;cases S:gB ka with
     |none=>simp only[S] at D;cases D
     |some y=>
      simp only[S] at D;have rk:=Bd.rd R.drop N e2;obtain⟨L,bl,i1,_⟩:=Bd.tS R.drop K N e1 e2;obtain⟨p',vs,ep,s1,rr⟩:=i1.2.2 kvs rfl;cases ep;rcases rr.get y with ⟨u,a,h1,h2,h3⟩|⟨h1,h2⟩
      .simp only[h2] at D;cases D;exact⟨some u,.inl ⟨vs,y,s1,jf rk S,h1.symm⟩,q u C trivial (bl.push h3)⟩
      .simp only[h2] at D;cases l:a8 x Y' with
       |none=>simp only[l] at D;cases D
       |some pr=>
        obtain⟨a,V⟩:=pr;simp only[l] at D;cases D;have g:=Bd.a8 (xs:=[]) (ss:=[]) rfl R hz l;refine⟨none,.inl ⟨vs,y,s1,jf rk S,h1.symm⟩,q z C trivial ?_⟩;obtain⟨g1,g2,g3⟩:=eU k w (bH d (.ref p) B) (bG d θ);obtain⟨g4,g5,g6⟩:=eU d (.ref p) B θ;have g:Bd c Y C O (some z::((bH k w []++bH d (.ref p) [])++B)) (.fr a::((bG k []++bG d [])++θ)):=by have:=g;rw[g1,g4,g2,g5] at this;simpa[U0] using this
        exact Bd.nR (by simp[g3,g6]) g⟩
def eI(x:Str)(m:Mi (List Rr)):Ms:=cH m λrs Z=>if rs.length<=10 then some (.ex x,Z) else none
theorem CC{C:Addr}{m:Mi (List Rr)}{np:Pos}(xc:Xc X E)(hc:X.calm=true)(hg:Gl X x)(hm:X.mg x=some (.ref C))(hex:WT X.K C wZ "ValueError.__new__" = true)(ha:JA X E (e::es) m)(hd:gu x)
  (he:starEach (e::es) X.env=(false,eval e X.env)::starEach es X.env:=by rfl)(hpl:(backTo cpos (starEach es X.env)).any (·.1)=false:=by rfl):JS X E (.Raise (some (.Call (.Name x np) (e::es) [] cpos)) none pos) (eI x m):=
 ⟨PS.weaken (Eu xc hc hg hm hex ha.p hd he hpl) λD Y H h=>by
  obtain⟨c,Z,B,θ,f,O,ek,b,em,q⟩:=h;rcases bE em with ⟨rs,U,e1,e2⟩|⟨ee,e1,e2⟩
  .split at e2
   .rename_i hl;cases e2;exact⟨c,Z,B,_,_,_,ek,b,e1,λvs H1 hv b1=>⟨by have:=hv.len;have:=jK;omega,q C Y H1 hm (Bd.drops hv.len b1)⟩⟩
   .cases e2
  .subst e2;exact⟨c,Z,B,_,_,O,ek,b,e1,λC' H1 hm' b1=>q C' Y H1 hm' b1⟩⟩
end
variable{d:Addr}{ob:Obj}
section
variable{X:Cx}{E:XK}
noncomputable def Kv:Key->A
 | .inl i=>.int i
 | .inr x=>.str x
section
variable{c:Cn}{Y:St}{H:Hp}{Z:List Sl}{B:St}{θ:List Sl}
theorem Bd.Ti{vs:List (Key×V)}(b:eA c Y H Z B θ L)(hd:H d=some (.dK vs))(E:d∉L)(D:d∉c.Hd):
  Bd { c with Wk:=(d,.frz ob (.dK vs))::c.Wk } Y (upd H d (.frz ob (.dK vs))) Z B θ:=by
 have sm:Sq (c.g H L) (c.g (upd H d (.frz ob (.dK vs))) L):=λa u e=>by
  by_cases z:a∈L\/a∈c.Hd
  .rw[gP z] at e;cases e
  .rw[bz (λy=>z (.inl y)) (λy=>z (.inr y))] at e;rw[bz (λy=>z (.inl y)) (λy=>z (.inr y))];by_cases y:a=d
   .subst y;rw[hd] at e;cases e;exact⟨_,aI,.inr ⟨vs,rfl,rfl⟩⟩
   .rw[au y];exact⟨u,e,.inl rfl⟩
 refine⟨L,b.nd,?_,b.own,⟨λq u e=>?_,λq j=>?_⟩,b.kp,b.lt,b.hd⟩
 .exact b.rel.sm sm λq j u e=>by rw[au λy=>E (by rw[<-y];exact j)];exact e
 .obtain⟨x,h1,h2⟩:=b.fr.st q u e;by_cases y:q=d
  .subst y;exact⟨_,aI,λ_ nw=>absurd U9 (nw _)⟩
  .exact⟨x,by rw[au y];exact h1,λnp nw=>h2 np λw m=>nw w (UW _ m)⟩
 .rcases U5.mp j with z|z
  .subst z;exact⟨aI,⟨ob,vs,rfl⟩,D⟩
  .obtain⟨h1,⟨v,h,h2⟩,h3⟩:=b.fr.pk q z;refine⟨?_,⟨v,h,h2⟩,h3⟩;rw[au λy=>?_]
   .exact h1
   .rw[y,hd,h2] at h1;cases h1
theorem Bd.loose{vs:List (Key×V)}(b:Bd { c with Wk:=(d,.frz ob (.dK vs))::c.Wk } Y H Z B θ)(nw:∀w,(d,w)∉c.Wk)(x:∀o,c.H0 d=some o->d∉c.Lp->o=.dK vs):H d=some (.frz ob (.dK vs))/\Bd c Y (upd H d (.dK vs)) Z B θ:=by
 obtain⟨L,b⟩:=b;obtain⟨hd,_,D⟩:=b.fr.pk _ U9;have hd:H d=some (.frz ob (.dK vs)):=hd;have D:d∉c.Hd:=D;have E:d∉L:=λz=>b.rel.xJ d z ob vs hd;have sm:Sq (c.g H L) (c.g (upd H d (.dK vs)) L):=λa u e=>by
  by_cases z:a∈L\/a∈c.Hd
  .rw[gP z] at e;cases e
  .rw[bz (λy=>z (.inl y)) (λy=>z (.inr y))] at e;rw[bz (λy=>z (.inl y)) (λy=>z (.inr y))];by_cases y:a=d
   .subst y;rw[hd] at e;cases e;exact⟨_,aI,.inr ⟨vs,rfl,rfl⟩⟩
   .rw[au y];exact⟨u,e,.inl rfl⟩
 refine⟨hd,L,b.nd,?_,b.own,⟨λq u e=>?_,λq j=>?_⟩,b.kp,b.lt,b.hd⟩
 .have rel:aB c.toKx (c.g H L) H (B++Y) (θ++Z) L:=b.rel;exact rel.sm sm λq j u e=>by rw[au λy=>E (by rw[<-y];exact j)];exact e
 .obtain⟨U,h1,h2⟩:=b.fr.st q u e;by_cases y:q=d
  .subst y;exact⟨_,aI,λnp _=>(x u e np).symm⟩
  .refine⟨U,by rw[au y];exact h1,λnp v=>h2 np λw m=>?_⟩;rcases U5.mp m with z|z
   .cases z;exact y rfl
   .exact v w z
 .obtain⟨h1,⟨h,p,h2⟩,h3⟩:=b.fr.pk q (UW _ j);refine⟨?_,⟨h,p,h2⟩,h3⟩;rw[au λy=>?_]
  .exact h1
  .exact nw q.2 (by rw[<-y];exact j)
theorem Bd.pin{vs:List (Key×V)}(b:eA c Y H Z B θ L)(hd:H d=some (.frz ob (.dK vs)))(D:d∉c.Hd):Bd { c with Wk:=(d,.frz ob (.dK vs))::c.Wk } Y H Z B θ:=by
 refine⟨L,b.nd,b.rel,b.own,⟨λq u e=>?_,λq j=>?_⟩,b.kp,b.lt,b.hd⟩
 .obtain⟨x,h1,h2⟩:=b.fr.st q u e;exact⟨x,h1,λnp nw=>h2 np λw m=>nw w (UW _ m)⟩
 .rcases U5.mp j with z|z
  .subst z;exact⟨hd,⟨ob,vs,rfl⟩,D⟩
  .exact b.fr.pk q z
theorem Bd.Ot{vs:List (Key×V)}(b:Bd { c with Wk:=(d,.frz ob (.dK vs))::c.Wk } Y H Z B θ)(h:∀o,c.H0 d=some o->d∉c.Lp->(∀w,(d,w)∉c.Wk)->o=.frz ob (.dK vs)):Bd c Y H Z B θ:=by
 obtain⟨L,b⟩:=b;obtain⟨hd,_,D⟩:=b.fr.pk _ U9;have hd:H d=some (.frz ob (.dK vs)):=hd;refine⟨L,b.nd,b.rel,b.own,⟨λq u e=>?_,λq j=>b.fr.pk q (UW _ j)⟩,b.kp,b.lt,b.hd⟩;obtain⟨x,h1,h2⟩:=b.fr.st q u e;by_cases y:q=d
 .subst y;exact⟨_,hd,λnp nw=>(h u e np nw).symm⟩
 .refine⟨x,h1,λnp v=>h2 np λw m=>?_⟩;rcases U5.mp m with z|z
  .cases z;exact y rfl
  .exact v w z
end
end
noncomputable def vj(a b:Str):Bool:=!Zg b.cps.toList a.cps.toList
def cD(l:List Str):List Str:=l.mergeSort vj
theorem rG(a b:Str):vj a b=decide (¬ b.cps.toList<a.cps.toList):=by unfold vj;rw[PyProof.Rows.ltCps_eq,decide_not]
theorem pM(a b c:Str)(h1:vj a b=true)(h2:vj b c=true):vj a c=true:=by rw[rG,decide_eq_true_eq] at *;intro h;exact(PyProof.Rows.strKind.negTrans c.cps.toList b.cps.toList a.cps.toList (decide_eq_true h)).elim (λh=>h2 (of_decide_eq_true h)) (λh=>h1 (of_decide_eq_true h))
theorem Af(a b:Str):(vj a b || vj b a)=true:=by
 rw[V0,rG,rG,decide_eq_true_eq,decide_eq_true_eq];by_cases h:b.cps.toList<a.cps.toList
 .exact .inr (List.lt_asymm h)
 .exact .inl h
theorem uo{a b:Str}(h1:vj a b=true)(h2:vj b a=true):a=b:=by rw[rG,decide_eq_true_eq] at *;have:a.cps.toList=b.cps.toList:=List.le_antisymm (List.not_lt.mp h1) (List.not_lt.mp h2);cases a;cases b;simp only[YW.mk.injEq];exact ZW.mp this
theorem cu(l:List Str):(cD l).Perm l:=List.mergeSort_perm l vj
theorem nV(l:List Str):(cD l).Pairwise (λa b=>vj a b=true):=List.pairwise_mergeSort pM Af l
theorem wa{ss:List Str}(h:Xk ss=true):ss.Pairwise (λa b=>vj a b=true):=by
 have Z:∀(l:List Str)(p:Str),Yz p l=true->(∀q∈l,vj p q=true)/\l.Pairwise (λa b=>vj a b=true):=by
  intro l;induction l with
  |nil=>intro p _;exact⟨λq j=>(by cases j),.nil⟩
  |cons q l o=>
   intro p hp;have hp:(!Zg q.cps.toList p.cps.toList&&Yz q l)=true:=hp;rw[UO] at hp;obtain⟨s,X⟩:=o q hp.2;refine⟨λr I=>?_,ZN.mpr ⟨s,X⟩⟩;rcases U5.mp I with z|z
   .subst z;exact hp.1
   .exact pM p q r hp.1 (s r z)
 cases ss with
 |nil=>exact .nil
 |cons p l=>obtain⟨s,X⟩:=Z l p h;exact ZN.mpr ⟨s,X⟩
theorem oq{ss l:List Str}(h:Xk ss=true)(pm:ss.Perm l):ss=cD l:=
 (pm.trans (cu l).symm).eq_of_pairwise (λa b _ _ h1 h2=>uo h1 h2) (wa h) (nV l)
noncomputable def jI:List A->Option (List Str)
 |[]=>some []
 | .str x::r=>match jI r with
  |some ss=>some (x::ss)
  |none=>none
 |_=>none
theorem lJ:∀{as:List A}{ss:List Str},jI as=some ss->as=ss.map A.str
 |[],_,h=>by cases h;rfl
 | .str x::r,_,h=>by
  unfold jI at h;cases e:jI r with
  |none=>simp only[e] at h;cases h
  |some ss=>simp only[e] at h;cases h;rw[lJ e];rfl
 | .non::_,_,h=>by cases h
 | .bl _::_,_,h=>by cases h
 | .int _::_,_,h=>by cases h
 | .tup _::_,_,h=>by cases h
 | .lst _::_,_,h=>by cases h
 | .aP _::_,_,h=>by cases h
 | .exc _::_,_,h=>by cases h
theorem uN(ss:List Str):jI (ss.map A.str)=some ss:=by
 induction ss with
 |nil=>rfl
 |cons s ss j=>rw[U3,jI,j]
noncomputable def strKeys:List (Key×A)->Option (List Str)
 |[]=>some []
 |(.inr x,_)::r=>match strKeys r with
  |some ss=>some (x::ss)
  |none=>none
 |_=>none
theorem lQ:∀{as:List (Key×A)}{ss:List Str},strKeys as=some ss->as.map (·.1)=ss.map WC
 |[],_,h=>by cases h;rfl
 |(.inr x,a)::r,_,h=>by
  unfold strKeys at h;cases e:strKeys r with
  |none=>simp only[e] at h;cases h
  |some ss=>simp only[e] at h;cases h;rw[U3,lQ e];rfl
 |(.inl _,_)::_,_,h=>by cases h
section
variable{X:Cx}{E:XK}
def bX:A->Option Rr
 | .lst xs=>match jI xs with
  |some ss=>if ss.length<64 then some (.nw (.lst ((cD ss).map A.str))) else none
  |none=>none
 |_=>none
theorem vJ:lq K (λv=>mW K.K [v]) bX:=by
 intro c Y H Z B θ x v a q Q ek A o e1 e3 k;subst ek;obtain⟨L,bl,s⟩:=Bd.open o A e1;cases a<;>first|(cases e3;done)|skip
 rename_i xs;unfold bX at e3;simp only at e3;cases es:jI xs with
 |none=>simp only[es] at e3;cases e3
 |some ss=>
  simp only[es] at e3;split at e3
  .rename_i R;cases e3;obtain⟨p,vs,rfl,s1,z⟩:=s.1 xs rfl;rw[lJ es] at z;rw[z.strs] at s1;refine⟨p,ss,rfl,.inl s1,R,λr h l pm N7=>?_⟩;rw[oq N7 pm];exact k _ _ trivial (bl.fZ l λG H' sm q=>.lst q (bx.ofStrs _))
  .cases e3
def j7:List V->Hp->VK->Prop:=λxs H Q=>∃(a:Addr)(kvs:List (Key×V))(ss:List Str),xs=[.ref a]/\Rd H a (.dK kvs)/\kvs.map (·.1)=ss.map WC/\ss.length<64/\∀r Y,H r=none->Y.Perm ss->Xk Y=true->Q (.ref r) (upd H r (.lst (Y.map V.str)))
open PySem.Spec PyProof.Rows PySem.W in
theorem rN(hc:X.calm=true):bF X (.builtin "sorted") j7:=by
 intro pins s Y H vs us Q I t h;obtain⟨a,kvs,ss,rfl,hd,ek,p,q⟩:=h;obtain⟨u,rfl,J⟩:=t.one;cases J;obtain⟨hz,lo,vs,T,y⟩:=L2.dS I.hok hd;obtain⟨ep,S⟩:=y.dictAt;have Z:vs.map (·.1)=ss.map WC:=by rw[<-T.keys];exact ek
 have N:vs.length=ss.length:=by have:=congrArg V2 Z;simpa using this
 refine W9 kind_sorted plain_sorted entry_sorted (args_sorted1 _) ?_;unfold Builtin.«sorted»;refine wpAny_bind (m:=checkCount "sorted" 1 1 _) (wpAny_pure ?_);refine wpAny_bind (kdu_collect (A:=X.A.in1) (kdl_dict (knd:=aJ X.prog X.w) (kvs:=vs) (ep:=ep) lo) (I.ok.hd hc) S (by have:=L2.iU;omega) λh' tk acc hk v=>?_);have i:=L2.pR Z v;have k:acc.toList.length=ss.length:=by rw[VF,v.1,N]
 refine wpAny_bind (wpAny_newList ?_ (by have:=L2.iU;omega));have B:(h'.push (seqObj "list" acc.toList.toArray 0)).get? h'.objs.size=some (seqObj "list" acc.toList.toArray 0):=U6 _ rfl;refine wpAny_bind (wpAny_holding (wpAny_call_entry slot_list_sort ⟨_,B,rfl⟩ entry_list_sort (list_sort_treeK strKind_oneLt B i.keysOf (λC D rest e=>keyKind_strs (by rw[<-e];exact i)) (by omega) λR hp P=>⟨_,rfl,?_⟩) (args_list_sort _)));obtain⟨x,b1,b2,L⟩:=sorted_out_str i hp P;obtain⟨e,he⟩:=sortedHeap_at (vs:=acc.toList) (n:=0) (out:=(arrOf R).map (·.2)) B;have hf:∀b o,s.heap.get? b=some o->b≠h'.objs.size:=λb o z=>Vi (U4 (hk b o z));refine wpAny_pure ⟨_,rfl,.ref _,_,I.IU (t':=tk) (a:=h'.objs.size) (o:=.lst (x.map V.str)) (λb o z=>?_) hf ⟨?_,((arrOf R).map (·.2)).toList,e,L2.gT b1,?_⟩,rfl,q _ x (I.rT hf) b2 L⟩
 .rw[sortedHeap_old (hf b o z) (by rw[size_push'];exact Xi (U4 (hk b o z)))];exact UR _ (hk b o z)
 .rw[UP,b2.length_eq];exact Vg (WN p) L2.iU
 .rw[Zn];exact he
def cC:A->Option Rr
 | .aP kvs=>match strKeys kvs with
  |some ss=>if ss.length<64 then some (.nw (.lst ((cD ss).map A.str))) else none
  |none=>none
 |_=>none
theorem wc:lq K (λv=>j7 [v]) cC:=by
 intro c Y H Z B θ x v a q Q ek A o e1 e3 k;subst ek;obtain⟨L,bl,s⟩:=Bd.open o A e1;cases a<;>first|(cases e3;done)|skip
 rename_i kvs;unfold cC at e3;simp only at e3;cases es:strKeys kvs with
 |none=>simp only[es] at e3;cases e3
 |some ss=>
  simp only[es] at e3;split at e3
  .rename_i R;cases e3;obtain⟨p,vs,rfl,s1,z⟩:=s.2.2 kvs rfl;refine⟨p,vs,ss,rfl,s1,by rw[z.keys,lQ es],R,λr h l pm N7=>?_⟩;rw[oq N7 pm];exact k _ _ trivial (bl.fZ l λG H' sm q=>.lst q (bx.ofStrs _))
  .cases e3
noncomputable def sG(f g:A->Option Rr):A->Option Rr:=λa=>match f a with
 |some r=>some r
 |none=>g a
theorem lq.or{r r':V->Hp->VK->Prop}{f g:A->Option Rr}(h:lq K r f)(h':lq K r' g):lq K (λv H Q=>r v H Q\/r' v H Q) (sG f g):=by
 intro c Y H Z B θ x v a q Q ek s o e1 e3 k;unfold sG at e3;cases e:f a with
 |some z=>simp only[e] at e3;cases e3;exact .inl (h c Y H Z B θ x v a _ Q ek s o e1 e k)
 |none=>simp only[e] at e3;exact .inr (h' c Y H Z B θ x v a _ Q ek s o e1 e3 k)
theorem rX(hc:X.calm=true):bF X (.builtin "sorted") (λxs H Q=>mW X.K xs H Q\/j7 xs H Q):=bF.or' (rM hc) (rN hc)
theorem z5:lq K (λv H Q=>mW K.K [v] H Q\/j7 [v] H Q) (sG bX cC):=vJ.or wc
open PySem.Spec PyProof.Rows PySem.W in
def qR:List V->Hp->VK->Prop:=λvs H Q=>∃(a:Addr)(kvs:List (Key×V)),vs=[.ref a]/\Rd H a (.dK kvs)/\∀r,H r=none->Q (.ref r) (upd H r (.dK kvs))
theorem vo:bF X (.type "dict") qR:=by intro pins s Y H vs us Q I t h;obtain⟨a,kvs,rfl,hd,q⟩:=h;obtain⟨u,rfl,J⟩:=t.one;cases J;exact Df I hd λp s' hp Z=>⟨.ref p,_,Z,rfl,q p hp⟩
noncomputable def jX:A->Option Rr
 | .aP kvs=>some (.nw (.aP kvs))
 |_=>none
theorem Dd:lq K (λv=>qR [v]) jX:=by
 intro c Y H Z B θ x v a q Q ek A o e1 e3 k;subst ek;obtain⟨L,bl,s⟩:=Bd.open o A e1;cases a<;>first|(cases e3;done)|skip
 rename_i kvs;cases e3;obtain⟨p,vs,rfl,s1,z⟩:=s.2.2 kvs rfl;exact⟨p,vs,rfl,s1,λr l=>k _ _ trivial (bl.fZ l λG H' sm q=>.aP q (z.sm sm))⟩
end
end M
namespace L2
open PySem PySem.Spec PyProof.Rows
theorem jG{prog:Program}{w:World}{A:Around}{E:Value->Shared->Prop}{s:Shared}{t sl:Addr}{items:Array Value}{H U:Value}{lo hi:Option Int}{Q:Value->Shared->Prop}(i:IsTup s.heap t items)(P:s.heap.IsSliceOf sl H U .none)(pl:IsPart H lo)(Z:IsPart U hi)
  (m:HT.cW items.size 0 lo=0/\HT.cW items.size items.size hi=items.size)(h:Q (.ref t) s):wpAny (model prog w) A (getItem (.ref t) (.ref sl)) Q E s:=by
 obtain⟨os,u,I,v⟩:=id P;have J:s.TypeIs (.ref sl) "slice" := ⟨os,u,I⟩
 unfold getItem
 try with_reducible refine wpAny_holding ?_
 first|refine wpAny_bind (wpAny_pure ?_)|skip
 refine wpAny_bind (wpAny_sequenceKey i.typeIs (by decide) ?_);refine wpAny_bind (wpAny_callSpecial?_slot (name:=Str.ofString "__getitem__") i.typeIs VH
  (wpAny_call_entry VH i.typeIs entry_tuple_getitem ?_ (args_tuple_getitem _ _)))
 show wpAny _ _ (X6 (.ref t) >>= _) _ _ s;refine wpAny_bind (tupleItemsOf_ i ?_);refine wpAny_bind (wpAny_typeOf J ?_);rw[if_pos (by decide)];refine wpAny_bind (HT.gn P pl Z ?_);show wpAny _ _ (if (((HT.cW items.size 0 lo:Nat):Int)==0&&(1:Int)==1&&(HT.cW items.size items.size hi-HT.cW items.size 0 lo)==items.size)=true then _ else _) _ _ s;rw[if_pos (by rw[m.1,m.2];simp)];refine wpAny_bind ?_;unfold zaJ;refine wpAny_bind (wpAny_typeOf i.typeIs (wpAny_pure ?_));rw[if_pos (by decide)];refine wpAny_bind (wpAny_rule ?_);exact wpAny_pure ⟨_,rfl,wpAny_pure h⟩
def SR(K:UN):V->Option Int->Option Int->Hp->VK->Prop:=λx lo hi H Q=>∃a xs,x=.ref a/\iu K H a xs/\(HT.cW xs.length 0 lo=0/\HT.cW xs.length xs.length hi=xs.length)/\Q (.ref a) H
theorem Ih{X:Cx}:i7 X (SR X.K):=by
 intro pins s Y H x v E U lo hi sl Q I b P pl A h;obtain⟨a,xs,rfl,y,m,q⟩:=h;cases b;obtain⟨its,r,i,hz⟩:=I.tuple y;have N:its.toArray.size=xs.length:=by rw[UT];exact r.length.symm
 refine⟨"tuple",_,VH.lookup,i.typeIs,?_⟩;exact jG i P pl A (by rw[N];exact m) ⟨.ref a,H,I,rfl,q⟩
end L2
namespace M
open PySem L2
variable{c:Cn}{Y B:St}{H:Hp}{Z θ:List Sl}{L:List Addr}
theorem eA.Qg{v w:V}{a b:A}(bl:eA c Y H Z B θ L)(h1:RA c.toKx (c.g H L) v a)(h2:RA c.toKx (c.g H L) w b):Bd c Y H Z (some v::some w::B) (.fr a::.fr b::θ):=
 ⟨L,bl.nd,aB.cons (L:=[]) (.fr h1) (aB.cons (L:=[]) (.fr h2) bl.rel),bl.own,bl.fr,bl.kp,by simp[bl.lt],bl.hd⟩
variable{mo m:Mi Rr}{K:Kx}{e:Expr}{apos cpos p2 pos:Pos}{O:List Sl}{Q:Option Int->Hp->Prop}{es:List Expr}{i j:Nat}{α:Type}
section
variable{X:Cx}{E:XK}
def vh(K:UN):V->List V->Hp->VK->Prop:=λx vs H Q=>∃(Y:Str)(l:Addr)(ss:List Str),x=.str Y/\vs=[.ref l]/\g9 K H l (ss.map V.str)/\jW ss+ss.length*Y.length<=100000/\Q (.str (VQ Y ss)) H
theorem oO(Y:Str):∀(ss:List Str)(n:Nat),ss.foldl (λ(a:Nat)(z:Str)=>a+z.length+Y.length) n=n+jW ss+ss.length*Y.length
 |[],n=>by simp[jW]
 |z::ss,n=>by rw[Z9,oO Y ss];have e:jW (z::ss)=z.length+jW ss:=rfl;rw[e,US,Nat.add_mul,Nat.one_mul];omega
open PySem.Spec PyProof.Rows PySem.W in
theorem Cm:R1 X "str.join" (vh X.K):=by
 intro pins s Y H x vs v us Q I G D h;obtain⟨L,l,ss,rfl,rfl,j,hl,q⟩:=h;obtain⟨t,rfl⟩:=G;obtain⟨u,rfl,J⟩:=D.one;cases J;obtain⟨its,r,p,hz⟩:=I.list j;obtain⟨ps,rfl,e2⟩:=L2.jH (L2.oV r);have w:=nE;have O:Xy ((ps.map (·.1)).toArray.foldl (·+·.length+L.length) 0)=false:=by
  have e:(ps.map (·.1)).toArray.foldl (λ(a:Nat)(z:Str)=>a+z.length+L.length) 0=jW ss+ss.length*L.length:=by rw[List.foldl_toArray,oO,e2,Nat.zero_add]
  unfold Xy;rw[e];exact decide_eq_false (by omega)
 refine call_meets F.slot_str_join (typeIs_str _ _ _) F.entry_str_join (F.args_str_join_2 _ _) (meets_str_join_list L t l ps O) ⟨p.isList,?_⟩;have N:(VQ L ss).length<=jW ss+ss.length*L.length:=by rw[size_glued];have:(ss.length-1)*L.length<=ss.length*L.length:=W0 _ (Nat.sub_le _ _);have e:jW ss=(ss.map (·.length)).sum:=rfl;omega
 have Z:∀(z:Str)(t':Tok)(k:Nat),z=VQ L ss->EP X pins Y Q (.str z t') { s with toks:=k }:=λz t' k e=>⟨.str z,H,I.tok _,⟨t',rfl⟩,by rw[e];exact q⟩
 have fin:(Made.str (VQ L (ps.map (·.1)))).post (λv s'=>EP X pins Y Q v s') s:=⟨by rw[e2];omega,Z _ _ _ (by rw[e2])⟩
 cases ps with
 |nil=>exact fin
 |cons a ps=>
  cases ps with
  |nil=>subst e2;exact Z a.1 a.2 s.toks rfl
  |cons b ps=>exact fin
def UM(f:Str->Option Rr)(mo:Mi Rr):Mi Rr:=aF mo λx Z=>match x with
 | .fr (.str z)=>match f z with
  |some r=>some (.ok r,Z)
  |none=>none
 |_=>none
def Oa(f:Str->A->Option Rr)(mo m:Mi Rr):Mi Rr:=aF mo λx S=>match x with
 | .fr (.str z)=>aF m (λy Z=>match res Z y with
  |some a=>match f z a with
   |some r=>some (.ok r,Z)
   |none=>none
  | none=>none) S
 |_=>none
theorem E5{r:V->List V->Hp->VK->Prop}{f:Str->A->Option Rr}(hf:∀z,lq (kx X) (λw=>r (.str z) [w]) (f z))(Y:St)(H:Hp)(Q:VK)(h:il (kx X) E (Oa f mo m) Y H Q):
  il (kx X) E mo Y H λx e=>RY X.K "str" x e/\il (kx X) E m Y e λy p=>r x [y] p Q:=by
 obtain⟨c,Z,B,θ,o,O,F,b,em,q⟩:=h;refine aR F b em (λx v U e L b1 u=>?_) (aQ q);cases x with
 |rf i=>cases u
 |nw o=>cases u
 |fr a=>
  cases a<;>first|(cases u;done)|skip
  rename_i z;have C:=Bd.top b1 (a:=.str z) rfl;cases C;refine⟨rfl,?_⟩;refine aR F b1.pop u (λy w Z' p N b2 s=>?_) (aQ q);obtain⟨a,r,e1,e3,rfl,rfl⟩:=sC s;exact hf z c Y p _ B θ y w a r Q F N b2 e1 e3 q
def lh(Y:Str):A->Option Rr
 | .lst xs=>match jI xs with
  |some ss=>if jW ss+ss.length*Y.length<=100000 then some (.fr (.str (VQ Y ss))) else none
  |none=>none
 |_=>none
theorem FN(Y:Str):lq K (λw=>vh K.K (.str Y) [w]) (lh Y):=.scalar λH v a q i h=>by
 cases a<;>first|(cases h;done)|skip
 rename_i xs;unfold lh at h;simp only at h;cases es:jI xs with
 |none=>simp only[es] at h;cases h
 |some ss=>
  simp only[es] at h;split at h
  .rename_i hl;cases h;cases i with
   |lst e r=>rw[lJ es] at r;rw[r.strs] at e;exact⟨_,_,rfl,λ_=>.str _,λQ k=>⟨Y,_,ss,rfl,rfl,e,hl,k⟩⟩
  .cases h
theorem Fu{o:Expr}(ho:JE X E o mo)(he:JE X E e m)(hp:∀{to I:TE},PE X o to->PE X e I->PE X (.Call (.Attribute o "join" apos) [e] [] cpos) (TK X.K "str" (vh X.K) to (Jq I KY))):
  JE X E (.Call (.Attribute o "join" apos) [e] [] cpos) (Oa lh mo m):=⟨PE.weaken (hp ho.p he.p) λY H Q h=>E5 FN Y H Q h⟩
def ji:Mi (Option Int):=fk none
def ig(m:Mi Rr):Mi (Option Int):=aF m λr Z=>match res Z r with
 |some (.int i)=>some (.ok (some i),Z)
 |_=>none
def Qo(K:Kx)(E:XK)(c:Cn)(Y:St)(Z:List Sl)(B:St)(θ:List Sl)(Q:Option Int->Hp->Prop):Except Str (Option Int)->Prop
 | .ok i=>∀H,Bd c Y H Z B θ->Q i H
 | .error x=>∀C H,K.mg x=some (.ref C)->Bd c Y H Z B θ->E (.ref C) none H
inductive T3(K:Kx)(E:XK)(m:Mi (Option Int))(Y:St)(H:Hp)(Q:Option Int->Hp->Prop):Prop
 |mk(c:Cn)(Z:List Sl)(B:St)(θ:List Sl)(o:Except Str (Option Int))(O:List Sl)(h1:c.toKx=K)(h2:Bd c Y H Z B θ)(h3:m Z=some (o,O))(h4:Qo K E c Y O B θ Q o)
structure JP(X:Cx)(E:XK)(e:Option Expr)(m:Mi (Option Int)):Prop where
 p:PO X e (T3 (kx X) E m)
theorem PO.weaken{e:Option Expr}{t t':TO}(h:PO X e t)(f:∀Y H Q,t' Y H Q->t Y H Q):PO X e t':=λpins s Y H Q I q=>h pins s Y H Q I (f Y H Q q)
theorem CL{o:Except Str (Option Int)}(q:Qo (kx X) E c Y O B θ Q o):∀e,o=.error e->∀C H,X.mg e=some (.ref C)->Bd c Y H O B θ->E (.ref C) none H:=λe r=>by subst r;exact q
theorem E4:JP X E none ji:=⟨PO.weaken Hw λY H Q h=>by obtain⟨c,Z,B,θ,o,O,F,b,em,q⟩:=h;cases em;exact q H b⟩
theorem GL(h:JE X E e m):JP X E (some e) (ig m):=⟨PO.weaken (Ho h.p) λY H Q h=>by
 obtain⟨c,Z,B,θ,o,O,F,b,em,q⟩:=h;refine aR F b em (λx v U P A b1 u=>?_) (CL q);cases e1:res U x with
 |none=>simp only[e1] at u;cases u
 |some a=>
  have i:=Bd.rd b1 A e1;cases a<;>first|(simp only[e1] at u;cases u;done)|skip
  simp only[e1] at u;cases u;cases i;exact⟨_,rfl,q P b1.drop⟩⟩
def Aa(xs:List A)(lo hi:Option Int):List A:=(xs.drop (HT.cW xs.length 0 lo)).take (HT.cW xs.length xs.length hi-HT.cW xs.length 0 lo)
theorem Ep{k:Kx}{G:Hp}{vs:List V}{as:List A}(r:bx k G vs as)(lo hi:Option Int):bx k G (si vs lo hi) (Aa as lo hi):=by unfold si Aa;rw[r.len];exact(r.drop _).take _
def SD(a:A)(lo hi:Option Int):Option Rr:=match a with
 | .lst xs=>some (.nw (.lst (Aa xs lo hi)))
 | .tup xs=>some (.fr (.tup (Aa xs lo hi)))
 | .str z=>if z.length<=100000 then some (.fr (.str (Wg z lo hi))) else none
 |_=>none
def F2(m:Mi Rr)(H Y:Mi (Option Int)):Mi Rr:=aF m λx=>aF H λlo=>aF Y λhi=>λZ=>match res Z x with
 |some a=>match SD a lo hi with
  |some r=>some (.ok r,Z)
  |none=>none
 |none=>none
theorem xM{β:Type}{m:Mi (Option Int)}{f:Option Int->Mi β}{o:Except Str β}(F:c.toKx=kx X)(b:Bd c Y H Z B θ)(em:aF m f Z=some (o,O))
  (h1:∀k U P,Bd c Y P U B θ->f k U=some (o,O)->Q k P)
  (h2:∀e,o=.error e->∀C H,X.mg e=some (.ref C)->Bd c Y H O B θ->E (.ref C) none H):T3 (kx X) E m Y H Q:=by
 rcases bind_some em with ⟨x,U,e1,e2⟩|⟨e,e1,e2⟩
 .exact⟨c,Z,B,θ,_,U,F,b,e1,λP b1=>h1 x U P b1 e2⟩
 .exact⟨c,Z,B,θ,_,O,F,b,e1,λC P hm b1=>h2 e e2 C P hm b1⟩
theorem OD{lo hi:Option Expr}{w k:Mi (Option Int)}(h:JE X E e m)(hl:JP X E lo w)(t:JP X E hi k):JE X E (.Subscript e (.Slice lo hi none p2) pos) (F2 m w k):=
 ⟨PE.weaken (En (L2.i7.or Ib (L2.i7.or (L2.i7.or K8 Ih) KZ)) h.p hl.p t.p) λY H Q h=>by
  obtain⟨c,Z,B,θ,o,O,F,b,em,q⟩:=h;refine aR F b em (λx v U P A b1 T=>?_) (aQ q);refine xM F b1 T (λl Z' N b2 s=>?_) (dZ (aQ q));refine xM F b2 s (λu Y' C R D=>?_) (dZ (aQ q));obtain⟨a,r,e1,e3,rfl,rfl⟩:=sC D;have g:c.K=X.K:=congrArg Kx.K F;obtain⟨L,bl,S⟩:=Bd.open R A e1;have i:=Bd.rd R A e1;cases a<;>first|(cases e3;done)|skip
  .rename_i z;unfold SD at e3;simp only at e3;split at e3
   .rename_i hz;cases e3;cases i;exact .inr (.inr ⟨z,rfl,Vg hz jK,q _ C trivial (Bd.push ⟨L,bl⟩ λ_=>.str _)⟩)
   .cases e3
  .rename_i xs;cases e3;obtain⟨p,vs,rfl,s1,V⟩:=S.2.1 xs rfl;by_cases hn:HT.cW xs.length 0 l=0/\HT.cW xs.length xs.length u=xs.length
   .refine .inr (.inl (.inr ⟨p,vs,rfl,by rw[<-g];exact cT (g_same _ _ _) s1,by rw[V.len];exact hn,?_⟩));have y:Aa xs l u=xs:=by unfold Aa;rw[hn.1,hn.2,YQ,Zq,VS]
    rw[y] at q;exact q _ _ trivial (bl.push (.tup s1 V))
   .refine .inr (.inl (.inl ⟨p,vs,rfl,by rw[<-g];exact cT (g_same _ _ _) s1,by rw[V.len];exact hn,λJ hp=>?_⟩));obtain⟨b2,sm,np⟩:=bl.new (o:=.tup (si vs l u)) hp;exact q _ _ trivial (b2.push (.tup (.inl (.inl (by rw[bz np (bl.Pl hp)];exact aI))) ((Ep V l u).sm sm)))
  .rename_i xs;cases e3;obtain⟨p,vs,rfl,s1,V⟩:=S.1 xs rfl;exact .inl ⟨p,vs,rfl,by rw[<-g];exact s1,λJ hp=>q _ _ trivial (bl.fZ hp λG H' sm q=>.lst q ((Ep V l u).sm sm))⟩⟩
def O7(K:Kx)(E:XK)(c:Cn)(Y:St)(Z:List Sl)(B:St)(θ:List Sl)(Q:List Str->Hp->Prop):Except Str (List Str)->Prop
 | .ok zs=>∀H,Bd c Y H Z B θ->Q zs H
 | .error x=>∀C H,K.mg x=some (.ref C)->Bd c Y H Z B θ->E (.ref C) none H
inductive Uw(K:Kx)(E:XK)(m:Mi (List Str))(Y:St)(H:Hp)(Q:List Str->Hp->Prop):Prop
 |mk(c:Cn)(Z:List Sl)(B:St)(θ:List Sl)(o:Except Str (List Str))(O:List Sl)(h1:c.toKx=K)(h2:Bd c Y H Z B θ)(h3:m Z=some (o,O))(h4:O7 K E c Y O B θ Q o)
structure JJ(X:Cx)(E:XK)(es:List Expr)(m:Mi (List Str)):Prop where
 p:PJ X es (Uw (kx X) E m)
theorem PJ.weaken{e:List Expr}{t t':TJ}(h:PJ X e t)(f:∀Y H Q,t' Y H Q->t Y H Q):PJ X e t':=λout pins s Y H Q hl I q=>h out pins s Y H Q hl I (f Y H _ q)
theorem Eg{o:Except Str (List Str)}{Q:List Str->Hp->Prop}(q:O7 (kx X) E c Y O B θ Q o):∀e,o=.error e->∀C H,X.mg e=some (.ref C)->Bd c Y H O B θ->E (.ref C) none H:=λe r=>by subst r;exact q
def mJ(m:Mi Rr)(n:Mi (List Str)):Mi (List Str):=aF m λx S=>match x with
 | .fr (.str z)=>if z.length<=1000 then aF n (λzs=>fk (z::zs)) S else none
 |_=>none
theorem Kg:JJ X E [] (fk []):=⟨PJ.weaken M5 λY H Q h=>by obtain⟨c,Z,B,θ,o,O,F,b,em,q⟩:=h;cases em;exact q H b⟩
theorem xj{n:Mi (List Str)}(h1:JE X E e m)(h2:JJ X E es n)(hs:evalEach (e::es) X.env=eval e X.env::evalEach es X.env:=by rfl):JJ X E (e::es) (mJ m n):=⟨PJ.weaken (FX h1.p h2.p hs) λY H Q h=>by
 obtain⟨c,Z,B,θ,o,O,ek,b,em,q⟩:=h;refine aR ek b em (λx v U H1 hv b1 em1=>?_) (Eg q);cases x with
 |rf i=>cases em1
 |nw o=>cases em1
 |fr a=>
  cases a<;>first|(cases em1;done)|skip
  rename_i z;simp only at em1;split at em1
  .rename_i hz;have r1:=Bd.top b1 (a:=.str z) rfl;cases r1;refine⟨z,rfl,hz,?_⟩;rcases bind_some em1 with ⟨zs,Z',e1,e2⟩|⟨e,e1,e2⟩
   .cases e2;exact⟨c,U,B,θ,_,O,ek,b1.pop,e1,λH2 b2=>q H2 b2⟩
   .subst e2;exact⟨c,U,B,θ,_,O,ek,b1.pop,e1,λC H2 hm b2=>q C H2 hm b2⟩
  .cases em1⟩
def MP(m:Mi Rr):Mi Rr:=aF m λx Z=>match x with
 | .fr (.str z)=>if z.length<=1000 then some (.ok (.fr (.str z)),Z) else none
 |_=>none
theorem QM(h1:JE X E e m):JE X E (.FormattedValue e (-1) none pos) (MP m):=⟨PE.weaken (O4 h1.p) λY H Q h=>by
 obtain⟨c,Z,B,θ,o,O,F,b,em,q⟩:=h;refine aR F b em (λx v U P A b1 u=>?_) (aQ q);cases x with
 |rf i=>cases u
 |nw o=>cases u
 |fr a=>
  cases a<;>first|(cases u;done)|skip
  rename_i z;simp only at u;split at u
  .rename_i hz;have C:=Bd.top b1 (a:=.str z) rfl;cases C;cases u;exact⟨z,rfl,hz,q _ P trivial b1⟩
  .cases u⟩
def Kw(m:Mi (List Str)):Mi Rr:=aF m λzs=>fk (.fr (.str (MF zs)))
theorem Qd{v1 v2:Expr}{m:Mi (List Str)}(h:JJ X E (v1::v2::es) m)(hl:(v1::v2::es).length<=100:=by decide)(hs:evalEach (v1::v2::es) X.env=eval v1 X.env::eval v2 X.env::evalEach es X.env:=by rfl):JE X E (.JoinedStr (v1::v2::es) pos) (Kw m):=
 ⟨PE.weaken (Qs h.p hl hs) λY H Q h=>by
  obtain⟨c,Z,B,θ,o,O,ek,b,em,q⟩:=h;rcases bind_some em with ⟨zs,U,e1,e2⟩|⟨e,e1,e2⟩
  .cases e2;exact⟨c,Z,B,θ,_,O,ek,b,e1,λH1 b1=>q _ H1 trivial (b1.push λ_=>.str _)⟩
  .subst e2;exact⟨c,Z,B,θ,_,O,ek,b,e1,λC H1 hm b1=>q C H1 hm b1⟩⟩
noncomputable def Ut(f g:Mg):Mg:=λa Z=>match f a Z with
 |some r=>some r
 |none=>g a Z
def AU(m:Mi Rr)(G:Mg):Ms:=cH m λr Z=>match a8 r Z with
 |some (a,U)=>match G a U with
  |some Z'=>some (.nx,Z')
  |none=>none
 |none=>none
theorem Kj{tg:Expr}{G:Mg}(he:JE X E e m)(hg:JG X 0 tg G)(hs:swapsWithSole [tg] e pos.line X.env=pure false:=by rfl)(hw:swappedStores [tg] e X.env=pure none:=by rfl)
  (hp:∀{te:TE}{g:TG},PE X e te->PG X tg g->PS X (.Assign [tg] e pos) (BV te g)):JS X E (.Assign [tg] e pos) (AU m G):=⟨PS.weaken (hp he.p hg.p) λD Y H h=>by
 obtain⟨c,Z,B,θ,f,O,ek,b,em,q⟩:=h;refine fM ek b em q λr v U H1 hv b1 em1=>?_;cases e1:a8 r U with
 |none=>simp only[e1] at em1;cases em1
 |some p=>
  obtain⟨a,Z'⟩:=p;simp only[e1] at em1;have b2:=Bd.a8 (xs:=[]) (ss:=[]) rfl b1 hv e1;cases e2:G a Z' with
  |none=>simp only[e2] at em1;cases em1
  | some Y'=>simp only[e2] at em1;cases em1;exact⟨c,Z',B,_,a,O,ek,b2,e2,λj H' _ _ b3=>q j H' b3⟩⟩
def Fo(i j:Nat)(rs:List Rr)(Z:List Sl):Option (Fl×List Sl):=match fW rs Z with
 |some ([a,b],U)=>match put i (.fr a) U with
  |some Z'=>match put j (.fr b) Z' with
   |some Y'=>some (.nx,Y')
   |none=>none
  |none=>none
 |_=>none
theorem Ag{rs:List Rr}{f:Fl}(h:Fo i j rs Z=some (f,O)):∃a d Z' Y',fW rs Z=some ([a,d],Z')/\put i (.fr a) Z'=some Y'/\put j (.fr d) Y'=some O/\f=.nx:=by
 unfold Fo at h;cases B:fW rs Z with
 |none=>rw[B] at h;cases h
 |some p=>
  rw[B] at h;obtain⟨as,Z'⟩:=p
  match as,h with
  |[a,d],h=>
   dsimp only at h;cases e3:put i (.fr a) Z' with
   |none=>rw[e3] at h;cases h
   |some Y'=>
    rw[e3] at h;dsimp only at h;cases e4:put j (.fr d) Y' with
    |none=>rw[e4] at h;cases h
    |some V=>rw[e4] at h;cases h;exact⟨a,d,Z',Y',rfl,e3,e4,rfl⟩
theorem Fc{l:List α}(h:l.length=2):∃a b,l=[a,b]:=match l,h with
 |[a,b],_=>⟨a,b,rfl⟩
def AM(i j:Nat)(m:Mi (List Rr)):Ms:=cH m (Fo i j)
theorem MV{s:Stmt}{m:Mi (List Rr)}(ha:JA X E es m)(Q:i≠j)(hp:∀{ta:TA},PA X es ta->PS X s (Pm i j ta)):JS X E s (AM i j m):=⟨PS.weaken (hp ha.p) λD Y H h=>by
 obtain⟨c,Z,B,θ,f,O,F,b,em,q⟩:=h;rcases bE em with ⟨rs,U,e1,e2⟩|⟨e,e1,e2⟩
 .refine⟨c,Z,B,_,_,U,F,b,e1,λvs P A b1=>?_⟩;obtain⟨a,d,Z',Y',V,e3,e4,rfl⟩:=Ag e2;obtain⟨b2,T⟩:=Bd.fW A b1 V;obtain⟨v,w,rfl⟩:=Fc T;refine⟨v,w,rfl,q _ P ?_⟩;have R:Bd c Y P Z' (some w::some v::B) (.fr d::.fr a::θ.map Sl.fr):=by simpa using b2
  obtain⟨L,bl,x⟩:=Bd.dz (vs:=[w,v]) (as:=[d,a]) R rfl;cases x with|cons h1 x=>cases x with|cons h2 _=>
  exact Bd.put (Bd.put (eA.Qg bl h2 h1) (λo z=>by cases z) e3) (λo z=>by cases z) e4
 .subst e2;exact⟨c,Z,B,_,_,O,F,b,e1,λC P hm b1=>q C Y P hm b1⟩⟩
end
section
variable{X:Cx}{E:XK}{a b:Expr}{ma mb:Mi Rr}{pos:Pos}
abbrev br:=dJ uJ xK
theorem Mu(ha:JE X E a ma)(d:JE X E b mb):JE X E (.BinOp a .Sub b pos) (az fD ma mb):=pI LY Mq ha d
theorem Ku(ha:JE X E a ma)(d:JE X E b mb):JE X E (.BinOp a .Mult b pos) (az br ma mb):=pI (eu.or' Fp HZ) (Ga.or FH) ha d
theorem MY(ha:JE X E a ma)(d:JE X E b mb):JE X E (.BinOp a .FloorDiv b pos) (az j9 ma mb):=pI BO J5 ha d
theorem Kh(ha:JE X E a ma)(d:JE X E b mb):JE X E (.BinOp a .Mod b pos) (az iq ma mb):=pI Ij NS ha d
theorem Nx(ha:JE X E a ma)(d:JE X E b mb):JE X E (.BinOp a .Pow b pos) (az gX ma mb):=pI J8 Ma ha d
theorem OR(f:X.A.units+64<cLine)(ha:JE X E a ma)(d:JE X E b mb):JE X E (.Compare a [.Eq] [b] pos) (az dP ma mb):=dD (Bx f) os_eq ha d (cc _)
theorem OP(f:X.A.units+64<cLine)(ha:JE X E a ma)(d:JE X E b mb):JE X E (.Compare a [.NotEq] [b] pos) (az iy ma mb):=dD (lC f) yy ha d (cc _)
theorem O0(ha:JE X E a ma)(d:JE X E b mb):JE X E (.Compare a [.Lt] [b] pos) (az u0 ma mb):=dD yK IM ha d (cc _)
theorem Pf(ha:JE X E a ma)(d:JE X E b mb):JE X E (.Compare a [.LtE] [b] pos) (az RN ma mb):=dD yC Jm ha d (cc _)
theorem O1(ha:JE X E a ma)(d:JE X E b mb):JE X E (.Compare a [.Gt] [b] pos) (az G8 ma mb):=dD CZ Js ha d (cc _)
theorem P4(ha:JE X E a ma)(d:JE X E b mb):JE X E (.Compare a [.GtE] [b] pos) (az NX ma mb):=dD Cu JH ha d (cc _)
theorem Qf(ha:JE X E a ma)(d:JE X E b mb):JE X E (.Compare a [.Is] [b] pos) (az (EJ false) ma mb):=dD BI Jf ha d (cc _)
theorem Gy(ha:JE X E a ma)(d:JE X E b mb):JE X E (.Compare a [.IsNot] [b] pos) (az (EJ true) ma mb):=dD yr xl ha d (cc _)
theorem PK(f:X.A.units+64<cLine)(ha:JE X E a ma)(d:JE X E b mb):JT X E (.Compare a [.Eq] [b] pos) (ao (az dP ma mb)):=dC (Bx f) os_eq ha d (cc _)
theorem Ox(f:X.A.units+64<cLine)(ha:JE X E a ma)(d:JE X E b mb):JT X E (.Compare a [.NotEq] [b] pos) (ao (az iy ma mb)):=dC (lC f) yy ha d (cc _)
theorem QC(ha:JE X E a ma)(d:JE X E b mb):JT X E (.Compare a [.Lt] [b] pos) (ao (az u0 ma mb)):=dC yK IM ha d (cc _)
theorem Qz(ha:JE X E a ma)(d:JE X E b mb):JT X E (.Compare a [.LtE] [b] pos) (ao (az RN ma mb)):=dC yC Jm ha d (cc _)
theorem OS(ha:JE X E a ma)(d:JE X E b mb):JT X E (.Compare a [.Gt] [b] pos) (ao (az G8 ma mb)):=dC CZ Js ha d (cc _)
theorem RH(ha:JE X E a ma)(d:JE X E b mb):JT X E (.Compare a [.GtE] [b] pos) (ao (az NX ma mb)):=dC Cu JH ha d (cc _)
theorem O6(ha:JE X E a ma)(d:JE X E b mb):JT X E (.Compare a [.Is] [b] pos) (ao (az (EJ false) ma mb)):=dC BI Jf ha d (cc _)
theorem GS(ha:JE X E a ma)(d:JE X E b mb):JT X E (.Compare a [.IsNot] [b] pos) (ao (az (EJ true) ma mb)):=dC yr xl ha d (cc _)
end
noncomputable def EF:Nat:=2^10000
noncomputable def AE(K:UN):Sp:=λvs H Q _=>∃(p:Addr)(ns:List Int),vs=[.ref p]/\g9 K H p (ns.map V.int)/\ns.length<=63/\∀H',Q (.bl true) H'
theorem yE{k:Kx}{G:Hp}:∀(ns:List Int),bx k G (ns.map V.int) (ns.map A.int)
 |[]=>.nil
 |n::ns=>.cons (.int n) (yE ns)
variable{k:Nat}{fd:FuncData}{ps:List Str}
theorem LV{P:Program}{w:World}{K:UN}{mg:Str->Option Value}{base:Heap}{CX:xi}{f:Addr}{m:Ms}(F:cV P w K mg base CX k f fd ps (uZ ⟨K,mg⟩ 1 m))
  (h:∀ns:List Int,ns.length<=63->∃Z,m [.fr (.lst (ns.map A.int))]=some (.rt (.fr (.bl true)),Z)):cV P w K mg base CX k f fd ps (AE K):=
 F.imp λvs H Q E q=>by
  obtain⟨p,ns,rfl,u,hl,q⟩:=q;obtain⟨Z,e⟩:=h ns hl
  let c:Cn:={ K:=K,mg:=mg,σ0:=[some (.ref p)],H0:=H,Lp:=[],Hd:=[],Wk:=[] }
  refine⟨rfl,c,_,_,Z,rfl,rfl,rfl,⟨.nil,aB.cons (L:=[]) (.fr (.lst (oE (Sq.of λb o e=>?_) u) (yE ns))) .nil,λp hp=>(by cases hp),⟨λb o e=>⟨o,e,λ_ _=>rfl⟩,λq j=>(by cases j)⟩,λi o _=>rfl,rfl,λq j=>(by cases j)⟩,e,λv H' _ b=>?_⟩
  .rw[bz (c:=c) (λz=>by cases z) (λz=>by cases z)];exact e
  .have r:=Bd.top b (a:=.bl true) rfl;cases r;exact q H'
def km(m:Mi Rr):Mi Rr:=aF m λr Z=>match a8 r Z with
 |some (a,O)=>some (.ok (.fr a),O)
 |none=>none
variable{X:Cx}
theorem RJ{E:XK}(he:JE X E e m):JE X E e (km m):=⟨PE.weaken he.p λY H Q h=>by
 obtain⟨c,Z,B,θ,o,O,F,b,em,q⟩:=h;refine aR F b em (λx v U P A b1 u=>?_) (aQ q);cases e1:a8 x U with
 |none=>simp only[e1] at u;cases u
 | some p=>obtain⟨a,Z'⟩:=p;simp only[e1] at u;cases u;exact q v P trivial (Bd.a8 (xs:=[]) (ss:=[]) rfl b1 A e1)⟩
variable{x y:Str}{p:Pos}
section
variable{X:Cx}{E:XK}
inductive Ty where|bool|int|str|tuple|list|dict
 deriving DecidableEq
noncomputable def Ty.n:Ty->String
 | .bool=> "bool" | .int=> "int" | .str=> "str" | .tuple=> "tuple" | .list=> "list" | .dict=> "dict"
noncomputable def Ts(T:Ty):A->Option Bool
 | .non=>some false
 | .bl _=>some (T=.bool || T=.int)
 | .int _=>some (T=.int)
 | .str _=>some (T=.str)
 | .tup _=>some (T=.tuple)
 | .lst _=>some (T=.list)
 | .aP _=>some (T=.dict)
 |_=>none
def oH(T:Ty)(a:A):Option Rr:=match Ts T a with
 |some k=>some (.fr (.bl k))
 |none=>none
theorem NO(K:UN)(T:Ty):Vt K (.type "NoneType") (.type T.n)=some false:=by cases T<;>kernel_rfl
theorem HB(K:UN)(T:Ty):Vt K (.type "bool") (.type T.n)=some (T=.bool || T=.int:Bool):=by cases T<;>kernel_rfl
theorem Me(K:UN)(T:Ty):Vt K (.type "int") (.type T.n)=some (T=.int:Bool):=by cases T<;>kernel_rfl
theorem Nu(K:UN)(T:Ty):Vt K (.type "str") (.type T.n)=some (T=.str:Bool):=by cases T<;>kernel_rfl
theorem LD(K:UN)(T:Ty):Vt K (.type "tuple") (.type T.n)=some (T=.tuple:Bool):=by cases T<;>kernel_rfl
theorem LX(K:UN)(T:Ty):Vt K (.type "list") (.type T.n)=some (T=.list:Bool):=by cases T<;>kernel_rfl
theorem K9(K:UN)(T:Ty):Vt K (.type "dict") (.type T.n)=some (T=.dict:Bool):=by cases T<;>kernel_rfl
theorem K2(T:Ty):lq K (λv H Q=>∃x c t b,[v,V.ty T.n]=[x,c]/\xy K.K H x t/\eJ c=true/\Vt K.K t (ir c)=some b/\Q (.bl b) H) (oH T):=.scalar λH v a q i h=>by
 cases a<;>first|(cases h;done)|skip
 .cases i;cases h;exact⟨_,_,rfl,λ_=>.bl _,λQ k=>⟨_,_,_,_,rfl,.of .non,rfl,NO _ T,k⟩⟩
 .cases i;cases h;exact⟨_,_,rfl,λ_=>.bl _,λQ k=>⟨_,_,_,_,rfl,.of (.bl _),rfl,HB _ T,k⟩⟩
 .cases i;cases h;exact⟨_,_,rfl,λ_=>.bl _,λQ k=>⟨_,_,_,_,rfl,.of (.int _),rfl,Me _ T,k⟩⟩
 .cases i;cases h;exact⟨_,_,rfl,λ_=>.bl _,λQ k=>⟨_,_,_,_,rfl,.of (.str _),rfl,Nu _ T,k⟩⟩
 .cases i with
  |tup e r=>cases h;exact⟨_,_,rfl,λ_=>.bl _,λQ k=>⟨_,_,_,_,rfl,.tup e,rfl,LD _ T,k⟩⟩
 .cases i with
  |lst e r=>cases h;exact⟨_,_,rfl,λ_=>.bl _,λQ k=>⟨_,_,_,_,rfl,.lst e,rfl,LX _ T,k⟩⟩
 .cases i with
  |aP e r=>cases h;exact⟨_,_,rfl,λ_=>.bl _,λQ k=>⟨_,_,_,_,rfl,.aP e,rfl,K9 _ T,k⟩⟩
theorem Mp(T:Ty)(hg:Gl X x)(hm:X.mg x=none)(hv:bootBuiltins x=some (.builtin "isinstance"))(hg2:Gl X y)(hm2:X.mg y=none)(hv2:bootBuiltins y=some (.type T.n))(ha:JE X E e m)(hn:x ≠ "__name__")
  (hdb:gu x)(hn2:y ≠ "__name__")(hdb2:gu y)(hs:starEach [e,.Name y p2] X.env=(false,eval e X.env)::starEach [.Name y p2] X.env:=by rfl)(hs2:starEach [.Name y p2] X.env=(false,eval (.Name y p2) X.env)::starEach [] X.env:=by rfl)(hp:(backTo pos (starEach [.Name y p2] X.env)).any (·.1)=false:=by rfl):JE X E (.Call (.Name x p) [e,.Name y p2] [] pos) (dg (oH T) m):=
 ⟨PE.weaken (je ub hg hm hv (bu ha.p (bu (qM hg2 hm2 hv2 (v:=.ty T.n) rfl hn2 hdb2) dq hs2) hs) hn hdb hs hp) λY H Q h=>gZ (r:=λv H Q=>∃x c t b,[v,V.ty T.n]=[x,c]/\xy (kx X).K H x t/\eJ c=true/\Vt (kx X).K t (ir c)=some b/\Q (.bl b) H) (K2 T) Y H Q h⟩
end
section
variable{X:Cx}{E:XK}
noncomputable def Sd(as bs:List A):List A:=(as.zip bs).map λp=>.tup [p.1,p.2]
end
variable{r r':R2}{q:Int->Int->Bool}{ma mb mc:Mi Rr}{op op':CmpOp}{b:Expr}
section
variable{X:Cx}{E:XK}
def gy(p q:Int->Int->Bool)(ma mb mc:Mi Rr):Mi Rr:=aF ma λx=>aF mb λy=>λZ=>match res Z x,res Z y with
 |some (.int i),some (.int j)=>match p i j with
  | true=>aF mc (λz Z'=>match res Z' z with
   |some (.int k)=>some (.ok (.fr (.bl (q j k))),Z')
   | _=>none) Z
  |false=>some (.ok (.fr (.bl false)),Z)
 |_,_=>none
theorem n6{p:Int->Int->Bool}(l:∀i j H Q,Q (.bl (p i j)) H->r (.int i) (.int j) H Q)(L:∀i j H Q,Q (.bl (q i j)) H->r' (.int i) (.int j) H Q)(Y:St)(H:Hp)(Q:VK)(h:il (kx X) E (gy p q ma mb mc) Y H Q):
  vN r r' (il (kx X) E ma) (il (kx X) E mb) (il (kx X) E mc) Y H Q:=by
 obtain⟨c,Z,B,θ,o,O,F,b,em,a⟩:=h;refine aR F b em (λx v U e A b1 u=>?_) (aQ a);refine aR F b1 u (λy w Z' t m b2 s=>?_) (dZ (aQ a));obtain⟨i,j,e1,e2,s⟩:=tV s;obtain⟨rfl,rfl⟩:v=.int i/\w=.int j:=by have n:=Bd.rd b2 m e2;have C:=Bd.rd b2.drop A e1;cases C;cases n;exact⟨rfl,rfl⟩
 refine l _ _ _ _ ⟨p i j,rfl,?_⟩;cases ep:p i j with
 |false=>rw[ep] at s;cases s;exact a _ t trivial (Bd.push b2.drop.drop (λ_=>.bl _))
 |true=>rw[ep] at s;refine aR F b2.drop.drop s (λz S Y' d hz R D=>?_) (aQ a);obtain⟨k,e3,D⟩:=Bz D;have V:=Bd.rd R hz e3;cases V;cases D;exact L _ _ _ _ (a _ d trivial (Bd.push R.drop (λ_=>.bl _)))
theorem uy{p:Int->Int->Bool}{a c:Expr}(ho:eu X (compareOp op) r)(ho':eu X (compareOp op') r')(hr:∀i j H Q,Q (.bl (p i j)) H->r (.int i) (.int j) H Q)(hr':∀i j H Q,Q (.bl (q i j)) H->r' (.int i) (.int j) H Q)
  (ha:JE X E a ma)(hb:JE X E b mb)(hc:JE X E c mc)(hm:lastMarks [op,op'] [b,c]=false:=by with_unfolding_all rfl):JE X E (.Compare a [op,op'] [b,c] pos) (gy p q ma mb mc):=⟨PE.weaken (B0 ho ho' ha.p hb.p hc.p hm) (n6 hr hr')⟩
theorem DY{p:Int->Int->Bool}{a c:Expr}(ho:eu X (compareOp op) r)(ho':eu X (compareOp op') r')(hr:∀i j H Q,Q (.bl (p i j)) H->r (.int i) (.int j) H Q)(hr':∀i j H Q,Q (.bl (q i j)) H->r' (.int i) (.int j) H Q)
  (ha:JE X E a ma)(hb:JE X E b mb)(hc:JE X E c mc)(hm:lastMarks [op,op'] [b,c]=false:=by with_unfolding_all rfl):JT X E (.Compare a [op,op'] [b,c] pos) (ao (gy p q ma mb mc)):=⟨PT.weaken (BN ho ho' ha.p hb.p hc.p hm) λY H Q h=>n6 hr hr' Y H _ (eV Y H Q h)⟩
noncomputable abbrev To(i j:Int):Bool:=decide (i<j)
noncomputable abbrev OC(i j:Int):Bool:=decide (i<=j)
noncomputable abbrev T4(i j:Int):Bool:=decide (j<i)
noncomputable abbrev TB(i j:Int):Bool:=decide (j<=i)
theorem Iz(i j:Int)(H:Hp)(Q:VK)(q:Q (.bl (To i j)) H):sI (λi j=>.bl (decide (i<j))) (.int i) (.int j) H Q:=⟨_,_,rfl,rfl,q⟩
theorem IX(i j:Int)(H:Hp)(Q:VK)(q:Q (.bl (OC i j)) H):sI (λi j=>.bl (decide (i<=j))) (.int i) (.int j) H Q:=⟨_,_,rfl,rfl,q⟩
theorem Rh(i j:Int)(H:Hp)(Q:VK)(q:Q (.bl (T4 i j)) H):sI (λi j=>.bl (decide (j<i))) (.int i) (.int j) H Q:=⟨_,_,rfl,rfl,q⟩
theorem Qa(i j:Int)(H:Hp)(Q:VK)(q:Q (.bl (TB i j)) H):sI (λi j=>.bl (decide (j<=i))) (.int i) (.int j) H Q:=⟨_,_,rfl,rfl,q⟩
example {a b c:Expr} {ma mb mc:Mi Rr} {pos:Pos} (ha:JE X E a ma) (hb:JE X E b mb) (hc:JE X E c mc) (hm:lastMarks [.LtE,.Lt] [b,c]=false):JE X E (.Compare a [.LtE,.Lt] [b,c] pos) (gy OC To ma mb mc):=uy yC yK IX Iz ha hb hc hm
end
section
variable{X:Cx}{E:XK}
def AN(K:UN):R2:=λx y H Q=>∃a b xs ys,x=.ref a/\y=.ref b/\g9 K H a xs/\g9 K H b ys/\xs.length+ys.length<=sizeLine/\∀p,H p=none->Q (.ref p) (upd H p (.lst (xs++ys)))
theorem DJ:eu X (binaryOp .Add) (AN X.K):=by
 intro pins s Y H x y v u Q I w z h;obtain⟨a,b,xs,ys,rfl,rfl,ha,d,hz,q⟩:=h;cases w;cases z;obtain⟨its,i,J,_⟩:=I.list ha;obtain⟨S,n,p2,_⟩:=I.list d;obtain⟨⟨R,t,L,U⟩,E,e1,Z,p,o⟩:=id J;obtain⟨⟨c2,k,l,C⟩,D,e2,O,B,V⟩:=id p2;simp only at Z o O V p B;subst Z o O V p B;have k1:=i.length;have k2:=n.length;refine concat_meets ⟨_,e1,rfl⟩ ⟨_,e2,rfl⟩ noFill_list_add seq_list_add PySem.F.slot_list_add PySem.F.entry_list_add (PySem.F.args_list_add_2 _ _) (PyProof.Rows.list_addW a b _ _ E D _ _ U C (by rw[UT,UT];omega)) ⟨e1,e2,?_⟩;have r:its.toArray++S.toArray=(its++S).toArray:=by simp
 rw[r];exact⟨.ref _,_,I.Sx (t':=s.toks) (i.append n) (by rw[UY];omega),rfl,q _ I.fresh⟩
noncomputable def BK:A->A->Option Rr
 | .lst xs,.lst ys=>if xs.length+ys.length<=100000 then some (.nw (.lst (xs++ys))) else none
 |_,_=>none
theorem Ht:gA K (AN K.K) BK:=by
 intro c Y H Z B θ x y v w a b q Q F A m o e1 e2 e3 k;cases a<;>first|(cases e3;done)|(cases b<;>first|(cases e3;done)|skip)
 rename_i xs ys;unfold BK at e3;simp only at e3;split at e3
 .rename_i hc;cases e3;obtain⟨L,bl,s,X⟩:=Bd.tS o A m e1 e2;obtain⟨J,h,rfl,s1,i⟩:=s.1 xs rfl;obtain⟨p2,r,rfl,s2,n⟩:=X.1 ys rfl;have O:=i.len;have C:=n.len;subst F;exact⟨J,p2,h,r,rfl,rfl,s1,s2,by have:=jK;omega,λp hp=>k _ _ trivial (bl.fZ hp λG H' sm q=>.lst q ((i.app n).sm sm))⟩
 .cases e3
abbrev aX:=dJ wV (dJ xt (dJ tF BK))
theorem Hx{a:Expr}(ha:JE X E a ma)(d:JE X E b mb):JE X E (.BinOp a .Add b pos) (az aX ma mb):=pI (eu.or' Km (eu.or' vK (eu.or' Il DJ))) (Fj.or (Fy.or (EV.or Ht))) ha d
end
variable{px:Pos}
section
variable{X:Cx}{E:XK}
def v8(i:Nat):Mi Rr:=λZ=>match aL Z i with
 |some (.lst _)=>some (.ok (.fr .non),setAt Z i (.lst []))
 |_=>none
theorem AR(hN:X.N[i]?=some x)(hv:uY X.env.scope x)(hd:gu x)(hcd:zz x)
  (hbase:attributeBase (.Name x px) "clear" X.env (eval (.Name x px) X.env)=eval (.Name x px) X.env:=by rfl)(hline:(apos.endLine==cpos.line)=true:=by rfl):
  JE X E (.Call (.Attribute (.Name x px) "clear" apos) [] [] cpos) (v8 i):=
 ⟨PE.weaken (Dg WB PySem.F.slot_list_clear PySem.F.type_list_clear Dx (eB hN hv hd hcd) hbase hline) λY H Q h=>by
  obtain⟨c,Z,B,θ,o,O,ek,b,em,q⟩:=h;unfold v8 at em;cases e2:aL Z i with
  |none=>simp only[e2] at em;cases em
  |some lo=>
   cases lo with
   |aP _=>simp only[e2] at em;cases em
   |obj _ _=>simp only[e2] at em;cases em
   | lst xs=>simp only[e2] at em;cases em;obtain⟨p,vs,hp,hH⟩:=iZ b e2;obtain⟨L,bl⟩:=b;obtain⟨p',h1,h2,h3⟩:=bl.live e2 (.lst []) (.lst []);rw[hp] at h1;cases h1;refine⟨_,hp,.inl ⟨rfl,vs,.inl (.inl hH)⟩,?_⟩;exact⟨p,vs,rfl,rfl,hH,q _ _ trivial (Bd.push (h3 λH' hh=>.lst hh .nil) λ_=>.non)⟩⟩
theorem bx.dropLast{K:Kx}{G:Hp}:∀{vs:List V}{as:List A},bx K G vs as->bx K G vs.dropLast as.dropLast
 |_,_,.nil=>.nil
 |_,_,.cons h .nil=>.nil
 |_,_,.cons h (.cons h2 r)=>.cons h (bx.dropLast (.cons h2 r))
def vS(i:Nat):Mi Rr:=λZ=>match aL Z i with
 |some (.lst xs)=>match xs[xs.length-1]? with
  |some a=>some (.ok (.fr a),setAt Z i (.lst xs.dropLast))
  |none=>none
 |_=>none
theorem NG(hN:X.N[i]?=some x)(hv:uY X.env.scope x)(hd:gu x)(hcd:zz x)
  (hbase:attributeBase (.Name x px) "pop" X.env (eval (.Name x px) X.env)=eval (.Name x px) X.env:=by rfl)(hline:(apos.endLine==cpos.line)=true:=by rfl):
  JE X E (.Call (.Attribute (.Name x px) "pop" apos) [] [] cpos) (vS i):=
 ⟨PE.weaken (Dg WB PySem.F.slot_list_pop PySem.F.type_list_pop Mv (eB hN hv hd hcd) hbase hline) λY H Q h=>by
  obtain⟨c,Z,B,θ,o,O,ek,b,em,q⟩:=h;unfold vS at em;cases e2:aL Z i with
  |none=>simp only[e2] at em;cases em
  |some lo=>
   cases lo with
   |aP _=>simp only[e2] at em;cases em
   |obj _ _=>simp only[e2] at em;cases em
   |lst xs=>
    simp only[e2] at em;cases e3:xs[xs.length-1]? with
    |none=>simp only[e3] at em;cases em
    |some a=>
     simp only[e3] at em;cases em;obtain⟨p,vs,hp,hH⟩:=iZ b e2;obtain⟨L,bl⟩:=b;obtain⟨p',h1,h2,h3⟩:=bl.live e2 (.lst xs) (.lst []);rw[hp] at h1;cases h1;cases h2 with
     |lst e rr=>
      rename_i ws;rw[hH] at e;cases e;obtain⟨v,g1,g2⟩:=rr.ta e3;obtain⟨L1,bl1⟩:=bl.push g2;obtain⟨p2,k1,k2,k3⟩:=bl1.live e2 (.lst xs.dropLast) (.lst vs.dropLast);rw[hp] at k1;cases k1;cases k2 with
      | lst e' rr'=>rw[hH] at e';cases e';refine⟨_,hp,.inl ⟨rfl,vs,.inl (.inl hH)⟩,?_⟩;exact⟨p,vs,v,rfl,rfl,hH,by rw[rr.len];exact g1,q _ _ trivial (k3 λH' hh=>.lst hh rr'.dropLast)⟩⟩
end
section
variable{c:Cn}{Y:St}{H:Hp}{Z:List Sl}{B:St}{θ:List Sl}
theorem Bd.unset(b:Bd c Y H Z B θ)(h:M.put i .un Z=some O):Bd c (Y.set i none) H O B θ:=by
 unfold M.put at h;have v:∀s,Z[i]?=some s->(∀o,s≠.pv o)->O=Z.set i .un->Bd c (Y.set i none) H O B θ:=λs e P Q=>by
  subst Q;obtain⟨L,nd,rel,own,fr,kp,lt,u⟩:=b;obtain⟨I,L2,e1,C,n⟩:=aB.split lt rel;obtain⟨x,M1,M2,A,y,w,e2,ins⟩:=n.at e;subst e1 e2;have sub:∀a,a∈I++(M1++[]++A)->a∈I++(M1++M2++A):=λa ha=>by simp at ha ⊢;rcases ha with z|z|z<;>simp[z]
  have sm:Sq (c.g H (I++(M1++M2++A))) (c.g H (I++(M1++[]++A))):=dk sub;have hi:i<Z.length:=(UQ.mp e).1;refine⟨I++(M1++[]++A),?_,(C.sm sm (λ_ _ _ e=>e)).app (ins sm (λ_ _ _ e=>e) (.un none)),λq j=>own q (sub q j),fr,kp.set (λo z=>?_) hi (λo z=>by cases z),lt,u⟩
  .refine nd.sublist (V6 (V3 _) (V6 ?_ (V3 _)));exact V6 (V3 _) (Z2 _)
  .rw[e] at z;exact P o (U1 z)
 cases es:Z[i]? with
 |none=>simp only[es] at h;cases h
 |some s=>
  cases s with
  |pv o=>simp only[es] at h;cases h
  |un=>simp only[es] at h;exact v _ es (λo z=>by cases z) (U1 h).symm
  |fr a=>simp only[es] at h;exact v _ es (λo z=>by cases z) (U1 h).symm
  |lv o=>simp only[es] at h;exact v _ es (λo z=>by cases z) (U1 h).symm
end
variable{cv:V}{tab:Str->Option Bool}
section
variable{X:Cx}{E:XK}
def SE(K:Kx)(Ex:XS)(c:Cn)(O:List Sl)(B:St)(θ:List A)(D:Ends):Fl->Prop
 | .ex x=>∀C Y H,K.mg x=some (.ref C)->Bd c Y H O B (θ.map Sl.fr)->Ex (.ref C) Y H
 |f=>F9 K jC c O B θ D f
inductive TZ(K:Kx)(m:Ms)(D:Ends)(Ex:XS)(Y:St)(H:Hp):Prop
 |mk(c:Cn)(Z:List Sl)(B:St)(θ:List A)(f:Fl)(O:List Sl)(h1:c.toKx=K)(h2:Bd c Y H Z B (θ.map Sl.fr))(h3:m Z=some (f,O))(h4:SE K Ex c O B θ D f)
structure JX(X:Cx)(st:Stmt)(m:Ms):Prop where
 p:PX X st (TZ (kx X) m)
theorem PX.weaken{st:Stmt}{t t':TX}(h:PX X st t)(f:∀D Ex Y H,t' D Ex Y H->t D Ex Y H):PX X st t':=λpins s Y H D Ex I q=>h pins s Y H D Ex I (f D Ex Y H q)
noncomputable def i8{α:Type}(m:Mi α):Mi α:=λZ=>match m Z with
 |some (.ok x,U)=>some (.ok x,U)
 |_=>none
theorem jo{m:Mi α}{o:Except Str α}(h:i8 m Z=some (o,O)):∃x,o=.ok x/\m Z=some (.ok x,O):=by
 unfold i8 at h;cases e:m Z with
 |none=>simp only[e] at h;cases h
 |some p=>
  obtain⟨r,U⟩:=p;cases r with
  |ok x=>simp only[e] at h;cases h;exact⟨x,rfl,rfl⟩
  |error x=>simp only[e] at h;cases h
theorem gK{m:Ms}{n:Nat}{ma:Mi (List Rr)}{Q:VK}{a:XK}{o:Except Str Rr}(hn:∀Z rs O,ma Z=some (.ok rs,O)->rs.length+0=n)(F:c.toKx=kx X)(b:Bd c Y H Z B θ)(em:fq m [] (i8 ma) Z=some (o,O))
  (k:∀r,o=.ok r->∀v H',VR Y r v->Bd c Y H' O (bH r v B) (bG r θ)->Q v H')(p:∀x,o=.error x->∀C H',X.mg x=some (.ref C)->Bd c Y H' O B θ->a (.ref C) none H'):
  Qh (kx X) jC ma Y H λvs P=>uZ (kx X) n m (vs++[]) P Q a:=by
 rcases bind_some em with ⟨rs,U,e1,e2⟩|⟨e,e1,e2⟩
 .obtain⟨x,h1,h2⟩:=jo e1;cases h1;refine⟨c,Z,B,θ,_,U,F,b,h2,λvs P A b1=>?_⟩;refine lF (E:=a) (dvs:=[]) (λG=>.nil) F ?_ A b1 e2 k p;rw[Vz,<-A.len];exact hn Z rs U h2
 .obtain⟨x,h1,_⟩:=jo e1;cases h1
theorem Kd{n:Nat}{f:Addr}{m:Ms}{pos':Pos}{ma:Mi (List Rr)}(hN:X.N.Nodup)(hi:X.N[i]?=some y)(hx:Loc X.env.scope y)(F:cV X.prog X.w X.K X.mg X.base (sd X.prog X.w) k f fd ps (uZ (kx X) n m))(hr:cp k X.A)(hg:Gl X x)
  (hm:X.mg x=some (.ref f))(hk:VJ X.K (.ref f)=true)(hb:Binds X.K fd ps [])(ha:JA X.yk jC (e::es) ma)(hn:∀Z rs O,ma Z=some (.ok rs,O)->rs.length+0=n)(hdb:gu x)(hs:swapsWith (.Call (.Name x p) (e::es) [] cpos) (some (.Name y pos')) pos.line X.env=pure false:=by rfl)
  (hf:X.fn y=true\/X.env.scope.names.lookup y=some .local:=by first|exact .inl rfl|exact .inr rfl|assumption)(he:starEach (e::es) X.env=(false,eval e X.env)::starEach es X.env:=by rfl)(hpl:(backTo cpos (starEach es X.env)).any (·.1)=false:=by rfl):
  JX X (.Assign [.Name y pos'] (.Call (.Name x p) (e::es) [] cpos) pos) (aG i (fq m [] (i8 ma))):=
 ⟨PX.weaken (Np hN hi hx (sN (dvs:=[]) F hr hg hm hk hb .nil ha.p hdb he hpl) hs hf) λD Ex Y H h=>by
  obtain⟨c,Z,B,θ,f,O,ek,b,em,q⟩:=h;rcases bE em with ⟨r,U,e1,e2⟩|⟨e,e1,e2⟩
  .refine gK hn ek b e1 (λr' hr' v H' hv b1=>?_) (λx hx=>by cases hx);cases hr';cases e3:xF r U with
   |none=>simp only[e3] at e2;cases e2
   |some p=>
    obtain⟨t,Z'⟩:=p;simp only[e3] at e2;obtain⟨b2,ht⟩:=Bd.xF hv b1 e3;cases e4:put i t Z' with
    |none=>simp only[e4] at e2;cases e2
    |some Y'=>simp only[e4] at e2;cases e2;exact q _ H' (Bd.put b2 ht e4)
  .subst e2;exact gK hn ek b e1 (λr hr=>by cases hr) (λx hx=>by cases hx;exact λC H' hm b1=>q C Y H' hm b1)⟩
theorem Gm{n:Nat}{f:Addr}{m:Ms}{ma:Mi (List Rr)}(F:cV X.prog X.w X.K X.mg X.base (sd X.prog X.w) k f fd ps (uZ (kx X) n m))(hr:cp k X.A)(hg:Gl X x)
  (hm:X.mg x=some (.ref f))(hk:VJ X.K (.ref f)=true)(hb:Binds X.K fd ps [])(ha:JA X.yk jC (e::es) ma)(hn:∀Z rs O,ma Z=some (.ok rs,O)->rs.length+0=n)(hdb:gu x)(hs:swapsWith (.Call (.Name x p) (e::es) [] cpos) none pos.line X.env=pure false:=by rfl)
  (he:starEach (e::es) X.env=(false,eval e X.env)::starEach es X.env:=by rfl)(hpl:(backTo cpos (starEach es X.env)).any (·.1)=false:=by rfl):
  JX X (.Expr (.Call (.Name x p) (e::es) [] cpos) pos) (bO (fq m [] (i8 ma))):=
 ⟨PX.weaken (Hs (sN (dvs:=[]) F hr hg hm hk hb .nil ha.p hdb he hpl) hs) λD Ex Y H h=>by
  obtain⟨c,Z,B,θ,f,O,ek,b,em,q⟩:=h;rcases bE em with ⟨r,U,e1,e2⟩|⟨e,e1,e2⟩
  .cases e2;exact gK hn ek b e1 (λr' hr' v H' hv b1=>by cases hr';exact q Y H' b1.drop) (λx hx=>by cases hx)
  .subst e2;exact gK hn ek b e1 (λr hr=>by cases hr) (λx hx=>by cases hx;exact λC H' hm b1=>q C Y H' hm b1)⟩
def Eb(i:Nat)(sub:Str->Bool)(b s:Ms):Ms:=λZ=>match b Z with
 |some (.ex x,U)=>if sub x=true then match put i (.fr (.exc x)) U with
  |some Z'=>match s Z' with
   |some (.nx,Y')=>match put i .un Y' with
    |some V=>some (.nx,V)
    |none=>none
   |some (.rt r,Y')=>some (.rt r,Y')
   |_=>none
  |none=>none else none
 |r=>r
theorem Lw{T:Addr}{n:Str}{b0 s0:Stmt}{suite:List Stmt}{mb ms:Ms}{sub:Str->Bool}{np hp:Pos}(hst:X.stack=X.env::X.outer)(hfr:X.env.frame=some X.env.locals)(hex:X.ex=[])(hN:X.N.Nodup)(hi:X.N[i]?=some n)(hn:X.env.scope.names.lookup n=some .local)
  (hg:Gl X x)(hm:X.mg x=some (.ref T))(hsub:∀c C,sub c=true->X.mg c=some (.ref C)->XE X.K (.ref C) (.ref T)=some true)(hb:JX X b0 mb)(hs:∀a,An (X.marked a) jC (s0::suite) ms)(hd:gu x)
  (hf:X.fn n=true\/X.env.scope.names.lookup n=some .local:=by first|exact .inl rfl|exact .inr rfl|assumption):
  JS X E (.Try [b0] [.ExceptHandler (some (.Name x np)) (some n) (s0::suite) hp] [] [] pos) (Eb i sub mb ms):=
 ⟨PS.weaken (Kp (ts:=R3 (kx X) jC ms) hst hfr hex hN hi hn hg hm (xh hb.p) (λa=>(hs a).p) hd hf) λD Y H h=>by
  obtain⟨c,Z,B,θ,f,O,ek,b,em,q⟩:=h;unfold Eb at em;cases eb:mb Z with
  |none=>simp only[eb] at em;cases em
  |some p=>
   obtain⟨f1,U⟩:=p;simp only[eb] at em;refine⟨c,Z,B,θ,f1,U,ek,b,eb,?_⟩;cases f1 with
   |nx=>cases em;exact q
   |rt s=>cases em;exact q
   |bk=>cases em;exact q
   |ct=>cases em;exact q
   |ex y=>
    simp only at em;split at em
    .rename_i hsb;intro C j H' hmC b1;refine⟨C,rfl,hsub y C hsb hmC,λa ha=>?_⟩;cases ep:put i (.fr (.exc y)) U with
     |none=>simp only[ep] at em;cases em
     |some Z'=>
      simp only[ep] at em;cases es:ms Z' with
      |none=>simp only[es] at em;cases em
      |some p=>
       obtain⟨f2,Y'⟩:=p;simp only[es] at em;have b2:Bd c (j.set i (some (.ref a))) (upd H' a (tY a C)) Z' B (θ.map Sl.fr):=by obtain⟨L,bl⟩:=b1;obtain⟨b3,sm,np⟩:=bl.new (o:=tY a C) ha;exact Bd.put (b3.push (.exc (by rw[bz np (bl.Pl ha)];exact aI) (by rw[ek];exact hmC))) (λo z=>by cases z) ep
       refine⟨c,Z',B,θ,f2,Y',ek,b2,es,?_⟩;cases f2 with
       |nx=>
        cases e4:put i .un Y' with
        |none=>simp only[e4] at em;cases em
        |some V=>simp only[e4] at em;cases em;exact λR H3 b3=>q _ H3 (b3.unset e4)
       |rt r=>cases em;exact q
       |bk=>cases em
       |ct=>cases em
       |ex z=>cases em
    .cases em⟩
noncomputable def hJ(tab:Str->Option Bool):A->Option Rr
 | .exc c=>match tab c with
  |some k=>some (.fr (.bl k))
  |none=>none
 |_=>none
theorem Iu(hc:eJ cv=true)(i:∀c C k,tab c=some k->K.mg c=some (.ref C)->gU K.K C/\Vt K.K (.ref C) (ir cv)=some k):
  lq K (λv H Q=>∃x c t b,[v,cv]=[x,c]/\xy K.K H x t/\eJ c=true/\Vt K.K t (ir c)=some b/\Q (.bl b) H) (hJ tab):=.scalar λH v a q o h=>by
 cases a<;>first|(cases h;done)|skip
 rename_i c;unfold hJ at h;simp only at h;cases e:tab c with
 |none=>simp only[e] at h;cases h
 |some k=>
  simp only[e] at h;cases h;cases o with
  |exc e1 s=>obtain⟨O,Y⟩:=i c _ k e s;exact⟨_,_,rfl,λ_=>.bl _,λQ k=>⟨_,_,_,_,rfl,.exc e1 O,hc,Y,k⟩⟩
theorem Hz{e2:Expr}(hg:Gl X x)(hm:X.mg x=none)(hv:bootBuiltins x=some (.builtin "isinstance"))(h2:PE X e2 (tC cv))(hc:eJ cv=true)(ht:∀c C k,tab c=some k->X.mg c=some (.ref C)->gU X.K C/\Vt X.K (.ref C) (ir cv)=some k)
  (ha:JE X E e m)(hn:x ≠ "__name__")(hdb:gu x)(hs:starEach [e,e2] X.env=(false,eval e X.env)::starEach [e2] X.env:=by rfl)(hs2:starEach [e2] X.env=(false,eval e2 X.env)::starEach [] X.env:=by rfl)(hp:(backTo pos (starEach [e2] X.env)).any (·.1)=false:=by rfl):
  JE X E (.Call (.Name x p) [e,e2] [] pos) (dg (hJ tab) m):=
 ⟨PE.weaken (je ub hg hm hv (bu ha.p (bu h2 dq hs2) hs) hn hdb hs hp) λY H Q h=>gZ (r:=λv H Q=>∃x c t b,[v,cv]=[x,c]/\xy (kx X).K H x t/\eJ c=true/\Vt (kx X).K t (ir c)=some b/\Q (.bl b) H) (Iu (K:=kx X) hc ht) Y H Q h⟩
end
section
variable{c:Cn}{Y:St}{H:Hp}{Z:List Sl}{B:St}{θ:List Sl}
theorem eA.QI{p:Addr}{o o':LO}{u:HO}(b:eA c Y H Z (some (.ref p)::B) (.lv o::θ) L):
  LR c.toKx (c.g H L) H p o/\((∀H',H' p=some u->LR c.toKx (c.g H L) H' p o')->eA c Y (upd H p u) Z (some (.ref p)::B) (.lv o'::θ) L):=by
 obtain⟨nd,rel,own,fr,kp,lt,K⟩:=b;have rel:aB c.toKx (c.g H L) H (some (.ref p)::(B++Y)) (.lv o::(θ++Z)) L:=rel;cases rel with
 |cons h r=>
  rename_i v L2;cases h with
  |lv h=>
   refine⟨h,λhn=>?_⟩;have X:p∈[p]++L2:=by simp
   have S:∀q∈L2,q≠p:=λq j z=>(Vn.mp nd).1 (by rw[<-z];exact j);have V:c.g (upd H p u) ([p]++L2)=c.g H ([p]++L2):=by
    funext a
    by_cases z:a∈[p]++L2\/a∈c.Hd
    .rw[gP z,gP z]
    .rw[bz (λy=>z (.inl y)) (λy=>z (.inr y)),bz (λy=>z (.inl y)) (λy=>z (.inr y)),au λy=>z (.inl (by rw[y];exact X))]
   refine⟨nd,aB.cons (L:=[p]) (.lv (by rw[V];exact hn _ aI)) (r.sm (by rw[V];exact Sq.refl _) (λq j w e=>by rw[au (S q j)];exact e)),own,⟨λq w e=>?_,λq j=>?_⟩,kp,lt,K⟩
   .obtain⟨I,h1,h2⟩:=fr.st q w e;by_cases z:q=p
    .subst z;refine⟨u,aI,λJ=>?_⟩;rcases own q X with y|y
     .exact absurd y J
     .rw[y] at e;cases e
    .exact⟨I,by rw[au z];exact h1,h2⟩
   .obtain⟨h1,⟨ob,vs,h2⟩,h3⟩:=fr.pk q j;refine⟨?_,⟨ob,vs,h2⟩,h3⟩;rw[au λy=>?_]
    .exact h1
    .rw[y,h2] at h1;cases h with
     |lst e _=>rw[e] at h1;cases h1
     |aP e _=>rw[e] at h1;cases h1
     |obj e _ _=>rw[e] at h1;cases h1
end
section
variable{X:Cx}{E:XK}
def UJ(Z:List Sl)(i:Nat):Bool:=match aL Z i with
 |some (.aP _)=>true
 |_=>false
end
inductive nt(K:UN)(H:Hp)(kb:List (Key×V)):List (Key×V)->Bool->Prop
 |nil:nt K H kb [] true
 |miss{k:Key}{v:V}{r:List (Key×V)}(h:jE kb k=none):nt K H kb ((k,v)::r) false
 |hit{k:Key}{v y:V}{r:List (Key×V)}{d e:D}{b:Bool}(h:jE kb k=some y)(hd:Den K H v d)(he:Den K H y e)(dp:D.depth d<=40)(t:nt K H kb r b):nt K H kb ((k,v)::r) (D.eq d e&&b)
def l8(kb:List (Key×A)):List (Key×A)->Option Bool
 |[]=>some true
 |(k,a)::r=>match gp kb k with
  |none=>some false
  |some b=>match pz a b,l8 kb r with
   |some e,some t=>some (e&&t)
   |_,_=>none
theorem w8{K:Kx}{H:Hp}{Y:List (Key×V)}{kb:List (Key×A)}(p:dY K H Y kb):∀{v:List (Key×V)}{x:List (Key×A)}{r:Bool},dY K H v x->l8 kb x=some r->nt K.K H Y v r
 |_,_,_,.nil,h=>by cases h;exact .nil
 |_,_,_,.cons (y:=y) (a:=a) (as:=as) h0 r0,h=>by
  unfold l8 at h;rcases p.get y with ⟨u,a',g,s,P⟩|⟨g,s⟩
  .simp only[s] at h;cases e1:pz a a' with
   |none=>simp only[e1] at h;cases h
   |some e=>
    cases e2:l8 kb as with
    |none=>simp only[e1,e2] at h;cases h
    |some t=>simp only[e1,e2] at h;cases h;obtain⟨d,f,k,o,O,rfl⟩:=n9 e1;exact .hit g (jZ h0 k) (jZ P o) O (w8 p r0 e2)
  .simp only[s] at h;cases h;exact .miss g
section
variable{X:Cx}{E:XK}
noncomputable def yI(K:UN):R2:=λx y H Q=>∃a b h kb r,x=.ref a/\y=.ref b/\Rd H a (.dK h)/\Rd H b (.dK kb)/\nt K H kb h r/\Q (.bl (!(h.length==kb.length&&r))) H
theorem NF{pins:List (Addr×Obj)}{s:Shared}{A:Around}(I:Inv X pins Y H s)(f:A.units+40<cLine){kb:List (Key×V)}{Q:List (Key×Value)}(Z:KV kb Q){x:List (Key×V)}{r:Bool}(h:nt X.K H kb x r):∀{a:List (Key×Value)},KV x a->PySem.W.KeqHits A s Q a r:=by
 induction h with
 |nil=>intro a q;cases q;exact .nil
 |@miss k v r h=>
  intro a q;cases q with
  |@cons _ p _ ps h0 D=>obtain⟨u,U⟩:=p;obtain⟨e,B⟩:=h0;have e:k=u:=e;subst e;exact .miss (gq.none_of (by rw[<-h];exact Z.val k))
 |@hit k v y r d e b h hd he dp t j=>
  intro a q;cases q with
  |@cons _ p _ ps h0 D=>obtain⟨u,U⟩:=p;obtain⟨e,B⟩:=h0;have e:k=u:=e;subst e;obtain⟨S,m,L⟩:=gq.some_of (v:=y) (o:=PySem.valueAt Q k) (by rw[<-h];exact Z.val k);exact .hit m (iz I 40 f dp hd he B L) (j D)
theorem qc(f:X.A.units+64<cLine):eu X (compareOp .NotEq) (yI X.K):=by intro pins s Y H x y v u Q I w z h;obtain⟨a,b,G,kb,r,rfl,rfl,p,Z,t,q⟩:=h;cases w;cases z;obtain⟨T,B,U,i,E⟩:=L2.dS I.hok p;obtain⟨V,C,L,n,k⟩:=L2.dS I.hok Z;refine PySem.W.keq_ne B C E k (by omega) (λ_=>NF I (A:=X.A.in1) (by show X.A.in1.units+40<cLine;rw[show X.A.in1.units=X.A.units+1 from rfl];omega) n t i) ?_;rw[<-i.length,<-n.length];exact⟨.bl _,H,I,rfl,q⟩
def zf(x kb:List (Key×A)):Option Bool:=match l8 kb x with
 |some r=>some (x.length==kb.length&&r)
 |none=>none
def T9:A->A->Option Rr
 | .aP ka,.aP kb=>match zf ka kb with
  |some r=>some (.fr (.bl r))
  |none=>none
 |_,_=>none
def kF:A->A->Option Rr
 | .aP ka,.aP kb=>match zf ka kb with
  |some r=>some (.fr (.bl (!r)))
  |none=>none
 |_,_=>none
theorem pZ:gA K (yI K.K) kF:=.scalar λH v w a b q i n h=>by
 cases a<;>first|(cases h;done)|(cases b<;>first|(cases h;done)|skip)
 rename_i x kb;unfold kF zf at h;simp only at h;cases e:l8 kb x with
 |none=>simp only[e] at h;cases h
 |some r=>
  simp only[e] at h;cases h;cases i with
  |aP e1 k1=>
   cases n with
   |aP e2 k2=>exact⟨_,_,rfl,λ_=>.bl _,λQ k=>⟨_,_,_,_,_,rfl,rfl,e1,e2,w8 k2 k1 e,by rw[k1.len,k2.len];exact k⟩⟩
variable{a b:Expr}{ma mb:Mi Rr}{pos:Pos}
theorem Kk(f:X.A.units+64<cLine)(ha:JE X E a ma)(d:JE X E b mb):JE X E (.Compare a [.NotEq] [b] pos) (az (dJ iy kF) ma mb):=dD (eu.or' (lC f) (qc f)) (yy.or pZ) ha d (cc _)
theorem K4(f:X.A.units+64<cLine)(ha:JE X E a ma)(d:JE X E b mb):JT X E (.Compare a [.NotEq] [b] pos) (ao (az (dJ iy kF) ma mb)):=dC (eu.or' (lC f) (qc f)) (yy.or pZ) ha d (cc _)
end
end M
set_option maxHeartbeats 4000000
namespace L2
open PySem PySem.Spec PyProof.Rows
theorem yf:entryFor table "dict.update.loop" = some Builtin.«dict.update.loop»:=entryFor_of_tree (by kernel_rfl)
theorem rZ:plainId "dict.update.loop" = true:=by decide +kernel
theorem zM:typeLookup (.type "tuple") "keys" = pure none:=am_miss_of_fast (by kernel_rfl)
section
variable{prog:Program}{w:World}{A:Around}{E:Value->Shared->Prop}{s:Shared}
theorem Gg{a:Addr}{items:Array Value}{Q:Option Value->Shared->Prop}(y:fg s.heap a items)(G:A.handled=none)(h:∀h' tk,(∀b ob,s.heap.get? b=some ob->h'.get? b=some ob)->Q none { s with heap:=h',toks:=tk }):
  wpAny (model prog w) A (getAttr? (.ref a) "keys") Q E s:=by
 obtain⟨⟨c,v,Z,sl⟩,y,hc,k,H,hd⟩:=y;simp only at hc H hd;subst hc H hd;obtain⟨hp,g,d,tk,os⟩:=s;have p:∀Y,(⟨hp,g,d,Y,os⟩:Shared).TypeIs (.ref a) "tuple" := λ_=>⟨_,y,rfl⟩
 have C:=sub_AttributeError;have D:=Xn.lookup;have B:=Xn.bind (.ref a);have O:=am_tuple_getattr_none;unfold getAttr? getAttrBy? getAttrBy
 repeat (any_goals (first|assumption|exact p _|((with_reducible show wpAny _ _ (call (Xg "tuple.__getattribute__") _ _) _ _ _);refine call_meets Xn (p _) am_entry_tuple_getattribute (F.args_tuple_getattribute_2 _ _) (meets_getattribute_miss_tuple a items k sl "keys" _ zM (by decide +kernel)) ⟨y,G,λh' Y e q=>?_⟩)|wp_step))
 obtain⟨t',x,he⟩:=q.there;show wpAny _ _ (getattributeRaised _ _ _ _ _ _ _) _ _ _;unfold getattributeRaised
 repeat (any_goals (first|assumption|wp_step))
 exact h _ _ q.keeps
theorem zh{R:Result->Shared->Prop}(S:A.in1.handled=none){h0:Heap}{a D I:Addr}{its:Array Value}{kvs:List (Key×Value)}(ha:h0.IsTuple a its)
  (T:∀(i:Nat)(v:Value),its[i]?=some v->∃p k u r,v=Vq p/\h0.IsTuple p #[u,r]/\kvs[i]?=some (k,r)/\(aJ prog w).is k u=true)(hl:its.size=kvs.length)(g:h0.get? D=none)(O:h0.get? I=none)(h:D≠I)(hz:its.size<=1000):
  ∀(k i:Nat)(n:Int)(t:Tok)(s:Shared),its.size-i=k->i<=its.size->s.heap.IsTupleIter I a i->(∀b o,h0.get? b=some o->s.heap.get? b=some o)->s.heap.DictOf (aJ prog w) D (merged [] (kvs.take i))->
   (∀h' tk,(∀b o,h0.get? b=some o->h'.get? b=some o)->h'.DictOf (aJ prog w) D (merged [] kvs)->R (.ok (.ret .none)) { s with heap:=h',toks:=tk })->
   codeAny (model prog w) A (.builtin "dict.update.loop" ⟨[.ref D,.ref I,.int n t,.none],[]⟩) R s:=by
 intro k;induction k with
 |zero=>
  intro i n t s hk hi hit kp hd U;have Z:i=its.size:=by omega
  subst Z;refine codeAny_builtin yf ?_;rw[Zh rZ _];show wpAny _ A.in1 (pyNext (.ref I) >>= _) _ _ s;refine wpAny_bind (wpAny_pyNext_tuple_end S hit (let ⟨o,e,r⟩:=ha;⟨o,kp _ _ e,r⟩) (by simp) λh' Y=>?_);have H:∀b o,h0.get? b=some o->h'.get? b=some o:=λb o e=>Y b o (λz=>by rw[z,O] at e;cases e) (kp b o e);show wpAny _ A.in1 (Builtin.Dict.addKeywords D [] >>= _) _ _ _;refine wpAny_bind (wpAny_pure ?_);refine wpAny_pure (U h' s.toks H ?_);rw[hl,VS] at hd;exact hd.extBut Y h
 |succ k j=>
  intro i n t s hk hi hit kp hd U;have Q:i<its.size:=by omega
  obtain⟨p,l,u,r,c,hp,B,G⟩:=T i its[i] (by simp[Q]);refine codeAny_builtin yf ?_;rw[Zh rZ _];show wpAny _ A.in1 (pyNext (.ref I) >>= _) _ _ s;refine wpAny_bind (wpAny_pyNext_tuple_item hit (let ⟨o,e,r⟩:=ha;⟨o,kp _ _ e,r⟩) (x:=.ref p) (by rw[<-c];simp[Q]) λh' q X=>?_);have H:∀b o,h0.get? b=some o->h'.get? b=some o:=λb o e=>(X.2 b (λz=>by rw[z,O] at e;cases e)).trans (kp b o e);obtain⟨po,y,J,pn,N⟩:=hp;have m:Shared.TypeIs { s with heap:=h' } (.ref p) "tuple" := ⟨po,H _ _ y,J⟩
  have K:h'.DictOf (aJ prog w) D (merged [] (kvs.take i)):=hd.extBut X.extBut h;show wpAny _ A.in1 (holding [Vq p] _ >>= _) _ _ _;refine wpAny_bind (wpAny_holding ?_);refine wpAny_bind (wpAny_tryCatch ?_);unfold Builtin.Dict.pairItems;refine wpAny_bind (wpAny_typeOf m ?_);refine wpAny_bind (wpAny_seqItems (H _ _ y) N (wpAny_pure ?_));show wpAny _ A.in1 (holding [u,r] (dictSet D u r)) _ _ _;refine wpAny_holding (wpAny_dictSet_pairs (s:={ s with heap:=h' }) G K (λh2 V E=>?_) ?_)
  .have L:∀b o,h0.get? b=some o->h2.get? b=some o:=λb o e=>(E.2 b (λz=>by rw[z,g] at e;cases e)).trans (H b o e);refine wpAny_pure ⟨plainId_quiet rZ _,?_⟩;refine j (i+1) _ _ { s with heap:=h2,toks:=s.toks+1 } (by omega) Q (q.extBut E.extBut (VY h)) L ?_ (λh3 tk k3 f=>U h3 tk k3 f);rw[merged_take_succ [] kvs i (l,r) B];exact V
  .have:=merged_length_le [] (kvs.take i);rw[Wm,Vh] at this;rw[sizeLine_eq];omega
end
inductive fb(K:UN)(H:Hp):List V->List (Key×V)->Prop
 |nil:fb K H [] []
 |cons{p:Addr}{k:Key}{v:V}{ws:List V}{kvs:List (Key×V)}(h:iu K H p [kV k,v])(t:fb K H ws kvs):fb K H (.ref p::ws) ((k,v)::kvs)
section
variable{X:Cx}
theorem pairs_at{pins:List (Addr×Obj)}{Y:St}{H:Hp}{s:Shared}(I:Inv X pins Y H s):∀{ws:List V}{kvs:List (Key×V)}{its:List Value},fb X.K H ws kvs->Vals ws its->
  ∃rs:List (Key×Value),KV kvs rs/\its.length=rs.length/\∀(i:Nat)(v:Value),its[i]?=some v->∃p k u r,v=Vq p/\s.heap.IsTuple p #[u,r]/\rs[i]?=some (k,r)/\(aJ X.prog X.w).is k u=true
 |_,_,_,.nil,.nil=>⟨[],.nil,rfl,λi v e=>by simp at e⟩
 |_,_,_,.cons (p:=p) (k:=k) (v:=v) h t,.cons r0 t0=>by
  obtain⟨rs,Q,hl,T⟩:=pairs_at I t t0;obtain⟨a,n,S,_⟩:=I.tuple h;cases n with
  |cons J E=>
   cases E with
   |cons z q=>
    cases q;rename_i u r;cases r0;refine⟨(k,r)::rs,.cons ⟨rfl,z⟩ Q,by simp[hl],λi v e=>?_⟩;cases i with
    |zero=>cases e;exact⟨p,k,u,r,rfl,S,rfl,l9 J⟩
    |succ i=>exact T i v e
def qZ(K:UN):List V->Hp->VK->Prop:=λvs H Q=>∃(a:Addr)(ws:List V)(kvs:List (Key×V)),vs=[.ref a]/\iu K H a ws/\fb K H ws kvs/\ws.length<=1000/\∀r,H r=none->Q (.ref r) (upd H r (.dK (eD [] kvs)))
theorem vF(hc:X.calm=true):bF X (.type "dict") (qZ X.K):=by
 intro pins s Y H vs us Q I D h;obtain⟨a,ws,kvs,rfl,P,hp,hz,q⟩:=h;obtain⟨u,rfl,J⟩:=D.one;cases J;obtain⟨its,C,m,_⟩:=I.NK P;obtain⟨rs,B,hl,T⟩:=pairs_at I hp C;have G:=I.ok.hd hc;have E:=C.length;refine callType_codes (Q₁:=λobj Z=>obj=.ref s.heap.objs.size/\Z={ s with heap:=s.heap.push { cls:=.type "dict",data:=.dict #[] } }) PySem.F.kt_called_dict (PySem.F.kt_typeCall_dict_1 _) PySem.F.entry_dict_init (kt_code_dict_new _ ⟨rfl,rfl⟩) ?_;rintro obj Z ⟨rfl,rfl⟩;have x:(s.heap.push { cls:=.type "dict",data:=.dict #[] }).DictOf (aJ X.prog X.w) s.heap.objs.size []:=Zd s.heap;refine⟨x.typeIs,PySem.F.args_dict_init_2 _ _,?_⟩;have p:fg (s.heap.push { cls:=.type "dict",data:=.dict #[] }) a its.toArray:=by obtain⟨o,e,r⟩:=m;exact⟨o,UR _ e,r⟩
 unfold Builtin.«dict.__init__»;refine wpAny_bind ?_;unfold Builtin.Dict.selfAndRest;refine wpAny_bind (wpAny_notOrdered_dict x.typeIs ?_);show wpAny _ _ (pure (s.heap.objs.size,[Vq a])) _ _ _;refine wpAny_pure ?_;show wpAny _ _ (Yo "dict.__init__" s.heap.objs.size (.ref a) [] .none) _ _ _;unfold Yo;refine wpAny_bind (wpAny_typeOf p.t.typeIs ?_);rw[if_pos (by decide)];refine wpAny_bind (Gg p (by simp[G]) λh' tk kp=>?_);rw[if_pos (show (none:Option Value).isNone=true from rfl)];refine wpAny_bind (wpAny_rule ?_);have L:h'.IsTuple a its.toArray:=by obtain⟨o,e,c,n,d,_⟩:=p;exact⟨o,kp _ _ e,c,n,d⟩
 refine wpAny_bind (wpAny_pyIter_tuple L ?_);refine wpAny_pure ⟨plainId_quiet rZ _,?_⟩;have hsz:s.heap.objs.size<h'.objs.size:=by obtain⟨o,_,_,e,_⟩:=x;exact U4 (kp _ _ e)
 refine zh (A:=X.A.in1) (h0:=s.heap) (a:=a) (its:=its.toArray) (kvs:=rs) (by simp[G]) m.t (λi v e=>T i v (by simpa using e)) (by simp[hl]) (WX (U2 _)) (WX (WN hsz)) (Vi hsz) (by simp;omega)
  (its.toArray.size-0) 0 0 0 _ rfl (VM _) ⟨_,U6 _ rfl,rfl,rfl⟩ (λb o e=>UR _ (kp _ _ (UR _ e))) ?_ (λh2 O k2 k=>⟨rfl,?_⟩)
 .obtain⟨o,es,ep,e,r⟩:=x;exact⟨o,es,ep,UR _ (kp _ _ e),r⟩
 .have U:(eD [] kvs).length<=sizeLine:=by have h1:=dR kvs [];have h2:=B.length;rw[Wm] at h1;rw[sizeLine_eq];omega
  exact⟨.ref s.heap.objs.size,_,I.laid (a:=s.heap.objs.size) (o:=.dK (eD [] kvs)) k2 (U2 _) (oo U (beq_eq_false_iff_ne.mpr (VY (Vi I.big))) (B.merge .nil) k),rfl,q _ I.fresh⟩
end
end L2
namespace M
open PySem L2
def eG:List A->Option (List (Key×A))
 |[]=>some []
 | .tup [k,v]::r=>match gB k,eG r with
  |some y,some t=>some ((y,v)::t)
  |_,_=>none
 |_=>none
def iP(kvs more:List (Key×A)):List (Key×A):=more.foldl (λacc s=>jD acc s.1 s.2) kvs
theorem dY.merge{k:Kx}{G:Hp}:∀{vs ws:List (Key×V)}{as bs:List (Key×A)},dY k G vs as->dY k G ws bs->dY k G (eD ws vs) (iP bs as)
 |_,_,_,_,.nil,r=>r
 |_,_,_,_,.cons (y:=y) h t,r=>by have:=dY.merge t (r.put y h);exact this
theorem qe{k:Kx}{G:Hp}:∀{as:List A}{vs:List V}{kvs:List (Key×A)},bx k G vs as->eG as=some kvs->∃ws,fb k.K G vs ws/\dY k G ws kvs
 |[],_,_,.nil,h=>by cases h;exact⟨[],.nil,.nil⟩
 |a::as,_,_,.cons h0 t0,h=>by
  cases a<;>first|(simp[eG] at h;done)|skip
  rename_i xs
  match xs,h0,h with
  |[],_,h=>simp[eG] at h
  |[_],_,h=>simp[eG] at h
  |_::_::_::_,_,h=>simp[eG] at h
  |[x,y],h0,h=>
   unfold eG at h;cases e1:gB x with
   |none=>simp only[e1] at h;cases h
   |some l=>
    cases e2:eG as with
    |none=>simp only[e1,e2] at h;cases h
    |some t=>
     simp only[e1,e2] at h;cases h;obtain⟨ws,J,S⟩:=qe t0 e2;cases h0 with
     |tup e r=>
      cases r with
      |cons g r=>
       cases r with
       |cons s r=>cases r;rw[jf g e1] at e;exact⟨_::ws,.cons e J,.cons s S⟩
theorem fb.sm{K:UN}{G G':Hp}(s:Sq G G'):∀{vs:List V}{ws:List (Key×V)},fb K G vs ws->fb K G' vs ws
 |_,_,.nil=>.nil
 |_,_,.cons h t=>.cons (cT s h) (fb.sm s t)
def iS:A->Option Rr
 | .tup as=>if as.length<=1000 then match eG as with
  |some kvs=>some (.nw (.aP (iP [] kvs)))
  |none=>none else none
 |_=>none
variable{K:Kx}
theorem CP:lq K (λv=>qZ K.K [v]) iS:=by
 intro c Y H Z B θ x v a q Q F A o e1 e3 k;subst F;obtain⟨L,bl,s⟩:=Bd.open o A e1;cases a<;>first|(cases e3;done)|skip
 rename_i as;unfold iS at e3;simp only at e3;split at e3
 .rename_i hz;cases es:eG as with
  |none=>simp only[es] at e3;cases e3
  |some kvs=>simp only[es] at e3;cases e3;obtain⟨p,vs,rfl,s1,z⟩:=s.2.1 as rfl;obtain⟨ws,J,S⟩:=qe z es;exact⟨p,vs,ws,rfl,cT (g_same _ _ _) s1,fb.sm (g_same _ _ _) J,by rw[z.len];exact hz,λr l=>k _ _ trivial (bl.fZ l λG H' sm q=>.aP q ((S.sm sm).merge .nil))⟩
 .cases e3
section
variable{X:Cx}
theorem vW(hc:X.calm=true):bF X (.type "dict") (λxs H Q=>qR xs H Q\/qZ X.K xs H Q):=bF.or' vo (vF hc)
theorem Az:lq K (λv H Q=>qR [v] H Q\/qZ K.K [v] H Q) (sG jX iS):=Dd.or CP
end
end M
set_option maxHeartbeats 1000000
namespace M
open PySem L2
variable{s:Sl}{cn:Str}{r:Rr}
section
variable{c:Cn}{Y:St}{H:Hp}{Z:List Sl}{B:St}{θ:List Sl}
theorem i7.IH{k:Kx}{G:Hp}{x:Option V}{L:List Addr}{fs:List (Str×A)}(h:i7 k G H x s L)(sm:Sq G H)(e:s.a=some (.obj cn fs)):∃p C dx vs,x=some (.ref p)/\H p=some (.ins C dx vs)/\k.mg cn=some (.ref C)/\pq k G vs fs:=by
 have lo:∀p o,LR k G H p o->o.a=A.obj cn fs->∃C dx vs,H p=some (.ins C dx vs)/\k.mg cn=some (.ref C)/\pq k G vs fs:=λp o h z=>by
  cases h with
  |lst=>cases z
  |aP=>cases z
  |obj e m r=>cases z;exact⟨_,_,_,e,m,r⟩
 cases h with
 |un=>cases e
 |fr h=>cases e;cases h with|obj e m r=>exact⟨_,_,_,_,rfl,sm.keep e rfl,m,r⟩
 |lv h=>obtain⟨C,dx,vs,h1,h2,h3⟩:=lo _ _ h (U1 e);exact⟨_,C,dx,vs,rfl,h1,h2,h3⟩
 |pv h=>obtain⟨C,dx,vs,h1,h2,h3⟩:=lo _ _ h (U1 e);exact⟨_,C,dx,vs,rfl,h1,h2,h3⟩
theorem Bd.ID{v:V}{fs:List (Str×A)}(b:Bd c Y H Z (bH r v B) (bG r θ))(q:VR Y r v)(e:res Z r=some (.obj cn fs)):∃L p C dx vs,eA c Y H Z B θ L/\v=.ref p/\H p=some (.ins C dx vs)/\c.mg cn=some (.ref C)/\pq c.toKx (c.g H L) vs fs:=by
 obtain⟨n,b⟩:=b;have u:∀s,eA c Y H Z (some v::B) (s::θ) n->s.a=some (.obj cn fs)->∃L p C dx vs,eA c Y H Z B θ L/\v=.ref p/\H p=some (.ins C dx vs)/\c.mg cn=some (.ref C)/\pq c.toKx (c.g H L) vs fs:=by
  intro s b w;obtain⟨nd,rel,own,fr,kp,lt,K⟩:=b;have rel:aB c.toKx (c.g H n) H (some v::(B++Y)) (s::(θ++Z)) n:=rel;cases rel with
  |cons h r=>rename_i I L2;have sm:Sq (c.g H (I++L2)) (c.g H L2):=dk λa ha=>UX _ ha;obtain⟨p,C,dx,vs,h1,h2,h3,h4⟩:=(h.sm sm (λ_ _ _ e=>e)).IH (g_same _ _ _) w;exact⟨L2,p,C,dx,vs,⟨(U8.mp nd).2.1,r.sm sm (λ_ _ _ e=>e),λp hp=>own p (UX _ hp),fr,kp,by simpa using lt,K⟩,U1 h1,h2,h3,h4⟩
 cases r with
 |rf i=>
  unfold res at e;cases es:Z[i]? with
  |none=>simp only[es] at e;cases e
  |some s=>simp only[es] at e;obtain⟨I,L2,e1,Q,X⟩:=aB.split b.lt b.rel;obtain⟨x,_,_,_,y,P,_⟩:=X.at es;have q:Y[i]?=some (some v):=q;rw[q] at y;obtain⟨p,C,dx,vs,h1,h2,h3,h4⟩:=P.IH (g_same _ _ _) e;rw[<-U1 y] at h1;exact⟨n,p,C,dx,vs,b,U1 h1,h2,h3,h4⟩
 |fr a'=>exact u _ b e
 |nw o=>exact u _ b e
theorem Bd.Ue{x:Option V}{ys:St}{ss:List Sl}(e:ys.length=ss.length)(b:Bd c Y H Z (x::(ys++B)) (s::(ss++θ))):Bd c Y H Z (ys++x::B) (ss++s::θ):=by
 obtain⟨L,b⟩:=b;have r:aB c.toKx (c.g H L) H (x::(ys++(B++Y))) (s::(ss++(θ++Z))) L:=by have:=b.rel;simpa[U0] using this
 cases r with
 |cons h r=>
  rename_i I L2;obtain⟨K,v,e1,i,n⟩:=aB.split e r;subst e1;have pm:(I++(K++v)).Perm (K++(I++v)):=by rw[<-U0,<-U0];exact Wo.append_right v
  refine⟨K++(I++v),(pm.nodup_iff).mp b.nd,?_,λp hp=>b.own p (pm.mem_iff.mpr hp),b.fr,b.kp,by have:=b.lt;simp[e] at this ⊢;omega,b.hd⟩;have N:c.g H (K++(I++v))=c.g H (I++(K++v)):=LM λa=>pm.mem_iff.symm;rw[N];have:=i.app (aB.cons h n);simpa[U0] using this
end
variable{K:Kx}{cs:List Str}{e:Expr}{m mo:Mi Rr}{pos px:Pos}{i:Nat}{x mn:Str}{Z O:List Sl}{o:Except Str Rr}{ma:Mi (List Rr)}{C:Addr}
section
variable{X:Cx}{E:XK}
def bp(cs:List Str)(f:Str):A->Option Rr
 | .obj c fs=>if cs.contains c then (match fs.lookup f with
  |some a=>some (.fr a)
  | none=>none) else none
 |_=>none
def Jg(K:UN)(f:Str):V->Hp->VK->Prop:=λx e Q=>∃a C dx fs v,x=.ref a/\e a=some (.ins C dx fs)/\pB K C/\fo K C f/\fs.lookup f=some v/\Q v e
theorem FP{f:Str}(hc:∀c C,cs.contains c=true->K.mg c=some (.ref C)->pB K.K C/\fo K.K C f):lq K (Jg K.K f) (bp cs f):=by
 intro c Y H Z B θ x v a q Q F A o e1 e3 k;cases a<;>first|(cases e3;done)|skip
 rename_i cn fs;unfold bp at e3;simp only at e3;split at e3
 .rename_i h;cases T:fs.lookup f with
  |none=>simp only[T] at e3;cases e3
  |some w=>
   simp only[T] at e3;cases e3;obtain⟨L,p,C,dx,vs,bl,rfl,h2,h3,h4⟩:=Bd.ID o A e1;subst F;obtain⟨R,c2⟩:=hc cn C h h3;rcases h4.get f with ⟨u,a,g,s,P⟩|⟨_,s⟩
   .rw[T] at s;cases s;exact⟨p,C,dx,vs,u,rfl,h2,R,c2,g,k u H trivial (bl.push P)⟩
   .rw[T] at s;cases s
 .cases e3
theorem FY{f:Str}(hc:∀c C,cs.contains c=true->X.mg c=some (.ref C)->pB X.K C/\fo X.K C f)(he:JE X E e m)(d:attributeBase e f X.env (eval e X.env)=eval e X.env):JE X E (.Attribute e f pos) (j4 (bp cs f) m):=
 ⟨PE.weaken (Mm he.p d) λY H Q h=>gZ (r:=Jg X.K f) (FP hc) Y H Q h⟩
def iL(cs:List Str)(i:Nat)(f:Str)(m:Mi Rr):Ms:=cH m λr Z=>match a8 r Z with
 |some (a,U)=>match aL U i with
  |some (.obj c fs)=>if cs.contains c&&Xl fs.length 900 then some (.nx,setAt U i (.obj c (p5 f a fs))) else none
  |_=>none
 |none=>none
theorem EY{f:Str}{J:Pos}(l:X.N[i]?=some x)(A:uY X.env.scope x)(hd:gu x)(S:zz x)(hc:∀c C,cs.contains c=true->X.mg c=some (.ref C)->pB X.K C/\fo X.K C f)(he:JE X E e m)
  (P:swapsWith e (some (.Attribute (.Name x px) f J)) pos.line X.env=pure false):JS X E (.Assign [.Attribute (.Name x px) f J] e pos) (iL cs i f m):=
 ⟨PS.weaken (Lv (eB l A hd S) he.p P) λD Y H h=>by
  obtain⟨c,Z,B,θ,fl,O,F,b,em,q⟩:=h;refine fM F b em q λr v U G A b1 u=>?_;cases e1:a8 r U with
  |none=>simp only[e1] at u;cases u
  |some pr=>
   obtain⟨a,Z'⟩:=pr;simp only[e1] at u;have b2:=Bd.a8 (xs:=[]) (ss:=[]) rfl b1 A e1;cases e2:aL Z' i with
   |none=>simp only[e2] at u;cases u
   |some lo=>
    cases lo with
    |lst _=>simp only[e2] at u;cases u
    |aP _=>simp only[e2] at u;cases u
    |obj cn fs=>
     simp only[e2] at u;split at u
     .rename_i Q;rw[UO] at Q;cases u;obtain⟨L,bl,V⟩:=Bd.sX b2;obtain⟨p,h1,h2,h3⟩:=bl.live e2 (.obj cn (p5 f a fs)) (match G (match Y[i]? with|some (some (.ref p))=>p|_=>0) with|some (.ins C dx ws)=>.ins C dx (gM f v ws)|_=>.lst []);cases h2 with
      |obj w t z=>
       rename_i C dx ws;simp only[h1,w] at h3;have e3:X.mg cn=some (.ref C):=by have:=congrArg (λk:Kx=>k.mg cn) F;simp only at this;rw[<-this];exact t
       obtain⟨R,c2⟩:=hc cn C Q.1 e3;exact⟨_,h1,p,C,dx,ws,rfl,w,R,c2,by have:=z.len;have:=VP Q.2;omega,q Y _ (h3 λH' y=>.obj y t (z.put V))⟩
     .cases u⟩
def cf(cn m:Str)(mo:Mi Rr):Mi Rr:=aF mo λr Z=>match res Z r with
 |some (.obj c fs)=>if c==cn&&(fs.lookup m).isNone then some (.ok r,Z) else none
 |_=>none
theorem qr{m:Str}{r':Rr}(h:(match res Z r with|some (.obj c fs)=>if c==cn&&(fs.lookup m).isNone then some ((.ok r:Except Str Rr),Z) else none|_=>none)=some (o,O)):∃fs,res Z r=some (.obj cn fs)/\fs.lookup m=none/\o=.ok r/\O=Z:=by
 split at h
 .rename_i c fs e;split at h
  .rename_i hc;rw[UO,beq_iff_eq,W7] at hc;cases h;exact⟨fs,by rw[e,hc.1],hc.2,rfl,rfl⟩
  .cases h
 .cases h
inductive MH(cn mn:Str)(mo:Mi Rr)(ma:Mi (List Rr))(Z:List Sl)(x:Except Str (List Rr))(U:List Sl):Prop
 |ok{r:Rr}{rs:List Rr}{Z':List Sl}{fs:List (Str×A)}(e:mo Z=some (.ok r,Z'))(g:res Z' r=some (.obj cn fs))(l:fs.lookup mn=none)(a:ma Z'=some (.ok rs,U))(q:x=.ok (r::rs))
 |err{y:Str}(e:mo Z=some (.error y,U))(q:x=.error y)
 |bad{r:Rr}{Z':List Sl}{fs:List (Str×A)}{y:Str}(e:mo Z=some (.ok r,Z'))(g:res Z' r=some (.obj cn fs))(l:fs.lookup mn=none)(a:ma Z'=some (.error y,U))(q:x=.error y)
theorem sS{U:List Sl}{x:Except Str (List Rr)}(h:bZ (cf cn mn mo) ma Z=some (x,U)):MH cn mn mo ma Z x U:=by
 rcases bind_some h with ⟨r,Z',e3,e4⟩|⟨y,e3,e4⟩
 .rcases bind_some e3 with ⟨D,Y',e5,e6⟩|⟨_,_,e6⟩
  .obtain⟨fs,g,s,P,n⟩:=qr (r':=D) e6;cases P;subst n;rcases bind_some e4 with ⟨rs,V,H,a⟩|⟨y,H,a⟩
   .cases a;exact .ok e5 g s H rfl
   .exact .bad e5 g s H a
  .cases e6
 .rcases bind_some e3 with ⟨D,Y',e5,e6⟩|⟨z,e5,e6⟩
  .obtain⟨fs,g,s,P,n⟩:=qr (r':=D) e6;cases P
  .cases e6;exact .err e5 e4
theorem pY{m:Ms}{n:Nat}{das:List A}{dvs:List V}(hd:∀G,bx (kx X) G dvs das)(y:X.mg cn=some (.ref C))(hn:∀Z rs O,ma Z=some (.ok rs,O)->rs.length+1+das.length=n)(Y:St)(H:Hp)(Q:VK)(h:il (kx X) E (fq m das (bZ (cf cn mn mo) ma)) Y H Q):
  Ax C mn (uZ (kx X) n m) dvs E (il (kx X) E mo) (Qh (kx X) E ma) Y H Q:=by
 obtain⟨c,Z,B,θ,o,O,F,b,em,q⟩:=h;have T:∀{r:Rr}{Z':List Sl}{fs:List (Str×A)}{v:V}{P:Hp},res Z' r=some (.obj cn fs)->fs.lookup mn=none->VR Y r v->Bd c Y P Z' (bH r v B) (bG r θ)->∃p dx vs,v=.ref p/\P p=some (.ins C dx vs)/\vs.lookup mn=none:=λg a s b1=>by
  obtain⟨L,p,R,dx,vs,bl,rfl,h2,h3,h4⟩:=Bd.ID b1 s g;have w:X.mg cn=some (.ref R):=by have:=congrArg (λk:Kx=>k.mg cn) F;simp only at this;rw[<-this];exact h3
  rw[y] at w;cases w;refine⟨p,dx,vs,rfl,h2,?_⟩;rcases h4.get mn with ⟨_,_,_,z,_⟩|⟨z,_⟩
  .rw[a] at z;cases z
  .exact z
 have fin:∀e,o=.error e->∀C H,X.mg e=some (.ref C)->Bd c Y H O B θ->E (.ref C) none H:=aQ q;rcases bind_some em with ⟨rs,U,e1,e2⟩|⟨e,e1,e2⟩
 .cases sS e1 with
  |@ok r rs' Z' fs e5 g a K eq=>cases eq;refine⟨c,Z,B,θ,_,_,F,b,e5,λv P s b1=>?_⟩;obtain⟨p,dx,vs,rfl,h2,hl⟩:=T g a s b1;refine⟨p,dx,vs,rfl,h2,hl,c,_,_,_,_,_,F,b1,K,λws N t b2=>?_⟩;refine lF (rs:=r::rs') (vs:=.ref p::ws) hd F ?_ ⟨s,t⟩ b2 e2 (λr l v H' s b=>by subst l;exact q v H' s b) (λx S=>by subst S;exact q);rw[Xq,US,UY,<-t.len,<-hn _ _ _ K,(hd λ_=>none).len];omega
  |err _ eq=>cases eq
  |bad _ _ _ _ eq=>cases eq
 .cases sS e1 with
  |ok _ _ _ _ eq=>cases eq
  |err e5 eq=>cases eq;exact⟨c,Z,B,θ,_,_,F,b,e5,λC P hm b1=>fin _ e2 C P hm b1⟩
  |bad e5 g a K eq=>cases eq;refine⟨c,Z,B,θ,_,_,F,b,e5,λv P s b1=>?_⟩;obtain⟨p,dx,vs,rfl,h2,hl⟩:=T g a s b1;exact⟨p,dx,vs,rfl,h2,hl,c,_,_,_,_,_,F,b1,K,λC N hm b2=>fin _ e2 C N hm b2.drop⟩
end
variable{apos:Pos}
theorem qg{o:Expr}{m:Str}{args:List Expr}{env:Env}(H:attributeBase o m env (eval o env)=eval o env)
  (Y:methodCallForm (args.length+([]:List Keyword).length) (backTo pos (starEach args env)) (backToKw pos (keywordEach [] env))=true)(a:(apos.endLine==pos.line)=true):
  eval (.Call (.Attribute o m apos) args [] pos) env=(do
   let ov <- eval o env
   standAt apos.atName
   let (f,first) <- holding [ov] (getMethod ov m (do return (<- importBound o env).getD true))
   callWith pos f first (backTo pos (starEach args env)) (backToKw pos (keywordEach [] env))):=by
 rw[arm_eval_Call,H];unfold methodCall calleeOf methodCallPos;rw[Y,a];rfl
variable{H:Hp}{p:Pos}
section
variable{X:Cx}{E:XK}{CX:xi}{k n:Nat}{f C:Addr}{fd:FuncData}{ps:List Str}{m:Ms}{das:List A}{dvs:List V}{ds:List Value}{cn mn:Str}{apos pos:Pos}{o e:Expr}{es:List Expr}{mo:Mi Rr}{ma:Mi (List Rr)}
theorem F0(y:X.mg cn=some (.ref C))(hc:pB X.K C)(hm:Meth X.K C mn f)(F:cV X.prog X.w X.K X.mg X.base CX k f fd ps (uZ (kx X) n m))(l:cp k X.A)(d:Binds X.K fd ps ds)(hd:Vals dvs ds)(h:∀G,bx (kx X) G dvs das)(S:Passes CX X E)
  (ho:JE X E o mo)(ha:JA X E (e::es) ma)(hn:∀Z rs O,ma Z=some (.ok rs,O)->rs.length+1+das.length=n)(H:attributeBase o mn X.env (eval o X.env)=eval o X.env)
  (Y:methodCallForm ((e::es).length+([]:List Keyword).length) (backTo pos (starEach (e::es) X.env)) (backToKw pos (keywordEach [] X.env))=true)(a:(apos.endLine==pos.line)=true)
  (v:starEach (e::es) X.env=(false,eval e X.env)::starEach es X.env)(T:(backTo pos (starEach es X.env)).any (·.1)=false):JE X E (.Call (.Attribute o mn apos) (e::es) [] pos) (fq m das (bZ (cf cn mn mo) ma)):=
 ⟨PE.weaken (F5 ho.p hc hm F l d hd S ha.p v T (qg H Y a)) (pY h y hn)⟩
theorem il.mono{E:XK}{m:Mi Rr}{Y:St}{Q a:VK}(h:il K E m Y H Q)(f:∀v H,Q v H->a v H):il K E m Y H a:=by
 obtain⟨c,Z,B,θ,o,O,F,b,em,q⟩:=h;refine⟨c,Z,B,θ,o,O,F,b,em,?_⟩;cases o with
 |ok r=>exact λv H' A S=>f _ _ (q v H' A S)
 |error x=>exact q
theorem DL(y:X.mg cn=some (.ref C))(hc:pB X.K C)(hm:Meth X.K C mn f)(F:cV X.prog X.w X.K X.mg X.base CX k f fd ps (uZ (kx X) n m))(l:cp k X.A)(d:Binds X.K fd ps ds)(hd:Vals dvs ds)(L:∀G,bx (kx X) G dvs das)(S:Passes CX X E)
  (ho:JE X E o mo)(hn:1+das.length=n)(U:attributeBase o mn X.env (eval o X.env)=eval o X.env)(x:(apos.endLine==pos.line)=true):JE X E (.Call (.Attribute o mn apos) [] [] pos) (fq m das (bZ (cf cn mn mo) eP)):=
 ⟨PE.weaken (Dt ho.p hc hm F l d hd S (qg U rfl x)) λY H Q h=>by
  have h1:=pY (X:=X) (E:=E) (C:=C) (n:=n) L y (ma:=eP) (λZ rs O q=>by cases q;rw[<-hn];simp) Y H Q h;refine il.mono h1 λv e ⟨a,dx,fs,g,s,P,r⟩=>⟨a,dx,fs,g,s,P,?_⟩
  obtain⟨c,Z,B,θ,o,O,z,b,em,q⟩:=r;cases em;exact q [] e trivial b⟩
def kC(cn:Str)(f:Ms)(das:List A)(ma:Mi (List Rr)):Mi Rr:=aF ma λrs Z=>match cg (rs++das.map Rr.fr) Z with
 |some (as,T)=>match f (.pv (.obj cn [])::as.map sH) with
  |some (.rt (.fr .non),.pv (.obj c2 fs)::Y)=>match putL Z (rs++das.map Rr.fr) (bg as.length Y) T with
   |some O=>some (.ok (.nw (.obj c2 fs)),O)
   |none=>none
  |some (.ex x,s::Y)=>match putL Z (rs++das.map Rr.fr) (bg as.length Y) T with
   |some O=>some (.error x,O)
   |none=>none
  |_=>none
 |none=>none
theorem z7(n:Nat)(s:Sl)(Z:List Sl):∃t,bg (n+1) (s::Z)=t::bg n Z:=by cases s<;>exact⟨_,rfl⟩
inductive KU(cn:Str)(f:Ms)(rs':List Rr)(Z:List Sl)(o:Except Str Rr)(O:List Sl):Prop
 |ok{as T Y:List Sl}{c2:Str}{fs:List (Str×A)}(t:cg rs' Z=some (as,T))(e:f (.pv (.obj cn [])::as.map sH)=some (.rt (.fr .non),.pv (.obj c2 fs)::Y))(p:putL Z rs' (bg as.length Y) T=some O)(q:o=.ok (.nw (.obj c2 fs)))
 |err{as T Y:List Sl}{s:Sl}{x:Str}(t:cg rs' Z=some (as,T))(e:f (.pv (.obj cn [])::as.map sH)=some (.ex x,s::Y))(p:putL Z rs' (bg as.length Y) T=some O)(q:o=.error x)
theorem Be{f:Ms}{rs':List Rr}{o:Except Str Rr} (h:(match cg rs' Z with
 |some (as,T)=>match f (.pv (.obj cn [])::as.map sH) with
  |some (.rt (.fr .non),.pv (.obj c2 fs)::Y)=>match putL Z rs' (bg as.length Y) T with
   |some O=>some (.ok (.nw (.obj c2 fs)),O)
   |none=>none
  |some (.ex x,s::Y)=>match putL Z rs' (bg as.length Y) T with
   |some O=>some (.error x,O)
   |none=>none
  |_=>none
 | none=>none:Option (Except Str Rr×List Sl))=some (o,O)):KU cn f rs' Z o O:=by
 split at h
 .rename_i as T t;split at h
  .rename_i c2 fs Y e;split at h
   .rename_i p;cases h;exact .ok t e p rfl
   .cases h
  .rename_i x s Y e;split at h
   .rename_i p;cases h;exact .err t e p rfl
   .cases h
  .cases h
 .cases h
theorem Ah(K:∀G,bx (kx X) G dvs das)(I:X.mg cn=some (.ref C))(hn:∀Z rs O,ma Z=some (.ok rs,O)->rs.length+1+das.length=n)(Y:St)(H:Hp)(Q:VK)(h:il (kx X) E (kC cn m das ma) Y H Q):
  Jn C (uZ (kx X) n m) dvs E (Qh (kx X) E ma) Y H Q:=by
 obtain⟨c,Z,B,θ,o,O,F,b,em,q⟩:=h;rcases bind_some em with ⟨rs,U,e1,em⟩|⟨e,e1,e2⟩
 .refine⟨c,Z,B,θ,_,U,F,b,e1,λvs P A b1 x dx s D S=>?_⟩;have ld:das.length=dvs.length:=(K λ_=>none).len.symm;refine⟨by rw[US,UY,<-A.len,<-hn _ _ _ e1,ld];omega,?_⟩;have w:mP Y (rs++das.map Rr.fr) (vs++dvs):=A.app (mP.dz ld);have R:c.mg cn=some (.ref C):=by have:=congrArg (λk:Kx=>k.mg cn) F;simp only at this;rw[this];exact I
  have kp:fX c.σ0 Y U:=by obtain⟨L,b⟩:=b1;exact b.kp
  have pre:∀{as T:List Sl},cg (rs++das.map Rr.fr) U=some (as,T)->(vs++dvs).length=as.length/\Bd c Y (upd (upd P dx (.own x)) x (.ins C dx [])) T ((V.ref x::(vs++dvs)).reverse.map some++B) ((Sl.lv (.obj cn [])::as).reverse++θ):=λ{as T} e2=>by obtain⟨J,e3⟩:=Bd.cg w (by rw[n8 _ _ _ A.len,lH];exact Bd.vH (by rw[F];exact K) b1:Bd c Y P U (cI (rs++das.map Rr.fr) (vs++dvs) B) (cK (rs++das.map Rr.fr) θ)) e2;obtain⟨L,f⟩:=J.new (o:=.own x) D;have i:=f.fZ (u:=.ins C dx []) (o:=.obj cn []) (by rw[au S.symm];exact s) λG H' sm q=>.obj q R .nil;have j:=Bd.Ue (ys:=(vs++dvs).reverse.map some) (ss:=as.reverse) (by simp only[UP,List.length_reverse];exact e3) i;exact⟨e3,by simpa[U0] using j⟩
  cases Be em with
  |ok t e4 e6 eq=>obtain⟨e3,g⟩:=pre t;obtain⟨N,k1,k2,k3,l,k5⟩:=Bd.enter (by rw[US,US,e3]) g;refine⟨N,_,_,_,k1.trans F,k2,k3,l,e4,λv H' d y=>?_⟩;have rv:=Bd.top y (a:=.non) rfl;cases rv;refine⟨rfl,?_⟩;have p:=k5 H' _ _ _ (λs' r o z=>by rw[Va.mp r] at z;exact d o z) (bL _ _) y;rw[US,e3] at p;rw[eq] at q;exact q (.ref x) H' trivial (Bd.nR (xs:=[some .non]) (ss:=[.fr .non]) rfl (Bd.putL kp w (by simpa[bg,Dz,U0] using p) e6))
  |err t e4 e6 eq=>obtain⟨e3,g⟩:=pre t;obtain⟨N,k1,k2,k3,l,k5⟩:=Bd.enter (by rw[US,US,e3]) g;refine⟨N,_,_,_,k1.trans F,k2,k3,l,e4,λC' H' hm y=>?_⟩;have p:=k5 H' _ _ _ (λs' r=>by cases r) (bL _ _) y;rw[US,e3] at p;obtain⟨t,ht⟩:=z7 _ _ _;rw[ht] at p;rw[eq] at q;exact q C' H' hm (Bd.putL kp w (by simpa[U0] using p) e6).pop
 .subst e2;exact⟨c,Z,B,θ,_,O,F,b,e1,λC P hm b1=>q C P hm b1⟩
theorem Gj(g:Mk X.K C f)(F:cV X.prog X.w X.K X.mg X.base CX k f fd ps (uZ (kx X) n m))(l:cp (k+1) X.A)(r:Gl X x)(y:X.mg x=some (.ref C))(d:Binds X.K fd ps ds)(hd:Vals dvs ds)(h:∀G,bx (kx X) G dvs das)(S:Passes CX X E)
  (ha:JA X E (e::es) ma)(hn:∀Z rs O,ma Z=some (.ok rs,O)->rs.length+1+das.length=n)(H:gu x)(he:starEach (e::es) X.env=(false,eval e X.env)::starEach es X.env)(T:(backTo pos (starEach es X.env)).any (·.1)=false):
  JE X E (.Call (.Name x p) (e::es) [] pos) (kC x m das ma):=
 ⟨PE.weaken (Hy g F l r y d hd S ha.p H he T) (Ah h y hn)⟩
noncomputable def nu(m n:Mi Rr):Mi Rr:=λZ=>match m Z with
 |some x=>some x
 |none=>n Z
theorem M7{m n:Mi Rr}(h:JE X E e m)(h':JE X E e n):JE X E e (nu m n):=⟨λpins s Y H Q I t=>by
 obtain⟨c,Z,B,θ,o,O,F,b,em,q⟩:=t;unfold nu at em;cases e1:m Z with
 |some x=>simp only[e1] at em;cases em;exact h.p pins s Y H Q I ⟨c,Z,B,θ,o,O,F,b,e1,q⟩
 | none=>simp only[e1] at em;exact h'.p pins s Y H Q I ⟨c,Z,B,θ,o,O,F,b,em,q⟩⟩
end
noncomputable def j6(i j:Str):Bool:=!(V7 j i 0 j.length 1).isEmpty
def qK(neg:Bool):A->A->Option Rr
 | .str i,.str j=>some (.fr (.bl (if neg then !(j6 i j) else j6 i j)))
 |_,_=>none
noncomputable def iK:List A->Option (List Bool)
 |[]=>some []
 | .bl b::r=>match iK r with
  |some bs=>some (b::bs)
  |none=>none
 |_=>none
theorem qw:∀{xs:List A}{bs:List Bool},iK xs=some bs->xs=bs.map A.bl
 |[],bs,h=>by cases h;rfl
 |a::r,bs,h=>by
  cases a<;>first|(cases h;done)|skip
  unfold iK at h;cases e:iK r with
  |none=>simp only[e] at h;cases h
  |some cs=>simp only[e] at h;cases h;rw[qw e];rfl
def pK(g:List Bool->Bool):A->Option Rr
 | .lst xs=>match iK xs with
  |some bs=>some (.fr (.bl (g bs)))
  |none=>none
 |_=>none
theorem tX{K:Kx}{G:Hp}:∀{bs:List Bool}{vs:List V},bx K G vs (bs.map A.bl)->vs=bs.map V.bl
 |[],vs,h=>by cases h;rfl
 |b::bs,vs,h=>by
  cases h with
  |cons h1 h2=>cases h1;rw[tX h2];rfl
theorem L6{g:List Bool->Bool}:lq K (λv=>OH K.K g [v]) (pK g):=.scalar λH v a q i h=>by
 cases a<;>first|(cases h;done)|skip
 rename_i xs;unfold pK at h;simp only at h;cases e:iK xs with
 |none=>simp only[e] at h;cases h
 |some bs=>
  simp only[e] at h;cases h;have:=qw e;subst this;cases i with
  |lst X D=>exact⟨_,_,rfl,λ_=>.bl _,λQ k=>⟨_,_,bs,rfl,X,tX D,k⟩⟩
section
variable{X:Cx}{E:XK}{a b:Expr}{ma mb:Mi Rr}{pos:Pos}
theorem Eh:gA K (λx y H Q=>∃i j,x=.str i/\y=.str j/\Q (.bl (!(V7 j i 0 j.length 1).isEmpty)) H) (qK false):=.scalar λH v w a b q C n h=>by
 cases a<;>first|(cases h;done)|skip
 cases b<;>first|(cases h;done)|skip
 cases C;cases n;cases h;exact⟨_,_,rfl,λ_=>.bl _,λQ k=>⟨_,_,rfl,rfl,k⟩⟩
theorem yp:gA K (λx y H Q=>∃i j,x=.str i/\y=.str j/\Q (.bl (!(!(V7 j i 0 j.length 1).isEmpty))) H) (qK true):=.scalar λH v w a b q C n h=>by
 cases a<;>first|(cases h;done)|skip
 cases b<;>first|(cases h;done)|skip
 cases C;cases n;cases h;exact⟨_,_,rfl,λ_=>.bl _,λQ k=>⟨_,_,rfl,rfl,k⟩⟩
theorem Nt(f:X.A.units+1<cLine)(ha:JE X E a ma)(d:JE X E b mb)(hm:behindInMarks .In b=false):JE X E (.Compare a [.In] [b] pos) (az (dJ (dJ (jF false) (gE false)) (qK false)) ma mb):=f9 (Rb f ha d hm) (dD pL Eh ha d hm)
theorem Ke(f:X.A.units+1<cLine)(ha:JE X E a ma)(d:JE X E b mb)(hm:behindInMarks .In b=false):JT X E (.Compare a [.In] [b] pos) (ao (az (dJ (dJ (jF false) (gE false)) (qK false)) ma mb)):=jx (Po f ha d hm) (dC pL Eh ha d hm)
theorem Gz(f:X.A.units+1<cLine)(ha:JE X E a ma)(d:JE X E b mb)(hm:behindInMarks .NotIn b=false):JE X E (.Compare a [.NotIn] [b] pos) (az (dJ (dJ (jF true) (gE true)) (qK true)) ma mb):=f9 (Nc f ha d hm) (dD kE yp ha d hm)
theorem F3(f:X.A.units+1<cLine)(ha:JE X E a ma)(d:JE X E b mb)(hm:behindInMarks .NotIn b=false):JT X E (.Compare a [.NotIn] [b] pos) (ao (az (dJ (dJ (jF true) (gE true)) (qK true)) ma mb)):=jx (MT f ha d hm) (dC kE yp ha d hm)
theorem Cs:bootBuiltins "all" = some (.builtin "all"):=by decide +kernel
end
def Lq(G G':Hp):Prop:=∀a u,G a=some u->(∀ws,u≠.lst ws)->G' a=some u
noncomputable def T8(a:List V):TA:=λ_ H Q=>Q a H
noncomputable def lN:List (List (Str×Bool))->Str->Option Bool
 |[],_=>some false
 |l::r,c=>match l.lookup c with
  |some true=>some true
  |some false=>lN r c
  |none=>none
variable{cvs:List V}{tab:Str->Option Bool}
theorem HG(hc:cvs.all eJ=true)(hl:cvs.length<=sizeLine)(L:∀c C k,tab c=some k->K.mg c=some (.ref C)->gU K.K C/\V9 K.K (.ref C) (cvs.map ir)=some k):
  lq K (λv H Q=>cvs.length<=sizeLine/\∀p,H p=none->∃x a cs t b,[v,.ref p]=[x,.ref a]/\(upd H p (.tup cvs)) a=some (.tup cs)/\cs.all eJ=true/\xy K.K (upd H p (.tup cvs)) x t/\V9 K.K t (cs.map ir)=some b/\Q (.bl b) (upd H p (.tup cvs))) (hJ tab):=by
 intro c Y H Z B θ x v a q Q F A o e1 e3 k;refine⟨hl,λp hp=>?_⟩;have h:Bd c Y (upd H p (.tup cvs)) Z (bH x v B) (bG x θ):=o.new hp;have i:=Bd.rd h A e1;rw[F] at i;cases a<;>first|(cases e3;done)|skip
 rename_i cn;unfold hJ at e3;simp only at e3;cases e:tab cn with
 |none=>simp only[e] at e3;cases e3
 |some b=>
  simp only[e] at e3;cases e3;cases i with
  |exc e4 s=>obtain⟨O,E⟩:=L cn _ b e s;exact⟨_,p,cvs,_,b,rfl,aI,hc,.exc e4 O,E,k (.bl b) _ trivial (Bd.push h.drop λ_=>.bl b)⟩
section
variable{X:Cx}{E:XK}
theorem Gx{tp:Pos}{tk:Nat}{es:List Expr}(N:Gl X x)(hm:X.mg x=none)(A:bootBuiltins x=some (.builtin "isinstance"))(h2:PA X es (T8 cvs))(hc:cvs.all eJ=true)(hl:cvs.length<=sizeLine)(i:∀c C k,tab c=some k->X.mg c=some (.ref C)->gU X.K C/\V9 X.K (.ref C) (cvs.map ir)=some k)
  (ha:JE X E e m)(hn:x ≠ "__name__")(Z:gu x)(P:starEach [e,.Tuple es tk tp] X.env=(false,eval e X.env)::starEach [.Tuple es tk tp] X.env):
  JE X E (.Call (.Name x p) [e,.Tuple es tk tp] [] pos) (dg (hJ tab) m):=
 ⟨PE.weaken (je zD N hm A (bu ha.p (bu (B1 h2) dq rfl) P) hn Z P rfl) λY H Q h=>gZ (r:=λv H Q=>cvs.length<=sizeLine/\∀p,H p=none->∃x a cs t b,[v,.ref p]=[x,.ref a]/\(upd H p (.tup cvs)) a=some (.tup cs)/\cs.all eJ=true/\xy (kx X).K (upd H p (.tup cvs)) x t/\V9 (kx X).K t (cs.map ir)=some b/\Q (.bl b) (upd H p (.tup cvs))) (HG (K:=kx X) hc hl i) Y H Q h⟩
end
theorem rD(l:Addr)(xs:Array Value)(n:Nat)(b:Addr)(ys:Array Value)(D:Nat)(k:Option Addr)(H:Array (Option Value))(h0:¬ (!xs.isEmpty&&Wu (xs.size+ys.size))=true)(h1:xs.size<=sizeLine)(h2:xs.size+ys.size<=sizeLine+1):
  Meets (Builtin.«list.extend» ⟨[.ref l,.ref b],[]⟩) (λ_ R s=>s.heap.get? l=some { cls:=.type "list",data:=.seq xs n }/\s.heap.get? b=some { cls:=.type "list",dict:=k,data:=.seq ys D,slots:=H }/\R (.ok (.ret YC)) { s with heap:=s.heap.update l (VL λx=>x++ys),toks:=s.toks }):=
 .of_wp λprog w A R s h=>by
  obtain⟨hp,g,d,tk,os⟩:=s;obtain⟨hl,E,h⟩:=h;have C:=AutoSeq1.idx_int;have L:=AutoSeq1.sub_tuple_tuple;have Y:=AutoSeq1.sub_list_list;have F:=AutoSeq1.sub_tuple_list;have G:=AutoSeq1.sub_list_tuple;have v:(xs++ys).size<=sizeLine+1:=by rw[ZO];exact h2
  wp_walk using (wpAny_updateSeq hl rfl (hz:=h1) (_hz':=v)),YA hl,YA E
  exact⟨_,rfl,h⟩
section
variable{X:Cx}{E:XK}
def DP(K:UN):V->List V->Hp->VK->Prop:=λx vs H Q=>∃l b xs zs,x=.ref l/\vs=[.ref b]/\H l=some (.lst xs)/\g9 K H b zs/\xs.length+zs.length<=sizeLine/\Q .non (upd H l (.lst (xs++zs)))
theorem vw:Rk X "list.extend" (DP X.K):=by
 intro pins s Y H x vs v us Q I w t h;obtain⟨l,b,xs,zs,rfl,rfl,a,U,hz,q⟩:=h;cases w;obtain⟨u,rfl,J⟩:=t.one;cases J;obtain⟨z,its,n,r,hl,e⟩:=I.Hj a;obtain⟨S,Z,T,_⟩:=I.list U;obtain⟨⟨c2,k,E,C⟩,D,e2,p,B,V⟩:=id T;simp only at p V B;subst p V B;have k2:=Z.length;have hsz:its.toArray.size+S.toArray.size<=sizeLine:=by rw[UT,UT];omega
 have O:¬ (!its.toArray.isEmpty&&Wu (its.toArray.size+S.toArray.size))=true:=by rw[Ee hsz,W5];exact Vm
 refine call_meets YF ⟨_,e,rfl⟩ PySem.F.entry_list_extend (PySem.F.args_list_extend_2 _ _)
  (rD l its.toArray n b S.toArray D _ _ O (by rw[UT];omega) (by omega)) ⟨e,e2,?_⟩
 refine⟨.non,_,I.Gi (its':=its++S) a e (by simp) (r.append Z) ?_,rfl,q⟩;rw[UY];omega
def kW(i:Nat)(m:Mi Rr):Mi Rr:=aF m λr Z=>match a8 r Z with
 |some (.lst zs,U)=>match aL U i with
  |some (.lst xs)=>if xs.length+zs.length<=100000 then some (.ok (.fr .non),setAt U i (.lst (xs++zs))) else none
  |_=>none
 |_=>none
theorem zC{cpos:Pos}(hN:X.N[i]?=some x)(hv:uY X.env.scope x)(hd:gu x)(hcd:zz x)(he:JE X E e m)
  (hbase:attributeBase (.Name x px) "extend" X.env (eval (.Name x px) X.env)=eval (.Name x px) X.env:=by rfl)
  (hfew:((backTo cpos (starEach [e] X.env)).all (λx=>!x.1)&&(backToKw cpos (keywordEach [] X.env)).all (λx=>x.1.isSome)&&decide (([e]:List Expr).length+([]:List Keyword).length+(if ([]:List Keyword).isEmpty then 0 else 1)<30))=true:=by rfl)
  (hline:(apos.endLine==cpos.line)=true:=by rfl)(hs:starEach [e] X.env=(false,eval e X.env)::starEach [] X.env:=by rfl)(hplain:(backTo cpos (starEach [] X.env)).any (·.1)=false:=by rfl):
  JE X E (.Call (.Attribute (.Name x px) "extend" apos) [e] [] cpos) (iJ i (kW i m)):=
 ⟨PE.weaken (yG WB YF PySem.F.type_list_extend vw (eB hN hv hd hcd) (bu he.p dq hs) hbase hfew hline hs hplain) λY H Q h=>by
  obtain⟨c,Z,B,θ,o,O,ek,b,em,q⟩:=h;unfold iJ at em;split at em
  .rename_i hl;obtain⟨xs0,hl⟩:=o9 hl;obtain⟨p,vs,hp,hH⟩:=iZ b hl;refine⟨_,hp,.inl ⟨rfl,vs,.inl (.inl hH)⟩,?_⟩;refine aR ek b em (λr v U H1 hv b1 em1=>?_) (aQ q);cases e1:a8 r U with
   |none=>simp only[e1] at em1;cases em1
   |some pr=>
    obtain⟨a,Z'⟩:=pr;simp only[e1] at em1;have b2:=Bd.a8 (xs:=[]) (ss:=[]) rfl b1 hv e1;cases a<;>first|(simp only at em1;cases em1;done)|skip
    rename_i zs;simp only at em1;cases e2:aL Z' i with
    |none=>simp only[e2] at em1;cases em1
    |some lo=>
     cases lo with
     |aP _=>simp only[e2] at em1;cases em1
     |obj _ _=>simp only[e2] at em1;cases em1
     |lst xs=>
      simp only[e2] at em1;split at em1
      .rename_i hx;cases em1;obtain⟨L,bl,ra⟩:=Bd.sX b2;cases ra with
       |lst se sr=>
       rename_i pb us;obtain⟨p',h1,h2,h3⟩:=bl.live e2 (.lst (xs++zs)) (.lst ((match H1 p with|some (.lst ws)=>ws|_=>[])++us));rw[hp] at h1;cases h1;cases h2 with
       |lst e rr=>rename_i ws;simp only[e] at h3;have eK:c.K=X.K:=congrArg Kx.K ek;have n1:=rr.len;have n2:=sr.len;refine⟨p,pb,ws,us,rfl,rfl,e,by rw[<-eK];exact oE (g_same _ _ _) se,by have:=nE;omega,q _ _ trivial (Bd.push (h3 λH' hh=>.lst hh (rr.app sr)) λ_=>.non)⟩
      .cases em1
  .cases em⟩
end
end M
namespace L2
open PySem
theorem Q5{X:Cx}{t:Expr}{a b:List Stmt}{pos:Pos}{v:TT}{ta tb:TX}(i:PT X.yk t v)(ha:Q2 X a ta)(N:Q2 X b tb):PX X (.If t a b pos) (λD E Y H=>v Y H λk e=>if k=true then ta D E Y e else tb D E Y e):=by
 intro pins s Y H D E I h;refine wpAny_If (wpAny_mono (i pins s Y H _ (I.oI _) h) (λd s1 z=>?_) λ_ _ z=>z.elim);obtain⟨e,g,V⟩:=TP.j2 z;cases d with
 |true=>exact ha pins s1 Y e D E g (by simpa using V)
 |false=>exact N pins s1 Y e D E g (by simpa using V)
end L2
namespace M
open PySem L2
section
variable{X:Cx}{E:XK}
structure R4(X:Cx)(st:List Stmt)(m:Ms):Prop where
 p:Q2 X st (TZ (kx X) m)
theorem yw{st:Stmt}{m:Ms}(h:JX X st m):R4 X [st] m:=⟨xh h.p⟩
theorem Q3{t:Expr}{a b:List Stmt}{pos:Pos}{mt:Mi Bool}{ma mb:Ms}(i:JT X.yk jC t mt)(ha:R4 X a ma)(d:R4 X b mb):JX X (.If t a b pos) (eS (i8 mt) ma mb):=
 ⟨PX.weaken (Q5 i.p ha.p d.p) λD Ex Y H h=>by
  obtain⟨c,Z,B,θ,f,O,F,b,em,q⟩:=h;rcases bE em with ⟨k,U,e1,e2⟩|⟨e,e1,e2⟩
  .obtain⟨x,h1,h2⟩:=jo e1;cases h1;refine⟨c,Z,B,θ.map Sl.fr,.ok k,U,F,b,h2,λP b1=>?_⟩;cases k with
   |true=>rw[if_pos rfl];exact⟨c,U,B,θ,f,O,F,b1,e2,q⟩
   |false=>rw[if_neg (by decide)];exact⟨c,U,B,θ,f,O,F,b1,e2,q⟩
  .obtain⟨x,h1,_⟩:=jo e1;cases h1⟩
end
end M
set_option maxHeartbeats 4000000
set_option maxHeartbeats 1000000
set_option maxHeartbeats 4000000
namespace L2
open PySem PySem.Spec PyProof.Rows PySem.W
noncomputable def Te(d:Addr)(ob:Obj)(kvs:List (Key×V)):It:=
 ⟨λi H=>H d=some (.frz ob (.dK kvs))/\i<kvs.length,λi H x H'=>H'=H/\∃p,kvs[i]?=some p/\x=p.2,λi H=>H d=some (.frz ob (.dK kvs))/\kvs.length<=i⟩
theorem Ou{H:Type}{kvs:List (H×V)}{vs:List (H×Value)}(r:KV kvs vs):∀{i:Nat}{k:H}{v:Value},vs[i]?=some (k,v)->∃x,kvs[i]?=some (k,x)/\RelV x v:=by
 unfold KV at r;induction r with
 |nil=>intro i k v h;simp at h
 |cons h t o=>
  intro i k v e;cases i with
  |zero=>rw[WH] at e;cases e;rename_i x xs ys;exact⟨x.2,by rw[WH];obtain⟨a,b⟩:=x;cases h.1;rfl,h.2⟩
  |succ j=>rw[Wf] at e;rw[Wf];exact o e
variable{d:Addr}{kvs:List (Key×V)}
theorem tI{P:Program}{w:World}{K:UN}{x:Str}{a:Pos}{it:Addr}{ob:Obj}{vs:List (Key×Value)}{ep:Nat}(T:KV kvs vs)
  (g:∀h:Heap,h.get? d=some ob->h.DictAt (aJ P w) d vs ep):Turn P w K (.Name x a) (Te d ob kvs) [it] it (λi h=>h.IsValIter it d i vs.length ep) where
 mem:=by simp
 obj:=λi h st b N=>by rw[Va.mp N];obtain⟨o,e,c,U⟩:=st;exact⟨o,e,λv z=>by rw[U] at z;cases z⟩
 keep:=λi h h' st k=>by obtain⟨o,e,r⟩:=st;exact⟨o,k it (by simp) o e,r⟩
 item:=by
  intro X l m n hc i pins s Y H E I hf st Z;subst l m n;obtain⟨e,hi⟩:=Z;obtain⟨B,C,L,D,F,G⟩:=hf it (by simp);have hl:kvs.length=vs.length:=T.length;have q:=(I.hok d _ e).1;obtain⟨⟨k,v⟩,S⟩:∃p,vs[i]?=some p:=⟨vs[i]'(by omega),by simp[show i<vs.length by omega]⟩
  obtain⟨y,Q,O⟩:=Ou T S;refine wpAny_pyNext_values_item st (g _ q) S λh' R V=>?_;have t:Inv X pins Y H { s with heap:=h' }:=I.turned (t':=s.toks) (λb o N e=>(V.2 b N).trans e) B C D F G;exact⟨v,rfl,wpAny_pure ⟨y,H,t,O,⟨rfl,(k,y),Q,rfl⟩,R,λb N=>(hf b N).1⟩⟩
 done:=by intro X l m n hc i pins s Y H E I hf st Z;subst l m n;obtain⟨e,hi⟩:=Z;obtain⟨B,C,L,D,F,G⟩:=hf it (by simp);have hl:kvs.length=vs.length:=T.length;exact wpAny_pyNext_values_end (I.ok.hd hc) st (g _ (I.hok d _ e).1) (by simp;omega) λh' J=>⟨rfl,I.turned (t':=s.toks) (λb o N e=>J b o N e) B C D F G⟩
 self:=λ_ _ _ _ _ st h=>wpAny_pyIter_valiter st h
def N9(J:Addr->Obj->List (Key×V)->It)(I:TE):TI:=λY H R=>I Y H λx e=>∃d kvs,x=.ref d/\((e d=some (.dK kvs)/\∀ob,R (J d ob kvs) (upd e d (.frz ob (.dK kvs))))\/∃ob,e d=some (.frz ob (.dK kvs))/\R (J d ob kvs) e)
theorem JR{X:Cx}{pins:List (Addr×Obj)}{Y:St}{P:Hp}{s1:Shared}{J:Addr->Obj->List (Key×V)->It}{R:It->Hp->Prop}(g:Inv X pins Y P s1)
  (h:(P d=some (.dK kvs)/\∀ob,R (J d ob kvs) (upd P d (.frz ob (.dK kvs))))\/∃ob,P d=some (.frz ob (.dK kvs))/\R (J d ob kvs) P):
  ∃ob c vs ep,Inv X pins Y c s1/\KV kvs vs/\(d==sysModules)=false/\s1.heap.DictOf (aJ X.prog X.w) d vs/\s1.heap.DictAt (aJ X.prog X.w) d vs ep/\(∀h:Heap,h.get? d=some ob->h.DictAt (aJ X.prog X.w) d vs ep)/\R (J d ob kvs) c:=by
 rcases h with ⟨hd,q⟩|⟨ob,hd,q⟩
 .obtain⟨hz,lo,vs,s,y⟩:=tT g.hok hd;obtain⟨ep,S⟩:=id y.dictAt;obtain⟨h0,ob,n,m⟩:=g.freeze hd;refine⟨ob,_,vs,ep,m,s,lo,y,S,λh e=>?_,q ob⟩;obtain⟨o,es,e1,r⟩:=S;rw[n] at e1;cases e1;exact⟨ob,es,e,r⟩
 .obtain⟨n,hz,lo,vs,s,y⟩:=(show ba X.prog X.w P s1.heap d (.frz ob (.dK kvs)) from g.hok d _ hd)
  obtain⟨ep,S⟩:=id y.dictAt;refine⟨ob,_,vs,ep,g,s,lo,y,S,λh e=>?_,q⟩;obtain⟨o,es,e1,r⟩:=S;rw[n] at e1;cases e1;exact⟨ob,es,e,r⟩
section
variable{X:Cx}{o:Expr}{te:TE}{apos pos tp px:Pos}{es:List Expr}{kk:Nat}{x:Str}
theorem zN(ho:PE X o te)(U:attributeBase o "values" X.env (eval o X.env)=eval o X.env)(p:(apos.endLine==pos.line)=true):
  PI X (.Name x px) (.Call (.Attribute o "values" apos) [] [] pos) (N9 Te te):=by
 intro pins s Y H R I h;refine wpAny_Call_method (T:= "dict") (id:= "dict.values") U rfl p Xf YG PySem.F.type_dict_values (bf (ho pins s Y H _ I h) λu s1 ⟨y,P,l,i,d,kvs,Q,k⟩=>?_);subst Q;obtain rfl:u=Vq d:=i;obtain⟨ob,c,vs,ep,m,B,lo,g,S,n,q⟩:=JR l k;refine⟨g.typeIs,λa r=>by cases r;exact g.mapOf.noDict _ rfl,?_⟩;refine method_meetsIn YG PySem.F.entry_dict_values rfl (Zw ⟨rfl,g.typeIs,PySem.F.args_dict_values_1 _,_,meets_dict_values _ d lo,⟨vs,g⟩,?_⟩);have G:Inv X pins Y c { s1 with heap:=s1.heap.push { cls:=.type "dict_values",data:=.fields #[.ref d] } }:=m.kept (t':=s1.toks) λb o e=>UR _ e;have v:Heap.DictAt (aJ X.prog X.w) (s1.heap.push { cls:=.type "dict_values",data:=.fields #[.ref d] }) d vs ep:=S.at λo e=>UR _ e;refine wpAny_pyIter_values (s:={ s1 with heap:=s1.heap.push { cls:=.type "dict_values",data:=.fields #[.ref d] } }) ⟨_,U6 _ rfl,rfl,rfl⟩ v ?_;generalize t:s1.heap.push { cls:=.type "dict_values",data:=.fields #[.ref d] }=h3 at *;refine⟨h3.objs.size,[h3.objs.size],_,_,_,rfl,G.kept (t':=s1.toks) λb o e=>UR _ e,tI (it:=h3.objs.size) B n,⟨_,U6 _ rfl,rfl,rfl⟩,λb E=>?_,q⟩;rw[Va.mp E];exact G.ze (U2 _) G.fresh
end
end L2
set_option maxHeartbeats 1000000
namespace M
open PySem L2
variable{c:Cn}{Y B:St}{H:Hp}{Z θ:List Sl}{j:Nat}{J:Addr->Obj->List (Key×V)->It}
section
variable{X:Cx}{E:XK}
theorem Bd.SH{U:List Sl}{a:A}(b:Bd c Y H Z B θ)(N:aj j Z=some (.ok (.fr a),U)):Bd c Y H U B θ/\U[j]?=some (.fr a):=by
 unfold aj at N;revert N;cases es:Z[j]? with
 |none=>intro N;cases N
 |some s=>
  cases s with
  |un=>intro N;cases N
  |pv o=>intro N;cases N
  |fr a=>intro N;cases N;exact⟨b,es⟩
  |lv o=>intro N;cases N;exact⟨b.rY es,by rw[Vl (UQ.mp es).1]⟩
def Ua(g:Key×A->A)(j:Nat)(G:Mg)(b:Ms):Ms:=λZ=>match aj j Z with
 |some (.ok (.fr (.aP kvs)),U)=>forL G b (kvs.map g) U
 |_=>none
def Bg(J:Addr->Obj->List (Key×V)->It)(g:Key×A->A):Prop:=∀(c:Cn)(Y:St)(H:Hp)(Z:List Sl)(B:St)(θ:List Sl)(d:Addr)(ob:Obj)(vs:List (Key×V))(kvs:List (Key×A))(L:List Addr)(i:Nat),H d=some (.frz ob (.dK vs))->eA c Y H Z B θ L->dY c.toKx (c.g H L) vs kvs->
 (kvs.length<=i->(J d ob vs).stop i H)/\∀s,kvs[i]?=some s->(J d ob vs).go i H/\∀x H',(J d ob vs).yld i H x H'->Bd c Y H' Z (some x::B) (.fr (g s)::θ)
theorem wL{k:Kx}{G:Hp}:∀{vs:List (Key×V)}{kvs:List (Key×A)},dY k G vs kvs->∀{i:Nat}{p:Key×V}{s:Key×A},vs[i]?=some p->kvs[i]?=some s->p.1=s.1/\RA k G p.2 s.2
 |_,_,.nil,i,p,s,h,_=>by simp at h
 |_,_,.cons h r,0,p,s,e,e'=>by cases e;cases e';exact⟨rfl,h⟩
 |_,_,.cons h r,i+1,p,s,e,e'=>wL r (i:=i) e e'
theorem Mx{k:Kx}{G:Hp}(y:Key):RA k G (kV y) (Kv y):=by cases y with|inl i=>exact .int i|inr x=>exact .str x
theorem vc:Bg Te (·.2):=by intro c Y H Z B θ d ob vs kvs L i hd bl r;refine⟨λh=>⟨hd,by rw[r.len];exact h⟩,λs e=>⟨⟨hd,by rw[r.len];exact(UQ.mp e).1⟩,λx H' y=>?_⟩⟩;obtain⟨rfl,p,e1,rfl⟩:=y;exact bl.push (wL r e1 e).2
theorem yt{g:Key×A->A}(X:Bg J g){d:Addr}{ob:Obj}{vs:List (Key×V)}{kvs:List (Key×A)}(m:(d,.frz ob (.dK vs))∈c.Wk){F:St}{D:List Sl}{i:Nat}(G:F.length=D.length)
  (b:Bd c Y H Z (F++([some (.ref d)]++B)) (D++(([.aP kvs]:List A).map Sl.fr++θ))):((kvs.map g).length<=i->(J d ob vs).stop i H)/\∀a,(kvs.map g)[i]?=some a->(J d ob vs).go i H/\∀x H',(J d ob vs).yld i H x H'->Bd c Y H' Z (some x::(F++([some (.ref d)]++B))) (.fr a::(D++(([.aP kvs]:List A).map Sl.fr++θ))):=by
 obtain⟨L,bl,K⟩:=Bd.mid G b;have h3:H d=some (.frz ob (.dK vs)):=(bl.fr.pk _ m).1;cases K with
 |aP e3 E=>
  obtain⟨k,q,p⟩:=Dn e3;have v:d∉L/\d∉c.Hd:=⟨λz=>(by rw[gP (.inl z)] at q;cases q),λz=>(by rw[gP (.inr z)] at q;cases q)⟩
  rw[bz v.1 v.2,h3] at q;cases q;cases p;obtain⟨U,O⟩:=X c Y H Z _ _ d ob vs kvs L i h3 bl E;refine⟨λh=>U (by simpa using h),λa w=>?_⟩;rw[UU] at w;cases Q:kvs[i]? with
  |none=>rw[Q] at w;cases w
  |some s=>rw[Q] at w;cases w;exact O s Q
theorem Bd.aP{c:Cn}{Y:St}{H:Hp}{Z U:List Sl}{B:St}{θ:List Sl}{j:Nat}{kvs:List (Key×A)}(b:Bd c Y H Z B θ)(N:aj j Z=some (.ok (.fr (.aP kvs)),U)):
  ∃d vs L,Y[j]?=some (some (.ref d))/\eA c Y H U (some (.ref d)::B) (.fr (.aP kvs)::θ) L/\d∉L/\d∉c.Hd/\((H d=some (.dK vs)/\(∀w,(d,w)∉c.Wk)/\∀o,c.H0 d=some o->d∉c.Lp->o=.dK vs)\/∃ob,H d=some (.frz ob (.dK vs))/\∀o,c.H0 d=some o->d∉c.Lp->(∀w,(d,w)∉c.Wk)->o=.frz ob (.dK vs)):=by
 obtain⟨b1,es⟩:=Bd.SH b N;obtain⟨v,K,b2⟩:=b1.load es;obtain⟨L,bl,x⟩:=Bd.sX b2;cases x with
 |aP e r=>
  rename_i d vs;obtain⟨o,ho,a⟩:=Dn e;have h:d∉L/\d∉c.Hd:=⟨λz=>(by rw[gP (.inl z)] at ho;cases ho),λz=>(by rw[gP (.inr z)] at ho;cases ho)⟩
  rw[bz h.1 h.2] at ho;refine⟨d,vs,L,K,⟨bl.nd,aB.cons (L:=[]) (.fr (.aP e r)) bl.rel,bl.own,bl.fr,bl.kp,by simp[bl.lt],bl.hd⟩,h.1,h.2,?_⟩;rcases(dS ho a:Rd H d (.dK vs)) with hd|⟨ob,hd⟩
  .left;have nw:∀w,(d,w)∉c.Wk:=λw m=>by obtain⟨h1,⟨q,p,h2⟩,_⟩:=bl.fr.pk _ m;have h1:H d=some w:=h1;have h2:w=.frz q (.dK p):=h2;rw[hd,h2] at h1;cases h1
   refine⟨hd,nw,λo e np=>?_⟩;obtain⟨u,h1,h2⟩:=bl.fr.st d o e;rw[hd] at h1;cases h1;exact(h2 np nw).symm
  .refine .inr ⟨ob,hd,λo e np nw=>?_⟩;obtain⟨u,h1,h2⟩:=bl.fr.st d o e;rw[hd] at h1;cases h1;exact(h2 np nw).symm
def lM(g:Key×A->A)(n j:Nat)(G:Mg)(t:Mi Bool)(e:Mi Rr):Mi Rr:=λZ=>match aj j Z with
 |some (.ok (.fr (.aP kvs)),U)=>if (kvs.map g).length<=100000 then match bK G t e (kvs.map g) [] (U++Vd n .un) with
  |some (ys,O)=>some (.ok (.nw (.lst ys)),O.take U.length)
  |none=>none else none
 |_=>none
theorem yu{e:Expr}{t:TE}(h:PE X e t):PE X e (λY H Q=>∃d vs,H d=some (.dK vs)/\t Y H λv H'=>(∃ob,H' d=some (.frz ob (.dK vs)))/\Q v (upd H' d (.dK vs))):=by intro pins s Y H Q I m;obtain⟨d,vs,e,m⟩:=m;have h0:=(I.freeze e).1;refine bf (h pins s Y H _ I m) λu s' q=>?_;obtain⟨v,H',a,r,⟨ob,f⟩,q⟩:=q;exact⟨v,_,a.Si f h0,r,q⟩
theorem Et{g:Key×A->A}(m:Bg J g){N:List Str}{k:Nat}{sc:Scope}{tg iter a:Expr}{ifs:List Expr}{pos:Pos}{G:Mg}{mt:Mi Bool}{V:Mi Rr}{lo:Nat}(hc:X.calm=true)(S:fj X.N N k sc X.env.scope)(w:X.N.length=lo)(hi:PI X tg iter (N9 J (Bv j)))
  (hg:∀cl C s H fp,JG (ib X N sc cl C s H fp) lo tg G)(ht:∀cl C s H fp,JF (ib X N sc cl C s H fp) jC ifs mt)(he:∀cl C s H fp,JE (ib X N sc cl C s H fp) jC a V)(hs:∀y,foldedSetIterable iter X.env y=pure y):
  JE X E (.ListComp a [⟨tg,iter,ifs,0⟩] sc pos) (lM g k j G mt V):=
 ⟨λpins s Y H Q I h=>by
  have f:PE X (.ListComp a [⟨tg,iter,ifs,0⟩] sc pos) (uO k (N9 J (Bv j)) (N8 (kx X) lo G) (wW (kx X) jC mt) (il (kx X) jC V)):=qO hc S hi (λcl C s H fp=>(hg cl C s H fp).p) (λcl C s H fp=>(ht cl C s H fp).p) (λcl C s H fp=>(he cl C s H fp).p) hs;obtain⟨c,Z,B,θ,o,O,n,b,em,q⟩:=h;unfold lM at em;revert em;split
  .rename_i kvs U ev;split
   .rename_i x;split
    .rename_i ys Z' e;intro em;cases em;obtain⟨d,vs,L,K,bl,n1,n2,h⟩:=Bd.aP b ev;rcases h with ⟨hd,nw,r⟩|⟨ob,hd,r⟩
     .refine yu f pins s Y H Q I ⟨d,vs,hd,_,K,d,vs,rfl,.inl ⟨hd,λob=>?_⟩⟩;exact jv (E:=E) (c:={ c with Wk:=(d,.frz ob (.dK vs))::c.Wk }) (T:=[some (.ref d)]) (P:=[.aP kvs]) (I.len.trans w) n rfl (λR H3 Y' F D i t z=>yt m U9 t z) (Bd.Ti (ob:=ob) bl hd n1 n2) x e
       (λv H' l u=>let ⟨h1,h2⟩:=Bd.loose u nw r;⟨⟨ob,h1⟩,q v _ l h2⟩)
     .refine f pins s Y H Q I ⟨_,K,d,vs,rfl,.inr ⟨ob,hd,?_⟩⟩;exact jv (E:=E) (c:={ c with Wk:=(d,.frz ob (.dK vs))::c.Wk }) (T:=[some (.ref d)]) (P:=[.aP kvs]) (I.len.trans w) n rfl (λR H3 Y' F D i t z=>yt m U9 t z) (Bd.pin bl hd n2) x e
       (λv H' l u=>q v _ l (Bd.Ot u r))
    .intro em;cases em
   .intro em;cases em
  .intro em;cases em⟩
end
end M
set_option maxHeartbeats 4000000
set_option maxHeartbeats 1000000
namespace M
open PySem L2
section
variable{X:Cx}{E:XK}
theorem range_all(rs:List Bool):(Vo rs.length).all (λj=>rs.getD j true)=rs.all id:=by
 rw[XF,VA,VA];constructor
 .intro h x y;obtain⟨j,N,e⟩:=XW y;have:=h j (XQ.mpr N);rw[VW,Ve N,e] at this;exact this
 .intro h j N;have N:=XQ.mp N;rw[VW,Ve N];exact h _ (Yr N)
variable{a b:Expr}{ma mb:Mi Rr}{pos:Pos}
end
end M
set_option maxHeartbeats 4000000
set_option maxHeartbeats 1000000
namespace M
open PySem L2
variable{k:Kx}{H:Hp}
theorem aB.Tu{G:Hp}:∀{Y:St}{Z:List Sl}{L:List Addr}(n:Nat){o:LO}{p:Addr},aB k G H Y Z L->Z[n]?=some (.lv o)\/Z[n]?=some (.pv o)->Y[n]?=some (some (.ref p))->p∈L:=by
 intro Y Z L n o p h;induction h generalizing n with
 |nil=>intro h1;rcases h1 with h1|h1<;>cases h1
 |cons h r j=>
  intro h1 h2;cases n with
  |succ n=>exact UX _ (j n h1 h2)
  |zero=>cases h2;rcases h1 with h1|h1<;>(cases h1;cases h;exact Vk _ (.head _))
theorem eA.Tu{c:Cn}{Y:St}{H:Hp}{Z:List Sl}{B:St}{θ:List Sl}{L:List Addr}{i:Nat}{o:LO}{p:Addr}(b:eA c Y H Z B θ L)(h:aL Z i=some o)(hp:Y[i]?=some (some (.ref p))):c.g H L p=none:=by
 refine gP (.inl (b.rel.Tu (n:=B.length+i) (o:=o) ?_ ?_))
 .rw[b.lt,Vv (by omega),Zi];unfold aL at h;cases es:Z[i]? with
  |none=>simp only[es] at h;cases h
  |some s=>cases s<;>(simp only[es] at h;first|(cases h;done)|skip)<;>(cases h;simp)
 .rw[Vv (by omega),Zi];exact hp
variable{i:Nat}{x:Str}{m:Mi Rr}{pos:Pos}
section
variable{X:Cx}{E:XK}
def Tp:V->List V->Hp->VK->Prop:=λx vs H Q=>∃l b xs zs,x=.ref l/\vs=[.ref b]/\H l=some (.dK xs)/\Rd H b (.dK zs)/\l≠b/\xs.length+zs.length<=sizeLine/\Q .non (upd H l (.dK (eD xs zs)))
open PySem.Spec PyProof.Rows PySem.W in
theorem zy:Rk X "dict.update" Tp:=by
 intro pins s Y H x vs v us Q I G t h;obtain⟨l,b,xs,zs,rfl,rfl,O,U,S,hz,q⟩:=h;cases G;obtain⟨u,rfl,J⟩:=t.one;cases J;obtain⟨T,o,a,Z,B⟩:=L2.tT I.hok O;obtain⟨k,K,r,p,L⟩:=L2.dS I.hok U;refine call_meetsIn YH B.typeIs PySem.F.entry_dict_update (PySem.F.args_dict_update_2 _ _) (meets_dict_update (aJ X.prog X.w) l b S K)
  ⟨a,r,B,L,by rw[<-Z.length,<-p.length];exact hz,λh' V _ P=>⟨.non,_,?_,rfl,q⟩⟩
 exact mO I (by rw[O];exact WD) P (let ⟨q,_,_,hq,_⟩:=V;⟨q,hq⟩) (oo (Vg (dR _ _) hz) o (p.merge Z) V)
def uk(i:Nat)(m:Mi Rr):Mi Rr:=λS=>if yS S i then aF m (λr Z=>match a8 r Z with
 |some (.aP zs,U)=>match aL U i with
  |some (.aP xs)=>if xs.length+zs.length<=100000 then some (.ok (.fr .non),setAt U i (.aP (iP xs zs))) else none
  |_=>none
 | _=>none) S else none
theorem NI{px apos cpos:Pos}{e:Expr}(hN:X.N[i]?=some x)(hv:uY X.env.scope x)(hd:gu x)(hcd:zz x)(he:JE X E e m)
  (hbase:attributeBase (.Name x px) "update" X.env (eval (.Name x px) X.env)=eval (.Name x px) X.env:=by rfl)
  (hfew:((backTo cpos (starEach [e] X.env)).all (λx=>!x.1)&&(backToKw cpos (keywordEach [] X.env)).all (λx=>x.1.isSome)&&decide (([e]:List Expr).length+([]:List Keyword).length+(if ([]:List Keyword).isEmpty then 0 else 1)<30))=true:=by rfl)
  (hline:(apos.endLine==cpos.line)=true:=by rfl)(hs:starEach [e] X.env=(false,eval e X.env)::starEach [] X.env:=by rfl)(hplain:(backTo cpos (starEach [] X.env)).any (·.1)=false:=by rfl):
  JE X E (.Call (.Attribute (.Name x px) "update" apos) [e] [] cpos) (uk i m):=
 ⟨PE.weaken (yG Xf YH PySem.F.type_dict_update zy (eB hN hv hd hcd) (bu he.p dq hs) hbase hfew hline hs hplain) λY H Q h=>by
  obtain⟨c,Z,B,θ,o,O,ek,b,em,q⟩:=h;unfold uk at em;split at em
  .rename_i hl;obtain⟨xs0,hl⟩:=pU hl;obtain⟨p,vs,hp,hH⟩:=m9 b hl;refine⟨_,hp,.inr (.inr (.inl ⟨rfl,.inl ⟨vs,hH⟩⟩)),?_⟩;refine aR ek b em (λr v U H1 hv b1 em1=>?_) (aQ q);cases e1:a8 r U with
   |none=>simp only[e1] at em1;cases em1
   |some pr=>
    obtain⟨a,Z'⟩:=pr;simp only[e1] at em1;have b2:=Bd.a8 (xs:=[]) (ss:=[]) rfl b1 hv e1;cases a<;>first|(simp only at em1;cases em1;done)|skip
    rename_i zs;simp only at em1;cases e2:aL Z' i with
    |none=>simp only[e2] at em1;cases em1
    |some lo=>
     cases lo with
     |lst _=>simp only[e2] at em1;cases em1
     |obj _ _=>simp only[e2] at em1;cases em1
     |aP xs=>
      simp only[e2] at em1;split at em1
      .rename_i hx;cases em1;obtain⟨L,bl,ra⟩:=Bd.sX b2;cases ra with
       |aP se sr=>
       rename_i pb us;obtain⟨p',h1,h2,h3⟩:=bl.live e2 (.aP (iP xs zs)) (.dK (eD (match H1 p with|some (.dK ws)=>ws|_=>[]) us));rw[hp] at h1;cases h1;have hno:=bl.Tu e2 hp;cases h2 with
       |aP e rr=>rename_i ws;simp only[e] at h3;have n1:=rr.len;have n2:=sr.len;refine⟨p,pb,ws,us,rfl,rfl,e,(g_same _ _ _).Tv se,λy=>?_,by have:=nE;omega,q _ _ trivial (Bd.push (h3 λH' hh=>.aP hh (sr.merge rr)) λ_=>.non)⟩;subst y;rcases se with se|⟨o,se⟩<;>(rw[hno] at se;cases se)
      .cases em1
  .cases em⟩
def lI(mk m:Mi Rr):Mi Rr:=aF mk λrk S=>match res S rk with
 |some x=>match gB x with
  | some y=>aF m (λr Z=>match a8 r Z with
   |some (a,O)=>some (.ok (.nw (.aP [(y,a)])),O)
   | none=>none) S
  |none=>none
 |none=>none
theorem Ds{R e:Expr}{mk:Mi Rr}(hk:JE X E R mk)(h:JE X E e m):JE X E (.Dict [some R] [e] pos) (lI mk m):=
 ⟨PE.weaken (HR (Dv hk.p h.p FZ) rfl rfl (by simp) (by simp)) λY H Q h=>by
  obtain⟨c,Z,B,θ,o,O,F,b,em,q⟩:=h;intro p hp;show il (kx X) E mk Y (upd H p (.dK [])) (λx P=>il (kx X) E m Y P (λy t=>t p=some (.dK [])/\∃kvs:List (Key×V),[(x,y)]=kvs.map (λD=>(kV D.1,D.2))/\kvs.length<=15/\Q (.ref p) (upd t p (.dK (eD [] kvs)))));obtain⟨L,bl⟩:=b;have n:Bd c Y (upd H p (.dK [])) Z (some (.ref p)::B) (.lv (.aP [])::θ):=bl.fZ hp λG H' sm S=>.aP S .nil;refine aR F n em (λrk l U P w b1 T=>?_) (λe K C P hm b1=>aQ q e K C P hm b1.pop);cases e1:res U rk with
  |none=>simp only[e1] at T;cases T
  |some I=>
   have k:=Bd.rd b1 w e1;simp only[e1] at T;cases e2:gB I with
   |none=>simp only[e2] at T;cases T
   |some y=>
    simp only[e2] at T;have N:=jf k e2;refine aR F b1.drop T (λr v Z' t A b2 s=>?_) (λe K C P hm b1=>aQ q e K C P hm b1.pop);cases e3:a8 r Z' with
    |none=>simp only[e3] at s;cases s
    |some pr=>
     obtain⟨a,Y'⟩:=pr;simp only[e3] at s;cases s;have J:=Bd.a8 (xs:=[]) (ss:=[]) rfl b2 A e3;obtain⟨L',z,g⟩:=Bd.sX J;obtain⟨h1,h2⟩:=z.QI (o':=.aP [(y,a)]) (u:=.dK [(y,v)]);cases h1 with
     | aP e f=>cases f;exact⟨e,[(y,v)],by rw[N];rfl,by simp,q _ _ trivial ⟨L',h2 λH' S=>.aP S (.cons g .nil)⟩⟩⟩
end
open PySem.W (KasT kas_asc kas_desc kas_rev kas_tail3 kas_descPart kas_count kas_place kas_bin kas_sort)
open PyProof.Rows (mirror_perm bubble_perm bubble)
noncomputable def GV{α:Type}(f:Nat->Nat->Bool):KasT α->α
 | .ret a=>a
 | .ask i j k=>GV f (k (f i j))
def jT{α:Type}(n:Nat)(P:α->Prop):KasT α->Prop
 | .ret a=>P a
 | .ask i j k=>i<n/\j<n/\∀b,jT n P (k b)
theorem jT.bind{α β:Type}{n:Nat}{P:α->Prop}{P':β->Prop}{f:α->KasT β}(hf:∀a,P a->jT n P' (f a)):∀{t:KasT α},jT n P t->jT n P' (t.bind f)
 | .ret a,h=>hf a h
 | .ask i j k,h=>⟨h.1,h.2.1,λb=>jT.bind hf (h.2.2 b)⟩
theorem jT.run{α:Type}{n:Nat}{P:α->Prop}(f:Nat->Nat->Bool):∀{t:KasT α},jT n P t->P (GV f t)
 | .ret _,h=>h
 | .ask i j k,h=>jT.run (n:=n) f (t:=k (f i j)) (h.2.2 (f i j))
theorem jT.wp{α:Type}{n:Nat}{P:α->Prop}{f:Nat->Nat->Bool}{H:Nat->Nat->(Bool->Shared->Prop)->Shared->Prop}{s:Shared}(hc:∀i j C,i<n->j<n->C (f i j) s->H i j C s){G:α->Shared->Prop}:
  ∀{t:KasT α},jT n P t->G (GV f t) s->t.kasWp H G s
 | .ret _,_,h=>h
 | .ask i j k,o,h=>hc i j _ o.1 o.2.1 (jT.wp hc (o.2.2 (f i j)) h)
variable{p:Array Nat}
section
variable{n:Nat}
def Pn(n:Nat)(p:Array Nat):Prop:=p.Perm (Wx (Vo n))
theorem Pn.lt(h:Pn n p)(h0:0<n)(i:Nat):p.getD i 0<n:=by
 by_cases hi:i<p.size
 .have e:p.getD i 0=p[i]:=by simp[Array.getD,hi]
  rw[e];have:p[i]∈(Wx (Vo n)).toList:=(YI.mp h).mem_iff.mp (by simp);simpa using this
 .have e:p.getD i 0=0:=by simp[Array.getD,hi]
  omega
theorem Pn.rev(h:Pn n p)(i j:Nat):Pn n (kas_rev p i j):=(mirror_perm _ _ _ _).trans h
theorem vU(h0:0<n){p:Array Nat}(h:Pn n p):∀f m,jT n (λ_=>True) (kas_asc p f m)
 |0,_=>trivial
 |f+1,m=>⟨h.lt h0 _,h.lt h0 _,λb=>by cases b;exact vU h0 h f _;exact trivial⟩
theorem m6(h0:0<n):∀f {p:Array Nat} m q,Pn n p->jT n (λr=>Pn n r.1) (kas_desc f p m q)
 |0,_,_,_,h=>h
 | f+1,p,m,q,h=>⟨h.lt h0 _,h.lt h0 _,λb=>by
  cases b with
  |true=>
   show jT n _ (if q > 0 then kas_desc f (kas_rev p (m-(q+1)) m) (m+1) 0 else kas_desc f p (m+1) 0);split
   .exact m6 h0 f _ _ (h.rev _ _)
   .exact m6 h0 f _ _ h
  |false=>
   refine⟨h.lt h0 _,h.lt h0 _,λb=>?_⟩;cases b with
   |true=>exact h
   | false=>exact m6 h0 f _ _ h⟩
theorem tR(h0:0<n)(h:Pn n p)(m r:Nat):jT n (λr=>Pn n r.2) (kas_tail3 m r p):=jT.bind (P':=λr:Nat×Array Nat=>Pn n r.2) (f:=λa=>.ret (a,kas_rev p 0 m)) (λ_ _=>h.rev 0 m) (vU h0 (h.rev 0 m) _ _)
theorem lV(h0:0<n)(h:Pn n p)(m r:Nat):jT n (λr=>Pn n r.2) (kas_descPart m r p):=jT.bind (λa ha=>by
 show jT n _ (if a.2.2 > 0 then kas_tail3 a.2.1 r (kas_rev a.1 (a.2.1-(a.2.2+1)) a.2.1) else kas_tail3 a.2.1 r a.1);split
 .exact tR h0 (ha.rev _ _) _ _
 .exact tR h0 ha _ _) (m6 h0 _ _ _ h)
theorem A5(h0:0<n)(h:Pn n p)(r:Nat):jT n (λr=>Pn n r.2) (kas_count r p):=jT.bind (λa _=>by
 show jT n _ (if (a==r)=true then .ret (a,p) else if a > 1 then .ask (p.getD 0 0) (p.getD (a-1) 0) λc=>if c=true then .ret (a,p) else kas_descPart a r (kas_rev p 0 a) else kas_descPart a r p);split
 .exact h
 .split
  .refine⟨h.lt h0 _,h.lt h0 _,λb=>?_⟩;cases b with
   |true=>exact h
   |false=>exact lV h0 (h.rev _ _) _ _
  .exact lV h0 h _ _) (vU h0 h _ _)
theorem ox(h0:0<n){p:Array Nat}(h:Pn n p)(k:Nat):∀f l r,jT n (λ_=>True) (kas_place p k f l r)
 |0,_,_=>trivial
 |f+1,l,r=>by
  unfold kas_place;split
  .exact trivial
  .refine⟨h.lt h0 _,h.lt h0 _,λb=>?_⟩;cases b
   .exact ox h0 h k f _ _
   .exact ox h0 h k f _ _
theorem As(h0:0<n):∀f {p:Array Nat} k,Pn n p->jT n (Pn n) (kas_bin f p k)
 |0,_,_,h=>h
 |f+1,p,k,h=>(ox h0 h k _ _ _).bind λl _=>As h0 f _ ((bubble_perm _ _ _).trans h)
theorem yN(h0:0<n):jT n (Pn n) (kas_sort n):=jT.bind (λr h=>by
 show jT n _ (if r.1<n then kas_bin (n-max r.1 1) r.2 (max r.1 1) else .ret r.2);split
 .exact As h0 _ _ h
 .exact h) (A5 h0 (Array.Perm.refl _) n)
end
def du(ss:List Str):List Nat:=if ss.length<2 then Vo ss.length else (GV (λi j=>decide ((ss.getD i "").cps.toList<(ss.getD j "").cps.toList)) (kas_sort ss.length)).toList
theorem iR(ss:List Str):(du ss).Perm (Vo ss.length):=by
 unfold du;split
 .exact List.Perm.refl _
 .exact YI.mp (jT.run _ (yN (n:=ss.length) (by omega)))
variable{l:Addr}{vs:List Value}{ss:List Str}
section
open PySem.Spec PyProof.Rows PySem.W PySem.Calls
variable{prog:Program}{w:World}{A:Around}{E:Value->Shared->Prop}{s:Shared}
theorem ur{Q:List Value->Shared->Prop}(hl:IsTup s.heap l vs.toArray)
  (h:Q vs { s with heap:=(s.heap.push (seqObj "list" #[] 0)).update s.heap.objs.size (VL (·++vs.toArray)) })(hsz:vs.length<=sizeLine):wpAny (model prog w) A (collect (.ref l)) Q E s:=by
 obtain⟨o,ho,hc,n,hd⟩:=id hl;unfold collect;refine wpAny_bind (wpAny_runValue (codeAny_builtin entry_proto_collect' ?_));show wpAny _ _ (do again (.builtin "list.__iadd__" ⟨[<-newList [],.ref l],[]⟩)) _ _ s;refine wpAny_bind (wpAny_newList (wpAny_pure ⟨ZM _ (by decide +kernel),codeAny_builtin entry_list_iadd' ?_⟩));show wpAny _ _ (Yb (.ref s.heap.objs.size) (.ref l) (.ref s.heap.objs.size)) _ _ { s with heap:=s.heap.push (seqObj "list" #[] 0) };unfold Yb;have x:(s.heap.push (seqObj "list" #[] 0)).get? l=some o:=UR _ ho;refine wpAny_bind (wpAny_typeOf (T:= "tuple") ⟨o,x,hc⟩ ?_);have i:(Xr "tuple" == Xr "tuple")=true:=by rfl
 rw[if_pos (by rw[i];simp)];refine wpAny_bind (listItems_at x hd ?_);refine wpAny_bind (listItems_at (xs:=#[]) (n:=0) (U6 _ rfl) rfl ?_);rw[if_neg (by simp)];refine wpAny_bind (listUpdate_at (xs:=#[]) (n:=0) (U6 _ rfl) rfl ?_ (VM _) (by show (#[]++vs.toArray).size<=sizeLine+1;simp only[ZO,UT,Wm];omega));refine wpAny_pure ?_;show wpAny (model prog w) A (do
   let o <- load s.heap.objs.size
   match o.data with
   | .seq xs _=>pure xs.toList
   | _=>unsupported "internal:collect") Q E { s with heap:=(s.heap.push (seqObj "list" #[] 0)).update s.heap.objs.size (VL (·++vs.toArray)) }
 refine wpAny_bind (wpAny_load (get?_update_seq (U6 _ rfl) _) ?_);show wpAny _ _ (pure ((#[]:Array Value)++vs.toArray).toList) Q E _;rw[show ((#[]:Array Value)++vs.toArray).toList=vs by simp];exact wpAny_pure h
inductive ix(h:Heap):List Value->List Str->Prop
 |nil:ix h [] []
 |cons{b d:Addr}{o:Obj}{k:Nat}{t:Tok}{x:Str}{vs:List Value}{ss:List Str}(ho:h.get? b=some o)(hc:o.cls=.type "tuple")(hd:o.data=.seq #[.str x t,.ref d] k)(r:ix h vs ss):ix h (.ref b::vs) (x::ss)
theorem ix.len{h:Heap}:∀{vs:List Value}{ss:List Str},ix h vs ss->ss.length=vs.length
 |_,_,.nil=>rfl
 |_,_,.cons _ _ _ r=>congrArg (·+1) r.len
theorem ix.keep{h h':Heap}(k:∀b o,h.get? b=some o->o.cls=.type "tuple" -> h'.get? b=some o):∀{vs:List Value}{ss:List Str},ix h vs ss->ix h' vs ss
 |_,_,.nil=>.nil
 |_,_,.cons ho hc hd r=>.cons (k _ _ ho hc) hc hd (r.keep k)
theorem ix.at{h:Heap}:∀{vs:List Value}{ss:List Str}(i:Nat),ix h vs ss->i<ss.length->∃b o d k t,vs.getD i .none=.ref b/\h.get? b=some o/\o.data=.seq #[.str (ss.getD i "") t,.ref d] k
 |_,_,_,.nil,h=>absurd h (Nat.not_lt_zero _)
 |_,_,0,.cons ho hc hd r,_=>⟨_,_,_,_,_,rfl,ho,hd⟩
 |_,_,i+1,.cons ho hc hd r,h=>r.at i (Nat.lt_of_succ_lt_succ h)
theorem ix.TL{h:Heap}:∀{vs:List Value}{ss:List Str},ix h vs ss->∃fs,KatTups h vs fs/\fs.length=vs.length/\∀v∈fs,∃x t,v=XO x t
 |_,_,.nil=>⟨[],.nil,rfl,λ_ h=>nomatch h⟩
 |_,_,.cons (x:=x) (t:=t) ho hc hd r=>by
  obtain⟨fs,h1,h2,h3⟩:=r.TL;refine⟨.str x t::fs,.cons ho hc hd rfl h1,congrArg (·+1) h2,λv A=>?_⟩;rcases U5.mp A with rfl|A
  .exact⟨x,t,rfl⟩
  .exact h3 v A
theorem E3(T:ix s.heap vs ss)(nd:ss.Nodup)(i j:Nat)(C:Bool->Shared->Prop)(hi:i<ss.length)(N:j<ss.length)(h:C (decide ((ss.getD i "").cps.toList<(ss.getD j "").cps.toList)) s):
  kas_ask prog w A (tuples' true) vs i j C s:=by
 unfold kas_ask;obtain⟨b,o,d,k,t,e1,h1,h2⟩:=T.at i hi;obtain⟨S,o',d',u,t',H,Y,q⟩:=T.at j N;rw[e1,H];refine kat_lt h1 h2 Y q ?_;refine kat_cons (wpAny_eqBool_str ?_);by_cases e:ss.getD i "" = ss.getD j ""
 .have Q:i=j:=by have z:=(ZZ (h₀:=hi) (h₁:=N) nd).mp (by simpa[Ys,hi,N] using e);exact z
  subst Q;rw[e1] at H;cases H;rw[h1] at Y;cases Y;rw[h2] at q;cases q;rw[decide_eq_true e];refine kat_yes (kat_cons ?_);refine wpAny_holding ?_;rw[if_pos (by simp)];refine wpAny_bind (wpAny_rule (wpAny_pure (kat_yes (kat_nil ?_))));rw[decide_eq_false (List.lt_irrefl _)] at h;simpa using h
 .rw[decide_eq_false e];exact kat_no (oneLt_str h)
theorem uj:∀{vs:List Value},vs.length<2->(vs.toArray.zip vs.toArray).map (·.2)=Wx ((Vo vs.length).map λi=>vs.getD i .none)
 |[],_=>by simp
 |[_],_=>by simp[Vo,Vo.loop]
 |_::_::_,h=>absurd h (by simp)
theorem yT{a:Addr}{n:Nat}{P:PySem.Fin->Shared->Prop}(ho:s.heap.get? a=some (seqObj "list" vs.toArray n))(T:ix s.heap vs ss)(nd:ss.Nodup)(Z:vs.length<64)
  (h:P (.done (.ret .none)) { s with heap:=sortedHeap s.heap a vs (Wx ((du ss).map λi=>vs.getD i .none)) }):wpAny (model prog w) A (Builtin.«list.sort» ⟨[.ref a],[]⟩) P E s:=by
 rw[list_sort_plain];have hl:=T.len;have ha:a<s.heap.objs.size:=U4 ho;refine wpAny_bind (listItems_at ho rfl ?_);refine wpAny_bind (listUpdate_at ho rfl ?_ (by rw[UT,sizeLine_eq];omega) (VM _));obtain⟨e1,Y⟩:∃e1,(s.heap.update a (VL λ_=>#[])).get? a=some (seqObj "list" #[] e1):=⟨_,get?_update_seq ho (λ_=>#[])⟩
 refine wpAny_bind (seqEpoch_at Y rfl ?_);refine wpAny_bind (wpAny_newTuple ?_ (by show vs.length<=_;rw[sizeLine_eq];omega));refine wpAny_bind (wpAny_newList ?_ (VM _));refine wpAny_holding ?_;have H:(((s.heap.update a (VL λ_=>#[])).push (seqObj "tuple" vs.toArray 0)).push (seqObj "list" #[] 0)).get? a=some (seqObj "list" #[] e1):=by rw[ZX _ _ _ (by rw[size_push',Yt];exact Vi (Xi ha)),ZX _ _ _ (by rw[Yt];exact Vi ha)];exact Y
 have X:ix (((s.heap.update a (VL λ_=>#[])).push (seqObj "tuple" vs.toArray 0)).push (seqObj "list" #[] 0)) vs ss:=T.keep λb o e c=>by
  refine UR _ (UR _ ?_);rw[ZG _ _ _ _ λz=>?_]
  .exact e
  .subst z;rw[ho] at e;cases e;exact absurd (show Xr "list" = Xr "tuple" from c) (by decide)
 show wpAny (model prog w) A _ P E { s with heap:=((s.heap.update a (VL λ_=>#[])).push (seqObj "tuple" vs.toArray 0)).push (seqObj "list" #[] 0) };dsimp only;by_cases h2:vs.toArray.size<2
 .rw[if_pos h2,if_pos h2];refine wpAny_bind (wpAny_pure ?_);rw[StateT.run_pure];refine wpAny_bind (wpAny_pure ?_);dsimp only;refine wpAny_bind (seqEpoch_at H rfl ?_);refine wpAny_bind (listUpdate_at H rfl ?_ (hsz2:=by rw[YJ];show (pairsOf vs).size<=_;rw[pairsOf_size,sizeLine_eq];omega));simp only[bne_self_eq_false,W6,if_false];have e:(arrOf (SortSt.mk' general' (vs.toArray.zip vs.toArray) #[] 7 none)).map (·.2)=Wx ((du ss).map λi=>vs.getD i .none):=by rw[UT] at h2;unfold du;rw[if_pos (by omega),hl];exact uj h2
  rw[<-e] at h;exact wpAny_pure h
 .rw[if_neg h2,if_neg h2];have q:2<=vs.length:=by rw[UT] at h2;omega
  obtain⟨fs,k1,k2,k3⟩:=X.TL;refine wpAny_bind (kat_kind (T:=.type "str") k1 (by omega) (λv K=>?_) rfl ?_)
  .obtain⟨x,t,rfl⟩:=k3 v K;exact .now
  refine wpAny_bind (wpAny_mono (kat_run (Q:=λR s'=>s'={ s with heap:=((s.heap.update a (VL λ_=>#[])).push (seqObj "tuple" vs.toArray 0)).push (seqObj "list" #[] 0) }/\(arrOf R).map (·.2)=Wx ((du ss).map λi=>vs.getD i .none)/\(arrOf R).size<=64/\failedOf R=none)
   (G:=λp s'=>s'={ s with heap:=((s.heap.update a (VL λ_=>#[])).push (seqObj "tuple" vs.toArray 0)).push (seqObj "list" #[] 0) }/\p.toList=du ss)
   rfl q Z (λJ R s' F l O B=>⟨B.1,by rw[kat_snds rfl l,B.2],by rw[l,YJ];omega,O⟩) ?_) ?_ λ_ _ e=>e)
  .have ok:jT ss.length (Pn ss.length) (kas_sort vs.length):=by rw[<-hl];exact yN (by omega)
   refine jT.wp (f:=λi j=>decide ((ss.getD i "").cps.toList<(ss.getD j "").cps.toList)) (λi j C hi N hc=>E3 X nd i j C hi N hc) ok ⟨rfl,?_⟩;unfold du;rw[if_neg (by omega),hl]
  .rintro⟨⟨⟩,R⟩ s' ⟨rfl,hp,hz,hf⟩;dsimp only;refine wpAny_bind (seqEpoch_at H rfl ?_);refine wpAny_bind (listUpdate_at H rfl ?_ (hsz2:=by have L:(arrOf R).size<=64:=hz;rw[YJ,sizeLine_eq];omega));rw[hf];simp only[bne_self_eq_false,W6,if_false];rw[<-hp] at h;exact wpAny_pure h
theorem uz{Q:Value->Shared->Prop}(hl:IsTup s.heap l vs.toArray)(T:ix s.heap vs ss)(nd:ss.Nodup)(R:vs.length<64)
  (h:Q (.ref (s.heap.objs.size+1)) { s with heap:=sortedAll s.heap vs (Wx ((du ss).map λi=>vs.getD i .none)) }):wpAny (model prog w) A (call (.builtin "sorted") [.ref l]) Q E s:=by
 refine W9 kind_sorted plain_sorted entry_sorted (args_sorted1 _) ?_;unfold Builtin.«sorted»;refine wpAny_bind (m:=checkCount "sorted" 1 1 _) (wpAny_pure ?_);refine wpAny_bind (ur hl ?_ (by rw[sizeLine_eq];omega));refine wpAny_bind (wpAny_newList ?_ (by rw[sizeLine_eq];omega));have hsz:((s.heap.push (seqObj "list" #[] 0)).update s.heap.objs.size (VL (·++vs.toArray))).objs.size=s.heap.objs.size+1:=by rw[Yt,size_push']
 have B:(((s.heap.push (seqObj "list" #[] 0)).update s.heap.objs.size (VL (·++vs.toArray))).push (seqObj "list" vs.toArray 0)).get? (s.heap.objs.size+1)=some (seqObj "list" vs.toArray 0):=by rw[<-hsz];exact U6 _ rfl
 have H:ix (((s.heap.push (seqObj "list" #[] 0)).update s.heap.objs.size (VL (·++vs.toArray))).push (seqObj "list" vs.toArray 0)) vs ss:=T.keep λb o e c=>by refine UR _ ?_;rw[ZG _ _ _ _ (Vi (U4 e))];exact UR _ e
 show wpAny _ _ _ _ _ { s with heap:=((s.heap.push (seqObj "list" #[] 0)).update s.heap.objs.size (VL (·++vs.toArray))).push (seqObj "list" vs.toArray 0) };rw[hsz];refine wpAny_bind (wpAny_holding (wpAny_call_entry slot_list_sort ⟨_,B,rfl⟩ entry_list_sort (yT B H nd R ⟨_,rfl,?_⟩) (args_list_sort _)));exact wpAny_pure ⟨_,rfl,h⟩
end
section
variable{X:Cx}{E:XK}
inductive nQ(K:UN)(H:Hp):List V->List Str->Prop
 |nil:nQ K H [] []
 |cons{b d:Addr}{x:Str}{vs:List V}{ss:List Str}(e:iu K H b [.str x,.ref d])(r:nQ K H vs ss):nQ K H (.ref b::vs) (x::ss)
theorem nQ.to{pins:List (Addr×Obj)}{Y:St}{H:Hp}{s:Shared}(I:Inv X pins Y H s):∀{vs:List V}{ss:List Str},nQ X.K H vs ss->∀{us:List Value},Vals vs us->ix s.heap us ss
 |_,_,.nil,_,.nil=>.nil
 |_,_,.cons e r,_,.cons h t=>by
  cases h;obtain⟨its,p,⟨o,ho,hc,n,hd⟩,_⟩:=I.tuple e;cases p with
  |cons k Q=>cases Q with
   |cons O v=>cases v;cases O;obtain⟨t',f⟩:=k;subst f;exact .cons ho hc hd (r.to I t)
theorem Vals.pick{vs:List V}{us:List Value}(r:Vals vs us):∀(p:List Nat),Vals (p.map λi=>vs.getD i .non) (p.map λi=>us.getD i .none)
 |[]=>.nil
 | i::p=>.cons (by
   have go:∀{vs:List V}{us:List Value}(i:Nat),Vals vs us->RelV (vs.getD i .non) (us.getD i .none):=by
    intro vs us i r;induction r generalizing i with
    |nil=>exact rfl
    |cons h _ j=>cases i with
     |zero=>exact h
     |succ i=>exact j i
   exact go i r) (Vals.pick r p)
def tj(K:UN):List V->Hp->VK->Prop:=λxs H Q=>∃(a:Addr)(vs:List V)(ss:List Str),xs=[.ref a]/\iu K H a vs/\nQ K H vs ss/\ss.Nodup/\vs.length<64/\∀r,H r=none->Q (.ref r) (upd H r (.lst ((du ss).map λi=>vs.getD i .non)))
open PySem.Spec PyProof.Rows PySem.W in
theorem qU:bF X (.builtin "sorted") (tj X.K):=by intro pins s Y H vs us Q I t h;obtain⟨a,vs,ss,rfl,j,A,nd,R,q⟩:=h;obtain⟨u,rfl,J⟩:=t.one;cases J;obtain⟨its,r,p,hz⟩:=I.tuple j;have T:=A.to I r;have N:its.length=vs.length:=r.length.symm;refine uz p T nd (by omega) ?_;obtain⟨e,he⟩:=sortedAll_at s.heap its (Wx ((du ss).map λi=>its.getD i .none));refine⟨.ref _,_,I.laid (t':=s.toks) (o:=.lst ((du ss).map λi=>vs.getD i .non)) (λb o z=>sortedAll_old z) (WI _) ⟨?_,_,e,Vals.pick r _,he⟩,rfl,q _ (I.hok.fresh (WI _))⟩;rw[UP,(iR ss).length_eq,WL,T.len];exact Vg (by omega) L2.iU
noncomputable def nameP:A->Option Str
 | .tup xs=>match xs with
  |[]=>none
  |x::xs=>match xs with
   |[]=>none
   |y::xs=>match xs with
    |[]=>match x with
     | .str s=>match y with
      | .tup _=>some s
      |_=>none
     |_=>none
    |_::_=>none
 |_=>none
theorem u5{a:A}(h:nameP a=some x):∃ns,a=.tup [.str x,.tup ns]:=by
 cases a with
 |tup xs=>match xs,h with
  |[a,b],h=>
   cases a<;>first|(cases h;done)|skip
   cases b<;>first|(cases h;done)|skip
   cases h;exact⟨_,rfl⟩
 |_=>cases h
def lG:List A->Option (List Str)
 |[]=>some []
 |a::r=>(nameP a).bind λx=>(lG r).map (x::·)
theorem BM{G:Hp}{as:List A}:∀{vs:List V}{ss:List Str},bx k G vs as->lG as=some ss->nQ k.K G vs ss:=by
 induction as with
 |nil=>intro vs ss r h;cases r;cases h;exact .nil
 |cons a as j=>
  intro vs ss r h;cases r with|cons h1 h2=>
  obtain⟨x,ex,h⟩:=Option.bind_eq_some_iff.mp h;obtain⟨Y,es,rfl⟩:=Y2.mp h;obtain⟨ns,rfl⟩:=u5 ex;cases h1 with
  |tup e1 i=>cases i with
   |cons H o=>cases o with
    |cons O v=>
     cases v;cases H;cases O with
     |tup _ _=>exact .cons e1 (j h2 es)
theorem nQ.sm{K:UN}{G G':Hp}(h:Sq G G'):∀{vs:List V}{ss:List Str},nQ K G vs ss->nQ K G' vs ss
 |_,_,.nil=>.nil
 |_,_,.cons e r=>.cons (cT h e) (r.sm h)
theorem bx.pick{k:Kx}{G:Hp}{vs:List V}{as:List A}(r:bx k G vs as):∀(p:List Nat),bx k G (p.map λi=>vs.getD i .non) (p.map λi=>as.getD i .non)
 |[]=>.nil
 | i::p=>.cons (by
   have go:∀{vs:List V}{as:List A}(i:Nat),bx k G vs as->RA k G (vs.getD i .non) (as.getD i .non):=by
    intro vs as i r;cases e:vs[i]? with
    |none=>
     have e2:as[i]?=none:=by rw[YU] at e ⊢;rw[<-r.len];exact e
     rw[Ys,e,Ys,e2];exact .non
    |some v=>obtain⟨a,h1,h2⟩:=r.at e;rw[Ys,e,Ys,h1];exact h2
   exact go i r) (bx.pick r p)
def fh:A->Option Rr
 | .tup as=>match lG as with
  |some ss=>if ss.length<64/\ss.Nodup then some (.nw (.lst ((du ss).map λi=>as.getD i .non))) else none
  |none=>none
 |_=>none
theorem wN{K:Kx}:lq K (λv=>tj K.K [v]) fh:=by
 intro c Y H Z B θ x v a q Q F s o e1 e3 k;subst F;obtain⟨L,bl,S⟩:=Bd.open o s e1;cases a<;>first|(cases e3;done)|skip
 rename_i as;unfold fh at e3;simp only at e3;cases es:lG as with
 |none=>simp only[es] at e3;cases e3
 |some ss=>
  simp only[es] at e3;split at e3
  .rename_i R;cases e3;obtain⟨p,vs,rfl,s1,z⟩:=S.2.1 as rfl;have A:=BM z es;have hl:ss.length=vs.length:=by
    have go:∀{K:UN}{G:Hp}{vs:List V}{ss:List Str},nQ K G vs ss->ss.length=vs.length:=by
     intro K G vs ss h;induction h with
     |nil=>rfl
     |cons _ _ j=>exact congrArg (·+1) j
    exact go A
   refine⟨p,vs,ss,rfl,cT (g_same _ _ _) s1,A.sm (g_same _ _ _),R.2,by omega,λr l=>?_⟩;exact k _ _ trivial (bl.fZ l λG H' sm q=>.lst q ((z.pick _).sm sm))
  .cases e3
end
def s9(s:Key×A):A:=Kv s.1
theorem BJ:Bg SY s9:=by intro c Y H Z B θ d ob vs kvs L i hd bl r;refine⟨λh=>⟨hd,by rw[r.len];exact h⟩,λs e=>⟨⟨hd,by rw[r.len];exact(UQ.mp e).1⟩,λx H' y=>?_⟩⟩;obtain⟨rfl,p,e1,rfl⟩:=y;unfold s9;rw[<-(wL r e1 e).1];exact bl.push (Mx _)
section
variable{X:Cx}{l:Expr}{te:TE}{px:Pos}{x:Str}
theorem Av(hl:PE X l te):PI X (.Name x px) l (N9 SY te):=by intro pins s Y H R I h;refine bf (hl pins s Y H _ I h) λv s1 ⟨y,P,g,i,d,kvs,Q,k⟩=>?_;subst Q;obtain rfl:v=Vq d:=i;obtain⟨ob,c,vs,ep,m,T,lo,A,S,n,q⟩:=JR g k;refine wpAny_pyIter_dict lo S ?_;refine⟨s1.heap.objs.size,[s1.heap.objs.size],_,_,_,rfl,m.kept (t':=s1.toks) λb o e=>UR _ e,Am (it:=s1.heap.objs.size) (vs:=vs) (ep:=ep) T n,⟨_,U6 _ rfl,rfl,rfl⟩,λb E=>?_,q⟩;rw[Va.mp E];exact m.ze (U2 _) m.fresh
end
theorem dY.vals{k:Kx}{G:Hp}:∀{vs:List (Key×V)}{kvs:List (Key×A)},dY k G vs kvs->bx k G (vs.map (·.2)) (kvs.map (·.2))
 |_,_,.nil=>.nil
 |_,_,.cons h r=>.cons h r.vals
theorem dY.vq{k:Kx}{G0 G:Hp}:∀{vs:List (Key×V)}{kvs:List (Key×A)},dY k G0 vs kvs->bx k G (vs.map (·.2)) (kvs.map (·.2))->dY k G vs kvs
 |_,_,.nil,_=>.nil
 |_,_,.cons _ r,.cons h q=>.cons h (r.vq q)
section
variable{c:Cn}{Y:St}{H:Hp}{Z:List Sl}{B:St}{θ:List Sl}
def gb(c:Cn)(H:Hp)(d:Addr)(ob:Obj)(vs:List (Key×V))(L:List Addr):Cn:={ c with H0:=upd H d (.frz ob (.dK vs)),Lp:=L,Hd:=d::c.Hd,Wk:=[] }
inductive Oz(c:Cn)(Y:St)(H:Hp)(Z:List Sl)(B:St)(θ:List Sl)(d:Addr)(kvs:List (Key×A)):Prop
 | mk (vs:List (Key×V)) (L:List Addr) (G0:Hp) (hd:H d=some (.dK vs)) (rk:dY c.toKx G0 vs kvs)
  (go:∀ob,Bd (gb c H d ob vs L) Y (upd H d (.frz ob (.dK vs))) Z ((vs.map (·.2)).map some++B) ((kvs.map (·.2)).map Sl.fr++θ))
  (bk:∀ob j H' O J T L',eA (gb c H d ob vs L) j H' O J T L'->dY c.toKx ((gb c H d ob vs L).g H' L') vs kvs->H' d=some (.frz ob (.dK vs))/\Bd c j (upd H' d (.dK vs)) O (some (.ref d)::J) (.lv (.aP kvs)::T))
theorem Bd.hide{d:Addr}{kvs:List (Key×A)}(b:Bd c Y H Z (some (.ref d)::B) (.lv (.aP kvs)::θ)):Oz c Y H Z B θ d kvs:=by
 obtain⟨L,nd,rel,own,fr,kp,lt,K⟩:=b;have bl:eA c Y H Z (some (.ref d)::B) (.lv (.aP kvs)::θ) L:=⟨nd,rel,own,fr,kp,lt,K⟩
 have rel:aB c.toKx (c.g H L) H (some (.ref d)::(B++Y)) (.lv (.aP kvs)::(θ++Z)) L:=rel;cases rel with
 |cons h r=>
  rename_i L1 L2;cases h with
  |lv h=>
   cases h with
   |aP hd rk=>
    rename_i vs;have v:d∉L2/\L2.Nodup:=Vn.mp nd;have S:∀q∈L2,q≠d:=λq R z=>v.1 (by rw[<-z];exact R);have dh:d∉c.Hd:=bl.NW (by simp);have P:∀(H':Hp)(u:HO)(L':List Addr)(ob:Obj),(gb c H d ob vs L2).g H' L'=c.g (upd H' d u) ([d]++L'):=λH' u L' ob=>by
     funext a
     by_cases z:a∈L'\/a∈c.Hd\/a=d
     .rw[gP (c:=gb c H d ob vs L2) (by rcases z with z|z|z;exact .inl z;exact .inr (UW _ z);exact .inr (by rw[z];exact .head _)),gP (by rcases z with z|z|z;exact .inl (UW _ z);exact .inr z;exact .inl (by rw[z];exact .head _))]
     .have F:a∉L':=λy=>z (.inl y)
      have z2:a∉c.Hd:=λy=>z (.inr (.inl y))
      have I:a≠d:=λy=>z (.inr (.inr y))
      rw[bz (c:=gb c H d ob vs L2) F (λy=>by rcases U5.mp y with y|y;exact I y;exact z2 y),bz (λy=>by rcases U5.mp y with y|y;exact I y;exact F y) z2,au I]
    have eh:upd H d (.dK vs)=H:=by
     funext a
     by_cases z:a=d
     .subst z;rw[aI,hd]
     .rw[au z]
    have l:∀u,upd (upd H d u) d (.dK vs)=H:=λu=>by
     funext a
     by_cases z:a=d
     .subst z;rw[aI,hd]
     .rw[au z,au z]
    refine .mk vs L2 _ hd rk (λob=>?_) (λob j H' O J T L' b' m=>?_)
    .refine⟨L2,v.2,?_,λp hp=>.inl hp,⟨λb o e=>⟨o,e,λ_ _=>rfl⟩,λp hp=>by cases hp⟩,kp,?_,λp hp=>?_⟩
     .have e1:(gb c H d ob vs L2).g (upd H d (.frz ob (.dK vs))) L2=c.g H ([d]++L2):=by rw[P _ (.dK vs),l]
      rw[e1];have r1:aB c.toKx (c.g H ([d]++L2)) (upd H d (.frz ob (.dK vs))) (B++Y) (θ++Z) L2:=r.sm (Sq.refl _) λq R w e=>by rw[au (S q R)];exact e
      have:=(aB.dz (H:=upd H d (.frz ob (.dK vs))) rk.vals).app r1;rw[U0,U0];exact this
     .have:=rk.vals.len;simp only[UP,UY,US] at this lt ⊢;omega
     .have hn:p∉L2:=by
       rcases U5.mp hp with z|z
       .rw[z];exact v.1
       .exact λy=>bl.NW (UW _ y) z
      refine⟨?_,hn⟩;by_cases z:p=d
      .subst z;exact⟨_,aI⟩
      .obtain⟨⟨u,e⟩,_⟩:=K p ((U5.mp hp).resolve_left z);obtain⟨u',e',_⟩:=fr.st p u e;exact⟨u',by show upd H d _ p=_;rw[au z];exact e'⟩
    .obtain⟨E,x,Q,X,G,lt',V⟩:=b';have f:eA (gb c H d ob vs L2) j H' O J T L':=⟨E,x,Q,X,G,lt',V⟩
     have keep:∀p u,p≠d->H p=some u->p∉L2->H' p=some u:=λp u z e n=>by obtain⟨w,h1,h2⟩:=X.st p u (by show upd H d _ p=_;rw[au z];exact e);rw[h1,h2 n (λ_ y=>by cases y)]
     obtain⟨w,h1,h2⟩:=X.st d (.frz ob (.dK vs)) aI;have hw:=h2 v.1 (λ_ y=>by cases y);subst hw;have dn:d∉L':=λy=>f.NW y (.head _);have U:∀q∈L',q≠d:=λq R z=>dn (by rw[<-z];exact R);refine⟨h1,d::L',Vn.mpr ⟨dn,E⟩,?_,λp hp=>?_,⟨λb o e=>?_,λp hp=>?_⟩,G,by simp[lt'],K⟩
     .have e1:c.g (upd H' d (.dK vs)) (d::L')=(gb c H d ob vs L2).g H' L':=(P _ (.dK vs) _ ob).symm;rw[e1];exact aB.cons (L:=[d]) (.lv (.aP aI m)) (x.sm (Sq.refl _) λq R w e=>by rw[au (U q R)];exact e)
     .rcases U5.mp hp with z|z
      .rw[z];exact own d (by simp)
      .rcases Q p z with y|y
       .exact own p (UW _ y)
       .have y:upd H d (.frz ob (.dK vs)) p=none:=y;rw[au (U p z)] at y;exact .inr (fr.fresh y)
     .obtain⟨u,C,f2⟩:=fr.st b o e;by_cases z:b=d
      .subst z;refine⟨_,aI,λN s=>?_⟩;rw[hd] at C;cases C;exact f2 N s
      .rw[au z];obtain⟨w,g1,g2⟩:=X.st b u (by show upd H d _ b=_;rw[au z];exact C);refine⟨w,g1,λN s=>?_⟩;rw[g2 (λy=>?_) (λ_ y=>by cases y)]
       .exact f2 N s
       .rcases own b (UW _ y) with q|q
        .exact N q
        .rw[q] at e;cases e
     .obtain⟨D,⟨k,t,i⟩,p3⟩:=fr.pk p hp;have pd:p.1≠d:=λz=>by rw[z,hd,i] at D;cases D
      refine⟨?_,⟨k,t,i⟩,p3⟩;rw[au pd];exact keep p.1 p.2 pd D λy=>r.xJ p.1 y k t (by rw[D,i])
end
variable{j:Nat}{G:Mg}{e:Mi Rr}{Z:List Sl}
section
variable{X:Cx}{E:XK}
def jQ(g:Key×A->A)(n j:Nat)(G:Mg)(t:Mi Bool)(e:Mi Rr):Mi Rr:=λZ=>match Z[j]? with
 |some (.lv (.aP kvs))=>if (kvs.map g).length<=100000 then match bK G t e (kvs.map g) [] (Z.set j .un++Vd n .un) with
  |some (ys,O)=>match (O.take Z.length)[j]? with
   |some .un=>some (.ok (.nw (.lst ys)),(O.take Z.length).set j (.lv (.aP kvs)))
   |_=>none
  |none=>none else none
 |_=>none
inductive Qi(g:Key×A->A)(n j:Nat)(G:Mg)(t:Mi Bool)(e:Mi Rr)(Z:List Sl)(o:Except Str Rr)(O:List Sl):Prop
 |mk(kvs:List (Key×A))(ys:List A)(Z':List Sl)(e1:Z[j]?=some (.lv (.aP kvs)))(e2:(kvs.map g).length<=100000)(e3:bK G t e (kvs.map g) [] (Z.set j .un++Vd n .un)=some (ys,Z'))(e4:(Z'.take Z.length)[j]?=some .un)(e5:o=.ok (.nw (.lst ys)))(e6:O=(Z'.take Z.length).set j (.lv (.aP kvs)))
theorem zJ{g:Key×A->A}{n:Nat}{t:Mi Bool}{O:List Sl}{o:Except Str Rr}(h:jQ g n j G t e Z=some (o,O)):Qi g n j G t e Z o O:=by
 unfold jQ at h;revert h;split
 .rename_i kvs e1;split
  .rename_i e2;split
   .rename_i ys Z' e3;split
    .rename_i e4;intro h;cases h;exact .mk kvs ys Z' e1 e2 e3 e4 rfl rfl
    .intro h;cases h
   .intro h;cases h
  .intro h;cases h
 .intro h;cases h
theorem Bd.JK{c:Cn}{Y:St}{B:St}{θ:List Sl}{xs:St}{ss:List Sl}{vs:List V}{as:List A}(e:xs.length=ss.length)(N:vs.length=as.length)(b:Bd c Y H Z (xs++(vs.map some++B)) (ss++(as.map Sl.fr++θ))):∃L,eA c Y H Z (xs++(vs.map some++B)) (ss++(as.map Sl.fr++θ)) L/\bx c.toKx (c.g H L) vs as:=by
 obtain⟨L,b⟩:=b;have r:aB c.toKx (c.g H L) H (xs++(vs.map some++(B++Y))) (ss++(as.map Sl.fr++(θ++Z))) L:=by have:=b.rel;simpa[U0] using this
 obtain⟨I,L2,e1,i,n⟩:=aB.split e r;obtain⟨X,h,e3,E,q⟩:=aB.split (by simpa using N) n;exact⟨L,b,(aB.Bw E).2⟩
theorem C9{J:Addr->Obj->List (Key×V)->It}{g:Key×A->A}(wk:Bg J g){N:List Str}{k:Nat}{sc:Scope}{tg iter r:Expr}{ifs:List Expr}{mt:Mi Bool}{f:Mi Rr}{lo:Nat}(hc:X.calm=true)(S:fj X.N N k sc X.env.scope)(n:X.N.length=lo)(hi:PI X tg iter (N9 J (Bv j)))
  (hg:∀cl C s H fp,JG (ib X N sc cl C s H fp) lo tg G)(ht:∀cl C s H fp,JF (ib X N sc cl C s H fp) jC ifs mt)(he:∀cl C s H fp,JE (ib X N sc cl C s H fp) jC r f)(hs:∀y,foldedSetIterable iter X.env y=pure y):
  JE X E (.ListComp r [⟨tg,iter,ifs,0⟩] sc pos) (jQ g k j G mt f):=
 ⟨λpins s Y H Q I h=>by
  have pc:PE X (.ListComp r [⟨tg,iter,ifs,0⟩] sc pos) (uO k (N9 J (Bv j)) (N8 (kx X) lo G) (wW (kx X) jC mt) (il (kx X) jC f)):=qO hc S hi (λcl C s H fp=>(hg cl C s H fp).p) (λcl C s H fp=>(ht cl C s H fp).p) (λcl C s H fp=>(he cl C s H fp).p) hs;obtain⟨c,Z,B,θ,o,O,ek,b,em,q⟩:=h;obtain⟨kvs,ys,Z',e1,e2,e3,e4,rfl,rfl⟩:=zJ em;obtain⟨d,vs0,K,_⟩:=m9 b (i:=j) (xs:=kvs) (by unfold aL;rw[e1]);obtain⟨vs,L,G0,hd,rk,go,bk⟩:=Bd.hide (Bd.Hf (xs:=[]) (ss:=[]) rfl b K e1 (.inl rfl));have w:(vs.map (·.2)).length=(kvs.map (·.2)).length:=rk.vals.len;have el:(Z.set j .un).length=Z.length:=Yy;refine yu pc pins s Y H Q I ⟨d,vs,hd,_,K,d,vs,rfl,.inl ⟨hd,λob=>?_⟩⟩;refine jv (E:=E) (c:=gb c H d ob vs L) (T:=[]) (P:=[]) (B:=(vs.map (·.2)).map some++B) (θ:=(kvs.map (·.2)).map Sl.fr++θ) (I.len.trans n) ek rfl (λR e Y' F D i lx b3=>?_) (go ob) e2 e3 ?_
  .obtain⟨m,U,z⟩:=Bd.JK (c:=gb c H d ob vs L) (xs:=F) (ss:=D) lx w b3;have u:=rk.vq z;have h3:e d=some (.frz ob (.dK vs)):=(bk ob R e Y' _ _ m U u).1;obtain⟨w1,w2⟩:=wk (gb c H d ob vs L) R e Y' _ _ d ob vs kvs m i h3 U u;refine⟨λh=>w1 (by simpa using h),λa l=>?_⟩;rw[UU] at l;cases ez:kvs[i]? with
   |none=>rw[ez] at l;cases l
   |some kv=>rw[ez] at l;cases l;exact w2 kv ez
  .intro v H' hv b';rw[el] at b';obtain⟨m,U,z⟩:=Bd.JK (c:=gb c H d ob vs L) (xs:=[some v]) (ss:=[.lv (.lst ys)]) rfl w b';obtain⟨h3,b4⟩:=bk ob Y H' _ _ _ m U (rk.vq z);have b5:=Bd.putBack (i:=j) (t:=.lv (.aP kvs)) b4 K e4 (.inl rfl);refine⟨⟨ob,h3⟩,q v _ ?_ (Bd.nR (x:=some v) (s:=.lv (.lst ys)) (xs:=(vs.map λx:Key×V=>x.2).map some) (ss:=(kvs.map λx:Key×A=>x.2).map Sl.fr) (by simp only[UP] at w ⊢;exact w) b5)⟩;exact hv⟩
end
open PySem L2 W
def d9(f:Ms)(das:List A):List Rr->Mi Rr:=λrs Z=>match cg (rs++das.map Rr.fr) Z with
 |some (as,T)=>match f (as.map sH) with
  |some (.rt s,U)=>match pD s,putL Z (rs++das.map Rr.fr) (bg as.length U) T with
   |some r,some O=>some (.ok r,O)
   |_,_=>none
  |some (.ex x,U)=>match putL Z (rs++das.map Rr.fr) (bg as.length U) T with
   |some O=>some (.error x,O)
   |none=>none
  |_=>none
 |none=>none
def Val(f:Ms)(as:List A)(a:A):Prop:=∃Z,f (as.map Sl.fr)=some (.rt (.fr a),Z)
def dF(f:Ms)(as:List A)(o:LO):Prop:=∃Z,f (as.map Sl.fr)=some (.rt (.lv o),Z)
def jd(f:Ms)(as:List A)(x:Str):Prop:=∃Z,f (as.map Sl.fr)=some (.ex x,Z)
def cJ(f:Ms)(o:LO)(as:List A)(s:Sl)(o':LO):Prop:=∃Z,f (.pv o::as.map Sl.fr)=some (.rt s,.pv o'::Z)
theorem iQ(as:List A)(Z:List Sl):cg (as.map Rr.fr) Z=some (as.map Sl.fr,Z):=by
 induction as generalizing Z with
 |nil=>rfl
 |cons a as j=>simp only[U3,cg,take1,j]
theorem oJ(as:List A):(as.map Sl.fr).map sH=as.map Sl.fr:=by rw[Vr];rfl
theorem ju(S:List Sl):∀(as:List A)(ss:List Sl)(Z:List Sl),as.length=ss.length->putL S (as.map Rr.fr) ss Z=some Z
 |[],[],Z,_=>rfl
 |a::as,s::ss,Z,h=>by rw[U3,putL,ju S as ss Z (by simpa using h)];rfl
 |[],_::_,_,h=>by simp at h
 |_::_,[],_,h=>by simp at h
theorem av{f:Ms}{as:List A}{a:A}(h:Val f as a)(Z:List Sl):d9 f [] (as.map Rr.fr) Z=some (.ok (.fr a),Z):=by obtain⟨U,h⟩:=h;unfold d9;rw[V8,Vz,iQ];simp only[oJ,h,pD];rw[ju _ _ _ _ (by rw[bL,UP])]
variable{o:LO}
theorem bQ{f:Ms}{as:List A}(h:dF f as o)(Z:List Sl):d9 f [] (as.map Rr.fr) Z=some (.ok (.nw o),Z):=by obtain⟨U,h⟩:=h;unfold d9;rw[V8,Vz,iQ];simp only[oJ,h,pD];rw[ju _ _ _ _ (by rw[bL,UP])]
theorem fK{f:Ms}{as:List A}(h:jd f as x)(Z:List Sl):d9 f [] (as.map Rr.fr) Z=some (.error x,Z):=by obtain⟨U,h⟩:=h;unfold d9;rw[V8,Vz,iQ];simp only[oJ,h];rw[ju _ _ _ _ (by rw[bL,UP])]
theorem xX{f:Ms}{as:List A}{o':LO}{s:Sl}{r:Rr}(h:cJ f o as s o')(l:pD s=some r)(hl:aL Z i=some o):d9 f [] (.rf i::as.map Rr.fr) Z=some (.ok r,setAt Z i o'):=by
 obtain⟨U,h⟩:=h;unfold aL at hl;unfold setAt;have hi:∀s,Z[i]?=some s->(Z.set i Sl.un)[i]?=some .un:=λs e=>Vl (UQ.mp e).1;have v:∀(p:Sl)(k:LO->Sl),Z[i]?=some p->take1 (.rf i) Z=some (.lv o,Z.set i .un)->(∀s O,O[i]?=some Sl.un->sM Z (.rf i) (.pv s) O=some (O.set i (k s)))->d9 f [] (.rf i::as.map Rr.fr) Z=some (.ok r,Z.set i (k o')):=by
  intro p k es L hp;unfold d9;rw[V8,Vz,cg,L];simp only[iQ];have h':f (zaj sH (Sl.lv o::zaj Sl.fr as))=some (.rt s,.pv o'::U):=by rw[U3,oJ];exact h
  rw[h'];simp only[l];have d:bg (Sl.lv o::zaj Sl.fr as).length (.pv o'::U)=.pv o'::bg as.length U:=by rw[US,UP];rfl
  rw[d,putL,ju _ _ _ _ (by rw[bL])];simp only[hp _ _ (hi p es),zav]
 cases es:Z[i]? with
 |none=>simp only[es] at hl;cases hl
 |some t=>
  cases t with
  |un=>simp only[es] at hl;cases hl
  |fr a=>simp only[es] at hl;cases hl
  |lv K=>simp only[es] at hl;cases hl;refine v _ Sl.lv es (by unfold take1;simp only[es]) λs O e=>?_;unfold sM;simp only[es,e]
  |pv K=>simp only[es] at hl;cases hl;refine v _ Sl.pv es (by unfold take1;simp only[es]) λs O e=>?_;unfold sM;simp only[es,e]
theorem tq{b:Ms}{as:List A}(P:Nat->List Sl->Prop)(h0:P 0 Z)(u:∀i a Z,as[i]?=some a->P i Z->∃U Z',G a Z=some U/\(b U=some (.nx,Z')\/b U=some (.ct,Z'))/\P (i+1) Z'):
  ∃O,forL G b as Z=some (.nx,O)/\P as.length O:=by
 have v:∀n i Z,as.length-i=n->i<=as.length->P i Z->∃O,forL G b (as.drop i) Z=some (.nx,O)/\P as.length O:=by
  intro n;induction n with
  |zero=>
   intro i Z e hi p;have:i=as.length:=by omega
   subst this;exact⟨Z,by rw[We];rfl,p⟩
  |succ n j=>
   intro i Z e hi p;have Q:i<as.length:=by omega
   obtain⟨U,Z',h1,h2,h3⟩:=u i as[i] Z (by simp[Q]) p;obtain⟨O,h4,h5⟩:=j (i+1) Z' (by omega) Q h3;refine⟨O,?_,h5⟩;rw[Vx Q,forL,h1];rcases h2 with h2|h2
   .simp only[h2];exact h4
   .simp only[h2];exact h4
 simpa using v as.length 0 Z (by simp) (VM _) h0
theorem gk{t:Mi Bool}{as:List A}(P:Nat->List A->List Sl->Prop)(h0:P 0 [] Z)
  (u:∀i a acc Z,as[i]?=some a->P i acc Z->∃U,G a Z=some U/\((∃Z' r Y' d V,t U=some (.ok true,Z')/\e Z'=some (.ok r,Y')/\a8 r Y'=some (d,V)/\P (i+1) (acc++[d]) V)\/∃Z',t U=some (.ok false,Z')/\P (i+1) acc Z')):
  ∃ys O,bK G t e as [] Z=some (ys,O)/\P as.length ys O:=by
 have v:∀n i acc Z,as.length-i=n->i<=as.length->P i acc Z->∃ys O,bK G t e (as.drop i) acc Z=some (ys,O)/\P as.length ys O:=by
  intro n;induction n with
  |zero=>
   intro i acc Z f hi p;have:i=as.length:=by omega
   subst this;exact⟨acc,Z,by rw[We];rfl,p⟩
  |succ n j=>
   intro i acc Z f hi p;have Q:i<as.length:=by omega
   obtain⟨U,h1,h2⟩:=u i as[i] acc Z (by simp[Q]) p;rw[Vx Q,bK,h1];rcases h2 with ⟨Z',r,Y',d,V,k,o,S,h⟩|⟨Z',k,o⟩
   .simp only[k,o,S];exact j (i+1) _ V (by omega) Q h
   .simp only[k];exact j (i+1) _ Z' (by omega) Q o
 simpa using v as.length 0 [] Z (by simp) (VM _) h0
theorem lK{t:Mi Bool}{b:Ms}(P:Nat->List Sl->Prop)(Q:List Sl->Prop)(Y:∀k Z,P k Z->(∃U,t Z=some (.ok false,U)/\Q U)\/∃U Z' u,t Z=some (.ok true,U)/\(b U=some (.nx,Z')\/b U=some (.ct,Z'))/\u<k/\P u Z'):
  ∀{n k:Nat}{Z:List Sl},P k Z->k<n->∃O,eZ t b n Z=some (.nx,O)/\Q O:=by
 intro n;induction n with
 |zero=>intro k Z _ h;omega
 |succ n j=>
  intro k Z p hk;rcases Y k Z p with ⟨U,h1,h2⟩|⟨U,Z',u,h1,h2,h3,h4⟩
  .exact⟨U,by rw[eZ,h1],h2⟩
  .obtain⟨O,h5,H⟩:=j h4 (by omega);refine⟨O,?_,H⟩;rw[eZ,h1];rcases h2 with h2|h2
   .simp only[h2];exact h5
   .simp only[h2];exact h5
theorem wQ{n:Nat}(h:n<2^9500):n<EF:=UZ h (by unfold EF;exact VT (by decide) (by decide))
noncomputable def nm(x:Num):A:=.tup [.int x.1,.int x.2]
theorem Ky(x:Num):toD (nm x)=some (.tup [.int x.1,.int x.2]):=by simp[nm,toD,gC]
theorem Ca(x y:Num):pz (nm x) (nm y)=some (decide (x=y)):=by unfold pz;simp only[Ky];rw[if_pos (by simp[D.depth,D.cX])];obtain⟨O,Y⟩:=x;obtain⟨o,h⟩:=y;simp[D.eq,D.eqs,XJ]
theorem mV(i j:Int):pz (.int i) (.int j)=some (decide (i=j)):=by unfold pz;simp only[toD];rw[if_pos (by simp[D.depth])];simp[D.eq,XJ]
section
variable{α β:Type}{Z:List Sl}
theorem IE(i:Nat):ae i Z=(match Z[i]? with|some (.fr a)=>some (.ok (.fr a),Z)|some (.lv _)=>some (.ok (.rf i),Z)|some (.pv _)=>some (.ok (.rf i),Z)|_=>none):=rfl
theorem Uv(a:A):mC a Z=some (.ok (.fr a),Z):=rfl
def eW(f:A->A->Option Rr)(x y:Rr)(Z:List Sl):Option (Except Str Rr×List Sl):=match res Z x,res Z y with
 |some a,some b=>match f a b with
  |some r=>some (.ok r,Z)
  |none=>none
 |_,_=>none
def OF(f:A->Option Rr)(x:Rr)(Z:List Sl):Option (Except Str Rr×List Sl):=match res Z x with
 |some a=>match f a with
  |some r=>some (.ok r,Z)
  |none=>none
 |none=>none
def tupK(rs:List Rr)(Z:List Sl):Option (Except Str Rr×List Sl):=match fW rs Z with
 |some (as,O)=>if as.length<=1000 then some (.ok (.fr (.tup as)),O) else none
 |none=>none
def lstK(rs:List Rr)(Z:List Sl):Option (Except Str Rr×List Sl):=match fW rs Z with
 |some (as,O)=>if as.length<=1000 then some (.ok (.nw (.lst as)),O) else none
 |none=>none
theorem Jp(m n:Ms):ay m n Z=(match m Z with|some (.nx,U)=>n U|r=>r):=rfl
def GR(i:Nat)(r:Rr)(Z:List Sl):Option (Fl×List Sl):=match xF r Z with
 |some (t,U)=>match put i t U with
  |some Z'=>some (.nx,Z')
  |none=>none
 |none=>none
def S8(r:Rr)(Z:List Sl):Option (Fl×List Sl):=match M0 r Z with
 |some (s,O)=>some (.rt s,O)
 |none=>none
theorem OW(loc:Nat)(m:Ms):aV loc m Z=(match m (Z++Vd loc .un) with|some (.nx,O)=>some (.rt (.fr .non),O)|some (.rt s,O)=>some (.rt s,O)|some (.ex x,O)=>some (.ex x,O)|_=>none):=by
 unfold aV;cases m (Z++Vd loc .un) with
 |none=>rfl
 |some p=>obtain⟨f,U⟩:=p;cases f<;>rfl
theorem QD(m:Mi (List A))(G:Mg)(b:Ms):dm m G b Z=(match m Z with|some (.ok as,U)=>forL G b as U|some (.error e,U)=>some (.ex e,U)|none=>none):=by
 unfold dm cH;cases m Z with
 |none=>rfl
 |some p=>
  obtain⟨o,U⟩:=p;cases o with
  |error e=>rfl
  |ok x=>rfl
def SU(r:Rr)(Z:List Sl):Option (Except Str (List A)×List Sl):=match a8 r Z with
 |some (a,O)=>match KC a with
  |some as=>some (.ok as,O)
  |none=>none
 |none=>none
def tU(r:Rr)(Z:List Sl):Option (Except Str (List A)×List Sl):=match res Z r with
 |some (.int j)=>if -(2^60)<=j/\j<2^60 then some (.ok (cU 0 j.toNat),Z) else none
 |_=>none
def cN(n:Nat)(G:Mg)(t:Mi Bool)(e:Mi Rr)(as:List A)(Z:List Sl):Option (Except Str Rr×List Sl):=if as.length<=100000 then match bK G t e as [] (Z++Vd n .un) with
 |some (ys,O)=>some (.ok (.nw (.lst ys)),O.take Z.length)
 |none=>none else none
theorem Lo:bw Z=some (.ok true,Z):=rfl
def Uq(i:Nat)(r:Rr)(Z:List Sl):Option (Except Str Rr×List Sl):=match a8 r Z with
 |some (a,U)=>match aL U i with
  |some (.lst xs)=>if xs.length<=100000 then some (.ok (.fr .non),setAt U i (.lst (xs++[a]))) else none
  |_=>none
 |none=>none
def Uu(i:Nat)(r rk:Rr)(Z:List Sl):Option (Fl×List Sl):=match a8 r Z with
 |some (a,U)=>match res U rk,aL U i with
  |some (.int k),some (.lst xs)=>match uP xs.length k with
   |some j=>some (.nx,setAt U i (.lst (xs.set j a)))
   |none=>none
  |_,_=>none
 |none=>none
def dK(i:Nat)(r rk:Rr)(Z:List Sl):Option (Fl×List Sl):=match a8 r Z with
 |some (a,U)=>match res U rk,aL U i with
  |some ka,some (.aP kvs)=>match gB ka with
   |some y=>if kvs.length<=100000 then some (.nx,setAt U i (.aP (jD kvs y a))) else none
   |none=>none
  |_,_=>none
 |none=>none
def Ul(r:Rr)(Z:List Sl):Option (Except Str Rr×List Sl):=match a8 r Z with
 |some (a,O)=>some (.ok (.fr a),O)
 |none=>none
end
section
variable{α β:Type}{Z:List Sl}
def Ux(x y:Rr)(Z:List Sl):Option (Except Str (List A)×List Sl):=match fW [x,y] Z with
 |some ([.tup as,.tup bs],O)=>some (.ok (Sd as bs),O)
 |_=>none
theorem Oj(i:Nat)(sub:Str->Bool)(b s:Ms):Eb i sub b s Z=(match b Z with
 |some (.ex x,U)=>if sub x=true then match put i (.fr (.exc x)) U with
  |some Z'=>match s Z' with
   |some (.nx,Y')=>match put i .un Y' with
    |some V=>some (.nx,V)
    |none=>none
   |some (.rt r,Y')=>some (.rt r,Y')
   |_=>none
  |none=>none else none
 | r=>r):=rfl
end
section
variable{Z:List Sl}
def TM(cs:List Str)(i:Nat)(f:Str)(r:Rr)(Z:List Sl):Option (Fl×List Sl):=match a8 r Z with
 |some (a,U)=>match aL U i with
  |some (.obj c fs)=>if cs.contains c&&Xl fs.length 900 then some (.nx,setAt U i (.obj c (p5 f a fs))) else none
  |_=>none
 |none=>none
def kH(cn:Str)(f:Ms)(das:List A)(rs:List Rr)(Z:List Sl):Option (Except Str Rr×List Sl):=match cg (rs++das.map Rr.fr) Z with
 |some (as,T)=>match f (.pv (.obj cn [])::as.map sH) with
  |some (.rt (.fr .non),.pv (.obj c2 fs)::Y)=>match putL Z (rs++das.map Rr.fr) (bg as.length Y) T with
   |some O=>some (.ok (.nw (.obj c2 fs)),O)
   |none=>none
  |some (.ex x,s::Y)=>match putL Z (rs++das.map Rr.fr) (bg as.length Y) T with
   |some O=>some (.error x,O)
   |none=>none
  |_=>none
 |none=>none
def Pz(cn mn:Str)(r:Rr)(Z:List Sl):Option (Except Str Rr×List Sl):=match res Z r with
 |some (.obj c fs)=>if c==cn&&(fs.lookup mn).isNone then some (.ok r,Z) else none
 |_=>none
theorem EX(a b:A):uJ a b=(nD λi j=>if fits 20000 i&&fits 20000 j then some (.fr (.int (i*j))) else none) a b:=rfl
theorem L9(a b:A):j9 a b=(nD λi j=>if j != 0&&fits 9000 j then some (.fr (.int (i.fdiv j))) else none) a b:=rfl
end
noncomputable def np:Sl->Bool
 | .pv _=>false
 |_=>true
theorem P9(i:Nat)(s:Sl)(Z:List Sl):put i s Z=(match Z[i]? with|some t=>if np t=true then some (Z.set i s) else none|none=>none):=by
 unfold put;cases Z[i]? with
 |none=>rfl
 |some t=>cases t<;>rfl
def Wp(m:Ms)(Z:List Sl)(Q:Fl->List Sl->Prop):Prop:=∃f O,m Z=some (f,O)/\Q f O
section
variable{m n b:Ms}{Z U:List Sl}{Q:Fl->List Sl->Prop}
theorem Wp.st(h:m Z=some (.nx,U))(k:Wp n U Q):Wp (ay m n) Z Q:=by obtain⟨f,O,e,q⟩:=k;exact⟨f,O,by rw[Jp,h];exact e,q⟩
theorem Wp.sq(k:Wp m Z λf U=>f=.nx/\Wp n U Q):Wp (ay m n) Z Q:=by obtain⟨f,U,e,rfl,L,Z',e2,q⟩:=k;exact⟨L,Z',by rw[Jp,e];exact e2,q⟩
theorem Wp.en{f:Fl}(h:m Z=some (f,U))(q:Q f U):Wp m Z Q:=⟨_,_,h,q⟩
theorem Wp.mono{H:Fl->List Sl->Prop}(k:Wp m Z Q)(h:∀f U,Q f U->H f U):Wp m Z H:=by obtain⟨f,U,e,q⟩:=k;exact⟨f,U,e,h f U q⟩
theorem Wp.fr{H:Mi (List A)}{as:List A}(P:Nat->List Sl->Prop)(h:H Z=some (.ok as,U))(h0:P 0 U)(u:∀i a Z,as[i]?=some a->P i Z->∃U,G a Z=some U/\Wp b U λf Z'=>(f=.nx\/f=.ct)/\P (i+1) Z')(j:∀O,P as.length O->Q .nx O):Wp (dm H G b) Z Q:=by
 obtain⟨O,h1,h2⟩:=tq (G:=G) (b:=b) (as:=as) P h0 (λi a Z ha p=>by
  obtain⟨U,g,f,Z',e,hf,J⟩:=u i a Z ha p;refine⟨U,Z',g,?_,J⟩;rcases hf with rfl|rfl
  .exact .inl e
  .exact .inr e)
 exact⟨_,O,by rw[QD,h];exact h1,j O h2⟩
theorem Wp.RL{H:Mi (List A)}(as:List A)(P:List Sl->Prop)(h:H Z=some (.ok as,U))(h0:P U)(u:∀a∈as,∀Z,P Z->∃U,G a Z=some U/\Wp b U λf Z'=>(f=.nx\/f=.ct)/\P Z')(j:∀O,P O->Q .nx O):Wp (dm H G b) Z Q:=
 Wp.fr (λ_=>P) h h0 (λ_ a Z ha p=>u a (Vc ha) Z p) j
theorem Wp.df{loc:Nat}(k:Wp m (Z++Vd loc .un) λf O=>match f with | .nx=>Q (.rt (.fr .non)) O | .rt s=>Q (.rt s) O | .ex x=>Q (.ex x) O|_=>False):Wp (aV loc m) Z Q:=by
 obtain⟨f,O,e,q⟩:=k;unfold Wp;rw[OW,e];cases f with
 |nx=>exact⟨_,_,rfl,q⟩
 |rt s=>exact⟨_,_,rfl,q⟩
 |ex x=>exact⟨_,_,rfl,q⟩
 |bk=>exact q.elim
 |ct=>exact q.elim
theorem Val.of{f:Ms}{as:List A}{a:A}(k:Wp f (as.map Sl.fr) λg _=>g=.rt (.fr a)):Val f as a:=by obtain⟨g,O,e,rfl⟩:=k;exact⟨O,e⟩
theorem dF.of{f:Ms}{as:List A}(k:Wp f (as.map Sl.fr) λg _=>g=.rt (.lv o)):dF f as o:=by obtain⟨g,O,e,rfl⟩:=k;exact⟨O,e⟩
theorem jd.of{f:Ms}{as:List A}(k:Wp f (as.map Sl.fr) λg _=>g=.ex x):jd f as x:=by obtain⟨g,O,e,rfl⟩:=k;exact⟨O,e⟩
theorem cJ.of{f:Ms}{as:List A}{R:Sl->LO->Prop}(k:Wp f (.pv o::as.map Sl.fr) λg Z=>∃s o' U,g=.rt s/\Z=.pv o'::U/\R s o'):∃s o',cJ f o as s o'/\R s o':=by obtain⟨g,O,e,s,o',U,rfl,rfl,r⟩:=k;exact⟨s,o',⟨U,e⟩,r⟩
end
theorem mZ(n:Nat):(cU 0 n).length=n:=by simp[cU]
theorem wF{n:Nat}{a:A}(h:(cU 0 n)[i]?=some a):i<n/\a=.int i:=by have hi:=(UQ.mp h).1;rw[mZ] at hi;unfold cU at h;rw[UU,Wz hi] at h;simp at h;exact⟨hi,h.symm⟩
theorem mR{n:Nat}{a:A}(h:a∈cU 0 n):∃i:Nat,i<n/\a=.int i:=by obtain⟨i,h⟩:=List.mem_iff_getElem?.mp h;exact⟨i,(wF h).1,(wF h).2⟩
section
variable{Z:List Sl}
def Se(i:Nat)(r:Rr)(Z:List Sl):Option (Except Str Rr×List Sl):=match a8 r Z with
 |some (.lst zs,U)=>match aL U i with
  |some (.lst xs)=>if xs.length+zs.length<=100000 then some (.ok (.fr .non),setAt U i (.lst (xs++zs))) else none
  |_=>none
 |_=>none
end
section
variable{G:Mg}{b:Ms}{g:Key×A->A}{j:Nat}{Z:List Sl}{kvs:List (Key×A)}
theorem Ii{a:A}(h:Z[j]?=some (.fr a)):aj j Z=some (.ok (.fr a),Z):=by unfold aj;rw[h]
theorem Ez{n:Nat}{t:Mi Bool}(h:Z[j]?=some (.fr (.aP kvs))):lM g n j G t e Z=cN n G t e (kvs.map g) Z:=by unfold lM cN;(rw[Ii h])<;>rfl
theorem zB{T:Type}{ts:List T}(f:T->A)(x:Str)(Y:T->Bool)(P:List Sl->Prop)(u:∀t∈ts,∀Z,P Z->∃U Z',G (f t) Z=some U/\P Z'/\b U=some (if Y t then .nx else .ex x,Z')):
  ∀{Z:List Sl},P Z->∃O,forL G b (ts.map f) Z=some (if ts.all Y then .nx else .ex x,O)/\P O:=by
 induction ts with
 |nil=>intro Z h;exact⟨Z,rfl,h⟩
 |cons t ts j=>
  intro Z h;obtain⟨U,Z',e1,S,e2⟩:=u t U9 Z h;rw[U3];unfold forL;rw[e1];dsimp only;rw[e2,Vp];cases Y t with
  |true=>simpa using j (λt h=>u t (UW _ h)) S
  |false=>exact⟨Z',rfl,S⟩
end
variable{ms:Mi (List Rr)}{rs:List Rr}{cn:Str}{b:Bool}
section
variable{α β:Type}{Z S U Z' Y':List Sl}{m n mk:Mi Rr}{t u:Mi Bool}{x y r rk:Rr}
theorem bk{m:Mi α}{f:α->Mi β}{x:α}{q:Option (Except Str β×List Sl)}(h:m Z=some (.ok x,U))(k:f x U=q):aF m f Z=q:=by unfold aF;rw[h];exact k
theorem sk{m:Mi α}{f:α->Ms}{x:α}{q:Option (Fl×List Sl)}(h:m Z=some (.ok x,U))(k:f x U=q):cH m f Z=q:=by unfold cH;rw[h];exact k
theorem ag{f:Ms}{das:List A}(h:ms Z=some (.ok rs,U))(c:d9 f das rs U=some (.ok r,Z')):fq f das ms Z=some (.ok r,Z'):=bk h c
theorem af(h:m Z=some (.ok x,U))(k:ms U=some (.ok rs,Z')):bZ m ms Z=some (.ok (x::rs),Z'):=bk h (bk k rfl)
theorem ai{f:A->A->Option Rr}(h:m Z=some (.ok x,U))(k:n U=some (.ok y,Z'))(o:eW f x y Z'=some (.ok r,Y')):az f m n Z=some (.ok r,Y'):=bk h (bk k o)
theorem bq{f:A->Option Rr}(h:m Z=some (.ok x,U))(o:OF f x U=some (.ok r,Z')):j4 f m Z=some (.ok r,Z'):=bk h o
theorem dA(h:m Z=some (.ok x,U))(o:Ul x U=some (.ok r,Z')):km m Z=some (.ok r,Z'):=bk h o
theorem cR(h:ms Z=some (.ok rs,U))(o:tupK rs U=some (.ok r,Z')):aU ms Z=some (.ok r,Z'):=bk h o
theorem fV(h:ms Z=some (.ok rs,U))(o:lstK rs U=some (.ok r,Z')):eM ms Z=some (.ok r,Z'):=bk h o
theorem jn{f:Ms}{das:List A}(h:ms Z=some (.ok rs,U))(c:kH cn f das rs U=some (.ok r,Z')):kC cn f das ms Z=some (.ok r,Z'):=bk h c
theorem bI{mn:Str}(h:m Z=some (.ok x,U))(c:Pz cn mn x U=some (.ok r,Z')):cf cn mn m Z=some (.ok r,Z'):=bk h c
theorem aA(h:m Z=some (.ok (.fr (.bl b)),U)):ao m Z=some (.ok b,U):=bk h rfl
theorem cS(h:t Z=some (.ok b,U)):gQ t Z=some (.ok (!b),U):=bk h rfl
theorem fR(h:t Z=some (.ok false,U))(k:u U=some (.ok b,Z')):Ae t u Z=some (.ok b,Z'):=bk h k
theorem jl(h:t Z=some (.ok false,U)):oe t u Z=some (.ok false,U):=bk h rfl
theorem cP(h:t Z=some (.ok true,U))(k:u U=some (.ok b,Z')):oe t u Z=some (.ok b,Z'):=bk h k
theorem GY(h:m Z=none)(k:n Z=some (.ok r,U)):nu m n Z=some (.ok r,U):=by unfold nu;rw[h];exact k
theorem xH(h:m Z=some (.ok r,U)):nu m n Z=some (.ok r,U):=by unfold nu;rw[h]
theorem bD(h:m Z=some (.ok r,U))(k:GR i r U=some (.nx,Z')):aG i m Z=some (.nx,Z'):=sk h k
theorem jA(h:m Z=some (.ok r,S))(d:yS S i=true)(hk:mk S=some (.ok rk,U))(k:dK i r rk U=some (.nx,Z')):hV i mk m Z=some (.nx,Z'):=sk h ((if_pos d).trans (sk hk k))
theorem aC{f:Fl}(h:m Z=some (.ok r,U))(k:S8 r U=some (f,Z')):aN m Z=some (f,Z'):=sk h k
theorem kD(h:m Z=some (.ok r,U)):bO m Z=some (.nx,U):=sk h rfl
theorem QU{a:Sl}(h:xF r Z=some (a,U))(k:U[i]?=some s)(hn:np s=true):GR i r Z=some (.nx,U.set i a):=by unfold GR;rw[h];dsimp only;rw[P9,k];dsimp only;rw[if_pos hn]
theorem zq{a:A}{x:A}{kvs:List (Key×A)}{q:Key}(h:a8 r Z=some (a,U))(h1:res U rk=some x)(h2:aL U i=some (.aP kvs))(h3:gB x=some q)(hl:kvs.length<=100000):dK i r rk Z=some (.nx,setAt U i (.aP (jD kvs q a))):=by unfold dK;rw[h];dsimp only;rw[h1,h2];dsimp only;rw[h3];dsimp only;rw[if_pos hl]
end
end M
namespace W
open PySem L2
noncomputable def El(o:Obj):Bool:=match o.data with
 | .freed=>false
 |_=>true
def qJ:List Nat->List Obj->UN->UN
 |a::as,o::os,K=>qJ as os (match El o with|true=>(a,o)::K|false=>K)
 |_,_,K=>K
def jj(h:Heap):UN:=match h.get? mainGlobals with
 |some o=>(mainGlobals,o)::qJ (Vo h.objs.size) h.objs.toList []
 |none=>[]
theorem qh{o:Obj}{a:Addr}:∀{K:UN},K.lookup a=some o->(a,o)∈K
 |(b,u)::K,e=>by
  rw[Vs] at e;split at e
  .rename_i q;cases e;rw[beq_iff_eq.mp q];exact U9
  .exact UW _ (qh e)
theorem tE{h:Heap}:∀{as:List Nat}{os:List Obj}{K:UN},(∀(i a:Nat)(o:Obj),as[i]?=some a->os[i]?=some o->h.objs[a]?=some o)->(∀(a:Nat)(o:Obj),(a,o)∈K->h.get? a=some o)->∀a o,(a,o)∈qJ as os K->h.get? a=some o
 |[],_,K,_,k=>by unfold qJ;exact k
 |_::_,[],K,_,k=>by unfold qJ;exact k
 |a::as,o::os,K,e,k=>by
  unfold qJ;refine tE (λi b u h1 h2=>e (i+1) b u h1 h2) ?_;cases c:El o with
  |false=>exact k
  |true=>
   intro b u m;rcases U5.mp m with m|m
   .cases m;unfold Heap.get?;rw[e 0 a o rfl rfl];obtain⟨t,w,f,Z⟩:=o;cases f<;>first|rfl|cases c
   .exact k b u m
theorem oX(h:Heap):(jj h).In h:=λa o e=>by
 have m:=qh e;unfold jj at m;split at m
 .rename_i o' H;rcases U5.mp m with m|m
  .cases m;exact H
  .refine tE (λi b u h1 h2=>?_) (λ_ _ q=>by cases q) a o m;have hi:i<h.objs.size:=(UQ.mp h1).1 |> λq=>by rwa[WL] at q
   rw[Wz hi] at h1;cases h1;rw[<-WS];exact h2
 .cases m
noncomputable def Pa(K:UN)(n:Str):Option (Str×Str×Arguments×FuncBody×Scope×Addr×List (Str×Addr)×Value×Addr×Bool):=
 match Yc K mainGlobals n with
 | some (some (.ref f))=>(match K.lookup f with
  |some ⟨_,_,.func d,_⟩=>some (d.name,d.qualname,d.params,d.body,d.scope,d.globals,d.closure,d.defaults,d.builtins,XD K d.code n&&VJ K (.ref f))
  | _=>none)
 |_=>none
def OX(n:Str)(st:Stmt):Option (Str×Str×Arguments×FuncBody×Scope×Addr×List (Str×Addr)×Value×Addr×Bool):=some (n,n,dO st,.stmts (dy st),aZ st,mainGlobals,[],.none,builtinsNs,true)
noncomputable def SS(K:UN)(a:Addr)(i j:Int):Bool:=match K.lookup a with
 | some ⟨.type "tuple",none,.seq its _,_⟩=>(match its.toList with
  |[.int x _,.int y _]=>x==i&&y==j
  | _=>false)
 |_=>false
def NV(ds:List (Str×Stmt))(h:UN->Bool)(K:UN):=(ds.map λx=>Pa K x.1,h K)
def N5(ds:List (Str×Stmt)):List (Option (Str×Str×Arguments×FuncBody×Scope×Addr×List (Str×Addr)×Value×Addr×Bool))×Bool:=(ds.map λx=>OX x.1 x.2,true)
def hk(ds:List (Str×Stmt))(Z:UN->Bool):zaa where
 α:=List (Option (Str×Str×Arguments×FuncBody×Scope×Addr×List (Str×Addr)×Value×Addr×Bool))×Bool
 obs:=λs=>NV ds Z (jj s.heap)
 val:=λ_=>N5 ds
 says:=λ_ h=>∃K:UN,NV ds Z K=N5 ds/\K.In h
 of:=λ_ s e=>⟨jj s.heap,e,oX _⟩
 keeps:=λ_ _ _ ⟨K,e,i⟩ k=>⟨K,e,i.keeps k⟩
noncomputable def Qw(p:Program):List Stmt:=p.main.body.filter λs=>match s with | .FunctionDef n ..=>n==("law" : Str)|_=>false
noncomputable def Ry:Stmt->List Str
 | .FunctionDef n ..=>[n]
 | .ClassDef n ..=>[n]
 | .Assign [.Name n _] _ _=>[n]
 |_=>[]
def Om(p:Program):Program:={ p with main:={ p.main with body:=Qw p } }
def xg(p:Program):List Str:=(p.main.body.flatMap Ry).filter λn=>n != ("law" : Str)
variable{q:Program}
theorem CQ{l:ZP}{n k:Nat}{loose:List Str}{XP:(Str->Option Value)->Heap->Prop}{YP:World->Heap->Prop}{d:DefRec}{x:Str}{sp:UN->Sp}
  (hn:l.most=some n)(B:n<=sizeLine)(J:d.params.defaults=[])(I:cp k callerA)
  (F:∀(w:World)(mg:Str->Option Value)(Q:Addr)(h:Heap),YP w h->h.Ns mainGlobals mg->mg d.name=some (.ref Q)->
   ∃K:UN,K.In h/\∃fd:FuncData,(∀(s:Shared)(u:Value),BindsTo s fd ⟨[u],[]⟩ [(x,u)])/\∀base:Heap,K.In base->base.Ns mainGlobals mg->cV l.prog w K mg base (sd l.prog w) k Q fd [x] (sp K))
  (L:∀(K:UN)(H:Hp)(a:Addr)(ns:List Int),ns.length<=n->Ni H->g9 K H a (ns.map V.int)->sp K [.ref a] H (λv _=>v=.bl true) λ_ _ _=>False):
  Z4 q loose XP YP l.row.toRowW d [] (λf vs=>ZF f vs):=by
 refine Att.sU hn J λw s₀ Z mg mb Q o pm cd doc a vs ns G Y ho hd S R A p N r=>?_;obtain⟨K,X,fd,E,U⟩:=F w mg Q _ Y G.T.g R;exact DO X G.T.g G.T.b G.T.builtins G.T.nolimit r A p (Vg N B) I U E (λH O i=>L K H a ns N O i) λH e s' z=>by obtain⟨_,_,_,_,_,y⟩:=z;exact y
open PySem PySem.W PyProof.Rows
noncomputable abbrev Jw:=PySem.W.Fast.tw11892475500146522536
noncomputable abbrev vz:=PySem.W.Fast.tw14364793385576792824
noncomputable abbrev Of:=PySem.W.Fast.tw6613529449190102663
noncomputable abbrev Cf:=PySem.W.Fast.tw10156331382660048174
noncomputable abbrev Jo:=PySem.W.Fast.tw10274390034422433532
noncomputable abbrev Jb:=PySem.W.Fast.tw14289696077712309145
noncomputable abbrev DA:=PySem.W.Fast.tw4187177175401517315
theorem BY:denote=Jw:=PySem.W.Fast.te11892475500146522536
theorem qA:treeTable=vz:=PySem.W.Fast.te14364793385576792824
theorem Ig:stepOk=Of:=PySem.W.Fast.te6613529449190102663
theorem zb:stepT=Cf:=PySem.W.Fast.te10156331382660048174
theorem A6:importEnds=Jo:=PySem.W.Fast.te10274390034422433532
theorem De:fenceModules?=Jb:=PySem.W.Fast.te14289696077712309145
theorem zx:openSeen=DA:=PySem.W.Fast.te4187177175401517315
def BZ(p:Program)(w:World)(Z:Nat)(a:Option Value):Nat->SharedT->Thread->Option SharedT
 |0,_,_=>none
 |m+1,s,t=>match through t with
  |true=>some s
  |false=>match Of Z a t with
   |false=>none
   |true=>match Cf (Jw vz) p w s t with
    |some (s',t')=>BZ p w Z a m s' t'
    |none=>none
theorem xO{p:Program}{w:World}{Z:Nat}{a:Option Value}:∀{m:Nat}{s s2:SharedT}{t:Thread},BZ p w Z a m s t=some s2->topRun treeTable p w Z a m s.abs t=some s2.abs
 |0,_,_,_,e=>by cases e
 |m+1,s,s2,t,e=>by
  unfold BZ at e;rw[<-Ig,<-zb,<-BY,<-qA] at e;unfold topRun;cases K:through t with
  |true=>rw[K] at e;cases e;rfl
  |false=>
   rw[K] at e;simp only at e ⊢;cases b:stepOk Z a t with
   |false=>rw[b] at e;cases e
   |true=>
    rw[b] at e;simp only at e ⊢;cases es:stepT (denote treeTable) p w s t with
    |none=>rw[es] at e;cases e
    |some q=>obtain⟨v,z⟩:=q;rw[es] at e;rw[stepT_spec es];exact xO e
noncomputable def NY:List Obj->Nat->BT->Option BT
 |[],_,t=>some t
 |o::os,n,t=>match ((t.ins n o).get n).isSome with
  |true=>NY os (n+1) (t.ins n o)
  |false=>none
theorem AO(l:Life):∀{os:List Obj}{n:Nat}{t t':BT},NY os n t=some t'->absHeap t' (n+os.length) l=⟨(absHeap t n l).objs++os.toArray,l⟩
 |[],n,t,t',e=>by cases e;show absHeap t n l=⟨(absHeap t n l).objs++#[],l⟩;rw[Array.append_empty];rfl
 |o::os,n,t,t',e=>by
  unfold NY at e;cases H:((t.ins n o).get n).isSome with
  |false=>rw[H] at e;cases e
  |true=>
   rw[H] at e;have i:=AO l e;rw[absHeap_ins H] at i;have e2:n+1+os.length=n+(o::os).length:=by rw[US];omega
   rw[<-e2,i];show Heap.mk (((absHeap t n l).objs.push o)++os.toArray) l=_;simp
theorem Cc{h:Heap}{t:BT}(e:NY h.objs.toList 0 .nil=some t):absHeap t h.objs.size h.life=h:=by have i:=AO h.life e;rw[Nat.zero_add,VF] at i;rw[i];obtain⟨objs,l⟩:=h;show Heap.mk (#[]++objs.toList.toArray) l=_;simp
def Lk(p:Program)(w:World)(N:Nat)(s₀:Shared):Option Shared:=match s₀.heap.isNs mainGlobals&&s₀.gens.size==0 with
 |true=>match NY s₀.heap.objs.toList 0 .nil with
  |some t=>(BZ p w s₀.heap.objs.size (s₀.heap.nsMap mainGlobals "__annotations__") N ⟨t,s₀.heap.objs.size,s₀.heap.life,s₀.gens,s₀.drawn,s₀.toks,s₀.os⟩ (topStub p)).bind λq=>match staticsOk (importedModules p.main.body) s₀.heap q.abs.heap&&namesBound p q.abs.heap&&gensDone q.abs&&laidKept s₀.heap q.abs.heap with
   |true=>some q.abs
   |false=>none
  |none=>none
 |false=>none
variable{p:Program}{w:World}{N:Nat}{s:Shared}
theorem HL{s₀:Shared}(e:Lk p w N s₀=some s):topFrom treeTable p w N s₀=some s:=by
 unfold Lk at e;unfold topFrom;cases e1:s₀.heap.isNs mainGlobals&&s₀.gens.size==0 with
 |false=>rw[e1] at e;cases e
 |true=>
  rw[e1] at e;simp only at e ⊢;cases e2:NY s₀.heap.objs.toList 0 .nil with
  |none=>rw[e2] at e;cases e
  |some t=>
   rw[e2] at e;simp only at e;cases e3:BZ p w s₀.heap.objs.size (s₀.heap.nsMap mainGlobals "__annotations__") N ⟨t,s₀.heap.objs.size,s₀.heap.life,s₀.gens,s₀.drawn,s₀.toks,s₀.os⟩ (topStub p) with
   |none=>rw[e3] at e;cases e
   |some q=>
    rw[e3] at e;have k:=xO e3;have k0:zak ⟨t,s₀.heap.objs.size,s₀.heap.life,s₀.gens,s₀.drawn,s₀.toks,s₀.os⟩=s₀:=by unfold zak;rw[Cc e2]
    rw[k0] at k;rw[k];exact e
def yM(p:Program)(w:World)(N:Nat):Option Shared:=((Jo vz (opening p) w N (start (opening p)).1 (start (opening p)).2).bind (Jb p)).bind (Lk p w N)
theorem Bi(e:yM p w N=some s):openEnds treeTable p w N=some s:=by
 unfold yM at e;unfold openEnds fencedOpening;rw[<-A6,<-qA,<-De] at e;cases e1:(importEnds treeTable (opening p) w N (start (opening p)).1 (start (opening p)).2).bind (fenceModules? p) with
 |none=>rw[e1] at e;cases e
 |some r=>rw[e1] at e;exact HL e
theorem A7{loose:List Str}{Xt:Shared->Bool}{α:Type}{Yf:Shared->α}{Ya:World->α}
  (h:∀w,Option.map (λs=>(DA q loose (importedModules p.main.body) Xt true s,Yf s)) (yM p w N)=some (openGood q loose,Ya w)):LeftO p q loose Xt Yf Ya N:=λw=>by
 have h:=h w;rw[<-zx] at h;cases e:yM p w N with
 |none=>rw[e] at h;cases h
 |some s=>rw[e] at h;rw[Bi e];exact h
end W
namespace M
open PySem L2
structure FI where
 n:Nat
 m:Ms
 mu:List Bool
 df:List A
 hf:Bool
structure Tb where
 fns:List (Str×FI)
 cst:List (Str×A)
 exs:List Str
 kit:List (Str×List (Str×Bool))
 exm:List (Str×List Str)
 fld:List (Str×List Str)
 ini:List (Str×FI)
 mts:List (Str×Str×FI)
structure Sc where
 N:List Str
 nm:List (Str×NameKind)
 di:List Str
 ca:List Str
 hd:Bool
 lv:List Str
 tp:Bool:=false
noncomputable def T5(s:Sc):Sc:={ s with tp:=false }
noncomputable def ah{α β:Type}(x:Option α)(f:α->Option β):Option β:=match x with
 |some a=>f a
 |none=>none
noncomputable def cQ{α:Type}(b:Bool)(x:Option α):Option α:=match b with
 |true=>x
 |false=>none
variable{α:Type}
theorem aa{β:Type}{x:Option α}{f:α->Option β}{y:β}(h:ah x f=some y):∃a,x=some a/\f a=some y:=by
 cases x with
 |none=>cases h
 |some a=>exact⟨a,rfl,h⟩
theorem aq{b:Bool}{x:Option α}{y:α}(h:cQ b x=some y):b=true/\x=some y:=by
 cases b with
 |false=>cases h
 |true=>exact⟨rfl,h⟩
def pQ(s:Sc)(x:Str)(k:NameKind):Bool:=s.nm.lookup x==some k
def Ik(s:Sc)(x:Str):Bool:=pQ s x .local || pQ s x .cell || pQ s x .free
def vO(s:Sc)(x:Str):Bool:=pQ s x .local || pQ s x .cell
noncomputable def okN(x:Str):Bool:=!(x==("__debug__" : Str))&&!(x==("__classdict__" : Str))
def uX(s:Sc)(x:Str):Bool:=pQ s x .globalImplicit&&okN x
def uP(x:Str):List Str->Nat->Option Nat
 |[],_=>none
 |y::ys,i=>if x==y then some i else uP x ys (i+1)
theorem oC{x:Str}:∀{N:List Str}{k i:Nat},uP x N k=some i->∃j,i=k+j/\N[j]?=some x
 |[],_,_,h=>by cases h
 |y::ys,k,i,h=>by
  unfold uP at h;split at h
  .rename_i e;cases h;exact⟨0,rfl,by rw[beq_iff_eq.mp e];rfl⟩
  .obtain⟨j,e1,e2⟩:=oC h;exact⟨j+1,by omega,by simpa using e2⟩
def slot(s:Sc)(x:Str):Option Nat:=cQ (Ik s x&&okN x) (uP x s.N 0)
def fJ(s:Sc)(x:Str):Option Nat:=cQ (vO s x&&okN x) (uP x s.N 0)
noncomputable def HE:List Str:=["len", "isinstance", "abs", "max", "min", "int", "bool", "str", "tuple", "list", "dict", "range", "ValueError", "sorted", "all", "zip", "set", "sum", "enumerate", "any", "reversed"]
def kA(K:UN)(mg:Str->Option Value)(fd:FuncData)(ps:List Str)(df:List A):Prop:=∀j,j<=df.length->∃ds dvs,Binds K fd ps ds/\Vals dvs ds/\∀G,bx ⟨K,mg⟩ G dvs (df.drop j)
noncomputable def Al(fi:FI)(n:Nat):List A:=fi.df.drop (fi.df.length-(fi.n-n))
variable{K:UN}{mg:Str->Option Value}{fd:FuncData}{ps:List Str}
theorem kA.of{fi:FI}(h:kA K mg fd ps fi.df)(n:Nat):∃ds dvs,Binds K fd ps ds/\Vals dvs ds/\∀G,bx ⟨K,mg⟩ G dvs (Al fi n):=h _ (Nat.sub_le _ _)
theorem kA.all{df:List A}(h:kA K mg fd ps df):Binds K fd ps []:=by obtain⟨ds,dvs,h1,h2,h3⟩:=h df.length (U2 _);have h3:=h3 λ_=>none;rw[We] at h3;cases h3;cases h2;exact h1
noncomputable def Dw(tb:Tb)(f:Str):List Str:=(tb.fld.filter λp=>p.2.contains f).map (·.1)
noncomputable def JO(tb:Tb)(m:Str):List (Str×FI):=tb.mts.filterMap λp=>if p.1==m then some p.2 else none
structure Gd(tb:Tb)(k:Nat)(P:Program)(w:World)(K:UN)(mg:Str->Option Value)(base:Heap):Prop where
 fn:∀x f,tb.fns.lookup x=some f->∃a fd ps,cV P w K mg base (sd P w) k a fd ps (uZ ⟨K,mg⟩ f.n f.m)/\mg x=some (.ref a)/\VJ K (.ref a)=true/\kA K mg fd ps f.df
 cs:∀x a,tb.cst.lookup x=some a->∃v u,mg x=some u/\RelV v u/\∀G,RA ⟨K,mg⟩ G v a
 bl:∀x∈HE,mg x=none
 ex:∀x∈tb.exs,∃C,mg x=some (.ref C)/\WT K C wZ "ValueError.__new__" = true
 kt:∀x l,tb.kit.lookup x=some l->∃u cv,eJ cv=true/\RelV cv u/\((mg x=some u)\/(mg x=none/\bootBuiltins x=some u/\x ≠ "__name__"))/\∀c C k,l.lookup c=some k->mg c=some (.ref C)->gU K C/\Vt K (.ref C) (ir cv)=some k
 em:∀x l,tb.exm.lookup x=some l->∃T,mg x=some (.ref T)/\∀c C,l.contains c=true->mg c=some (.ref C)->XE K (.ref C) (.ref T)=some true
 fl:∀f c C,(Dw tb f).contains c=true->mg c=some (.ref C)->pB K C/\fo K C f
 im:∀c f,tb.ini.lookup c=some f->∃C a fd ps j,j+1<=k/\cV P w K mg base (sd P w) j a fd ps (uZ ⟨K,mg⟩ f.n f.m)/\mg c=some (.ref C)/\Mk K C a/\kA K mg fd ps f.df
 mt:∀m c f,(m,c,f)∈tb.mts->∃C a fd ps,cV P w K mg base (sd P w) k a fd ps (uZ ⟨K,mg⟩ f.n f.m)/\mg c=some (.ref C)/\pB K C/\Meth K C m a/\kA K mg fd ps f.df
structure Sit(tb:Tb)(k:Nat)(X:Cx)(E:XK)(s:Sc):Prop where
 n:X.N=s.N
 nd:s.N.Nodup
 gl:∀x,s.nm.lookup x=some .globalImplicit->Gl X x
 vs:∀x,Ik s x=true->uY X.env.scope x
 lo:∀x,vO s x=true->Loc X.env.scope x
 lc:∀x,s.nm.lookup x=some .local->X.env.scope.names.lookup x=some .local
 ce:∀x,s.nm.lookup x=some .cell->X.env.scope.names.lookup x=some .cell
 fx:∀x,vO s x=true->X.fn x=true\/X.env.scope.names.lookup x=some .local
 cm:s.hd=false->X.calm=true
 rm:s.hd=false->cp k X.A
 ps:s.hd=false->Passes (sd X.prog X.w) X E
 gd:Gd tb k X.prog X.w X.K X.mg X.base
variable{x:Str}
section
variable{tb:Tb}{k:Nat}{X:Cx}{E:XK}{s:Sc}
theorem rC(h:okN x=true):gu x/\zz x:=by unfold okN at h;rw[UO] at h;exact⟨by simpa using h.1,by simpa using h.2⟩
theorem Sit.slot(S:Sit tb k X E s){i:Nat}(h:M.slot s x=some i):X.N[i]?=some x/\uY X.env.scope x/\gu x/\zz x:=by
 obtain⟨h1,h2⟩:=aq h;rw[UO] at h1;obtain⟨j,e1,e2⟩:=oC h2;obtain rfl:i=j:=by omega
 exact⟨by rw[S.n];exact e2,S.vs x h1.1,(rC h1.2).1,(rC h1.2).2⟩
theorem Sit.fJ(S:Sit tb k X E s){i:Nat}(h:M.fJ s x=some i):X.N[i]?=some x/\Loc X.env.scope x/\gu x/\(X.fn x=true\/X.env.scope.names.lookup x=some .local):=by
 obtain⟨h1,h2⟩:=aq h;rw[UO] at h1;obtain⟨j,e1,e2⟩:=oC h2;obtain rfl:i=j:=by omega
 exact⟨by rw[S.n];exact e2,S.lo x h1.1,(rC h1.2).1,S.fx x h1.1⟩
theorem Sit.glob(S:Sit tb k X E s)(h:uX s x=true):Gl X x/\gu x:=by unfold uX pQ at h;rw[UO,beq_iff_eq] at h;exact⟨S.gl x h.1,(rC h.2).1⟩
end
noncomputable def notStar:Expr->Bool
 | .Starred _ _=>false
 |_=>true
variable{e:Expr}
theorem aD(h:notStar e=true)(es:List Expr)(env:Env):starEach (e::es) env=(false,eval e env)::starEach es env:=by cases e<;>first|rfl|cases h
theorem dX{env:Env}{pos:Pos}:∀{es:List Expr},es.all notStar=true->(backTo pos (starEach es env)).any (·.1)=false
 |[],_=>rfl
 |e::es,h=>by rw[Vp,UO] at h;rw[aD h.1];show (false || (backTo pos (starEach es env)).any (·.1))=false;rw[dX h.2];rfl
noncomputable def kO:Expr->Bool
 | .ListComp _ _ _ _=>false
 | .SetComp _ _ _ _=>false
 | .DictComp _ _ _ _ _=>false
 |_=>true
theorem gr(h:kO e=true)(t:Option Expr)(l:Nat)(env:Env):swapsWith e t l env=pure false:=by cases e<;>first|rfl|cases h
noncomputable def gJ:Expr->Bool
 | .Set _ _ _=>false
 |_=>true
theorem gL(h:gJ e=true)(env:Env)(x:Value):foldedSetIterable e env x=pure x:=by cases e<;>first|rfl|cases h
noncomputable def plainT:Expr->Bool
 | .UnaryOp _ _ _=>false
 | .BoolOp _ _ _=>false
 | .IfExp _ _ _ _=>false
 | .Compare _ _ _ _=>false
 |_=>true
theorem we(h:plainT e=true)(env:Env):∀I,isTrue e env I=(do let v <- I;standAt e.pos;holding [v] (truthy v)):=by intro I;cases e<;>first|rfl|cases h
noncomputable def iY:Expr->Bool
 | .Slice _ _ _ _=>false
 |_=>true
theorem wg(h:iY e=true):mM e:=by intro o i;cases e<;>first|rfl|cases h
theorem HQ(h:iY e=true):Bs e:=by intro o i;cases e<;>first|rfl|cases h
variable{op:CmpOp}
theorem iH(h:gJ e=true):behindInMarks op e=false:=by cases e<;>first|rfl|cases h
theorem yz{env:Env}:∀es:List Expr,(assignEach es env).length=es.length
 |[]=>rfl
 |e::es=>by cases e<;>(show (_::assignEach es env).length=_;rw[US,US,yz es])
theorem uW{env:Env}:∀es:List Expr,es.all notStar=true->(assignEach es env).findIdx? (·.1)=none
 |[],_=>rfl
 |e::es,h=>by
  rw[Vp,UO] at h;have j:=uW (env:=env) es h.2;have e1:assignEach (e::es) env=(false,assign e env)::assignEach es env:=by cases e<;>first|rfl|cases h.1
  rw[e1,List.findIdx?_cons];simp[j]
variable{env:Env}{es:List Expr}
theorem DU(h:notStar e=true):(assignEach (e::es) env).map (·.2)=assign e env::(assignEach es env).map (·.2):=by cases e<;>first|rfl|cases h
noncomputable def Nm(l:List (Str×Bool)):Str->Option Bool:=λc=>l.lookup c
noncomputable def P2(l:List Str):Str->Bool:=λc=>l.contains c
variable{b:Expr}{m q:Mi Rr}{pos p:Pos}
section
variable{tb:Tb}{k:Nat}{X:Cx}{E:XK}{s:Sc}
def zE(F:Expr->Option (Mi Rr)):List Expr->Option (Mi (List Rr))
 |[]=>some eP
 |e::es=>cQ (notStar e) (ah (F e) λm=>ah (zE F es) λn=>some (bZ m n))
def B6(F G:Expr->Option (Mi Rr)):List Expr->List Bool->Option (Mi (List Rr))
 |[],_=>some eP
 |e::es,b::bs=>cQ (notStar e) (ah (match b with|true=>F e|false=>G e) λm=>ah (B6 F G es bs) λn=>some (bZ m n))
 |_::_,[]=>none
def NL(m:Mi (List Rr))(n:Nat):Prop:=∀Z rs O,m Z=some (.ok rs,O)->rs.length=n
theorem kg{F:Expr->Option (Mi Rr)}(h:∀e m,F e=some m->JE X E e m):∀{es:List Expr}{m:Mi (List Rr)},zE F es=some m->JA X E es m/\NL m es.length/\es.all notStar=true
 |[],m,e=>by cases e;exact⟨AL,B5,rfl⟩
 |a::es,m,e=>by obtain⟨h1,e⟩:=aq e;obtain⟨V,e1,e⟩:=aa e;obtain⟨N,e2,e⟩:=aa e;cases e;obtain⟨s,q,Y⟩:=kg h e2;exact⟨xC (h _ _ e1) s (aD h1 _ _),xf q,by rw[Vp,h1,Y];rfl⟩
theorem jk{F G:Expr->Option (Mi Rr)}(h:∀e m,F e=some m->JE X E e m)(g:∀e m,G e=some m->JE X E e m):∀{es:List Expr}{bs:List Bool}{m:Mi (List Rr)},B6 F G es bs=some m->JA X E es m/\NL m es.length/\es.all notStar=true
 |[],_,m,e=>by cases e;exact⟨AL,B5,rfl⟩
 |_::_,[],m,e=>by cases e
 |a::es,b::bs,m,e=>by
  obtain⟨h1,e⟩:=aq e;obtain⟨V,e1,e⟩:=aa e;obtain⟨N,e2,e⟩:=aa e;cases e;obtain⟨s,q,Y⟩:=jk h g e2;refine⟨xC ?_ s (aD h1 _ _),xf q,by rw[Vp,h1,Y];rfl⟩;cases b
  .exact g _ _ e1
  .exact h _ _ e1
def SK(op:BoolOp)(F:Expr->Option (Mi Rr)):List Expr->Option (Mi Rr)
 |[]=>none
 |[a]=>F a
 |a::b::r=>ah (F a) λm=>ah (SK op F (b::r)) λn=>some (match op with | .And=>tf m n | .Or=>QZ m n)
theorem Bn{op:BoolOp}{F:Expr->Option (Mi Rr)}{pos:Pos}(h:∀e m,F e=some m->JE X E e m):∀{es:List Expr}{m:Mi Rr},SK op F es=some m->JE X E (.BoolOp op es pos) m
 |[],m,e=>by cases e
 |[a],m,e=>Ks (h _ _ e)
 |a::b::r,m,e=>by
  obtain⟨s,e1,e⟩:=aa e;obtain⟨N,e2,e⟩:=aa e;have i:=Bn (pos:=pos) h e2;cases op
  .cases e;exact My (h _ _ e1) i
  .cases e;exact RI (h _ _ e1) i
def Ta(op:BoolOp)(F:Expr->Option (Mi Bool)):List Expr->Option (Mi Bool)
 |[]=>none
 |[a]=>F a
 |a::b::r=>ah (F a) λm=>ah (Ta op F (b::r)) λn=>some (match op with | .And=>oe m n | .Or=>Ae m n)
theorem CV{op:BoolOp}{F:Expr->Option (Mi Bool)}{pos:Pos}(h:∀e m,F e=some m->JT X E e m):∀{es:List Expr}{m:Mi Bool},Ta op F es=some m->JW X E (.BoolOp op es pos) m
 |[],m,e=>by cases e
 |[a],m,e=>by cases op;exact Im (h _ _ e);exact Li (h _ _ e)
 |a::b::r,m,e=>by
  obtain⟨s,e1,e⟩:=aa e;obtain⟨N,e2,e⟩:=aa e;have i:=CV (pos:=pos) h e2;cases op
  .cases e;exact M9 (h _ _ e1) i
  .cases e;exact Rm (h _ _ e1) i
noncomputable def QO(s:Sc):Expr->Bool
 | .Name x _=>s.di.contains x
 |_=>false
def QP(s:Sc):Expr->Bool
 | .List es _=>es.all (QO s)
 |_=>false
def yF(s:Sc):Expr->Bool
 | .Name x _=>s.di.contains x
 | .Subscript o _ _=>QP s o
 | .Dict _ _ _=>true
 | .List es _=>es.all (QO s)
 |_=>false
def TV(s:Sc)(op:CmpOp)(a b:Expr)(m n:Mi Rr):Option (Mi Rr):=match op with
 | .Eq=>cQ (!s.hd) (some (az dP m n))
 | .NotEq=>cQ (!s.hd) (some (az (match yF s a&&yF s b with|true=>dJ iy kF|false=>iy) m n))
 | .Lt=>some (az u0 m n)
 | .LtE=>some (az RN m n)
 | .Gt=>some (az G8 m n)
 | .GtE=>some (az NX m n)
 | .Is=>some (az (EJ false) m n)
 | .IsNot=>some (az (EJ true) m n)
 | .In=>cQ (!s.hd&&gJ b) (some (az (dJ (dJ (jF false) (gE false)) (qK false)) m n))
 | .NotIn=>cQ (!s.hd&&gJ b) (some (az (dJ (dJ (jF true) (gE true)) (qK true)) m n))
theorem Lj(S:Sit tb k X E s){a:Expr}{n:Mi Rr}(h:TV s op a b m n=some q)(ha:JE X E a m)(d:JE X E b n):JE X E (.Compare a [op] [b] pos) q/\JT X E (.Compare a [op] [b] pos) (ao q):=by
 cases op
 case Eq=>obtain⟨h1,h⟩:=aq h;have f:=(S.rm (by simpa using h1)).units;cases h;exact⟨OR f ha d,PK f ha d⟩
 case NotEq=>
  obtain⟨h1,h⟩:=aq h;have f:=(S.rm (by simpa using h1)).units;cases e:yF s a&&yF s b<;>simp only[e] at h<;>cases h
  .exact⟨OP f ha d,Ox f ha d⟩
  .exact⟨Kk f ha d,K4 f ha d⟩
 case Lt=>cases h;exact⟨O0 ha d,QC ha d⟩
 case LtE=>cases h;exact⟨Pf ha d,Qz ha d⟩
 case Gt=>cases h;exact⟨O1 ha d,OS ha d⟩
 case GtE=>cases h;exact⟨P4 ha d,RH ha d⟩
 case Is=>cases h;exact⟨Qf ha d,O6 ha d⟩
 case IsNot=>cases h;exact⟨Gy ha d,GS ha d⟩
 case In=>obtain⟨h1,h⟩:=aq h;rw[UO] at h1;have f:=tH (S.rm (by simpa using h1.1));cases h;exact⟨Nt f ha d (iH h1.2),Ke f ha d (iH h1.2)⟩
 case NotIn=>obtain⟨h1,h⟩:=aq h;rw[UO] at h1;have f:=tH (S.rm (by simpa using h1.1));cases h;exact⟨Gz f ha d (iH h1.2),F3 f ha d (iH h1.2)⟩
def Tn:CmpOp->Option (Int->Int->Bool)
 | .Lt=>some To
 | .LtE=>some OC
 | .Gt=>some T4
 | .GtE=>some TB
 |_=>none
theorem Dm{p:Int->Int->Bool}(h:Tn op=some p):∃r,eu X (compareOp op) r/\∀i j H Q,Q (.bl (p i j)) H->r (.int i) (.int j) H Q:=by
 cases op<;>first|(cases h;done)|skip
 .cases h;exact⟨_,yK,Iz⟩
 .cases h;exact⟨_,yC,IX⟩
 .cases h;exact⟨_,CZ,Rh⟩
 .cases h;exact⟨_,Cu,Qa⟩
def SJ(f:Str):Option (A->Option Rr):=
 if f==("len" : Str) then some kl else if f==("abs" : Str) then some zG else if f==("int" : Str) then some Fd else if f==("tuple" : Str) then some fB else
 if f==("list" : Str) then some DE else if f==("sorted" : Str) then some (sG bX cC) else if f==("dict" : Str) then some (sG jX iS) else
 if f==("all" : Str) then some (pK λbs=>bs.all id) else none
theorem bB(S:Sit tb k X E s)(h:HE.contains x=true):X.mg x=none:=S.gd.bl x (Wq.mp h)
theorem NM(S:Sit tb k X E s){f:Str}{g:A->Option Rr}{a:Expr}(h:SJ f=some g)(r:uX s f=true)(t:s.hd=false)(P:notStar a=true)(ha:JE X E a m):JE X E (.Call (.Name f p) [a] [] pos) (dg g m):=by
 obtain⟨Z,b⟩:=S.glob r;have hc:=S.cm t;have h1:=aD P [] X.env;have h2:(backTo pos (starEach [] X.env)).any (·.1)=false:=rfl;unfold SJ at h;split at h
 .rename_i z;rw[beq_iff_eq] at z;subst z;cases h;exact uI Cw Mz Z (bB S (by decide +kernel)) J6 ha (by decide +kernel) b h1 h2
 split at h
 .rename_i z;rw[beq_iff_eq] at z;subst z;cases h;exact uI Bf MW Z (bB S (by decide +kernel)) Nk ha (by decide +kernel) b h1 h2
 split at h
 .rename_i z;rw[beq_iff_eq] at z;subst z;cases h;exact ym yX Nn Z (bB S (by decide +kernel)) B8 ha (by decide +kernel) b h1 h2
 split at h
 .rename_i z;rw[beq_iff_eq] at z;subst z;cases h;exact ym pA CO Z (bB S (by decide +kernel)) um ha (by decide +kernel) b h1 h2
 split at h
 .rename_i z;rw[beq_iff_eq] at z;subst z;cases h;exact ym qT Hn Z (bB S (by decide +kernel)) xV ha (by decide +kernel) b h1 h2
 split at h
 .rename_i z;rw[beq_iff_eq] at z;subst z;cases h;exact uI (rX hc) z5 Z (bB S (by decide +kernel)) qG ha (by decide +kernel) b h1 h2
 split at h
 .rename_i z;rw[beq_iff_eq] at z;subst z;cases h;exact ym (vW hc) Az Z (bB S (by decide +kernel)) xD ha (by decide +kernel) b h1 h2
 split at h
 .rename_i z;rw[beq_iff_eq] at z;subst z;cases h;exact uI (Bm hc) L6 Z (bB S (by decide +kernel)) Cs ha (by decide +kernel) b h1 h2
 .cases h
def RO(f:Str):Option (A->A->Option Rr):=if f==("max" : Str) then some Bo else if f==("min" : Str) then some Cj else none
theorem BR(S:Sit tb k X E s){f:Str}{g:A->A->Option Rr}{a:Expr}{n:Mi Rr}(h:RO f=some g)(r:uX s f=true)(t:s.hd=false)(P:notStar a=true)(w:notStar b=true)(ha:JE X E a m)(d:JE X E b n):JE X E (.Call (.Name f p) [a,b] [] pos) (EE g m n):=by
 obtain⟨Z,q⟩:=S.glob r;have hc:=S.cm t;have h1:=aD P [b] X.env;have h3:=aD w [] X.env;have h2:(backTo pos (starEach [b] X.env)).any (·.1)=false:=dX (by rw[Vp,w];rfl);unfold RO at h;split at h
 .rename_i z;rw[beq_iff_eq] at z;subst z;cases h;exact Jv (zL hc) KI Z (bB S (by decide +kernel)) LQ ha d (by decide +kernel) q h1 h3 h2
 split at h
 .rename_i z;rw[beq_iff_eq] at z;subst z;cases h;exact Jv (zu hc) KW Z (bB S (by decide +kernel)) ME ha d (by decide +kernel) q h1 h3 h2
 .cases h
noncomputable def Td(x:Str):Option Ty:=if x==("int" : Str) then some .int else if x==("bool" : Str) then some .bool else if x==("str" : Str) then some .str else if x==("tuple" : Str) then some .tuple else if x==("list" : Str) then some .list else if x==("dict" : Str) then some .dict else none
theorem K3{T:Ty}(h:Td x=some T):bootBuiltins x=some (.type T.n)/\HE.contains x=true/\x ≠ "__name__" := by
 unfold Td at h;split at h
 .rename_i z;rw[beq_iff_eq] at z;subst z;cases h;exact⟨B8,by decide +kernel,by decide +kernel⟩
 split at h
 .rename_i z;rw[beq_iff_eq] at z;subst z;cases h;exact⟨Gn,by decide +kernel,by decide +kernel⟩
 split at h
 .rename_i z;rw[beq_iff_eq] at z;subst z;cases h;exact⟨Mf,by decide +kernel,by decide +kernel⟩
 split at h
 .rename_i z;rw[beq_iff_eq] at z;subst z;cases h;exact⟨um,by decide +kernel,by decide +kernel⟩
 split at h
 .rename_i z;rw[beq_iff_eq] at z;subst z;cases h;exact⟨xV,by decide +kernel,by decide +kernel⟩
 split at h
 .rename_i z;rw[beq_iff_eq] at z;subst z;cases h;exact⟨xD,by decide +kernel,by decide +kernel⟩
 .cases h
end
structure Tr where
 E:Sc->Expr->Option (Mi Rr)
 T:Sc->Expr->Option (Mi Bool)
 I:Sc->Expr->Expr->Option (Mi (List A))
structure bP(tb:Tb)(k:Nat)(r:Tr):Prop where
 E:∀{X E s e m},Sit tb k X E s->r.E s e=some m->JE X E e m
 T:∀{X E s e m},Sit tb k X E s->r.T s e=some m->JT X E e m
 I:∀{X E s tg e m},Sit tb k X E s->r.I s tg e=some m->JI X E tg e m
def Aq(s:Sc)(lo:Nat):Nat->Expr->Option Mg
 |0,_=>none
 |d+1,.Name x _=>ah (fJ s x) λi=>cQ (Xl lo i) (some (aH i))
 |d+1,.Tuple es _ _=>cQ (!s.hd) (ah (trGs (Aq s lo d) es) λH=>some (cY es.length H))
 |_+1,_=>none
where trGs (F:Expr->Option Mg):List Expr->Option ED
 |[]=>some dw
 |e::es=>cQ (notStar e) (ah (F e) λg=>ah (trGs F es) λgs=>some (aE g gs))
variable{r:Tr}{tg:Expr}
section
variable{tb:Tb}{k:Nat}{X:Cx}{E:XK}{s:Sc}
theorem yq{lo:Nat}{F:Expr->Option Mg}(h:∀e g,F e=some g->JG X lo e g):∀{es:List Expr}{H:ED},Aq.trGs F es=some H->Ro X lo es H/\es.all notStar=true
 |[],H,e=>by cases e;exact⟨Gu,rfl⟩
 |a::es,H,e=>by obtain⟨h1,e⟩:=aq e;obtain⟨g,e1,e⟩:=aa e;obtain⟨b,e2,e⟩:=aa e;cases e;obtain⟨s,q⟩:=yq h e2;exact⟨CT (h _ _ e1) s (λx y=>Bt x y (DU h1)),by rw[Vp,h1,q];rfl⟩
theorem oU(S:Sit tb k X E s){lo:Nat}:∀{d:Nat}{e:Expr}{g:Mg},Aq s lo d e=some g->JG X lo e g
 |0,e,g,h=>by cases h
 |d+1,e,g,h=>by
  unfold Aq at h;split at h
  .rename_i a;cases a
  .rename_i a;cases a;obtain⟨i,e1,h⟩:=aa h;obtain⟨h1,h⟩:=aq h;cases h;obtain⟨G,l,O,B⟩:=S.fJ e1;exact Iv (by rw[S.n];exact S.nd) G l (VP h1) B
  .rename_i a;cases a;obtain⟨h0,h⟩:=aq h;obtain⟨H,e1,h⟩:=aa h;cases h;obtain⟨o,q⟩:=yq (λe g h=>oU S h) e1;have hc:=S.cm (by simpa using h0);exact Nj hc o (yz _) (uW _ q)
  .cases h
noncomputable def TY:Expr->Bool
 | .Name _ _=>true
 |_=>false
def Ny(r:Tr)(s:Sc)(tg:Expr):Expr->Option (Mi (List A))
 | .Call (.Name f p) [a] [] pos=>match f==("range" : Str) with
  |true=>cQ (uX s f&&notStar a) (ah (r.E s a) λm=>some (fz m))
  |false=>ah (r.E s (.Call (.Name f p) [a] [] pos)) λm=>some (bU m)
 | .Call (.Name f p) [a,b] [] pos=>match f==("range" : Str) with
  |true=>cQ (uX s f&&notStar a&&notStar b) (ah (r.E s a) λm=>ah (r.E s b) λn=>some (uq m n))
  |false=>ah (r.E s (.Call (.Name f p) [a,b] [] pos)) λm=>some (bU m)
 |e=>ah (r.E s e) λm=>some (bU m)
theorem HD(R:bP tb k r)(S:Sit tb k X E s){m:Mi (List A)}(h:Ny r s tg e=some m):JI X E tg e m:=by
 unfold Ny at h;split at h
 .split at h
  .rename_i z;rw[beq_iff_eq] at z;subst z;obtain⟨h1,h⟩:=aq h;rw[UO] at h1;obtain⟨V,e1,h⟩:=aa h;cases h;exact Fz (S.glob h1.1).1 (bB S (by decide +kernel)) (R.E S e1) (aD h1.2 _ _) (aD h1.2 _ _)
  .obtain⟨V,e1,h⟩:=aa h;cases h;exact vT (R.E S e1)
 .split at h
  .rename_i z;rw[beq_iff_eq] at z;subst z;obtain⟨h1,h⟩:=aq h;rw[UO,UO] at h1;obtain⟨V,e1,h⟩:=aa h;obtain⟨N,e2,h⟩:=aa h;cases h;have k1:=aD h1.1.2;have k2:=aD h1.2;exact Ir (S.glob h1.1.1).1 (bB S (by decide +kernel)) (R.E S e1) (R.E S e2) (by rw[k1,k2];rfl) (by rw[k2];rfl) (k1 _ _) (k2 _ _)
  .obtain⟨V,e1,h⟩:=aa h;cases h;exact vT (R.E S e1)
 .obtain⟨V,e1,h⟩:=aa h;cases h;exact vT (R.E S e1)
noncomputable def Ap{α:Type}(a b:Option α):Option α:=match a with
 |some x=>some x
 |none=>b
theorem cz{a b:Option α}{x:α}(h:Ap a b=some x):a=some x\/b=some x:=by
 cases a with
 |none=>exact .inr h
 |some y=>exact .inl h
def Tc(r:Tr)(s:Sc)(tg e:Expr):Option (Mi (List A)):=Ap (r.I s tg e) (Ny r s tg e)
theorem Cq(R:bP tb k r)(S:Sit tb k X E s){m:Mi (List A)}(h:Tc r s tg e=some m):JI X E tg e m:=by
 rcases cz h with h|h
 .exact R.I S h
 .exact HD R S h
noncomputable def RQ:Nat->Expr->List Str
 |0,_=>[]
 |_+1,.Name x _=>[x]
 |d+1,.Tuple es _ _=>es.flatMap (RQ d)
 |_+1,_=>[]
noncomputable def MS(N own:List Str):List Str:=N.map (λn=>if own.contains n then n++(" (of the def)" : Str) else n)++own
def qf(s:Sc)(N:List Str)(own:Nat)(sc:Scope):Bool:=
 sc.kind==.function&&sc.names.all (λy=>y.2 != .cell)&&sc.names.all (λy=>y.2 != .local || sc.names.lookup y.1==some .local)&&N.length==s.N.length+own&&decide N.Nodup &&
 ((N.take s.N.length).zip s.N).all (λp=>p.1==p.2 || sc.names.lookup p.1==none)&&(N.take s.N.length).all (λn=>sc.names.lookup n != some .local)&&sc.names.all (λy=>y.2 != .free || s.nm.lookup y.1==some .cell)
def tN(s:Sc)(N:List Str)(sc:Scope):Sc:={ N:=N,nm:=sc.names,di:=s.di,ca:=[],hd:=false,lv:=s.lv }
end
variable{N:List Str}{own:Nat}{elt:Expr}{gs:List Comprehension}{args:List Expr}
section
variable{tb:Tb}{k:Nat}{X:Cx}{E:XK}{s:Sc}
theorem bN{α:Type}{x:Str}{v:α}:∀{l:List (Str×α)},l.lookup x=some v->(x,v)∈l
 |(y,u)::l,h=>by
  rw[Vs] at h;split at h
  .rename_i e;cases h;rw[beq_iff_eq.mp e];exact U9
  .exact UW _ (bN h)
theorem Sit.comp(S:Sit tb k X E s){sc:Scope}(h:qf s N own sc=true)(t:s.hd=false):
  fj X.N N own sc X.env.scope/\∀cl C p H fp,Sit tb k (ib X N sc cl C p H fp) jC (tN s N sc):=by
 unfold qf at h;simp only[UO,beq_iff_eq,decide_eq_true_eq,VA,V0,bne_iff_ne,ne_eq] at h;obtain⟨⟨⟨⟨⟨⟨⟨h1,h2⟩,h3⟩,h4⟩,h5⟩,Y⟩,Z⟩,a⟩:=h;refine⟨⟨h1,h2,λy O e=>?_,by rw[S.n];exact h4,h5,by rw[S.n];exact Y,by rw[S.n];exact Z,λy O e=>?_⟩,λcl C p H fp=>?_⟩
 .rcases h3 y O with z|z
  .exact absurd e z
  .exact z
 .rcases a y O with z|z
  .exact absurd e z
  .exact .inl (S.ce _ z)
 .have loc:∀x,vO (tN s N sc) x=true->sc.names.lookup x=some .local:=λx v=>by
   unfold vO pQ tN at v;simp only[V0,beq_iff_eq] at v;rcases v with z|z
   .exact z
   .exact absurd rfl (h2 _ (bN z))
  refine⟨rfl,h5,λx v=>Cp v,λx v=>?_,λx v=>.inl (jm (loc x v)),λx v=>jm v,λx v=>absurd rfl (h2 _ (bN v)),λx v=>.inr (jm (loc x v)),λ_=>S.cm t,λ_=>S.rm t,λ_=>AA,S.gd⟩;unfold Ik pQ tN at v;simp only[V0,beq_iff_eq] at v;rcases v with (z|z)|z
  .exact .inl (jm z)
  .exact absurd rfl (h2 _ (bN z))
  .exact uU z
def Cg(r:Tr)(s:Sc):List Expr->Option (Mi Bool)
 |[]=>some bw
 |[t]=>r.T s t
 |_=>none
def sF(r:Tr)(s:Sc)(elt:Expr)(gs:List Comprehension)(sc:Scope):Option (Mi Rr):=match gs with
 |[g]=>
  let own:=RQ 9 g.target
  let N:=MS s.N own
  let s':=tN s N sc
  cQ (!s.hd&&g.is_async==0&&gJ g.iter&&qf s N own.length sc) (ah (Tc r s g.target g.iter) λH=>ah (Aq s' s.N.length 9 g.target) λG=>ah (Cg r s' g.ifs) λmt=>ah (r.E s' elt) λV=>some (cA own.length H G mt V))
 |_=>none
theorem rO(R:bP tb k r)(S:Sit tb k X E s){ifs:List Expr}{m:Mi Bool}(h:Cg r s ifs=some m):JF X E ifs m:=by
 unfold Cg at h;split at h
 .cases h;exact Ng
 .exact L7 (R.T S h)
 .cases h
theorem qI(R:bP tb k r)(S:Sit tb k X E s){sc:Scope}(h:sF r s elt gs sc=some m):
  s.hd=false/\∃N own tg iter ifs a G mt V,gs=[⟨tg,iter,ifs,0⟩]/\m=cA own a G mt V/\fj X.N N own sc X.env.scope/\JI X E tg iter a/\(∀cl C p H fp,JG (ib X N sc cl C p H fp) X.N.length tg G) /\
   (∀cl C p H fp,JF (ib X N sc cl C p H fp) jC ifs mt)/\(∀cl C p H fp,JE (ib X N sc cl C p H fp) jC elt V)/\∀x,foldedSetIterable iter X.env x=pure x:=by
 unfold sF at h;split at h
 .rename_i g;obtain⟨tg,iter,ifs,B⟩:=g;obtain⟨h0,h⟩:=aq h;simp only[UO,beq_iff_eq,Vf] at h0;obtain⟨⟨⟨h1,rfl⟩,h3⟩,h4⟩:=h0;obtain⟨a,e1,h⟩:=aa h;obtain⟨G,e2,h⟩:=aa h;obtain⟨mt,e3,h⟩:=aa h;obtain⟨V,e4,h⟩:=aa h;cases h;obtain⟨A,b⟩:=S.comp h4 h1;exact⟨h1,_,_,tg,iter,ifs,a,G,mt,V,rfl,rfl,A,Cq R S e1,λcl C p H fp=>by rw[S.n];exact oU (b cl C p H fp) e2,λcl C p H fp=>rO R (b cl C p H fp) e3,λcl C p H fp=>R.E (b cl C p H fp) e4,gL h3 _⟩
 .cases h
def S4(F:Expr->Option (Mi Rr)):Option Expr->Option (Mi (Option Int))
 |none=>some ji
 |some e=>ah (F e) λm=>some (ig m)
theorem AS{F:Expr->Option (Mi Rr)}(h:∀e m,F e=some m->JE X E e m){o:Option Expr}{m:Mi (Option Int)}(e:S4 F o=some m):JP X E o m:=by
 cases o with
 |none=>cases e;exact E4
 |some a=>obtain⟨s,e1,e⟩:=aa e;cases e;exact GL (h _ _ e1)
def D8(r:Tr)(s:Sc)(a:Expr):Expr->Option (Mi Rr)
 | .Slice lo hi none _=>ah (r.E s a) λm=>ah (S4 (r.E s) lo) λw=>ah (S4 (r.E s) hi) λY=>some (F2 m w Y)
 |b=>cQ (iY b&&!s.hd) (ah (r.E s a) λm=>ah (r.E s b) λn=>some (az (dJ vG iC) m n))
theorem Bq(R:bP tb k r)(S:Sit tb k X E s){a:Expr}(h:D8 r s a b=some m):JE X E (.Subscript a b pos) m:=by
 unfold D8 at h;split at h
 .obtain⟨V,e1,h⟩:=aa h;obtain⟨N,e2,h⟩:=aa h;obtain⟨x,e3,h⟩:=aa h;cases h;exact OD (R.E S e1) (AS (λ_ _=>R.E S) e2) (AS (λ_ _=>R.E S) e3)
 .obtain⟨h0,h⟩:=aq h;simp only[UO,Vf] at h0;obtain⟨V,e1,h⟩:=aa h;obtain⟨N,e2,h⟩:=aa h;cases h;exact Pc (tH (S.rm h0.2)) (R.E S e1) (R.E S e2) (wg h0.1) (HQ h0.1)
def Og(r:Tr)(s:Sc):List Expr->Option (Mi (List Str))
 |[]=>some (fk [])
 | .Constant (.str x) _ _::es=>ah (Og r s es) λn=>some (mJ (mC (.str x)) n)
 | .FormattedValue e (-1) none _::es=>ah (r.E s e) λm=>ah (Og r s es) λn=>some (mJ (MP m) n)
 |_=>none
theorem vA{r:Tr}(R:bP tb k r)(S:Sit tb k X E s):∀{es:List Expr}{m:Mi (List Str)},Og r s es=some m->JJ X E es m
 |[],m,h=>by cases h;exact Kg
 |e::es,m,h=>by
  unfold Og at h;split at h
  .rename_i a;cases a
  .rename_i a;cases a;obtain⟨n,e1,h⟩:=aa h;cases h;exact xj Dh (vA R S e1)
  .rename_i a;cases a;obtain⟨V,e1,h⟩:=aa h;obtain⟨n,e2,h⟩:=aa h;cases h;exact xj (QM (R.E S e1)) (vA R S e2)
  .cases h
def Md(r:Tr)(s:Sc):List Expr->Option (Mi Rr)
 |a::b::es=>cQ (Xl (es.length+2) 100) (ah (Og r s (a::b::es)) λm=>some (Kw m))
 |_=>none
theorem HI(R:bP tb k r)(S:Sit tb k X E s)(h:Md r s es=some m):JE X E (.JoinedStr es pos) m:=by
 unfold Md at h;split at h
 .obtain⟨h0,h⟩:=aq h;obtain⟨V,e1,h⟩:=aa h;cases h;exact Qd (vA R S e1) (by have:=VP h0;simpa using this)
 .cases h
noncomputable def Us(f:Str):Bool:=match f.cps[0]? with
 |some c=>Xl 65 c&&Xl c 90
 |none=>false
def Kc:Expr->Bool
 | .ListComp _ _ _ _=>true
 | .List _ _=>true
 | .Dict _ _ _=>true
 | .BinOp _ .Add _ _=>true
 | .Subscript _ (.Slice _ _ _ _) _=>true
 | .Call (.Name f _) _ _ _=>f==("list" : Str) || f==("sorted" : Str) || f==("dict" : Str) || Us f
 | .Call (.Attribute _ _ _) _ _ _=>true
 |_=>false
def NZ(r:Tr)(s:Sc)(e:Expr):Option (Mi Rr):=match e with
 | .Name x _=>match s.lv.contains x with
  |true=>r.E s e
  |false=>match slot s x with
   |some i=>some (aj i)
   |none=>r.E s e
 |e=>match Kc e with
  |true=>ah (r.E s e) λm=>some (km m)
  |false=>r.E s e
theorem lE(R:bP tb k r)(S:Sit tb k X E s)(h:NZ r s e=some m):JE X E e m:=by
 unfold NZ at h;split at h
 .split at h
  .exact R.E S h
  split at h
  .rename_i e1;cases h;obtain⟨G,l,O,B⟩:=S.slot e1;exact Ge G l O B
  .exact R.E S h
 .split at h
  .obtain⟨V,e1,h⟩:=aa h;cases h;exact RJ (R.E S e1)
  .exact R.E S h
def K0(tb:Tb)(r:Tr)(s:Sc)(fi:FI)(args:List Expr):Option (Mi (List Rr)):=cQ (args.length+(Al fi args.length).length==fi.n) (B6 (r.E s) (NZ r s) args fi.mu)
def CB(tb:Tb)(r:Tr)(s:Sc)(fi:FI)(args:List Expr):Option (Mi (List Rr)):=cQ (args.length+1+(Al fi (args.length+1)).length==fi.n) (B6 (r.E s) (NZ r s) args (fi.mu.drop 1))
def AY(tb:Tb)(r:Tr)(s:Sc)(f:Str):List Expr->Option (Mi Rr)
 |[]=>none
 |a::as=>ah (tb.ini.lookup f) λfi=>cQ (!s.hd) (ah (CB tb r s fi (a::as)) λm=>some (kC f fi.m (Al fi ((a::as).length+1)) m))
def Ju(tb:Tb)(r:Tr)(s:Sc)(a:Expr)(x:Str):Option (Mi Rr):=match Td x with
 |some T=>ah (r.E s a) λm=>some (dg (oH T) m)
 |none=>match a with
  | .Name y _=>cQ (s.ca.contains y) (ah (tb.kit.lookup x) λl=>ah (r.E s a) λm=>some (dg (hJ (Nm l)) m))
  |_=>none
def CF(tb:Tb)(s:Sc):List Expr->Option (List (List (Str×Bool)))
 |[]=>some []
 | .Name x _::es=>cQ (uX s x) (ah (tb.kit.lookup x) λl=>ah (CF tb s es) λh=>some (l::h))
 |_=>none
theorem wU(S:Sit tb k X E s):∀{es:List Expr}{Z:List (List (Str×Bool))},CF tb s es=some Z->∃a,PA X es (T8 a)/\a.all eJ=true/\a.length=es.length/\∀c C b,lN Z c=some b->X.mg c=some (.ref C)->(Z≠[]->gU X.K C)/\V9 X.K (.ref C) (a.map ir)=some b
 |[],Z,h=>by cases h;exact⟨[],dq,rfl,rfl,λc C b e _=>⟨λz=>absurd rfl z,e⟩⟩
 |e::es,Z,h=>by
  unfold CF at h;split at h
  .rename_i U;cases U
  .rename_i x L Q U;cases U;obtain⟨r,h⟩:=aq h;obtain⟨l,e1,h⟩:=aa h;obtain⟨q,e2,h⟩:=aa h;cases h;obtain⟨a,J,i,v,w⟩:=wU S e2;obtain⟨u,cv,R,c2,p,G⟩:=S.gd.kt _ _ e1;obtain⟨P,n⟩:=S.glob r;have B:PE X (.Name x L) (tC cv):=by
    rcases p with p|⟨p,D,H⟩
    .exact rK P p c2 n
    .exact qM P p D c2 H n
   refine⟨cv::a,bu B J rfl,by rw[Vp,R,i];rfl,by rw[US,US,v],λc C b y hm=>?_⟩;unfold lN at y;split at y
   .rename_i T;cases y;obtain⟨O,Y⟩:=G c C true T hm;exact⟨λ_=>O,by rw[U3,V9,Y]⟩
   .rename_i T;obtain⟨O,Y⟩:=G c C false T hm;exact⟨λ_=>O,by rw[U3,V9,Y];exact(w c C b y hm).2⟩
   .cases y
  .cases h
def JN(tb:Tb)(r:Tr)(s:Sc)(a:Expr)(es:List Expr):Option (Mi Rr):=match a,es with
 | .Name y _,e::es=>cQ (s.ca.contains y&&Xl es.length 100) (ah (CF tb s (e::es)) λh=>ah (r.E s a) λm=>some (dg (hJ (lN h)) m))
 |_,_=>none
def DF(tb:Tb)(r:Tr)(s:Sc)(f:Str)(args:List Expr):Option (Mi Rr):=cQ (uX s f) (match tb.fns.lookup f with
 |some fi=>match args with
  |[]=>none
  |a::as=>match s.hd with
   |true=>none
   |false=>ah (K0 tb r s fi (a::as)) λm=>some (fq fi.m (Al fi (a::as).length) m)
 |none=>match tb.ini.lookup f with
 |some _=>AY tb r s f args
 |none=>match args with
  |[a]=>cQ (notStar a&&!s.hd) (ah (SJ f) λg=>ah (r.E s a) λm=>some (dg g m))
  |[a,.Name x p]=>match f==("isinstance" : Str) with
   |true=>cQ (notStar a&&uX s x) (Ju tb r s a x)
   |false=>cQ (notStar a&&!s.hd) (ah (RO f) λg=>ah (r.E s a) λm=>ah (r.E s (.Name x p)) λn=>some (EE g m n))
  |[a,.Tuple es _ _]=>cQ (notStar a&&f==("isinstance" : Str)) (JN tb r s a es)
  |[a,b]=>cQ (notStar a&&notStar b&&!s.hd) (ah (RO f) λg=>ah (r.E s a) λm=>ah (r.E s b) λn=>some (EE g m n))
  | _=>none)
theorem z9(R:bP tb k r)(S:Sit tb k X E s){f:Str}(h:DF tb r s f args=some m):JE X E (.Call (.Name f p) args [] pos) m:=by
 have h':=aq h;clear h;obtain⟨K,h⟩:=h';split at h
 .rename_i fi B;split at h
  .cases h
  .rename_i a as;split at h
   .cases h
   rename_i t;obtain⟨ma,e1,h⟩:=aa h;cases h;obtain⟨h1,e1⟩:=aq e1;obtain⟨o,v,w⟩:=jk (λ_ _=>R.E S) (λ_ _=>lE R S) e1;obtain⟨I,fd,ps,F,hm,hk,d⟩:=S.gd.fn f fi B;obtain⟨ds,dvs,U,y,G⟩:=d.of (a::as).length;have x:=w;rw[Vp,UO] at x;exact FL F (S.rm t) (S.glob K).1 hm hk U y G (S.ps t) o (vD v (by rw[beq_iff_eq] at h1;exact h1)) (S.glob K).2 (aD x.1 _ _) (dX x.2)
 split at h
 .unfold AY at h;split at h
  .cases h
  .rename_i a as;obtain⟨fi,B,h⟩:=aa h;obtain⟨t,h⟩:=aq h;have t:s.hd=false:=by simpa using t
   obtain⟨ma,e1,h⟩:=aa h;cases h;obtain⟨h1,e1⟩:=aq e1;rw[beq_iff_eq] at h1;obtain⟨o,v,w⟩:=jk (λ_ _=>R.E S) (λ_ _=>lE R S) e1;obtain⟨C,I,fd,ps,j,N,F,hm,hk,d⟩:=S.gd.im f fi B;obtain⟨ds,dvs,U,y,G⟩:=d.of ((a::as).length+1);have x:=w;rw[Vp,UO] at x;exact Gj hk F ((S.rm t).mono N) (S.glob K).1 hm U y G (S.ps t) o (λZ rs O q=>by rw[v Z rs O q];exact h1) (S.glob K).2 (aD x.1 _ _) (dX x.2)
 .split at h
  .obtain⟨h0,h⟩:=aq h;simp only[UO,Vf] at h0;obtain⟨g,e1,h⟩:=aa h;obtain⟨V,e2,h⟩:=aa h;cases h;exact NM S e1 K h0.2 h0.1 (R.E S e2)
  .split at h
   .rename_i z;rw[beq_iff_eq] at z;subst z;obtain⟨h0,h⟩:=aq h;simp only[UO] at h0;obtain⟨Q,Y⟩:=S.glob K;obtain⟨P,n⟩:=S.glob h0.2;unfold Ju at h;split at h
    .rename_i T J;obtain⟨V,e2,h⟩:=aa h;cases h;obtain⟨A,i,e⟩:=K3 J;exact Mp T Q (bB S (by decide +kernel)) fO P (bB S i) A (R.E S e2) (by decide +kernel) Y e n (aD h0.1 _ _)
    .split at h
     .obtain⟨_,h⟩:=aq h;obtain⟨l,e1,h⟩:=aa h;obtain⟨V,e2,h⟩:=aa h;cases h;obtain⟨u,cv,c1,c2,L,c4⟩:=S.gd.kt _ _ e1;refine Hz (cv:=cv) Q (bB S (by decide +kernel)) fO ?_ c1 (λc C k hk hm=>c4 c C k hk hm) (R.E S e2) (by decide +kernel) Y (aD h0.1 _ _);rcases L with L|⟨L,c5,c6⟩
      .exact rK P L c2 n
      .exact qM P L c5 c2 c6 n
     .cases h
   .obtain⟨h0,h⟩:=aq h;simp only[UO,Vf] at h0;obtain⟨g,e1,h⟩:=aa h;obtain⟨V,e2,h⟩:=aa h;obtain⟨m2,e3,h⟩:=aa h;cases h;exact BR S e1 K h0.2 h0.1 rfl (R.E S e2) (R.E S e3)
  .have h':=aq h;clear h;obtain⟨h0,h⟩:=h';rw[UO,beq_iff_eq] at h0;obtain⟨hs,z⟩:=h0;subst z;obtain⟨Q,Y⟩:=S.glob K;unfold JN at h;split at h
   .have h':=aq h;clear h;obtain⟨h0,h⟩:=h';rw[UO] at h0;obtain⟨ls,e1,h⟩:=aa h;obtain⟨V,e2,h⟩:=aa h;cases h;obtain⟨cvs,p1,p2,p3,D⟩:=wU S e1;have ne:ls≠[]:=by
     intro z;subst z;unfold CF at e1;split at e1
     .rename_i q;cases q
     .obtain⟨_,e1⟩:=aq e1;obtain⟨_,_,e1⟩:=aa e1;obtain⟨_,_,e1⟩:=aa e1;cases e1
     .cases e1
    refine Gx Q (bB S (by decide +kernel)) fO p1 p2 ?_ (λc C b H hm=>⟨(D c C b H hm).1 ne,(D c C b H hm).2⟩) (R.E S e2) (by decide +kernel) Y (aD hs _ _);rw[p3,US];have:=VP h0.2;have:=jK;omega
   .cases h
  .obtain⟨h0,h⟩:=aq h;simp only[UO,Vf] at h0;obtain⟨g,e1,h⟩:=aa h;obtain⟨V,e2,h⟩:=aa h;obtain⟨m2,e3,h⟩:=aa h;cases h;exact BR S e1 K h0.2 h0.1.1 h0.1.2 (R.E S e2) (R.E S e3)
  .cases h
end
variable{o:Expr}{apos cpos:Pos}
section
variable{tb:Tb}{k:Nat}{X:Cx}{E:XK}{s:Sc}
noncomputable def p8(o:Expr):Bool:=match o with
 | .Call f args kw _=>match f with
  | .Name _ _=>!(args.isEmpty&&kw.isEmpty)
  |_=>true
 |_=>true
theorem eO(h:p8 o=true)(m:Str)(env:Env)(w:Sem Value):attributeBase o m env w=w:=by
 cases o with
 |Call f args X p=>cases f with
  |Name _ _=>cases args with
   |cons _ _=>rfl
   |nil=>cases X with
    |cons _ _=>rfl
    |nil=>cases h
  |_=>rfl
 |_=>rfl
theorem GH(h:notStar e=true)(cpos:Pos)(env:Env):((backTo cpos (starEach [e] env)).all (λx=>!x.1)&&(backToKw cpos (keywordEach [] env)).all (λx=>x.1.isSome)&&decide (([e]:List Expr).length+([]:List Keyword).length+(if ([]:List Keyword).isEmpty then 0 else 1)<30))=true:=by rw[aD h];rfl
theorem R5{f:Expr}(h:notStar e=true)(h':notStar f=true)(cpos:Pos)(env:Env):((backTo cpos (starEach [e,f] env)).all (λx=>!x.1)&&(backToKw cpos (keywordEach [] env)).all (λx=>x.1.isSome)&&decide (([e,f]:List Expr).length+([]:List Keyword).length+(if ([]:List Keyword).isEmpty then 0 else 1)<30))=true:=by rw[aD h,aD h'];rfl
theorem Oo{f:Expr}{m:Str}(h0:p8 o=true)(h:notStar e=true)(h':notStar f=true)(hl:(apos.endLine==cpos.line)=true):M2 X o m apos e f cpos:=⟨eO h0 _ _ _,R5 h h' _ _,hl,by rw[aD h,aD h'];rfl⟩
def Ka(e:Expr):Option (Expr×Str×Pos×Pos):=match e with
 | .Call f args kw cpos=>match f with
  | .Attribute o m apos=>cQ (args.isEmpty&&kw.isEmpty) (some (o,m,apos,cpos))
  |_=>none
 |_=>none
theorem yU{m:Str}(h:Ka e=some (o,m,apos,cpos)):e=.Call (.Attribute o m apos) [] [] cpos:=by
 unfold Ka at h;split at h
 .rename_i f args X c;split at h
  .obtain⟨h0,h⟩:=aq h;rw[UO,VG,VG] at h0;cases h;rw[h0.1,h0.2]
  .cases h
 .cases h
def Gw(e:Expr):Option (Expr×Str×Pos×Expr×Pos):=match e with
 | .Call f args kw cpos=>match f with
  | .Attribute o m apos=>match args with
   |[a]=>cQ (kw.isEmpty&&notStar a) (some (o,m,apos,a,cpos))
   |_=>none
  |_=>none
 |_=>none
theorem qv{a:Expr}{m:Str}(h:Gw e=some (o,m,apos,a,cpos)):e=.Call (.Attribute o m apos) [a] [] cpos/\notStar a=true:=by
 unfold Gw at h;split at h
 .rename_i f args X c;split at h
  .split at h
   .obtain⟨h0,h⟩:=aq h;rw[UO,VG] at h0;cases h;rw[h0.1];exact⟨rfl,h0.2⟩
   .cases h
  .cases h
 .cases h
def NP(e:Expr):Option (Str×Pos×Expr×Pos):=match e with
 | .Call f args kw cpos=>match f with
  | .Name x p=>match args with
   |[a]=>cQ (kw.isEmpty&&notStar a) (some (x,p,a,cpos))
   |_=>none
  |_=>none
 |_=>none
theorem zA{a:Expr}(h:NP e=some (x,p,a,cpos)):e=.Call (.Name x p) [a] [] cpos/\notStar a=true:=by
 unfold NP at h;split at h
 .rename_i f args X c;split at h
  .split at h
   .obtain⟨h0,h⟩:=aq h;rw[UO,VG] at h0;cases h;rw[h0.1];exact⟨rfl,h0.2⟩
   .cases h
  .cases h
 .cases h
noncomputable def z6(e:Expr):Option (Str×Pos):=match e with
 | .Name x p=>some (x,p)
 |_=>none
theorem cq(h:z6 e=some (x,p)):e=.Name x p:=by
 unfold z6 at h;split at h
 .cases h;rfl
 .cases h
noncomputable def EU(e:Expr):Option (Expr×Comprehension×Scope):=match e with
 | .ListComp elt gs sc _=>match gs with
  |[g]=>some (elt,g,sc)
  |_=>none
 |_=>none
theorem qy{g:Comprehension}{sc:Scope}(h:EU e=some (elt,g,sc)):∃pos,e=.ListComp elt [g] sc pos:=by
 unfold EU at h;split at h
 .split at h
  .cases h;exact⟨_,rfl⟩
  .cases h
 .cases h
theorem Sit.cN(S:Sit tb k X E s){sc:Scope}{a:Nat}{G:Mg}(h:qf s N own sc=true)(t:s.hd=false)(e:Aq (tN s N sc) s.N.length a tg=some G):
  ∀cl C p H fp,JG (ib X N sc cl C p H fp) X.N.length tg G:=λcl C p H fp=>by rw[S.n];exact oU ((S.comp h t).2 cl C p H fp) e
def uA(_:Tb)(r:Tr)(s:Sc)(e:Expr):Option (Mi Rr):=ah (EU e) λ(elt,g,sc)=>ah (z6 g.iter) λ(x,_)=>ah (z6 g.target) λ_=>
   let own:=RQ 9 g.target
   let N:=MS s.N own
   let s':=tN s N sc
   cQ (s.di.contains x&&!s.hd&&g.is_async==0&&qf s N own.length sc) (ah (slot s x) λj=>ah (Aq s' s.N.length 9 g.target) λG=>ah (Cg r s' g.ifs) λmt=>ah (r.E s' elt) λV=>some (lM s9 own.length j G mt V))
theorem sP(R:bP tb k r)(S:Sit tb k X E s)(h:uA tb r s e=some q):JE X E e q:=by obtain⟨⟨elt,g,sc⟩,h1,z⟩:=aa h;clear h;obtain⟨pos,rfl⟩:=qy h1;obtain⟨tg,iter,ifs,B⟩:=g;obtain⟨⟨x,L⟩,h2,w⟩:=aa z;clear z;obtain rfl:=cq h2;obtain⟨⟨y,u⟩,h3,z⟩:=aa w;clear w;obtain rfl:=cq h3;obtain⟨h4,w⟩:=aq z;clear z;rw[UO,UO,UO,Vf,beq_iff_eq] at h4;obtain⟨⟨⟨_,t⟩,rfl⟩,h4⟩:=h4;obtain⟨j,e1,z⟩:=aa w;clear w;obtain⟨G,e2,w⟩:=aa z;clear z;obtain⟨mt,e3,z⟩:=aa w;clear w;obtain⟨V,e4,w⟩:=aa z;clear z;cases w;have b:=(S.comp h4 t).2;exact Et BJ (S.cm t) (S.comp h4 t).1 rfl (Av (let ⟨a1,a2,a3,a4⟩:=S.slot e1;eB a1 a2 a3 a4)) (S.cN h4 t e2) (λcl C p H fp=>rO R (b cl C p H fp) e3) (λcl C p H fp=>R.E (b cl C p H fp) e4) (gL rfl _)
def tK(_:Tb)(r:Tr)(s:Sc)(e:Expr):Option (Mi Rr):=ah (EU e) λ(elt,g,sc)=>ah (Ka g.iter) λ(o,m,apos,cpos)=>ah (z6 o) λ(x,_)=>ah (z6 g.target) λ_=>
   let own:=RQ 9 g.target
   let N:=MS s.N own
   let s':=tN s N sc
   cQ (m==("values" : Str)&&s.lv.contains x&&apos.endLine==cpos.line&&!s.hd&&g.is_async==0&&qf s N own.length sc) (ah (slot s x) λj=>ah (Aq s' s.N.length 9 g.target) λG=>ah (Cg r s' g.ifs) λmt=>ah (r.E s' elt) λV=>some (jQ (·.2) own.length j G mt V))
theorem t6(R:bP tb k r)(S:Sit tb k X E s)(h:tK tb r s e=some q):JE X E e q:=by obtain⟨⟨elt,g,sc⟩,h1,z⟩:=aa h;clear h;obtain⟨pos,rfl⟩:=qy h1;obtain⟨tg,iter,ifs,B⟩:=g;obtain⟨⟨o,m,apos,cpos⟩,h2,w⟩:=aa z;clear z;obtain rfl:=yU h2;obtain⟨⟨x,L⟩,h2,z⟩:=aa w;clear w;obtain rfl:=cq h2;obtain⟨⟨y,u⟩,h3,w⟩:=aa z;clear z;obtain rfl:=cq h3;obtain⟨h4,z⟩:=aq w;clear w;rw[UO,UO,UO,UO,UO,Vf] at h4;obtain⟨⟨⟨⟨⟨A,_⟩,hl⟩,t⟩,ha⟩,h4⟩:=h4;obtain rfl:=beq_iff_eq.mp A;obtain rfl:=beq_iff_eq.mp ha;obtain⟨j,e1,w⟩:=aa z;clear z;obtain⟨G,e2,z⟩:=aa w;clear w;obtain⟨mt,e3,w⟩:=aa z;clear z;obtain⟨V,e4,z⟩:=aa w;clear w;cases z;have b:=(S.comp h4 t).2;exact C9 vc (S.cm t) (S.comp h4 t).1 rfl (zN (let ⟨a1,a2,a3,a4⟩:=S.slot e1;eB a1 a2 a3 a4) (eO rfl _ _ _) hl) (S.cN h4 t e2) (λcl C p H fp=>rO R (b cl C p H fp) e3) (λcl C p H fp=>R.E (b cl C p H fp) e4) (gL rfl _)
noncomputable def QQ(e:Expr):Option (Expr×Expr):=match e with
 | .Dict ks vs _=>match ks with
  |[some k]=>match vs with
   |[v]=>some (k,v)
   |_=>none
  |_=>none
 |_=>none
theorem Ac{a:Expr}(h:QQ e=some (a,b)):∃pos,e=.Dict [some a] [b] pos:=by
 cases e<;>first|(cases h;done)|skip
 rename_i q vs pos
 match q,h with
 |[some k],h=>match vs,h with
  |[v],h=>cases h;exact⟨pos,rfl⟩
def sV(_:Tb)(r:Tr)(s:Sc)(e:Expr):Option (Mi Rr):=ah (QQ e) λ(a,b)=>ah (r.E s a) λm=>ah (r.E s b) λn=>some (lI m n)
theorem uT(R:bP tb k r)(S:Sit tb k X E s)(h:sV tb r s e=some q):JE X E e q:=by obtain⟨⟨a,b⟩,h1,g⟩:=aa h;clear h;obtain⟨pos,rfl⟩:=Ac h1;obtain⟨m,e1,g⟩:=aa g;obtain⟨n,e2,g⟩:=aa g;cases g;exact Ds (R.E S e1) (R.E S e2)
noncomputable def Rc(e:Expr):Bool:=match e with
 | .BinOp ..=>true
 |_=>false
def xk(_:Tb)(r:Tr)(s:Sc)(e:Expr):Option (Mi Rr):=ah (NP e) λ(f,_,a,_)=>cQ (f==("sorted" : Str)&&Rc a&&uX s f&&!s.hd) (ah (r.E s a) λn=>some (dg fh n))
theorem wH(R:bP tb k r)(S:Sit tb k X E s)(h:xk tb r s e=some q):JE X E e q:=by obtain⟨⟨f,p,a,cpos⟩,h1,g⟩:=aa h;clear h;obtain⟨rfl,P⟩:=zA h1;obtain⟨h2,g⟩:=aq g;simp only[UO,beq_iff_eq,Vf] at h2;obtain⟨n,e2,g⟩:=aa g;cases g;obtain⟨⟨⟨rfl,_⟩,K⟩,t⟩:=h2;exact uI qU wN (S.glob K).1 (bB S (by decide +kernel)) qG (R.E S e2) (by decide +kernel) (S.glob K).2 (aD P _ _) rfl
def AQ(_:Tb)(r:Tr)(s:Sc)(e:Expr):Option (Mi Rr):=ah (Gw e) λ(o,m,apos,a,cpos)=>cQ (m==("update" : Str)&&apos.endLine==cpos.line) (ah (z6 o) λ(x,_)=>ah (slot s x) λi=>ah (r.E s a) λn=>some (uk i n))
theorem zH(R:bP tb k r)(S:Sit tb k X E s)(h:AQ tb r s e=some q):JE X E e q:=by obtain⟨⟨o,m,apos,a,cpos⟩,h1,g⟩:=aa h;clear h;obtain⟨rfl,P⟩:=qv h1;obtain⟨h2,h⟩:=aq g;rw[UO,beq_iff_eq] at h2;obtain⟨⟨x,L⟩,h3,b⟩:=aa h;clear h;obtain rfl:=cq h3;obtain⟨i,e1,h⟩:=aa b;obtain⟨n,e2,h⟩:=aa h;obtain⟨G,l,O,B⟩:=S.slot e1;cases h;obtain⟨rfl,hl⟩:=h2;exact NI G l O B (R.E S e2) rfl (GH P _ _) hl (aD P _ _) rfl
def qt(_:Tb)(r:Tr)(s:Sc)(e:Expr):Option (Mi Rr):=ah (Gw e) λ(o,m,apos,a,cpos)=>cQ (m==("extend" : Str)&&apos.endLine==cpos.line) (ah (z6 o) λ(x,_)=>ah (slot s x) λi=>ah (r.E s a) λn=>some (iJ i (kW i n)))
theorem so(R:bP tb k r)(S:Sit tb k X E s)(h:qt tb r s e=some q):JE X E e q:=by obtain⟨⟨o,m,apos,a,cpos⟩,h1,g⟩:=aa h;clear h;obtain⟨rfl,P⟩:=qv h1;obtain⟨h2,h⟩:=aq g;rw[UO,beq_iff_eq] at h2;obtain⟨⟨x,L⟩,h3,b⟩:=aa h;clear h;obtain rfl:=cq h3;obtain⟨i,e1,h⟩:=aa b;obtain⟨n,e2,h⟩:=aa h;obtain⟨G,l,O,B⟩:=S.slot e1;cases h;obtain⟨rfl,hl⟩:=h2;exact zC G l O B (R.E S e2) rfl (GH P _ _) hl (aD P _ _) rfl
def xP(tb:Tb)(r:Tr)(s:Sc)(e:Expr):Option (Mi Rr):=Ap (uA tb r s e) (Ap (tK tb r s e) (Ap (xk tb r s e) (none)))
theorem QH(R:bP tb k r)(S:Sit tb k X E s)(h:xP tb r s e=some m):JE X E e m:=by
 rcases cz h with h|h
 .exact sP R S h
 rcases cz h with h|h
 .exact t6 R S h
 rcases cz h with h|h
 .exact wH R S h
 cases h
def xE(tb:Tb)(r:Tr)(s:Sc)(e:Expr):Option (Mi Rr):=Ap (sV tb r s e) (Ap (AQ tb r s e) (Ap (qt tb r s e) (none)))
theorem P6(R:bP tb k r)(S:Sit tb k X E s)(h:xE tb r s e=some m):JE X E e m:=by
 rcases cz h with h|h
 .exact uT R S h
 rcases cz h with h|h
 .exact zH R S h
 rcases cz h with h|h
 .exact so R S h
 cases h
noncomputable def xT(tb:Tb)(r:Tr)(s:Sc)(e:Expr):Option (Mi Bool):=none
theorem Pe(R:bP tb k r)(S:Sit tb k X E s){m:Mi Bool}(h:xT tb r s e=some m):JT X E e m:=by cases h
noncomputable def xI(tb:Tb)(r:Tr)(s:Sc)(tg e:Expr):Option (Mi (List A)):=none
theorem OQ(R:bP tb k r)(S:Sit tb k X E s){m:Mi (List A)}(h:xI tb r s tg e=some m):JI X E tg e m:=by cases h
end
variable{mn:Str}
section
variable{tb:Tb}{k:Nat}{X:Cx}{E:XK}{s:Sc}
def Pr(s:Sc)(o:Expr)(m:Str):Option (Mi Rr):=match o with
 | .Name x _=>ah (slot s x) λi=>if m==("clear" : Str) then some (v8 i) else if m==("pop" : Str) then some (vS i) else none
 |_=>none
def Q8(r:Tr)(s:Sc)(o:Expr)(m:Str)(e:Expr):Option (Mi Rr):=
 if m==("append" : Str) then (match o with
  | .Name x _=>ah (slot s x) λi=>ah (r.E s e) λn=>some (iJ i (dN i n))
  | _=>none)
 else if m==("join" : Str) then ah (r.E s o) λa=>ah (r.E s e) λn=>some (Oa lh a n)
 else none
noncomputable def RE:Expr->Bool
 | .Name x _=>x==("self" : Str)
 |_=>false
def BC(r:Tr)(s:Sc)(fi:FI)(o:Expr):Option (Mi Rr):=match RE o || fi.mu.headD true with
 |true=>r.E s o
 |false=>NZ r s o
def vI(tb:Tb)(r:Tr)(s:Sc)(o:Expr)(m:Str)(args:List Expr)(c:Str)(fi:FI):Option (Mi Rr):=cQ (!s.hd&&Xl args.length 20) (ah (BC r s fi o) λmo=>ah (CB tb r s fi args) λma=>some (fq fi.m (Al fi (args.length+1)) (bZ (cf c m mo) ma)))
def D1(tb:Tb)(r:Tr)(s:Sc)(o:Expr)(m:Str)(args:List Expr):List (Str×FI)->Option (Mi Rr)
 |[]=>none
 |[p]=>vI tb r s o m args p.1 p.2
 |p::q::ps=>ah (vI tb r s o m args p.1 p.2) λa=>ah (D1 tb r s o m args (q::ps)) λb=>some (nu a b)
theorem Gr(h:args.all notStar=true)(hl:args.length<=20)(pos:Pos)(env:Env):methodCallForm (args.length+([]:List Keyword).length) (backTo pos (starEach args env)) (backToKw pos (keywordEach [] env))=true:=by
 have:∀{es:List Expr},es.all notStar=true->(backTo pos (starEach es env)).all (λx=>!x.1)=true:=by
  intro es;induction es with
  |nil=>intro _;rfl
  |cons e es j=>intro h;rw[Vp,UO] at h;rw[aD h.1];show (true&&(backTo pos (starEach es env)).all (λx=>!x.1))=true;rw[j h.2];rfl
 unfold methodCallForm;rw[this h];show (true&&(true&&decide (args.length+0+0<30)))=true;rw[show decide (args.length+0+0<30)=true from decide_eq_true (by omega)];rfl
theorem qq(R:bP tb k r)(S:Sit tb k X E s){c:Str}{fi:FI}(hl:(apos.endLine==cpos.line)=true)(d:p8 o=true)(hc:(mn,c,fi)∈tb.mts)(h:vI tb r s o mn args c fi=some m):JE X E (.Call (.Attribute o mn apos) args [] cpos) m:=by
 obtain⟨h0,h⟩:=aq h;simp only[UO,Vf] at h0;obtain⟨mo,e1,h⟩:=aa h;obtain⟨ma,e2,h⟩:=aa h;cases h;obtain⟨h1,e2⟩:=aq e2;rw[beq_iff_eq] at h1;obtain⟨z,v,Y⟩:=jk (λ_ _=>R.E S) (λ_ _=>lE R S) e2;obtain⟨C,Q,fd,ps,F,hm,I,g,T⟩:=S.gd.mt _ _ _ hc;obtain⟨ds,dvs,U,y,G⟩:=T.of (args.length+1);have ho:JE X E o mo:=by
  unfold BC at e1;split at e1
  .exact R.E S e1
  .exact lE R S e1
 have len:=VP h0.2;cases args with
 |nil=>cases e2;exact DL hm I g F (S.rm h0.1) U y G (S.ps h0.1) ho (by simpa using h1) (eO d _ _ _) hl
 |cons a as=>have x:=Y;rw[Vp,UO] at x;exact F0 hm I g F (S.rm h0.1) U y G (S.ps h0.1) ho z (λZ rs O q=>by rw[v Z rs O q];exact h1) (eO d _ _ _) (Gr Y len _ _) hl (aD x.1 _ _) (dX x.2)
theorem ua{r:Tr}(R:bP tb k r)(S:Sit tb k X E s){o:Expr}{mn:Str}{args:List Expr}{apos cpos:Pos}(hl:(apos.endLine==cpos.line)=true)(d:p8 o=true):∀{cs:List (Str×FI)}{m:Mi Rr},(∀p∈cs,(mn,p.1,p.2)∈tb.mts)->D1 tb r s o mn args cs=some m->JE X E (.Call (.Attribute o mn apos) args [] cpos) m
 |[],m,_,h=>by cases h
 |[p],m,hc,h=>qq R S hl d (hc p U9) h
 |p::q::ps,m,hc,h=>by obtain⟨a,e1,h⟩:=aa h;obtain⟨b,e2,h⟩:=aa h;cases h;exact M7 (qq R S hl d (hc p U9) e1) (ua R S hl d (λx y=>hc x (UW _ y)) e2)
def DQ(tb:Tb)(r:Tr)(s:Sc)(o:Expr)(m:Str)(apos:Pos)(args:List Expr)(cpos:Pos):Option (Mi Rr):=cQ (apos.endLine==cpos.line&&p8 o) (match JO tb m with
 |p::ps=>D1 tb r s o m args (p::ps)
 |[]=>match args with
 |[]=>Pr s o m
 |[e]=>cQ (notStar e) (Q8 r s o m e)
 |[e,f]=>cQ (notStar e&&notStar f&&m==("get" : Str)&&!s.hd) (ah (r.E s o) λd=>ah (r.E s e) λy=>ah (r.E s f) λx=>some (nT d y x))
 | _=>none)
theorem za(R:bP tb k r)(S:Sit tb k X E s)(h:DQ tb r s o mn apos args cpos=some m):JE X E (.Call (.Attribute o mn apos) args [] cpos) m:=by
 have h':=aq h;clear h;obtain⟨h0,h⟩:=h';rw[UO] at h0;split at h
 .rename_i p ps ep;refine ua R S h0.1 h0.2 (λx v=>?_) h;rw[<-ep] at v;unfold JO at v;obtain⟨⟨a,b⟩,h1,h2⟩:=W3.mp v;simp only at h2;split at h2
  .rename_i z;cases h2;rw[beq_iff_eq] at z;subst z;exact h1
  .cases h2
 split at h
 .unfold Pr at h;split at h
  .obtain⟨i,e1,h⟩:=aa h;obtain⟨G,l,O,B⟩:=S.slot e1;split at h
   .rename_i z;rw[beq_iff_eq] at z;cases h;subst z;exact AR G l O B rfl h0.1
   .split at h
    .rename_i z;rw[beq_iff_eq] at z;cases h;subst z;exact NG G l O B rfl h0.1
    .cases h
  .cases h
 .have h':=aq h;clear h;obtain⟨P,h⟩:=h';unfold Q8 at h;split at h
  .rename_i z;rw[beq_iff_eq] at z;split at h
   .obtain⟨i,e1,h⟩:=aa h;obtain⟨n,e2,h⟩:=aa h;obtain⟨G,l,O,B⟩:=S.slot e1;cases h;subst z;exact yY G l O B (R.E S e2) rfl (GH P _ _) h0.1 (aD P _ _) rfl
   .cases h
  .split at h
   .rename_i z;rw[beq_iff_eq] at z;obtain⟨a,e1,h⟩:=aa h;obtain⟨n,e2,h⟩:=aa h;cases h;subst z;exact Fu (R.E S e1) (R.E S e2) (λx y=>yG PySem.F.plainAttrs_str PySem.F.slot_str_join PySem.F.type_str_join Cm x (bu y dq (aD P _ _)) (eO h0.2 _ _ _) (GH P _ _) h0.1 (aD P _ _) rfl)
   .cases h
 .have h':=aq h;clear h;obtain⟨h1,h⟩:=h';simp only[UO,beq_iff_eq,Vf] at h1;obtain⟨⟨⟨h1,h2⟩,h3⟩,h4⟩:=h1;obtain⟨d,e1,h⟩:=aa h;obtain⟨y,e2,h⟩:=aa h;obtain⟨x,e3,h⟩:=aa h;cases h;subst h3;exact Ia (tH (S.rm h4)) (R.E S e1) (R.E S e2) (R.E S e3) (Oo h0.2 h1 h2 h0.1)
 .cases h
def stK:Const->Option (Mi Rr)
 | .none=>some (mC .non)
 | .bool b=>some (mC (.bl b))
 | .int i=>some (mC (.int i))
 | .str x=>some (mC (.str x))
 |_=>none
def Q6(m n:Mi Rr):Operator->Option (Mi Rr)
 | .Add=>some (az aX m n)
 | .Sub=>some (az fD m n)
 | .Mult=>some (az br m n)
 | .FloorDiv=>some (az j9 m n)
 | .Mod=>some (az iq m n)
 | .Pow=>some (az gX m n)
 |_=>none
theorem GZ{a:Expr}{n:Mi Rr}{op:Operator}(h:Q6 m n op=some q)(ha:JE X E a m)(d:JE X E b n):JE X E (.BinOp a op b pos) q:=by
 cases op<;>first|(cases h;done)|skip
 .cases h;exact Hx ha d
 .cases h;exact Mu ha d
 .cases h;exact Ku ha d
 .cases h;exact Kh ha d
 .cases h;exact Nx ha d
 .cases h;exact MY ha d
theorem Jc{E:CmpOp}{c:Expr}(h:gJ c=true):lastMarks [op,E] [b,c]=false:=iH h
def yh(r:Tr)(s:Sc)(a:Expr)(ops:List CmpOp)(bs:List Expr):Option (Mi Rr):=match ops,bs with
 |[op],[b]=>ah (r.E s a) λm=>ah (r.E s b) λn=>TV s op a b m n
 |[op,op'],[b,c]=>cQ (gJ b&&gJ c) (ah (Tn op) λp=>ah (Tn op') λq=>ah (r.E s a) λma=>ah (r.E s b) λmb=>ah (r.E s c) λh=>some (gy p q ma mb h))
 |_,_=>none
theorem ue(R:bP tb k r)(S:Sit tb k X E s){a:Expr}{ops:List CmpOp}{bs:List Expr}(h:yh r s a ops bs=some m):JE X E (.Compare a ops bs pos) m/\JT X E (.Compare a ops bs pos) (ao m):=by
 unfold yh at h;split at h
 .obtain⟨U,e1,h⟩:=aa h;obtain⟨N,e2,h⟩:=aa h;exact Lj S h (R.E S e1) (R.E S e2)
 .obtain⟨h0,h⟩:=aq h;rw[UO] at h0;obtain⟨p,e1,h⟩:=aa h;obtain⟨q,e2,h⟩:=aa h;obtain⟨ma,e3,h⟩:=aa h;obtain⟨mb,e4,h⟩:=aa h;obtain⟨Z,e5,h⟩:=aa h;cases h;obtain⟨i,K,V⟩:=Dm (X:=X) e1;obtain⟨n,Q,o⟩:=Dm (X:=X) e2;exact⟨uy K Q V o (R.E S e3) (R.E S e4) (R.E S e5) (Jc h0.2),DY K Q V o (R.E S e3) (R.E S e4) (R.E S e5) (Jc h0.2)⟩
 .cases h
def DC(r:Tr)(s:Sc)(q:List (Option Expr))(vs:List Expr):Option (Mi Rr):=match q,vs with
 |[],[]=>some pX
 |_,_=>none
theorem D3(R:bP tb k r)(S:Sit tb k X E s){q:List (Option Expr)}{vs:List Expr}(h:DC r s q vs=some m):JE X E (.Dict q vs pos) m:=by
 unfold DC at h;split at h
 .cases h;exact GU
 .cases h
def Lz(tb:Tb)(r:Tr)(s:Sc)(f:Expr)(args:List Expr)(X:List Keyword)(cpos:Pos):Option (Mi Rr):=match X with
 |[]=>match f with
  | .Name f _=>DF tb r s f args
  | .Attribute o m apos=>DQ tb r s o m apos args cpos
  |_=>none
 |_::_=>none
theorem Fe(R:bP tb k r)(S:Sit tb k X E s){f:Expr}{x:List Keyword}(h:Lz tb r s f args x pos=some m):JE X E (.Call f args x pos) m:=by
 unfold Lz at h;split at h
 .split at h
  .exact z9 R S h
  .exact za R S h
  .cases h
 .cases h
def Tx(tb:Tb)(r:Tr)(s:Sc):Expr->Option (Mi Rr)
 | .Name x _=>match slot s x with
  |some i=>some (ae i)
  |none=>ah (tb.cst.lookup x) λa=>cQ (uX s x) (some (mC a))
 | .Constant c _ _=>stK c
 | .BinOp a op b _=>ah (r.E s a) λm=>ah (r.E s b) λn=>Q6 m n op
 | .UnaryOp op a _=>match op with
  | .USub=>ah (r.E s a) λm=>some (j4 BG m)
  | .Not=>ah (r.E s a) λm=>some (yB m)
  |_=>none
 | .BoolOp op vs _=>SK op (r.E s) vs
 | .Compare a ops bs _=>yh r s a ops bs
 | .IfExp t a b _=>ah (r.T s t) λmt=>ah (r.E s a) λm=>ah (r.E s b) λn=>some (JM mt m n)
 | .Tuple es _ _=>ah (zE (r.E s) es) λm=>some (aU m)
 | .List es _=>ah (zE (r.E s) es) λm=>some (eM m)
 | .Dict ks vs _=>DC r s ks vs
 | .Subscript a b _=>D8 r s a b
 | .Call f args kw cpos=>Lz tb r s f args kw cpos
 | .Attribute o f _=>cQ (p8 o) (ah (r.E s o) λm=>some (j4 (bp (Dw tb f) f) m))
 | .ListComp elt gs sc _=>sF r s elt gs sc
 | .JoinedStr es _=>Md r s es
 |_=>none
theorem Lc(R:bP tb k r)(S:Sit tb k X E s)(h:Tx tb r s e=some m):JE X E e m:=by
 cases e with
 |Name x _=>
  have h:(match slot s x with
   |some i=>some (ae i)
   | none=>ah (tb.cst.lookup x) λa=>cQ (uX s x) (some (mC a)))=some m:=h
  split at h
  .rename_i e1;cases h;obtain⟨F,l,O,B⟩:=S.slot e1;exact Nw F l O B
  .obtain⟨a,e1,h⟩:=aa h;obtain⟨K,h⟩:=aq h;cases h;obtain⟨v,u,h1,h2,h3⟩:=S.gd.cs _ _ e1;exact FU (S.glob K).1 h1 h2 h3 (S.glob K).2
 |Constant c _ _=>
  cases c<;>first|(cases h;done)|skip
  .cases h;exact Mj
  .cases h;exact PR
  .cases h;exact Mr
  .cases h;exact Dh
 |BinOp a op b _=>obtain⟨V,e1,h⟩:=aa h;obtain⟨Z,e2,h⟩:=aa h;exact GZ h (R.E S e1) (R.E S e2)
 |UnaryOp op a _=>
  cases op<;>first|(cases h;done)|skip
  .obtain⟨V,e1,h⟩:=aa h;cases h;exact Le (R.E S e1)
  .obtain⟨V,e1,h⟩:=aa h;cases h;exact Lm (R.E S e1)
 |BoolOp op vs _=>exact Bn (λ_ _=>R.E S) h
 |Compare a ops bs _=>exact(ue R S h).1
 |IfExp t a b _=>obtain⟨mt,e1,h⟩:=aa h;obtain⟨V,e2,h⟩:=aa h;obtain⟨Z,e3,h⟩:=aa h;cases h;exact ON (R.T S e1) (R.E S e2) (R.E S e3)
 |Tuple es _ _=>obtain⟨V,e1,h⟩:=aa h;cases h;exact J1 (kg (λ_ _=>R.E S) e1).1
 |List es _=>obtain⟨V,e1,h⟩:=aa h;cases h;exact MA (kg (λ_ _=>R.E S) e1).1
 |Dict q vs _=>exact D3 R S h
 |Subscript a b _=>exact Bq R S h
 |Call f args y cpos=>exact Fe R S h
 |Attribute o f _=>obtain⟨d,h⟩:=aq h;obtain⟨V,e1,h⟩:=aa h;cases h;exact FY (λc C=>S.gd.fl _ c C) (R.E S e1) (eO d _ _ _)
 |ListComp elt gs sc _=>obtain⟨H,N,own,tg,iter,ifs,Q,G,mt,D,rfl,rfl,A,w,z,U,Y,p⟩:=qI R S h;exact Fv (S.cm H) A rfl w z U Y p
 |JoinedStr es _=>exact HI R S h
 |_=>cases h
def LU(r:Tr)(s:Sc):Expr->Option (Mi Bool)
 | .Compare a ops bs _=>ah (yh r s a ops bs) λq=>some (ao q)
 | .UnaryOp .Not a _=>ah (r.T s a) λm=>some (gQ m)
 | .BoolOp op vs _=>Ta op (r.T s) vs
 |e=>cQ (plainT e) (ah (r.E s e) λm=>some (ao m))
theorem HU(R:bP tb k r)(S:Sit tb k X E s){m:Mi Bool}(h:LU r s e=some m):JT X E e m:=by
 unfold LU at h;split at h
 .obtain⟨q,e1,h⟩:=aa h;cases h;exact(ue R S e1).2
 .obtain⟨V,e1,h⟩:=aa h;cases h;exact MC (R.T S e1)
 .exact Qq (CV (λ_ _=>R.T S) h)
 .obtain⟨h0,h⟩:=aq h;obtain⟨V,e1,h⟩:=aa h;cases h;exact LN (R.E S e1) (we h0 _)
def tr(tb:Tb):Nat->Tr
 |0=>⟨λ_ _=>none,λ_ _=>none,λ_ _ _=>none⟩
 |n+1=>⟨λs e=>Ap (xP tb (tr tb n) s e) (Ap (Tx tb (tr tb n) s e) (xE tb (tr tb n) s e)),λs e=>Ap (LU (tr tb n) s e) (xT tb (tr tb n) s e),xI tb (tr tb n)⟩
theorem nZ:∀n,bP tb k (tr tb n)
 |0=>⟨λ_ h=>(by cases h),λ_ h=>(by cases h),λ_ h=>(by cases h)⟩
 | n+1=>⟨λS h=>by
   rcases cz h with h|h
   .exact QH (nZ n) S h
   rcases cz h with h|h
   .exact Lc (nZ n) S h
   .exact P6 (nZ n) S h,λS h=>by
   rcases cz h with h|h
   .exact HU (nZ n) S h
   .exact Pe (nZ n) S h,λS h=>OQ (nZ n) S h⟩
end
structure jg(tb:Tb)(k:Nat)(X:Cx)(E:XK)(s:Sc):Prop extends Sit tb k X E s where
 xc:s.hd=false->Xc X E
 po:s.hd=false->PassesOwn (model X.prog X.w) X.A X.env X.xe
 st:s.hd=false->X.stack=X.env::X.outer/\X.env.frame=some X.env.locals/\X.ex=[]
 bk:X.env.blockKind=.function
noncomputable def RV:Expr->Bool
 | .Starred ..=>true
 |_=>false
def S5(x y:Str)(L u:Pos)(a b:Expr):Bool:=x != y&&L.line==u.line&&notStar a&&notStar b&&!([a,b].all (foldedForSure 8))&&!([a,b].all (constantsAlone 8))
variable{y:Str}{px py:Pos}{kt:Nat}
theorem QN{pt E:Pos}{k2:Nat}{a:Expr}(h:S5 x y px py a b=true)(S:env.kindOf x=some .local)(O:env.kindOf y=some .local)(d:env.blockKind=.function):
  swappedStores [.Tuple [.Name x px,.Name y py] kt pt] (.Tuple [a,b] k2 E) env=pure (some [x,y]):=by
 unfold S5 at h;simp only[UO,bne_iff_ne,ne_eq,beq_iff_eq,Vf] at h;obtain⟨⟨⟨⟨⟨h1,h2⟩,h3⟩,h4⟩,h5⟩,Y⟩:=h;have s1:(([a,b]:List Expr).any fun | .Starred ..=>true|_=>false)=false:=by
  rw[WJ];intro e he;have hn:notStar e=true:=by
   rcases U5.mp he with z|z
   .rw[z];exact h3
   .rw[Va.mp z];exact h4
  cases e<;>first|(cases hn;done)|exact Vm
 have c:(y==x)=false:=beq_eq_false_iff_ne.mpr λz=>h1 z.symm;have k:(x==y)=false:=beq_eq_false_iff_ne.mpr h1;unfold swappedStores;have pn:∀(n:Str)(p:Pos),(Expr.Name n p).pos=p:=λ_ _=>rfl;simp[d,s1,S,O,pn,<-h2,h5,Y,List.eraseDups_cons,c,k];intro z;exfalso;rcases z with z|z
 .cases a<;>first|(cases h3;done)|cases z
 .cases b<;>first|(cases h4;done)|cases z
noncomputable def xW:Expr->Bool
 | .Tuple _ _ _=>false
 |_=>true
theorem oK(h:xW e=true):swappedStores [tg] e env=pure none:=by cases tg<;>first|rfl|(cases e<;>first|rfl|cases h)
variable{i:Expr}
theorem wt:swappedStores [.Subscript o i p] e env=pure none:=by cases e<;>rfl
variable{l:Nat}
theorem qF:swapsWith e (some (.Subscript o i p)) l env=pure false:=by cases e<;>rfl
theorem wJ{sc:Scope}(h:env.kindOf x=some .cell):swapsWith (.ListComp elt gs sc pos) (some (.Name x px)) l env=pure false:=by unfold swapsWith;show (pure (env.blockKind==.function&&env.kindOf x==some .local&&px.line==pos.line&&!(sc.names.any λp=>p.1==x&&(p.2==.local || p.2==.cell))):Sem Bool)=pure false;rw[h,show (some (NameKind.cell)==some (NameKind.local))=false from rfl,W5,YL,YL]
theorem tM{t:Expr}(h:kO e=true)(l:Nat)(env:Env):swapsWithSole [t] e l env=pure false:=gr h (some t) l env
theorem AV:swapsWithSole [.Subscript o i p] e l env=pure false:=qF (e:=e) (o:=o) (i:=i) (p:=p) (l:=l) (env:=env)
theorem GO(h:iY i=true)(v:Value):assign (.Subscript o i p) env v=(do
   let ov <- holding [v] (eval o env)
   let iv <- holding [v,ov] (eval i env)
   standAt p
   holding [v,ov,iv] (setItem ov iv v)
   release [v,ov,iv] []):=by cases i<;>first|rfl|cases h
variable{ts:List Expr}{p1:Pos}
section
variable{tb:Tb}{k:Nat}{X:Cx}{E:XK}{s:Sc}
def A3(r:Tr)(s:Sc)(x:Str)(px:Pos)(e:Expr):Option Ms:=ah (fJ s x) λi=>match e with
 | .ListComp elt gs sc pos=>match pQ s x .local with
  |true=>cQ (px.line==pos.line&&!(sc.names.any λp=>p.1==x&&(p.2==.local || p.2==.cell))) (ah (sF r s elt gs sc) λm=>some (aG i m))
  |false=>ah (r.E s e) λm=>some (aG i m)
 |e=>cQ (kO e) (ah (r.E s e) λm=>some (aG i m))
theorem zv(R:bP tb k r)(S:jg tb k X E s){m:Ms}(h:A3 r s x px e=some m):JS X E (.Assign [.Name x px] e pos) m:=by
 obtain⟨i,e1,h⟩:=aa h;obtain⟨F,l,O,B⟩:=S.fJ e1;have L:X.N.Nodup:=by rw[S.n];exact S.nd
 split at h
 .split at h
  .rename_i z;obtain⟨h0,h⟩:=aq h;simp only[UO,Vf] at h0;obtain⟨V,e2,h⟩:=aa h;cases h;have hl:X.env.scope.names.lookup x=some .local:=S.lc x (by unfold pQ at z;simpa using z);obtain⟨t,N,own,tg,iter,ifs,H,G,mt,D,rfl,rfl,A,b,T,U,Y,p⟩:=qI R S.toSit e2;exact E2 (S.cm t) A rfl L F hl (vB S.bk hl h0.1 h0.2) b T U Y p
  .rename_i z;obtain⟨V,e2,h⟩:=aa h;cases h;refine Cv L F l (R.E S.toSit e2) (wJ ?_) B;obtain⟨g,_⟩:=aq e1;simp only[UO,vO,V0] at g;rcases g.1 with y|y
   .rw[y] at z;cases z
   .exact S.ce x (by unfold pQ at y;simpa using y)
 .obtain⟨h0,h⟩:=aq h;obtain⟨V,e2,h⟩:=aa h;cases h;exact Cv L F l (R.E S.toSit e2) (gr h0 _ _ _) B
noncomputable def Mh(e:Expr):Option (Expr×Expr):=match e with
 | .Tuple es _ _=>match es with
  |[a,b]=>some (a,b)
  |_=>none
 |_=>none
theorem Ak{a:Expr}(h:Mh e=some (a,b)):∃c p,e=.Tuple [a,b] c p:=by
 cases e with
 |Tuple es c p=>match es,h with
  |[a,b],h=>cases h;exact⟨c,p,rfl⟩
 |_=>cases h
def Nq(ts:List Expr):Option ((Str×Pos)×Str×Pos):=match ts with
 |[a,b]=>ah (z6 a) λp=>ah (z6 b) λq=>some (p,q)
 |_=>none
theorem yQ(h:Nq ts=some ((x,px),y,py)):ts=[.Name x px,.Name y py]:=by
 match ts,h with
 |[a,b],h=>obtain⟨p,h1,h⟩:=aa h;obtain⟨q,h2,h⟩:=aa h;cases h;rw[cq h1,cq h2]
def vm(r:Tr)(s:Sc)(ts:List Expr)(e:Expr):Option Ms:=cQ (xW e&&kO e) (ah (r.E s e) λm=>ah (Aq s 0 9 (.Tuple ts 0 default)) λg=>some (AU m g))
def Ec(r:Tr)(s:Sc)(ts:List Expr)(e:Expr):Option Ms:=match Nq ts with
 | some ((x,px),y,py)=>(match Mh e with
  |some (a,b)=>cQ (!s.hd&&pQ s x .local&&pQ s y .local&&okN x&&okN y&&S5 x y px py a b) (ah (fJ s x) λi=>ah (fJ s y) λj=>cQ (i != j) (ah (zE (r.E s) [a,b]) λm=>some (AM i j m)))
  | none=>vm r s ts e)
 |none=>vm r s ts e
theorem LS{lo d:Nat}{n Q:Nat}{J:Pos}{g:Mg}(h:Aq s lo d (.Tuple ts n p)=some g):Aq s lo d (.Tuple ts Q J)=some g:=by
 cases d with
 |zero=>cases h
 |succ d=>exact h
theorem qE(R:bP tb k r)(S:jg tb k X E s){pt:Pos}{m:Ms}(h:vm r s ts e=some m):JS X E (.Assign [.Tuple ts kt pt] e pos) m:=by obtain⟨h0,h⟩:=aq h;rw[UO] at h0;obtain⟨V,e1,h⟩:=aa h;obtain⟨g,e2,h⟩:=aa h;cases h;exact Kj (R.E S.toSit e1) (oU S.toSit (LS e2)) (tM h0.2 _ _) (oK h0.1) (hp:=λx y=>Ck x y (tM h0.2 _ _) (oK h0.1))
theorem BF(R:bP tb k r)(S:jg tb k X E s){pt:Pos}{m:Ms}(h:Ec r s ts e=some m):JS X E (.Assign [.Tuple ts kt pt] e pos) m:=by
 unfold Ec at h;cases V:Nq ts with
 |none=>rw[V] at h;exact qE R S h
 |some p=>
  obtain⟨⟨x,px⟩,y,py⟩:=p;rw[V] at h;dsimp only at h;cases o:Mh e with
  |none=>rw[o] at h;exact qE R S h
  |some p=>
   obtain⟨a,b⟩:=p;rw[o] at h;obtain⟨h0,h⟩:=aq h;simp only[UO,Vf] at h0;obtain⟨⟨⟨⟨⟨h1,h2⟩,h3⟩,_⟩,_⟩,h4⟩:=h0;obtain⟨i,e1,h⟩:=aa h;obtain⟨j,e2,h⟩:=aa h;obtain⟨Q,h⟩:=aq h;obtain⟨ma,e3,h⟩:=aa h;cases h;obtain rfl:=yQ V;obtain⟨c,p,rfl⟩:=Ak o;have L:X.N.Nodup:=by rw[S.n];exact S.nd
   have B:=S.lc x (show s.nm.lookup _=_ by unfold pQ at h2;simpa using h2);have C:=S.lc y (show s.nm.lookup _=_ by unfold pQ at h3;simpa using h3);have Z:i≠j:=by simpa using Q
   exact MV (kg (λ_ _=>R.E S.toSit) e3).1 Z (λy=>Ml (S.cm h1) L (S.fJ e1).1 (S.fJ e2).1 Z B C y (QN h4 B C S.bk))
def Rl(r:Tr)(s:Sc)(x:Str)(F e:Expr):Option Ms:=ah (slot s x) λi=>ah (r.E s F) λmk=>ah (r.E s e) λm=>cQ (!s.hd&&iY F) (match s.di.contains x with
 |true=>some (hV i mk m)
 | false=>some (ou i mk m))
theorem HW(R:bP tb k r)(S:jg tb k X E s){F:Expr}{m:Ms}(h:Rl r s x F e=some m):JS X E (.Assign [.Subscript (.Name x px) F p1] e pos) m:=by
 obtain⟨i,e1,h⟩:=aa h;obtain⟨mk,e2,h⟩:=aa h;obtain⟨V,e3,h⟩:=aa h;obtain⟨t,h⟩:=aq h;simp only[UO,Vf] at t;obtain⟨G,l,O,B⟩:=S.slot e1;split at h
 .cases h;exact HK (tH (S.rm t.1)) G l O B (R.E S.toSit e2) (R.E S.toSit e3) qF
 .cases h;exact BB G l O B (R.E S.toSit e2) (R.E S.toSit e3) (λx y z=>Ck z (MX x y set_list (GO t.2)) AV wt)
theorem zP{f:Str}:swapsWith e (some (.Attribute o f p)) l env=pure false:=by cases e<;>rfl
def QK(tb:Tb)(r:Tr)(s:Sc)(x f:Str)(e:Expr):Option Ms:=ah (slot s x) λi=>ah (r.E s e) λm=>some (iL (Dw tb f) i f m)
theorem Fm(R:bP tb k r)(S:jg tb k X E s){f:Str}{m:Ms}(h:QK tb r s x f e=some m):JS X E (.Assign [.Attribute (.Name x px) f p1] e pos) m:=by obtain⟨i,e1,h⟩:=aa h;obtain⟨V,e2,h⟩:=aa h;cases h;obtain⟨G,l,O,B⟩:=S.slot e1;exact EY G l O B (λc C=>S.gd.fl _ c C) (R.E S.toSit e2) zP
def B7(tb:Tb)(r:Tr)(s:Sc)(t e:Expr):Option Ms:=match t with
 | .Name x px=>A3 r s x px e
 | .Tuple ts _ _=>Ec r s ts e
 | .Subscript (.Name x _) ek _=>Rl r s x ek e
 | .Attribute (.Name x _) f _=>QK tb r s x f e
 |_=>none
theorem Ef(R:bP tb k r)(S:jg tb k X E s){t:Expr}{m:Ms}(h:B7 tb r s t e=some m):JS X E (.Assign [t] e pos) m:=by
 unfold B7 at h;split at h
 .exact zv R S h
 .exact BF R S h
 .exact HW R S h
 .exact Fm R S h
 .cases h
end
section
variable{tb:Tb}{k:Nat}{X:Cx}{E:XK}{s:Sc}
def mL(F:Stmt->Option Ms):List Stmt->Option Ms
 |[]=>some aS
 |[a]=>F a
 |a::b::r=>ah (F a) λm=>ah (mL F (b::r)) λn=>some (ay m n)
theorem gS{F:Stmt->Option Ms}(h:∀a m,F a=some m->JS X E a m):∀{l:List Stmt}{m:Ms},mL F l=some m->An X E l m
 |[],m,e=>by cases e;exact EW
 |[a],m,e=>F8 (h _ _ e)
 |a::b::r,m,e=>by obtain⟨V,e1,e⟩:=aa e;obtain⟨N,e2,e⟩:=aa e;cases e;exact AD (h _ _ e1) (gS h e2)
noncomputable def xS(tb:Tb)(r:Tr)(s:Sc)(F:Sc->Stmt->Option Ms)(st:Stmt):Option Ms:=none
theorem Py{F:Sc->Stmt->Option Ms}(R:bP tb k r)(S:jg tb k X E s)(x:∀o,Passes (sd X.prog X.w) X o->Xc X o->∀a m,F (T5 s) a=some m->JS X o a m){st:Stmt}{m:Ms}(h:xS tb r s F st=some m):JS X E st m:=by cases h
end
variable{P:Program}{w:World}{base:Heap}{dV:Value}
section
variable{tb:Tb}{k:Nat}{X:Cx}{E:XK}{s:Sc}
noncomputable def Tz(s:Sc)(n:Str):Sc:={ s with ca:=[n],hd:=true,tp:=false }
theorem Sit.yk(S:Sit tb k X E s):Sit tb k X.yk jC s:=⟨S.n,S.nd,S.gl,S.vs,S.lo,S.lc,S.ce,S.fx,S.cm,S.rm,λ_=>AA,S.gd⟩
theorem Sit.mark(S:jg tb k X E s)(a:Addr)(n:Str):jg tb k (X.marked a) jC (Tz s n) where
 n:=S.n
 nd:=S.nd
 gl:=S.gl
 vs:=S.vs
 lo:=S.lo
 lc:=S.lc
 ce:=S.ce
 fx:=S.fx
 cm:=λh=>by cases h
 rm:=λh=>by cases h
 ps:=λh=>by cases h
 gd:=S.gd
 xc:=λh=>by cases h
 po:=λh=>by cases h
 st:=λh=>by cases h
 bk:=S.bk
def BL(tb:Tb)(r:Tr)(s:Sc)(fi:FI)(args:List Expr):Option (Mi (List Rr)):=cQ (args.length==fi.n) (B6 (r.E s) (NZ r s) args fi.mu)
def qW(e:Expr):Option (Str×Pos×Expr×List Expr×Pos):=match e with
 | .Call f args kw cpos=>ah (z6 f) λ(x,p)=>match args with
  |a::as=>cQ kw.isEmpty (some (x,p,a,as,cpos))
  |[]=>none
 |_=>none
theorem mF{a:Expr}{as:List Expr}(h:qW e=some (x,p,a,as,cpos)):e=.Call (.Name x p) (a::as) [] cpos:=by
 unfold qW at h;split at h
 .obtain⟨⟨y,py⟩,h1,g⟩:=aa h;clear h;obtain rfl:=cq h1;simp only at g;split at g
  .obtain⟨h0,g⟩:=aq g;rw[VG] at h0;cases g;rw[h0]
  .cases g
 .cases h
noncomputable def nh{α:Type}(l:List α):Option α:=match l with
 |[a]=>some a
 |_=>none
theorem eY{l:List α}{a:α}(h:nh l=some a):l=[a]:=by
 unfold nh at h;split at h
 .cases h;rfl
 .cases h
def Qy(tb:Tb)(r:Tr)(s:Sc):Nat->Stmt->Option Ms
 |0,_=>none
 |d+1,st=>match st with
  | .Expr e _=>ah (qW e) λ(f,_,a,as,_)=>cQ (uX s f) (ah (tb.fns.lookup f) λfi=>ah (BL tb r s fi (a::as)) λm=>some (bO (fq fi.m [] (i8 m))))
  | .Assign ts e _=>ah (nh ts) λt=>ah (z6 t) λ(y,_)=>ah (qW e) λ(f,_,a,as,_)=>cQ (uX s f) (ah (fJ s y) λi=>ah (tb.fns.lookup f) λfi=>ah (BL tb r s fi (a::as)) λm=>some (aG i (fq fi.m [] (i8 m))))
  | .If t a b _=>ah (r.T s t) λmt=>ah (nh a) λa0=>ah (Qy tb r s d a0) λma=>ah (nh b) λn=>ah (Qy tb r s d n) λmb=>some (eS (i8 mt) ma mb)
  |_=>none
theorem vv{r:Tr}(R:bP tb k r)(S:jg tb k X E s)(H:s.hd=false):∀{d:Nat}{st:Stmt}{m:Ms},Qy tb r s d st=some m->JX X st m
 |0,st,m,h=>by cases h
 |d+1,st,m,h=>by
  have L:X.N.Nodup:=by rw[S.n];exact S.nd
  unfold Qy at h;split at h
  .obtain⟨⟨f,p,a,as,cpos⟩,h1,g⟩:=aa h;clear h;obtain rfl:=mF h1;obtain⟨K,h⟩:=aq g;obtain⟨fi,B,h⟩:=aa h;obtain⟨ma,e1,h⟩:=aa h;cases h;obtain⟨h1,e1⟩:=aq e1;obtain⟨o,q,Y⟩:=jk (X:=X.yk) (E:=jC) (λ_ _=>R.E S.toSit.yk) (λ_ _=>lE R S.toSit.yk) e1;obtain⟨Q,fd,ps,F,hm,hk,l⟩:=S.gd.fn _ fi B;have x:=Y;rw[Vp,UO] at x;exact Gm F (S.rm H) (S.glob K).1 hm hk l.all o (vD (d:=0) q (by rw[beq_iff_eq] at h1;exact h1)) (S.glob K).2 (gr rfl _ _ _) (aD x.1 _ _) (dX x.2)
  .obtain⟨t,h0,c⟩:=aa h;clear h;obtain rfl:=eY h0;obtain⟨⟨y,py⟩,h2,Z⟩:=aa c;clear c;obtain rfl:=cq h2;obtain⟨⟨f,p,a,as,cpos⟩,h1,g⟩:=aa Z;clear Z;obtain rfl:=mF h1;obtain⟨K,h⟩:=aq g;obtain⟨i,j,h⟩:=aa h;obtain⟨fi,B,h⟩:=aa h;obtain⟨ma,e1,h⟩:=aa h;cases h;obtain⟨G,w,O,z⟩:=S.fJ j;obtain⟨h1,e1⟩:=aq e1;obtain⟨o,q,Y⟩:=jk (X:=X.yk) (E:=jC) (λ_ _=>R.E S.toSit.yk) (λ_ _=>lE R S.toSit.yk) e1;obtain⟨Q,fd,ps,F,hm,hk,l⟩:=S.gd.fn _ fi B;have x:=Y;rw[Vp,UO] at x;exact Kd L G w F (S.rm H) (S.glob K).1 hm hk l.all o (vD (d:=0) q (by rw[beq_iff_eq] at h1;exact h1)) (S.glob K).2 (gr rfl _ _ _) z (aD x.1 _ _) (dX x.2)
  .obtain⟨mt,e1,h⟩:=aa h;obtain⟨a0,e2,h⟩:=aa h;obtain⟨ma,e3,h⟩:=aa h;obtain⟨b,e4,h⟩:=aa h;obtain⟨mb,e5,h⟩:=aa h;cases h;obtain rfl:=eY e2;obtain rfl:=eY e4;exact Q3 (R.T S.toSit.yk e1) (yw (vv R S H e3)) (yw (vv R S H e5))
  .cases h
def IF(b:List Stmt)(P:List ExceptHandler)(E fin:List Stmt):Option (Stmt×Str×Pos×Str×Stmt×List Stmt×Pos):=ah (nh b) λF=>ah (nh P) λh=>cQ (E.isEmpty&&fin.isEmpty) (match h with
 | .ExceptHandler t n su hp=>ah t λe=>ah (z6 e) λ(x,np)=>ah n λn=>match su with
  |s0::suite=>some (F,x,np,n,s0,suite,hp)
  | []=>none)
theorem wD{b:List Stmt}{P:List ExceptHandler}{E fin:List Stmt}{F p:Stmt}{n:Str}{np hp:Pos}{a:List Stmt}(h:IF b P E fin=some (F,x,np,n,p,a,hp)):
  b=[F]/\P=[.ExceptHandler (some (.Name x np)) (some n) (p::a) hp]/\E=[]/\fin=[]:=by
 obtain⟨b1,e1,h⟩:=aa h;obtain⟨h1,e2,h⟩:=aa h;obtain⟨h0,h⟩:=aq h;rw[UO,VG,VG] at h0;obtain⟨t,Q,k,T⟩:=h1;obtain⟨e,e3,h⟩:=aa h;obtain⟨⟨r,X⟩,e4,h⟩:=aa h;obtain⟨c,e5,h⟩:=aa h;cases k with
 |nil=>cases h
 |cons s1 k=>cases h;rw[eY e1,eY e2,e3,e5,cq e4];exact⟨rfl,rfl,h0.1,h0.2⟩
def IJ(r:Tr)(s:Sc)(tg it:Expr)(b:Ms):Option Ms:=cQ (gJ it) (ah (Tc r s tg it) λm=>ah (Aq s 0 9 tg) λG=>some (dm m G b))
theorem CG(R:bP tb k r)(S:jg tb k X E s)(t:s.hd=false){it:Expr}{body:List Stmt}{b m:Ms}(d:An X E body b)(h:IJ r s tg it b=some m):JS X E (.For tg it body [] pos) m:=by obtain⟨h0,h⟩:=aq h;obtain⟨V,e1,h⟩:=aa h;obtain⟨G,e2,h⟩:=aa h;cases h;exact Mc (S.po t) (S.cm t) (Cq R S.toSit e1) (oU S.toSit e2) d (gL h0 _)
def DH(tb:Tb)(r:Tr)(s:Sc)(ts:List Expr)(e:Expr):Option Ms:=match ts with
 |[t]=>B7 tb r s t e
 |_=>none
def L5(tb:Tb)(r:Tr)(s:Sc)(ex ca:Option Expr):Option Ms:=match ca with
 |some _=>none
 |none=>match ex with
  |some (.Call f (a::as) [] _)=>match f with
   | .Name c _=>cQ (!s.hd&&uX s c&&tb.exs.contains c) (ah (zE (r.E s) (a::as)) λm=>some (eI c m))
   |_=>none
  |_=>none
theorem Fg(R:bP tb k r)(S:jg tb k X E s){ex ca:Option Expr}{m:Ms}(h:L5 tb r s ex ca=some m):JS X E (.Raise ex ca pos) m:=by
 unfold L5 at h;split at h
 .cases h
 .split at h
  .split at h
   .obtain⟨h0,h⟩:=aq h;simp only[UO,Vf] at h0;obtain⟨⟨t,K⟩,hc⟩:=h0;obtain⟨V,e1,h⟩:=aa h;cases h;obtain⟨C,a,c2⟩:=S.gd.ex _ (Wq.mp hc);obtain⟨o,q,Y⟩:=kg (λ_ _=>R.E S.toSit) e1;rw[Vp,UO] at Y;exact CC (S.xc t) (S.cm t) (S.glob K).1 a c2 o (S.glob K).2 (aD Y.1 _ _) (dX Y.2)
   .cases h
  .cases h
def Ui(tb:Tb)(r:Tr)(s:Sc)(F:Sc->Stmt->Option Ms):Stmt->Option Ms
 | .Assign ts e _=>DH tb r s ts e
 | .Return none _=>some Jj
 | .Return (some e) _=>ah (r.E s e) λm=>some (aN m)
 | .If t a b _=>ah (r.T s t) λmt=>ah (mL (F s) a) λm=>ah (mL (F s) b) λn=>some (eS mt m n)
 | .While t b els _=>cQ (!s.hd&&els.isEmpty) (ah (r.T s t) λmt=>ah (mL (F s) b) λm=>some (lL EF mt m))
 | .For tg it b els _=>cQ (!s.hd&&els.isEmpty) (ah (mL (F s) b) λm=>IJ r s tg it m)
 | .Try b hs els fin _=>ah (IF b hs els fin) λ(k,x,_,n,p,h,_)=>cQ (!s.hd&&uX s x&&pQ s n .local) (ah (tb.exm.lookup x) λl=>ah (fJ s n) λi=>ah (Qy tb r s 9 k) λmb=>ah (mL (F (Tz s n)) (p::h)) λX=>some (Eb i (P2 l) mb X))
 | .Raise ex ca _=>L5 tb r s ex ca
 | .Expr e _=>cQ (kO e) (ah (r.E s e) λm=>some (bO m))
 | .Pass _=>some aS
 | .Break _=>some AG
 | .Continue _=>some IW
 |_=>none
def EM(tb:Tb)(r:Tr):Nat->Sc->Stmt->Option Ms
 |0,_,_=>none
 |d+1,s,st=>Ap (xS tb r s (EM tb r d) st) (Ui tb r s (EM tb r d) st)
theorem jg.Oh{a:XK}(S:jg tb k X E s)(h1:Passes (sd X.prog X.w) X a)(h2:Xc X a):jg tb k X a (T5 s):=⟨⟨S.n,S.nd,S.gl,S.vs,S.lo,S.lc,S.ce,S.fx,S.cm,S.rm,λ_=>h1,S.gd⟩,λ_=>h2,S.po,S.st,S.bk⟩
theorem qX{r:Tr}(R:bP tb k r):∀{d:Nat}{X:Cx}{E:XK}{s:Sc}{st:Stmt}{m:Ms},jg tb k X E s->EM tb r d s st=some m->JS X E st m
 |0,X,E,s,st,m,S,h=>by cases h
 |d+1,X,E,s,st,m,S,h=>by
  have j:∀a m,EM tb r d s a=some m->JS X E a m:=λa m e=>qX R S e;unfold EM at h;have h':=cz h;clear h;rcases h' with h|h
  .exact Py R S (λQ h1 h2 a m e=>qX R (S.Oh h1 h2) e) h
  cases st with
  |Assign ts e _=>
   have h:DH tb r s ts e=some m:=h;unfold DH at h;split at h
   .exact Ef R S h
   .cases h
  |Return v _=>cases v with
   |none=>cases h;exact E8
   |some e=>obtain⟨V,e1,h⟩:=aa h;cases h;exact ND (R.E S.toSit e1)
  |If t a b _=>obtain⟨mt,e1,h⟩:=aa h;obtain⟨V,e2,h⟩:=aa h;obtain⟨N,e3,h⟩:=aa h;cases h;exact Rw (R.T S.toSit e1) (gS j e2) (gS j e3)
  |While t b Z _=>have h':=aq h;clear h;obtain⟨h0,h⟩:=h';simp only[UO,Vf,VG] at h0;obtain⟨H,rfl⟩:=h0;obtain⟨mt,e1,h⟩:=aa h;obtain⟨V,e2,h⟩:=aa h;cases h;exact BS (S.po H) (R.T S.toSit e1) (gS j e2)
  |For tg it b Z _=>have h':=aq h;clear h;obtain⟨h0,h⟩:=h';simp only[UO,Vf,VG] at h0;obtain⟨H,rfl⟩:=h0;obtain⟨V,e2,h⟩:=aa h;exact CG R S H (gS j e2) h
  |Try b P Z fin _=>obtain⟨⟨F,x,np,n,p,w,hp⟩,h1,g⟩:=aa h;clear h;obtain⟨rfl,rfl,rfl,rfl⟩:=wD h1;obtain⟨h0,h⟩:=aq g;simp only[UO,Vf] at h0;obtain⟨⟨H,K⟩,hn⟩:=h0;obtain⟨l,e1,h⟩:=aa h;obtain⟨i,e2,h⟩:=aa h;obtain⟨mb,e3,h⟩:=aa h;obtain⟨D,e4,h⟩:=aa h;cases h;obtain⟨G,q,Y,B⟩:=S.fJ e2;obtain⟨T,U,y⟩:=S.gd.em _ _ e1;obtain⟨z,o,O⟩:=S.st H;exact Lw z o O (by rw[S.n];exact S.nd) G (S.lc _ (by unfold pQ at hn;simpa using hn)) (S.glob K).1 U (λc C hc hm=>y c C hc hm) (vv R S H e3) (λa=>gS (λb m e=>qX R (Sit.mark S a _) e) e4) (S.glob K).2 B
  |Raise ex ca _=>exact Fg R S h
  |Expr e _=>obtain⟨h0,h⟩:=aq h;obtain⟨V,e1,h⟩:=aa h;cases h;exact Fi (R.E S.toSit e1) (gr h0 _ _ _)
  |Pass _=>cases h;exact He
  |Break _=>cases h;exact Di
  |Continue _=>cases h;exact Ha
  |_=>cases h
structure DI where
 cl:Option Str
 name:Str
 st:Stmt
 N:List Str
 n:Nat
 di:List Str
 mu:List Bool
 df:List A
 lv:List Str
 m:Ms
 ce:List Str:=[]
 tp:Bool:=false
def DI.sc(d:DI):Sc:={ N:=d.N,nm:=(aZ d.st).names,di:=d.di,ca:=[],hd:=false,lv:=d.lv }
def iO(d:DI):Bool:=(aZ d.st).kind==.function&&!(aZ d.st).isCoroutine&&!(aZ d.st).isGenerator&&decide d.N.Nodup&&Xl d.n d.N.length&&(d.N.take d.n).all (λx=>(aZ d.st).names.lookup x==some .local || (aZ d.st).names.lookup x==some .cell)&&(aZ d.st).names.all (λy=>y.2 != .free)
variable{d:DI}
theorem jB(h:iO d=true):kT d.N (d.N.take d.n) (aZ d.st)/\(d.N.take d.n).length=d.n:=by
 unfold iO at h;simp only[UO,beq_iff_eq,Vf,decide_eq_true_eq,VA,V0,bne_iff_ne,ne_eq] at h;obtain⟨⟨⟨⟨⟨⟨h1,h2⟩,h3⟩,h4⟩,h5⟩,Y⟩,Z⟩:=h;have hl:(d.N.take d.n).length=d.n:=by rw[Vh];have:=VP h5;omega
 exact⟨⟨h1,h2,h3,h4,by rw[hl],Y,Z⟩,hl⟩
def DI.M(d:DI):Ms:=aV (d.N.length-d.n) d.m
noncomputable def DI.fi(d:DI):FI:=⟨d.n,d.M,d.mu,d.df,!d.ce.isEmpty⟩
noncomputable def DI.qual(d:DI):Str:=match d.cl with
 |none=>d.name
 |some c=>c++(("." : Str)++d.name)
def Tb.add(tb:Tb)(d:DI):Tb:=match d.cl with
 |none=>{ tb with fns:=(d.name,d.fi)::tb.fns }
 |some c=>match d.name==("__init__" : Str) with
  |true=>{ tb with ini:=(c,d.fi)::tb.ini }
  |false=>{ tb with mts:=(d.name,c,d.fi)::tb.mts }
noncomputable def oA:Nat:=40
theorem IA{f:Addr}{qual:Str}(G:Gd tb k P w K mg base)(F:rp K d.name qual d.st f fd dV)(u:iO d=true)
  (h:mL (EM tb (tr tb oA) oA d.sc) (dy d.st)=some d.m):cV P w K mg base (sd P w) (k+1) f fd (d.N.take d.n) (uZ ⟨K,mg⟩ d.n d.M):=by
 obtain⟨S,hl⟩:=jB u;have v:=MZ (P:=P) (w:=w) (mg:=mg) (base:=base) (k:=k) (m:=d.m) F S (λcdv A outer s H E l=>gS (λa m e=>qX (nZ oA) (?_:jg tb k _ E d.sc) e) h)
 .rw[hl] at v;exact v
 .refine⟨⟨rfl,S.nd,λx y=>y,λx y=>?_,λx y=>?_,λx y=>y,λx y=>y,λx y=>.inl rfl,λ_=>rfl,λ_=>l,λ_=>Jr.pass,G⟩,λ_=>Jr,λ_=>PassesOwn.leaving,λ_=>⟨rfl,rfl,rfl⟩,?_⟩
  .unfold Ik pQ DI.sc at y;simp only[V0,beq_iff_eq] at y;rcases y with (z|z)|z
   .exact .inl z
   .exact .inr (.inl z)
   .exact .inr (.inr z)
  .unfold vO pQ DI.sc at y;simp only[V0,beq_iff_eq] at y;exact y
  .show (if (aZ d.st).kind.isAnnotationScope then ScopeKind.function else (aZ d.st).kind)=.function;rw[S.kind];rfl
end
theorem wC:∀{us:List Value}{n:Str},us.length=ps.length->n∈ps->((ps.zip us).lookup n).isSome=true:=by
 induction ps with
 |nil=>intro us n _ h;cases h
 |cons p ps j=>
  intro us n hl h;cases us with
  |nil=>cases hl
  |cons u us=>
   rw[WE,Vs];split
   .rfl
   .rename_i z;rcases U5.mp h with y|y
    .rw[y,beq_self_eq_true] at z;cases z
    .exact j (by simpa using hl) y
theorem nj:∀{us:List Value}{pre:List (Str×Value)},us.length=ps.length->ps.Nodup->(∀n∈ps,pre.lookup n=none)->ps.filterMap (λn=>((pre++ps.zip us).lookup n).map (n,·))=ps.zip us:=by
 induction ps with
 |nil=>intro us pre _ _ _;rfl
 |cons p ps j=>
  intro us pre hl nd hp;cases us with
  |nil=>cases hl
  |cons u us=>
   obtain⟨E,D⟩:=Vn.mp nd;have e1:(pre++(p,u)::ps.zip us).lookup p=some u:=by rw[ZQ,hp p U9,Vs,beq_self_eq_true];rfl
   rw[WE,Wc,e1];show (p,u)::_=_
   congr 1
   have:=j (us:=us) (pre:=pre++[(p,u)]) (by simpa using hl) D (λn hn=>by rw[ZQ,hp n (UW _ hn),Vs];have:(n==p)=false:=beq_eq_false_iff_ne.mpr λz=>E (z▸hn);rw[this];rfl)
   simpa[U0] using this
theorem lT{α β:Type}{f:α->β->Sem (ForInStep β)}{g:β->α->β}(h:∀a b,f a b=pure (.yield (g b a))):∀(l:List α)(b:β),(forIn l b f:Sem β)=pure (l.foldl g b)
 |[],_=>rfl
 |a::l,b=>by rw[Z7,h,pure_bind];exact lT h l _
noncomputable def uL(S:List (Str×Value))(x:Str×Value):List (Str×Value):=if (S.lookup x.1).isNone=true then S++[(x.1,x.2)] else S
variable{us:List Value}
theorem qY(h1:fd.params.posonlyargs=[])(h2:fd.params.kwonlyargs=[])(h3:fd.params.vararg=none)(h4:fd.params.kwarg=none)(Y:fd.params.args.map (·.arg)=ps)(hl:us.length<=ps.length):
  ∃k,bindArgs fd ⟨us,[]⟩=seqItems? fd.defaults >>= k/\∀(o:Option (Array Value))(ds:List Value),(o.getD #[]).toList.drop ((o.getD #[]).toList.length-ps.length)=ds->
   (ps.take (ps.length-ds.length)).filter (λn=>((ps.zip us).lookup n).isNone)=[]->
   k o=pure ((ps++[]).filterMap λn=>((((ps.drop (ps.length-ds.length)).zip ds).foldl uL (ps.zip us)).lookup n).map (n,·)):=by
 obtain⟨nm,c,pr,r,sc,gl,cl,de,kd,E,pm,an,cd,ct,R⟩:=fd;obtain⟨po,h,v,x,T,X,df⟩:=pr;obtain rfl:h.map (·.arg)=ps:=Y;obtain rfl:po=[]:=h1;obtain rfl:x=[]:=h2;obtain rfl:v=none:=h3;obtain rfl:X=none:=h4;refine⟨_,rfl,λo ds hd hm=>?_⟩;subst hd;refine(if_neg (λz=>?_)).trans ?_
 .rw[UO,decide_eq_true_eq] at z;exact absurd z.1 (Nat.not_lt.mpr hl)
 refine(if_neg (λz=>?_)).trans ?_
 .rw[Vf,List.isEmpty_eq_false_iff] at z;exact z hm
 refine(congrArg (· >>= _) (lT (g:=uL) (λa b=>?_) _ _)).trans ?_
 .unfold uL;by_cases z:(b.lookup a.1).isNone=true
  .rw[if_pos z];exact if_pos z
  .rw[if_neg z];exact if_neg z
 .exact rfl
theorem kK(hl:us.length=ps.length):ps.filter (λn=>((ps.zip us).lookup n).isNone)=[]:=by
 rw[WM];intro n hn;have:=wC hl hn;cases e:(ps.zip us).lookup n with
 |none=>rw[e] at this;cases this
 |some v=>exact Vm
theorem uS(h1:fd.params.posonlyargs=[])(h2:fd.params.kwonlyargs=[])(h3:fd.params.vararg=none)(h4:fd.params.kwarg=none)(h5:fd.defaults=.none)(Y:fd.params.args.map (·.arg)=ps)(nd:ps.Nodup)(hl:us.length=ps.length):
  bindArgs fd ⟨us,[]⟩=pure (ps.zip us):=by
 obtain⟨k,e1,e2⟩:=qY (us:=us) h1 h2 h3 h4 Y (Ym hl);rw[e1,h5];refine(e2 none [] zap (by rw[Wm,Zq,VS];exact kK hl)).trans ?_;rw[Vz,List.zip_nil_right];have L:=nj (pre:=[]) hl nd (λn _=>rfl);rw[XH] at L;exact congrArg pure L
theorem A9:∀{us:List Value}{z:Str},z∉ps->(ps.zip us).lookup z=none:=by
 induction ps with
 |nil=>intro us z _;rfl
 |cons p ps j=>
  intro us z hz;cases us with
  |nil=>rfl
  |cons u us=>rw[WE,Vs];have:(z==p)=false:=beq_eq_false_iff_ne.mpr λy=>hz (y▸U9);rw[this];exact j λy=>hz (UW _ y)
variable{qs:List Str}
theorem yP:∀{us:List Value},us.length=ps.length->(ps++qs).zip us=ps.zip us:=by
 induction ps with
 |nil=>intro us h;cases us with
  |nil=>cases qs<;>rfl
  |cons _ _=>cases h
 |cons p ps j=>intro us h;cases us with
  |nil=>cases h
  |cons u us=>rw[Xq,WE,WE,j (by simpa using h)]
theorem Dl{s:Shared}{z:Str}{I:Addr}{o:Obj}{h:Value}{ep:Nat}(h1:fd.params.posonlyargs=[])(h2:fd.params.kwonlyargs=[])(h3:fd.params.vararg=none)(h4:fd.params.kwarg=none)(h5:fd.defaults=.ref I)(ho:s.heap.get? I=some o)(P:o.data=.seq #[h] ep)
  (Y:fd.params.args.map (·.arg)=qs++[z])(nd:(qs++[z]).Nodup):
  (us.length=(qs++[z]).length->BindsTo s fd ⟨us,[]⟩ ((qs++[z]).zip us))/\(us.length=qs.length->BindsTo s fd ⟨us,[]⟩ ((qs++[z]).zip (us++[h]))):=by
 have nz:z∉qs:=λy=>(U8.mp nd).2.2 z y z U9 rfl;have e1:List.drop (1-(qs++[z]).length) [h]=[h]:=by rw[show 1-(qs++[z]).length=0 by simp];rfl
 have e2:(qs++[z]).take ((qs++[z]).length - [h].length)=qs:=by simp
 have e3:(qs++[z]).drop ((qs++[z]).length - [h].length)=[z]:=by simp
 refine⟨λhl=>?_,λhl=>?_⟩
 .obtain⟨k,k1,k2⟩:=qY (us:=us) h1 h2 h3 h4 Y (Ym hl);refine .of_defaults h5 ho P k1 ((k2 (some #[h]) [h] e1 ?_).trans ?_)
  .rw[e2,WM];exact λn hn=>WM.mp (kK hl) n (Vk _ hn)
  .have D:¬ (((qs++[z]).zip us).lookup z).isNone=true:=WM.mp (kK hl) z (UX _ U9);rw[e3];have e4:List.foldl uL ((qs++[z]).zip us) ([z].zip [h])=(qs++[z]).zip us:=if_neg D;rw[e4,Vz];exact congrArg pure (nj (pre:=[]) hl nd (λn _=>rfl))
 .obtain⟨k,k1,k2⟩:=qY (us:=us) h1 h2 h3 h4 Y (by rw[hl,UY];exact zab _ _);have hz:(qs++[z]).zip us=qs.zip us:=yP hl;refine .of_defaults h5 ho P k1 ((k2 (some #[h]) [h] e1 ?_).trans ?_)
  .rw[e2,hz];exact kK hl
  .have H:(us++[h]).length=(qs++[z]).length:=by rw[UY,UY,hl];rfl
   have F:(qs++[z]).zip (us++[h])=qs.zip us++[(z,h)]:=by rw[List.zip_append hl.symm];rfl
   rw[e3,hz];have e4:List.foldl uL (qs.zip us) ([z].zip [h])=qs.zip us++[(z,h)]:=if_pos (by rw[A9 nz];rfl);rw[e4,<-F,Vz];exact congrArg pure (nj (pre:=[]) H nd (λn _=>rfl))
mutual
noncomputable def Aw(K:UN):Nat->Value->A->Bool
 |0,_,_=>false
 |n+1,v,a=>match v,a with
  | .none,.non=>true
  | .bool b,.bl c=>b==c
  | .int i _,.int j=>i==j
  | .str x _,.str y=>x==y
  | .ref p,.tup as=>(match K.lookup p with
   |some ⟨.type "tuple",none,.seq its _,_⟩=>Xl its.size 1000&&xr K n its.toList as
   | _=>false)
  |_,_=>false
noncomputable def xr(K:UN):Nat->List Value->List A->Bool
 |0,_,_=>false
 |_+1,[],[]=>true
 |n+1,v::vs,a::as=>Aw K n v a&&xr K n vs as
 |_+1,_,_=>false
end
mutual
theorem sj{K:UN}{mg:Str->Option Value}:∀{n:Nat}{v:Value}{a:A},Aw K n v a=true->∃x,RelV x v/\∀G,RA ⟨K,mg⟩ G x a
 |0,v,a,h=>by cases h
 |n+1,v,a,h=>by
  unfold Aw at h;split at h
  .exact⟨.non,rfl,λ_=>.non⟩
  .rw[beq_iff_eq] at h;subst h;exact⟨.bl _,rfl,λ_=>.bl _⟩
  .rw[beq_iff_eq] at h;subst h;exact⟨.int _,⟨_,rfl⟩,λ_=>.int _⟩
  .rw[beq_iff_eq] at h;subst h;exact⟨.str _,⟨_,rfl⟩,λ_=>.str _⟩
  .split at h
   .rename_i its ep sl e;rw[UO] at h;obtain⟨xs,h1,h2⟩:=tD (mg:=mg) h.2;refine⟨.ref _,rfl,λG=>.tup (.inr ⟨_,its,_,e,⟨rfl,rfl⟩,rfl,?_,h1⟩) (h2 G)⟩;have:=VP h.1;have:=jK;omega
   .cases h
  .cases h
theorem tD{K:UN}{mg:Str->Option Value}:∀{n:Nat}{vs:List Value}{as:List A},xr K n vs as=true->∃xs,Vals xs vs/\∀G,bx ⟨K,mg⟩ G xs as
 |0,vs,as,h=>by cases h
 |_+1,[],[],h=>⟨[],.nil,λ_=>.nil⟩
 |n+1,v::vs,a::as,h=>by rw[xr,UO] at h;obtain⟨x,h1,h2⟩:=sj (mg:=mg) h.1;obtain⟨xs,h3,h4⟩:=tD (mg:=mg) h.2;exact⟨x::xs,.cons h1 h3,λG=>.cons (h2 G) (h4 G)⟩
 |_+1,[],_::_,h=>by cases h
 |_+1,_::_,[],h=>by cases h
end
noncomputable def gV(K:UN)(x:Str):Option Value:=match Yc K mainGlobals x with
 |some (some v)=>some v
 |_=>none
variable{h:Heap}
theorem lj(X:K.In h)(G:h.Ns mainGlobals mg){v:Value}(e:gV K x=some v):mg x=some v:=by
 unfold gV at e;split at e
 .rename_i q;cases e;exact PySem.W.mg_of X G q
 .cases e
def Od(K:UN)(x:Str):Option V:=match gV K x with
 |some (.ref C)=>some (.ref C)
 |some _=>none
 |none=>match Yc K mainGlobals x,bootBuiltins x with
  |some none,some (.type t)=>if x==("__name__" : Str) then none else some (.ty t)
  |_,_=>none
noncomputable def EA(K:UN)(C:Addr):Bool:=
 Vy K (.ref C) "__getattribute__" == some (some (.builtin "BaseException.__getattribute__"))&&Vy K (.ref C) "__getattr__" == some none&&Vy K (.ref C) "__class__" == some (some (.builtin "object.__class__")) &&
 Zv K (.builtin "object.__class__") "__get__" == some (some (.builtin "getset_descriptor.__get__"))&&ZI K (.builtin "object.__class__")==some true&&YE K C (.type "object")==some true&&YE K C (.type "BaseException")==some true
variable{C:Addr}
theorem DM(h:EA K C=true):gU K C:=by unfold EA at h;simp only[UO,beq_iff_eq] at h;obtain⟨⟨⟨⟨⟨⟨h1,h2⟩,h3⟩,h4⟩,h5⟩,Y⟩,Z⟩:=h;exact⟨h1,h2,h3,h4,h5,Y,Z⟩
def OV(K:UN)(p:Str×List (Str×Bool)):Bool:=match Od K p.1 with
 |some cv=>p.2.all λq=>match gV K q.1 with
  |some (.ref C)=>EA K C&&Vt K (.ref C) (ir cv)==some q.2
  |_=>false
 |none=>false
def P7(K:UN)(p:Str×List Str):Bool:=match gV K p.1 with
 |some (.ref T)=>p.2.all λc=>match gV K c with
  |some (.ref C)=>XE K (.ref C) (.ref T)==some true
  |_=>false
 |_=>false
def PV(K:UN)(x:Str):Bool:=match gV K x with
 |some (.ref C)=>WT K C wZ "ValueError.__new__"
 |_=>false
def OI(K:UN)(p:Str×A):Bool:=match gV K p.1 with
 |some v=>Aw K 20 v p.2
 |none=>false
noncomputable def qL(K:UN)(C:Addr):Bool:=WO K C Za&&W4 K C&&XZ K C&&Vy K (.ref C) "__setattr__" == some (some (.builtin "object.__setattr__"))
theorem ql(h:qL K C=true):pB K C:=by unfold qL at h;simp only[UO,beq_iff_eq] at h;obtain⟨⟨⟨h1,h2⟩,h3⟩,h4⟩:=h;exact⟨h1,h2,h3,h4⟩
def OT(K:UN)(p:Str×List Str):Bool:=match gV K p.1 with
 |some (.ref C)=>qL K C&&p.2.all λf=>Vy K (.ref C) f==some none
 |_=>false
def IY(tb:Tb)(K:UN):Bool:=tb.fns.isEmpty&&tb.cst.all (OI K)&&HE.all (λx=>Yc K mainGlobals x==some none)&&tb.exs.all (PV K)&&tb.kit.all (OV K)&&tb.exm.all (P7 K)&&tb.fld.all (OT K)&&tb.ini.isEmpty&&tb.mts.isEmpty
variable{tb:Tb}
theorem Kr(X:K.In h)(G:h.Ns mainGlobals mg)(e:IY tb K=true):Gd tb 1 P w K mg base:=by
 unfold IY at e;simp only[UO,VG,VA,beq_iff_eq] at e;obtain⟨⟨⟨⟨⟨⟨⟨⟨e1,e2⟩,e3⟩,e4⟩,e5⟩,e6⟩,H⟩,r⟩,E⟩:=e;refine⟨λx f q=>(by rw[e1] at q;cases q),λx a q=>?_,λx q=>Zr X G (e3 x q),λx q=>?_,λx l q=>?_,λx l q=>?_,λf c C q hm=>?_,λc f q=>(by rw[r] at q;cases q),λm c f q=>(by rw[E] at q;cases q)⟩
 .have:=e2 _ (bN q);unfold OI at this;split at this
  .rename_i v N;obtain⟨y,o,U⟩:=sj (mg:=mg) this;exact⟨y,v,lj X G N,o,U⟩
  .cases this
 .have:=e4 x q;unfold PV at this;split at this
  .rename_i C N;exact⟨C,lj X G N,this⟩
  .cases this
 .have:=e5 _ (bN q);unfold OV at this;split at this
  .rename_i cv V;rw[VA] at this;have tail:∀c C k,l.lookup c=some k->mg c=some (.ref C)->gU K C/\Vt K (.ref C) (ir cv)=some k:=λc C k hk hm=>by
    have t:=this _ (bN hk);split at t
    .rename_i R N;have:=lj X G N;rw[hm] at this;cases this;rw[UO,beq_iff_eq] at t;exact⟨DM t.1,t.2⟩
    .cases t
   unfold Od at V;split at V
   .rename_i C N;cases V;exact⟨.ref C,.ref C,rfl,rfl,.inl (lj X G N),tail⟩
   .cases V
   .split at V
    .rename_i t en J;split at V
     .cases V
     .rename_i hn;cases V;exact⟨.type t,.ty t,rfl,rfl,.inr ⟨Zr X G en,J,λz=>hn (by rw[z];exact beq_self_eq_true _)⟩,tail⟩
    .cases V
  .cases this
 .have:=e6 _ (bN q);unfold P7 at this;split at this
  .rename_i T N;rw[VA] at this;refine⟨T,lj X G N,λc C hc hm=>?_⟩;have t:=this c (Wq.mp hc);split at t
   .rename_i R b;have:=lj X G b;rw[hm] at this;cases this;rw[beq_iff_eq] at t;exact t
   .cases t
  .cases this
 .obtain⟨p,g,Q⟩:=Vj.mp (Wq.mp q);obtain⟨O,Z⟩:=VZ.mp g;have t:=H p O;subst Q;unfold OT at t;split at t
  .rename_i R N;have:=lj X G N;rw[hm] at this;cases this;rw[UO,VA] at t;have:=t.2 f (Wq.mp Z);exact⟨ql t.1,by rw[beq_iff_eq] at this;exact this⟩
  .cases t
def v7(d:DI):Bool:=(dO d.st).posonlyargs.isEmpty&&(dO d.st).kwonlyargs.isEmpty&&(dO d.st).vararg.isNone&&(dO d.st).kwarg.isNone&&(dO d.st).args.map (·.arg)==d.N.take d.n
def Nh(K:UN)(dV:Value)(a:A):Bool:=match dV with
 | .ref td=>match K.lookup td with
  | some ⟨_,_,.seq its _,_⟩=>(match its.toList with
   |[v]=>Aw K 20 v a
   | _=>false)
  |_=>false
 |_=>false
def zI(K:UN)(dV:Value):List A->Bool
 |[]=>match dV with
  | .none=>true
  |_=>false
 |[a]=>Nh K dV a
 |_=>false
variable{d:DI}
theorem J3{qual:Str}{f:Addr}(h:v7 d=true)(P:iO d=true)(F:rp K d.name qual d.st f fd dV)(hd:zI K dV d.df=true):kA K mg fd (d.N.take d.n) d.df:=by
 unfold v7 at h;simp only[UO,VG,W7,beq_iff_eq] at h;obtain⟨⟨⟨⟨h1,h2⟩,h3⟩,h4⟩,h5⟩:=h;obtain⟨S,hl⟩:=jB P;have nd:=S.nd.sublist (Xd d.n d.N);obtain⟨p1,i⟩:fd.params=dO d.st/\fd.defaults=dV:=by obtain⟨oc,od,kV,doc,pm,an,cdv,ct,osl,e,_⟩:=F.ex;rw[e];exact⟨rfl,rfl⟩
 rw[<-p1] at h1 h2 h3 h4 h5;clear F p1 S hl P;cases e:d.df with
 |nil=>
  rw[e] at hd;have hd:dV=.none:=by cases dV<;>first|rfl|cases hd
  subst hd
  .intro j c;refine⟨[],[],Binds.all λus R=>uS h1 h2 h3 h4 i h5 nd R,.nil,λ_=>?_⟩;rw[zap];exact .nil
 |cons a as=>
  cases as with
  |cons _ _=>rw[e] at hd;cases hd
  |nil=>
   rw[e] at hd
   replace hd:Nh K dV a=true:=hd
   unfold Nh at hd;split at hd
   .rename_i I;split at hd
    .rename_i x y its ep sl w;split at hd
     .rename_i v X;obtain⟨b,C,p⟩:=sj (mg:=mg) hd;have hi:its=#[v]:=by rw[<-ZW,X]
      subst hi;have r:∀(s:Shared)(us:List Value),K.In s.heap->((us.length=(d.N.take d.n).length->BindsTo s _ ⟨us,[]⟩ ((d.N.take d.n).zip us))/\(us.length+1=(d.N.take d.n).length->BindsTo s _ ⟨us,[]⟩ ((d.N.take d.n).zip (us++[v])))):=λs us T=>by
       rcases List.eq_nil_or_concat (d.N.take d.n) with z|⟨qs,E,z⟩
       .rw[z] at h5 ⊢;refine⟨λhl=>?_,λhl=>by cases hl⟩;cases us with
        |cons _ _=>cases hl
        |nil=>obtain⟨k,k1,k2⟩:=qY (us:=[]) h1 h2 h3 h4 h5 (U2 0);exact .of_defaults i (T _ _ w) rfl k1 (k2 (some #[v]) [] rfl rfl)
       .rw[List.concat_eq_append] at z;rw[z] at h5 nd ⊢;have:=Dl (s:=s) (us:=us) h1 h2 h3 h4 i (T _ _ w) rfl h5 nd;exact⟨this.1,λq=>this.2 (by simpa using q)⟩
      intro j c;rcases Nat.le_one_iff_eq_zero_or_eq_one.mp c with rfl|rfl
      .exact⟨[v],[b],λs us T R=>(r s us T).2 (by simpa using R),.cons C .nil,λG=>.cons (p G) .nil⟩
      .exact⟨[],[],λs us T R=>by rw[Vz] at R ⊢;exact(r s us T).1 R,.nil,λG=>.nil⟩
     .cases hd
    .cases hd
   .cases hd
def yJ:Tb->List DI->List (Option Ms)
 |_,[]=>[]
 |tb,d::ds=>mL (EM tb (tr tb oA) oA d.sc) (dy d.st)::yJ (tb.add d) ds
def qH:Tb->List DI->Tb
 |tb,[]=>tb
 |tb,d::ds=>qH (tb.add d) ds
def jY(K:UN)(mg:Str->Option Value)(d:DI)(f:Addr):Prop:=match d.cl with
 |none=>mg d.name=some (.ref f)
 |some c=>∃C,mg c=some (.ref C)/\pB K C/\Meth K C d.name f/\(d.name=("__init__" : Str)->Mk K C f)
section
variable{P:Program}{w:World}{K:UN}{mg:Str->Option Value}{base:Heap}
theorem Gd.up{j k:Nat}(G:Gd tb j P w K mg base)(h:j<=k):Gd tb k P w K mg base:=⟨λx f e=>by
 obtain⟨a,fd,ps,F,r⟩:=G.fn x f e;exact⟨a,fd,ps,F.mono h,r⟩,G.cs,G.bl,G.ex,G.kt,G.em,G.fl,λc f e=>by
 obtain⟨C,a,fd,ps,i,hi,r⟩:=G.im c f e;exact⟨C,a,fd,ps,i,Vg hi h,r⟩,λm c f e=>by
 obtain⟨C,a,fd,ps,F,r⟩:=G.mt m c f e;exact⟨C,a,fd,ps,F.mono h,r⟩⟩
theorem Gd.add{tb:Tb}{k:Nat}(G:Gd tb k P w K mg base){d:DI}{f:Addr}{fd:FuncData}{dV:Value}(m:jY K mg d f)(F:rp K d.name d.qual d.st f fd dV)(hd:zI K dV d.df=true)(u:iO d=true)(hp:v7 d=true)
  (h:mL (EM tb (tr tb oA) oA d.sc) (dy d.st)=some d.m):Gd (tb.add d) (k+2) P w K mg base:=by
 have G2:=G.up (show k<=k+2 by omega);have a:=IA G F u h;have T:kA K mg fd (d.N.take d.n) d.df:=J3 hp u F hd;unfold Tb.add;unfold jY at m;split
 .rename_i hc;rw[hc] at m;refine⟨λx fi e=>?_,G2.cs,G2.bl,G2.ex,G2.kt,G2.em,G2.fl,G2.im,G2.mt⟩
  .have e:((d.name,d.fi)::tb.fns).lookup x=some fi:=e;rw[Vs] at e;cases z:x==d.name with
   |true=>rw[z] at e;cases e;rw[beq_iff_eq] at z;subst z;exact⟨f,fd,_,a.mono (WI _),m,F.kp,T⟩
   |false=>rw[z] at e;exact G2.fn x fi e
 .rename_i c hc;rw[hc] at m;obtain⟨C,V,Z,v,U⟩:=m;split
  .rename_i z;rw[beq_iff_eq] at z;refine⟨G2.fn,G2.cs,G2.bl,G2.ex,G2.kt,G2.em,G2.fl,λx fi e=>?_,G2.mt⟩;have e:((c,d.fi)::tb.ini).lookup x=some fi:=e;rw[Vs] at e;cases y:x==c with
   |true=>rw[y] at e;cases e;rw[beq_iff_eq] at y;subst y;exact⟨C,f,fd,_,k+1,U2 _,a,V,U z,T⟩
   |false=>rw[y] at e;exact G2.im x fi e
  .refine⟨G2.fn,G2.cs,G2.bl,G2.ex,G2.kt,G2.em,G2.fl,G2.im,λx y fi e=>?_⟩;rcases U5.mp e with e|e
   .cases e;exact⟨C,f,fd,_,a.mono (WI _),V,Z,v,T⟩
   .exact G2.mt x y fi e
theorem Gd.all:∀{ds:List DI}{tb:Tb}{k:Nat},Gd tb k P w K mg base->(∀d∈ds,∃f fd dV,jY K mg d f/\rp K d.name d.qual d.st f fd dV/\zI K dV d.df=true)->ds.all (λd=>iO d&&v7 d)=true->yJ tb ds=ds.map (λd=>some d.m)->Gd (qH tb ds) (k+2*ds.length) P w K mg base
 |[],tb,k,G,_,_,_=>G
 |d::ds,tb,k,G,hf,hs,ht=>by rw[Vp,UO,UO] at hs;obtain⟨U,l⟩:=List.cons.inj ht;obtain⟨f,fd,dV,m,F,hd⟩:=hf d U9;have:=Gd.all (G.add m F hd hs.1.1 hs.1.2 U) (λe he=>hf e (UW _ he)) hs.2 l;rw[US,show k+2*(ds.length+1)=k+2+2*ds.length by omega];exact this
end
noncomputable abbrev D9:=Str×Str×Arguments×FuncBody×Scope×Addr×List (Str×Addr)×Addr×Bool
def QV(K:UN)(d:DI):Option Addr:=match d.cl with
 |none=>match gV K d.name with
  |some (.ref f)=>some f
  |_=>none
 |some c=>match gV K c with
  |some (.ref C)=>match Vy K (.ref C) d.name with
   |some (some (.ref f))=>some f
   |_=>none
  |_=>none
def Ub(K:UN)(d:DI)(f:Addr):Bool:=match d.cl with
 |none=>true
 |some c=>match gV K c with
  |some (.ref C)=>qL K C&&XY K (.ref f)&&(!(d.name==("__init__" : Str)) || (Yl K C&&VJ K (.ref C)))
  |_=>false
def J0(K:UN)(d:DI):Option D9:=match QV K d with
 |some f=>match K.lookup f with
  |some ⟨_,_,.func x,_⟩=>some (x.name,x.qualname,x.params,x.body,x.scope,x.globals,x.closure,x.builtins,XD K x.code d.qual&&VJ K (.ref f)&&zI K x.defaults d.df&&Ub K d f)
  |_=>none
 |none=>none
def Kz(d:DI):Option D9:=some (d.name,d.qual,dO d.st,.stmts (dy d.st),aZ d.st,mainGlobals,[],builtinsNs,true)
theorem EN(X:K.In h)(G:h.Ns mainGlobals mg)(e:J0 K d=Kz d):∃f fd dV,jY K mg d f/\rp K d.name d.qual d.st f fd dV/\zI K dV d.df=true:=by
 unfold J0 Kz at e;split at e
 .rename_i f B;split at e
  .rename_i F l x O T;obtain⟨b1,b2,R,Q,q,i,S,U,D,p,k,a,w,g,r⟩:=x;simp only[Option.some.injEq,Prod.mk.injEq] at e;obtain⟨rfl,rfl,rfl,rfl,rfl,rfl,rfl,rfl,E⟩:=e;simp only[UO] at E;obtain⟨⟨⟨Z,s⟩,P⟩,n⟩:=E;refine⟨f,_,_,?_,⟨⟨_,_,_,_,_,_,_,_,_,rfl,T,Z⟩,s⟩,P⟩;unfold jY;unfold QV at B;unfold Ub at n;split
   .rename_i hc;rw[hc] at B;simp only at B;split at B
    .rename_i v N;cases B;exact lj X G N
    .cases B
   .rename_i c hc;rw[hc] at B n;simp only at B n;split at B
    .rename_i C N;rw[N] at n;simp only[UO,V0,Vf,beq_eq_false_iff_ne] at n;split at B
     .rename_i v b;cases B;refine⟨C,lj X G N,ql n.1.1,⟨b,n.1.2,s⟩,λz=>?_⟩;rcases n.2 with y|y
      .exact absurd z y
      .rw[z] at b;exact⟨y.1,b,n.1.2,y.2⟩
     .cases B
    .cases B
  .cases e
 .cases e
def NV(ds:List DI)(h:UN->Bool)(K:UN):List (Option D9)×Bool:=(ds.map (J0 K),h K)
def N5(ds:List DI):List (Option D9)×Bool:=(ds.map Kz,true)
def hk(ds:List DI)(Z:UN->Bool):zaa where
 α:=List (Option D9)×Bool
 obs:=λs=>NV ds Z (W.jj s.heap)
 val:=λ_=>N5 ds
 says:=λ_ h=>∃K:UN,NV ds Z K=N5 ds/\K.In h
 of:=λ_ s e=>⟨W.jj s.heap,e,W.oX _⟩
 keeps:=λ_ _ _ ⟨K,e,i⟩ k=>⟨K,e,i.keeps k⟩
variable{ds:List DI}
theorem Ft{Z:UN->Bool}(X:K.In h)(G:h.Ns mainGlobals mg)(e:NV ds Z K=N5 ds):Z K=true/\∀d∈ds,∃f fd dV,jY K mg d f/\rp K d.name d.qual d.st f fd dV/\zI K dV d.df=true:=by obtain⟨e1,e2⟩:=Prod.mk.inj e;exact⟨e2,λd hd=>EN X G (List.map_eq_map_iff.mp e1 d hd)⟩
theorem DR{l:ZP}{q:Program}{loose:List Str}{XP:(Str->Option Value)->Heap->Prop}{d:DefRec}{di:DI}(hn:l.most=some 63)(J:d.params.defaults=[])(p:d.name = "law")
  (X:(ds++[di]).all (λd=>iO d&&v7 d)=true)(i:yJ tb ds=ds.map (λd=>some d.m))(hl:mL (EM (qH tb ds) (tr (qH tb ds) oA) oA di.sc) (dy di.st)=some di.m)(T:di.name = "law")(b:di.cl=none)(g:di.df=[])(v:di.N.take di.n=[x])(I:cp (2+2*ds.length) callerA)
  (hm:∀ns:List Int,ns.length<=63->∃Z,di.M [.fr (.lst (ns.map A.int))]=some (.rt (.fr (.bl true)),Z)):
  Z4 q loose XP (hk (ds++[di]) (IY tb)).says l.row.toRowW d [] (λf vs=>ZF f vs):=by
 refine W.CQ (l:=l) (n:=63) (k:=2+2*ds.length) (x:=x) (sp:=AE) hn (by decide) J I (λw mg Q h Y G y=>?_) (λ_ _ a ns hl _ D=>⟨a,ns,rfl,D,hl,λ_=>rfl⟩);obtain⟨K,e,r⟩:=Y;obtain⟨e1,e2⟩:=Ft r G e;refine⟨K,r,?_⟩;rw[List.all_append,UO] at X;obtain⟨f,fd,dV,V,R,c⟩:=e2 di (UX _ U9);rw[g] at c;have c:dV=.none:=by cases dV<;>first|rfl|cases c
 subst c;unfold jY at V;rw[p] at y;rw[b] at V;simp only at V;rw[T,y] at V;cases V;have z:=VA.mp X.2 di U9;rw[UO] at z;have E:di.n=1:=by have:=(jB z.1).2;rw[v] at this;exact this.symm
 refine⟨fd,λs u=>?_,λbase _ _=>?_⟩
 .obtain⟨oc,od,kV,doc,pm,an,cdv,ct,osl,rfl,t,H⟩:=R.ex;obtain⟨S,L⟩:=jB z.1;have hp:=z.2;unfold v7 at hp;simp only[UO,VG,W7,beq_iff_eq] at hp;obtain⟨⟨⟨⟨h1,h2⟩,h3⟩,h4⟩,h5⟩:=hp;have:=uS (fd:=X1 di.name di.qual (dO di.st) (dy di.st) (aZ di.st) .none kV doc pm an cdv ct) (us:=[u]) h1 h2 h3 h4 rfl h5 (S.nd.sublist (Xd _ _)) (by rw[v];rfl);rw[v] at this;exact .of_eq this
 .have o:=Gd.all (Kr (P:=l.prog) (w:=w) (base:=base) r G e1) (λd hd=>e2 d (Vk _ hd)) X.1 i;have U:=IA o R z.1 hl;rw[v,E,show 1+2*ds.length+1=2+2*ds.length by omega] at U;exact LV U hm
end M
set_option maxHeartbeats 4000000
namespace W
open PySem L2 M
noncomputable def top(i:Nat):Stmt:=PySem.Challenge.pw_fitwhatever_k11_least_and_most.main.body.getD i (.Pass ⟨0,0,0,0⟩)
def topC(i j:Nat):Stmt:=match top i with
 | .ClassDef _ _ _ b _ _ _ _ _ _ _=>b.getD j (.Pass ⟨0,0,0,0⟩)
 |s=>s
abbrev mix(m n:Mi Rr):Mi Rr:=az (dJ vG iC) m n
abbrev aw(i:Int):Mi Rr:=mC (.int i)
abbrev qb(b:Bool):A->A->Option Rr:=dJ (dJ (jF b) (gE b)) (qK b)
abbrev aO(f:Ms)(m:Mi (List Rr)):Mi Rr:=fq f [] m
abbrev EK(t:Mi Bool):Ms:=eS t (aN (mC (.bl false))) aS
abbrev gw(a:Mi Rr):Mi (List Rr):=bZ a eP
abbrev aK(a b:Mi Rr):Mi (List Rr):=bZ a (gw b)
abbrev mT(a b c:Mi Rr):Mi (List Rr):=bZ a (aK b c)
abbrev NH(a b c d:Mi Rr):Mi (List Rr):=bZ a (mT b c d)
def mw:Ms:=ay (aG 2 (aw 0)) (ay (eS (ao (az u0 (ae 1) (dg kl (ae 0)))) (aG 2 (mix (ae 0) (ae 1))) aS) (aN (eM (mT (dg Fd (az NX (dg zG (ae 2)) (az gX (aw 10) (aw 18)))) (ae 2) (az br (aw 17) (ae 1))))))
def i4:Ms:=aV 1 mw
def my:Ms:=ay (eS (ao (az dP (mix (ae 0) (aw 0)) (aw 1))) (ay (aG 2 (az iq (mix (ae 0) (aw 1)) (ae 1))) (ay (ou 0 (aw 1) (az j9 (mix (ae 0) (aw 1)) (ae 1))) (aN (ae 2)))) aS) (ay (aG 3 (az aX (mix (ae 0) (aw 2)) (aw 1))) (ay (ou 0 (aw 2) (ae 3)) (ay (aG 4 (az iq (az br (az aX (az aX (mix (ae 0) (aw 1)) (az br (az br (aw 7919) (ae 3)) (ae 3))) (ae 3)) (aw 48271)) (aw 2305843009213693951))) (aN (az iq (az j9 (az iq (az aX (az br (ae 4) (aw 1442695040888963407)) (aw 4321)) (aw 2305843009213693921)) (aw 64)) (ae 1))))))
def ax:Ms:=aV 3 my
abbrev Qb:Mi Rr:=mix (ae 2) (aO ax (aK (ae 0) (aw 37)))
def kN:Ms:=ay (aG 2 (mC (.str "abcdefghijklmnopqrstuvwxyz0123456789."))) (ay (aG 3 (Oa lh (mC (.str "")) (cA 1 (fz (aw 30)) (aH 8) bw Qb))) (ay (eS (ao (az dP (aO ax (aK (ae 0) (aw 3))) (aw 1))) (ay (aG 4 (aO ax (aK (ae 0) (aw 30)))) (aN (cA 1 (fz (ae 1)) (aH 8) bw (F2 (ae 3) ji (ig (az aX (aw 1) (az iq (az aX (ae 4) (az br (aw 7) (ae 8))) (aw 30)))))))) aS) (ay (aG 5 (az aX (aw 1) (aO ax (aK (ae 0) (aw 30))))) (ay (aG 6 (aO ax (aK (ae 0) (aj 5)))) (ay (aG 7 (aO ax (aK (ae 0) (aw 37)))) (aN (cA 1 (fz (ae 1)) (aH 8) bw (az aX (az aX (F2 (ae 3) ji (ig (ae 6))) (mix (ae 2) (az iq (az aX (ae 7) (az br (aw 5) (ae 8))) (aw 37)))) (F2 (ae 3) (ig (az aX (ae 6) (aw 1))) (ig (ae 5)))))))))))
def gY:Ms:=aV 6 kN
def jM:Ms:=ay (lL EF (ao (az iy (ae 1) (aw 0))) (AM 0 1 (aK (ae 1) (az iq (ae 0) (ae 1))))) (aN (dg zG (ae 0)))
def fP:Ms:=aV 0 jM
def oT:Ms:=ay (eS (ao (az u0 (ae 1) (aw 0))) (ay (aG 0 (az fD (aw 0) (ae 0))) (aG 1 (az fD (aw 0) (ae 1)))) aS) (ay (aG 2 (aO fP (aK (aj 0) (aj 1)))) (aN (aU (aK (az j9 (ae 0) (ae 2)) (az j9 (ae 1) (ae 2))))))
def cB:Ms:=aV 1 oT
def mr:Ms:=ay (eS (ao (az dP (ae 1) (aw 4))) (aN (aU (aK (az fD (aO ax (aK (ae 0) (km (az aX (az br (aw 2) (az gX (aw 10) (aw 17))) (aw 1))))) (az gX (aw 10) (aw 17))) (aw 1)))) aS) (ay (eS (ao (az dP (ae 1) (aw 3))) (aN (aO cB (aK (az fD (aO ax (aK (ae 0) (km (az aX (az br (aw 2) (az gX (aw 10) (aw 6))) (aw 1))))) (az gX (aw 10) (aw 6))) (km (az aX (aw 1) (aO ax (aK (ae 0) (aw 1000)))))))) aS) (ay (eS (ao (az dP (ae 1) (aw 2))) (aN (aU (aK (az fD (aO ax (aK (ae 0) (km (az aX (az br (aw 2) (az gX (aw 10) (aw 15))) (aw 1))))) (az gX (aw 10) (aw 15))) (aw 1)))) aS) (aN (aO cB (aK (az fD (aO ax (aK (ae 0) (aw 21))) (aw 10)) (mix (eM (bZ (aw 1) (NH (aw 1) (aw 2) (aw 3) (aw 6)))) (aO ax (aK (ae 0) (aw 5)))))))))
def fL:Ms:=aV 0 mr
def nY:Ms:=aN (aO cB (aK (km (az aX (az br (mix (ae 0) (aw 0)) (mix (ae 1) (aw 1))) (az br (mix (ae 1) (aw 0)) (mix (ae 0) (aw 1))))) (az br (mix (ae 0) (aw 1)) (mix (ae 1) (aw 1)))))
def bT:Ms:=aV 0 nY
def l7:Ms:=ay (aG 2 (aO fL (aK (ae 0) (aj 1)))) (ay (eS (ao (az dP (aO ax (aK (ae 0) (aw 8))) (aw 1))) (aN (aU (aK (aw 0) (aw 1)))) aS) (aN (aU (aK (dg zG (mix (ae 2) (aw 0))) (mix (ae 2) (aw 1))))))
def fE:Ms:=aV 1 l7
abbrev Sv:Ms:=eS (ao (az iy (ae 5) (eM eP))) (ay (aG 12 (aO fE (aK (ae 0) (aj 4)))) (bO (iJ 10 (dN 10 (aU (mT (vS 5) (ae 12) (mix (eM (mT (mC (.str "fixed")) (mC (.str "big")) (mC (.str "small")))) (aO ax (aK (ae 0) (aw 3)))))))))) aS
abbrev D7:Mi Bool:=oe (ao (az iy (ae 5) (eM eP))) (ao (az u0 (dg kl (ae 6)) (ae 1)))
abbrev Bj:Ms:=ay (aG 7 (vS 5)) (ay (aG 8 (aO fL (aK (ae 0) (aj 4)))) (ay (aG 9 (aO bT (aK (aj 8) (aO fE (aK (ae 0) (aj 4)))))) (ay (aG 10 (eM eP)) (ay (dm (fz (mix (eM (bZ (aw 0) (bZ (aw 0) (bZ (aw 1) (bZ (aw 1) (NH (aw 2) (aw 3) (aw 2) (aw 5))))))) (aO ax (aK (ae 0) (aw 8))))) (aH 11) Sv) (bO (iJ 6 (dN 6 (aU (NH (ae 7) (ae 8) (ae 9) (dg fB (ae 10)))))))))))
def kh:Ms:=ay (aG 4 (aO ax (aK (ae 0) (aj 3)))) (ay (aG 5 (aO gY (aK (ae 0) (aj 2)))) (ay (aG 6 (eM eP)) (ay (lL EF D7 Bj) (aN (ae 6)))))
def gF:Ms:=aV 9 kh
def hU:Ms:=ay (EK (Ae (gQ (ao (dg (oH Ty.str) (ae 0)))) (gQ (ao (gy OC OC (aw 1) (dg kl (ae 0)) (ae 2)))))) (aN (dg (pK λbs=>List.all bs id) (cA 1 (bU (ae 0)) (aH 3) bw (az (qb false) (ae 3) (ae 1)))))
def g7:Ms:=aV 0 hU
def p0:Ms:=aN (aO g7 (mT (aj 0) (mC (.str "abcdefghijklmnopqrstuvwxyz0123456789.")) (aw 30)))
def pO:Ms:=aV 0 p0
def iM:Ms:=ay (aG 1 pX) (dm (bU (ae 0)) (aH 2) (ay (eS (gQ (ao (aO pO (gw (aj 2))))) (eI "NoSize" (gw (mC (.str "a name has one to thirty small letters, figures and dots")))) aS) (ay (eS (ao (az (qb false) (ae 2) (ae 1))) (eI "NoSize" (gw (Kw (mJ (mC (.str "the name ")) (mJ (MP (ae 2)) (mJ (mC (.str " comes twice")) (fk []))))))) aS) (hV 1 (ae 2) (mC (.bl true))))))
def fA:Ms:=aV 2 iM
def qx:Ms:=aN (az u0 (az br (mix (ae 0) (aw 0)) (mix (ae 1) (aw 1))) (az br (mix (ae 1) (aw 0)) (mix (ae 0) (aw 1))))
def cE:Ms:=aV 0 qx
def f6:Ms:=ay (lL EF (ao (az iy (ae 1) (aw 0))) (ay (aG 2 (az iq (ae 0) (ae 1))) (ay (aG 0 (ae 1)) (aG 1 (ae 2))))) (aN (ae 0))
def dE:Ms:=aV 1 f6
def oP:Ms:=aN (tf (dg (oH Ty.int) (ae 0)) (yB (dg (oH Ty.bool) (ae 0))))
def jU:Ms:=aV 0 oP
def lS:Ms:=ay (EK (Ae (gQ (ao (dg (oH Ty.tuple) (ae 0)))) (ao (az iy (dg kl (ae 0)) (aw 2))))) (ay (EK (Ae (gQ (ao (aO jU (gw (mix (ae 0) (aw 0)))))) (Ae (gQ (ao (aO jU (gw (mix (ae 0) (aw 1)))))) (ao (az u0 (mix (ae 0) (aw 1)) (aw 1)))))) (aN (az dP (aO dE (aK (mix (ae 0) (aw 0)) (mix (ae 0) (aw 1)))) (aw 1))))
def fN:Ms:=aV 0 lS
def g8:Ms:=ay (eS (Ae (gQ (ao (aO fN (gw (aj 0))))) (gQ (ao (aO fN (gw (aj 1)))))) (eI "NoSize" (gw (mC (.str "the bounds of a size are numbers")))) aS) (eS (ao (aO cE (aK (aj 1) (aj 0)))) (eI "NoSize" (gw (mC (.str "the least of a size is not above its most")))) aS)
def hW:Ms:=aV 0 g8
def iA:Ms:=ay (eS (Ae (gQ (ao (aO fN (gw (mix (ae 0) (aw 1)))))) (ao (aO cE (aK (mix (ae 0) (aw 1)) (mC (.tup [.int 0,.int 1])))))) (eI "NoSize" (gw (mC (.str "an allowance is a number from 0 on")))) aS) (eS (ao (az (qb true) (mix (ae 0) (aw 2)) (mC (.tup [.str "fixed",.str "big",.str "small"])))) (eI "NoSize" (gw (mC (.str "a way is fixed, big or small")))) aS)
def iX:Ms:=aV 0 iA
def kQ:Ms:=aN (az aX (eM (gw (j4 (bp ["Size"] "name") (ae 0)))) (cA 1 (bU (j4 (bp ["Size"] "shifts") (ae 0))) (aH 1) bw (mix (ae 1) (aw 0))))
def bV:Ms:=aV 0 kQ
def jJ:Ms:=ay (aG 1 (eM eP)) (ay (dm (bU (j4 (bp ["Stock"] "kept") (ae 0))) (aH 2) (bO (iJ 1 (kW 1 (aO bV (gw (cf "Size" "names" (aj 2)))))))) (aN (ae 1)))
def bC:Ms:=aV 2 jJ
def lZ:Ms:=ay (iL ["Size"] 0 "name" (ae 1)) (ay (iL ["Size"] 0 "least" (ae 2)) (ay (iL ["Size"] 0 "most" (ae 3)) (ay (iL ["Size"] 0 "shifts" (JM (ao (az (EJ false) (ae 4) (mC .non))) (aU eP) (dg fB (cA 1 (bU (ae 4)) (aH 6) bw (aU (mT (mix (ae 6) (aw 0)) (mix (ae 6) (aw 1)) (mix (ae 6) (aw 2)))))))) (ay (bO (aO hW (aK (aj 2) (aj 3)))) (ay (dm (bU (j4 (bp ["Size"] "shifts") (ae 0))) (aH 5) (bO (aO iX (gw (aj 5))))) (bO (aO fA (gw (km (nu (aO bC (gw (cf "Stock" "names" (ae 0)))) (aO bV (gw (cf "Size" "names" (ae 0))))))))))))))
def bM:Ms:=aV 1 lZ
def fm:Ms:=aN (kC "Size" bM [] (NH (j4 (bp ["Size"] "name") (ae 0)) (aj 1) (aj 2) (j4 (bp ["Size"] "shifts") (ae 0))))
def ff:Ms:=aV 0 fm
def jL:Ms:=aN (aO ff (mT (aj 0) (j4 (bp ["Size"] "least") (ae 0)) (j4 (bp ["Size"] "most") (ae 0))))
def fS:Ms:=aV 0 jL
def kZ:Ms:=ay (iL ["Stock"] 0 "kept" (cA 1 (bU (ae 1)) (aH 2) bw (aO fS (gw (aj 2))))) (bO (aO fA (gw (km (nu (aO bC (gw (cf "Stock" "names" (ae 0)))) (aO bV (gw (cf "Size" "names" (ae 0)))))))))
def cF:Ms:=aV 0 kZ
def gi:Ms:=ay (aG 1 (eM eP)) (ay (dm (bU (ae 0)) (cY 4 (aE (aH 2) (aE (aH 3) (aE (aH 4) (aE (aH 5) dw))))) (ay (bO (iJ 1 (dN 1 (ae 2)))) (bO (iJ 1 (kW 1 (cA 3 (bU (ae 5)) (cY 3 (aE (aH 6) (aE (aH 7) (aE (aH 8) dw)))) bw (ae 6))))))) (aN (ae 1)))
def gj:Ms:=aV 5 gi
def nM:Ms:=aN (aO cB (aK (az br (mix (ae 0) (aw 0)) (mix (ae 1) (aw 0))) (az br (mix (ae 0) (aw 1)) (mix (ae 1) (aw 1)))))
def gG:Ms:=aV 0 nM
def lW:Ms:=aN (aO bT (aK (aj 0) (aU (aK (az fD (aw 0) (mix (ae 1) (aw 0))) (mix (ae 1) (aw 1))))))
def iI:Ms:=aV 0 lW
abbrev TC:Ms:=ay (eS (oe (ao (az dP (ae 7) (ae 1))) (ao (az dP (ae 9) (mC (.str "fixed"))))) (aN (ae 8)) aS) (ay (eS (oe (ao (az dP (ae 7) (ae 1))) (ao (az dP (ae 9) (mC (.str "big"))))) (aN (aO bT (aK (aj 8) (aO iI (aK (aj 2) (aj 4)))))) aS) (eS (ao (az dP (ae 7) (ae 1))) (aN (aO bT (aK (aj 8) (aO iI (aK (aj 5) (aj 2)))))) aS))
def mD:Ms:=ay (AU (ae 0) (cY 4 (aE (aH 3) (aE (aH 4) (aE (aH 5) (aE (aH 6) dw)))))) (ay (dm (bU (ae 6)) (cY 3 (aE (aH 7) (aE (aH 8) (aE (aH 9) dw)))) TC) (aN (mC .non)))
def mq:Ms:=aV 7 mD
def kU:Ms:=ay (aG 3 (lI (mix (ae 0) (aw 0)) (ae 2))) (ay (aG 4 (aO gG (aK (km (nT (ae 1) (mix (ae 0) (aw 0)) (aU (aK (aw 0) (aw 1))))) (aj 2)))) (ay (dm (bU (mix (ae 0) (aw 3))) (cY 3 (aE (aH 5) (aE (aH 6) (aE (aH 7) dw)))) (ay (aG 8 (nT (ae 1) (ae 5) (aU (aK (aw 0) (aw 1))))) (ay (aG 9 (aO mq (mT (aj 0) (aj 5) (aj 2)))) (ay (hV 3 (ae 5) (aU (aK (aw 0) (aw 1)))) (ay (eS (ao (az G8 (mix (ae 8) (aw 0)) (aw 0))) (hV 3 (ae 5) (aU (aK (az fD (aw 0) (mix (ae 9) (aw 0))) (mix (ae 9) (aw 1))))) aS) (ay (eS (ao (az u0 (mix (ae 8) (aw 0)) (aw 0))) (hV 3 (ae 5) (ae 9)) aS) (aG 4 (aO bT (aK (aj 4) (aO gG (aK (aj 8) (mix (ae 3) (ae 5))))))))))))) (aN (aU (aK (ae 4) (ae 3))))))
def eQ:Ms:=aV 7 kU
def kL:Ms:=aN (az u0 (az br (mix (ae 0) (aw 0)) (mix (ae 1) (aw 1))) (az br (mix (ae 1) (aw 0)) (mix (ae 0) (aw 1))))
def gW:Ms:=aV 0 kL
def jN:Ms:=ay (aG 2 (dg (sG jX iS) (mix (ae 1) (aw 1)))) (ay (aG 3 (mix (ae 1) (aw 0))) (ay (aG 4 pX) (ay (dm (bU (ae 0)) (aH 5) (ay (aG 6 (aO eQ (mT (aj 5) (aj 2) (mix (ae 5) (aw 1))))) (ay (aG 7 (aO eQ (mT (aj 5) (aj 2) (mix (ae 5) (aw 2))))) (ay (eS (ao (aO gW (aK (mix (ae 7) (aw 0)) (mix (ae 6) (aw 0))))) (aG 6 (ae 7)) aS) (ay (aG 3 (aO bT (aK (aj 3) (mix (ae 6) (aw 0))))) (bO (uk 4 (mix (ae 6) (aw 1))))))))) (aN (aU (aK (ae 3) (ae 4)))))))
def dQ:Ms:=aV 6 jN
def kJ:Ms:=aN (aU (aK (aU (aK (az fD (aw 0) (mix (mix (ae 0) (aw 0)) (aw 0))) (mix (mix (ae 0) (aw 0)) (aw 1)))) (dg fB (cA 2 (bU (mix (ae 0) (aw 1))) (cY 2 (aE (aH 1) (aE (aH 2) dw))) bw (aU (aK (ae 1) (aU (aK (az fD (aw 0) (mix (ae 2) (aw 0))) (mix (ae 2) (aw 1))))))))))
def kq:Ms:=aV 0 kJ
def qk:Ms:=ay (EK (Ae (gQ (ao (dg (oH Ty.tuple) (ae 0)))) (Ae (ao (az iy (dg kl (ae 0)) (aw 2))) (ao (az iy (ae 0) (ae 1)))))) (aN (az (qb true) (mC (.bl false)) (cA 1 (bU (ae 0)) (aH 2) bw (tf (dg (oH Ty.int) (ae 2)) (yB (dg (oH Ty.bool) (ae 2)))))))
def gf:Ms:=aV 0 qk
def i9:Ms:=ay (aG 2 (aO dE (aK (aj 0) (aj 1)))) (aN (aU (aK (az j9 (ae 0) (ae 2)) (az j9 (ae 1) (ae 2)))))
def cw:Ms:=aV 1 i9
def yd:Ms:=aN (aO cw (aK (az br (mix (ae 0) (aw 0)) (mix (ae 1) (aw 0))) (az br (mix (ae 0) (aw 1)) (mix (ae 1) (aw 1)))))
def jz:Ms:=aV 0 yd
def oj:Ms:=aN (aO jz (aK (aj 0) (mC (.tup [.int (XT 0),.int 1]))))
def ph:Ms:=aV 0 oj
def iN:Ms:=ay (eS (ao (aO cE (aK (mC (.tup [.int 0,.int 1])) (aj 0)))) (aN (aO ph (gw (aj 1)))) aS) (aN (JM (ao (aO cE (aK (aj 0) (mC (.tup [.int 0,.int 1]))))) (ae 1) (mC (.tup [.int 0,.int 1]))))
def ja:Ms:=aV 0 iN
def Cy:Ms:=aN (aO cw (aK (km (az aX (az br (mix (ae 0) (aw 0)) (mix (ae 1) (aw 1))) (az br (mix (ae 1) (aw 0)) (mix (ae 0) (aw 1))))) (az br (mix (ae 0) (aw 1)) (mix (ae 1) (aw 1)))))
def rA:Ms:=aV 0 Cy
def yD:Ms:=aN (aO cw (aK (az fD (az br (mix (ae 0) (aw 0)) (mix (ae 1) (aw 1))) (az br (mix (ae 1) (aw 0)) (mix (ae 0) (aw 1)))) (az br (mix (ae 0) (aw 1)) (mix (ae 1) (aw 1)))))
def qN:Ms:=aV 0 yD
abbrev T2:Ms:=ay (eS (oe (ao (az dP (ae 3) (ae 1))) (ao (az dP (ae 5) (mC (.str "big"))))) (aN (aO rA (aK (aj 4) (aO qN (aK (aj 2) (j4 (bp ["Size"] "least") (ae 0))))))) aS) (ay (eS (oe (ao (az dP (ae 3) (ae 1))) (ao (az dP (ae 5) (mC (.str "small"))))) (aN (aO rA (aK (aj 4) (aO qN (aK (j4 (bp ["Size"] "most") (ae 0)) (aj 2)))))) aS) (eS (ao (az dP (ae 3) (ae 1))) (aN (ae 4)) aS))
def lY:Ms:=ay (dm (bU (j4 (bp ["Size"] "shifts") (ae 0))) (cY 3 (aE (aH 3) (aE (aH 4) (aE (aH 5) dw)))) T2) (eI "NoSize" (gw (Kw (mJ (mC (.str "the size has no shift ")) (mJ (MP (ae 1)) (fk []))))))
def mE:Ms:=aV 3 lY
abbrev UB:Ms:=hV 3 (mix (ae 4) (aw 0)) (aO ja (aK (km (nT (ae 2) (mix (ae 4) (aw 0)) (mC (.tup [.int 0,.int 1])))) (km (aO mE (mT (cf "Size" "room" (aj 0)) (mix (ae 4) (aw 0)) (aj 1))))))
def ik:Ms:=ay (aG 3 (lI (j4 (bp ["Size"] "name") (ae 0)) (ae 1))) (ay (dm (bU (j4 (bp ["Size"] "shifts") (ae 0))) (aH 4) UB) (aN (ae 3)))
def eF:Ms:=aV 2 ik
def sZ:Ms:=ay (aG 2 (mix (mix (ae 0) (aw 0)) (aw 0))) (ay (aG 3 (mix (mix (ae 0) (aw 0)) (aw 1))) (ay (dm (bU (mix (ae 0) (aw 1))) (cY 2 (aE (aH 4) (aE (aH 5) dw))) (ay (eS (ao (az (qb true) (ae 4) (ae 1))) (eI "NoSum" (gw (Kw (mJ (mC (.str "the making lacks the name ")) (mJ (MP (ae 4)) (fk [])))))) aS) (ay (aG 6 (mix (ae 1) (ae 4))) (ay (aG 2 (az aX (az br (az br (ae 2) (mix (ae 5) (aw 1))) (mix (ae 6) (aw 1))) (az br (az br (mix (ae 5) (aw 0)) (mix (ae 6) (aw 0))) (ae 3)))) (aG 3 (az br (az br (ae 3) (mix (ae 5) (aw 1))) (mix (ae 6) (aw 1)))))))) (aN (aO cw (aK (aj 2) (aj 3))))))
def gc:Ms:=aV 5 sZ
def n5:Ms:=aN (aO gc (aK (aU (aK (mC (.tup [.int 0,.int 1])) (dg fB (lM (λs=>Kv (zal s)) 1 0 (aH 2) (ao (az (qb false) (ae 2) (ae 1))) (aU (aK (ae 2) (mix (ae 1) (ae 2)))))))) (aj 0)))
def eX:Ms:=aV 0 n5
def hZ:Ms:=ay (aG 2 (aO eF (mT (aj 0) (j4 (bp ["Size"] "least") (ae 0)) (aj 1)))) (ay (aG 3 (aO eF (mT (aj 0) (j4 (bp ["Size"] "most") (ae 0)) (aj 1)))) (aN (JM (ao (aO cE (aK (aO eX (aK (aj 3) (aj 1))) (aO eX (aK (aj 2) (aj 1)))))) (ae 3) (ae 2))))
def ip:Ms:=aV 2 hZ
abbrev Sy:Ms:=eS (ao (az (qb true) (ae 3) (ae 2))) (eI "NoSum" (gw (Kw (mJ (mC (.str "the stock lacks the name ")) (mJ (MP (ae 3)) (fk [])))))) aS
def fG:Ms:=ay (aG 2 (nu (aO bC (gw (cf "Stock" "names" (ae 0)))) (aO bV (gw (cf "Size" "names" (ae 0)))))) (ay (dm (bU (mix (ae 1) (aw 1))) (cY 2 (aE (aH 3) (aE (aH 4) dw))) Sy) (ay (aG 5 (dg (sG jX iS) (mix (ae 1) (aw 1)))) (ay (aG 6 pX) (ay (dm (bU (j4 (bp ["Stock"] "kept") (ae 0))) (aH 7) (bO (uk 6 (aO ip (aK (aj 7) (aj 5)))))) (aN (ae 6))))))
def bA:Ms:=aV 6 fG
def sJ:Ms:=ay (aG 2 pX) (ay (dm (bU (ae 1)) (cY 2 (aE (aH 3) (aE (aH 4) dw))) (hV 2 (ae 3) (aO rA (aK (km (nT (ae 2) (ae 3) (mC (.tup [.int 0,.int 1])))) (aj 4))))) (aN (aU (aK (ae 0) (dg fB (cA 1 (bU (dg (sG bX cC) (ae 2))) (aH 5) (ao (az iy (mix (ae 2) (ae 5)) (mC (.tup [.int 0,.int 1])))) (aU (aK (ae 5) (mix (ae 2) (ae 5))))))))))
def uV:Ms:=aV 3 sJ
def lR:Ms:=aN (aO uV (aK (aO jz (aK (mix (ae 0) (aw 0)) (aj 1))) (km (cA 2 (bU (mix (ae 0) (aw 1))) (cY 2 (aE (aH 2) (aE (aH 3) dw))) bw (aU (aK (ae 2) (aO jz (aK (aj 3) (aj 1)))))))))
def l5:Ms:=aV 0 lR
def fC:Ms:=aN (aO bA (aK (cf "Stock" "lowest_at" (ae 0)) (aO l5 (aK (aj 1) (mC (.tup [.int (XT 0),.int 1]))))))
def bS:Ms:=aV 0 fC
def iW:Ms:=aN (aO gc (aK (aj 1) (km (aO bA (aK (cf "Stock" "lowest_at" (ae 0)) (aj 1))))))
def c9:Ms:=aV 0 iW
def hE:Ms:=aN (aO gc (aK (aj 1) (km (aO bS (aK (cf "Stock" "highest_at" (ae 0)) (aj 1))))))
def cO:Ms:=aV 0 hE
def kB:Ms:=ay (eS (ao (az dP (ae 0) (aw 0))) (aN (aO c9 (aK (cf "Stock" "lowest" (aj 1)) (aj 2)))) aS) (ay (eS (ao (az dP (ae 0) (aw 1))) (aN (aO cO (aK (cf "Stock" "highest" (aj 1)) (aj 2)))) aS) (ay (eS (ao (az dP (ae 0) (aw 2))) (aN (aO bA (aK (cf "Stock" "lowest_at" (aj 1)) (aj 2)))) aS) (aN (aO bS (aK (cf "Stock" "highest_at" (aj 1)) (aj 2))))))
def bc:Ms:=aV 0 kB
abbrev RP:Ms:=ay (aG 9 (aO bc (mT (aj 7) (aj 1) (aj 2)))) (ay (EK (Ae (gQ (ao (dg (oH Ty.dict) (ae 9)))) (ao (az (dJ iy kF) (ae 9) (mix (eM (aK (ae 4) (ae 6))) (az fD (ae 7) (aw 2))))))) (ay (EK (ao (az (qb false) (mC (.bl false)) (jQ (λx=>zam x) 1 9 (aH 10) bw (aO gf (aK (aj 10) (aj 10))))))) (hV 9 (mC (.str "Z")) (aU (aK (aw 1) (aw 1))))))
def kS:Ms:=ay (AU (aO dQ (aK (aj 0) (aj 2))) (cY 2 (aE (aH 3) (aE (aH 4) dw)))) (ay (AU (aO dQ (aK (aj 0) (aO kq (gw (aj 2))))) (cY 2 (aE (aH 5) (aE (aH 6) dw)))) (ay (aG 5 (aU (aK (az fD (aw 0) (mix (ae 5) (aw 0))) (mix (ae 5) (aw 1))))) (ay (EK (Ae (gQ (ao (aO gf (aK (km (aO c9 (aK (cf "Stock" "lowest" (aj 1)) (aj 2)))) (aj 3))))) (gQ (ao (aO gf (aK (km (aO cO (aK (cf "Stock" "highest" (aj 1)) (aj 2)))) (aj 5))))))) (ay (dm (bU (eM (aK (aw 2) (aw 3)))) (aH 7) (dm (fz (aw 2)) (aH 8) RP)) (aN (mC (.bl true)))))))
def gx:Ms:=aV 7 kS
def lU:Ms:=ay (eS (ao (az dP (aO ax (aK (ae 0) (aw 8))) (aw 1))) (aN (aO ax (aK (ae 0) (aw 9)))) aS) (aN (aO ax (aK (ae 0) (aj 1))))
def iB:Ms:=aV 0 lU
def mf:Ms:=ay (aG 2 (eM eP)) (ay (dm (bU (ae 1)) (cY 4 (aE (aH 3) (aE (aH 4) (aE (aH 5) (aE (aH 6) dw))))) (ay (aG 7 (aO ax (aK (ae 0) (aw 2)))) (eS (oe (ao (az dP (ae 6) (aU eP))) (ao (az dP (ae 7) (aw 1)))) (bO (iJ 2 (dN 2 (kC "Size" bM [.non] (mT (aj 3) (aj 4) (aj 5)))))) (bO (iJ 2 (dN 2 (kC "Size" bM [] (NH (aj 3) (aj 4) (aj 5) (mix (eM (aK (ae 6) (dg DE (ae 6)))) (ae 7)))))))))) (aN (ae 2)))
def iG:Ms:=aV 6 mf
def jO:Ms:=ay (aG 1 (aO ax (aK (ae 0) (aw 8)))) (ay (eS (ao (az dP (ae 1) (aw 7))) (aN (aU (aK (az fD (aO ax (aK (ae 0) (km (az aX (az br (aw 2) (az gX (aw 10) (aw 17))) (aw 1))))) (az gX (aw 10) (aw 17))) (aw 1)))) aS) (ay (eS (ao (az dP (ae 1) (aw 6))) (aN (aO cB (aK (az fD (aO ax (aK (ae 0) (km (az aX (az br (aw 2) (az gX (aw 10) (aw 8))) (aw 1))))) (az gX (aw 10) (aw 8))) (km (az aX (aw 1) (aO ax (aK (ae 0) (az gX (aw 10) (aw 8))))))))) aS) (ay (eS (ao (az G8 (ae 1) (aw 3))) (aN (aO cB (aK (az fD (aO ax (aK (ae 0) (aw 201))) (aw 100)) (km (az aX (aw 1) (aO ax (aK (ae 0) (aw 6)))))))) aS) (aN (aU (aK (az fD (aO ax (aK (ae 0) (aw 9))) (aw 4)) (aw 1)))))))
def cM:Ms:=aV 1 jO
def nk:Ms:=ay (aG 2 (eM eP)) (ay (dm (bU (dg (sG bX cC) (ae 1))) (aH 3) (ay (aG 4 (aO ax (aK (ae 0) (aw 9)))) (ay (aG 5 (mix (eM (bZ (aU (aK (aw 0) (aw 1))) (bZ (aU (aK (aw 0) (aw 1))) (bZ (aU (aK (aw 1) (aw 1))) (bZ (aU (aK (j4 BG (aw 1)) (aw 1))) (NH (aU (aK (aw 2) (aw 1))) (aU (aK (j4 BG (aw 2)) (aw 1))) (aU (aK (aw 1) (aw 3))) (aU (aK (j4 BG (aw 5)) (aw 7))))))))) (az iq (ae 4) (aw 8)))) (ay (eS (ao (az dP (ae 4) (aw 8))) (aG 5 (aO cM (gw (ae 0)))) aS) (eS (ao (az iy (mix (ae 5) (aw 0)) (aw 0))) (bO (iJ 2 (dN 2 (aU (aK (ae 3) (ae 5)))))) aS))))) (aN (aU (aK (aO cM (gw (ae 0))) (dg fB (ae 2))))))
def jR:Ms:=aV 4 nk
def i5:Ms:=ay (aG 3 (mC (.bl false))) (ay (Eb 4 (P2 ["NoSize", "NoSum"]) (bO (aO bc (i8 (mT (aj 0) (aj 1) (aj 2))))) (ay (aG 3 (tf (dg (hJ (Nm [("NoSize",false),("NoSum",true)])) (ae 4)) (dg (hJ (Nm [("NoSize",true),("NoSum",true)])) (ae 4)))) (ay (eS (ao (dg (hJ (lN [[("NoSize",false),("NoSum",false)],[("NoSize",false),("NoSum",false)],[("NoSize",false),("NoSum",false)],[("NoSize",false),("NoSum",false)],[("NoSize",false),("NoSum",false)],[("NoSize",false),("NoSum",false)],[("NoSize",false),("NoSum",false)],[("NoSize",false),("NoSum",false)]])) (ae 4))) (aG 3 (mC (.bl false))) aS) (eS (ao (dg (hJ (lN [[("NoSize",false),("NoSum",false)],[("NoSize",false),("NoSum",false)],[("NoSize",false),("NoSum",false)],[("NoSize",true),("NoSum",false)],[("NoSize",false),("NoSum",false)]])) (ae 4))) (aG 3 (mC (.bl false))) aS)))) (aN (ae 3)))
def fw:Ms:=aV 2 i5
abbrev T7:Ms:=ay (aG 1 (aO i4 (aK (aj 0) (aj 5)))) (ay (aG 6 (aO jR (aK (ae 1) (aj 4)))) (ay (EK (gQ (ao (aO gx (mT (aj 2) (aj 3) (aj 6)))))) (ay (aG 7 (cA 1 (fz (aw 15)) (aH 11) bw (az br (mC (.str "zz")) (az aX (aw 1) (ae 11))))) (ay (aG 7 (mix (cA 1 (bU (ae 7)) (aH 11) (ao (az (qb true) (ae 11) (ae 4))) (ae 11)) (aO ax (aK (ae 1) (aw 3))))) (ay (aG 8 (aO cM (gw (ae 1)))) (ay (eS (ao (az dP (mix (ae 8) (aw 0)) (aw 0))) (aG 8 (aU (aK (aw 1) (aw 1)))) aS) (ay (aG 9 (aU (aK (mix (ae 6) (aw 0)) (dg fB (dg fh (az aX (mix (ae 6) (aw 1)) (aU (gw (aU (aK (ae 7) (ae 8))))))))))) (dm (fz (aw 4)) (aH 10) (EK (gQ (ao (aO fw (mT (aj 10) (aj 3) (aj 9))))))))))))))
def IB:Ms:=ay (aG 1 (aO i4 (aK (aj 0) (aw 0)))) (ay (aG 2 (aO gF (NH (ae 1) (aO iB (aK (ae 1) (aw 5))) (aw 12) (aw 5)))) (ay (aG 3 (kC "Stock" cF [] (gw (aO iG (aK (ae 1) (aj 2)))))) (ay (aG 4 (aO gj (gw (aj 2)))) (ay (dm (uq (aw 1) (EE Bo (aw 2) (EE Cj (dg kl (ae 0)) (aw 9)))) (aH 5) T7) (aN (aO gx (mT (km (eM eP)) (km (kC "Stock" cF [] (gw (km (eM eP))))) (aU (aK (aU (aK (aw 3) (aw 7))) (aU eP))))))))))
def IS:Ms:=aV 10 IB
noncomputable def JD:Tb:={ fns:=[],cst:=[("ZERO",(.tup [(.int 0),(.int 1)])),("MINUS_ONE",(.tup [(.int (-1)),(.int 1)])),("NAME_SIGNS",(.str "abcdefghijklmnopqrstuvwxyz0123456789.")),("NAME_LENGTH",(.int 30)),("WAYS",(.tup [(.str "fixed"),(.str "big"),(.str "small")]))],exs:=["NoSize", "NoSum"],kit:=[("NoBins",[("NoSize",false),("NoSum",false)]),("NoDealing",[("NoSize",false),("NoSum",false)]),("NoFace",[("NoSize",false),("NoSum",false)]),("NoFit",[("NoSize",false),("NoSum",false)]),("NoJoint",[("NoSize",false),("NoSum",false)]),("NoMaking",[("NoSize",false),("NoSum",false)]),("NoNumber",[("NoSize",false),("NoSum",false)]),("NoPart",[("NoSize",false),("NoSum",false)]),("NoProgram",[("NoSize",false),("NoSum",false)]),("NoRow",[("NoSize",false),("NoSum",false)]),("NoSheet",[("NoSize",false),("NoSum",false)]),("NoSize",[("NoSize",true),("NoSum",false)]),("TooMany",[("NoSize",false),("NoSum",false)]),("NoSum",[("NoSize",false),("NoSum",true)]),("ValueError",[("NoSize",true),("NoSum",true)])],exm:=[("FitError",["NoSize", "NoSum"])],fld:=[("Size",["name", "least", "most", "shifts"]),("Stock",["kept"])],ini:=[],mts:=[] }
def EG:List DI:=[
 ⟨none, "_law_well",top 51,["_law_script", "_law_k", "_law_cell"],2,[],[false,false],[],[],mw,[],false⟩,
 ⟨none, "_law_take",top 52,["_law_well_here", "_law_many_here", "_law_digit", "_law_turn", "_law_number_here"],2,[],[true,false],[],[],my,[],false⟩,
 ⟨none, "_law_names",top 60,["_law_well_here", "_law_many_here", "_law_signs", "_law_base", "_law_start", "_law_long", "_law_spot", "_law_first"],2,[],[true,false],[],[],kN,[],false⟩,
 ⟨none, "_law_common",top 53,["_law_one", "_law_other"],2,[],[false,false],[],[],jM,[],false⟩,
 ⟨none, "_law_num",top 54,["_law_top", "_law_bottom", "_law_by"],2,[],[false,false],[],[],oT,[],false⟩,
 ⟨none, "_law_some",top 61,["_law_well_here", "_law_kind"],2,[],[true,false],[],[],mr,[],false⟩,
 ⟨none, "_law_add",top 55,["_law_one", "_law_other"],2,[],[false,false],[],[],nY,[],false⟩,
 ⟨none, "_law_wide",top 62,["_law_well_here", "_law_kind", "_law_wide_here"],2,[],[true,false],[],[],l7,[],false⟩,
 ⟨none, "_law_sizes",top 64,["_law_well_here", "_law_many_here", "_law_most", "_law_kinds", "_law_kind", "_law_names_here", "_law_sizes_here", "_law_name", "_law_least", "_law_last", "_law_shifts", "_law_k", "_law_room_here"],4,[],[true,false,false,false],[],[],kh,[],false⟩,
 ⟨none, "is_written_in",top 31,["text", "signs", "most"],3,[],[false,false,false],[],[],hU,[],false⟩,
 ⟨none, "is_name",top 32,["text"],1,[],[false],[],[],p0,[],false⟩,
 ⟨none, "refuse_names",top 41,["names", "seen", "name"],1,["seen"],[false],[],[],iM,[],false⟩,
 ⟨none, "is_less",top 27,["a", "b"],2,[],[false,false],[],[],qx,[],false⟩,
 ⟨none, "common_divisor",top 21,["a", "b", "rest"],2,[],[false,false],[],[],f6,[],false⟩,
 ⟨none, "is_whole",top 20,["value"],1,[],[false],[],[],oP,[],false⟩,
 ⟨none, "is_number",top 23,["value"],1,[],[false],[],[],lS,[],false⟩,
 ⟨none, "refuse_bounds",top 39,["least", "most"],2,[],[false,false],[],[],g8,[],false⟩,
 ⟨none, "refuse_shift",top 40,["shift"],1,[],[false],[],[],iA,[],false⟩,
 ⟨some "Size", "names",topC 38 1,["self"],1,[],[false],[],[],kQ,[],false⟩,
 ⟨some "Stock", "names",topC 49 2,["self", "names", "size"],1,[],[false],[],[],jJ,[],false⟩,
 ⟨some "Size", "__init__",topC 38 0,["self", "name", "least", "most", "shifts", "shift"],5,[],[true,false,false,false,false],[.non],[],lZ,[],false⟩,
 ⟨none, "size_with_bounds",top 42,["size", "least", "most"],3,[],[false,false,false],[],[],fm,[],false⟩,
 ⟨none, "size_copied",top 43,["size"],1,[],[false],[],[],jL,[],false⟩,
 ⟨some "Stock", "__init__",topC 49 0,["self", "sizes"],2,[],[true,false],[],[],kZ,[],false⟩,
 ⟨none, "_law_all_names",top 66,["_law_sizes_here", "_law_names_here", "_law_name", "_law_least", "_law_last", "_law_shifts"],1,[],[false],[],[],gi,[],false⟩,
 ⟨none, "_law_mul",top 56,["_law_one", "_law_other"],2,[],[false,false],[],[],nM,[],false⟩,
 ⟨none, "_law_less",top 57,["_law_one", "_law_other"],2,[],[false,false],[],[],lW,[],false⟩,
 ⟨none, "_law_room",top 65,["_law_size", "_law_shift", "_law_value", "_law_name", "_law_least", "_law_last", "_law_shifts", "_law_one", "_law_allowance", "_law_way"],3,[],[false,false,false],[],[],mD,[],false⟩,
 ⟨none, "_law_gives",top 72,["_law_size", "_law_factors", "_law_value", "_law_making", "_law_total", "_law_shift", "_law_allowance", "_law_way", "_law_factor", "_law_room_here"],3,["_law_factors", "_law_making"],[false,false,false],[],[],kU,[],false⟩,
 ⟨none, "_law_below",top 58,["_law_one", "_law_other"],2,[],[false,false],[],[],kL,[],false⟩,
 ⟨none, "_law_lowest",top 73,["_law_sizes_here", "_law_total", "_law_factors", "_law_least", "_law_making", "_law_size", "_law_one", "_law_other"],2,["_law_factors", "_law_making"],[false,false],[],[],jN,[],false⟩,
 ⟨none, "_law_minus",top 69,["_law_total"],1,[],[false],[],[],kJ,[],false⟩,
 ⟨none, "_law_is",top 70,["_law_found", "_law_due"],2,[],[false,false],[],[],qk,[],false⟩,
 ⟨none, "lowest_terms",top 22,["top", "bottom", "divisor"],2,[],[false,false],[],[],i9,[],false⟩,
 ⟨none, "times",top 26,["a", "b"],2,[],[false,false],[],[],yd,[],false⟩,
 ⟨none, "negative",top 44,["number"],1,[],[false],[],[],oj,[],false⟩,
 ⟨none, "lowest_shift",top 45,["factor", "room"],2,[],[false,false],[],[],iN,[],false⟩,
 ⟨none, "plus",top 24,["a", "b"],2,[],[false,false],[],[],Cy,[],false⟩,
 ⟨none, "minus",top 25,["a", "b"],2,[],[false,false],[],[],yD,[],false⟩,
 ⟨some "Size", "room",topC 38 2,["self", "shift", "value", "name", "allowance", "way"],3,[],[false,false,false],[],[],lY,[],false⟩,
 ⟨none, "lowest_shifts",top 46,["size", "value", "factors", "making", "shift"],3,["making", "factors"],[false,false,false],[],[],ik,[],false⟩,
 ⟨none, "sum_at",top 35,["a", "making", "top", "bottom", "name", "factor", "value"],2,["making"],[false,false],[],[],sZ,[],false⟩,
 ⟨none, "worth_of",top 47,["making", "factors"],2,["making", "factors"],[false,false],[],[],n5,[],false⟩,
 ⟨none, "lowest_corner",top 48,["size", "factors", "low", "high"],2,["factors", "low", "high"],[false,false],[],[],hZ,[],false⟩,
 ⟨some "Stock", "lowest_at",topC 49 7,["self", "a", "names", "name", "factor", "factors", "making", "size"],2,["factors", "making"],[false,false],[],[],fG,[],false⟩,
 ⟨none, "sum_of",top 33,["number", "pairs", "factors", "name", "factor"],2,["factors"],[false,false],[],[],sJ,[],false⟩,
 ⟨none, "sum_times",top 34,["a", "number"],2,[],[false,false],[],[],lR,[],false⟩,
 ⟨some "Stock", "highest_at",topC 49 8,["self", "a"],2,[],[false,false],[],[],fC,[],false⟩,
 ⟨some "Stock", "lowest",topC 49 5,["self", "a"],2,[],[false,false],[],[],iW,[],false⟩,
 ⟨some "Stock", "highest",topC 49 6,["self", "a"],2,[],[false,false],[],[],hE,[],false⟩,
 ⟨none, "_law_asked",top 74,["_law_way", "_law_stock", "_law_total"],3,[],[false,false,false],[],[],kB,[],false⟩,
 ⟨none, "_law_right",top 76,["_law_sizes_here", "_law_stock", "_law_total", "_law_least", "_law_low", "_law_most", "_law_high", "_law_way", "_law_turn", "_law_found"],3,["_law_found", "_law_low", "_law_high"],[false,false,false],[],["_law_found"],kS,[],false⟩,
 ⟨none, "_law_many",top 63,["_law_well_here", "_law_few"],2,[],[true,false],[],[],lU,[],false⟩,
 ⟨none, "_law_made",top 71,["_law_well_here", "_law_sizes_here", "_law_made_here", "_law_name", "_law_least", "_law_last", "_law_shifts", "_law_way"],2,[],[true,false],[],[],mf,[],false⟩,
 ⟨none, "_law_number",top 59,["_law_well_here", "_law_way"],1,[],[true],[],[],jO,[],false⟩,
 ⟨none, "_law_sum",top 67,["_law_well_here", "_law_names_here", "_law_pairs", "_law_name", "_law_way", "_law_factor"],2,[],[true,false],[],[],nk,[],false⟩,
 ⟨none, "_law_refused",top 75,["_law_way", "_law_stock", "_law_total", "_law_refused_here", "e"],3,[],[false,false,false],[],[],i5,[],false⟩]
def oF:DI:=⟨none, "law",top 77,["_law_script", "_law_well_here", "_law_sizes_here", "_law_stock", "_law_names_here", "_law_k", "_law_total", "_law_odd", "_law_factor", "_law_bad", "_law_way"],1,[],[false],[],[],IB,[],false⟩
theorem Nf:yJ JD EG=EG.map (λd=>some d.m):=by kernel_rfl
theorem MR:mL (EM (qH JD EG) (tr (qH JD EG) oA) oA oF.sc) (dy oF.st)=some oF.m:=by kernel_rfl
theorem Ln:(EG++[oF]).all (λd=>iO d&&v7 d)=true:=by decide +kernel
end W
section
open PySem PySem.W PyProof.Rows L2
set_option maxRecDepth 100000 in
theorem W.hl:LeftO PySem.Challenge.rw_fitwhatever_k11_least_and_most.row.prog (W.Om PySem.Challenge.pw_fitwhatever_k11_least_and_most) (W.xg PySem.Challenge.pw_fitwhatever_k11_least_and_most) (λs=>xlAt (W.Om PySem.Challenge.pw_fitwhatever_k11_least_and_most) [] s&&recOk PySem.Challenge.rw_fitwhatever_k11_least_and_most.row.records s) (Hook.obs (M.hk (W.EG++[W.oF]) (M.IY W.JD))) (Hook.val (M.hk (W.EG++[W.oF]) (M.IY W.JD))) 20000:=W.A7 λw=>by kernel_rfl
set_option maxRecDepth 100000 in
set_option maxHeartbeats 0 in
theorem W.fin(LT:∀ns:List Int,ns.length<=63->∃Z,W.oF.M [.fr (.lst (ns.map M.A.int))]=some (.rt (.fr (.bl true)),Z)):PySem.Challenge.rw_fitwhatever_k11_least_and_most.Holds:=by
 w_on
 refine holds_law (by decide +kernel) λh=>?_
 refine holds_open (q:=W.Om PySem.Challenge.pw_fitwhatever_k11_least_and_most) (loose:=W.xg PySem.Challenge.pw_fitwhatever_k11_least_and_most) (Xt:=λs=>xlAt (W.Om PySem.Challenge.pw_fitwhatever_k11_least_and_most) [] s&&recOk (RowW.records _) s) (XP:=XL (W.Om PySem.Challenge.pw_fitwhatever_k11_least_and_most) []) (Yf:=Hook.obs (M.hk (W.EG++[W.oF]) (M.IY W.JD))) (Ya:=Hook.val (M.hk (W.EG++[W.oF]) (M.IY W.JD))) (YP:=Hook.says (M.hk (W.EG++[W.oF]) (M.IY W.JD))) (N:=20000) W.hl (Hook.of _) (Hook.keeps _) (λs e=>xl_of s (ZA.mp e).1) XL.keeps (by rfl) (by rfl) (by rfl) (λs e=>recFacts_of (ZA.mp e).2) (by rfl) h (by decide +kernel) ⟨rfl,rfl,rfl,rfl,rfl,by decide +kernel⟩ ?hw ?hc
 case hw=>w_witness2
 case hc=>exact M.DR rfl rfl rfl W.Ln W.Nf W.MR rfl rfl rfl rfl ⟨rfl,by decide,by decide⟩ LT
end
set_option maxHeartbeats 1000000
set_option exponentiation.threshold 100000
namespace W
open PySem L2 M
inductive X2{α β:Type}(p:α->β->Prop):Prop|mk(a:α)(b:β)(h:p a b)
inductive X3{α β γ:Type}(p:α->β->γ->Prop):Prop|mk(a:α)(b:β)(c:γ)(h:p a b c)
inductive X5{α β γ δ ε:Type}(p:α->β->γ->δ->ε->Prop):Prop|mk(a:α)(b:β)(c:γ)(d:δ)(e:ε)(h:p a b c d e)
inductive N3(a b c:Prop):Prop|mk(x:a)(y:b)(z:c)
inductive N4(a b c d:Prop):Prop|mk(x:a)(y:b)(z:c)(w:d)
inductive N6(a b c d e f:Prop):Prop|mk(x:a)(y:b)(z:c)(w:d)(u:e)(v:f)
variable{Z:List Sl}{i:Int}
theorem bJ{x:Rr}{xs:List A}{a:A}(h:res Z x=some (.lst xs)\/res Z x=some (.tup xs))(e:j3 xs i=some a):eW (dJ vG iC) x (.fr (.int i)) Z=some (.ok (.fr a),Z):=by unfold eW;rcases h with h|h<;>rw[h]<;>simp only[res,dJ,vG,e]
variable{ss:List Str}
theorem Lf{r:Int}(h0:0<=r)(h1:r<ss.length):∃y∈ss,j3 (ss.map A.str) r=some (.str y):=by
 obtain⟨j,rfl⟩:∃j:Nat,r=j:=⟨r.toNat,by omega⟩
 have N:j<ss.length:=by omega
 refine⟨ss[j],Yr N,?_⟩;exact mX (by rw[UU,Ve N];rfl)
variable{U:List Sl}{Q:Fl->List Sl->Prop}{s:Sl}
theorem Wp.sr{m n:Ms}(h:m Z=some (.rt s,U))(q:Q (.rt s) U):Wp (ay m n) Z Q:=⟨_,_,by unfold ay;rw[h],q⟩
theorem cL{t:Mi Bool}{m n:Ms}{r:Option (Fl×List Sl)}(h:t Z=some (.ok true,U))(k:m U=r):eS t m n Z=r:=sk h k
theorem aY{t:Mi Bool}{m n:Ms}{r:Option (Fl×List Sl)}(h:t Z=some (.ok false,U))(k:n U=r):eS t m n Z=r:=sk h k
theorem iD(i j:Int)(Z:List Sl):eW dP (.fr (.int i)) (.fr (.int j)) Z=some (.ok (.fr (.bl (decide (i=j)))),Z):=by simp only[eW,res,dP,mV]
theorem bW{m n:Ms}{r:Option (Fl×List Sl)}(h:m Z=some (.nx,U))(k:n U=r):ay m n Z=r:=by unfold ay;rw[h];exact k
variable{m:Mi Rr}{Z':List Sl}{r:Rr}
theorem AK{i:Nat}{x:Rr}(h0:LC Z i=true)(h:m Z=some (.ok x,U))(k:Se i x U=some (.ok r,Z')):iJ i (kW i m) Z=some (.ok r,Z'):=by exact(if_pos h0).trans (bk h k)
theorem KO{i:Nat}{a:Sl}(h:xF r Z=some (a,U))(k:U[i]?=some s)(hn:np s=true)(e:U.set i a=Z'):GR i r Z=some (.nx,Z'):=by rw[QU h k hn,e]
variable{G:Mg}{e:Mi Rr}
theorem bR{n:Nat}{H:Mi (List A)}{t:Mi Bool}{as:List A}(h:H Z=some (.ok as,U))(k:cN n G t e as U=some (.ok r,Z')):cA n H G t e Z=some (.ok r,Z'):=bk h k
theorem aW{i:Nat}{a:Sl}(h:m Z=some (.ok r,U))(h1:xF r U=some (a,U))(k:U[i]?=some s)(hn:np s=true)(e:U.set i a=Z'):aG i m Z=some (.nx,Z'):=bD h (KO h1 k hn e)
theorem j1{i:Nat}{x:Rr}{a:A}{xs:List A}(h0:LC Z i=true)(h:m Z=some (.ok x,U))(k:a8 x U=some (a,U))(l:aL U i=some (.lst xs))(hl:xs.length<=100000)(e:setAt U i (.lst (xs++[a]))=Z'):bO (iJ i (dN i m)) Z=some (.nx,Z'):=by refine kD (r:=.fr .non) ((if_pos h0).trans (bk h ?_));rw[k];dsimp only;rw[l];dsimp only;rw[if_pos hl,e]
variable{pre:List Str}{l:Str}
theorem DK{i:Nat}(h:aL Z i=some (.lst ((pre++[l]).map A.str)))(e:setAt Z i (.lst (pre.map A.str))=U):vS i Z=some (.ok (.fr (.str l)),U):=by unfold vS;rw[h];dsimp only;rw[show ((pre++[l]).map A.str)[((pre++[l]).map A.str).length-1]?=some (.str l) by rw[U7];simp,show ((pre++[l]).map A.str).dropLast=pre.map A.str by rw[U7];simp];dsimp only;rw[e]
theorem fu{o:Option (Except Str Rr×List Sl)}{f:A->A->Option Rr}{x y:Rr}{a b:A}(h1:res Z x=some a)(h2:res Z y=some b)(k:f a b=some r):eW f x y Z=some (.ok r,Z):=by unfold eW;rw[h1,h2];dsimp only;rw[k]
variable{j:Int}
theorem oW{b:Bool}(h:decide (i=j)=b)(Z:List Sl):eW iy (.fr (.int i)) (.fr (.int j)) Z=some (.ok (.fr (.bl (!b))),Z):=by rw[<-h];simp only[eW,res,iy,mV]
theorem rH{b:Bool}(h:decide (i=j)=b)(Z:List Sl):eW dP (.fr (.int i)) (.fr (.int j)) Z=some (.ok (.fr (.bl b)),Z):=by rw[<-h];exact iD i j Z
theorem jh(h:j≠0)(Z:List Sl):eW iq (.fr (.int i)) (.fr (.int j)) Z=some (.ok (.fr (.int (i.fmod j))),Z):=fu (o:=none) rfl rfl (if_pos (by simpa using h))
theorem rS(h:j≠0)(f:fits 9000 j=true)(Z:List Sl):eW j9 (.fr (.int i)) (.fr (.int j)) Z=some (.ok (.fr (.int (i.fdiv j))),Z):=fu (o:=none) rfl rfl (if_pos (by rw[f];simpa using h))
theorem j5(h:fits 20000 i=true)(k:fits 20000 j=true)(Z:List Sl):eW br (.fr (.int i)) (.fr (.int j)) Z=some (.ok (.fr (.int (i*j))),Z):=by have e:uJ (.int i) (.int j)=some (.fr (.int (i*j))):=if_pos (by rw[h,k];rfl);refine fu (o:=none) rfl rfl ?_;unfold br dJ;rw[e]
theorem ft{n m:Nat}(h:L2.Bd n i)(k:n<=m):fits m i=true:=fI h k
theorem pS{m n:Ms}(h:m Z=some (.rt s,U)):ay m n Z=some (.rt s,U):=by unfold ay;rw[h]
theorem IT{m n:Ms}{x:Str}(h:m Z=some (.ex x,U)):ay m n Z=some (.ex x,U):=by unfold ay;rw[h]
theorem eC{f:A->Option Rr}{x:Rr}{a:A}(h:res Z x=some a)(k:f a=some r):OF f x Z=some (.ok r,Z):=by unfold OF;rw[h];dsimp only;rw[k]
theorem hY{x:Rr}{as:List A}(h:m Z=some (.ok x,U))(k:SU x U=some (.ok as,Z')):bU m Z=some (.ok as,Z'):=bk h k
theorem nO{as:List A}(h:m Z=some (.ok r,U))(k:tU r U=some (.ok as,Z')):fz m Z=some (.ok as,Z'):=bk h k
theorem BQ{n:Nat}{t:Mi Bool}{b:Ms}{r:Option (Fl×List Sl)}(h:eZ t b n Z=r):lL n t b Z=r:=h
variable{ms:Mi (List Rr)}{rs:List Rr}
theorem K5{i j:Nat}{r:Option (Fl×List Sl)}(h:ms Z=some (.ok rs,U))(k:Fo i j rs U=r):AM i j ms Z=r:=sk h k
variable{mk:Mi Rr}{S:List Sl}
theorem Jk{i:Nat}{rk:Rr}{q:Option (Fl×List Sl)}(h:m Z=some (.ok r,S))(l:LC S i=true)(hk:mk S=some (.ok rk,U))(k:Uu i r rk U=q):ou i mk m Z=q:=sk h ((if_pos l).trans (sk hk k))
theorem DW{x:Str}(h:ms Z=some (.ok rs,U))(l:rs.length<=10):eI x ms Z=some (.ex x,U):=sk h (if_pos l)
theorem A2{t:Mi Bool}{n:Mi Rr}(h:t Z=some (.ok true,U))(k:m U=some (.ok r,Z')):JM t m n Z=some (.ok r,Z'):=bk h k
theorem sD{t:Mi Bool}{n:Mi Rr}(h:t Z=some (.ok false,U))(k:n U=some (.ok r,Z')):JM t m n Z=some (.ok r,Z'):=bk h k
theorem Ri{n:Mi (List Str)}{z:Str}{zs:List Str}(h:m Z=some (.ok (.fr (.str z)),Z))(l:z.length<=1000)(k:n Z=some (.ok zs,Z)):mJ m n Z=some (.ok (z::zs),Z):=bk h ((if_pos l).trans (bk k rfl))
theorem PY{z:Str}(h:m Z=some (.ok (.fr (.str z)),Z))(l:z.length<=1000):MP m Z=some (.ok (.fr (.str z)),Z):=bk h (if_pos l)
theorem RB{n:Mi (List Str)}{zs:List Str}(k:n Z=some (.ok zs,Z)):Kw n Z=some (.ok (.fr (.str (MF zs))),Z):=bk k rfl
theorem Qp{x y:Int}(h:y≠0)(d:L2.Bd 9000 y):Val dE [.int x,.int y] (.int (cd x y)):=by
 obtain⟨O,h1,q,r,rfl⟩:=lK (t:=ao (az iy (ae 1) (aw 0))) (b:=ay (aG 2 (az iq (ae 0) (ae 1))) (ay (aG 0 (ae 1)) (aG 1 (ae 2)))) (n:=EF)
  (P:=λk Z=>X3 λp q r=>N4 (Z=[.fr (.int p),.fr (.int q),r]) (k=q.natAbs) (np r=true) ((q=0->p=cd x y)/\(q≠0->cd p q=cd x y)))
  (Q:=λZ=>X2 λq r=>Z=[.fr (.int (cd x y)),q,r]) (by
   rintro k Z ⟨p,q,r,rfl,rfl,l,h1,h2⟩;by_cases z:q=0
   .exact .inl ⟨_,aA (ai rfl rfl (oW (decide_eq_true z) _)),_,_,by rw[<-h1 z]⟩
   .exact .inr ⟨_,[.fr (.int q),.fr (.int (p.fmod q)),.fr (.int (p.fmod q))],_,aA (ai rfl rfl (oW (decide_eq_false z) _)),.inl (bW (aW (ai rfl rfl (jh z _)) rfl rfl l rfl) <| bW (aW rfl rfl rfl rfl rfl) (aW rfl rfl rfl rfl rfl)),uf p z,q,p.fmod q,_,rfl,rfl,rfl,λe=>by rw[<-h2 z];exact GJ z e,λe=>by rw[GN z e];exact h2 z⟩) ⟨x,y,.un,rfl,rfl,rfl,λe=>absurd e h,λ_=>rfl⟩ (wQ (UZ d (VT (by decide) (by decide))))
 exact Val.of (Wp.df (Wp.st (BQ h1) (Wp.en (aC rfl rfl) rfl)))
theorem Dq{x y:Int}(d:L2.Bd 9000 y):Val fP [.int x,.int y] (.int (VD x y)):=by
 obtain⟨O,h1,q,rfl,K⟩:=lK (t:=ao (az iy (ae 1) (aw 0))) (b:=AM 0 1 (aK (ae 1) (az iq (ae 0) (ae 1)))) (n:=EF)
  (P:=λk Z=>X2 λp q=>N3 (Z=[.fr (.int p),.fr (.int q)]) (k=q.natAbs) (VD p q=VD x y))
  (Q:=λZ=>∃p,Z=[.fr (.int p),.fr (.int 0)]/\VD p 0=VD x y) (by
   rintro k Z ⟨p,q,rfl,rfl,h1⟩;by_cases z:q=0
   .subst z;exact .inl ⟨_,aA (ai rfl rfl (oW rfl _)),p,rfl,h1⟩
   .exact .inr ⟨_,[.fr (.int q),.fr (.int (p.fmod q))],_,aA (ai rfl rfl (oW (decide_eq_false z) _)),.inl (K5 (af rfl (af (ai rfl rfl (jh z _)) rfl)) rfl),uf p z,q,p.fmod q,rfl,rfl,by rw[nJ,h1]⟩) ⟨x,y,rfl,rfl,rfl⟩ (wQ (UZ d (VT (by decide) (by decide))))
 have e:(if q<0 then -q else q)=(VD x y:Int):=by rw[<-K,ZV];split<;>omega
 exact Val.of (Wp.df (Wp.st (BQ h1) (Wp.en (aC (bq rfl (eC (r:=.fr (.int (VD x y))) rfl (by rw[<-e];rfl))) rfl) rfl)))
theorem u7{t b:Int}(h:b≠0)(d:L2.Bd 9000 b):Val cB [.int t,.int b] (nm (gv t b)):=by
 rw[<-HX h];have v:∀t b:Int,b≠0->L2.Bd 9000 b->∀Z,Wp (ay (aG 2 (aO fP (aK (aj 0) (aj 1)))) (aN (aU (aK (az j9 (ae 0) (ae 2)) (az j9 (ae 1) (ae 2)))))) (.fr (.int t)::.fr (.int b)::.un::Z) λg _=>g=.rt (.fr (nm (t.fdiv (VD t b),b.fdiv (VD t b)))):=λt b h d Z=>by
  have h1:VD t b<=b.natAbs:=Int.gcd_le_natAbs_right _ h;have h0:(VD t b:Int)≠0:=by simpa using λz:VD t b=0=>h (Int.gcd_eq_zero_iff.mp z).2
  have f:fits 9000 (VD t b:Int)=true:=fI (show L2.Bd 9000 (VD t b:Int) from Wi (by simpa using h1) d) (U2 _);exact Wp.st (aW (ag rfl (av (Dq d) _)) rfl rfl rfl rfl) (Wp.en (aC (cR (af (ai rfl rfl (rS h0 f _)) (af (ai rfl rfl (rS h0 f _)) rfl)) rfl) rfl) rfl)
 have x:∀c,decide (b<0)=c->ao (az u0 (ae 1) (aw 0)) [.fr (.int t),.fr (.int b),.un]=some (.ok c,[.fr (.int t),.fr (.int b),.un]):=by rintro c rfl;rfl
 unfold Ly;by_cases c:b<0
 .rw[if_pos c,<-Wy,<-Wy];exact Val.of (Wp.df (Wp.st (cL (x true (decide_eq_true c)) (bW (aW rfl rfl rfl rfl rfl) (aW rfl rfl rfl rfl rfl))) (Wp.mono (v (0-t) (0-b) (by omega) (by rw[Wy];exact d.neg) []) λf _ e=>by rw[e])))
 .rw[if_neg c];exact Val.of (Wp.df (Wp.st (aY (x false (decide_eq_false c)) rfl) (Wp.mono (v t b h d []) λf _ e=>by rw[e])))
def Wl(n:Int)(o:LO):Prop:=X3 λ(f c t:Int)=>N4 (o=.lst [.int f,.int c,.int t]) (f=0\/f=1) (f=0->c.natAbs<10^18) (0<=t/\t<=n)
variable{o:LO}
theorem Wl.mono{n m:Int}(h:Wl n o)(k:n<=m):Wl m o:=by obtain⟨f,c,t,h1,h2,h3,h4,h5⟩:=h;exact⟨f,c,t,h1,h2,h3,h4,by omega⟩
theorem zX(h:i.natAbs<2^64):fits 20000 i=true:=fI h (by decide)
theorem Bc{n:Int}{m:Int}(w:Wl n o)(hn:n<2^40)(g:0<m)(V:m<2^64):X2 λr o'=>N4 (cJ ax o [.int m] (.fr (.int r)) o') (0<=r) (r<m) (Wl (n+1) o'):=by
 suffices ∃s o',cJ ax o [.int m] s o'/\∃r,N4 (s=.fr (.int r)) (0<=r) (r<m) (Wl (n+1) o') by obtain⟨s,o',v,r,rfl,h1,h2,h3⟩:=this;exact⟨r,o',v,h1,h2,h3⟩
 obtain⟨f,c,t,rfl,hf,hc,k,U⟩:=w
 have h:m≠0:=by omega
 refine cJ.of (Wp.df ?_)
 have x:∀b,decide (f=1)=b->∀Z,ao (az dP (mix (ae 0) (aw 0)) (aw 1)) (.pv (.lst [.int f,.int c,.int t])::Z)=some (.ok b,.pv (.lst [.int f,.int c,.int t])::Z):=λb d Z=>aA (ai (ai rfl rfl (bJ (.inl rfl) rfl)) rfl (rH d _))
 rcases hf with rfl|rfl
 .have hc:=hc rfl
  have b1:L2.Bd 128 (7919*(t+1)*(t+1)):=L2.Bd.mul (show (7919*(t+1)).natAbs<2^64 by omega) (show (t+1).natAbs<2^64 by omega)
  have b2:L2.Bd 130 (c+7919*(t+1)*(t+1)+(t+1)):=((L2.Bd.add (show c.natAbs<2^128 by omega) b1).add (show (t+1).natAbs<2^128 by omega)).mono (by decide)
  have e1:∀i:Int,(i.fmod 2305843009213693951).natAbs<2^64:=λi=>by have Q:=zaf i (b:=2305843009213693951) (by decide);have a:=Int.emod_lt_of_pos i (b:=2305843009213693951) (by decide);rw[Xb _ (by decide)];omega
  refine Wp.st (aY (x false rfl _) rfl) ?_
  refine Wp.st (aW (ai (ai rfl rfl (bJ (.inl rfl) rfl)) rfl rfl) rfl rfl rfl rfl) ?_
  refine Wp.st (Jk rfl rfl rfl rfl) ?_
  refine Wp.st (aW (ai (ai (ai (ai (ai rfl rfl (bJ (.inl rfl) rfl)) (ai (ai rfl rfl (j5 (zX (by decide)) (zX (by omega)) _)) rfl (j5 (zX (by omega)) (zX (by omega)) _)) rfl) rfl rfl) rfl (j5 (ft b2 (by decide)) (zX (by decide)) _)) rfl (jh (by decide) _)) rfl rfl rfl rfl) ?_
  exact Wp.en (aC (ai (ai (ai (ai (ai rfl rfl (j5 (zX (e1 _)) (zX (by decide)) _)) rfl rfl) rfl (jh (by decide) _)) rfl (rS (by decide) (fI (show (64:Int).natAbs<2^64 by decide) (by decide)) _)) rfl (jh h _)) rfl) ⟨_,_,_,rfl,rfl,_,rfl,WQ _ g,Yg _ g,0,c,t+1,rfl,.inl rfl,λ_=>hc,by omega,by omega⟩
 .have K:∀Z,mix (ae 0) (aw 1) (.pv (.lst [.int 1,.int c,.int t])::Z)=some (.ok (.fr (.int c)),.pv (.lst [.int 1,.int c,.int t])::Z):=λZ=>ai rfl rfl (bJ (.inl rfl) rfl)
  exact Wp.sr (cL (x true rfl _) (bW (aW (ai (K _) rfl (jh h _)) rfl rfl rfl rfl) <| bW (Jk (ai (K _) rfl (rS h (fI (show m.natAbs<2^64 by omega) (by decide)) _)) rfl rfl rfl) (aC rfl rfl))) ⟨_,.lst [.int 1,.int (c.fdiv m),.int t],_,rfl,rfl,_,rfl,WQ c g,Yg c g,1,c.fdiv m,t,rfl,.inr rfl,λz=>by omega,k,by omega⟩
variable{o':LO}
theorem Hr{f:Ms}{as:List A}(h:cJ f o as s o')(l:pD s=some r):∀Z,d9 f [] (.rf 0::as.map Rr.fr) (.pv o::Z)=some (.ok r,.pv o'::Z):=λZ=>xX h l rfl
theorem tk{n:Int}(m:Int)(w:Wl n o)(hn:n<2^40)(g:0<m)(V:m<2^64):X2 λr o'=>N4 (∀Z,d9 ax [] [.rf 0,.fr (.int m)] (.pv o::Z)=some (.ok (.fr (.int r)),.pv o'::Z)) (0<=r) (r<m) (Wl (n+1) o'):=by obtain⟨r,o',h,h1,h2,h3⟩:=Bc w hn g V;exact⟨r,o',Hr h rfl,h1,h2,h3⟩
theorem pw(k v:Int)(h:0<=k/\k<=1000000/\(10:Int).natAbs<2^64)(e:(10:Int)^k.toNat=v)(Z:List Sl):az gX (aw 10) (mC (.int k)) Z=some (.ok (.fr (.int v)),Z):=
 ai rfl rfl (fu (o:=none) rfl rfl (by rw[<-e];exact if_pos h))
theorem Dk(ns:List Int)(k:Int)(k0:0<=k)(k1:k<=1000):∃o,dF i4 [.lst (ns.map A.int),.int k] o/\Wl 17000 o:=by
 have v:∀c:Int,Wl 17000 (.lst [.int (if decide (1000000000000000000<=(if c<0 then -c else c))=true then 1 else 0),.int c,.int (17*k)]):=λc=>by
  refine⟨_,c,17*k,rfl,?_,λz=>?_,by omega,by omega⟩
  .generalize decide (1000000000000000000<=(if c<0 then -c else c))=d;cases d
   .exact .inl rfl
   .exact .inr rfl
  .by_cases h:1000000000000000000<=(if c<0 then -c else c)
   .simp[h] at z
   .split at h<;>omega
 have fin:∀c:Int,Wp (aN (eM (mT (dg Fd (az NX (dg zG (ae 2)) (az gX (aw 10) (aw 18)))) (ae 2) (az br (aw 17) (ae 1))))) [.fr (.lst (ns.map A.int)),.fr (.int k),.fr (.int c)] λg _=>g=.rt (.lv (.lst [.int (if decide (1000000000000000000<=(if c<0 then -c else c))=true then 1 else 0),.int c,.int (17*k)])):=λc=>Wp.en (aC (fV (af (bq (ai rfl (pw 18 1000000000000000000 (by decide) (by decide) _) rfl) rfl) (af rfl (af (ai rfl rfl (j5 (zX (by decide)) (zX (by omega)) _)) rfl))) rfl) rfl) rfl
 have x:∀b,decide (k<((ns.map A.int).length:Int))=b->ao (az u0 (ae 1) (dg kl (ae 0))) [.fr (.lst (ns.map A.int)),.fr (.int k),.fr (.int 0)]=some (.ok b,[.fr (.lst (ns.map A.int)),.fr (.int k),.fr (.int 0)]):=by rintro b rfl;rfl
 by_cases hk:k<((ns.map A.int).length:Int)
 .obtain⟨j,rfl⟩:∃j:Nat,k=j:=⟨k.toNat,by omega⟩
  have N:j<ns.length:=by rw[UP] at hk;omega
  exact⟨_,dF.of (Wp.df (Wp.st rfl (Wp.st (cL (x true (decide_eq_true hk)) (aW (ai rfl rfl (bJ (.inl rfl) (mX (by rw[UU,Ve N];rfl)))) rfl rfl rfl rfl)) (Wp.mono (fin ns[j]) λf _ e=>by rw[e])))),v ns[j]⟩
 .exact⟨_,dF.of (Wp.df (Wp.st rfl (Wp.st (aY (x false (decide_eq_false hk)) rfl) (Wp.mono (fin 0) λf _ e=>by rw[e])))),v 0⟩
theorem yn{t b:Int}(h:b≠0)(E:L2.Bd 9000 b):Val cw [.int t,.int b] (nm (gv t b)):=by
 have k:=av (Qp (x:=t) h E);have hc:=wR (x:=t) h;have f:fits 9000 (cd t b)=true:=fI (show L2.Bd 9000 (cd t b) from Wi (P8 h) E) (U2 _);have d:∀(u:Int)(Z:List Sl),eW j9 (.fr (.int u)) (.fr (.int (cd t b))) Z=some (.ok (.fr (.int (u.fdiv (cd t b)))),Z):=λu Z=>by unfold eW;simp only[res,L9,M.nD,f,bne_iff_ne,ne_eq,hc,not_false_eq_true,X7,decide_true,if_true]
 exact Val.of (Wp.df (Wp.st (bD (ag rfl (k _)) rfl) (Wp.en (aC (cR (af (ai rfl rfl (d _ _)) (af (ai rfl rfl (d _ _)) rfl)) rfl) rfl) rfl)))
section
variable{x y:Num}{n m:Nat}(hx:NB n x)(hy:NB m y)(h:n+m<=8999)
include hx hy h
theorem sA:Val rA [nm x,nm y] (nm (eR x y)):=
 Val.of (Wp.df (Wp.en (aC (ag (af (dA (ai (ai rfl rfl (j5 (ft hx.b1 (by omega)) (ft hy.b2 (by omega)) _)) (ai rfl rfl (j5 (ft hy.b1 (by omega)) (ft hx.b2 (by omega)) _)) rfl) rfl) (af (ai rfl rfl (j5 (ft hx.b2 (by omega)) (ft hy.b2 (by omega)) _)) rfl)) (av (yn (VE hx.nz hy.nz) ((hx.b2.mul hy.b2).mono (by omega))) _)) rfl) rfl))
theorem tZ:Val qN [nm x,nm y] (nm (rj x y)):=
 Val.of (Wp.df (Wp.en (aC (ag (af (ai (ai rfl rfl (j5 (ft hx.b1 (by omega)) (ft hy.b2 (by omega)) _)) (ai rfl rfl (j5 (ft hy.b1 (by omega)) (ft hx.b2 (by omega)) _)) rfl) (af (ai rfl rfl (j5 (ft hx.b2 (by omega)) (ft hy.b2 (by omega)) _)) rfl)) (av (yn (VE hx.nz hy.nz) ((hx.b2.mul hy.b2).mono (by omega))) _)) rfl) rfl))
theorem ud:Val jz [nm x,nm y] (nm (wx x y)):=
 Val.of (Wp.df (Wp.en (aC (ag (af (ai rfl rfl (j5 (ft hx.b1 (by omega)) (ft hy.b1 (by omega)) _)) (af (ai rfl rfl (j5 (ft hx.b2 (by omega)) (ft hy.b2 (by omega)) _)) rfl)) (av (yn (VE hx.nz hy.nz) ((hx.b2.mul hy.b2).mono (by omega))) _)) rfl) rfl))
theorem jy:Val bT [nm x,nm y] (nm (eR x y)):=
 Val.of (Wp.df (Wp.en (aC (ag (af (dA (ai (ai rfl rfl (j5 (ft hx.b1 (by omega)) (ft hy.b2 (by omega)) _)) (ai rfl rfl (j5 (ft hy.b1 (by omega)) (ft hx.b2 (by omega)) _)) rfl) rfl) (af (ai rfl rfl (j5 (ft hx.b2 (by omega)) (ft hy.b2 (by omega)) _)) rfl)) (av (u7 (VE hx.nz hy.nz) ((hx.b2.mul hy.b2).mono (by omega))) _)) rfl) rfl))
theorem yA:Val gG [nm x,nm y] (nm (wx x y)):=
 Val.of (Wp.df (Wp.en (aC (ag (af (ai rfl rfl (j5 (ft hx.b1 (by omega)) (ft hy.b1 (by omega)) _)) (af (ai rfl rfl (j5 (ft hx.b2 (by omega)) (ft hy.b2 (by omega)) _)) rfl)) (av (u7 (VE hx.nz hy.nz) ((hx.b2.mul hy.b2).mono (by omega))) _)) rfl) rfl))
end
variable{x y:Num}
theorem NB.zW{n m:Nat}(k:NB n x)(S:NB m y):NB (n+m+1) (rj x y):=
 NB.gv (VE k.nz S.nz) (((k.b1.mul S.b2).mono (by omega:n+m<=n+m)).sub ((S.b1.mul k.b2).mono (by omega:m+n<=n+m)) |>.mono (by omega)) ((k.b2.mul S.b2).mono (by omega))
theorem NB.Rv{n m:Nat}(k:NB n x)(S:NB m y):NB (n+m) (wx x y):=NB.gv (VE k.nz S.nz) (k.b1.mul S.b1) (k.b2.mul S.b2)
noncomputable def Tj:Num:=(-1,1)
theorem Cd:NB 1 Tj:=⟨⟨by decide,by decide⟩,by unfold L2.Bd;decide,by unfold L2.Bd;decide⟩
theorem Rf{n:Nat}(y:NB n x)(h:n<=8000):Val ph [nm x] (nm (-x.1,x.2)):=by have k:=ud y Cd (by omega);unfold Tj at k;rw[tO y.ok] at k;exact Val.of (Wp.df (Wp.en (aC (ag rfl (av k _)) rfl) rfl))
section
variable{x y:Num}{n m:Nat}(hx:NB n x)(hy:NB m y)(h:n<=20000)(h':m<=20000)
include hx hy h h'
theorem Eo:Val gW [nm x,nm y] (.bl (ll x y)):=
 Val.of (Wp.df (Wp.en (aC (ai (ai rfl rfl (j5 (ft hx.b1 h) (ft hy.b2 h') _)) (ai rfl rfl (j5 (ft hy.b1 h') (ft hx.b2 h) _)) rfl) rfl) rfl))
theorem kG:Val cE [nm x,nm y] (.bl (ll x y)):=
 Val.of (Wp.df (Wp.en (aC (ai (ai rfl rfl (j5 (ft hx.b1 h) (ft hy.b2 h') _)) (ai rfl rfl (j5 (ft hy.b1 h') (ft hx.b2 h) _)) rfl) rfl) rfl))
end
theorem xo{n:Nat}(S:NB n x)(O:NB n y)(hn:n<=4000):Val iI [nm x,nm y] (nm (rj x y)):=by have k:=jy S O.neg (by omega);rw[BU] at k;exact Val.of (Wp.df (Wp.en (aC (ag (by rw[<-Wy];rfl) (av k _)) rfl) rfl))
theorem o8(i:Int):Val jU [.int i] (.bl true):=⟨[.fr (.int i)],rfl⟩
theorem jb{n:Nat}(k:NB n x)(hn:n<=9000):Val fN [nm x] (.bl true):=by
 have k3:=Qp (x:=x.1) (y:=x.2) k.nz (k.b2.mono hn);have e1:cd x.1 x.2=1:=by unfold cd;rw[if_neg (by have:=k.ok.1;omega),k.ok.2];rfl
 rw[e1] at k3;have F:ao (az u0 (mix (ae 0) (aw 1)) (aw 1)) [.fr (nm x)]=some (.ok false,[.fr (nm x)]):=by rw[<-decide_eq_false (show ¬ x.2<1 by have:=k.ok.1;omega)];rfl
 exact Val.of (Wp.df (Wp.st (aY (fR (cS (b:=true) rfl) (aA (ai rfl rfl (oW rfl _)))) rfl) (Wp.st (aY (fR (cS (aA (ag rfl (av (o8 x.1) _)))) (fR (cS (aA (ag rfl (av (o8 x.2) _)))) F)) rfl) (Wp.en (aC (ai (ag rfl (av k3 _)) rfl (rH rfl _)) rfl) rfl))))
theorem C7{n:Nat}(S:NB n x)(O:NB n y)(hn:n<=4000)(h:ll y x=false):Val hW [nm x,nm y] .non:=by have k:=kG O S (by omega) (by omega);rw[h] at k;exact Val.of (Wp.df (Wp.st (aY (fR (cS (aA (ag rfl (av (jb S (by omega)) _)))) (cS (aA (ag rfl (av (jb O (by omega)) _))))) rfl) (Wp.en (aY (aA (ag rfl (av k _))) rfl) rfl)))
structure Sf where
 s:Str
 r:Num
 w:Str
def eN(f:Sf):A:=.tup [.str f.s,nm f.r,.str f.w]
def pG(w:Str):Prop:=w = "fixed" \/ w = "big" \/ w = "small"
structure Mb(n:Nat)(f:Sf):Prop where
 nb:NB n f.r
 nn:ll f.r (0,1)=false
 wy:pG f.w
theorem rL:NB 60 (0,1):=NB.zero
noncomputable def KN(w:Str):Bool:=("fixed" : Str)==w || (("big" : Str)==w || (("small" : Str)==w || false))
theorem Hv(w:Str):jF true (.str w) (.tup [.str "fixed",.str "big",.str "small"])=some (.fr (.bl (!KN w))):=rfl
theorem EZ{w:Str}(h:pG w):KN w=true:=by unfold KN;rcases h with rfl|rfl|rfl<;>simp
theorem Gp{f:Sf}{n:Nat}(h:Mb n f)(h0:60<=n)(hn:n<=4000):Val iX [eN f] .non:=by
 have k:=kG h.nb (rL.mono h0) (by omega) (by omega);rw[h.nn] at k;have w:jF true (.str f.w) (.tup [.str "fixed",.str "big",.str "small"])=some (.fr (.bl false)):=by rw[Hv,EZ h.wy];rfl
 exact Val.of (Wp.df (Wp.st (aY (fR (cS (aA (ag rfl (av (jb h.nb (by omega)) _)))) (aA (ag rfl (av k _)))) rfl) (Wp.en (aY (aA (ai rfl rfl (fu (o:=none) rfl rfl (by unfold qb dJ;rw[w])))) rfl) rfl)))
theorem vE{i:Nat}{x:Sl}{t:Sl}(hi:S.length=i)(y:∀o,x≠Sl.pv o):put i t (S++[x])=some (S++[t]):=by
 subst hi;unfold put;rw[Vv (U2 _),Yp];simp only[WH];have e:(S++[x]).set S.length t=S++[t]:=by rw[List.set_append_right _ _ (U2 _),Yp];rfl
 cases x with
 |pv o=>exact absurd rfl (y o)
 |un=>simp only[e]
 |fr a=>simp only[e]
 |lv o=>simp only[e]
theorem comp_map{i:Nat}{as:List A}(g:A->A)(hi:S.length=i)(hl:as.length<=100000)(h:∀a∈as,∃r,e (S++[.fr a])=some (.ok r,S++[.fr a])/\a8 r (S++[.fr a])=some (g a,S++[.fr a])):
  cN 1 (aH i) bw e as S=some (.ok (.nw (.lst (as.map g))),S):=by
 have v:∀(bs acc:List A)(x:Sl),(∀a∈bs,a∈as)->(∀o,x≠Sl.pv o)->∃y,bK (aH i) bw e bs acc (S++[x])=some (acc++bs.map g,S++[y]):=by
  intro bs;induction bs with
  |nil=>intro acc x _ _;exact⟨x,by rw[bK,V8,Vz]⟩
  |cons b bs j=>intro acc x hm k;obtain⟨r,h1,h2⟩:=h b (hm b U9);obtain⟨y,h3⟩:=j (acc++[g b]) (.fr b) (λa ha=>hm a (UW _ ha)) (λo z=>by cases z);refine⟨y,?_⟩;rw[bK];simp only[aH,vE hi k,Lo,h1,h2,h3,U3,U0,Xq,XH]
 obtain⟨y,h3⟩:=v as [] .un (λa ha=>ha) (λo z=>by cases z);unfold cN;rw[if_pos hl];have e1:Vd 1 Sl.un=[.un]:=rfl;rw[e1,h3];simp
variable{T:Type}
theorem js{i:Nat}{ts:List T}(k g:T->A)(hi:S.length=i)(hl:ts.length<=100000)(h:∀t∈ts,∃r,e (S++[.fr (k t)])=some (.ok r,S++[.fr (k t)])/\a8 r (S++[.fr (k t)])=some (g t,S++[.fr (k t)])):
  cN 1 (aH i) bw e (ts.map k) S=some (.ok (.nw (.lst (ts.map g))),S):=by
 obtain⟨ys,O,h1,x,rfl,_,rfl⟩:=gk (G:=aH i) (t:=bw) (as:=ts.map k)
  (λj acc Z=>∃x:Sl,N3 (Z=S++[x]) (∀o,x≠Sl.pv o) (acc=(ts.take j).map g)) ⟨.un,rfl,(λo z=>by cases z),rfl⟩ (by
   rintro j q acc Z R ⟨x,rfl,y,rfl⟩;rw[UU] at R;cases a:ts[j]? with
   |none=>rw[a] at R;cases R
   | some t=>rw[a] at R;cases R;obtain⟨r,k1,k2⟩:=h t (Vc a);refine⟨S++[Sl.fr (k t)],(show put i (.fr (k t)) (S++[x])=some (S++[.fr (k t)]) from vE hi y),.inl ⟨_,r,_,g t,_,rfl,k1,k2,.fr (k t),rfl,(λo z=>by cases z),?_⟩⟩;rw[Vu,a,U7];rfl)
 unfold cN;rw[if_pos (by rw[UP];exact hl)];have e1:S++Vd 1 Sl.un=S++[.un]:=rfl;rw[e1,h1];simp
noncomputable def ck:Str:= "abcdefghijklmnopqrstuvwxyz0123456789."
structure kz(z:Str):Prop where
 lo:1<=z.length
 hi:z.length<=30
 sg:∀c∈z.cps.toList,c∈ck.cps.toList
theorem GA:∀c∈ck.cps.toList,j6 ⟨#[c]⟩ ck=true:=by decide +kernel
theorem qC{α:Type}(f:α->Bool):∀l:List α,iK (l.map λx=>A.bl (f x))=some (l.map f)
 |[]=>rfl
 |x::l=>by rw[U3,iK,qC f l];rfl
variable{k:Int}
theorem CA{p q:Int->Int->Bool}{ma mb h:Mi Rr}(ha:ma Z=some (.ok (.fr (.int i)),Z))(d:mb Z=some (.ok (.fr (.int j)),Z))(hc:h Z=some (.ok (.fr (.int k)),Z))(h1:p i j=true)(h2:q j k=true):gy p q ma mb h Z=some (.ok (.fr (.bl true)),Z):=by refine bk ha (bk d ?_);dsimp only [res];rw[h1];exact bk hc (by dsimp only [res];rw[h2])
theorem zp{z:Str}(hz:kz z):Val g7 [.str z,.str ck,.int 30] (.bl true):=by
 have h1:=hz.lo;have h2:=hz.hi;have k:=comp_map (e:=az (qb false) (ae 3) (ae 1)) (as:=ug z) (S:=[.fr (.str z),.fr (.str ck),.fr (.int 30)]) (λa=>match a with | .str y=>.bl (j6 y ck)|_=>.non) rfl (by simp[ug];unfold ZR at h2;omega) (by intro a ha;obtain⟨c,hc,rfl⟩:=Vj.mp ha;exact⟨.fr (.bl (j6 ⟨#[c]⟩ ck)),rfl,rfl⟩)
 have e4:(ug z).map (λa=>match a with | .str y=>A.bl (j6 y ck)|_=>.non)=z.cps.toList.map λc=>A.bl (j6 ⟨#[c]⟩ ck):=by unfold ug;rw[Vr];rfl
 have H:pK (λbs=>List.all bs id) (.lst (z.cps.toList.map λc=>A.bl (j6 ⟨#[c]⟩ ck)))=some (.fr (.bl true)):=by unfold pK;dsimp only;rw[qC];dsimp only;rw[Zf,VA.mpr λc hc=>(show (id∘λc=>j6 ⟨#[c]⟩ ck) c=true from GA c (hz.sg c hc))]
 rw[e4] at k;have l:∀Z,dg kl (ae 0) (.fr (.str z)::Z)=some (.ok (.fr (.int z.length)),.fr (.str z)::Z):=λZ=>bq rfl (eC rfl (if_pos (by omega)));exact Val.of (Wp.df (Wp.st (aY (fR (cS (b:=true) rfl) (cS (aA (CA rfl (l _) rfl (decide_eq_true (by omega)) (decide_eq_true (by omega)))))) rfl) (Wp.en (aC (bq (bR rfl k) (eC rfl H)) rfl) rfl)))
theorem zr{z:Str}(hz:kz z):Val pO [.str z] (.bl true):=
 Val.of (Wp.df (Wp.en (aC (ag rfl (av (zp hz) _)) rfl) rfl))
noncomputable def iV(ss:List Str):List (Key×A):=ss.map λz=>(.inr z,.bl true)
theorem Dr(ss:List Str)(z:Str)(h:z∉ss):gp (iV ss) (.inr z)=none:=by
 unfold gp iV;rw[WG.mpr]
 .rfl
 .intro x k;obtain⟨y,S,rfl⟩:=Vj.mp k;simp only[decide_eq_true_eq];intro e;cases e;exact h S
theorem CY(ss:List Str)(z:Str)(h:z∉ss):jD (iV ss) (.inr z) (.bl true)=iV (ss++[z]):=by
 unfold jD;rw[if_neg]
 .unfold iV;rw[U7];rfl
 .intro e;rw[WV] at e;obtain⟨x,k,e⟩:=e;unfold iV at k;obtain⟨y,S,rfl⟩:=Vj.mp k;rw[decide_eq_true_eq] at e;cases e;exact h S
theorem oh(h:∀z∈ss,kz z)(nd:ss.Nodup)(hl:ss.length<=1000):Val fA [.lst (ss.map A.str)] .non:=by
 refine Val.of (Wp.df (Wp.st rfl ?_));refine Wp.fr (λi Z=>∃x,Z=[.fr (.lst (ss.map A.str)),.lv (.aP (iV (ss.take i))),x]/\np x=true) rfl ⟨_,rfl,rfl⟩ ?_ (λZ _=>rfl);rintro i a Z ha ⟨x,rfl,y⟩;rw[UU] at ha;cases Q:ss[i]? with
 |none=>rw[Q] at ha;cases ha
 |some z=>
  rw[Q] at ha;cases ha;have hi:=(UQ.mp Q).1;have es:ss.take (i+1)=ss.take i++[z]:=by rw[Vu,Q];rfl
  have hn:z∉ss.take i:=λhz=>by have:(ss.take (i+1)).Nodup:=nd.sublist (Xd _ _);rw[es] at this;exact(U8.mp this).2.2 z hz z (.head _) rfl
  have g:=Dr _ _ hn;refine⟨[.fr (.lst (ss.map A.str)),.lv (.aP (iV (ss.take i))),.fr (.str z)],by cases x<;>first|(cases y;done)|rfl,?_⟩;refine Wp.st (aY (cS (aA (ag rfl (av (zr (h z (Vc Q))) _)))) rfl) (Wp.st (aY (aA (ai rfl rfl (fu (o:=none) rfl rfl (by show some (Rr.fr (A.bl (gp (iV (ss.take i)) (.inr z)).isSome))=_;rw[g];rfl)))) rfl) (Wp.en (U:=[.fr (.lst (ss.map A.str)),.lv (.aP (iV (ss.take (i+1)))),.fr (.str z)]) ?_ ⟨.inl rfl,_,rfl,rfl⟩));refine(jA rfl rfl rfl (zq rfl rfl rfl rfl (by unfold iV;rw[UP,Vh];omega))).trans ?_;rw[CY _ _ hn,<-es];rfl
structure Sz where
 n:Str
 l:Num
 m:Num
 f:List Sf
def z4(z:Sz):List (Str×A):=[("name",.str z.n),("least",nm z.l),("most",nm z.m),("shifts",.tup (z.f.map eN))]
def d5(z:Sz):A:=.obj "Size" (z4 z)
def ie(z:Sz):A:=.tup [.str z.n,nm z.l,nm z.m,.tup (z.f.map eN)]
noncomputable def a9(z:Sz):List Str:=z.n::z.f.map Sf.s
structure jS(b:Nat)(z:Sz):Prop where
 lb:NB b z.l
 mb:NB b z.m
 le:ll z.m z.l=false
 fs:∀f∈z.f,Mb b f
 ns:∀s∈a9 z,kz s
 nd:(a9 z).Nodup
 ln:z.f.length<=50
theorem j8(z:Sz):bp ["Size"] "name" (d5 z)=some (.fr (.str z.n)):=by unfold bp d5 z4;simp only;rw[if_pos (by decide +kernel)];rfl
theorem lu(z:Sz):bp ["Size"] "least" (d5 z)=some (.fr (nm z.l)):=by unfold bp d5 z4;simp only;rw[if_pos (by decide +kernel)];rfl
theorem nU(z:Sz):bp ["Size"] "most" (d5 z)=some (.fr (nm z.m)):=by unfold bp d5 z4;simp only;rw[if_pos (by decide +kernel)];rfl
theorem dH(z:Sz):bp ["Size"] "shifts" (d5 z)=some (.fr (.tup (z.f.map eN))):=by unfold bp d5 z4;simp only;rw[if_pos (by decide +kernel)];rfl
variable{z:Sz}
theorem oZ(h:z.f.length<=50)(p:Sl):cN 1 (aH 1) bw (mix (ae 1) (aw 0)) (z.f.map eN) [p]=some (.ok (.nw (.lst ((z.f.map Sf.s).map A.str))),[p]):=by rw[Vr];exact js eN (λf=>.str f.s) rfl (by omega) λf _=>⟨.fr (.str f.s),rfl,rfl⟩
theorem QE{xs ys:List A}(h:xs.length+ys.length<=100000)(Z:List Sl):eW aX (.nw (.lst xs)) (.nw (.lst ys)) Z=some (.ok (.nw (.lst (xs++ys))),Z):=fu (o:=none) rfl rfl (if_pos h)
variable{s0:Sl}
theorem PB(h:z.f.length<=50)(P:s0=.fr (d5 z)\/s0=.pv (.obj "Size" (z4 z))):∃Z,bV [s0]=some (.rt (.lv (.lst ((a9 z).map A.str))),s0::Z):=by
 have l:[A.str z.n].length+((z.f.map Sf.s).map A.str).length<=100000:=by rw[UP,UP,VN];omega
 suffices Wp bV [s0] λg Z=>g=.rt (.lv (.lst ((a9 z).map A.str)))/\Z=[s0] by obtain⟨_,_,e,rfl,rfl⟩:=this;exact⟨_,e⟩
 rcases P with rfl|rfl
 .exact Wp.df (Wp.en (aC (ai (fV (af (bq rfl (eC rfl (j8 z))) rfl) rfl) (bR (hY (bq rfl (eC rfl (dH z))) rfl) (oZ h _)) (QE l _)) rfl) ⟨rfl,rfl⟩)
 .exact Wp.df (Wp.en (aC (ai (fV (af (bq rfl (eC rfl (j8 z))) rfl) rfl) (bR (hY (bq rfl (eC rfl (dH z))) rfl) (oZ h _)) (QE l _)) rfl) ⟨rfl,rfl⟩)
theorem zF(h:z.f.length<=50):dF bV [d5 z] (.lst ((a9 z).map A.str)):=let ⟨_,e⟩:=PB h (.inl rfl);⟨_,e⟩
def Pt(sh:A)(f:List Sf):Prop:=(sh=.non/\f=[])\/sh=.lst (f.map eN)\/sh=.tup (f.map eN)
theorem LH{sh:A}{f:List Sf}(h:f.length<=50)(P:Pt sh f)(a0 G l O z:Sl):JM (ao (az (EJ false) (ae 4) (mC .non))) (aU eP) (dg fB (cA 1 (bU (ae 4)) (aH 6) bw (aU (mT (mix (ae 6) (aw 0)) (mix (ae 6) (aw 1)) (mix (ae 6) (aw 2)))))) [a0,G,l,O,.fr sh,z]=some (.ok (.fr (.tup (f.map eN))),[a0,G,l,O,.fr sh,z]):=by
 have k:=js (ts:=f) (e:=aU (mT (mix (ae 6) (aw 0)) (mix (ae 6) (aw 1)) (mix (ae 6) (aw 2)))) (S:=[a0,G,l,O,.fr sh,z]) eN eN rfl (by omega) λg _=>⟨.fr (eN g),rfl,rfl⟩
 rcases P with ⟨rfl,rfl⟩|rfl|rfl
 .rfl
 .exact sD rfl (bq (bR rfl k) rfl)
 .exact sD rfl (bq (bR rfl k) rfl)
theorem Ug(a:A)(l O B z:Sl):iL ["Size"] 0 "name" (ae 1) [.pv (.obj "Size" []),.fr a,l,O,B,z]=some (.nx,[.pv (.obj "Size" [("name",a)]),.fr a,l,O,B,z]):=by rfl
theorem UL(a b:A)(O B z:Sl):iL ["Size"] 0 "least" (ae 2) [.pv (.obj "Size" [("name",a)]),.fr a,.fr b,O,B,z]=some (.nx,[.pv (.obj "Size" [("name",a),("least",b)]),.fr a,.fr b,O,B,z]):=by rfl
theorem UA(a b c:A)(B z:Sl):iL ["Size"] 0 "most" (ae 3) [.pv (.obj "Size" [("name",a),("least",b)]),.fr a,.fr b,.fr c,B,z]=some (.nx,[.pv (.obj "Size" [("name",a),("least",b),("most",c)]),.fr a,.fr b,.fr c,B,z]):=by rfl
theorem UE(a b c d:A)(B z:Sl)(m:Mi Rr)(h:m [.pv (.obj "Size" [("name",a),("least",b),("most",c)]),.fr a,.fr b,.fr c,B,z]=some (.ok (.fr d),[.pv (.obj "Size" [("name",a),("least",b),("most",c)]),.fr a,.fr b,.fr c,B,z])):iL ["Size"] 0 "shifts" m [.pv (.obj "Size" [("name",a),("least",b),("most",c)]),.fr a,.fr b,.fr c,B,z]=some (.nx,[.pv (.obj "Size" [("name",a),("least",b),("most",c),("shifts",d)]),.fr a,.fr b,.fr c,B,z]):=by exact sk h rfl
theorem Tw{f:Ms}(h:f [.pv o]=some (.rt s,.pv o'::U))(l:pD s=some r)(Z:List Sl):d9 f [] [.rf 0] (.pv o::Z)=some (.ok r,.pv o'::Z):=Hr (as:=[]) ⟨U,h⟩ l Z
theorem FV{f:Ms}{as:List A}(h:Val f as .non)(e:ms Z=some (.ok (as.map Rr.fr),U)):bO (aO f ms) Z=some (.nx,U):=kD (ag e (av h _))
abbrev RU(z:Sz)(sh:A)(h:Sl):List Sl:=[.pv (.obj "Size" (z4 z)),.fr (.str z.n),.fr (nm z.l),.fr (nm z.m),.fr sh,h]
variable{b:Nat}
theorem vP(h:jS b z)(F:60<=b)(b1:b<=4000){sh:A}(P:Pt sh z.f):∃c,bM [.pv (.obj "Size" []),.fr (.str z.n),.fr (nm z.l),.fr (nm z.m),.fr sh]=some (.rt (.fr .non),RU z sh c):=by
 obtain⟨w,x⟩:=PB h.ln (.inr rfl)
 suffices Wp bM [.pv (.obj "Size" []),.fr (.str z.n),.fr (nm z.l),.fr (nm z.m),.fr sh] λg Z=>g=.rt (.fr .non)/\∃c,Z=RU z sh c by obtain⟨_,_,e,rfl,c,rfl⟩:=this;exact⟨c,e⟩
 refine Wp.df (Wp.st (Ug ..) (Wp.st (UL ..) (Wp.st (UA ..) (Wp.st (UE _ _ _ _ _ _ _ (LH h.ln P _ _ _ _ _)) (Wp.st (FV (C7 h.lb h.mb b1 h.le) rfl) (Wp.sq (Wp.RL (z.f.map eN) (λZ=>∃c,Z=RU z sh c/\np c=true) (hY (bq rfl (eC rfl (dH z))) rfl) ⟨_,rfl,rfl⟩ ?_ ?_)))))))
 .rintro a ha Z ⟨c,rfl,y⟩;obtain⟨f,hf,rfl⟩:=Vj.mp ha;exact⟨RU z sh (.fr (eN f)),by cases c<;>first|(cases y;done)|rfl,Wp.en (FV (Gp (h.fs f hf) F b1) rfl) ⟨.inl rfl,_,rfl,rfl⟩⟩
 .rintro Z ⟨c,rfl,y⟩;exact⟨rfl,Wp.en (FV (oh h.ns h.nd (by have:=h.ln;unfold a9;rw[US,UP];omega)) (af (dA (GY rfl (ag rfl (Tw x rfl _))) rfl) rfl)) ⟨rfl,c,rfl⟩⟩
theorem Er{x:Rr}{z:Str}{c:Nat}(h:res Z x=some (.str z))(l:z.length<=100000)(e:j3 z.cps.toList i=some c):eW (dJ vG iC) x (.fr (.int i)) Z=some (.ok (.fr (.str ⟨#[c]⟩)),Z):=by have k:vG (.str z) (.int i)=some (.fr (.str ⟨#[c]⟩)):=(if_pos l).trans (by rw[e]);refine fu (o:=none) h rfl ?_;unfold dJ;rw[k]
theorem Qk{F:Str->A->Option Rr}{mo:Mi Rr}{z:Str}{y:Rr}{a:A}(h:mo Z=some (.ok (.fr (.str z)),S))(k:m S=some (.ok y,U))(e:res U y=some a)(f:F z a=some r):Oa F mo m Z=some (.ok r,U):=by refine bk h (bk k ?_);rw[e];dsimp only;rw[f]
theorem B9{w Y:Mi (Option Int)}{x:Rr}{lo hi:Option Int}{z:Str}(h:m Z=some (.ok x,Z))(l:w Z=some (.ok lo,Z))(u:Y Z=some (.ok hi,Z))(e:res Z x=some (.str z))(hz:z.length<=100000):F2 m w Y Z=some (.ok (.fr (.str (Wg z lo hi))),Z):=by have k:SD (.str z) lo hi=some (.fr (.str (Wg z lo hi))):=if_pos hz;refine bk h (bk l (bk u ?_));rw[e];dsimp only;rw[k]
theorem m8(h:m Z=some (.ok (.fr (.int i)),Z)):ig m Z=some (.ok (some i),Z):=by unfold ig aF;rw[h];rfl
theorem E6{x y:Str}(h:x.length+y.length<=100000)(Z:List Sl):eW aX (.fr (.str x)) (.fr (.str y)) Z=some (.ok (.fr (.str (x++y))),Z):=by have k:xt (.str x) (.str y)=some (.fr (.str (x++y))):=if_pos h;refine fu (o:=none) rfl rfl ?_;unfold aX dJ;rw[show wV (.str x) (.str y)=none from rfl];dsimp only;rw[k]
theorem sY{x:Str}{a:Nat}(Q:a<=b)(d:b<=x.length):(Wg x (some (a:Int)) (some (b:Int))).cps.toList=(x.cps.toList.drop a).take (b-a):=by
 have e:=StrLaws.sliced_plain x Q d;have e2:=StrLaws.strSliceIndices_plain Q d;unfold Wg;by_cases hl:(Wh (some (a:Int)) (some (b:Int)) 1 x.length).length=x.length
 .rw[if_pos (by simpa using hl)];rw[e2,UP,WL] at hl;have h0:a=0:=by omega
  have h1:b=x.length:=by omega
  subst h0 h1;rw[YQ,XA (by rw[VF];exact U2 _)]
 .rw[if_neg (by simpa using hl)];show List.filterMap _ _=_;exact e
theorem uF{x:Str}(h:b<=x.length):(Wg x none (some (b:Int))).cps.toList=x.cps.toList.take b:=by
 have e:Wg x none (some (b:Int))=Wg x (some ((0:Nat):Int)) (some (b:Int)):=by
  unfold Wg;have:Wh none (some (b:Int)) 1 x.length=Wh (some ((0:Nat):Int)) (some (b:Int)) 1 x.length:=by
   unfold Wh;have:max (0:Int) (min 0 (x.length:Int))=0:=by omega
   simp[this]
  rw[this]
 rw[e,sY (VM _) h,YQ,Zq]
theorem yV(ss:List Str):(VQ ⟨#[]⟩ ss).cps.toList=ss.flatMap (λs=>s.cps.toList):=by
 unfold VQ;cases ss with
 |nil=>rfl
 |cons a r=>
  show (r.foldl (λacc p=>acc++#[]++p.cps) a.cps).toList=_;rw[Wt];have:∀(acc:Array Nat),(r.foldl (λacc p=>acc++#[]++p.cps) acc).toList=acc.toList++r.flatMap (λs=>s.cps.toList):=by
   induction r with
   |nil=>intro acc;simp
   |cons p r j=>intro acc;rw[Z9,j];simp
  exact this _
theorem Ce:ck.cps.toList.length=37:=by decide +kernel
theorem xq:(ck.length<=100000)=True:=by simp only[eq_iff_iff,iff_true];decide +kernel
theorem Ko{n:Int}(m:Int)(w:Wl n o)(hn:n<2^38):X2 λ(B:Str)(o':LO)=>N4 (aG 3 (Oa lh (mC (.str "")) (cA 1 (fz (aw 30)) (aH 8) bw Qb)) [.pv o,.fr (.int m),.fr (.str ck),.un,.un,.un,.un,.un]=some (.nx,[.pv o',.fr (.int m),.fr (.str ck),.fr (.str B),.un,.un,.un,.un])) (B.cps.toList.length=30) (∀c∈B.cps.toList,c∈ck.cps.toList) (Wl (n+30) o'):=by
 obtain⟨ys,O,hc,cs,X,e1,e2,e4,e3,b⟩:=gk (G:=aH 8) (t:=bw) (e:=Qb) (as:=cU 0 30)
  (λi acc Z=>X2 λ(cs:List Nat)(X:LO)=>N4 (acc=(cs.map λc=>(⟨#[c]⟩:Str)).map A.str) (cs.length=i) (∀c∈cs,c∈ck.cps.toList) ((∃x,Z=[.pv X,.fr (.int m),.fr (.str ck),.un,.un,.un,.un,.un,x]/\∀q,x≠Sl.pv q)/\Wl (n+i) X))
  ⟨[],o,rfl,rfl,(λc hc=>by cases hc),⟨.un,rfl,λq z=>by cases z⟩,w.mono (by simp)⟩ (by
   rintro i a acc Z ha ⟨cs,X,rfl,Q,V,⟨x,rfl,y⟩,b⟩;have hi:i<30:=by have:=(UQ.mp ha).1;simpa[cU] using this
   obtain⟨E,k,L,Y,R,J⟩:=tk 37 b (by omega) (by decide) (by decide);obtain⟨j,rfl⟩:∃j:Nat,E=j:=⟨E.toNat,by omega⟩
   have v:j<ck.cps.toList.length:=by rw[Ce];omega
   have T:=mX (Ve v);have hm:=Yr v;generalize ck.cps.toList[j]=ch at T hm;refine⟨[.pv X,.fr (.int m),.fr (.str ck),.un,.un,.un,.un,.un,.fr a],?_,.inl ⟨_,.fr (.str ⟨#[ch]⟩),[.pv k,.fr (.int m),.fr (.str ck),.un,.un,.un,.un,.un,.fr a],.str ⟨#[ch]⟩,_,rfl,?_,rfl,cs++[ch],k,?_,?_,?_,⟨.fr a,rfl,λq z=>by cases z⟩,J.mono (by omega)⟩⟩
   .cases x with
    |pv q=>exact absurd rfl (y q)
    |_=>rfl
   .exact ai rfl (ag rfl (L _)) (Er rfl (of_eq_true xq) T)
   .rw[U7,U7];rfl
   .rw[UY,Q];rfl
   .intro c hc;rcases Vb.mp hc with h|h
    .exact V c h
    .rw[Va.mp h];exact hm)
 obtain⟨x,e3,_⟩:=e3;subst e1 e3;have N:(cU 0 30).length=30:=by simp[cU]
 rw[N] at e2 b;have fl:(cs.map λc=>(⟨#[c]⟩:Str)).flatMap (λs=>s.cps.toList)=cs:=by
  rw[List.flatMap_map];induction cs with
  |nil=>rfl
  |cons c cs g=>rw[Wt];simp
 have gl:=yV (cs.map λc=>(⟨#[c]⟩:Str));rw[fl] at gl;refine⟨VQ ⟨#[]⟩ (cs.map λc=>(⟨#[c]⟩:Str)),X,?_,by rw[gl];exact e2,by rw[gl];exact e4,b.mono (by simp)⟩;have r:jW (cs.map λc=>(⟨#[c]⟩:Str))=30:=by unfold jW;rw[Vr];have:(ZR∘λc=>(⟨#[c]⟩:Str))=λ_=>1:=rfl;rw[this,List.map_const',List.sum_replicate_nat,e2]
 have D:lh "" (.lst ((cs.map λc=>(⟨#[c]⟩:Str)).map A.str))=some (.fr (.str (VQ ⟨#[]⟩ (cs.map λc=>(⟨#[c]⟩:Str))))):=by show lh ⟨#[]⟩ _=_;unfold lh;simp only[uN];rw[if_pos (by rw[r];show 30+_*0<=100000;omega)]
 have K:cN 1 (aH 8) bw Qb (cU 0 30) [.pv o,.fr (.int m),.fr (.str ck),.un,.un,.un,.un,.un]=some (.ok (.nw (.lst ((cs.map λc=>(⟨#[c]⟩:Str)).map A.str))),[.pv X,.fr (.int m),.fr (.str ck),.un,.un,.un,.un,.un]):=by unfold cN;rw[if_pos (by rw[N];decide)];show (match bK (aH 8) bw Qb (cU 0 30) [] [.pv o,.fr (.int m),.fr (.str ck),.un,.un,.un,.un,.un,.un] with|some (ys,O)=>some ((Except.ok (Rr.nw (.lst ys)):Except Str Rr),O.take 8)|none=>none)=_;rw[hc];rfl
 exact aW (Qk rfl (bR (nO rfl rfl) K) rfl D) rfl rfl rfl rfl
theorem Gk(x y:Str):(x++y).length=x.length+y.length:=by show (x.cps++y.cps).size=x.cps.size+y.cps.size;simp
theorem xp(x y:Str):(x++y).cps.toList=x.cps.toList++y.cps.toList:=by show (x.cps++y.cps).toList=_;simp
theorem dj(x:Str):x.length=x.cps.toList.length:=by rw[VF];rfl
variable{α β:Type}
theorem kI(f:α->β){l:List α}(h:(l.map f).Nodup):l.Nodup:=by unfold List.Nodup at h ⊢;rw[List.pairwise_map] at h;exact h.imp λQ e=>Q (by rw[e])
noncomputable def nA(B:Str)(s k:Nat):Str:=Wg B none (some ((1+(s+7*k)%30:Nat):Int))
variable{B:Str}
theorem vM(U:B.cps.toList.length=30)(s k:Nat):(nA B s k).cps.toList=B.cps.toList.take (1+(s+7*k)%30):=uF (by rw[dj,U];omega)
theorem O2:∀s,s<30->((Vo 12).map λk=>1+(s+7*k)%30).Nodup:=by decide +kernel
theorem Qt(U:B.cps.toList.length=30)(hc:∀c∈B.cps.toList,c∈ck.cps.toList)(s k:Nat):kz (nA B s k):=by have e:=vM U s k;refine⟨by rw[dj,e,Vh];omega,by rw[dj,e,Vh];omega,λc h=>?_⟩;rw[e] at h;exact hc c (XR h)
theorem Lu(U:B.cps.toList.length=30){s:Nat}(P:s<30):((Vo 12).map (nA B s)).Nodup:=by
 refine kI (λz:Str=>z.length) ?_;have:((Vo 12).map (nA B s)).map (λz:Str=>z.length)=(Vo 12).map λk=>1+(s+7*k)%30:=by rw[Vr];refine V1 λk _=>?_;show (nA B s k).length=_;rw[dj,vM U,Vh];omega
 rw[this];exact O2 s P
def sgn(first k:Nat):Nat:=ck.cps.toList.getD ((first+5*k)%37) 0
def nB(B:Str)(h c first k:Nat):Str:=Wg B none (some (h:Int))++⟨#[sgn first k]⟩++Wg B (some ((h+1:Nat):Int)) (some (c:Int))
theorem u3(first k:Nat):ck.cps.toList[(first+5*k)%37]?=some (sgn first k):=by
 have h:(first+5*k)%37<ck.cps.toList.length:=by rw[Ce];omega
 unfold sgn;rw[VW,Ve h];rfl
variable{spot long:Nat}
theorem u6(U:B.cps.toList.length=30)(h1:spot<long)(h2:long<=30)(first k:Nat):(nB B spot long first k).cps.toList=B.cps.toList.take spot++(sgn first k::(B.cps.toList.drop (spot+1)).take (long-(spot+1))):=by unfold nB;rw[xp,xp,uF (by rw[dj,U];omega),sY (by omega) (by rw[dj,U];omega)];simp
theorem Ov:∀f,f<37->((Vo 12).map λk=>(ck.cps.toList[(f+5*k)%37]?)).Nodup:=by decide +kernel
theorem Rp(U:B.cps.toList.length=30)(hc:∀c∈B.cps.toList,c∈ck.cps.toList)(h1:spot<long)(h2:long<=30)(first k:Nat):kz (nB B spot long first k):=by
 have e:=u6 U h1 h2 first k
 have l:(nB B spot long first k).length=long:=by rw[dj,e,UY,US,Vh,Vh,Xp,U];omega
 refine⟨by omega,by omega,λc h=>?_⟩;rw[e] at h;rcases Vb.mp h with h|h
 .exact hc c (XR h)
 .rcases U5.mp h with h|h
  .rw[h];exact Vc (u3 first k)
  .exact hc c (List.mem_of_mem_drop (XR h))
theorem NC(U:B.cps.toList.length=30){first:Nat}(h1:spot<long)(h2:long<=30)(hf:first<37):((Vo 12).map (nB B spot long first)).Nodup:=by
 refine kI (λz:Str=>z.cps.toList[spot]?) ?_;have:((Vo 12).map (nB B spot long first)).map (λz:Str=>z.cps.toList[spot]?)=(Vo 12).map λk=>(ck.cps.toList[(first+5*k)%37]?):=by
  rw[Vr];refine V1 λk _=>?_;show (nB B spot long first k).cps.toList[spot]?=_;have hl:(B.cps.toList.take spot).length=spot:=by rw[Vh];omega
  rw[u6 U h1 h2,u3,Vv (by omega),hl,Yp];rfl
 rw[this];exact Ov first hf
noncomputable def gI(f:Nat->Str):A->A:=λa=>match a with | .int i=>.str (f i.toNat)|_=>.non
theorem sx(f:Nat->Str)(n:Nat):(cU 0 n).map (gI f)=((Vo n).map f).map A.str:=by unfold cU;rw[Vr,Vr];refine V1 λk _=>?_;show A.str (f (0+(k:Int)).toNat)=A.str (f k);rw[Int.zero_add,Yq]
variable{K:Nat}
theorem JB{f:Nat->Str}{n:Nat}(h:K<=n)(hn:((Vo n).map f).Nodup):((Vo K).map f).Nodup:=
 zaM (List.Sublist.map f (List.range_sublist.mpr h)) hn
theorem NU(U:B.cps.toList.length=30)(s k:Nat):(nA B s k).length<=30:=by rw[dj,vM U,Vh];omega
theorem MK(U:B.cps.toList.length=30)(h1:spot<long)(h2:long<=30)(first k:Nat):(nB B spot long first k).length<=30:=by rw[dj,u6 U h1 h2,UY,US,Vh,Vh,Xp,U];omega
theorem zc(q:K<=12){n:Int}(w:Wl n o)(hn:n<2^37):X2 λ(ss:List Str)(o':LO)=>N4 (cJ gY o [.int (K:Int)] (.lv (.lst (ss.map A.str))) o') ss.Nodup (ss.length=K) ((∀z∈ss,kz z/\z.length<=30)/\Wl (n+40) o'):=by
 obtain⟨B,g,m,h,hc,I⟩:=Ko (K:Int) w (by omega);obtain⟨p,L,c2,a2,b2,D⟩:=tk 3 I (by omega) (by decide) (by decide);have X:B.length<=100000:=by rw[dj,h];omega
 have T:(cU 0 K).length<=100000:=by rw[mZ];omega
 have Q:∀Z,tU (.fr (.int (K:Int))) Z=some (.ok (cU 0 K),Z):=λZ=>by unfold tU;dsimp only [res];rw[if_pos (by omega),Yq]
 suffices ∃s o',cJ gY o [.int (K:Int)] s o'/\∃ss:List Str,N4 (s=.lv (.lst (ss.map A.str))) ss.Nodup (ss.length=K) ((∀z∈ss,kz z/\z.length<=30)/\Wl (n+40) o') by obtain⟨s,o',v,ss,rfl,h1,h2,h3⟩:=this;exact⟨ss,o',v,h1,h2,h3⟩
 refine cJ.of (Wp.df (Wp.st rfl (Wp.st m ?_)));have r:∀b,decide (p=1)=b->∀Z,ao (az dP (aO ax (aK (ae 0) (aw 3))) (aw 1)) (.pv g::Z)=some (.ok b,.pv L::Z):=λb d Z=>aA (ai (ag rfl (c2 _)) rfl (rH d _));by_cases l:p=1
 .obtain⟨Y,R,y,a4,b4,t⟩:=tk 30 D (by omega) (by decide) (by decide);obtain⟨s,rfl⟩:∃s:Nat,Y=s:=⟨Y.toNat,by omega⟩
  have k:=comp_map (e:=F2 (ae 3) ji (ig (az aX (aw 1) (az iq (az aX (ae 4) (az br (aw 7) (ae 8))) (aw 30))))) (S:=[.pv R,.fr (.int (K:Int)),.fr (.str ck),.fr (.str B),.fr (.int (s:Int)),.un,.un,.un]) (gI (nA B s)) rfl T (by
   intro a ha;obtain⟨k,hk,rfl⟩:=mR ha;have F:1+((s:Int)+7*(k:Int)).fmod 30=((1+(s+7*k)%30:Nat):Int):=by rw[Xb _ (by decide)];omega
   refine⟨.fr (.str (nA B s k)),?_,rfl⟩;unfold nA;rw[<-F];exact B9 rfl rfl (m8 (ai rfl (ai (ai rfl (ai rfl rfl (j5 (zX (by decide)) (zX (by omega)) _)) rfl) rfl (jh (by decide) _)) rfl)) rfl X)
  rw[sx] at k;refine Wp.sr (cL (r true (decide_eq_true l) _) (bW (aW (ag rfl (y _)) rfl rfl rfl rfl) (aC (bR (nO rfl (Q _)) k) rfl))) ⟨_,_,_,rfl,rfl,_,rfl,JB q (Lu h (by omega)),by simp,?_,t.mono (by omega)⟩;intro z hz;obtain⟨k,_,rfl⟩:=Vj.mp hz;exact⟨Qt h hc s k,NU h s k⟩
 .obtain⟨c,J,u,a5,b5,f⟩:=tk 30 D (by omega) (by decide) (by decide);obtain⟨G,o6,H,a6,b6,O⟩:=tk (1+c) f (by omega) (by omega) (by omega);obtain⟨E,N,C,a7,b7,V⟩:=tk 37 O (by omega) (by decide) (by decide);obtain⟨lg,x⟩:∃s:Nat,1+c=s:=⟨(1+c).toNat,by omega⟩
  obtain⟨sp,rfl⟩:∃s:Nat,G=s:=⟨G.toNat,by omega⟩
  obtain⟨fi,rfl⟩:∃s:Nat,E=s:=⟨E.toNat,by omega⟩
  have h1:sp<lg:=by omega
  have h2:lg<=30:=by omega
  have k:=comp_map (e:=az aX (az aX (F2 (ae 3) ji (ig (ae 6))) (mix (ae 2) (az iq (az aX (ae 7) (az br (aw 5) (ae 8))) (aw 37)))) (F2 (ae 3) (ig (az aX (ae 6) (aw 1))) (ig (ae 5)))) (S:=[.pv N,.fr (.int (K:Int)),.fr (.str ck),.fr (.str B),.un,.fr (.int (lg:Int)),.fr (.int (sp:Int)),.fr (.int (fi:Int))]) (gI (nB B sp lg fi)) rfl T (by
   intro a ha;obtain⟨k,hk,rfl⟩:=mR ha;have F:((fi:Int)+5*(k:Int)).fmod 37=(((fi+5*k)%37:Nat):Int):=by rw[Xb _ (by decide)];omega
   have i:j3 ck.cps.toList (((fi:Int)+5*(k:Int)).fmod 37)=some (sgn fi k):=by rw[F];exact mX (u3 fi k)
   have j:=Zo B none (some (sp:Int));have P:=Zo B (some ((sp+1:Nat):Int)) (some (lg:Int));have e:(⟨#[sgn fi k]⟩:Str).length=1:=rfl;rw[dj B,h] at j P;refine⟨.fr (.str (nB B sp lg fi k)),?_,rfl⟩;exact ai (ai (B9 rfl rfl (m8 rfl) rfl X) (ai rfl (ai (ai rfl (ai rfl rfl (j5 (zX (by decide)) (zX (by omega)) _)) rfl) rfl (jh (by decide) _)) (Er rfl (of_eq_true xq) i)) (E6 (by omega) _)) (B9 (lo:=some ((sp+1:Nat):Int)) rfl (m8 rfl) (m8 rfl) rfl X) (E6 (by rw[Gk];omega) _))
  rw[sx] at k;refine Wp.st (aY (r false (decide_eq_false l) _) rfl) (Wp.st (U:=[.pv J,.fr (.int (K:Int)),.fr (.str ck),.fr (.str B),.un,.fr (.int (lg:Int)),.un,.un]) (by rw[<-x];exact aW (ai rfl (ag rfl (u _)) rfl) rfl rfl rfl rfl) (Wp.st (by rw[x] at H;exact aW (ag rfl (H _)) rfl rfl rfl rfl) (Wp.st (aW (ag rfl (C _)) rfl rfl rfl rfl) (Wp.en (aC (bR (nO rfl (Q _)) k) rfl) ⟨_,_,_,rfl,rfl,_,rfl,JB q (NC h h1 h2 (by omega)),by simp,?_,V.mono (by omega)⟩))));intro z hz;obtain⟨k,_,rfl⟩:=Vj.mp hz;exact⟨Rp h hc h1 h2 fi k,MK h h1 h2 fi k⟩
theorem RG(x:Int):Ok (x,1):=⟨by show (0:Int)<1;decide,by show VD x 1=1;simp⟩
theorem Io{x y:Int}(h:m Z=some (.ok (.fr (.int x)),U)):aU (aK m (mC (.int y))) Z=some (.ok (.fr (nm (x,y))),U):=cR (af h rfl) rfl
theorem KP(hi:i.natAbs<2^64)(N:j.natAbs<2^64)(Z:List Sl):eW br (.fr (.int i)) (.fr (.int j)) Z=some (.ok (.fr (.int (i*j))),Z):=by have C:fits 20000 i=true:=fI hi (by decide);have L:fits 20000 j=true:=fI N (by decide);simp only[eW,res,br,dJ,EX,M.nD,C,L,Bool.and_self,if_true]
theorem IC(h:i.natAbs<2^64):NB 64 (i,1):=⟨RG i,h,by show (1:Int).natAbs<2^64;decide⟩
theorem tw{n:Int}{v:Int}(w:Wl n o)(hn:n<2^38)(h:0<=k/\k<=1000000/\(10:Int).natAbs<2^64)(e:(10:Int)^k.toNat=v)(A:0<=v)(x:v<2^60):X2 λu o'=>N4 (0<=u) (u<2*v+1) (Wl (n+1) o') (∀Z,az fD (aO ax (aK (ae 0) (km (az aX (az br (aw 2) (az gX (aw 10) (mC (.int k)))) (aw 1))))) (az gX (aw 10) (mC (.int k))) (.pv o::Z)=some (.ok (.fr (.int (u-v))),.pv o'::Z)):=by obtain⟨u,o',c,a,b,S⟩:=tk (2*v+1) w (by omega) (by omega) (by omega);exact⟨u,o',a,b,S,λZ=>ai (ag (af rfl (af (dA (ai (ai rfl (pw k v h e _) (KP (by decide) (by omega) _)) rfl rfl) rfl) rfl)) (c _)) (pw k v h e _) rfl⟩
theorem Ur:∀r:Nat,r<5->∃t:Int,N3 (j3 [A.int 1,.int 1,.int 2,.int 3,.int 6] (r:Int)=some (.int t)) (1<=t) (t<=6):=by
 intro r l
 match r,l with
 |0,_=>exact⟨1,rfl,by decide,by decide⟩
 |1,_=>exact⟨1,rfl,by decide,by decide⟩
 |2,_=>exact⟨2,rfl,by decide,by decide⟩
 |3,_=>exact⟨3,rfl,by decide,by decide⟩
 |4,_=>exact⟨6,rfl,by decide,by decide⟩
theorem pE(b:Bool)(d:decide (i=j)=b)(h:Z[1]?=some (.fr (.int i))):ao (az dP (ae 1) (mC (.int j))) Z=some (.ok b,Z):=by rw[<-d];exact aA (ai (by rw[IE,h]) rfl (iD _ _ _))
theorem rg{t b:Int}(h:b≠0)(d:b.natAbs<2^64)(Z:List Sl):d9 cB [] [.fr (.int t),.fr (.int b)] Z=some (.ok (.fr (nm (gv t b))),Z):=av (u7 h (show b.natAbs<2^9000 from UZ d (VT (by decide) (by decide)))) Z
theorem xR{n:Int}(w:Wl n o)(hn:n<2^38):X2 λx o'=>N3 (cJ fL o [.int k] (.fr (nm x)) o') (NB 60 x) (Wl (n+2) o'):=by
 suffices ∃s o',cJ fL o [.int k] s o'/\∃x,N3 (s=.fr (nm x)) (NB 60 x) (Wl (n+2) o') by obtain⟨s,o',v,x,rfl,h1,h2⟩:=this;exact⟨x,o',v,h1,h2⟩
 have E:∀{i:Int},i.natAbs<2^60->NB 60 (i,1):=λh=>⟨RG _,h,by show (1:Int).natAbs<2^60;decide⟩
 refine cJ.of (Wp.df ?_)
 by_cases h4:k=4
 .obtain⟨u,Q,l,b2,D,e2⟩:=tw (k:=17) (v:=100000000000000000) w (by omega) (by decide) (by decide) (by decide) (by decide)
  exact Wp.sr (cL (pE true (decide_eq_true h4) rfl) (aC (Io (e2 _)) rfl)) ⟨_,_,_,rfl,rfl,_,rfl,E (by omega),D.mono (by omega)⟩
 refine Wp.st (aY (pE false (decide_eq_false h4) rfl) rfl) ?_
 by_cases h3:k=3
 .obtain⟨u,Q,l,b2,D,e2⟩:=tw (k:=6) (v:=1000000) w (by omega) (by decide) (by decide) (by decide) (by decide)
  obtain⟨d,a,L,O,R,J⟩:=tk 1000 D (by omega) (by decide) (by decide)
  exact Wp.sr (cL (pE true (decide_eq_true h3) rfl) (aC (ag (af (e2 _) (af (dA (ai rfl (ag rfl (L _)) rfl) rfl) rfl)) (rg (by omega) (by omega) _)) rfl)) ⟨_,_,_,rfl,rfl,_,rfl,.gv (by omega) (show (u-1000000).natAbs<2^60 by omega) (show (1+d).natAbs<2^60 by omega),J.mono (by omega)⟩
 refine Wp.st (aY (pE false (decide_eq_false h3) rfl) rfl) ?_
 by_cases h2:k=2
 .obtain⟨u,Q,l,b2,D,e2⟩:=tw (k:=15) (v:=1000000000000000) w (by omega) (by decide) (by decide) (by decide) (by decide)
  exact Wp.sr (cL (pE true (decide_eq_true h2) rfl) (aC (Io (e2 _)) rfl)) ⟨_,_,_,rfl,rfl,_,rfl,E (by omega),D.mono (by omega)⟩
 refine Wp.st (aY (pE false (decide_eq_false h2) rfl) rfl) ?_
 obtain⟨u,Q,c2,l,b2,D⟩:=tk 21 w (by omega) (by decide) (by decide)
 obtain⟨r,a,L,O,R,J⟩:=tk 5 D (by omega) (by decide) (by decide)
 obtain⟨j,rfl⟩:∃j:Nat,r=j:=⟨r.toNat,by omega⟩
 obtain⟨d,X,t,b⟩:=Ur j (by omega)
 exact Wp.en (aC (ag (af (ai (ag rfl (c2 _)) rfl rfl) (af (ai (fV rfl rfl) (ag rfl (L _)) (bJ (.inl rfl) X)) rfl)) (rg (by omega) (by omega) _)) rfl) ⟨_,_,_,rfl,rfl,_,rfl,.gv (by omega) (show (u-10).natAbs<2^60 by omega) (show d.natAbs<2^60 by omega),J.mono (by omega)⟩
theorem xm{n:Int}(w:Wl n o)(hn:n<2^37):X2 λx o'=>N4 (cJ fE o [.int k] (.fr (nm x)) o') (NB 60 x) (0<=x.1) (Wl (n+3) o'):=by
 obtain⟨x,K,a,nx,U⟩:=xR w (by omega);obtain⟨r,Q,c2,q,b2,D⟩:=tk 8 U (by omega) (by decide) (by decide)
 suffices ∃s o',cJ fE o [.int k] s o'/\∃x,N4 (s=.fr (nm x)) (NB 60 x) (0<=x.1) (Wl (n+3) o') by obtain⟨s,o',v,x,rfl,h1,h2,h3⟩:=this;exact⟨x,o',v,h1,h2,h3⟩
 refine cJ.of (Wp.df (Wp.st (bD (ag rfl (Hr a rfl _)) rfl) ?_));have h:ao (az dP (aO ax (aK (ae 0) (aw 8))) (aw 1)) [.pv K,.fr (.int k),.fr (nm x)]=some (.ok (decide (r=1)),[.pv Q,.fr (.int k),.fr (nm x)]):=aA (ai (ag rfl (c2 _)) rfl (iD _ _ _));by_cases l:r=1
 .rw[decide_eq_true l] at h;exact Wp.sr (cL h rfl) ⟨_,_,_,rfl,rfl,(0,1),rfl,rL,Int.le_refl 0,D.mono (by omega)⟩
 .rw[decide_eq_false l] at h;refine Wp.st (aY h rfl) (Wp.en rfl ⟨_,_,_,rfl,rfl,(if x.1<0 then -x.1 else x.1,x.2),rfl,?_,?_,D.mono (by omega)⟩)
  .split
   .exact nx.neg
   .exact nx
  .show 0<=(if x.1<0 then -x.1 else x.1);split<;>omega
theorem A4(h:0<=x.1):ll x (0,1)=false:=by unfold ll;apply decide_eq_false;show ¬ (x.1*1<0*x.2);omega
theorem F7(k:Ok x)(S:Ok y)(h:0<=y.1):ll (eR x y) x=false:=by
 cases e:ll (eR x y) x with
 |false=>rfl
 |true=>exfalso;have h1:=(qQ (Lx k S) k).mp e;have h2:=A4 h;rw[vy k S] at h1;have h3:ll y (0,1)=true:=(qQ S FW).mpr (by rw[kj];grind);rw[h2] at h3;cases h3
theorem xB(x:Num):pz (nm x) (nm x)=some true:=by rw[Ca];simp
theorem EO(i j:Str):pz (.str i) (.str j)=some (decide (i=j)):=by unfold pz;simp only[toD];rw[if_pos (by simp[D.depth])];simp[D.eq,XJ]
noncomputable def RK(f:Sf):D:=.tup [.str f.s,.tup [.int f.r.1,.int f.r.2],.str f.w]
theorem yx:∀L:List Sf,gC (L.map eN)=some (L.map RK)
 |[]=>by simp[gC]
 |p::L=>by rw[U3,gC,yx L];simp[eN,RK,nm,toD,gC]
theorem pJ:∀L:List Sf,D.cX (L.map RK)<=5
 |[]=>by simp[D.cX]
 |p::L=>by rw[U3];have:=pJ L;simp[RK,D.cX,D.depth];omega
theorem tW:∀L:List Str,gC (L.map A.str)=some (L.map D.str)
 |[]=>by simp[gC]
 |p::L=>by rw[U3,gC,tW L];simp[toD]
theorem oN:∀L:List Str,D.cX (L.map D.str)<=5
 |[]=>by simp[D.cX]
 |p::L=>by rw[U3];have:=oN L;simp[D.cX,D.depth];omega
theorem Cr(L:List Str):pz (.lst (L.map A.str)) (.lst [])=some (decide (L=[])):=by
 unfold pz;simp only[toD,tW,gC];rw[if_pos ?_]
 .cases L with
  |nil=>simp[D.kY]
  |cons f L=>simp[D.eq,D.eqs]
 .have:=oN L;simp[D.cX,D.depth];omega
theorem Uo:∀r:Nat,r<3->∃w:Str,j3 [A.str "fixed",.str "big",.str "small"] (r:Int)=some (.str w)/\pG w:=by
 intro r l
 match r,l with
 |0,_=>exact⟨"fixed",rfl,.inl rfl⟩
 |1,_=>exact⟨"big",rfl,.inr (.inl rfl)⟩
 |2,_=>exact⟨"small",rfl,.inr (.inr rfl)⟩
theorem Um:∀r:Nat,r<8->∃t:Nat,j3 [A.int 0,.int 0,.int 1,.int 1,.int 2,.int 3,.int 2,.int 5] (r:Int)=some (.int (t:Int))/\t<=5:=by
 intro r l
 match r,l with
 |0,_=>exact⟨0,rfl,by decide⟩
 |1,_=>exact⟨0,rfl,by decide⟩
 |2,_=>exact⟨1,rfl,by decide⟩
 |3,_=>exact⟨1,rfl,by decide⟩
 |4,_=>exact⟨2,rfl,by decide⟩
 |5,_=>exact⟨3,rfl,by decide⟩
 |6,_=>exact⟨2,rfl,by decide⟩
 |7,_=>exact⟨5,rfl,by decide⟩
structure FR(pr:List Str)(nm0:Str)(fs:List Sf)(ss:List Str):Prop where
 nd:(pr++((nm0::fs.map Sf.s)++ss)).Nodup
 ok:∀z∈pr++((nm0::fs.map Sf.s)++ss),kz z
 sf:∀f∈fs,Mb 121 f
theorem FR.next{pr:List Str}{nm0:Str}{fs:List Sf}{wy:Str}(d:FR pr nm0 fs (pre++[l]))(y:NB 60 x)(h0:0<=x.1)(m:pG wy):FR pr nm0 (fs++[⟨l,x,wy⟩]) pre:=by
 have e:pr++((nm0::(fs++[(⟨l,x,wy⟩:Sf)]).map Sf.s)++pre)=pr++((nm0::fs.map Sf.s)++([l]++pre)):=by simp
 have pm:(pr++((nm0::fs.map Sf.s)++([l]++pre))).Perm (pr++((nm0::fs.map Sf.s)++(pre++[l]))):=(Wo.append_left _).append_left _;refine⟨by rw[e];exact(pm.nodup_iff).mpr d.nd,λz hz=>?_,λf hf=>?_⟩
 .rw[e] at hz;exact d.ok z (pm.mem_iff.mp hz)
 .rcases Vb.mp hf with h|h
  .exact d.sf f h
  .rw[Va.mp h];exact⟨y.mono (by decide),A4 h0,m⟩
theorem Ol{n:Int}{s:Nat}(hn:n<2^33):n+30*(12-(s:Int))<2^34:=by omega
theorem PU{a:Nat}(h:a+b<=12):a<=100:=by omega
theorem Qc{a c:Nat}(h:a+1+b<=c):b<c:=by omega
theorem Q9{z s f t:Nat}(h:z+s<=12)(l:f+1+t<=s):z+1+t<=12:=by omega
theorem OJ{z s f t:Nat}(h:z+s<=12)(l:f+1+t<=s)(e:b=f+1):z+b+t<=12:=by omega
theorem P5{n:Int}{s f t:Nat}(l:f+1+t<=s):n+30*(12-(s:Int))+30<=n+30*(12-(t:Int)):=by omega
theorem OK{n:Int}{s:Nat}:n+30*(12-(s:Int))<=n+360:=by omega
theorem Qu{n:Int}{s:Nat}(h:s<=12):n<=n+30*(12-(s:Int)):=by omega
abbrev zS(o:LO)(many K kd:Int)(ss:List Str)(zs:List Sz)(x7 x8 x9 I x11 D:Sl):List Sl:=[.pv o,.fr (.int many),.fr (.int K),.fr (.int 5),.fr (.int kd),.lv (.lst (ss.map A.str)),.lv (.lst (zs.map ie)),x7,x8,x9,I,x11,D]
section
variable{n many K kd:Int}{o:LO}{pr:List Str}{nm0:Str}{ss:List Str}{zs:List Sz}{fs:List Sf}{x7 x8 x9 I x11 D:Sl}
theorem FD:ao (az iy (ae 5) (eM eP)) (zS o many K kd ss zs x7 x8 x9 I x11 D)=some (.ok (!decide (ss=[])),zS o many K kd ss zs x7 x8 x9 I x11 D):=
 aA (ai rfl (fV rfl rfl) (by simp only[eW,res,Sl.a,LO.a,Wf,WH,iy,Cr]))
theorem Ff(w:Wl n o)(hn:n<2^36)(d:FR pr nm0 fs ss)(hf:fs.length<=100)(c:np D=true):X2 λh Y=>X2 λo' T=>N6 (Sv (zS o many K kd ss zs x7 x8 x9 (.lv (.lst (fs.map eN))) x11 D)=some (.nx,zS o' many K kd Y zs x7 x8 x9 (.lv (.lst (h.map eN))) x11 T)) (FR pr nm0 h Y) (h.length<=fs.length+1) (h.length+Y.length<=fs.length+ss.length) (Wl (n+4) o') (np T=true):=by
 by_cases hz:ss=[]
 .exact⟨fs,ss,o,D,aY (by rw[FD,decide_eq_true hz];rfl) rfl,d,by omega,U2 _,w.mono (by omega),c⟩
 .obtain⟨x,g,a,nx,x0,U⟩:=xm (k:=kd) w (by omega);obtain⟨r,Q,c2,q,b2,O⟩:=tk 3 U (by omega) (by decide) (by decide);obtain⟨j,rfl⟩:∃j:Nat,r=j:=⟨r.toNat,by omega⟩
  obtain⟨wy,e3,m⟩:=Uo j (by omega);obtain⟨pre,l,rfl⟩:X2 λpre l=>ss=pre++[l]:=⟨ss.dropLast,ss.getLast hz,(YB hz).symm⟩
  have e5:(fs++[(⟨l,x,wy⟩:Sf)]).map eN=fs.map eN++[eN ⟨l,x,wy⟩]:=U7;refine⟨fs++[⟨l,x,wy⟩],pre,Q,.fr (nm x),cL (by rw[FD,decide_eq_false hz];rfl) (bW (aW (ag rfl (Hr a rfl _)) rfl rfl c rfl) (j1 rfl (cR (af (DK rfl rfl) (af rfl (af (ai (fV rfl rfl) (ag rfl (c2 _)) (bJ (.inl rfl) e3)) rfl))) rfl) rfl rfl (by rw[UP];omega) (by rw[e5];rfl))),d.next nx x0 m,by simp,by simp;omega,O.mono (by omega),rfl⟩
theorem Iq{t:Nat}(w:Wl n o)(hn:n<2^35)(d:FR pr nm0 [] ss)(L:t<=5)(b:np x11=true)(c:np D=true):X5 λfs Y o' h T=>N6 (forL (aH 11) Sv (cU 0 t) (zS o many K kd ss zs x7 x8 x9 (.lv (.lst [])) x11 D)=some (.nx,zS o' many K kd Y zs x7 x8 x9 (.lv (.lst (fs.map eN))) h T)) (FR pr nm0 fs Y) (fs.length<=5) (fs.length+Y.length<=ss.length) (Wl (n+20) o') (np h=true/\np T=true):=by
 have hl:=mZ t;obtain⟨U,hf,fs,Y,o',h,T,rfl,d',B,C,S,x,X⟩:=tq (G:=aH 11) (as:=cU 0 t)
  (λi Z=>X5 λfs Y o' x11 D=>N6 (Z=zS o' many K kd Y zs x7 x8 x9 (.lv (.lst (fs.map eN))) x11 D) (FR pr nm0 fs Y) (fs.length<=i) (fs.length+Y.length<=ss.length) (Wl (n+4*i) o') (np x11=true/\np D=true))
  ⟨[],ss,o,x11,D,rfl,d,U2 _,(by simp),w.mono (by simp),b,c⟩ (by
   rintro i a Z ha ⟨fs,Y,o',x11,D,rfl,d',B,C,S,x,X⟩;have hi:i<5:=by have:=(wF ha).1;omega
   obtain⟨r,z,Q,T,e,k,p,v,O,q⟩:=Ff (x11:=.fr a) S (by omega) d' (by omega) X;exact⟨zS o' many K kd Y zs x7 x8 x9 (.lv (.lst (fs.map eN))) (.fr a) D,_,by cases x11<;>first|(cases x;done)|rfl,.inl e,r,z,Q,_,_,rfl,k,by omega,by omega,O.mono (by omega),rfl,q⟩)
 exact⟨fs,Y,o',h,T,hf,d',by omega,C,S.mono (by omega),x,X⟩
theorem HS(w:Wl n o)(hn:n<2^34)(nd:(zs.flatMap a9++ss).Nodup)(ok:∀z∈zs.flatMap a9++ss,kz z)(hz:ss≠[])(hl:zs.length<=100)(R:np x7=true)(k:np x8=true)(m:np x9=true)(a:np I=true)(b:np x11=true)(c:np D=true):X5 λz Y o' g p=>X2 λv G=>X2 λh T=>N6 (Bj (zS o many K kd ss zs x7 x8 x9 I x11 D)=some (.nx,zS o' many K kd Y (zs++[z]) g p v G h T)) (jS 121 z) (((zs++[z]).flatMap a9++Y).Nodup) (∀x∈(zs++[z]).flatMap a9++Y,kz x) (z.f.length+1+Y.length<=ss.length) (N6 (Wl (n+30) o') (np g=true) (np p=true) (np v=true) (np G=true) (np h=true/\np T=true)):=by
 obtain⟨pre,l,rfl⟩:X2 λpre l=>ss=pre++[l]:=⟨ss.dropLast,ss.getLast hz,(YB hz).symm⟩
 obtain⟨x,F,L,nx,U⟩:=xR w (by omega);obtain⟨y,d,J,r,u,O⟩:=xm U (by omega);obtain⟨V,o3,B,a3,b3,Q⟩:=tk 8 O (by omega) (by decide) (by decide);obtain⟨j,rfl⟩:∃j:Nat,V=j:=⟨V.toNat,by omega⟩
 obtain⟨t,i,e⟩:=Um j (by omega);have pm:(zs.flatMap a9++(pre++[l])).Perm (zs.flatMap a9++([l]++pre)):=Wo.append_left _;have A:FR (zs.flatMap a9) l [] pre:=⟨(pm.nodup_iff).mp nd,λz hz=>ok z (pm.mem_iff.mpr hz),λf hf=>by cases hf⟩
 obtain⟨fs,Y,S,h,T,hf,X,lf,ls,N,q,E⟩:=Iq (many:=many) (K:=K) (kd:=kd) (zs:=zs) (x7:=.fr (.str l)) (x8:=.fr (nm x)) (x9:=.fr (nm (eR x y))) Q (by omega) A e b c;have H:(zs++[(⟨l,x,eR x y,fs⟩:Sz)]).flatMap a9=zs.flatMap a9++(l::fs.map Sf.s):=by rw[Vw];simp[a9]
 have C:∀Z,tU (.fr (.int (t:Int))) Z=some (.ok (cU 0 t),Z):=λZ=>by unfold tU;dsimp only [res];rw[if_pos (by omega),Yq]
 have e5:(zs++[(⟨l,x,eR x y,fs⟩:Sz)]).map ie=zs.map ie++[ie ⟨l,x,eR x y,fs⟩]:=U7;refine⟨⟨l,x,eR x y,fs⟩,Y,S,.fr (.str l),.fr (nm x),.fr (nm (eR x y)),.lv (.lst (fs.map eN)),h,T,bW (aW (DK rfl rfl) rfl rfl R rfl) <| bW (aW (ag rfl (Hr L rfl _)) rfl rfl k rfl) <| bW (aW (ag (af rfl (af (ag rfl (Hr J rfl _)) rfl)) (av (jy nx r (by decide)) _)) rfl rfl m rfl) <| bW (aW (fV rfl rfl) rfl rfl a rfl) <| bW (sk (nO (ai (fV rfl rfl) (ag rfl (B _)) (bJ (.inl rfl) i)) (C _)) hf) <| j1 rfl rfl rfl rfl (by rw[UP];omega) (by unfold zS;rw[e5];rfl),⟨nx.mono (by decide),(nx.add r).mono (by decide),F7 nx.ok r.ok u,X.sf,λs P=>X.ok s (UX _ (Vk _ P)),(U8.mp (U8.mp X.nd).2.1).1,by show fs.length<=50;omega⟩,by rw[H,U0];exact X.nd,by rw[H,U0];exact X.ok,by simp;omega,N.mono (by omega),rfl,rfl,rfl,rfl,q,E⟩
theorem PQ:D7 (zS o many K kd ss zs x7 x8 x9 I x11 D)=some (.ok (!decide (ss=[])&&decide ((zs.length:Int)<many)),zS o many K kd ss zs x7 x8 x9 I x11 D):=by
 have e:ao (az u0 (dg kl (ae 6)) (ae 1)) (zS o many K kd ss zs x7 x8 x9 I x11 D)=some (.ok (decide ((zs.length:Int)<many)),zS o many K kd ss zs x7 x8 x9 I x11 D):=by rw[show (zs.length:Int)=((zs.map ie).length:Int) by rw[UP]];rfl
 cases h:decide (ss=[]) with
 |true=>exact jl (by rw[FD,h];rfl)
 |false=>exact cP (by rw[FD,h];rfl) e
theorem GK(w:Wl n o)(hn:n<2^33)(nd:ss.Nodup)(ok:∀z∈ss,kz z)(hl:ss.length<=12)(S:ss≠[]):X5 λ(zs:List Sz)(o':LO)(Y:List Str)(x7 x8:Sl)=>X2 λ(x9 I:Sl)=>X2 λ(x11 D:Sl)=>N6 (eZ D7 Bj EF (zS o many K kd ss [] .un .un .un .un .un .un)=some (.nx,zS o' many K kd Y zs x7 x8 x9 I x11 D)) (∀z∈zs,jS 121 z) ((zs.flatMap a9).length<=12) ((zs.flatMap a9).Nodup) (0<many->zs≠[]) (Wl (n+360) o'):=by
 obtain⟨O,m,zs,o',Y,x7,x8,x9,I,x11,D,rfl,h1,h2,h3,h4,h5⟩:=lK (n:=EF)
  (P:=λk Z=>X5 λ(ss:List Str)(zs:List Sz)(X:LO)(x7 x8:Sl)=>X2 λ(x9 I:Sl)=>X2 λ(x11 D:Sl)=>N6 (Z=zS X many K kd ss zs x7 x8 x9 I x11 D) ((zs.flatMap a9++ss).Nodup) (∀z∈zs.flatMap a9++ss,kz z) (∀z∈zs,jS 121 z) (zs.length+ss.length<=12) (N6 ((zs.flatMap a9).length+ss.length<=12) (Wl (n+30*(12-ss.length)) X) (np x7=true) (np x8=true) (np x9=true) (N4 (np I=true) (np x11=true) (np D=true) ((zs=[]->ss≠[])/\k=ss.length))))
  (Q:=λZ=>X5 λ(zs:List Sz)(X:LO)(ss:List Str)(x7 x8:Sl)=>X2 λ(x9 I:Sl)=>X2 λ(x11 D:Sl)=>N6 (Z=zS X many K kd ss zs x7 x8 x9 I x11 D) (∀z∈zs,jS 121 z) ((zs.flatMap a9).length<=12) ((zs.flatMap a9).Nodup) (0<many->zs≠[]) (Wl (n+360) X)) (by
   rintro k Z ⟨ss,zs,X,x7,x8,x9,I,x11,D,rfl,nd,ok,E,le,G,g,R,p,v,a,b,c,S,rfl⟩;by_cases hz:ss≠[]/\(zs.length:Int)<many
   .right;obtain⟨z,Y,o',A,C,V,y,H,t,e,F,N,k1,B,U,L,J,u,r,T,q⟩:=HS (many:=many) (K:=K) (kd:=kd) g (Ol hn) nd ok hz.1 (PU le) R p v a b c;refine⟨_,_,Y.length,PQ.trans (by rw[decide_eq_false hz.1,decide_eq_true hz.2];rfl),.inl e,Qc B,Y,zs++[z],o',_,_,_,_,_,_,rfl,N,k1,λx s=>?_,by rw[UY];exact Q9 le B,?_,U.mono (P5 B),L,J,u,r,T,q,(λe=>absurd e (by simp)),rfl⟩
    .rcases Vb.mp s with h|h
     .exact E x h
     .rw[Va.mp h];exact F
    .rw[Vw,List.flatMap_singleton,UY];exact OJ G B (by unfold a9;rw[US,UP])
   .left;have d:(!decide (ss=[])&&decide ((zs.length:Int)<many))=false:=by rw[Ws];simpa using hz
    exact⟨_,PQ.trans (by rw[d]),zs,X,ss,_,_,_,_,_,_,rfl,E,Vg (zab _ _) G,(U8.mp nd).1,λf e=>hz ⟨S e,by rw[e];exact f⟩,g.mono OK⟩) (Z:=zS o many K kd ss [] .un .un .un .un .un .un)
  ⟨ss,[],o,.un,.un,.un,.un,.un,.un,rfl,nd,ok,(λz hz=>by cases hz),by simpa using hl,by simpa using hl,w.mono (Qu hl),rfl,rfl,rfl,rfl,rfl,rfl,λ_=>S,rfl⟩ (wQ (UZ (Wi hl (by decide):ss.length<2^4) (VT (by decide) (by decide))))
 exact⟨zs,o',Y,x7,x8,x9,I,x11,D,m,h1,h2,h3,h4,h5⟩
end
theorem Co(a:K<=12)(x:0<K){n:Int}{many:Int}(w:Wl n o)(hn:n<2^32):X2 λ(zs:List Sz)(o':LO)=>N6 (cJ gF o [.int many,.int (K:Int),.int 5] (.lv (.lst (zs.map ie))) o') (∀z∈zs,jS 121 z) ((zs.flatMap a9).length<=12) ((zs.flatMap a9).Nodup) (0<many->zs≠[]) (Wl (n+420) o'):=by
 obtain⟨kd,g,R,F,b1,U⟩:=tk 5 w (by omega) (by decide) (by decide);obtain⟨ss,L,J,nd,hl,ok,O⟩:=zc a U (by omega);obtain⟨zs,k,Y,x7,x8,x9,I,x11,D,hw,E,Z,h,G,Q⟩:=GK (many:=many) (K:=K) (kd:=kd) O (by omega) nd (λz hz=>(ok z hz).1) (by omega) (by rintro rfl;rw[Wm] at hl;omega)
 suffices ∃s o',cJ gF o [.int many,.int (K:Int),.int 5] s o'/\(s=.lv (.lst (zs.map ie))/\o'=k) by obtain⟨s,o',v,rfl,rfl⟩:=this;exact⟨zs,o',v,E,Z,h,G,Q.mono (by omega)⟩
 exact cJ.of (Wp.df (Wp.st (bD (ag rfl (R _)) rfl) <| Wp.st (bD (ag rfl (Hr J rfl _)) rfl) <| Wp.st (bD (fV rfl rfl) rfl) <| Wp.st (BQ <| hw) <| Wp.en (aC rfl rfl) ⟨_,_,_,rfl,rfl,rfl,rfl⟩))
theorem Hi{cn c2:Str}{f:Ms}{das as:List A}{fs:List (Str×A)}{Y:List Sl}(h:f (.pv (.obj cn [])::(as++das).map Sl.fr)=some (.rt (.fr .non),.pv (.obj c2 fs)::Y))(Z:List Sl):kH cn f das (as.map Rr.fr) Z=some (.ok (.nw (.obj c2 fs)),Z):=by unfold kH;rw[<-U7,iQ];simp only[oJ,h];rw[ju _ _ _ _ (by rw[bL,UP])]
theorem Ll(h:jS b z)(F:60<=b)(b1:b<=4000)(e:z.f=[])(Z:List Sl):kH "Size" bM [.non] [.fr (.str z.n),.fr (nm z.l),.fr (nm z.m)] Z=some (.ok (.nw (.obj "Size" (z4 z))),Z):=by obtain⟨c,hi⟩:=vP h F b1 (sh:=.non) (.inl ⟨rfl,e⟩);exact Hi (as:=[.str z.n,nm z.l,nm z.m]) hi Z
theorem Ar(h:jS b z)(F:60<=b)(b1:b<=4000)(Z:List Sl):kH "Size" bM [] [.fr (.str z.n),.fr (nm z.l),.fr (nm z.m),.fr (.tup (z.f.map eN))] Z=some (.ok (.nw (.obj "Size" (z4 z))),Z):=by obtain⟨c,hi⟩:=vP h F b1 (sh:=.tup (z.f.map eN)) (.inr (.inr rfl));exact Hi (as:=[.str z.n,nm z.l,nm z.m,.tup (z.f.map eN)]) hi Z
theorem Gb(L:List Sf):pz (.tup (L.map eN)) (.tup [])=some (decide (L=[])):=by
 unfold pz;simp only[toD,yx,gC];rw[if_pos ?_]
 .cases L with
  |nil=>simp[D.kY]
  |cons f L=>simp[D.eq,D.eqs]
 .have:=pJ L;simp[D.cX,D.depth];omega
theorem Kt(h:jS b z)(F:60<=b)(b1:b<=4000)(Z:List Sl):kH "Size" bM [] [.fr (.str z.n),.fr (nm z.l),.fr (nm z.m),.fr (.lst (z.f.map eN))] Z=some (.ok (.nw (.obj "Size" (z4 z))),Z):=by obtain⟨c,hi⟩:=vP h F b1 (sh:=.lst (z.f.map eN)) (.inr (.inl rfl));exact Hi (as:=[.str z.n,nm z.l,nm z.m,.lst (z.f.map eN)]) hi Z
theorem CW(h:jS b z)(F:60<=b)(b1:b<=4000):dF fS [d5 z] (.obj "Size" (z4 z)):=by have k:dF ff [d5 z,nm z.l,nm z.m] (.obj "Size" (z4 z)):=dF.of (Wp.df (Wp.en (aC (jn (af (bq rfl (eC rfl (j8 z))) (af rfl (af rfl (af (bq rfl (eC rfl (dH z))) rfl)))) (Ar h F b1 _)) rfl) rfl));exact dF.of (Wp.df (Wp.en (aC (ag (af rfl (af (bq rfl (eC rfl (lu z))) (af (bq rfl (eC rfl (nU z))) rfl))) (bQ k _)) rfl) rfl))
def EL(zs:List Sz):List (Str×A):=[("kept",.lst (zs.map d5))]
def gz(zs:List Sz):A:=.obj "Stock" (EL zs)
structure mH(b:Nat)(zs:List Sz):Prop where
 sz:∀z∈zs,jS b z
 ln:(zs.flatMap a9).length<=60
theorem ui:∀zs:List Sz,zs.length<=(zs.flatMap a9).length
 |[]=>by simp
 |z::zs=>by
  have:=ui zs;have hl:(a9 z).length=z.f.length+1:=by unfold a9;simp
  rw[Wt,UY,US,hl];omega
variable{zs:List Sz}
theorem mH.len(h:mH b zs):zs.length<=60:=Vg (ui zs) h.ln
theorem mH.ns{b:Nat}{zs:List Sz}(h:mH b zs):∀x∈zs.flatMap a9,kz x:=λx y=>by obtain⟨z,hz,y⟩:=Z5.mp y;exact(h.sz z hz).ns x y
theorem sR(zs:List Sz):bp ["Stock"] "kept" (gz zs)=some (.fr (.lst (zs.map d5))):=by unfold bp gz EL;simp only;rw[if_pos (by decide +kernel)];rfl
theorem QF(h:mH b zs)(P:s0=.fr (gz zs)\/s0=.pv (.obj "Stock" (EL zs))):∃Z,bC [s0]=some (.rt (.lv (.lst ((zs.flatMap a9).map A.str))),s0::Z):=by
 have hk:∀Z,bU (j4 (bp ["Stock"] "kept") (ae 0)) (s0::Z)=some (.ok (zs.map d5),s0::Z):=λZ=>by rcases P with rfl|rfl<;>exact hY (bq rfl (eC rfl (sR zs))) rfl
 suffices Wp bC [s0] λg Z=>g=.rt (.lv (.lst ((zs.flatMap a9).map A.str)))/\∃U,Z=s0::U by obtain⟨_,_,e,rfl,_,rfl⟩:=this;exact⟨_,e⟩
 refine Wp.df (Wp.st rfl (Wp.sq (Wp.fr (λi Z=>∃x,Z=[s0,.lv (.lst (((zs.take i).flatMap a9).map A.str)),x]/\np x=true) (hk _) ⟨_,rfl,rfl⟩ ?_ ?_)))
 .rintro i a Z ha ⟨x,rfl,y⟩;rw[UU] at ha;cases Q:zs[i]? with
  |none=>rw[Q] at ha;cases ha
  |some z=>
   rw[Q] at ha;cases ha;have e:((zs.take (i+1)).flatMap a9).map A.str=((zs.take i).flatMap a9).map A.str++(a9 z).map A.str:=by rw[Vu,Q];simp
   have E:(((zs.take i).flatMap a9).map A.str).length+((a9 z).map A.str).length<=100000:=by have q:=congrArg (λl=>(l.flatMap a9).length) (VO (i+1) zs);have o:=congrArg V2 e;simp only[Vw,UY,UP] at q o ⊢;have:=h.ln;omega
   refine⟨[s0,.lv (.lst (((zs.take i).flatMap a9).map A.str)),.fr (d5 z)],by cases x<;>first|(cases y;done)|rfl,Wp.en (U:=[s0,.lv (.lst (((zs.take (i+1)).flatMap a9).map A.str)),.fr (d5 z)]) ?_ ⟨.inl rfl,_,rfl,rfl⟩⟩;rw[e];exact kD (AK rfl (ag (af (bI rfl rfl) rfl) (bQ (zF (h.sz z (Vc Q)).ln) _)) (if_pos E))
 .rintro Z ⟨x,rfl,_⟩;rw[UP,VS];exact⟨rfl,Wp.en rfl ⟨rfl,_,rfl⟩⟩
theorem CK(h:mH b zs):dF bC [gz zs] (.lst ((zs.flatMap a9).map A.str)):=let ⟨_,e⟩:=QF h (.inl rfl);⟨_,e⟩
theorem Q4(h:mH b zs)(nd:(zs.flatMap a9).Nodup)(F:60<=b)(b1:b<=4000):cF [.pv (.obj "Stock" []),.fr (.lst (zs.map d5))]=some (.rt (.fr .non),[.pv (.obj "Stock" (EL zs)),.fr (.lst (zs.map d5))]):=by
 obtain⟨w,x⟩:=QF h (.inr rfl);have k:=js (e:=aO fS (gw (aj 2))) (S:=[.pv (.obj "Stock" []),.fr (.lst (zs.map d5))]) d5 d5 rfl (by have:=h.len;omega) λz hz=>⟨.nw (.obj "Size" (z4 z)),ag rfl (bQ (CW (h.sz z hz) F b1) _),rfl⟩
 suffices Wp cF [.pv (.obj "Stock" []),.fr (.lst (zs.map d5))] λg Z=>g=.rt (.fr .non)/\Z=[.pv (.obj "Stock" (EL zs)),.fr (.lst (zs.map d5))] by obtain⟨_,_,e,rfl,rfl⟩:=this;exact e
 refine Wp.df (Wp.st (U:=[.pv (.obj "Stock" (EL zs)),.fr (.lst (zs.map d5))]) ?_ (Wp.en (FV (oh h.ns nd (by have:=h.ln;omega)) (af (dA (xH (ag rfl (Tw x rfl _))) rfl) rfl)) ⟨rfl,rfl⟩));exact sk (bR rfl k) rfl
abbrev G4(i j k l:Nat):Mg:=cY 4 (aE (aH i) (aE (aH j) (aE (aH k) (aE (aH l) dw))))
abbrev G3(i j k:Nat):Mg:=cY 3 (aE (aH i) (aE (aH j) (aE (aH k) dw)))
variable{c x3 x4 x5 x6:Sl}
theorem Qn{a b y:Sl}(z:Sz)(h3:np x3=true)(h4:np x4=true)(h5:np x5=true)(Y:np x6=true):G4 3 4 5 6 (ie z) [a,b,c,x3,x4,x5,x6,y]=some [a,b,c,.fr (.str z.n),.fr (nm z.l),.fr (nm z.m),.fr (.tup (z.f.map eN)),y]:=by cases x3<;>first|(cases h3;done)|(cases x4<;>first|(cases h4;done)|(cases x5<;>first|(cases h5;done)|(cases x6<;>first|(cases Y;done)|rfl)))
abbrev mS(o:LO)(zs:List Sz)(ys:List A)(z:Sz)(x7:Sl):List Sl:=[.pv o,.fr (.lst (zs.map ie)),.lv (.lst ys),.fr (.str z.n),.fr (nm z.l),.fr (nm z.m),.fr (.tup (z.f.map eN)),x7]
theorem Je{ys:List A}{r:Int}:oe (ao (az dP (ae 6) (aU eP))) (ao (az dP (ae 7) (aw 1))) (mS o zs ys z (.fr (.int r)))=some (.ok (decide (z.f=[])&&decide (r=1)),mS o zs ys z (.fr (.int r))):=by
 have e:ao (az dP (ae 6) (aU eP)) (mS o zs ys z (.fr (.int r)))=some (.ok (decide (z.f=[])),mS o zs ys z (.fr (.int r))):=aA (ai rfl rfl (by simp only[eW,res,dP,Gb]));cases h:decide (z.f=[]) with
 |false=>rw[h] at e;exact jl e
 |true=>rw[h] at e;exact cP e (aA (ai rfl rfl (iD _ _ _)))
theorem NJ{n:Int}(w:Wl n o)(hn:n<2^38)(h:mH b zs)(F:60<=b)(b1:b<=4000):∃o',cJ iG o [.lst (zs.map ie)] (.lv (.lst (zs.map d5))) o'/\Wl (n+60) o':=by
 have K:=h.len
 suffices ∃s o',cJ iG o [.lst (zs.map ie)] s o'/\(s=.lv (.lst (zs.map d5))/\Wl (n+60) o') by obtain⟨s,o',k,rfl,S⟩:=this;exact⟨o',k,S⟩
 refine cJ.of (Wp.df (Wp.st rfl ?_));refine Wp.sq (Wp.fr (λi Z=>X5 λ(o':LO)(x3 x4 x5 x6:Sl)=>∃x7:Sl,N6 (Z=[.pv o',.fr (.lst (zs.map ie)),.lv (.lst ((zs.take i).map d5)),x3,x4,x5,x6,x7]) (Wl (n+i) o') (np x3=true) (np x4=true) (np x5=true) (np x6=true/\np x7=true)) rfl ⟨o,.un,.un,.un,.un,.un,rfl,w.mono (by omega),rfl,rfl,rfl,rfl,rfl⟩ ?_ ?_)
 .rintro i a Z ha ⟨o',x3,x4,x5,x6,x7,rfl,g,h3,h4,h5,Y,R⟩;rw[UU] at ha;cases Q:zs[i]? with
  |none=>rw[Q] at ha;cases ha
  |some z=>
   rw[Q] at ha;cases ha;have hz:=h.sz z (Vc Q);have hi:=(UQ.mp Q).1;obtain⟨r,L,c2,l,b2,D⟩:=tk 2 g (by omega) (by decide) (by decide);have e:(zs.take (i+1)).map d5=(zs.take i).map d5++[d5 z]:=by rw[Vu,Q];simp
   have B:((zs.take i).map d5).length<=100000:=by rw[UP,Vh];omega
   refine⟨_,Qn z h3 h4 h5 Y,Wp.st (aW (ag rfl (c2 _)) rfl rfl R rfl) ?_⟩;refine Wp.en (U:=mS L zs ((zs.take (i+1)).map d5) z (.fr (.int r))) ?_ ⟨.inl rfl,L,_,_,_,_,_,rfl,D.mono (by omega),rfl,rfl,rfl,rfl,rfl⟩;unfold mS;rw[e];by_cases hf:z.f=[]/\r=1
   .exact cL (Je.trans (by rw[decide_eq_true hf.1,decide_eq_true hf.2];rfl)) (j1 rfl (jn rfl (Ll hz F b1 hf.1 _)) rfl rfl B rfl)
   .have x:(decide (z.f=[])&&decide (r=1))=false:=by rw[Ws];simpa using hf
    refine aY (Je.trans (by rw[x])) ?_;rcases(show r=0\/r=1 by omega) with rfl|rfl
    .exact j1 rfl (jn rfl (Ar hz F b1 _)) rfl rfl B rfl
    .exact j1 rfl (jn rfl (Kt hz F b1 _)) rfl rfl B rfl
 .rintro O ⟨o',x3,x4,x5,x6,x7,rfl,g,_⟩;rw[UP] at g ⊢;rw[VS];exact⟨rfl,Wp.en rfl ⟨_,o',_,rfl,rfl,rfl,g.mono (by omega)⟩⟩
theorem yL{b:Ms}{as:List A}(P:Nat->List Sl->Prop)(j:Nat)(h0:P 0 Z)(u:∀i a Z,i<j->as[i]?=some a->P i Z->X2 λU Z'=>N3 (G a Z=some U) (b U=some (.nx,Z')\/b U=some (.ct,Z')) (P (i+1) Z'))
  (he:∀Z,P j Z->X3 λa U Z'=>N3 (as[j]?=some a) (G a Z=some U) (b U=some (.rt s,Z')))(N:j<as.length):∃O,forL G b as Z=some (.rt s,O):=by
 have v:∀n i Z,j-i=n->i<=j->P i Z->∃O,forL G b (as.drop i) Z=some (.rt s,O):=by
  intro n;induction n with
  |zero=>
   intro i Z e hi p;have:i=j:=by omega
   subst this;obtain⟨a,U,Z',e1,e2,e3⟩:=he Z p;refine⟨Z',?_⟩;have e4:=(UQ.mp e1).2;rw[Vx N,forL,e4,e2];simp only[e3]
  |succ n o=>
   intro i Z e hi p;have Q:i<as.length:=by omega
   obtain⟨U,Z',h1,h2,h3⟩:=u i as[i] Z (by omega) (by simp[Q]) p;obtain⟨O,h4⟩:=o (i+1) Z' (by omega) (by omega) h3;refine⟨O,?_⟩;rw[Vx Q,forL,h1];rcases h2 with h2|h2
   .simp only[h2];exact h4
   .simp only[h2];exact h4
 simpa using v j 0 Z (by simp) (VM _) h0
def gD(z:Sz)(f:Sf)(v:Num):Num:=if f.w = "fixed" then f.r else if f.w = "big" then eR f.r (rj v z.l) else eR f.r (rj z.m v)
theorem Tt:decide (("fixed" : Str) = "big")=false:=by decide +kernel
theorem SO:decide (("fixed" : Str) = "small")=false:=by decide +kernel
theorem Rt:decide (("big" : Str) = "fixed")=false:=by decide +kernel
theorem OZ:decide (("small" : Str) = "fixed")=false:=by decide +kernel
theorem J4:decide (("small" : Str) = "big")=false:=by decide +kernel
theorem RX(x:Str):decide (x=x)=true:=by simp
variable{v:Num}
theorem IQ{f:Sf}(h:f.w = "fixed"):gD z f v=f.r:=if_pos h
theorem IK{f:Sf}(h:f.w = "big"):gD z f v=eR f.r (rj v z.l):=by unfold gD;rw[if_neg (by rw[h];exact of_decide_eq_false Rt),if_pos h]
theorem IZ{f:Sf}(h:f.w = "small"):gD z f v=eR f.r (rj z.m v):=by unfold gD;rw[if_neg (by rw[h];exact of_decide_eq_false OZ),if_neg (by rw[h];exact of_decide_eq_false J4)]
theorem Ki(i j:Str)(Z:List Sl):eW dP (.fr (.str i)) (.fr (.str j)) Z=some (.ok (.fr (.bl (decide (i=j)))),Z):=by simp only[eW,res,dP,EO]
theorem cj{i j:Str}{b:Bool}(h:decide (i=j)=b)(Z:List Sl):eW dP (.fr (.str i)) (.fr (.str j)) Z=some (.ok (.fr (.bl b)),Z):=by rw[<-h];exact Ki i j Z
theorem wj{f:Sf}(hl:NB b z.l)(hm:NB b z.m)(I:NB b f.r)(A:NB b v):NB (3*b+2) (gD z f v):=by
 unfold gD;split
 .exact I.mono (by omega)
 .split
  .exact(NB.Hh I (A.zW hl)).mono (by omega)
  .exact(NB.Hh I (hm.zW A)).mono (by omega)
theorem IG{f:Sf}{j:Nat}(N:z.f[j]?=some f)(nd:(a9 z).Nodup):∀i g,i<j->z.f[i]?=some g->decide (g.s=f.s)=false:=λi g hi K=>by
 apply decide_eq_false;intro e;have v:(z.f.map Sf.s).Nodup:=(Vn.mp nd).2;have lt:j<z.f.length:=(UQ.mp N).1;have w:i<(z.f.map Sf.s).length:=by rw[UP];omega
 have:=(Yi w v (j:=j)).mp (by rw[UU,UU,K,N];exact congrArg some e);omega
theorem Ru{a b:Sl}(f:Sf)(h3:np x3=true)(h4:np x4=true)(h5:np x5=true):G3 3 4 5 (eN f) [a,b,c,x3,x4,x5]=some [a,b,c,.fr (.str f.s),.fr (nm f.r),.fr (.str f.w)]:=by cases x3<;>first|(cases h3;done)|(cases x4<;>first|(cases h4;done)|(cases x5<;>first|(cases h5;done)|rfl))
theorem MU{f:Sf}{j:Nat}(hl:NB b z.l)(hm:NB b z.m)(I:NB b f.r)(A:NB b v)(K:pG f.w)(d:b<=1500)(N:z.f[j]?=some f)(nd:(a9 z).Nodup):Val mE [d5 z,.str f.s,nm v] (nm (gD z f v)):=by
 obtain⟨U,hf⟩:=yL (b:=T2) (s:=.fr (nm (gD z f v)))
  (λi Z=>X3 λ(x3 x4 x5:Sl)=>N4 (Z=[.fr (d5 z),.fr (.str f.s),.fr (nm v),x3,x4,x5]) (np x3=true) (np x4=true) (np x5=true)) j ⟨.un,.un,.un,rfl,rfl,rfl,rfl⟩ (by
   rintro i a Z hi ha ⟨x3,x4,x5,rfl,h3,h4,h5⟩;rw[UU] at ha;cases Q:z.f[i]? with
   |none=>rw[Q] at ha;cases ha
   | some g=>rw[Q] at ha;cases ha;have x:=IG N nd i g hi Q;have t:ao (az dP (ae 3) (ae 1)) [.fr (d5 z),.fr (.str f.s),.fr (nm v),.fr (.str g.s),.fr (nm g.r),.fr (.str g.w)]=some (.ok false,[.fr (d5 z),.fr (.str f.s),.fr (nm v),.fr (.str g.s),.fr (nm g.r),.fr (.str g.w)]):=aA (ai rfl rfl (cj x _));exact⟨_,[.fr (d5 z),.fr (.str f.s),.fr (nm v),.fr (.str g.s),.fr (nm g.r),.fr (.str g.w)],Ru g h3 h4 h5,.inl (bW (aY (jl t) rfl) <| bW (aY (jl t) rfl) <| aY t rfl),_,_,_,rfl,rfl,rfl,rfl⟩) (by
   rintro Z ⟨x3,x4,x5,rfl,h3,h4,h5⟩;refine⟨eN f,_,[.fr (d5 z),.fr (.str f.s),.fr (nm v),.fr (.str f.s),.fr (nm f.r),.fr (.str f.w)],by rw[UU,N];rfl,Ru f h3 h4 h5,?_⟩;have t:∀w:Str,ao (az dP (ae 3) (ae 1)) [.fr (d5 z),.fr (.str f.s),.fr (nm v),.fr (.str f.s),.fr (nm f.r),.fr (.str w)]=some (.ok true,[.fr (d5 z),.fr (.str f.s),.fr (nm v),.fr (.str f.s),.fr (nm f.r),.fr (.str w)]):=λw=>aA (ai rfl rfl (cj (decide_eq_true rfl) _));rcases K with h|h|h
   .rw[IQ h,h];exact bW (aY (cP (t _) (aA (ai rfl rfl (cj Tt _)))) rfl) <| bW (aY (cP (t _) (aA (ai rfl rfl (cj SO _)))) rfl) <| cL (t _) (aC rfl rfl)
   .rw[IK h,h];exact pS (cL (cP (t _) (aA (ai rfl rfl (cj (RX _) _)))) (aC (ag (af rfl (af (ag (af rfl (af (bq rfl (eC rfl (lu z))) rfl)) (av (tZ A hl (by omega)) _)) rfl)) (av (sA I (A.zW hl) (by omega)) _)) rfl))
   .rw[IZ h,h];exact bW (aY (cP (t _) (aA (ai rfl rfl (cj J4 _)))) rfl) <| pS (cL (cP (t _) (aA (ai rfl rfl (cj (RX _) _)))) (aC (ag (af rfl (af (ag (af (bq rfl (eC rfl (nU z))) rfl) (av (tZ hm A (by omega)) _)) rfl)) (av (sA I (hm.zW A) (by omega)) _)) rfl))) (by rw[UP];exact(UQ.mp N).1)
 have P:bU (j4 (bp ["Size"] "shifts") (ae 0)) [.fr (d5 z),.fr (.str f.s),.fr (nm v),.un,.un,.un]=some (.ok (z.f.map eN),[.fr (d5 z),.fr (.str f.s),.fr (nm v),.un,.un,.un]):=hY (bq rfl (eC rfl (dH z))) rfl;exact Val.of (Wp.df ⟨_,_,pS (sk P hf),rfl⟩)
variable{d:Sl}
theorem Oi{a b e z g:Sl}(f:Sf)(h3:np x3=true)(h4:np x4=true)(h5:np x5=true):G3 7 8 9 (eN f) [a,b,c,d,e,z,g,x3,x4,x5]=some [a,b,c,d,e,z,g,.fr (.str f.s),.fr (nm f.r),.fr (.str f.w)]:=by cases x3<;>first|(cases h3;done)|(cases x4<;>first|(cases h4;done)|(cases x5<;>first|(cases h5;done)|rfl))
abbrev LZ(z:Sz)(s:Str)(v:Num)(x7 x8 x9:Sl):List Sl:=[.fr (ie z),.fr (.str s),.fr (nm v),.fr (.str z.n),.fr (nm z.l),.fr (nm z.m),.fr (.tup (z.f.map eN)),x7,x8,x9]
theorem Gs{f:Sf}{j:Nat}(hl:NB b z.l)(hm:NB b z.m)(I:NB b f.r)(A:NB b v)(K:pG f.w)(d:b<=1500)(N:z.f[j]?=some f)(nd:(a9 z).Nodup):Val mq [ie z,.str f.s,nm v] (nm (gD z f v)):=by
 obtain⟨U,hf⟩:=yL (b:=TC) (s:=.fr (nm (gD z f v)))
  (λi Z=>X3 λ(x3 x4 x5:Sl)=>N4 (Z=LZ z f.s v x3 x4 x5) (np x3=true) (np x4=true) (np x5=true)) j ⟨.un,.un,.un,rfl,rfl,rfl,rfl⟩ (by
   rintro i a Z hi ha ⟨x3,x4,x5,rfl,h3,h4,h5⟩;rw[UU] at ha;cases Q:z.f[i]? with
   |none=>rw[Q] at ha;cases ha
   | some g=>rw[Q] at ha;cases ha;have x:=IG N nd i g hi Q;have t:ao (az dP (ae 7) (ae 1)) (LZ z f.s v (.fr (.str g.s)) (.fr (nm g.r)) (.fr (.str g.w)))=some (.ok false,LZ z f.s v (.fr (.str g.s)) (.fr (nm g.r)) (.fr (.str g.w))):=aA (ai rfl rfl (cj x _));exact⟨_,LZ z f.s v (.fr (.str g.s)) (.fr (nm g.r)) (.fr (.str g.w)),Oi g h3 h4 h5,.inl (bW (aY (jl t) rfl) <| bW (aY (jl t) rfl) <| aY t rfl),_,_,_,rfl,rfl,rfl,rfl⟩) (by
   rintro Z ⟨x3,x4,x5,rfl,h3,h4,h5⟩;refine⟨eN f,_,LZ z f.s v (.fr (.str f.s)) (.fr (nm f.r)) (.fr (.str f.w)),by rw[UU,N];rfl,Oi f h3 h4 h5,?_⟩;have t:∀w:Str,ao (az dP (ae 7) (ae 1)) (LZ z f.s v (.fr (.str f.s)) (.fr (nm f.r)) (.fr (.str w)))=some (.ok true,LZ z f.s v (.fr (.str f.s)) (.fr (nm f.r)) (.fr (.str w))):=λw=>aA (ai rfl rfl (cj (decide_eq_true rfl) _));rcases K with h|h|h
   .rw[IQ h,h];exact pS (cL (cP (t _) (aA (ai rfl rfl (cj (RX _) _)))) (aC rfl rfl))
   .rw[IK h,h];exact bW (aY (cP (t _) (aA (ai rfl rfl (cj Rt _)))) rfl) <| pS (cL (cP (t _) (aA (ai rfl rfl (cj (RX _) _)))) (aC (ag (af rfl (af (ag rfl (av (xo A hl (by omega)) _)) rfl)) (av (jy I (A.zW hl) (by omega)) _)) rfl))
   .rw[IZ h,h];exact bW (aY (cP (t _) (aA (ai rfl rfl (cj OZ _)))) rfl) <| bW (aY (cP (t _) (aA (ai rfl rfl (cj J4 _)))) rfl) <| cL (t _) (aC (ag (af rfl (af (ag rfl (av (xo hm A (by omega)) _)) rfl)) (av (jy I (hm.zW A) (by omega)) _)) rfl)) (by rw[UP];exact(UQ.mp N).1)
 exact Val.of (Wp.df (Wp.st rfl ⟨_,_,pS (sk rfl hf),rfl⟩))
abbrev Mk:=Str×Num
def c8(p:Mk):Key×A:=(.inr p.1,nm p.2)
def cG(p:List Mk):A:=.aP (p.map c8)
noncomputable def gN(p:List Mk)(x:Str):Num:=((p.find? λq=>decide (q.1=x)).map (·.2)).getD (0,1)
theorem rP:∀(p:List Mk)(x:Str),(∃q∈p,q.1=x)->gp (p.map c8) (.inr x)=some (nm (gN p x)):=by
 intro p;induction p with
 |nil=>rintro x ⟨q,j,_⟩;cases j
 |cons q p o=>
  intro x y;unfold gp gN;rw[U3,VB,VB];by_cases e:q.1=x
  .rw[decide_eq_true e,show decide ((c8 q).1=.inr x)=true from decide_eq_true (by rw[<-e];rfl)];rfl
  .have f:(c8 q).1≠.inr x:=λz=>e (XB z);rw[decide_eq_false e,decide_eq_false f];obtain⟨c,w,rfl⟩:=y;have:=o c.1 ⟨c,(U5.mp w).resolve_left (λz=>e (z▸rfl)),rfl⟩;unfold gp gN at this;exact this
theorem BX:∀(p:List Mk)(x:Str),(∀q∈p,q.1≠x)->gp (p.map c8) (.inr x)=none:=by
 intro p x h;unfold gp;rw[WG.mpr]
 .rfl
 .intro s B;obtain⟨q,j,rfl⟩:=Vj.mp B;exact Ws.mp (decide_eq_false λz=>h q j (XB z))
variable{p:List Mk}
theorem Ci{x:Str}(h:∀q∈p,q.1≠x):gN p x=(0,1):=by unfold gN;rw[WG.mpr λq j=>by simpa using h q j];rfl
theorem lP:∀{p:List Mk},(p.map (·.1)).Nodup->∀{q:Mk},q∈p->gN p q.1=q.2
 |r::p,nd,q,hq=>by
  unfold gN;rw[VB];rcases U5.mp hq with rfl|h
  .rw[decide_eq_true rfl];rfl
  .have ne:r.1≠q.1:=λe=>(Vn.mp nd).1 (by show r.1∈_;rw[e];exact Wd h);rw[decide_eq_false ne];exact lP (Vn.mp nd).2 h
theorem Ji{x:Str}:(∃q∈p,q.1=x/\gN p x=q.2)\/((∀q∈p,q.1≠x)/\gN p x=(0,1)):=by
 unfold gN;cases e:p.find? (λq=>decide (q.1=x)) with
 |none=>exact .inr ⟨λq j=>by simpa using WG.mp e q j,rfl⟩
 |some q=>exact .inl ⟨q,List.mem_of_find?_eq_some e,by simpa using List.find?_some e,rfl⟩
theorem pV{n:Nat}(h:∀q∈p,NB n q.2)(h0:60<=n)(x:Str):NB n (gN p x):=by
 rcases Ji (p:=p) with ⟨q,j,_,e⟩|⟨_,e⟩
 .rw[e];exact h q j
 .rw[e];exact rL.mono h0
theorem Mn{x:Str}(h:∀q∈p,q.1≠x):((p.map c8).any λs=>decide (s.1=.inr x))=false:=by rw[WJ];intro s B;obtain⟨q,j,rfl⟩:=Vj.mp B;exact Ws.mp (decide_eq_false λz=>h q j (XB z))
theorem mQ(p:List Mk)(x:Str)(v:Num)(h:∀q∈p,q.1≠x):jD (p.map c8) (.inr x) (nm v)=(p++[(x,v)]).map c8:=by unfold jD;rw[if_neg (by rw[Mn h];exact Vm),U7];rfl
theorem DT(p:List Mk)(x:Str)(u v:Num)(h:∀q∈p,q.1≠x):jD ((p++[(x,u)]).map c8) (.inr x) (nm v)=(p++[(x,v)]).map c8:=by
 unfold jD;rw[if_pos (by rw[U7,List.any_append];simp[c8]),Vr,U7,U7]
 congr 1
 .refine V1 λq j=>?_;show (if (c8 q).1=.inr x then _ else c8 q)=_;exact if_neg λz=>h q j (XB z)
 .exact congrArg (λy=>[y]) (if_pos rfl)
theorem jw:∀(q p:List Mk),((p++q).map (·.1)).Nodup->iP (p.map c8) (q.map c8)=(p++q).map c8
 |[],p,_=>by rw[Vz];rfl
 |r::q,p,nd=>by
  have h:∀s∈p,s.1≠r.1:=λs P e=>by rw[U7,U3] at nd;exact(U8.mp nd).2.2 s.1 (Wd P) r.1 (.head _) e
  show iP (jD (p.map c8) (c8 r).1 (c8 r).2) (q.map c8)=_;rw[show jD (p.map c8) (c8 r).1 (c8 r).2=(p++[r]).map c8 from mQ p r.1 r.2 h,jw q (p++[r]) (by simpa using nd)];simp
variable{F:List Mk}
theorem m5{J r:Mi Rr}{d k:Rr}{x:Str}(h1:J Z=some (.ok d,Z))(h2:res Z d=some (cG F))(h3:mk Z=some (.ok k,Z))(h4:res Z k=some (.str x))(h5:r Z=some (.ok (.fr (nm (0,1))),Z)):nT J mk r Z=some (.ok (.fr (nm (gN F x))),Z):=by
 refine bk h1 ?_;rw[h2];refine bk h3 (bk h5 ?_);rw[h2,h4];unfold cG;dsimp only [gB];rcases Ji (p:=F) with ⟨q,j,e1,e⟩|⟨hn,e⟩
 .rw[rP F x ⟨q,j,e1⟩]
 .rw[BX F x hn,e];rfl
def dB(q r:Num):Num:=if ll (0,1) q then (-r.1,r.2) else if ll q (0,1) then r else (0,1)
variable{q:Num}
theorem uu{r:Num}{n:Nat}(h:NB n r)(h0:60<=n):NB n (dB q r):=by
 unfold dB;split
 .exact h.neg
 .split
  .exact h
  .exact rL.mono h0
theorem Pd{r:Num}{n m:Nat}(j:NB n q)(h0:60<=n)(hn:n<=4000)(I:NB m r)(hm:m<=8000):Val ja [nm q,nm r] (nm (dB q r)):=by
 have U:ao (aO cE (aK (mC (.tup [.int 0,.int 1])) (aj 0))) [.fr (nm q),.fr (nm r)]=some (.ok (ll (0,1) q),[.fr (nm q),.fr (nm r)]):=aA (ag rfl (av (kG (rL.mono h0) j (by omega) (by omega)) _));have l:ao (aO cE (aK (aj 0) (mC (.tup [.int 0,.int 1])))) [.fr (nm q),.fr (nm r)]=some (.ok (ll q (0,1)),[.fr (nm q),.fr (nm r)]):=aA (ag rfl (av (kG j (rL.mono h0) (by omega) (by omega)) _));refine Val.of (Wp.df ?_);unfold dB;cases e1:ll (0,1) q with
 |true=>rw[e1] at U;exact Wp.sr (cL U (aC (ag rfl (av (Rf I hm) _)) rfl)) rfl
 |false=>
  rw[e1] at U;refine Wp.st (aY U rfl) ?_;cases e2:ll q (0,1) with
  |true=>rw[e2] at l;exact Wp.en (aC (A2 l rfl) rfl) rfl
  |false=>rw[e2] at l;exact Wp.en (aC (sD l rfl) rfl) rfl
def aT(z:Sz)(g:Str->Num)(v:Num):List Mk:=(z.n,v)::z.f.map λf=>(f.s,dB (g f.s) (gD z f v))
theorem wM(z:Sz)(g:Str->Num)(v:Num):(aT z g v).map (·.1)=a9 z:=by unfold aT a9;rw[U3,Vr];rfl
theorem mY{g:Str->Num}(hz:jS 121 z)(A:NB 121 v):∀p∈aT z g v,NB 365 p.2:=λp hp=>by
 unfold aT at hp;rcases U5.mp hp with rfl|h
 .exact A.mono (by decide)
 .obtain⟨f,hf,rfl⟩:=Vj.mp h;exact uu (wj hz.lb hz.mb (hz.fs f hf).nb A) (by decide)
abbrev QB(z:Sz)(v:Num)(F:List Mk)(D:List Mk)(x:Sl):List Sl:=[.fr (d5 z),.fr (nm v),.fr (cG F),.lv (.aP (D.map c8)),x]
theorem uc{k:Rr}{x:Str}{a:A}(h1:mk Z=some (.ok k,Z))(h2:res Z k=some (.str x))(h3:m Z=some (.ok r,Z))(h4:a8 r Z=some (a,Z)):lI mk m Z=some (.ok (.nw (.aP [(.inr x,a)])),Z):=by unfold lI aF;rw[h1];dsimp only;rw[h2];dsimp only [gB];rw[h3];dsimp only;rw[h4]
theorem xw{g:Str->Num}{f:Sf}{i:Nat}(nd:(a9 z).Nodup)(hi:z.f[i]?=some f):∀q∈(aT z g v).take (i+1),q.1≠f.s:=λq R e=>by
 have e1:(aT z g v)[i+1]?=some (f.s,dB (g f.s) (gD z f v)):=by unfold aT;rw[Wf,UU,hi];rfl
 obtain⟨j,N,e2⟩:=XW R;rw[Vh] at N;rw[ZY] at e2;rw[<-wM z g v] at nd;have h1:j<((aT z g v).map (·.1)).length:=by rw[UP];omega
 have:=(Yi h1 nd (j:=i+1)).mp (by rw[UU,UU,e1,Ve (by omega),e2];exact congrArg some e);omega
theorem qD{g:Str->Num}{f:Sf}{i:Nat}(hi:z.f[i]?=some f):(aT z g v).take (i+1+1)=(aT z g v).take (i+1)++[(f.s,dB (g f.s) (gD z f v))]:=by rw[Vu,show (aT z g v)[i+1]?=some (f.s,dB (g f.s) (gD z f v)) by unfold aT;rw[Wf,UU,hi];rfl];rfl
theorem qu(hz:jS 121 z)(A:NB 121 v)(w:∀q∈F,NB 64 q.2):dF eF [d5 z,nm v,cG F] (.aP ((aT z (gN F) v).map c8)):=by
 have P:bU (j4 (bp ["Size"] "shifts") (ae 0)) (QB z v F [(z.n,v)] .un)=some (.ok (z.f.map eN),QB z v F [(z.n,v)] .un):=hY (bq rfl (eC rfl (dH z))) rfl;refine dF.of (Wp.df (Wp.st (bD (uc (bq rfl (eC rfl (j8 z))) rfl rfl rfl) rfl) ?_));refine Wp.sq (Wp.fr (λi Z=>∃x,Z=QB z v F ((aT z (gN F) v).take (i+1)) x/\np x=true) P ⟨.un,rfl,rfl⟩ ?_ ?_)
 .rintro i a Z ha ⟨x,rfl,y⟩;rw[UU] at ha;cases Q:z.f[i]? with
  |none=>rw[Q] at ha;cases ha
  |some f=>
   rw[Q] at ha;cases ha;have hf:=hz.fs f (Vc Q);have R:=MU hz.lb hz.mb hf.nb A hf.wy (by decide) Q hz.nd;have c2:=Pd (pV w (by decide) f.s) (by decide) (by decide) (wj hz.lb hz.mb hf.nb A) (by decide);refine⟨QB z v F ((aT z (gN F) v).take (i+1)) (.fr (eN f)),by cases x<;>first|(cases y;done)|rfl,?_⟩;refine Wp.en (U:=QB z v F ((aT z (gN F) v).take (i+1+1)) (.fr (eN f))) ?_ ⟨.inl rfl,_,rfl,rfl⟩;refine(jA (ag (af (dA (m5 rfl rfl rfl rfl rfl) rfl) (af (dA (ag rfl (av R _)) rfl) rfl)) (av c2 _)) rfl rfl (zq rfl rfl rfl rfl ?_)).trans ?_
   .rw[UP,Vh];unfold aT;rw[US,UP];have:=hz.ln;omega
   .rw[mQ _ _ _ (xw hz.nd Q),<-qD Q];rfl
 .rintro O ⟨x,rfl,_⟩;rw[UP,show (aT z (gN F) v).take (z.f.length+1)=aT z (gN F) v from XA (by unfold aT;rw[US,UP];omega)];exact⟨rfl,Wp.en rfl rfl⟩
def cZ(p:Mk):A:=.tup [.str p.1,nm p.2]
def sv:List Mk->List Mk->Rat
 |[],_=>0
 |p::F,D=>nv p.2*nv (gN D p.1)+sv F D
theorem Du{t b fn fd h Z:Int}(d:b≠0)(hf:fd≠0)(A:Z≠0):Xa (t*fd*Z+fn*h*b) (b*fd*Z)=Xa t b+Xa fn fd*Xa h Z:=by rw[Zy,Zx _ _ d (VE hf A),Y8,Y8 b]
theorem JU{x:Str}{D:List Mk}(neg:Bool)(h:res Z r=some (cG D)):eW (qb neg) (.fr (.str x)) r Z=some (.ok (.fr (.bl (if neg then !(D.any λq=>decide (q.1=x)) else D.any λq=>decide (q.1=x)))),Z):=by
 have e:(gp (D.map c8) (.inr x)).isSome=D.any λq=>decide (q.1=x):=by
  cases e:D.any λq=>decide (q.1=x) with
  |true=>rw[WV] at e;obtain⟨q,j,e⟩:=e;rw[rP D x ⟨q,j,of_decide_eq_true e⟩];rfl
  |false=>rw[BX D x λq j=>by simpa using WJ.mp e q j];rfl
 unfold eW;rw[h,<-e];rfl
theorem nK{x:Str}{D:List Mk}{d:Rr}(h:res Z d=some (cG D))(hm:∃q∈D,q.1=x):eW (dJ vG iC) d (.fr (.str x)) Z=some (.ok (.fr (nm (gN D x))),Z):=by unfold eW;rw[h];unfold cG dJ vG iC;dsimp only [res,gB];rw[rP D x hm]
abbrev So(T:A)(D:List Mk)(t b:Int)(x4 x5 x6:Sl):List Sl:=[.fr T,.fr (cG D),.fr (.int t),.fr (.int b),x4,x5,x6]
abbrev G2(i j:Nat):Mg:=cY 2 (aE (aH i) (aE (aH j) dw))
theorem UI{a b:Sl}(p:Mk)(h4:np x4=true)(h5:np x5=true):G2 4 5 (cZ p) [a,b,c,d,x4,x5,x6]=some [a,b,c,d,.fr (.str p.1),.fr (nm p.2),x6]:=by cases x4<;>first|(cases h4;done)|(cases x5<;>first|(cases h5;done)|rfl)
theorem Dj{D:List Mk}{x:Str}(h:∃q∈D,q.1=x):(D.any λq=>decide (q.1=x))=true:=by obtain⟨q,j,e⟩:=h;exact WV.mpr ⟨q,j,decide_eq_true e⟩
theorem yg{x0:Num}{D:List Mk}{a c:Nat}(h0:NB a x0)(U:∀p∈F,NB b p.2)(y:∀q∈D,NB c q.2)(G:60<=c)(hm:∀p∈F,∃q∈D,q.1=p.1)(P:a+F.length*(b+c+1)<=8900):∃x,N3 (Val gc [.tup [nm x0,.tup (F.map cZ)],cG D] (nm x)) (NB (a+F.length*(b+c+1)) x) (nv x=nv x0+sv F D):=by
 suffices Wp gc ([.tup [nm x0,.tup (F.map cZ)],cG D].map Sl.fr) λg _=>∃x,N3 (g=.rt (.fr (nm x))) (NB (a+F.length*(b+c+1)) x) (nv x=nv x0+sv F D) by obtain⟨_,_,e,x,rfl,h1,h2⟩:=this;exact⟨x,⟨_,e⟩,h1,h2⟩
 refine Wp.df (Wp.st rfl (Wp.st rfl ?_))
 refine Wp.sq (Wp.fr (λi Z=>X5 λt d x4 x5 x6=>N6 (Z=So (.tup [nm x0,.tup (F.map cZ)]) D t d x4 x5 x6) (0<d) (L2.Bd (a+i*(b+c+1)) t) (L2.Bd (a+i*(b+c+1)) d) (Xa t d+sv (F.drop i) D=nv x0+sv F D) (N3 (np x4=true) (np x5=true) (np x6=true))) rfl
  ⟨_,_,.un,.un,.un,rfl,h0.ok.1,h0.b1.mono (by omega),h0.b2.mono (by omega),rfl,rfl,rfl,rfl⟩ ?_ ?_)
 .rintro i A Z ha ⟨t,d,x4,x5,x6,rfl,X,w,o,N,h4,h5,Y⟩
  rw[UU] at ha
  cases Q:F[i]? with
  |none=>rw[Q] at ha;cases ha
  |some p=>
   rw[Q] at ha;cases ha;have hp:=Vc Q;have np:=U p hp;have J:=pV y G p.1;have hi:=(UQ.mp Q).1;have l:a+(i+1)*(b+c+1)<=a+F.length*(b+c+1):=ZL (W0 _ hi) _;have es:(i+1)*(b+c+1)=i*(b+c+1)+(b+c+1):=Nat.succ_mul _ _;rw[Vx hi,(UQ.mp Q).2] at N;have k:=w.mul np.b2;have E:=k.mul J.b2;have S:=np.b1.mul J.b1;have v:=S.mul o;have h:=o.mul np.b2;have T:=h.mul J.b2;have z:ao (az (qb true) (ae 4) (ae 1)) (So (.tup [nm x0,.tup (F.map cZ)]) D t d (.fr (.str p.1)) (.fr (nm p.2)) x6)=some (.ok false,So (.tup [nm x0,.tup (F.map cZ)]) D t d (.fr (.str p.1)) (.fr (nm p.2)) x6):=aA (ai rfl rfl ((JU true rfl).trans (by rw[Dj (hm p hp)];rfl)));refine⟨_,UI p h4 h5,Wp.st (aY z rfl) (Wp.st (aW (ai rfl rfl (nK rfl (hm p hp))) rfl rfl Y rfl) (Wp.st (aW (ai (ai (ai rfl rfl (j5 (ft w (by omega)) (ft np.b2 (by omega)) _)) rfl (j5 (ft k (by omega)) (ft J.b2 (by omega)) _)) (ai (ai rfl rfl (j5 (ft np.b1 (by omega)) (ft J.b1 (by omega)) _)) rfl (j5 (ft S (by omega)) (ft o (by omega)) _)) rfl) rfl rfl rfl rfl) (Wp.en (aW (ai (ai rfl rfl (j5 (ft o (by omega)) (ft np.b2 (by omega)) _)) rfl (j5 (ft h (by omega)) (ft J.b2 (by omega)) _)) rfl rfl rfl rfl) ⟨.inl rfl,_,_,_,_,_,rfl,?_,?_,?_,?_,rfl,rfl,rfl⟩)))⟩
   .exact Int.mul_pos (Int.mul_pos X np.ok.1) J.ok.1
   .exact(E.add v).mono (by omega)
   .exact T.mono (by omega)
   .rw[<-N,Du (by omega) np.nz J.nz,WZ];rfl
 .rintro O ⟨t,d,x4,x5,x6,rfl,X,w,o,N,h4,h5,Y⟩
  rw[UP] at w o N
  rw[We] at N
  refine⟨rfl,Wp.en (aC (ag rfl (av (yn (by omega) (o.mono (by omega))) _)) rfl) ⟨_,rfl,NB.gv (by omega) w o,?_⟩⟩
  rw[vV (by omega),<-N]
  exact(Zs _).symm
theorem rF{i:Nat}{t:Mi Bool}{ts:List T}(k g:T->A)(c:T->Bool)(hi:S.length=i)(hl:ts.length<=100000)(h:∀x∈ts,t (S++[.fr (k x)])=some (.ok (c x),S++[.fr (k x)])/\(c x=true->∃r,e (S++[.fr (k x)])=some (.ok r,S++[.fr (k x)])/\a8 r (S++[.fr (k x)])=some (g x,S++[.fr (k x)]))):
  cN 1 (aH i) t e (ts.map k) S=some (.ok (.nw (.lst ((ts.filter c).map g))),S):=by
 obtain⟨ys,O,h1,x,rfl,_,rfl⟩:=gk (G:=aH i) (as:=ts.map k)
  (λj acc Z=>∃x:Sl,N3 (Z=S++[x]) (∀o,x≠Sl.pv o) (acc=((ts.take j).filter c).map g)) ⟨.un,rfl,(λo z=>by cases z),rfl⟩ (by
   rintro j q acc Z R ⟨x,rfl,v,rfl⟩;rw[UU] at R;cases Q:ts[j]? with
   |none=>rw[Q] at R;cases R
   |some y=>
    rw[Q] at R;cases R;obtain⟨k1,k2⟩:=h y (Vc Q);refine⟨S++[Sl.fr (k y)],(show put i (.fr (k y)) (S++[x])=some (S++[.fr (k y)]) from vE hi v),?_⟩;rw[Vu,Q,List.filter_append];cases V:c y with
    |true=>obtain⟨r,k3,D⟩:=k2 V;rw[V] at k1;exact .inl ⟨_,r,_,g y,_,k1,k3,D,.fr (k y),rfl,(λo z=>by cases z),by simp[V]⟩
    | false=>rw[V] at k1;exact .inr ⟨_,k1,.fr (k y),rfl,(λo z=>by cases z),by simp[V]⟩)
 unfold cN;rw[if_pos (by rw[UP];exact hl)];have e1:S++Vd 1 Sl.un=S++[.un]:=rfl;rw[e1,h1];simp
def wv:List Mk->(Str->Num)->Rat
 |[],_=>0
 |p::D,g=>nv (g p.1)*nv p.2+wv D g
def EI(D F:List Mk):List Mk:=(D.filter λp=>F.any λq=>decide (q.1=p.1)).map λp=>(p.1,gN F p.1)
theorem Bl{E F:List Mk}(nd:(E.map (·.1)).Nodup):∀D:List Mk,(∀p∈D,p∈E)->sv (EI D F) E=wv D (gN F)
 |[],_=>rfl
 |p::D,h=>by
  have j:=Bl (F:=F) nd D λq R=>h q (UW _ R);unfold EI at j ⊢;rw[Yu,wv];have e:=lP nd (h p (.head _));split
  .rw[U3,sv,j];rw[e]
  .rename_i hn;have z:gN F p.1=(0,1):=Ci λq R e=>hn (Dj ⟨q,R,e⟩);rw[j,z,kj,Zt,XI]
theorem xN{D:List Mk}(nd:(D.map (·.1)).Nodup)(y:∀p∈D,NB 365 p.2)(U:∀q∈F,NB 64 q.2)(hl:D.length<=12):∃x,N3 (Val eX [cG D,cG F] (nm x)) (NB 5220 x) (nv x=wv D (gN F)):=by
 have hf:(EI D F).length<=12:=by unfold EI;rw[UP];exact Vg (Zu ..) hl
 have hm:(EI D F).length*(64+365+1)<=12*(64+365+1):=W0 _ hf;obtain⟨x,v,nx,e⟩:=yg (x0:=(0,1)) (F:=EI D F) rL (λp hp=>by
   unfold EI at hp;obtain⟨q,R,rfl⟩:=Vj.mp hp;exact pV U (by decide) _) y (by decide) (λp hp=>by
   unfold EI at hp;obtain⟨q,R,rfl⟩:=Vj.mp hp;exact⟨q,(VZ.mp R).1,rfl⟩) (by omega)
 refine⟨x,?_,nx.mono (by omega),by rw[e,kj,XI,Bl nd D λ_ h=>h]⟩;have k:=rF (S:=[.fr (cG D),.fr (cG F)]) (ts:=D) (t:=ao (az (qb false) (ae 2) (ae 1))) (e:=aU (aK (ae 2) (mix (ae 1) (ae 2))))
  (λp=>.str p.1) (λp=>cZ (p.1,gN F p.1)) (λp=>F.any λq=>decide (q.1=p.1)) rfl (by omega) (λp hp=>⟨aA (ai rfl rfl (JU false rfl)),λV=>by rw[WV] at V;obtain⟨q,R,e⟩:=V;exact⟨.fr (cZ (p.1,gN F p.1)),cR (af rfl (af (ai rfl rfl (nK rfl ⟨q,R,of_decide_eq_true e⟩)) rfl)) rfl,rfl⟩⟩)
 have e1:((D.map c8).map s9)=D.map λp=>A.str p.1:=by rw[Vr];rfl
 have e2:(D.filter λp=>F.any λq=>decide (q.1=p.1)).map (λp=>cZ (p.1,gN F p.1))=(EI D F).map cZ:=by unfold EI;rw[Vr];rfl
 rw[<-e1,e2] at k;have K:=(Ez (g:=s9) (j:=0) rfl).trans k;exact Val.of (Wp.df (Wp.en (aC (ag (af (cR (af rfl (af (bq K rfl) rfl)) rfl) rfl) (av v _)) rfl) rfl))
def gH(z:Sz)(g:Str->Num):List Mk:=if wv (aT z g z.m) g<wv (aT z g z.l) g then aT z g z.m else aT z g z.l
theorem yc(z:Sz)(g:Str->Num):gH z g=aT z g z.m\/gH z g=aT z g z.l:=by unfold gH;split;exact .inl rfl;exact .inr rfl
theorem ya{a b:Rat}(k:Ok x)(S:Ok y)(e:nv x=a)(f:nv y=b):ll x y=decide (a<b):=by rw[XF,qQ k S,decide_eq_true_eq,e,f]
theorem D2(hz:jS 121 z)(hl:z.f.length<=11)(U:∀q∈F,NB 64 q.2):Val ip [d5 z,cG F] (cG (gH z (gN F))):=by
 have nd:∀v,((aT z (gN F) v).map (·.1)).Nodup:=λv=>by rw[wM];exact hz.nd
 have ln:∀v,(aT z (gN F) v).length<=12:=λv=>by unfold aT;rw[US,UP];omega
 obtain⟨x,a,E,e1⟩:=xN (nd z.m) (mY hz hz.mb) U (ln _);obtain⟨y,J,D,e2⟩:=xN (nd z.l) (mY hz hz.lb) U (ln _);have t:ao (aO cE (aK (aO eX (aK (aj 3) (aj 1))) (aO eX (aK (aj 2) (aj 1))))) [.fr (d5 z),.fr (cG F),.lv (.aP ((aT z (gN F) z.l).map c8)),.lv (.aP ((aT z (gN F) z.m).map c8))]=some (.ok (decide (wv (aT z (gN F) z.m) (gN F)<wv (aT z (gN F) z.l) (gN F))),[.fr (d5 z),.fr (cG F),.fr (cG (aT z (gN F) z.l)),.fr (cG (aT z (gN F) z.m))]):=by rw[<-ya E.ok D.ok e1 e2];exact aA (ag (af (ag rfl (av a _)) (af (ag rfl (av J _)) rfl)) (av (kG E D (by decide) (by decide)) _))
 refine Val.of (Wp.df (Wp.st (bD (ag (af rfl (af (bq rfl (eC rfl (lu z))) rfl)) (bQ (qu hz hz.lb U) _)) rfl) (Wp.st (bD (ag (af rfl (af (bq rfl (eC rfl (nU z))) rfl)) (bQ (qu hz hz.mb U) _)) rfl) ?_)));unfold gH;by_cases h:wv (aT z (gN F) z.m) (gN F)<wv (aT z (gN F) z.l) (gN F)
 .rw[decide_eq_true h] at t;rw[if_pos h];exact Wp.en (aC (A2 t rfl) rfl) rfl
 .rw[decide_eq_false h] at t;rw[if_neg h];exact Wp.en (aC (sD t rfl) rfl) rfl
theorem G9(neg:Bool)(x:Str)(ss:List Str):jF neg (.str x) (.lst (ss.map A.str))=some (.fr (.bl (if neg then !decide (x∈ss) else decide (x∈ss)))):=by
 have e:JQ (mG (.str x)) ((ss.map A.str).map mG)=decide (x∈ss):=by
  unfold JQ;rw[Vr,zaw,XF,WV,decide_eq_true_eq];constructor
  .rintro⟨y,S,h⟩;have h:(y==x)=true:=h;rw[<-(beq_iff_eq.mp h)];exact S
  .exact λh=>⟨x,h,show (x==x)=true from beq_self_eq_true x⟩
 have f:(lX (.str x)&&(ss.map A.str).all lX)=true:=by rw[UO,VA];refine⟨rfl,λa ha=>?_⟩;obtain⟨y,_,rfl⟩:=Vj.mp ha;rfl
 show Jt neg (.str x) (ss.map A.str)=_;unfold Jt;rw[if_pos f,e]
theorem Bu{x:Str}(neg:Bool)(h:res Z r=some (.lst (ss.map A.str))):eW (qb neg) (.fr (.str x)) r Z=some (.ok (.fr (.bl (if neg then !decide (x∈ss) else decide (x∈ss)))),Z):=by unfold eW qb dJ;rw[h];dsimp only [res];rw[G9]
theorem uB:∀F:List Mk,eG (F.map cZ)=some (F.map c8)
 |[]=>rfl
 |p::F=>by rw[U3,cZ,eG,uB F];rfl
theorem xa(nd:(F.map (·.1)).Nodup)(hl:F.length<=1000)(Z:List Sl):OF (sG jX iS) (.fr (.tup (F.map cZ))) Z=some (.ok (.nw (.aP (F.map c8))),Z):=by refine eC rfl ?_;unfold sG jX iS;dsimp only;rw[if_pos (by rw[UP];exact hl),uB];dsimp only;rw[show iP [] (F.map c8)=(([]:List Mk)++F).map c8 from jw F [] nd];rfl
theorem wd{i:Nat}{zs xs:List (Key×A)}(h0:yS Z i=true)(h:m Z=some (.ok r,U))(h1:a8 r U=some (.aP zs,U))(h2:aL U i=some (.aP xs))(hl:xs.length+zs.length<=100000)(e:setAt U i (.aP (iP xs zs))=Z'):bO (uk i m) Z=some (.nx,Z'):=by refine kD (r:=.fr .non) ?_;unfold uk aF;rw[if_pos h0,h];dsimp only;rw[h1];dsimp only;rw[h2];dsimp only;rw[if_pos hl,e]
def bb(zs:List Sz)(g:Str->Num):List Mk:=zs.flatMap λz=>gH z g
theorem D4(z:Sz)(g:Str->Num):(gH z g).map (·.1)=a9 z:=by rcases yc z g with e|e<;>rw[e,wM]
theorem eE(zs:List Sz)(g:Str->Num):(bb zs g).map (·.1)=zs.flatMap a9:=by
 unfold bb;induction zs with
 |nil=>rfl
 |cons z zs j=>rw[Wt,U7,Wt,j,D4]
structure Row(zs:List Sz):Prop where
 st:mH 121 zs
 nd:(zs.flatMap a9).Nodup
 ln:(zs.flatMap a9).length<=12
theorem Row.f{zs:List Sz}(h:Row zs){z:Sz}(hz:z∈zs):z.f.length<=11:=by
 have q:(a9 z).length<=(zs.flatMap a9).length:=by obtain⟨s,t,e⟩:=List.append_of_mem hz;rw[e,Vw,Wt,UY,UY];omega
 have:(a9 z).length=z.f.length+1:=by unfold a9;simp
 have:=h.ln;omega
theorem xU(h:Row zs)(g:Str->Num):∀p∈bb zs g,NB 365 p.2:=λp hp=>by
 unfold bb at hp;obtain⟨z,hz,hp⟩:=Z5.mp hp;rcases yc z g with e|e<;>rw[e] at hp
 .exact mY (h.st.sz z hz) (h.st.sz z hz).mb p hp
 .exact mY (h.st.sz z hz) (h.st.sz z hz).lb p hp
theorem TR(h:mH 121 zs)(Z:List Sl)(m:Mi Rr)(S:List Sl)(hm:m S=some (.ok (.fr (gz zs)),Z))(n:Mi Rr):nu (aO bC (gw (cf "Stock" "names" m))) n S=some (.ok (.nw (.lst ((zs.flatMap a9).map A.str))),Z):=
 xH (ag (af (bI hm rfl) rfl) (bQ (CK h) _))
structure iw(F:List Mk):Prop where
 nb:∀q∈F,NB 64 q.2
 nd:(F.map (·.1)).Nodup
 ln:F.length<=13
 lg:∀q∈F,q.1.length<=1000
abbrev H9(zs:List Sz)(T:A)(x3 x4 x5 x6 x7:Sl):List Sl:=[.fr (gz zs),.fr T,.lv (.lst ((zs.flatMap a9).map A.str)),x3,x4,x5,x6,x7]
variable{x7:Sl}
theorem UK{a b:Sl}(p:Mk)(h3:np x3=true)(h4:np x4=true):G2 3 4 (cZ p) [a,b,c,x3,x4,x5,x6,x7]=some [a,b,c,.fr (.str p.1),.fr (nm p.2),x5,x6,x7]:=by cases x3<;>first|(cases h3;done)|(cases x4<;>first|(cases h4;done)|rfl)
theorem xQ(U:iw F):X2 λx3 x4=>N3 (np x3=true) (np x4=true) (forL (G2 3 4) Sy (F.map cZ) (H9 zs (.tup [nm x,.tup (F.map cZ)]) .un .un .un .un .un)=some (if F.all λp=>decide (p.1∈zs.flatMap a9) then .nx else .ex "NoSum",H9 zs (.tup [nm x,.tup (F.map cZ)]) x3 x4 .un .un .un)):=by
 obtain⟨O,e,x3,x4,rfl,h3,h4⟩:=zB (b:=Sy) cZ "NoSum" (λp=>decide (p.1∈zs.flatMap a9)) (λZ=>X2 λx3 x4=>N3 (Z=H9 zs (.tup [nm x,.tup (F.map cZ)]) x3 x4 .un .un .un) (np x3=true) (np x4=true)) (by
  rintro p hp Z ⟨x3,x4,rfl,h3,h4⟩;refine⟨_,H9 zs (.tup [nm x,.tup (F.map cZ)]) (.fr (.str p.1)) (.fr (nm p.2)) .un .un .un,UK p h3 h4,⟨_,_,rfl,rfl,rfl⟩,?_⟩;have t:ao (az (qb true) (ae 3) (ae 2)) (H9 zs (.tup [nm x,.tup (F.map cZ)]) (.fr (.str p.1)) (.fr (nm p.2)) .un .un .un)=some (.ok (!decide (p.1∈zs.flatMap a9)),H9 zs (.tup [nm x,.tup (F.map cZ)]) (.fr (.str p.1)) (.fr (nm p.2)) .un .un .un):=aA (ai rfl rfl (Bu true rfl));by_cases e:p.1∈zs.flatMap a9
  .rw[decide_eq_true e] at t ⊢;exact aY t rfl
  .rw[decide_eq_false e] at t ⊢;refine cL t ?_;exact DW (af (RB (Ri rfl (by decide +kernel) (Ri (PY rfl (U.lg p hp)) (U.lg p hp) rfl))) rfl) (VP rfl)) ⟨.un,.un,rfl,rfl,rfl⟩
 exact⟨x3,x4,h3,h4,e⟩
theorem yi{T:A}{as:List A}(m:Mi Rr)(h:m Z=some (.ok r,Z))(h1:res Z r=some (.tup [nm x,.tup as])):bU (mix m (aw 1)) Z=some (.ok as,Z):=by exact hY (ai h rfl (bJ (.inr h1) rfl)) rfl
abbrev bj(x:Num)(F:List Mk):A:=.tup [nm x,.tup (F.map cZ)]
theorem rV(h:Row zs)(w:iw F)(hm:∀p∈F,p.1∈zs.flatMap a9):dF bA [gz zs,bj x F] (.aP ((bb zs (gN F)).map c8)):=by
 obtain⟨x3,x4,h3,h4,b⟩:=xQ (zs:=zs) w;rw[if_pos (VA.mpr λp hp=>decide_eq_true (hm p hp))] at b;have N:∀i,((bb (zs.take i) (gN F)).map c8).length<=12:=λi=>by have e:=congrArg V2 (eE (zs.take i) (gN F));have e2:=congrArg (λl=>(l.flatMap a9).length) (VO i zs);simp only[UP,Vw,UY] at e e2 ⊢;have:=h.ln;omega
 have hk:∀Z,bU (j4 (bp ["Stock"] "kept") (ae 0)) (.fr (gz zs)::Z)=some (.ok (zs.map d5),.fr (gz zs)::Z):=λZ=>hY (bq rfl (eC rfl (sR zs))) rfl;refine dF.of (Wp.df (Wp.st (bD (TR h.st _ _ _ rfl _) rfl) ?_));refine Wp.st (sk (yi (T:=bj x F) (ae 1) rfl rfl) b) ?_;refine Wp.st (bD (bq (ai rfl rfl (bJ (.inr rfl) rfl)) (xa w.nd (by have:=w.ln;omega) _)) rfl) ?_;refine Wp.st rfl ?_;refine Wp.sq (Wp.fr (λi Z=>X2 λx5 x7=>N3 (Z=H9 zs (bj x F) x3 x4 x5 (.lv (.aP ((bb (zs.take i) (gN F)).map c8))) x7) (x5=.lv (.aP (F.map c8))\/x5=.fr (cG F)) (np x7=true)) (hk _) ⟨_,_,rfl,.inl rfl,rfl⟩ ?_ ?_)
 .rintro i a Z ha ⟨x5,x7,rfl,h5,R⟩;rw[UU] at ha;cases Q:zs[i]? with
  |none=>rw[Q] at ha;cases ha
  |some z=>
   rw[Q] at ha;cases ha;have hz:=Vc Q;have c:=D2 (h.st.sz z hz) (h.f hz) w.nb;have e:bb (zs.take (i+1)) (gN F)=bb (zs.take i) (gN F)++gH z (gN F):=by unfold bb;rw[Vu,Q,Vw];simp
   have nd:((bb (zs.take i) (gN F)++gH z (gN F)).map (·.1)).Nodup:=by rw[<-e,eE];have:=h.nd;rw[<-VO (i+1) zs,Vw] at this;exact(U8.mp this).1
   have B:=N i;have C:=N (i+1);rw[e,U7,UY] at C;refine⟨H9 zs (bj x F) x3 x4 x5 (.lv (.aP ((bb (zs.take i) (gN F)).map c8))) (.fr (d5 z)),by cases x7<;>first|(cases R;done)|rfl,?_⟩;refine Wp.en (U:=H9 zs (bj x F) x3 x4 (.fr (cG F)) (.lv (.aP ((bb (zs.take (i+1)) (gN F)).map c8))) (.fr (d5 z))) ?_ ⟨.inl rfl,_,_,rfl,.inr rfl,rfl⟩;rw[e,<-jw _ _ nd];rcases h5 with rfl|rfl
   .exact wd rfl (ag rfl (av c _)) rfl rfl (by omega) rfl
   .exact wd rfl (ag rfl (av c _)) rfl rfl (by omega) rfl
 .rintro O ⟨x5,x7,rfl,_,_⟩;rw[UP,VS];exact⟨rfl,Wp.en rfl rfl⟩
theorem n4(h:Row zs)(U:iw F)(hm:∃p∈F,p.1∉zs.flatMap a9):jd bA [gz zs,bj x F] "NoSum" := by obtain⟨x3,x4,h3,h4,b⟩:=xQ (zs:=zs) U;rw[if_neg (λe=>by obtain⟨p,hp,n⟩:=hm;exact n (of_decide_eq_true (VA.mp e p hp)))] at b;refine jd.of (Wp.df (Wp.st (bD (TR h.st _ _ _ rfl _) rfl) ?_));exact⟨_,_,IT (sk (yi (T:=bj x F) (ae 1) rfl rfl) b),rfl⟩
theorem S7(P:List Mk):strKeys (P.map c8)=some (P.map (·.1)):=by
 induction P with
 |nil=>rfl
 |cons p P j=>rw[U3,c8,strKeys,j];rfl
def fQ(P:List Mk):List Mk:=((cD (P.map (·.1))).filter λs=>!decide (gN P s=(0,1))).map λs=>(s,gN P s)
variable{P:List Mk}
theorem kP{s:Str}:s∈cD (P.map (·.1))↔∃q∈P,q.1=s:=by rw[(cu _).mem_iff,Vj]
theorem iw.N7(h:iw P):iw (fQ P):=by
 have pm:=cu (P.map (·.1));refine⟨λq j=>?_,?_,?_,λq j=>?_⟩
 .unfold fQ at j;obtain⟨s,_,rfl⟩:=Vj.mp j;exact pV h.nb (by decide) s
 .unfold fQ;rw[Vr];have e:((λx:Mk=>x.1)∘λs=>(s,gN P s))=id:=rfl;rw[e,List.map_id];exact((pm.nodup_iff).mpr h.nd).sublist ZH
 .unfold fQ;rw[UP];refine Vg (Zu ..) ?_;rw[pm.length_eq,UP];exact h.ln
 .unfold fQ at j;obtain⟨s,u,rfl⟩:=Vj.mp j;obtain⟨p,w,rfl⟩:=kP.mp (VZ.mp u).1;exact h.lg p w
theorem MN(h:Ok q):eR (0,1) q=q:=by unfold eR;rw[show (0:Int)*q.2+q.1*1=q.1 by omega,show (1:Int)*q.2=q.2 by omega];exact tG h
abbrev RT(x:Num)(P Q:List Mk)(x3 x4:Sl):List Sl:=[.fr (nm x),.fr (.lst (P.map cZ)),.lv (.aP (Q.map c8)),x3,x4]
theorem Sm{a b:Sl}(p:Mk)(h3:np x3=true)(h4:np x4=true):G2 3 4 (cZ p) [a,b,c,x3,x4]=some [a,b,c,.fr (.str p.1),.fr (nm p.2)]:=by cases x3<;>first|(cases h3;done)|(cases x4<;>first|(cases h4;done)|rfl)
theorem FE(h:iw P):Val uV [nm x,.lst (P.map cZ)] (bj x (fQ P)):=by
 have K:=h.ln;refine Val.of (Wp.df (Wp.st rfl ?_));refine Wp.sq (Wp.fr (λi Z=>X2 λx3 x4=>N3 (Z=RT x P (P.take i) x3 x4) (np x3=true) (np x4=true)) rfl ⟨_,_,rfl,rfl,rfl⟩ ?_ ?_)
 .rintro i a Z ha ⟨x3,x4,rfl,h3,h4⟩;rw[UU] at ha;cases Q:P[i]? with
  |none=>rw[Q] at ha;cases ha
  |some p=>
   rw[Q] at ha;cases ha;have hp:=Vc Q;have hi:=(UQ.mp Q).1;have ne:∀q∈P.take i,q.1≠p.1:=λq R e=>by
    obtain⟨j,N,e2⟩:=XW R;rw[Vh] at N;rw[ZY] at e2;have h1:j<(P.map (·.1)).length:=by rw[UP];omega
    have:=(Yi h1 h.nd (j:=i)).mp (by rw[UU,UU,Q,Ve (by omega),e2];exact congrArg some e);omega
   have c:=av (sA rL (h.nb p hp) (by decide));rw[MN (h.nb p hp).ok] at c;have H:gN (P.take i) p.1=(0,1):=Ci ne;have es:P.take (i+1)=P.take i++[p]:=by rw[Vu,Q];rfl
   refine⟨_,Sm p h3 h4,Wp.en (U:=RT x P (P.take (i+1)) (.fr (.str p.1)) (.fr (nm p.2))) ?_ ⟨.inl rfl,_,_,rfl,rfl,rfl⟩⟩;refine(jA (ag (af (dA (m5 rfl rfl rfl rfl rfl) rfl) rfl) (by rw[H];exact c _)) rfl rfl (zq rfl rfl rfl rfl (by rw[UP,Vh];omega))).trans ?_;rw[mQ _ _ _ ne,es];rfl
 .rintro O ⟨x3,x4,rfl,h3,h4⟩;rw[UP,VS];have sl:(cD (P.map (·.1))).length<=13:=by rw[(cu _).length_eq,UP];exact K
  have k:=rF (S:=[.fr (nm x),.fr (.lst (P.map cZ)),.lv (.aP (P.map c8)),x3,x4]) (t:=ao (az iy (mix (ae 2) (ae 5)) (mC (.tup [.int 0,.int 1])))) (e:=aU (aK (ae 5) (mix (ae 2) (ae 5))))
   A.str (λs=>cZ (s,gN P s)) (λs=>!decide (gN P s=(0,1))) rfl (by omega) (λs u=>⟨aA (ai (ai rfl rfl (nK rfl (kP.mp u))) rfl (by show eW iy (.fr (nm (gN P s))) (.fr (nm (0,1))) _=_;simp only[eW,res,iy,Ca])),λ_=>⟨.fr (cZ (s,gN P s)),cR (af rfl (af (ai rfl rfl (nK rfl (kP.mp u))) rfl)) rfl,rfl⟩⟩)
  have e2:((cD (P.map (·.1))).filter λs=>!decide (gN P s=(0,1))).map (λs=>cZ (s,gN P s))=(fQ P).map cZ:=by unfold fQ;rw[Vr];rfl
  rw[e2] at k;have sq:bU (dg (sG bX cC) (ae 2)) (RT x P P x3 x4)=some (.ok ((cD (P.map (·.1))).map A.str),RT x P P x3 x4):=by
   have e1:sG bX cC (.aP (P.map c8))=some (.nw (.lst ((cD (P.map (·.1))).map A.str))):=by unfold sG bX cC;dsimp only;rw[S7];dsimp only;rw[if_pos (by rw[UP];omega)]
   exact hY (bq rfl (eC rfl e1)) rfl
  exact⟨rfl,Wp.en (aC (cR (af rfl (af (bq (bR sq k) rfl) rfl)) rfl) rfl) rfl⟩
noncomputable def EC(p:Mk):Mk:=(p.1,(-p.2.1,p.2.2))
def cb(F:List Mk):List Mk:=F.map EC
theorem nI(F:List Mk):(cb F).map (·.1)=F.map (·.1):=by unfold cb;rw[Vr];rfl
theorem iw.neg{F:List Mk}(h:iw F):iw (cb F):=by
 refine⟨λq j=>?_,by rw[nI];exact h.nd,by unfold cb;rw[UP];exact h.ln,λq j=>?_⟩
 .obtain⟨p,hp,rfl⟩:=Vj.mp j;exact(h.nb p hp).neg
 .obtain⟨p,hp,rfl⟩:=Vj.mp j;exact h.lg p hp
theorem xG(g:Mk->A)(hl:F.length<=1000)(z:∀p x y,np x=true->np y=true->G (cZ p) (S++[x,y])=some (S++[.fr (.str p.1),.fr (nm p.2)]))
  (h:∀p∈F,∃r,e (S++[.fr (.str p.1),.fr (nm p.2)])=some (.ok r,S++[.fr (.str p.1),.fr (nm p.2)])/\a8 r (S++[.fr (.str p.1),.fr (nm p.2)])=some (g p,S++[.fr (.str p.1),.fr (nm p.2)])):
  cN 2 G bw e (F.map cZ) S=some (.ok (.nw (.lst (F.map g))),S):=by
 obtain⟨ys,O,h1,x,y,rfl,_,_,rfl⟩:=gk (t:=bw) (as:=F.map cZ)
  (λj acc Z=>X2 λ(x y:Sl)=>N4 (Z=S++[x,y]) (np x=true) (np y=true) (acc=(F.take j).map g)) ⟨.un,.un,rfl,rfl,rfl,rfl⟩ (by
   rintro j q acc Z R ⟨x,y,rfl,k,I,rfl⟩;rw[UU] at R;cases Q:F[j]? with
   |none=>rw[Q] at R;cases R
   | some p=>rw[Q] at R;cases R;obtain⟨r,k1,k2⟩:=h p (Vc Q);refine⟨_,z p x y k I,.inl ⟨_,r,_,g p,_,rfl,k1,k2,_,_,rfl,rfl,rfl,?_⟩⟩;rw[Vu,Q,U7];rfl)
 unfold cN;rw[if_pos (by rw[UP];omega)];have e1:S++Vd 2 Sl.un=S++[.un,.un]:=rfl;rw[e1,h1];simp
theorem BW{n:Nat}(y:NB n x)(h:n<=8000):Val jz [nm x,.tup [.int (XT 0),.int 1]] (nm (-x.1,x.2)):=by have k:=ud y Cd (by omega);unfold Tj at k;rw[tO y.ok] at k;exact k
theorem nc(v:NB 64 x)(h:iw F):Val l5 [bj x F,.tup [.int (XT 0),.int 1]] (bj (-x.1,x.2) (fQ (cb F))):=by
 have k:=xG (G:=G2 2 3) (F:=F) (S:=[.fr (bj x F),.fr (.tup [.int (XT 0),.int 1])]) (e:=aU (aK (ae 2) (aO jz (aK (aj 3) (aj 1))))) (λp=>cZ (EC p)) (by have:=h.ln;omega)
  (λp x y v O=>by cases x<;>first|(cases v;done)|(cases y<;>first|(cases O;done)|rfl))
  (λp hp=>⟨.fr (cZ (EC p)),cR (af rfl (af (ag rfl (av (BW (h.nb p hp) (by decide)) _)) rfl)) rfl,rfl⟩)
 have e:F.map (λp=>cZ (EC p))=(cb F).map cZ:=by unfold cb;rw[Vr];rfl
 rw[e] at k;exact Val.of (Wp.df (Wp.en (aC (ag (af (ag (af (ai rfl rfl (bJ (i:=0) (a:=nm x) (.inr rfl) rfl)) rfl) (av (BW v (by decide)) _)) (af (dA (bR (yi (T:=bj x F) (x:=x) (as:=F.map cZ) (ae 0) rfl rfl) k) rfl) rfl)) (av (FE h.neg) _)) rfl) rfl))
section
variable{Z U Z':List Sl}{m:Mi Rr}{ms:Mi (List Rr)}{e x:Str}
theorem be{m:Mi α}{f:α->Mi β}(h:m Z=some (.error e,U)):aF m f Z=some (.error e,U):=by unfold aF;rw[h]
theorem bs{m:Mi α}{f:α->Ms}(h:m Z=some (.error e,U)):cH m f Z=some (.ex e,U):=by unfold cH;rw[h]
theorem xn{f:Ms}{das:List A}(h:ms Z=some (.error e,U)):fq f das ms Z=some (.error e,U):=be h
theorem dW{f:Ms}{das:List A}(h:ms Z=some (.ok rs,U))(c:d9 f das rs U=some (.error x,Z')):fq f das ms Z=some (.error x,Z'):=bk h c
theorem t4(h:m Z=some (.error e,U)):bZ m ms Z=some (.error e,U):=be h
theorem sQ(h:m Z=some (.ok r,U))(k:ms U=some (.error e,Z')):bZ m ms Z=some (.error e,Z'):=bk h (be k)
theorem Jy(h:m Z=some (.error e,U)):km m Z=some (.error e,U):=be h
theorem jP(h:m Z=some (.error e,U)):aN m Z=some (.ex e,U):=bs h
end
theorem Lh{ns:List Str}(hm:∀p∈F,p.1∈ns):∀p∈fQ (cb F),p.1∈ns:=λp hp=>by unfold fQ at hp;obtain⟨s,P,rfl⟩:=Vj.mp hp;obtain⟨q,j,rfl⟩:=kP.mp (VZ.mp P).1;obtain⟨r,l,rfl⟩:=Vj.mp j;exact hm r l
theorem G6{ns:List Str}(nd:(F.map (·.1)).Nodup)(hm:∃p∈F,p.1∉ns/\p.2.1≠0):∃p∈fQ (cb F),p.1∉ns:=by
 obtain⟨p,hp,h1,h2⟩:=hm;have j:EC p∈cb F:=Wd hp;have e:=lP (p:=cb F) (by rw[nI];exact nd) j;refine⟨(p.1,gN (cb F) p.1),?_,h1⟩;unfold fQ;refine Vj.mpr ⟨p.1,VZ.mpr ⟨kP.mpr ⟨_,j,rfl⟩,?_⟩,rfl⟩;rw[show gN (cb F) p.1=(EC p).2 from e,decide_eq_false λz=>h2 ?_]
 .rfl
 .have:=congrArg zal z;have:-p.2.1=0:=this;omega
section
variable{zs:List Sz}{F:List Mk}{x:Num}(h:Row zs)(hx:NB 64 x)(hF:iw F)
include h hF
theorem sW(hm:∀p∈F,p.1∈zs.flatMap a9)(hx:NB 64 x):dF bS [gz zs,bj x F] (.aP ((bb zs (gN (fQ (cb F)))).map c8)):=
 dF.of (Wp.df (Wp.en (aC (ag (af (bI rfl rfl) (af (ag rfl (av (nc hx hF) _)) rfl)) (bQ (rV h hF.neg.N7 (Lh hm)) _)) rfl) rfl))
theorem qi(hm:∃p∈F,p.1∉zs.flatMap a9/\p.2.1≠0)(hx:NB 64 x):jd bS [gz zs,bj x F] "NoSum" :=
 jd.of (Wp.df (Wp.en (jP (dW (af (bI rfl rfl) (af (ag rfl (av (nc hx hF) _)) rfl)) (fK (n4 h hF.neg.N7 (G6 hF.nd hm)) _))) rfl))
theorem Pk{D:List Mk}(hx:NB 64 x)(g:∀q∈D,NB 365 q.2)(hn:D.map (·.1)=zs.flatMap a9)(hm:∀p∈F,p.1∈zs.flatMap a9):∃y,N3 (Val gc [bj x F,cG D] (nm y)) (Ok y) (nv y=nv x+sv F D):=by
 have hl:=W0 (64+365+1) hF.ln;obtain⟨y,v,n,e⟩:=yg hx hF.nb g (by decide) (λp hp=>by have:=hm p hp;rw[<-hn] at this;exact Vj.mp this) (by omega)
 exact⟨y,v,n.ok,e⟩
theorem DV(hm:∀p∈F,p.1∈zs.flatMap a9)(hx:NB 64 x):∃y,N3 (Val c9 [gz zs,bj x F] (nm y)) (Ok y) (nv y=nv x+sv F (bb zs (gN F))):=by obtain⟨y,v,n,e⟩:=Pk h hF hx (xU h (gN F)) (eE _ _) hm;exact⟨y,Val.of (Wp.df (Wp.en (aC (ag (af rfl (af (dA (ag (af (bI rfl rfl) rfl) (bQ (rV h hF hm) _)) rfl) rfl)) (av v _)) rfl) rfl)),n,e⟩
theorem yR(hm:∀p∈F,p.1∈zs.flatMap a9)(hx:NB 64 x):∃y,N3 (Val cO [gz zs,bj x F] (nm y)) (Ok y) (nv y=nv x+sv F (bb zs (gN (fQ (cb F))))):=by obtain⟨y,v,n,e⟩:=Pk h hF hx (xU h (gN (fQ (cb F)))) (eE _ _) hm;exact⟨y,Val.of (Wp.df (Wp.en (aC (ag (af rfl (af (dA (ag (af (bI rfl rfl) rfl) (bQ (sW h hF hm hx) _)) rfl) rfl)) (av v _)) rfl) rfl)),n,e⟩
theorem zi(hm:∃p∈F,p.1∉zs.flatMap a9):jd c9 [gz zs,bj x F] "NoSum" :=
 jd.of (Wp.df (Wp.en (jP (xn (sQ rfl (t4 (Jy (dW (af (bI rfl rfl) rfl) (fK (n4 h hF hm) _))))))) rfl))
theorem wb(hm:∃p∈F,p.1∉zs.flatMap a9/\p.2.1≠0)(hx:NB 64 x):jd cO [gz zs,bj x F] "NoSum" :=
 jd.of (Wp.df (Wp.en (jP (xn (sQ rfl (t4 (Jy (dW (af (bI rfl rfl) rfl) (fK (qi h hF hm hx) _))))))) rfl))
end
theorem j0(b:Bool)(d:decide (i=j)=b):ao (az dP (ae 0) (mC (.int j))) (.fr (.int i)::Z)=some (.ok b,.fr (.int i)::Z):=by rw[<-d];exact aA (ai rfl rfl (iD _ _ _))
variable{w:Int}
section
variable{zs:List Sz}{F:List Mk}{x:Num}(h:Row zs)(hF:iw F)(hx:NB 64 x)
include h hF hx
theorem CU(hm:∀p∈F,p.1∈zs.flatMap a9):dF bc [.int 2,gz zs,bj x F] (.aP ((bb zs (gN F)).map c8)):=
 dF.of (Wp.df (Wp.st (aY (j0 false rfl) rfl) (Wp.st (aY (j0 false rfl) rfl) (Wp.sr (cL (j0 true rfl) (aC (ag (af (bI rfl rfl) rfl) (bQ (rV h hF hm) _)) rfl)) rfl))))
theorem Ea(hm:∀p∈F,p.1∈zs.flatMap a9):dF bc [.int 3,gz zs,bj x F] (.aP ((bb zs (gN (fQ (cb F)))).map c8)):=
 dF.of (Wp.df (Wp.st (aY (j0 false rfl) rfl) (Wp.st (aY (j0 false rfl) rfl) (Wp.st (aY (j0 false rfl) rfl) (Wp.en (aC (ag (af (bI rfl rfl) rfl) (bQ (sW h hF hm hx) _)) rfl) rfl)))))
theorem AI{m n:Ms}{y:Str}(h:m Z=some (.ex y,U))(q:Q (.ex y) U):Wp (ay m n) Z Q:=⟨_,_,IT h,q⟩
theorem BE(hm:∃p∈F,p.1∉zs.flatMap a9/\p.2.1≠0)(h0:0<=w)(h4:w<4):jd bc [.int w,gz zs,bj x F] "NoSum" := by
 have Z:∃p∈F,p.1∉zs.flatMap a9:=let ⟨p,hp,n,_⟩:=hm;⟨p,hp,n⟩
 rcases(show w=0\/w=1\/w=2\/w=3 by omega) with rfl|rfl|rfl|rfl
 .exact jd.of (Wp.df (AI h hF hx (cL (j0 true rfl) (jP (dW (af (bI rfl rfl) rfl) (fK (zi h hF Z) _)))) rfl))
 .exact jd.of (Wp.df (Wp.st (aY (j0 false rfl) rfl) (AI h hF hx (cL (j0 true rfl) (jP (dW (af (bI rfl rfl) rfl) (fK (wb h hF hm hx) _)))) rfl)))
 .exact jd.of (Wp.df (Wp.st (aY (j0 false rfl) rfl) (Wp.st (aY (j0 false rfl) rfl) (AI h hF hx (cL (j0 true rfl) (jP (dW (af (bI rfl rfl) rfl) (fK (n4 h hF Z) _)))) rfl))))
 .exact jd.of (Wp.df (Wp.st (aY (j0 false rfl) rfl) (Wp.st (aY (j0 false rfl) rfl) (Wp.st (aY (j0 false rfl) rfl) (Wp.en (jP (dW (af (bI rfl rfl) rfl) (fK (qi h hF hm hx) _))) rfl)))))
end
theorem zO{s t:A}(h:jd bc [.int w,s,t] "NoSum"):Val fw [.int w,s,t] (.bl true):=by
 have k:bO (aO bc (i8 (mT (aj 0) (aj 1) (aj 2)))) [.fr (.int w),.fr s,.fr t,.fr (.bl false),.un]=some (.ex "NoSum",[.fr (.int w),.fr s,.fr t,.fr (.bl false),.un]):=by exact bs (dW rfl (fK h _))
 refine Val.of (Wp.df (Wp.st (U:=[.fr (.int w),.fr s,.fr t,.fr (.bl false),.un]) rfl (Wp.st (U:=[.fr (.int w),.fr s,.fr t,.fr (.bl true),.un]) ?_ (Wp.en (f:=.rt (.fr (.bl true))) rfl rfl))));rw[Oj,k];rfl
theorem v_is(x:Num):Val gf [nm x,nm x] (.bl true):=by
 have e1:∀Z,eW iy (.fr (.int 2)) (.fr (.int 2)) Z=some (.ok (.fr (.bl false)),Z):=λZ=>by simp only[eW,res,iy,mV,decide_true,Y4]
 have e2:∀Z,eW iy (.fr (nm x)) (.fr (nm x)) Z=some (.ok (.fr (.bl false)),Z):=λZ=>by simp only[eW,res,iy,xB,Y4]
 exact Val.of (Wp.df (Wp.st (aY (fR (cS (b:=true) rfl) (fR (aA (ai rfl rfl (e1 _))) (aA (ai rfl rfl (e2 _))))) rfl) (Wp.en rfl rfl)))
theorem AX(hl:F.length<=1000):Val kq [bj x F] (bj (-x.1,x.2) (cb F)):=by
 have k:=xG (G:=G2 1 2) (S:=[.fr (bj x F)]) (e:=aU (aK (ae 1) (aU (aK (az fD (aw 0) (mix (ae 2) (aw 0))) (mix (ae 2) (aw 1)))))) (λp=>cZ (p.1,(0-p.2.1,p.2.2))) hl
  (λp x y v O=>by cases x<;>first|(cases v;done)|(cases y<;>first|(cases O;done)|rfl))
  (λp hp=>⟨.fr (cZ (p.1,(0-p.2.1,p.2.2))),rfl,rfl⟩)
 have e:F.map (λp=>cZ (p.1,(0-p.2.1,p.2.2)))=(cb F).map cZ:=by unfold cb;rw[Vr];refine V1 λp _=>?_;show cZ (p.1,(0-p.2.1,p.2.2))=cZ (EC p);unfold EC;rw[Wy]
 rw[e] at k;have X:bj (-x.1,x.2) (cb F)=bj (0-x.1,x.2) (cb F):=by rw[Wy]
 rw[X];exact Val.of (Wp.df (Wp.en (aC (cR (af (cR (af (ai rfl (ai (ai rfl rfl (bJ (.inr rfl) rfl)) rfl rfl) rfl) (af (ai (ai rfl rfl (bJ (.inr rfl) rfl)) rfl rfl) rfl)) rfl) (af (bq (bR (yi (T:=bj x F) (ae 0) rfl rfl) k) rfl) rfl)) rfl) rfl) rfl))
theorem Fq{s:Str}(h:∀q∈p,q.1≠s):gN (p++[(s,v)]) s=v:=by unfold gN;rw[List.find?_append,WG.mpr λq j=>by simpa using h q j];simp
abbrev uC(z:Sz)(F:List Mk)(v:Num)(D:List Mk)(y:Num)(x5 x6 x7 x8 x9:Sl):List Sl:=[.fr (ie z),.fr (cG F),.fr (nm v),.lv (.aP (D.map c8)),.fr (nm y),x5,x6,x7,x8,x9]
variable{x8 x9:Sl}
theorem S1{a b e:Sl}(f:Sf)(h3:np x5=true)(h4:np x6=true)(h5:np x7=true):G3 5 6 7 (eN f) [a,b,c,d,e,x5,x6,x7,x8,x9]=some [a,b,c,d,e,.fr (.str f.s),.fr (nm f.r),.fr (.str f.w),x8,x9]:=by cases x5<;>first|(cases h3;done)|(cases x6<;>first|(cases h4;done)|(cases x7<;>first|(cases h5;done)|rfl))
theorem JC(q:Num):ll (0,1) q=decide (0<q.1):=by unfold ll;rw[show (0:Int)*q.2=0 by omega,show q.1*1=q.1 by omega]
theorem IP(q:Num):ll q (0,1)=decide (q.1<0):=by unfold ll;rw[show (0:Int)*q.2=0 by omega,show q.1*1=q.1 by omega]
theorem CD{D:List Mk}{s:Str}{u w:Num}(hn:∀q∈D,q.1≠s)(hl:D.length<=100)(h:m (uC z F v (D++[(s,u)]) y (.fr (.str s)) x6 x7 x8 x9)=some (.ok (.fr (nm w)),uC z F v (D++[(s,u)]) y (.fr (.str s)) x6 x7 x8 x9)):hV 3 (ae 5) m (uC z F v (D++[(s,u)]) y (.fr (.str s)) x6 x7 x8 x9)=some (.nx,uC z F v (D++[(s,w)]) y (.fr (.str s)) x6 x7 x8 x9):=by refine(jA h rfl rfl (zq rfl rfl rfl rfl (by rw[UP,UY,VN];omega))).trans ?_;rw[DT _ _ _ _ hn];rfl
theorem Kf{D:List Mk}{s:Str}{w:Num}(hn:∀q∈D,q.1≠s)(hl:D.length<=100)(h:m (uC z F v D y (.fr (.str s)) x6 x7 x8 x9)=some (.ok (.fr (nm w)),uC z F v D y (.fr (.str s)) x6 x7 x8 x9)):hV 3 (ae 5) m (uC z F v D y (.fr (.str s)) x6 x7 x8 x9)=some (.nx,uC z F v (D++[(s,w)]) y (.fr (.str s)) x6 x7 x8 x9):=by refine(jA h rfl rfl (zq rfl rfl rfl rfl (by rw[UP];omega))).trans ?_;rw[mQ _ _ _ hn];rfl
theorem xu(hz:jS 121 z)(A:NB 121 v)(p:∀q∈F,NB 64 q.2)(hl:z.f.length<=11):∃y,N3 (Val eQ [ie z,cG F,nm v] (.tup [nm y,cG (aT z (gN F) v)])) (NB (430*(a9 z).length) y) (nv y=wv (aT z (gN F) v) (gN F)):=by
 have K:(aT z (gN F) v).length=z.f.length+1:=by unfold aT;rw[US,UP]
 have X:(a9 z).length=z.f.length+1:=by unfold a9;rw[US,UP]
 suffices Wp eQ ([ie z,cG F,nm v].map Sl.fr) λg _=>∃y,N3 (g=.rt (.fr (.tup [nm y,cG (aT z (gN F) v)]))) (NB (430*(a9 z).length) y) (nv y=wv (aT z (gN F) v) (gN F)) by obtain⟨_,_,e,y,rfl,h1,h2⟩:=this;exact⟨y,⟨_,e⟩,h1,h2⟩
 have b:=pV p (by decide) z.n;refine Wp.df (Wp.st (bD (uc rfl rfl rfl rfl) rfl) ?_);refine Wp.st (bD (ag (af (dA (m5 rfl rfl rfl rfl rfl) rfl) rfl) (av (yA b A (by decide)) _)) rfl) ?_;refine Wp.sq (Wp.fr (λi Z=>X5 λy x5 x6 x7 x8=>∃x9,N6 (Z=uC z F v ((aT z (gN F) v).take (i+1)) y x5 x6 x7 x8 x9) (NB (430*(i+1)) y) (nv y+wv ((aT z (gN F) v).drop (i+1)) (gN F)=wv (aT z (gN F) v) (gN F)) (np x5=true) (np x6=true) (N3 (np x7=true) (np x8=true) (np x9=true))) (hY (ai rfl rfl (bJ (.inr rfl) rfl)) rfl)
  ⟨_,.un,.un,.un,.un,.un,rfl,(NB.Rv b A).mono (by omega),by rw[Ei b.ok A.ok];rfl,rfl,rfl,rfl,rfl,rfl⟩ ?_ ?_)
 .rintro i a Z ha ⟨y,x5,x6,x7,x8,x9,rfl,T,x,h5,Y,R,k,t⟩;rw[UU] at ha;cases Q:z.f[i]? with
  |none=>rw[Q] at ha;cases ha
  |some f=>
   rw[Q] at ha;cases ha;have hf:=hz.fs f (Vc Q);have hi:=(UQ.mp Q).1;have J:=pV p (by decide) f.s;have H:NB 365 (gD z f v):=wj hz.lb hz.mb hf.nb A;have ns:NB 365 (dB (gN F f.s) (gD z f v)):=uu H (by decide);have S:=xw (g:=gN F) (v:=v) hz.nd Q;have m:=qD (g:=gN F) (v:=v) Q;have o:((aT z (gN F) v).take (i+1)).length<=100:=by rw[Vh];omega
   have c:=av (Gs hz.lb hz.mb hf.nb A hf.wy (by decide) Q hz.nd);have hd:(aT z (gN F) v).drop (i+1)=(f.s,dB (gN F f.s) (gD z f v))::(aT z (gN F) v).drop (i+1+1):=by
    rw[Vx (by omega:i+1<(aT z (gN F) v).length)]
    congr 1
    unfold aT;rw[List.getElem_cons_succ,List.getElem_map,(UQ.mp Q).2]
   rw[hd,wv] at x;refine⟨_,S1 f h5 Y R,?_⟩;generalize E:(aT z (gN F) v).take (i+1)=D at *;generalize j:gN F f.s=q at *;generalize V:gD z f v=r at *;refine Wp.st (aW (r:=.fr (nm q)) (by rw[<-j];exact m5 rfl rfl rfl rfl rfl) rfl rfl k rfl) ?_;refine Wp.st (aW (ag rfl (c _)) rfl rfl t rfl) ?_;refine Wp.st (Kf (w:=(0,1)) S o rfl) ?_;have fin:∀w,dB q r=w->Wp (aG 4 (aO bT (aK (aj 4) (aO gG (aK (aj 8) (mix (ae 3) (ae 5))))))) (uC z F v (D++[(f.s,w)]) y (.fr (.str f.s)) (.fr (nm f.r)) (.fr (.str f.w)) (.fr (nm q)) (.fr (nm r))) λg Z'=>(g=.nx\/g=.ct)/\X5 λy x5 x6 x7 x8=>∃x9,N6 (Z'=uC z F v ((aT z (gN F) v).take (i+1+1)) y x5 x6 x7 x8 x9) (NB (430*(i+1+1)) y) (nv y+wv ((aT z (gN F) v).drop (i+1+1)) (gN F)=wv (aT z (gN F) v) (gN F)) (np x5=true) (np x6=true) (N3 (np x7=true) (np x8=true) (np x9=true)):=by rintro w rfl;have I:∀Z,eW (dJ vG iC) (.rf 3) (.fr (.str f.s)) (uC z F v (D++[(f.s,dB q r)]) y (.fr (.str f.s)) (.fr (nm f.r)) (.fr (.str f.w)) (.fr (nm q)) (.fr (nm r))++Z)=some (.ok (.fr (nm (dB q r))),uC z F v (D++[(f.s,dB q r)]) y (.fr (.str f.s)) (.fr (nm f.r)) (.fr (.str f.w)) (.fr (nm q)) (.fr (nm r))++Z):=λZ=>(nK rfl ⟨(f.s,dB q r),by simp,rfl⟩).trans (by rw[Fq S]);have h:=NB.Rv J ns;refine Wp.en (aW (ag (af rfl (af (ag (af rfl (af (ai rfl rfl (I [])) rfl)) (av (yA J ns (by decide)) _)) rfl)) (av (jy T h (by omega)) _)) rfl rfl rfl rfl) ⟨.inl rfl,_,_,_,_,_,_,by rw[m];rfl,(NB.Hh T h).mono (by omega),?_,rfl,rfl,rfl,rfl,rfl⟩;rw[vy T.ok h.ok,Ei J.ok ns.ok,<-x,WZ]
   have U:∀G,ao (az G8 (mix (ae 8) (aw 0)) (aw 0)) (uC z F v G y (.fr (.str f.s)) (.fr (nm f.r)) (.fr (.str f.w)) (.fr (nm q)) (.fr (nm r)))=some (.ok (ll (0,1) q),uC z F v G y (.fr (.str f.s)) (.fr (nm f.r)) (.fr (.str f.w)) (.fr (nm q)) (.fr (nm r))):=λG=>by rw[JC];rfl
   have l:∀G,ao (az u0 (mix (ae 8) (aw 0)) (aw 0)) (uC z F v G y (.fr (.str f.s)) (.fr (nm f.r)) (.fr (.str f.w)) (.fr (nm q)) (.fr (nm r)))=some (.ok (ll q (0,1)),uC z F v G y (.fr (.str f.s)) (.fr (nm f.r)) (.fr (.str f.w)) (.fr (nm q)) (.fr (nm r))):=λG=>by rw[IP];rfl
   cases e1:ll (0,1) q with
   |true=>
    have e2:ll q (0,1)=false:=by rw[JC,decide_eq_true_eq] at e1;rw[IP,decide_eq_false_iff_not];omega
    rw[e1] at U;rw[e2] at l;refine Wp.st (cL (U _) (CD (w:=(-r.1,r.2)) S o (by rw[<-Wy];rfl))) (Wp.st (aY (l _) rfl) (fin _ ?_));unfold dB;rw[if_pos e1]
   |false=>
    rw[e1] at U;cases e2:ll q (0,1) with
    |true=>rw[e2] at l;refine Wp.st (aY (U _) rfl) (Wp.st (cL (l _) (CD S o rfl)) (fin _ ?_));unfold dB;rw[if_neg (by rw[e1];exact Vm),if_pos e2]
    |false=>rw[e2] at l;refine Wp.st (aY (U _) rfl) (Wp.st (aY (l _) rfl) (fin _ ?_));unfold dB;rw[if_neg (by rw[e1];exact Vm),if_neg (by rw[e2];exact Vm)]
 .rintro O ⟨y,x5,x6,x7,x8,x9,rfl,T,x,_⟩;rw[UP] at T x;rw[UP,XA (by omega)];rw[List.drop_of_length_le (by omega)] at x;refine⟨rfl,Wp.en rfl ⟨y,rfl,by rw[X];exact T,?_⟩⟩;rw[<-x];exact(Zs _).symm
def wA:List Sz->(Str->Num)->Rat
 |[],_=>0
 |z::zs,g=>wv (gH z g) g+wA zs g
abbrev GF(zs:List Sz)(x:Num)(F:List Mk)(Y:Sl)(y:Num)(D:List Mk)(x5 x6 x7:Sl):List Sl:=[.fr (.lst (zs.map ie)),.fr (bj x F),Y,.fr (nm y),.lv (.aP (D.map c8)),x5,x6,x7]
theorem Ed(h:Row zs)(k:NB 64 x)(p:iw F):∃y,N3 (Val dQ [.lst (zs.map ie),bj x F] (.tup [nm y,cG (bb zs (gN F))])) (Ok y) (nv y=nv x+wA zs (gN F)):=by
 suffices Wp dQ ([.lst (zs.map ie),bj x F].map Sl.fr) λg _=>∃y,N3 (g=.rt (.fr (.tup [nm y,cG (bb zs (gN F))]))) (Ok y) (nv y=nv x+wA zs (gN F)) by obtain⟨_,_,e,y,rfl,h1,h2⟩:=this;exact⟨y,⟨_,e⟩,h1,h2⟩
 have N:∀i,((zs.take i).flatMap a9).length<=12:=λi=>by have e2:=congrArg (λl=>(l.flatMap a9).length) (VO i zs);simp only[Vw,UY] at e2;have:=h.ln;omega
 have r:∀i,(bb (zs.take i) (gN F)).length=((zs.take i).flatMap a9).length:=λi=>by have e:=congrArg V2 (eE (zs.take i) (gN F));simpa using e
 refine Wp.df (Wp.st (bD (bq (ai rfl rfl (bJ (.inr rfl) rfl)) (xa p.nd (by have:=p.ln;omega) _)) rfl) ?_)
 refine Wp.st (bD (ai rfl rfl (bJ (.inr rfl) rfl)) rfl) ?_
 refine Wp.st rfl ?_
 refine Wp.sq (Wp.fr (λi Z=>X5 λY y x5 x6 x7=>N6 (Z=GF zs x F Y y (bb (zs.take i) (gN F)) x5 x6 x7) (Y=.lv (.aP (F.map c8))\/Y=.fr (cG F)) (NB (64+431*((zs.take i).flatMap a9).length) y) (nv y+wA (zs.drop i) (gN F)=nv x+wA zs (gN F)) (np x5=true) (np x6=true/\np x7=true)) rfl ⟨_,_,_,_,_,rfl,.inl rfl,k.mono (by omega),rfl,rfl,rfl,rfl⟩ ?_ ?_)
 .rintro i a Z ha ⟨Y,y,x5,x6,x7,rfl,h2,T,S,h5,H,R⟩
  rw[UU] at ha
  cases Q:zs[i]? with
  |none=>rw[Q] at ha;cases ha
  |some z=>
   rw[Q] at ha;cases ha;have hm:=Vc Q;have hz:=h.st.sz z hm;have hi:=(UQ.mp Q).1;obtain⟨o,L,E,e1⟩:=xu hz hz.lb p.nb (h.f hm);obtain⟨w,J,D,e2⟩:=xu hz hz.mb p.nb (h.f hm);have e:bb (zs.take (i+1)) (gN F)=bb (zs.take i) (gN F)++gH z (gN F):=by unfold bb;rw[Vu,Q,Vw];simp
   have es:((zs.take (i+1)).flatMap a9).length=((zs.take i).flatMap a9).length+(a9 z).length:=by rw[Vu,Q,Vw,UY];simp
   have X:=N (i+1);have b:=r i;have lc:(gH z (gN F)).length=(a9 z).length:=by have:=congrArg V2 (D4 z (gN F));simpa using this
   have nd:((bb (zs.take i) (gN F)++gH z (gN F)).map (·.1)).Nodup:=by rw[<-e,eE];have:=h.nd;rw[<-VO (i+1) zs,Vw] at this;exact(U8.mp this).1
   rw[Vx hi,(UQ.mp Q).2,wA] at S;refine⟨GF zs x F Y y (bb (zs.take i) (gN F)) (.fr (ie z)) x6 x7,by cases x5<;>first|(cases h5;done)|rfl,?_⟩;refine Wp.st (U:=GF zs x F (.fr (cG F)) y (bb (zs.take i) (gN F)) (.fr (ie z)) (.fr (.tup [nm o,cG (aT z (gN F) z.l)])) x7) (by rcases h2 with rfl|rfl<;>exact aW (ag rfl (av L _)) rfl rfl H rfl) ?_;refine Wp.st (aW (ag rfl (av J _)) rfl rfl R rfl) ?_;have t:ao (aO gW (aK (mix (ae 7) (aw 0)) (mix (ae 6) (aw 0)))) (GF zs x F (.fr (cG F)) y (bb (zs.take i) (gN F)) (.fr (ie z)) (.fr (.tup [nm o,cG (aT z (gN F) z.l)])) (.fr (.tup [nm w,cG (aT z (gN F) z.m)])))=some (.ok (decide (wv (aT z (gN F) z.m) (gN F)<wv (aT z (gN F) z.l) (gN F))),GF zs x F (.fr (cG F)) y (bb (zs.take i) (gN F)) (.fr (ie z)) (.fr (.tup [nm o,cG (aT z (gN F) z.l)])) (.fr (.tup [nm w,cG (aT z (gN F) z.m)]))):=by rw[<-ya D.ok E.ok e2 e1];exact aA (ag (af (ai rfl rfl (bJ (.inr rfl) rfl)) (af (ai rfl rfl (bJ (.inr rfl) rfl)) rfl)) (av (Eo D E (by omega) (by omega)) _))
   have fin:∀q,NB (430*(a9 z).length) q->nv q=wv (gH z (gN F)) (gN F)->Wp (ay (aG 3 (aO bT (aK (aj 3) (mix (ae 6) (aw 0))))) (bO (uk 4 (mix (ae 6) (aw 1))))) (GF zs x F (.fr (cG F)) y (bb (zs.take i) (gN F)) (.fr (ie z)) (.fr (.tup [nm q,cG (gH z (gN F))])) (.fr (.tup [nm w,cG (aT z (gN F) z.m)]))) λg Z'=>(g=.nx\/g=.ct)/\X5 λY y x5 x6 x7=>N6 (Z'=GF zs x F Y y (bb (zs.take (i+1)) (gN F)) x5 x6 x7) (Y=.lv (.aP (F.map c8))\/Y=.fr (cG F)) (NB (64+431*((zs.take (i+1)).flatMap a9).length) y) (nv y+wA (zs.drop (i+1)) (gN F)=nv x+wA zs (gN F)) (np x5=true) (np x6=true/\np x7=true):=by
    intro q G e3;have hp:1<=(a9 z).length:=by unfold a9;rw[US];omega
    refine Wp.st (aW (ag (af rfl (af (ai rfl rfl (bJ (.inr rfl) rfl)) rfl)) (av (jy T G (by omega)) _)) rfl rfl rfl rfl) ?_;refine Wp.en (U:=GF zs x F (.fr (cG F)) (eR y q) (bb (zs.take (i+1)) (gN F)) (.fr (ie z)) (.fr (.tup [nm q,cG (gH z (gN F))])) (.fr (.tup [nm w,cG (aT z (gN F) z.m)]))) ?_ ⟨.inl rfl,_,_,_,_,_,rfl,.inr rfl,(NB.Hh T G).mono (by omega),?_,rfl,rfl,rfl⟩
    .unfold GF;rw[e,<-jw _ _ nd];exact wd rfl (ai rfl rfl (bJ (.inr rfl) rfl)) rfl rfl (by rw[UP,UP];omega) rfl
    .rw[vy T.ok G.ok,e3,WZ];exact S
   by_cases hc:wv (aT z (gN F) z.m) (gN F)<wv (aT z (gN F) z.l) (gN F)
   .have V:gH z (gN F)=aT z (gN F) z.m:=if_pos hc;rw[decide_eq_true hc] at t;refine Wp.st (cL t (aW rfl rfl rfl rfl rfl)) ?_;rw[V] at fin;exact fin w D e2
   .have V:gH z (gN F)=aT z (gN F) z.l:=if_neg hc;rw[decide_eq_false hc] at t;refine Wp.st (aY t rfl) ?_;rw[V] at fin;exact fin o E e1
 .rintro O ⟨Y,y,x5,x6,x7,rfl,_,T,S,_⟩
  rw[UP] at S ⊢
  rw[VS]
  rw[We] at S
  refine⟨rfl,Wp.en rfl ⟨y,rfl,T.ok,?_⟩⟩
  rw[<-S]
  exact(Zs _).symm
theorem JZ{p:Mk}{s:Str}(e:p.1=s):gN (p::F) s=p.2:=by unfold gN;rw[VB,decide_eq_true e];rfl
theorem DN{p:Mk}{s:Str}(e:p.1≠s):gN (p::F) s=gN F s:=by unfold gN;rw[VB,decide_eq_false e]
theorem yj{g g':Str->Num}:∀D:List Mk,(∀q∈D,g q.1=g' q.1)->wv D g=wv D g'
 |[],_=>rfl
 |q::D,h=>by rw[wv,wv,h q (.head _),yj D λr l=>h r (UW _ l)]
theorem wX{p:Mk}{F:List Mk}(hp:∀q∈F,q.1≠p.1):∀D:List Mk,(D.map (·.1)).Nodup->(∃q∈D,q.1=p.1)->wv D (gN (p::F))=nv p.2*nv (gN D p.1)+wv D (gN F)
 |[],_,h=>by obtain⟨q,j,_⟩:=h;cases j
 |q::D,nd,h=>by
  obtain⟨E,V⟩:=Vn.mp nd;rw[wv,wv];by_cases e:q.1=p.1
  .rw[JZ e.symm,JZ e,e,Ci hp,kj,Zt,XI];rw[yj D λr l=>DN λz=>E ?_];show q.1∈_;rw[e,z];exact Wd l
  .rw[DN (λz=>e z.symm),DN e,wX hp D V ?_]
   .rw[<-WZ,<-WZ,Rat.add_comm (nv (gN F q.1)*nv q.2)]
   .obtain⟨r,l,Q⟩:=h;exact⟨r,(U5.mp l).resolve_left λz=>e (z▸Q),Q⟩
theorem AB:∀D:List Mk,wv D (gN [])=0
 |[]=>rfl
 |q::D=>by rw[wv,AB D,show gN [] q.1=(0,1) from rfl,kj,Zt,XI]
theorem Ej{D:List Mk}(nd:(D.map (·.1)).Nodup):∀F:List Mk,(F.map (·.1)).Nodup->(∀p∈F,p.1∈D.map (·.1))->sv F D=wv D (gN F)
 |[],_,_=>(AB D).symm
 |p::F,nf,h=>by obtain⟨E,V⟩:=Vn.mp nf;rw[sv,Ej nd F V λq j=>h q (UW _ j),wX (λq j e=>E (by show p.1∈_;rw[<-e];exact Wd j)) D nd (Vj.mp (h p (.head _)))]
theorem Ek(g:Str->Num)(E:List Mk):∀D:List Mk,wv (D++E) g=wv D g+wv E g
 |[]=>by rw[XH,wv,XI]
 |q::D=>by rw[Xq,wv,wv,Ek g E D,WZ]
theorem ve(g:Str->Num):∀zs:List Sz,wA zs g=wv (bb zs g) g
 |[]=>rfl
 |z::zs=>by show _=wv (gH z g++bb zs g) g;rw[wA,Ek,ve g zs]
theorem wq(x:Num):nv (-x.1,x.2) =-nv x:=by unfold nv;exact Rat.neg_divInt _ _ |>.symm
theorem A8(D:List Mk):∀F:List Mk,sv (cb F) D =-sv F D
 |[]=>by show (0:Rat) = -0;decide +kernel
 |p::F=>by show nv (EC p).2*nv (gN D p.1)+sv (cb F) D = -(nv p.2*nv (gN D p.1)+sv F D);rw[A8 D F,show nv (EC p).2 =-nv p.2 from wq p.2,Rat.neg_mul,Rat.neg_add]
structure vf(F:List Mk):Prop where
 fc:iw F
 st:F.map (·.1)=cD (F.map (·.1))
 nz:∀p∈F,p.2.1≠0
theorem Bb(nd:(P.map (·.1)).Nodup)(st:P.map (·.1)=cD (P.map (·.1)))(nz:∀p∈P,p.2.1≠0):fQ P=P:=by
 unfold fQ;rw[<-st,List.filter_eq_self.mpr,Vr]
 .have:∀p∈P,((λs=>(s,gN P s))∘λx:Mk=>x.1) p=id p:=λp hp=>by show (p.1,gN P p.1)=p;rw[lP nd hp]
  rw[V1 this,List.map_id]
 .intro s u;obtain⟨p,hp,rfl⟩:=Vj.mp u;rw[lP nd hp,decide_eq_false λz=>nz p hp (by rw[z])];rfl
theorem vf.neg(h:vf F):fQ (cb F)=cb F:=by refine Bb (by rw[nI];exact h.fc.nd) (by rw[nI];exact h.st) λp hp=>?_;obtain⟨q,j,rfl⟩:=Vj.mp hp;have:=h.nz q j;show -q.2.1≠0;omega
variable{y':Num}
theorem KS(h:Row zs)(U:vf F)(hm:∀p∈F,p.1∈zs.flatMap a9)(S:Ok y)(O:Ok y')(e:nv y=nv x+sv F (bb zs (gN F)))(f:nv y'=nv x+wA zs (gN F)):y=y':=by refine JY S O ?_;rw[e,f,ve,Ej (by rw[eE];exact h.nd) F U.fc.nd (by rw[eE];exact hm)]
theorem Hg(h:Row zs)(U:vf F)(hm:∀p∈F,p.1∈zs.flatMap a9)(S:Ok y)(O:Ok y')(e:nv y=nv x+sv F (bb zs (gN (fQ (cb F)))))(f:nv y'=nv (-x.1,x.2)+wA zs (gN (cb F))):y=(0-y'.1,y'.2):=by
 have hn:∀p∈cb F,p.1∈(bb zs (gN (cb F))).map (·.1):=λp hp=>by obtain⟨q,j,rfl⟩:=Vj.mp hp;rw[eE];exact hm q j
 rw[Wy];refine JY S O.neg ?_;rw[U.neg] at e;rw[wq,e,f,ve,<-Ej (by rw[eE];exact h.nd) (cb F) (by rw[nI];exact U.fc.nd) hn,A8,wq,Rat.neg_add,Rat.neg_neg,Rat.neg_neg]
theorem pP{K:List (Key×A)}:∀{L:List (Key×A)},(∀s∈L,gp K s.1=some s.2/\pz s.2 s.2=some true)->l8 K L=some true
 |[],_=>rfl
 |(k,a)::L,h=>by unfold l8;obtain⟨h1,h2⟩:=h (k,a) U9;rw[h1];dsimp only;rw[h2,pP λs B=>h s (UW _ B)];rfl
theorem zT{K:List (Key×A)}(h:∀s∈K,gp K s.1=some s.2/\pz s.2 s.2=some true):zf K K=some true:=by unfold zf;rw[pP h];simp
theorem Gq{D:List Mk}(nd:(D.map (·.1)).Nodup):zf (D.map c8) (D.map c8)=some true:=zT λs B=>by obtain⟨q,j,rfl⟩:=Vj.mp B;refine⟨(rP D q.1 ⟨q,j,rfl⟩).trans ?_,xB _⟩;rw[lP nd j];rfl
theorem lC{D:List Mk}(nd:(D.map (·.1)).Nodup)(h:res Z r=some (cG D)):eW (dJ iy kF) r (.fr (cG D)) Z=some (.ok (.fr (.bl false)),Z):=by
 have e1:iy (cG D) (cG D)=none:=rfl;have e2:kF (cG D) (cG D)=some (.fr (.bl false)):=by unfold cG kF;dsimp only;rw[Gq nd];rfl
 unfold eW dJ;rw[h];dsimp only [res];rw[e1,e2]
theorem DX{g:Key×A->A}{n j:Nat}{t:Mi Bool}{kvs:List (Key×A)}{ys:List A}(h:Z[j]?=some (.lv (.aP kvs)))(k:cN n G t e (kvs.map g) (Z.set j .un)=some (.ok (.nw (.lst ys)),Z.set j .un)):jQ g n j G t e Z=some (.ok (.nw (.lst ys)),Z):=by
 unfold cN at k;revert k;split
 .rename_i hl;cases V:bK G t e (kvs.map g) [] (Z.set j .un++Vd n .un) with
  |none=>intro k;cases k
  |some p=>
   obtain⟨a,O⟩:=p;intro k;have k:=U1 k;have k1:a=ys:=by injection (congrArg zal k) with k;injection k with k;injection k
   have k2:O.take Z.length=Z.set j .un:=by have:=congrArg zam k;rwa[Yy] at this
   have N:=(UQ.mp h).1;unfold jQ;rw[h];dsimp only;rw[if_pos hl,V];dsimp only;rw[k2,Vl N];dsimp only;rw[zav,k1]
   congr 2
   apply WK;intro i;by_cases z:i=j
   .subst z;rw[Vl N,h]
   .rw[VC (VY z)]
 .intro k;cases k
theorem ET(l:List α)(Z:List Sl):eW (qb false) (.fr (.bl false)) (.nw (.lst (l.map λ_=>A.bl true))) Z=some (.ok (.fr (.bl false)),Z):=by
 have e:jF false (.bl false) (.lst (l.map λ_=>A.bl true))=some (.fr (.bl false)):=by
  show Jt false (.bl false) (l.map λ_=>A.bl true)=_;unfold Jt;have f:(lX (.bl false)&&(l.map λ_=>A.bl true).all lX)=true:=by rw[UO,VA];refine⟨rfl,λa ha=>?_⟩;obtain⟨y,_,rfl⟩:=Vj.mp ha;rfl
  have e:JQ (mG (.bl false)) ((l.map λ_=>A.bl true).map mG)=false:=by unfold JQ;rw[Vr,zaw,WJ];intro _ _;exact(show ¬ (Hk (mG (.bl true)) (mG (.bl false))=true) by decide)
  rw[if_pos f,e];rfl
 unfold eW qb dJ;dsimp only [res,LO.a];rw[e]
abbrev RS(zs:List Sz)(x:Num)(F:List Mk)(y:Num)(D:List Mk)(y':Num)(G:List Mk)(x7 x8 x9:Sl):List Sl:=[.fr (.lst (zs.map ie)),.fr (gz zs),.fr (bj x F),.fr (nm y),.fr (cG D),.fr (nm y'),.fr (cG G),x7,x8,x9]
variable{D' E:List Mk}
theorem FG{D:List Mk}(ha:dF bc [.int w,gz zs,bj x F] (.aP (E.map c8)))(he:j3 [cG D,cG D'] (w-2)=some (cG E))(nd:(E.map (·.1)).Nodup)(hl:E.length<=12)(m:np x9=true):∃v,np v=true/\RP (RS zs x F y D y' D' (.fr (.int w)) x8 x9)=some (.nx,RS zs x F y D y' D' (.fr (.int w)) x8 v):=by
 have k:=js (ts:=E) (S:=RS zs x F y D y' D' (.fr (.int w)) x8 .un) (e:=aO gf (aK (aj 10) (aj 10))) (λp=>nm p.2) (λ_=>.bl true) rfl (by omega) (λp _=>⟨.fr (.bl true),ag rfl (av (v_is p.2) _),rfl⟩);have e1:E.map (λp=>nm p.2)=(E.map c8).map λx=>zam x:=by rw[Vr];rfl
 rw[e1] at k;have K:=DX (Z:=RS zs x F y D y' D' (.fr (.int w)) x8 (.lv (.aP (E.map c8)))) (j:=9) rfl k;refine⟨.lv (.aP (jD (E.map c8) (.inr "Z") (nm (1,1)))),rfl,?_⟩;refine bW (aW (ag rfl (bQ ha _)) rfl rfl m rfl) ?_;refine bW (aY (fR (cS (b:=true) rfl) (aA (ai rfl (ai (fV rfl rfl) rfl (bJ (.inl rfl) he)) (lC nd rfl)))) rfl) ?_;refine bW (aY (aA (ai rfl K (ET E _))) rfl) ?_;exact(jA rfl rfl rfl (zq rfl rfl rfl rfl (by rw[UP];omega))).trans rfl
theorem E9{D:List Mk}(ha:dF bc [.int w,gz zs,bj x F] (.aP (E.map c8)))(he:j3 [cG D,cG D'] (w-2)=some (cG E))(nd:(E.map (·.1)).Nodup)(hl:E.length<=12)(k:np x8=true)(m:np x9=true):Wp (dm (fz (aw 2)) (aH 8) RP) (RS zs x F y D y' D' (.fr (.int w)) x8 x9) λf Z=>f=.nx/\X2 λx8 x9=>N3 (np x8=true) (np x9=true) (Z=RS zs x F y D y' D' (.fr (.int w)) x8 x9):=by refine Wp.RL (cU 0 2) (λZ=>X2 λx8 x9=>N3 (np x8=true) (np x9=true) (Z=RS zs x F y D y' D' (.fr (.int w)) x8 x9)) rfl ⟨x8,x9,k,m,rfl⟩ ?_ (λZ h=>⟨rfl,h⟩);rintro a _ Z ⟨x8,x9,k,m,rfl⟩;obtain⟨v,u,e⟩:=FG (x8:=.fr a) (y:=y) (y':=y') ha he nd hl m;exact⟨RS zs x F y D y' D' (.fr (.int w)) (.fr a) x9,by cases x8<;>first|(cases k;done)|rfl,Wp.en e ⟨.inl rfl,_,_,rfl,u,rfl⟩⟩
theorem xb(h:Row zs)(r:vf F)(hm:∀p∈F,p.1∈zs.flatMap a9)(k:NB 64 x):Val gx [.lst (zs.map ie),gz zs,bj x F] (.bl true):=by
 have hf:=r.fc;obtain⟨y,L,K,e1⟩:=Ed h k hf;obtain⟨z,J,Q,e2⟩:=Ed h k.neg hf.neg;obtain⟨q,T,X,e3⟩:=DV h hf hm k;obtain⟨H,b,R,e4⟩:=yR h hf hm k;have S:=KS h r hm X K e3 e1;have v:=Hg h r hm R Q e4 e2;have l:=CU h hf k hm;have O:=Ea h hf k hm;rw[r.neg] at O;subst S v;have ln:∀g,(bb zs g).length<=12:=λg=>by have:=congrArg V2 (eE zs g);rw[UP] at this;rw[this];exact h.ln
 have nd:∀g,((bb zs g).map (·.1)).Nodup:=λg=>by rw[eE];exact h.nd
 have s:∀(n:Num)(D:List Mk)(x3 x4 x5 x6 x7 x8 x9:Sl),np x3=true->np x4=true->G2 3 4 (.tup [nm n,cG D]) [.fr (.lst (zs.map ie)),.fr (gz zs),.fr (bj x F),x3,x4,x5,x6,x7,x8,x9]=some [.fr (.lst (zs.map ie)),.fr (gz zs),.fr (bj x F),.fr (nm n),.fr (cG D),x5,x6,x7,x8,x9]:=λn D x3 x4 x5 x6 x7 x8 x9 h3 h4=>by cases x3<;>first|(cases h3;done)|(cases x4<;>first|(cases h4;done)|rfl)
 refine Val.of (Wp.df (Wp.st (U:=[.fr (.lst (zs.map ie)),.fr (gz zs),.fr (bj x F),.fr (nm q),.fr (cG (bb zs (gN F))),.un,.un,.un,.un,.un]) ?_ (Wp.st (U:=[.fr (.lst (zs.map ie)),.fr (gz zs),.fr (bj x F),.fr (nm q),.fr (cG (bb zs (gN F))),.fr (nm z),.fr (cG (bb zs (gN (cb F)))),.un,.un,.un]) ?_ (Wp.st rfl (Wp.st (aY (fR (cS (aA (ag (af (dA (ag (af (bI rfl rfl) rfl) (av T _)) rfl) rfl) (av (v_is q) _)))) (cS (aA (ag (af (dA (ag (af (bI rfl rfl) rfl) (av b _)) rfl) rfl) (av (v_is _) _))))) rfl) ?_)))))
 .exact sk (ag rfl (av L _)) rfl
 .exact sk (ag (af rfl (af (ag rfl (av (AX (by have:=hf.ln;omega)) _)) rfl)) (av J _)) rfl
 .refine Wp.sq (Wp.RL [A.int 2,.int 3] (λZ=>X3 λx7 x8 x9=>N4 (np x7=true) (np x8=true) (np x9=true) (Z=RS zs x F q (bb zs (gN F)) (0-z.1,z.2) (bb zs (gN (cb F))) x7 x8 x9)) rfl ⟨_,_,_,rfl,rfl,rfl,rfl⟩ ?_ ?_)
  .rintro a ha Z ⟨x7,x8,x9,o,t,m,rfl⟩;refine⟨RS zs x F q (bb zs (gN F)) (0-z.1,z.2) (bb zs (gN (cb F))) (.fr a) x8 x9,by cases x7<;>first|(cases o;done)|rfl,?_⟩;have fin:∀w E,dF bc [.int w,gz zs,bj x F] (.aP ((bb zs E).map c8))->j3 [cG (bb zs (gN F)),cG (bb zs (gN (cb F)))] (w-2)=some (cG (bb zs E))->a=.int w->Wp (dm (fz (aw 2)) (aH 8) RP) (RS zs x F q (bb zs (gN F)) (0-z.1,z.2) (bb zs (gN (cb F))) (.fr a) x8 x9) λf Z'=>(f=.nx\/f=.ct)/\X3 λx7 x8 x9=>N4 (np x7=true) (np x8=true) (np x9=true) (Z'=RS zs x F q (bb zs (gN F)) (0-z.1,z.2) (bb zs (gN (cb F))) x7 x8 x9):=by rintro w E c he rfl;refine Wp.mono (E9 c he (nd _) (ln _) t m) ?_;rintro f Z ⟨rfl,x8,x9,G,u,rfl⟩;exact⟨.inl rfl,_,_,_,rfl,G,u,rfl⟩
   simp only[U5,List.not_mem_nil,or_false] at ha;rcases ha with rfl|rfl
   .exact fin 2 _ l rfl rfl
   .exact fin 3 _ O rfl rfl
  .rintro Z ⟨x7,x8,x9,_,_,_,rfl⟩;exact⟨rfl,Wp.en rfl rfl⟩
theorem Oc{a b Y:Sl}(z:Sz)(h2:np Y=true)(h3:np x3=true)(h4:np x4=true)(h5:np x5=true):G4 2 3 4 5 (ie z) [a,b,Y,x3,x4,x5]=some [a,b,.fr (.str z.n),.fr (nm z.l),.fr (nm z.m),.fr (.tup (z.f.map eN))]:=by cases Y<;>first|(cases h2;done)|(cases x3<;>first|(cases h3;done)|(cases x4<;>first|(cases h4;done)|(cases x5<;>first|(cases h5;done)|rfl)))
theorem Fh(h:z.f.length<=50)(a b c d e f:Sl):cN 3 (G3 6 7 8) bw (ae 6) (z.f.map eN) [a,b,c,d,e,f]=some (.ok (.nw (.lst ((z.f.map Sf.s).map A.str))),[a,b,c,d,e,f]):=by
 obtain⟨ys,O,h1,x4,x5,x6,rfl,rfl,_⟩:=gk (G:=G3 6 7 8) (t:=bw) (e:=ae 6) (as:=z.f.map eN)
  (λi acc Z=>X3 λ(x4 x5 x6:Sl)=>N4 (Z=[a,b,c,d,e,f,x4,x5,x6]) (acc=((z.f.take i).map Sf.s).map A.str) (np x4=true) (np x5=true/\np x6=true)) ⟨.un,.un,.un,rfl,rfl,rfl,rfl,rfl⟩ (by
   rintro i q acc Z j ⟨x4,x5,x6,rfl,rfl,h4,h5,Y⟩;rw[UU] at j;cases Q:z.f[i]? with
   |none=>rw[Q] at j;cases j
   |some s=>
    rw[Q] at j;cases j;refine⟨[a,b,c,d,e,f,.fr (.str s.s),.fr (nm s.r),.fr (.str s.w)],?_,.inl ⟨_,_,_,.str s.s,_,rfl,rfl,rfl,.fr (.str s.s),.fr (nm s.r),.fr (.str s.w),rfl,?_,rfl,rfl,rfl⟩⟩
    .cases x4<;>first|(cases h4;done)|(cases x5<;>first|(cases h5;done)|(cases x6<;>first|(cases Y;done)|rfl))
    .rw[Vu,Q,U7,U7];rfl)
 unfold cN;rw[if_pos (by rw[UP];omega)];have e1:[a,b,c,d,e,f]++Vd 3 Sl.un=[a,b,c,d,e,f,.un,.un,.un]:=rfl;rw[e1,h1];simp
theorem Bp(h:mH b zs):dF gj [.lst (zs.map ie)] (.lst ((zs.flatMap a9).map A.str)):=by
 refine dF.of (Wp.df ?_);refine Wp.st rfl ?_;refine Wp.sq (Wp.fr (λi Z=>X2 λ(Y x3:Sl)=>X2 λ(x4 x5:Sl)=>N4 (Z=[.fr (.lst (zs.map ie)),.lv (.lst (((zs.take i).flatMap a9).map A.str)),Y,x3,x4,x5]) (np Y=true) (np x3=true) (np x4=true/\np x5=true)) rfl ⟨.un,.un,.un,.un,rfl,rfl,rfl,rfl,rfl⟩ ?_ ?_)
 .rintro i a Z ha ⟨Y,x3,x4,x5,rfl,h2,h3,h4,h5⟩;rw[UU] at ha;cases Q:zs[i]? with
  |none=>rw[Q] at ha;cases ha
  |some z=>
   rw[Q] at ha;cases ha;have hz:=(h.sz z (Vc Q)).ln;refine⟨_,Oc z h2 h3 h4 h5,?_⟩;have K:=Fh hz (.fr (.lst (zs.map ie))) (.lv (.lst (((zs.take i).flatMap a9).map A.str++[.str z.n]))) (.fr (.str z.n)) (.fr (nm z.l)) (.fr (nm z.m)) (.fr (.tup (z.f.map eN)));have e:((zs.take (i+1)).flatMap a9).map A.str=(((zs.take i).flatMap a9).map A.str++[.str z.n])++(z.f.map Sf.s).map A.str:=by rw[Vu,Q];simp[a9]
   have q:=congrArg (λl=>(l.flatMap a9).length) (VO (i+1) zs);have o:=congrArg V2 e;have r:=h.ln;simp only[Vw,UY,UP,VN] at q o;refine Wp.st (j1 rfl rfl rfl rfl (by rw[UP];omega) rfl) ?_;refine Wp.en (U:=[.fr (.lst (zs.map ie)),.lv (.lst (((zs.take (i+1)).flatMap a9).map A.str)),.fr (.str z.n),.fr (nm z.l),.fr (nm z.m),.fr (.tup (z.f.map eN))]) ?_ ⟨.inl rfl,_,_,_,_,rfl,rfl,rfl,rfl,rfl⟩;rw[e];exact kD (AK rfl (bR rfl K) (if_pos (by rw[UY,UP,UP,UP,VN];omega)))
 .rintro O ⟨Y,x3,x4,x5,rfl,_⟩;rw[UP,VS];exact⟨rfl,Wp.en rfl rfl⟩
theorem nN{n:Int}(w:Wl n o)(hn:n<2^37):X2 λx o'=>N3 (cJ cM o [] (.fr (nm x)) o') (NB 64 x) (Wl (n+3) o'):=by
 obtain⟨r,K,a,G,b1,U⟩:=tk 8 w (by omega) (by decide) (by decide)
 suffices ∃s o',cJ cM o [] s o'/\∃x,N3 (s=.fr (nm x)) (NB 64 x) (Wl (n+3) o') by obtain⟨s,o',v,x,rfl,h1,h2⟩:=this;exact⟨x,o',v,h1,h2⟩
 refine cJ.of (Wp.df ?_);refine Wp.st (bD (ag rfl (a _)) rfl) ?_;by_cases R:r=7
 .obtain⟨u,Q,l,b2,D,e2⟩:=tw (k:=17) (v:=100000000000000000) U (by omega) (by decide) (by decide) (by decide) (by decide);exact Wp.sr (cL (pE true (decide_eq_true R) rfl) (aC (Io (e2 _)) rfl)) ⟨_,_,_,rfl,rfl,_,rfl,IC (by omega),D.mono (by omega)⟩
 refine Wp.st (aY (pE false (decide_eq_false R) rfl) rfl) ?_;by_cases Y:r=6
 .obtain⟨u,Q,l,b2,D,e2⟩:=tw (k:=8) (v:=100000000) U (by omega) (by decide) (by decide) (by decide) (by decide);obtain⟨d,X,L,O,z,J⟩:=tk 100000000 D (by omega) (by decide) (by decide);exact Wp.sr (cL (pE true (decide_eq_true Y) rfl) (aC (ag (af (e2 _) (af (dA (ai rfl (ag (af rfl (af (pw 8 100000000 (by decide) (by decide) _) rfl)) (L _)) rfl) rfl) rfl)) (rg (by omega) (by omega) _)) rfl)) ⟨_,_,_,rfl,rfl,_,rfl,.gv (by omega) (show (u-100000000).natAbs<2^64 by omega) (show (1+d).natAbs<2^64 by omega),J.mono (by omega)⟩
 refine Wp.st (aY (pE false (decide_eq_false Y) rfl) rfl) ?_;by_cases h3:r > 3
 .obtain⟨u,Q,c2,l,b2,D⟩:=tk 201 U (by omega) (by decide) (by decide);obtain⟨d,X,L,O,z,J⟩:=tk 6 D (by omega) (by decide) (by decide);have h:ao (az G8 (ae 1) (aw 3)) [.pv K,.fr (.int r)]=some (.ok true,[.pv K,.fr (.int r)]):=by rw[<-decide_eq_true h3];rfl
  exact Wp.sr (cL h (aC (ag (af (ai (ag rfl (c2 _)) rfl rfl) (af (dA (ai rfl (ag rfl (L _)) rfl) rfl) rfl)) (rg (by omega) (by omega) _)) rfl)) ⟨_,_,_,rfl,rfl,_,rfl,.gv (by omega) (show (u-100).natAbs<2^64 by omega) (show (1+d).natAbs<2^64 by omega),J.mono (by omega)⟩
 have h:ao (az G8 (ae 1) (aw 3)) [.pv K,.fr (.int r)]=some (.ok false,[.pv K,.fr (.int r)]):=by rw[<-decide_eq_false h3];rfl
 obtain⟨u,Q,c2,l,b2,D⟩:=tk 9 U (by omega) (by decide) (by decide);exact Wp.st (aY h rfl) (Wp.en (aC (Io (ai (ag rfl (c2 _)) rfl rfl)) rfl) ⟨_,_,_,rfl,rfl,_,rfl,IC (by omega),D.mono (by omega)⟩)
theorem J7{n:Int}(w:Wl n o)(hn:n<2^37):X2 λr o'=>cJ iB o [.int 5] (.fr (.int r)) o'/\Wl (n+2) o':=by
 obtain⟨r,K,R,G,b1,U⟩:=tk 8 w (by omega) (by decide) (by decide)
 suffices ∃s o',cJ iB o [.int 5] s o'/\∃x,s=.fr (.int x)/\Wl (n+2) o' by obtain⟨s,o',v,x,rfl,h⟩:=this;exact⟨x,o',v,h⟩
 refine cJ.of (Wp.df ?_);have t:∀b,decide (r=1)=b->ao (az dP (aO ax (aK (ae 0) (aw 8))) (aw 1)) [.pv o,.fr (.int 5)]=some (.ok b,[.pv K,.fr (.int 5)]):=by rintro b rfl;exact aA (ai (ag rfl (R _)) rfl (iD _ _ _))
 by_cases h:r=1
 .obtain⟨u,Q,c2,_,_,D⟩:=tk 9 U (by omega) (by decide) (by decide);exact Wp.sr (cL (t true (decide_eq_true h)) (aC (ag rfl (c2 _)) rfl)) ⟨_,_,_,rfl,rfl,_,rfl,D.mono (by omega)⟩
 .obtain⟨u,Q,c2,_,_,D⟩:=tk 5 U (by omega) (by decide) (by decide);exact Wp.st (aY (t false (decide_eq_false h)) rfl) (Wp.en (aC (ag rfl (c2 _)) rfl) ⟨_,_,_,rfl,rfl,_,rfl,D.mono (by omega)⟩)
theorem Jd(h:Ok (i,j))(hi:i.natAbs<2^64)(N:j.natAbs<2^64):NB 64 (i,j):=⟨h,hi,N⟩
abbrev L8:List A:=[nm (0,1),nm (0,1),nm (1,1),nm (-1,1),nm (2,1),nm (-2,1),nm (1,3),nm (-5,7)]
theorem UH:∀r:Nat,r<9->∃q:Num,j3 L8 ((r:Int).fmod 8)=some (nm q)/\NB 64 q:=by
 intro r l;have z:NB 64 (0,1):=rL.mono (by decide)
 match r,l with
 |0,_=>exact⟨(0,1),rfl,z⟩
 |1,_=>exact⟨(0,1),rfl,z⟩
 |2,_=>exact⟨(1,1),rfl,Jd ⟨by decide,by decide⟩ (by decide) (by decide)⟩
 |3,_=>exact⟨(-1,1),rfl,Jd ⟨by decide,by decide⟩ (by decide) (by decide)⟩
 |4,_=>exact⟨(2,1),rfl,Jd ⟨by decide,by decide⟩ (by decide) (by decide)⟩
 |5,_=>exact⟨(-2,1),rfl,Jd ⟨by decide,by decide⟩ (by decide) (by decide)⟩
 |6,_=>exact⟨(1,3),rfl,Jd ⟨by decide,by decide⟩ (by decide) (by decide)⟩
 |7,_=>exact⟨(-5,7),rfl,Jd ⟨by decide,by decide⟩ (by decide) (by decide)⟩
 |8,_=>exact⟨(0,1),rfl,z⟩
abbrev Cz(o:LO)(ns:List Str)(F:List Mk)(x3 x4 x5:Sl):List Sl:=[.pv o,.fr (.lst (ns.map A.str)),.lv (.lst (F.map cZ)),x3,x4,x5]
theorem FQ{l ns:List Str}(h:l.Sublist (cD ns)):l=cD l:=
 ((cu l).symm).eq_of_pairwise (λa b _ _ h1 h2=>uo h1 h2) ((nV ns).sublist h) (nV l)
theorem KJ{n:Int}{ns:List Str}(w:Wl n o)(hn:n<2^36)(nd:ns.Nodup)(hl:ns.length<=12)(N:∀s∈ns,s.length<=30):X3 λx F o'=>N6 (cJ jR o [.lst (ns.map A.str)] (.fr (bj x F)) o') (NB 64 x) (vf F) (F.length<=12) (∀p∈F,p.1∈ns) (Wl (n+60) o'):=by
 suffices ∃s o',cJ jR o [.lst (ns.map A.str)] s o'/\X2 λx F=>N6 (s=.fr (bj x F)) (NB 64 x) (vf F) (F.length<=12) (∀p∈F,p.1∈ns) (Wl (n+60) o') by obtain⟨s,o',v,x,F,rfl,h1,h2,h3,h4,h5⟩:=this;exact⟨x,F,o',v,h1,h2,h3,h4,h5⟩
 have sl:(cD ns).length=ns.length:=(cu ns).length_eq
 have sq:bU (dg (sG bX cC) (ae 1)) (Cz o ns [] .un .un .un)=some (.ok ((cD ns).map A.str),Cz o ns [] .un .un .un):=by
  have e1:sG bX cC (.lst (ns.map A.str))=some (.nw (.lst ((cD ns).map A.str))):=by unfold sG bX;dsimp only;rw[uN];dsimp only;rw[if_pos (by omega)]
  exact hY (bq rfl (eC rfl e1)) rfl
 refine cJ.of (Wp.df (Wp.st rfl ?_))
 refine Wp.sq (Wp.fr (λi Z=>X5 λo' F x3 x4 x5=>N6 (Z=Cz o' ns F x3 x4 x5) (Wl (n+4*i) o') ((F.map (·.1)).Sublist ((cD ns).take i)) (∀p∈F,NB 64 p.2/\p.2.1≠0) (np x3=true) (np x4=true/\np x5=true)) sq ⟨o,[],.un,.un,.un,rfl,w.mono (by omega),.slnil,(λp hp=>by cases hp),rfl,rfl,rfl⟩ ?_ ?_)
 .rintro i a Z ha ⟨o',F,x3,x4,x5,rfl,S,P,hp,h3,h4,h5⟩
  rw[UU] at ha
  cases T:(cD ns)[i]? with
  |none=>rw[T] at ha;cases ha
  |some s=>
   rw[T] at ha;cases ha;have hi:=(UQ.mp T).1;have e1:(cD ns).take (i+1)=(cD ns).take i++[s]:=by rw[Vu,T];rfl
   have fl:F.length<=12:=by have:=P.length_le;rw[UP,Vh] at this;omega
   obtain⟨r,K,R,G,b1,U⟩:=tk 9 S (by omega) (by decide) (by decide);obtain⟨r,rfl⟩:∃k:Nat,r=k:=⟨r.toNat,by omega⟩
   obtain⟨q,eq,J⟩:=UH r (by omega);have H:∀Z,eW iq (.fr (.int (r:Int))) (.fr (.int 8)) Z=some (.ok (.fr (.int ((r:Int).fmod 8))),Z):=λZ=>rfl;refine⟨Cz o' ns F (.fr (.str s)) x4 x5,by cases x3<;>first|(cases h3;done)|rfl,?_⟩;refine Wp.st (aW (ag rfl (R _)) rfl rfl h4 rfl) ?_;refine Wp.st (aW (ai rfl (ai rfl rfl (H _)) (bJ (.inl rfl) eq)) rfl rfl h5 rfl) ?_;have fin:∀Q q,NB 64 q->Wl (n+4*(i+1:Nat)) Q->Wp (eS (ao (az iy (mix (ae 5) (aw 0)) (aw 0))) (bO (iJ 2 (dN 2 (aU (aK (ae 3) (ae 5)))))) aS) (Cz Q ns F (.fr (.str s)) (.fr (.int r)) (.fr (nm q))) λf Z'=>(f=.nx\/f=.ct)/\X5 λo' F x3 x4 x5=>N6 (Z'=Cz o' ns F x3 x4 x5) (Wl (n+4*(i+1:Nat)) o') ((F.map (·.1)).Sublist ((cD ns).take (i+1))) (∀p∈F,NB 64 p.2/\p.2.1≠0) (np x3=true) (np x4=true/\np x5=true):=by
    intro Q q J D;have t:ao (az iy (mix (ae 5) (aw 0)) (aw 0)) (Cz Q ns F (.fr (.str s)) (.fr (.int r)) (.fr (nm q)))=some (.ok (!decide (q.1=0)),Cz Q ns F (.fr (.str s)) (.fr (.int r)) (.fr (nm q))):=aA (ai (ai rfl rfl (bJ (.inr rfl) rfl)) rfl (by simp only[eW,res,iy,mV]));by_cases h0:q.1=0
    .rw[decide_eq_true h0] at t;exact Wp.en (aY t rfl) ⟨.inl rfl,_,F,_,_,_,rfl,D,by rw[e1];exact P.trans (List.sublist_append_left _ _),hp,rfl,rfl,rfl⟩
    .rw[decide_eq_false h0] at t;refine Wp.en (cL t (j1 rfl rfl rfl rfl (by rw[UP];omega) rfl)) ⟨.inl rfl,_,F++[(s,q)],_,_,_,by unfold Cz;rw[U7];rfl,D,?_,λp g=>?_,rfl,rfl,rfl⟩
     .rw[e1,U7];exact P.append (V3 _)
     .rcases Vb.mp g with z|z
      .exact hp p z
      .rw[Va.mp z];exact⟨J,h0⟩
   have X:∀b,decide ((r:Int)=8)=b->ao (az dP (ae 4) (aw 8)) (Cz K ns F (.fr (.str s)) (.fr (.int r)) (.fr (nm q)))=some (.ok b,Cz K ns F (.fr (.str s)) (.fr (.int r)) (.fr (nm q))):=by rintro b rfl;exact aA (ai rfl rfl (iD _ _ _))
   by_cases c:(r:Int)=8
   .obtain⟨E,Q,I,V,D⟩:=nN U (by omega);exact Wp.st (cL (X true (decide_eq_true c)) (aW (ag rfl (Hr I rfl _)) rfl rfl rfl rfl)) (fin Q E V (D.mono (by omega)))
   .exact Wp.st (aY (X false (decide_eq_false c)) rfl) (fin K q J (U.mono (by omega)))
 .rintro O ⟨o',F,x3,x4,x5,rfl,S,P,hp,h3,h4,h5⟩
  rw[UP] at S P
  rw[VS] at P
  obtain⟨x,Q,I,V,D⟩:=nN S (by omega)
  have fl:F.length<=12:=by have:=P.length_le;rw[UP] at this;omega
  have fi:∀p∈F,p.1∈ns:=λp hp=>(cu ns).mem_iff.mp (P.subset (Wd hp))
  refine⟨rfl,Wp.en (aC (cR (af (ag rfl (Hr I rfl _)) (af (bq rfl rfl) rfl)) rfl) rfl) ⟨_,Q,_,rfl,rfl,x,F,rfl,V,⟨⟨λp h=>(hp p h).1,(((cu ns).nodup_iff).mpr nd).sublist P,by omega,λp h=>Vg (N _ (fi p h)) (by decide)⟩,FQ P,λp h=>(hp p h).2⟩,fl,fi,D.mono (by omega)⟩⟩
theorem BA:∀{xs ys:List Str},xs.Nodup->(∀x∈xs,x∈ys)->xs.length<=ys.length
 |[],_,_,_=>VM _
 |x::xs,ys,nd,h=>by obtain⟨E,D⟩:=Vn.mp nd;have y:=h x (.head _);have j:=BA (ys:=ys.erase x) D λu f=>(List.mem_erase_of_ne λz=>E (by rw[<-z];exact f)).mpr (h u (UW _ f));rw[List.length_erase_of_mem y] at j;have:=List.length_pos_of_mem y;rw[US];omega
noncomputable def Pb(j:Nat):Str:=Txt.mul "zz" (1+(j:Int))
def EH:List Str:=(Vo 15).map Pb
theorem QL:EH.Nodup:=by decide +kernel
theorem Pj:∀s∈EH,s.length<=30:=by decide +kernel
theorem JL:EH.length=15:=by unfold EH;rw[UP,WL]
theorem Em(p:Str->Bool):∀l:List Str,(l.filter p).length+(l.filter λs=>!p s).length=l.length
 |[]=>rfl
 |s::l=>by have:=Em p l;rw[Yu,Yu];cases p s<;>simp only[Y4,Bool.not_false,W6,if_true,if_false,US]<;>omega
theorem S9{ns:List Str}(h:ns.length<=12):3<=(EH.filter λs=>!decide (s∈ns)).length:=by
 have a:=BA (xs:=EH.filter λs=>decide (s∈ns)) (QL.sublist ZH) λs P=>by simpa using (VZ.mp P).2
 have b:=Em (λs=>decide (s∈ns)) EH;have c:=JL;omega
theorem GG(hl:S.length=11):cA 1 (fz (aw 15)) (aH 11) bw (az br (mC (.str "zz")) (az aX (aw 1) (ae 11))) S=some (.ok (.nw (.lst (EH.map A.str))),S):=by
 have k:=comp_map (e:=az br (mC (.str "zz")) (az aX (aw 1) (ae 11))) (as:=cU 0 15) (gI Pb) hl (by rw[mZ];decide) (by
  intro a ha;obtain⟨j,N,rfl⟩:=mR ha;have c:ae 11 (S++[.fr (.int (j:Int))])=some (.ok (.fr (.int (j:Int))),S++[.fr (.int (j:Int))]):=by rw[IE,Vv (by omega),hl,Yp];rfl
  have ho:∀Z,eW br (.fr (.str "zz")) (.fr (.int (1+(j:Int)))) Z=some (.ok (.fr (.str (Pb j))),Z):=λZ=>by have e:xK (.str "zz") (.int (1+(j:Int)))=some (.fr (.str (Pb j))):=if_pos ⟨by omega,by omega,by decide +kernel⟩;unfold eW br dJ;dsimp only [res];rw[show uJ (.str "zz") (.int (1+(j:Int)))=none from rfl];dsimp only;rw[e]
  exact⟨.fr (.str (Pb j)),ai rfl (ai rfl c rfl) (ho _),rfl⟩)
 rw[sx] at k;exact bR (nO rfl rfl) k
theorem tQ:∀P:List Mk,lG (P.map cZ)=some (P.map (·.1))
 |[]=>rfl
 |p::P=>by rw[U3,cZ,nm,lG,tQ P];rfl
def vx(P:List Mk):List Mk:=(du (P.map (·.1))).map λi=>P.getD i ("",(0,1))
theorem map_getD(d:α)(l:List α):(Vo l.length).map (λi=>l.getD i d)=l:=by
 apply List.ext_getElem
 .simp
 .intro i h1 h2;simp[h2]
theorem uR(P:List Mk):(vx P).Perm P:=by have h:=(iR (P.map (·.1))).map λi=>P.getD i ("",(0,1));rw[UP,map_getD] at h;exact h
theorem CN(nd:(P.map (·.1)).Nodup)(hl:P.length<64)(Z:List Sl):OF fh (.fr (.tup (P.map cZ))) Z=some (.ok (.nw (.lst ((vx P).map cZ))),Z):=by
 refine eC rfl ?_;unfold fh;dsimp only;rw[tQ];dsimp only;rw[if_pos ⟨by rw[UP];exact hl,nd⟩]
 congr 3
 unfold vx;rw[Vr];refine V1 λi hi=>?_;have hi:=(iR _).mem_iff.mp hi;rw[XQ,UP] at hi;show _=cZ (P.getD i ("",(0,1)));simp[hi]
theorem iw.bad{s:Str}(h:iw F)(c:F.length<=12)(P:∀p∈F,p.1≠s)(j:NB 64 q)(hl:s.length<=1000):iw (vx (F++[(s,q)]))/\((F++[(s,q)]).map (·.1)).Nodup:=by
 have pm:=uR (F++[(s,q)]);have nd:((F++[(s,q)]).map (·.1)).Nodup:=by
  rw[U7];refine U8.mpr ⟨h.nd,by simp,λa ha b d=>?_⟩;obtain⟨p,hp,rfl⟩:=Vj.mp ha;have:b=s:=by simpa using d
  rw[this];exact P p hp
 refine⟨⟨λp hp=>?_,((pm.map (·.1)).nodup_iff).mpr nd,?_,λp hp=>?_⟩,nd⟩
 .rcases Vb.mp (pm.mem_iff.mp hp) with z|z
  .exact h.nb p z
  .rw[Va.mp z];exact j
 .rw[pm.length_eq,UY,VN];omega
 .rcases Vb.mp (pm.mem_iff.mp hp) with z|z
  .exact h.lg p z
  .rw[Va.mp z];exact hl
theorem Ob{f:Ms}{as:List A}(h:cJ f o as s o')(l:pD s=some r):∀a Z,d9 f [] (.rf 1::as.map Rr.fr) (a::.lv o::Z)=some (.ok r,a::.lv o'::Z):=λa Z=>xX h l rfl
abbrev LW(sc:A)(o:LO)(zs:List Sz)(x3 x4 x5 x6 x7 x8 x9 I:Sl):List Sl:=[.fr sc,.lv o,.fr (.lst (zs.map ie)),x3,x4,x5,x6,x7,x8,x9,I]
theorem UD{n:Int}(m:Int)(w:Wl n o)(hn:n<2^40)(g:0<m)(V:m<2^64):X2 λr o'=>N4 (∀a Z,d9 ax [] [.rf 1,.fr (.int m)] (a::.lv o::Z)=some (.ok (.fr (.int r)),a::.lv o'::Z)) (0<=r) (r<m) (Wl (n+1) o'):=by obtain⟨r,o',h,h1,h2,h3⟩:=Bc w hn g V;exact⟨r,o',Ob h rfl,h1,h2,h3⟩
theorem Sb{c i:Nat}{a:A}(h:(cU 1 c)[i]?=some a):i<c/\a=.int (1+(i:Int)):=by
 unfold cU at h;rw[UU] at h;by_cases hi:i<c
 .rw[Wz hi] at h;exact⟨hi,(U1 h).symm⟩
 .rw[WU (by rw[WL];omega)] at h;cases h
theorem Sw(F:List Mk)(p:Mk)(hl:F.length<=12)(Z:List Sl):eW aX (.fr (.tup (F.map cZ))) (.fr (.tup [cZ p])) Z=some (.ok (.fr (.tup ((F++[p]).map cZ))),Z):=by
 have e:tF (.tup (F.map cZ)) (.tup [cZ p])=some (.fr (.tup ((F++[p]).map cZ))):=by unfold tF;dsimp only;rw[if_pos (by rw[UP,VN];omega),U7];rfl
 unfold eW aX dJ;dsimp only [res];rw[show wV (.tup (F.map cZ)) (.tup [cZ p])=none from rfl,show xt (.tup (F.map cZ)) (.tup [cZ p])=none from rfl];dsimp only;rw[e]
theorem Hu{ns:List Int}{sc:A}{I:Sl}(c:A.lst (ns.map A.int)=sc)(h:Row zs)(P:0<=i)(E:i<=1000)(h3:x3=.lv (.obj "Stock" (EL zs))\/x3=.fr (gz zs))(h4:x4=.lv (.lst ((zs.flatMap a9).map A.str))\/x4=.fr (.lst ((zs.flatMap a9).map A.str)))(Y:np x6=true)(u:np x7=true)(B:np x8=true)(O:np x9=true)(D:np I=true):
  Wp T7 (LW sc o zs x3 x4 (.fr (.int i)) x6 x7 x8 x9 I) λf Z=>f=.nx/\X5 λo' z g C v=>∃G,N6 (np z=true) (np g=true) (np C=true) (np v=true) (np G=true) (Z=LW sc o' zs (.fr (gz zs)) (.fr (.lst ((zs.flatMap a9).map A.str))) (.fr (.int i)) z g C v G):=by
 obtain⟨o1,L,n⟩:=Dk ns i P E;rw[c] at L;obtain⟨x,F,Q,V,nx,K,T,hm,N⟩:=KJ n (by decide) h.nd h.ln λs d=>(h.st.ns s d).hi;have l:=xb h K hm nx;obtain⟨r,o3,j,a3,b3,w3⟩:=UD 3 N (by decide) (by decide) (by decide);obtain⟨q,R,v4,J,w4⟩:=nN w3 (by decide);have hz:=S9 h.ln;obtain⟨y,hy,ey⟩:=Lf (ss:=EH.filter λs=>!decide (s∈zs.flatMap a9)) a3 (by omega);obtain⟨y1,H⟩:=VZ.mp hy;have H:y∉zs.flatMap a9:=by simpa using H
 have fin:∀q:Num,NB 64 q->q.1≠0->Wp (ay (aG 9 (aU (aK (mix (ae 6) (aw 0)) (dg fB (dg fh (az aX (mix (ae 6) (aw 1)) (aU (gw (aU (aK (ae 7) (ae 8))))))))))) (dm (fz (aw 4)) (aH 10) (EK (gQ (ao (aO fw (mT (aj 10) (aj 3) (aj 9)))))))) (LW sc R zs (.fr (gz zs)) (.fr (.lst ((zs.flatMap a9).map A.str))) (.fr (.int i)) (.fr (bj x F)) (.fr (.str y)) (.fr (nm q)) x9 I) λf Z=>f=.nx/\X5 λo' z g C v=>∃G,N6 (np z=true) (np g=true) (np C=true) (np v=true) (np G=true) (Z=LW sc o' zs (.fr (gz zs)) (.fr (.lst ((zs.flatMap a9).map A.str))) (.fr (.int i)) z g C v G):=by
  intro q J X;obtain⟨hb,nb⟩:=K.fc.bad T (λp hp e=>H (by rw[<-e];exact hm p hp)) J (Vg (Pj y y1) (by decide));have m:∃p∈vx (F++[(y,q)]),p.1∉zs.flatMap a9/\p.2.1≠0:=⟨(y,q),(uR _).mem_iff.mpr (by simp),H,X⟩
  refine Wp.st (aW (cR (af (ai rfl rfl (bJ (.inr rfl) rfl)) (af (bq (bq (ai (ai rfl rfl (bJ (.inr rfl) rfl)) (cR (af (cR rfl rfl) rfl) rfl) (Sw F (y,q) T _)) (CN nb (by rw[UY,VN];omega) _)) rfl) rfl)) rfl) rfl rfl O rfl) ?_;refine Wp.RL (cU 0 4) (λZ=>∃G,np G=true/\Z=LW sc R zs (.fr (gz zs)) (.fr (.lst ((zs.flatMap a9).map A.str))) (.fr (.int i)) (.fr (bj x F)) (.fr (.str y)) (.fr (nm q)) (.fr (bj x (vx (F++[(y,q)])))) G) rfl ⟨I,D,rfl⟩ ?_ ?_
  .rintro a ha Z ⟨G,w,rfl⟩;obtain⟨k,hk,rfl⟩:=mR ha;exact⟨LW sc R zs (.fr (gz zs)) (.fr (.lst ((zs.flatMap a9).map A.str))) (.fr (.int i)) (.fr (bj x F)) (.fr (.str y)) (.fr (nm q)) (.fr (bj x (vx (F++[(y,q)])))) (.fr (.int k)),by cases G<;>first|(cases w;done)|rfl,Wp.en (aY (cS (aA (ag rfl (av (zO (BE h hb nx m (by omega) (by omega))) _)))) rfl) ⟨.inl rfl,_,rfl,rfl⟩⟩
  .rintro Z ⟨G,w,rfl⟩;exact⟨rfl,R,_,_,_,_,_,rfl,rfl,rfl,rfl,w,rfl⟩
 have k7:=rF (S:=LW sc Q zs (.fr (gz zs)) (.fr (.lst ((zs.flatMap a9).map A.str))) (.fr (.int i)) (.fr (bj x F)) (.fr (.lst (EH.map A.str))) x8 x9 I) (t:=ao (az (qb true) (ae 11) (ae 4))) (e:=ae 11)
  A.str A.str (λs=>!decide (s∈zs.flatMap a9)) rfl (by rw[JL];decide) (λs _=>⟨aA (ai rfl rfl (Bu true rfl)),λ_=>⟨.fr (.str s),rfl,rfl⟩⟩)
 refine Wp.st (aW (ag rfl (bQ L _)) rfl rfl rfl rfl) ?_;refine Wp.st (U:=LW sc Q zs x3 (.fr (.lst ((zs.flatMap a9).map A.str))) (.fr (.int i)) (.fr (bj x F)) x7 x8 x9 I) (by rcases h4 with rfl|rfl<;>exact aW (ag rfl (Ob V rfl _ _)) rfl rfl Y rfl) ?_;refine Wp.st (U:=LW sc Q zs (.fr (gz zs)) (.fr (.lst ((zs.flatMap a9).map A.str))) (.fr (.int i)) (.fr (bj x F)) x7 x8 x9 I) (by rcases h3 with rfl|rfl<;>exact aY (cS (b:=true) (aA (ag rfl (av l _)))) rfl) ?_;refine Wp.st (aW (GG rfl) rfl rfl u rfl) ?_;refine Wp.st (aW (ai (bR (hY rfl rfl) k7) (ag rfl (j _ _)) (bJ (.inl rfl) ey)) rfl rfl rfl rfl) ?_;refine Wp.st (aW (ag rfl (Ob v4 rfl _ _)) rfl rfl B rfl) ?_;have t:∀b,decide (q.1=0)=b->ao (az dP (mix (ae 8) (aw 0)) (aw 0)) (LW sc R zs (.fr (gz zs)) (.fr (.lst ((zs.flatMap a9).map A.str))) (.fr (.int i)) (.fr (bj x F)) (.fr (.str y)) (.fr (nm q)) x9 I)=some (.ok b,LW sc R zs (.fr (gz zs)) (.fr (.lst ((zs.flatMap a9).map A.str))) (.fr (.int i)) (.fr (bj x F)) (.fr (.str y)) (.fr (nm q)) x9 I):=by rintro b rfl;exact aA (ai (ai rfl rfl (bJ (.inr rfl) rfl)) rfl (iD _ _ _))
 by_cases X:q.1=0
 .exact Wp.st (cL (t true (decide_eq_true X)) (aW rfl rfl rfl rfl rfl)) (fin (1,1) (Jd ⟨by decide,by decide⟩ (by decide) (by decide)) (by decide))
 .exact Wp.st (aY (t false (decide_eq_false X)) rfl) (fin q J X)
theorem law_true:∀ns:List Int,ns.length<=63->∃Z,oF.M [.fr (.lst (ns.map A.int))]=some (.rt (.fr (.bl true)),Z):=by
 intro ns y;show ∃Z,IS [.fr (.lst (ns.map A.int))]=some (.rt (.fr (.bl true)),Z);generalize c:A.lst (ns.map A.int)=sc;obtain⟨t,l,t1,t2⟩:∃t:Int,N3 (∀Z,EE Bo (aw 2) (EE Cj (dg kl (ae 0)) (aw 9)) (.fr sc::Z)=some (.ok (.fr (.int t)),.fr sc::Z)) (2<=t) (t<=9):=by
  subst c;refine⟨if (if (9:Int)<((ns.map A.int).length:Int) then 9 else ((ns.map A.int).length:Int)) > 2 then (if (9:Int)<((ns.map A.int).length:Int) then 9 else ((ns.map A.int).length:Int)) else 2,λZ=>?_,?_,?_⟩
  .rfl
  ·(repeat' split)<;>omega
  ·(repeat' split)<;>omega
 have Q:∀Z,uq (aw 1) (EE Bo (aw 2) (EE Cj (dg kl (ae 0)) (aw 9))) (.fr sc::Z)=some (.ok (cU 1 (t-1).toNat),.fr sc::Z):=λZ=>by unfold uq aF;simp only[M.Uv,l,res];rw[if_pos (by omega)]
 suffices Wp IS [.fr sc] λg _=>g=.rt (.fr (.bl true)) by obtain⟨f,Z,e,rfl⟩:=this;exact⟨Z,e⟩
 obtain⟨o,L,U⟩:=Dk ns 0 (by decide) (by decide);rw[c] at L;obtain⟨r,o1,J,N⟩:=J7 U (by decide);obtain⟨zs,o2,v,E,T,b,_,u⟩:=Co (K:=12) (by decide) (by decide) (many:=r) N (by decide);have h:mH 121 zs:=⟨E,by omega⟩
 have X:Row zs:=⟨h,b,T⟩
 obtain⟨o3,B,w4⟩:=NJ u (by decide) h (by decide) (by decide);have mk:∀Z,kH "Stock" cF [] [.nw (.lst (zs.map d5))] Z=some (.ok (.nw (.obj "Stock" (EL zs))),Z):=λZ=>by have k:=Q4 h b (by decide) (by decide);unfold kH;simp only[V8,Vz,cg,take1,LO.a,U3,sH,k];rfl
 have w:Row []:=⟨⟨(λz hz=>by cases hz),by decide⟩,.nil,by decide⟩
 have m:∀Z,kH "Stock" cF [] [.fr (.lst (([]:List Sz).map d5))] Z=some (.ok (.nw (.obj "Stock" (EL []))),Z):=λZ=>Hi (as:=[.lst []]) (Q4 w.st .nil (by decide) (by decide)) Z;have H:=xb (x:=(3,7)) w (F:=[]) ⟨⟨(λq j=>by cases j),.nil,by decide,λq j=>by cases j⟩,(by decide +kernel),λp hp=>by cases hp⟩ (λp hp=>by cases hp) (Jd ⟨by decide,by decide⟩ (by decide) (by decide));refine Wp.df ?_;refine Wp.st (bD (ag rfl (bQ L _)) rfl) ?_;refine Wp.st (bD (ag (af rfl (af (ag rfl (Ob J rfl _ _)) rfl)) (Ob v rfl _ _)) rfl) ?_;refine Wp.st (bD (jn (af (ag rfl (Ob B rfl _ _)) rfl) (mk _)) rfl) ?_;refine Wp.st (bD (ag rfl (bQ (Bp h) _)) rfl) ?_;refine Wp.sq (Wp.fr (λ_ Z=>X5 λo x3 x4 x5 x6=>X2 λx7 x8=>X2 λx9 I=>N6 (Z=LW sc o zs x3 x4 x5 x6 x7 x8 x9 I) (x3=.lv (.obj "Stock" (EL zs))\/x3=.fr (gz zs)) (x4=.lv (.lst ((zs.flatMap a9).map A.str))\/x4=.fr (.lst ((zs.flatMap a9).map A.str))) (np x5=true) (np x6=true) (N4 (np x7=true) (np x8=true) (np x9=true) (np I=true))) (Q _) ⟨_,_,_,_,_,_,_,_,_,rfl,.inl rfl,.inl rfl,rfl,rfl,rfl,rfl,rfl,rfl⟩ ?_ ?_)
 .rintro i a Z ha ⟨o,x3,x4,x5,x6,x7,x8,x9,I,rfl,h3,h4,h5,Y,R,C,s,D⟩;obtain⟨hi,rfl⟩:=Sb ha;refine⟨LW sc o zs x3 x4 (.fr (.int (1+(i:Int)))) x6 x7 x8 x9 I,by cases x5<;>first|(cases h5;done)|rfl,?_⟩;refine Wp.mono (Hu c X (by omega) (by omega) h3 h4 Y R C s D) ?_;rintro f Z ⟨rfl,o',y6,y7,y8,y9,S,n,V,P,d,G,rfl⟩;exact⟨.inl rfl,_,_,_,_,_,_,_,_,_,rfl,.inr rfl,.inr rfl,rfl,n,V,P,d,G⟩
 .rintro O ⟨o,x3,x4,x5,x6,x7,x8,x9,I,rfl,_⟩;exact⟨rfl,Wp.en (aC (ag (af rfl (af (dA (jn (af rfl rfl) (m _)) rfl) (af rfl rfl))) (av H _)) rfl) rfl⟩
end W
set_option maxHeartbeats 4000000
theorem PySem.Challenge.cw_fitwhatever_k11_least_and_most_holds : PySem.Challenge.rw_fitwhatever_k11_least_and_most.Holds :=
 W.fin W.law_true
#print axioms PySem.Challenge.cw_fitwhatever_k11_least_and_most_holds
