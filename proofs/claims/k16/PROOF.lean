import PyProof.Rows.All
import Wide.All
import OpenK.AllK
import Wide.FinOn
import Lean
import PyProof.EqAt
import PyProof.EqKinds
import PyProof.TupleCall
import PyProof.StrLaws
import PySem.Challenge.RW_fitwhatever_k16_parts_moved
set_option genSizeOf false
set_option genInjectivity false
set_option bootstrap.genMatcherCode false
set_option compiler.extract_closed false
open Bool renaming and_eq_true->Sn,not_eq_true'->S7,false_ne_true->Tg,or_eq_true->TR,and_true->UY,and_false->U7,eq_iff_iff->Vv,beq_eq_decide_eq->VA,false_and->VE,and_eq_true_iff->Xa,eq_false_iff->Xp,false_or->XY,true_and->X0
open PySem.W renaming Frag->So,findIn->Tz,emptyDict->TK,kitOne->TQ,keepIn->TV,instObj->T5,plainGet->UP,hasDictIn->U6,methodCall_KW->Vl,lookIn->Vr,codeIn->Vt,plainGet_of->VC,callWith_K->VG,methodObj->VI,isFn->VL,plainOver->VM,fnOf->VO,kitx_list->VS,kitx_dict->VT,takerIn->V7,makesIn->V8,cellsFrom_some->WA,nsIn->WG,kitx_tuple->W3,handedIn->Xc,OpenLaw->Xl,WalkO->XB,Hook->XJ
open List renaming mem_append_right->Sr,length_map->Ss,mem_append->Su,mem_append_left->Sv,append_assoc->Sw,mem_singleton->Sx,getElem?_eq_some_iff->Sy,size_toArray->SD,mem_cons_of_mem->SE,length_cons->SF,length_append->SI,map_append->SJ,mem_cons_self->SN,mem_cons->SO,nodup_append->SQ,map_cons->SR,getElem?_eq_getElem->SU,getElem?_map->SV,lookup_cons->SX,mem_of_getElem?->SY,replicate->S0,all_cons->S2,getElem?_set_self->S3,take_append_of_le_length->S5,getElem?_append_right->S6,nodup_cons->S8,take_length->S9,mem_map->Ta,getElem?_set_ne->Td,all_eq_true->Tf,getElem?_append_left->Th,drop_eq_getElem_cons->Ti,map_map->Tj,append_nil->Tp,find?_cons->Ts,length_take->Tw,getD_eq_getElem?_getD->TL,getElem_mem->TY,any_eq_true->TZ,pairwise_map->T7,range->T9,map_congr_left->Uc,mem_map_of_mem->Ud,all_nil->Uh,map_singleton->Ui,mem_filter->Uk,any_cons->Um,length_singleton->Up,take_append_drop->Ur,take_add_one->Ut,cons_append->Ux,isEmpty_iff->Uy,sublist_append_right->Uz,nil_append->UB,pairwise_cons->UC,zip_cons_cons->UD,mem_range->UG,take_sublist->UH,map_nil->UI,ext_getElem?->UJ,reverse_cons->UK,filter_eq_nil_iff->UL,all->UM,take_zero->UN,perm_append_comm->UT,length_filter_le->UU,lookup->UZ,length->U0,length_nil->U1,filterMap_cons->U2,getElem?_range->U3,perm_iff_count->U4,count_append->Vb,getElem?_take_of_lt->Vd,drop_length->Vi,perm_middle->Vj,of_mem_zip->Vs,getElem?_eq_none->Vx,set_append_right->Vz,contains_iff_mem->VB,mem_of_mem_take->VF,getElem_of_mem->VH,mem_filterMap->VW,any_eq_false->V0,all_map->V1,length_range->V2,flatMap_cons->V3,not_lt->Wf,eq_nil_of_length_eq_zero->Wg,map_id->Wh,take_left->Wy,drop_zero->Wz,getElem?_eq_none_iff->WD,eq_of_mem_replicate->WO,getElem?_replicate->WR,take_of_length_le->WY,length_replicate->WZ,eq_nil_or_concat->W7,concat_eq_append->W8,flatMap_append->Xg,countP_append->Xk,lookup_append->Xm,find?_eq_none->Xn,length_drop->Xs,countP_cons->Xx,le_antisymm->Xy,map_reverse->Xz,getElem_zip->XA,filter_cons->XD,forIn_cons->XF,foldl_cons->XG,append_inj->XH,map->XU,drop_nil->X1,foldl->YV
open PySem.Heap renaming get?_push_of_some->SA,lt_size->SS,get?_push_size->S1,SameBut->Vp,get?_none_of_le->VD,size_push->Wt,get?_update_other->WU
open Nat renaming lt_of_lt_of_le->SH,le_refl->SK,le_trans->SW,ne_of_lt->S4,lt_irrefl->TB,pow_le_pow_right->TJ,zero_le->TM,le_of_ble_eq_true->TN,add_sub_cancel_left->TU,le_add_right->Ug,lt_of_le_of_lt->UE,le_of_lt->UO,ble->U5,le_succ->Vc,lt_succ_self->Vk,mul_le_mul_left->VU,le_of_eq->V9,lt_succ_of_lt->Wa,min_self->W2,sub_zero->W6,mul_one->Xf,le_max_right->XE,succ_ne_zero->XI,le_max_left->XN,le_add_left->XQ,ne_of_gt->Yc,zero_add->Yo,sub_self->Yp,log2_lt->Yu,sub_le->Y1,mod_lt->Y3
open Option.some renaming inj->SM,injEq->Y2
open PySem.Value renaming ref->Te,builtin->Va,str->V6,none->Wm,int->WK,bool->Xb,isStrOf->XM,isInt->X4,bytes->X6,float->X7,type->Yb
open Int renaming gcd->Tn,gcd_pos_of_ne_zero_right->Uo,mul_fdiv_cancel_left->UA,fmod_nonneg_of_pos->UQ,gcd_dvd_right->Ve,mul_ne_zero->Vy,lt_or_gt_of_ne->VY,fmod_lt_of_pos->VZ,mul_comm->Wb,gcd_dvd_left->We,natAbs_mul->WC,fmod_eq_emod_of_nonneg->WI,gcd_comm->W5,natAbs_dvd_natAbs->W9,one_mul->Xh,gcd_zero_right->Xq,toNat_natCast->XC,emod_nonneg->XO,lt_or_le->Yl,le_of_lt->Ym,neg_dvd->Yv,neg_gcd->Yw,neg_mul->YX
open PySem.Builtin.Str renaming strSliceIndices->To,occurrences->TF,glued->TH,tooLong->Vo
open Sum renaming inr->Tu,inl->V5
open Array renaming length_toList->Tv,getElem?_toList->UR,toArray_toList->W4,toList_inj->Xr,toList->XX
open PyProof.Rows renaming slot_tuple_getitem->Tx,sortedS->Vf,callWith_type1->VJ,risingS->Wi,callWith_builtin1->Ys,tuple_addW0->Yx,ltCps_eq->Yy,strKind->Yz,list_addW->YB,envOfC->YU
open Option renaming isNone_iff_eq_none->TC,isSome_map->VX,getD_none->Xj
open PySem.Txt renaming slice->T4
open Ne renaming symm->T6
open False renaming elim->T8
open PySem.F renaming plainAttrs_list->Ua,args_tuple_add_2->U8,entry_tuple_add->U9,slot_tuple_add->Vg,slot_tuple_getattribute->Vh,slot_dict_get->Vn,slot_list_append->Wo,type_list_append->Wq,slot_list_extend->Wr,args_dict_get_3->Wv,entry_dict_get->WB,plainAttrs_str->WH,excAttr_ValueError->Xo
open PySem renaming mem_of_lookup->Ub,Str->WJ,Within->WQ,call->Xe
open List.Sublist renaming refl->Ue,append->Uq,countP_le->YW
open Except renaming ok->Uj
open PySem.Builtin.Slice renaming slicePlaces->Ul,sliceAdjust->UX,sliceApplied->VP,slicePartIndex->Yh,sliceFields->Yi
open PySem.Builtin.Tuple renaming tupleExact->Us,tupleItemsOf->VQ,tupleIsExact->Yn
open PySem.Builtin.List renaming listTooLong->Uu
open ForInStep renaming yield->Uv
open PySem.NameKind renaming free->Uw
open PySem.SeqAt renaming EqAt->US,notIn_listAt->Xd,in_listAt->Xu
open True renaming intro->UW
open PySem.Calls renaming callWith_builtin->Vm,spliced_cons->VN,Name_function_global->Wn,call_function_entry->Wx,evalArgs_plain->W0,spliced_nil->Xi
open Sum.inr renaming inj->Vq
open PySem.Obj renaming mapSeq->Vu
open Rat renaming intCast_lt_intCast->Vw,divInt->WE,divInt_eq_divInt_iff->WS,divInt_eq_div->Xw,intCast_inj->XR,intCast_mul->XT
open Prod renaming fst->V4,ext->Wu
open PySem.Builtin.Dict renaming updateFrom->Wc,addKeywords->YC,pairItems->YD,selfAndRest->YE
open PySem.AutoSeq1 renaming wpAny_loadPart'->Wj
open PySem.Paired renaming length->Ws,snoc->XZ
open PySem.Builtin.Int renaming intBits->Ww
open PySem.SeqAt.EqAt renaming int_str->WL,str_int->WM
open PySem.Around renaming under->WN,under_plainId->WX
open PySem.Code renaming isFrame->WT,frames->Yg
open PySem.Heap.DictOf renaming new->WV
open PySem.Spec renaming ltCps->WW
open PySem.Builtin.ObjectAttr renaming bindTo->Xv
open PySem.W.SharedT renaming abs->XW
open PySem.Heap.IsSliceOf renaming new->X8
open PySem.W.WShape renaming has->X9
open PySem.Builtin.Range renaming rangeSize->Yd
open PySem.W.Looks renaming here->Ye
open PySem.Str renaming ofString->Yj,length->YZ
open List.Pairwise renaming nil->Yk,imp_of_mem->Yq
open PySem.Within renaming cons->Yr
open PySem.W.WData renaming int->Yt
open PySem.Str.mk renaming injEq->YA
open PySem.W.Fast renaming tw11892475500146522536->YF,tw14364793385576792824->YG,tw6613529449190102663->YH,tw10156331382660048174->YI,tw10274390034422433532->YJ,tw14289696077712309145->YK,tw4187177175401517315->YL,te11892475500146522536->YM,te14364793385576792824->YN,te6613529449190102663->YO,te10156331382660048174->YQ,te10274390034422433532->YR,te14289696077712309145->YS,te4187177175401517315->YT
open PySem.Flow renaming next->YY
open Nat.Coprime renaming dvd_of_dvd_mul_left->Y0
set_option Elab.async false
set_option linter.all false
set_option maxRecDepth 100000
abbrev iw(x:WJ):Prop:=(x==("__debug__" : WJ))=false
abbrev sv(x:WJ):Prop:=(x==("__classdict__" : WJ))=false
noncomputable section
namespace L2
open PySem PySem.Spec PyProof.Rows
noncomputable abbrev Key:=Sum Int Str
noncomputable def oF:Key->Value->Bool
 | .inl k,v=>X4 k v
 | .inr x,v=>XM x v
noncomputable def Qj(w:World):Key->Int
 | .inl k=>hashInt k
 | .inr x=>hashStr w x
theorem bN:∀{k:Key}{v:Value},oF k v=true->(∃i t,k=V5 i/\v=WK i t)\/(∃x t,k=Tu x/\v=V6 x t)
 | .inl i,v,h=>by obtain⟨t,e⟩:=Value.isInt_shape (k:=i) (v:=v) h;exact .inl ⟨i,t,rfl,e⟩
 | .inr x,v,h=>by obtain⟨t,e⟩:=Value.isStrOf_shape (x:=x) (v:=v) h;exact .inr ⟨x,t,rfl,e⟩
theorem xK(i:Int)(t:Tok):oF (.inl i) (.int i t)=true:=by simp[oF,X4]
theorem xZ(x:Str)(t:Tok):oF (.inr x) (.str x t)=true:=by simp[oF,XM]
theorem Jq(a b:Int):decide ((V5 a:Key)=V5 b)=(a==b):=by
 by_cases e:a=b
 .subst e;simp
 .have h:¬ (V5 a:Key)=V5 b:=λq=>e (V5.inj q);rw[decide_eq_false h];exact(beq_eq_false_iff_ne.mpr e).symm
theorem Kp(a b:Str):decide ((Tu a:Key)=Tu b)=decide (a=b):=by
 by_cases e:a=b
 .subst e;simp
 .have h:¬ (Tu a:Key)=Tu b:=λq=>e (Vq q);rw[decide_eq_false h,decide_eq_false e]
theorem Iw(a:Int)(b:Str):decide ((V5 a:Key)=Tu b)=false:=decide_eq_false (λq=>nomatch q)
theorem Jb(a:Str)(b:Int):decide ((Tu a:Key)=V5 b)=false:=decide_eq_false (λq=>nomatch q)
def aX(prog:Program)(w:World):PySem.KeyKind prog w Key where
 is:=oF
 hash:=Qj w
 inj:=λv a b ha d=>by
  rcases bN ha with ⟨i,t,rfl,rfl⟩|⟨x,t,rfl,rfl⟩
  .rcases bN d with ⟨j,u,rfl,e⟩|⟨y,u,rfl,e⟩
   .injection e with e1 _;rw[e1]
   .exact nomatch e
  .rcases bN d with ⟨j,u,rfl,e⟩|⟨y,u,rfl,e⟩
   .exact nomatch e
   .injection e with e1 _;rw[e1]
 byValue:=λk v h=>by rcases bN h with ⟨i,t,rfl,rfl⟩|⟨x,t,rfl,rfl⟩<;>rfl
 pyHash:=λc h=>by
  rcases bN c with ⟨i,t,rfl,rfl⟩|⟨x,t,rfl,rfl⟩
  .exact wpAny_pyHash_int h
  .exact wpAny_pyHash_str h
 eqBool:=λf c h=>by
  rcases bN f with ⟨i,t,rfl,rfl⟩|⟨x,t,rfl,rfl⟩
  .rcases bN c with ⟨j,u,rfl,rfl⟩|⟨y,u,rfl,rfl⟩
   .rw[Jq] at h;exact wpAny_eqBool_int h
   .rw[Iw] at h;exact WL i t y u _ _ _ _ h
  .rcases bN c with ⟨j,u,rfl,rfl⟩|⟨y,u,rfl,rfl⟩
   .rw[Jb] at h;exact WM x t j u _ _ _ _ h
   .rw[Kp] at h;exact wpAny_eqBool_str h
 «strs»:=λk x t v h=>by
  rcases bN h with ⟨i,u,rfl,e⟩|⟨y,u,rfl,e⟩
  .exact nomatch e
  .injection e with e1 _;subst e1;cases v<;>rfl
theorem sU(prog:Program)(w:World)(i:Int)(t:Tok):(aX prog w).is (.inl i) (.int i t)=true:=xK i t
theorem sL(prog:Program)(w:World)(x:Str)(t:Tok):(aX prog w).is (.inr x) (.str x t)=true:=xZ x t
inductive V where
 |non|bl(b:Bool)|int(i:Int)|str(x:Str)|byt(b:Array UInt8)|flt(b:UInt64)|ref(a:Addr)|ty(n:String)
 deriving DecidableEq
def RelV:V->Value->Prop
 | .non,u=>u=Wm
 | .bl b,u=>u=Xb b
 | .int i,u=>∃t,u=WK i t
 | .str x,u=>∃t,u=V6 x t
 | .byt b,u=>∃t,u=X6 b t
 | .flt b,u=>∃t,u=X7 b t
 | .ref a,u=>u=Te a
 | .ty n,u=>u=Yb n
abbrev Vals:List V->List Value->Prop:=Paired RelV
theorem Vals.length{xs:List V}{us:List Value}(r:Vals xs us):xs.length=us.length:=Ws r
theorem Vals.get:∀{xs:List V}{us:List Value}{i:Nat}{x:V},Vals xs us->xs[i]?=some x->∃u,us[i]?=some u/\RelV x u
 |_,_,_,_,.nil,e=>by simp at e
 |_,_,0,_,.cons r _,e=>by simp at e;subst e;exact⟨_,rfl,r⟩
 |_,_,i+1,x,.cons _ t,e=>by obtain⟨u,h1,h2⟩:=Vals.get (i:=i) (x:=x) t (by simpa using e);exact⟨u,by simpa using h1,h2⟩
theorem Vals.set{x:V}{u:Value}(r:RelV x u):∀{xs:List V}{us:List Value}(i:Nat),Vals xs us->Vals (xs.set i x) (us.set i u)
 |_,_,_,.nil=>.nil
 |_,_,0,.cons _ t=>.cons r t
 |_,_,i+1,.cons q t=>.cons q (Vals.set r i t)
theorem Vals.append:∀{xs ys:List V}{us ws:List Value},Vals xs us->Vals ys ws->Vals (xs++ys) (us++ws)
 |_,_,_,_,.nil,s=>s
 |_,_,_,_,.cons r t,s=>.cons r (Vals.append t s)
theorem Vals.take:∀{xs:List V}{us:List Value}(n:Nat),Vals xs us->Vals (xs.take n) (us.take n)
 |_,_,0,_=>.nil
 |_,_,_+1,.nil=>.nil
 |_,_,n+1,.cons r t=>.cons r (Vals.take n t)
theorem Vals.drop:∀{xs:List V}{us:List Value}(n:Nat),Vals xs us->Vals (xs.drop n) (us.drop n)
 |_,_,0,r=>r
 |_,_,_+1,.nil=>.nil
 |_,_,n+1,.cons _ t=>Vals.drop n t
def iq:Option V->Option Value->Prop
 |some v,some u=>RelV v u
 |none,none=>True
 |_,_=>False
def KV{D:Type}:List (D×V)->List (D×Value)->Prop:=Paired λ(p:D×V)(q:D×Value)=>p.1=q.1/\RelV p.2 q.2
noncomputable def kV:Key->V
 | .inl i=>.int i
 | .inr x=>.str x
inductive HO where
  |lst(xs:List V)
  |tup(xs:List V)
  |dK(kvs:List (Key×V))|dT(kvs:List (List Key×V))
  |set(S:Int->Bool)(n:Nat)
  |ins(C dx:Addr)(fs:List (Str×V))
  |own(x:Addr)
  |xd(fs:List (Str×V))
  |met(f x:Addr)
  |rng(lo hi:Int)
  |frz(o:Obj)(u:HO)
  |tbl(ps:Array Value)
  |ext(φ:Heap->Prop)
noncomputable abbrev Hp:=Addr->Option HO
noncomputable def upd(H:Hp)(a:Addr)(o:HO):Hp:=λb=>if b=a then some o else H b
variable{H:Hp}
theorem bK{a:Addr}{o:HO}:upd H a o a=some o:=by unfold upd;rw[if_pos rfl]
variable{b:Addr}
theorem aE{a:Addr}{o:HO}(h:b≠a):upd H a o b=H b:=by unfold upd;rw[if_neg h]
theorem Nk{a:Addr}{o u:HO}(h:H a=some o)(h':H b=some u)(d:o≠u):a≠b:=by intro e;subst e;rw[h] at h';exact d (SM h')
theorem aS{a:Addr}{o:HO}(h:H a=some o)(h':H b=none):a≠b:=by intro e;subst e;rw[h] at h';cases h'
variable{h:Heap}
section
variable(P:Program)(w:World)
def fg(h:Heap)(a:Addr)(items:Array Value):Prop:=∃o,h.get? a=some o/\o.cls=.type "tuple" /\ ∃n,o.data=.seq items n/\o.dict=none
theorem fg.t{a:Addr}{items:Array Value}(x:fg h a items):IsTup h a items:=let ⟨o,e,c,n,d,_⟩:=x;⟨o,e,c,n,d⟩
theorem fg.new(h:Heap)(items:Array Value):fg (h.push { cls:=.type "tuple",data:=.seq items }) h.objs.size items:=⟨_,S1 _ rfl,rfl,_,rfl,rfl⟩
def bW(H:Hp)(h:Heap)(a:Addr):HO->Prop
 | .lst xs=>xs.length<=sizeLine/\∃(its:List Value)(n:Nat),Vals xs its/\h.get? a=some { cls:=.type "list",data:=.seq its.toArray n }
 | .tup xs=>xs.length<=sizeLine/\∃its:List Value,Vals xs its/\fg h a its.toArray
 | .dK kvs=>kvs.length<=sizeLine/\(a==sysModules)=false/\∃vs,KV kvs vs/\h.DictOf (aX P w) a vs
 | .dT kvs=>kvs.length<=sizeLine/\(a==sysModules)=false/\∃xs:List (List Key×Addr×Value),
   Paired (λ(p:List Key×V)(q:List Key×Addr×Value)=>p.1=q.1/\H q.2.1=some (.tup (p.1.map kV))/\RelV p.2 q.2.2) kvs xs /\
   ∃o es ep,h.get? a=some o/\o.ExactDict/\o.data=.dict es ep/\es.toList=xs.map (entryOfKey (tupleKind (aX P w)))/\(xs.map (·.1)).Nodup
 | .set S n=>h.SetOf (intKind P w) a S n
 | .ins C dx fs=>H dx=some (.own a)/\fs.length<=1000/\dx≠a/\h.get? a=some (T5 C dx) /\
   ∃mA,h.Ns1 dx mA/\(∀f,iq (fs.lookup f) (mA f))/\WQ mA (fs.map (·.1))
 | .own _=>∃o,h.get? a=some o
 | .xd fs=>∃mA,h.Ns1 a mA/\∀f,iq (fs.lookup f) (mA f)
 | .rng lo hi=>∃t u v,h.get? a=some { cls:=.type "range",data:=.fields #[.int lo t,.int hi u,.int 1 v] }
 | .frz o u=>h.get? a=some o/\bW H h a u
 | .tbl ps=>h.get? a=some { cls:=.none,data:=.fields ps }
 | .met f x=>h.get? a=some (VI (.ref f) (.ref x))
 | .ext φ=>φ h/\(∃o,h.get? a=some o)/\∀h1 h2:Heap,φ h1->(∀o,h1.get? a=some o->h2.get? a=some o)->φ h2
def jT(H:Hp)(h:Heap):Prop:=∀a o,H a=some o->bW P w H h a o
end
section
variable{P:Program}{w:World}{H H':Hp}{h h':Heap}{a:Addr}{o:HO}
theorem bW.lt(x:bW P w H h a o):a<h.objs.size:=by
 cases o with
 |lst xs=>obtain⟨_,_,_,_,e⟩:=x;exact SS e
 |tup xs=>obtain⟨_,_,_,p⟩:=x;exact p.t.lt
 |dK kvs=>obtain⟨_,_,_,_,o,_,_,e,_⟩:=x;exact SS e
 |dT kvs=>obtain⟨_,_,_,_,o,_,_,e,_⟩:=x;exact SS e
 |set S n=>obtain⟨o,_,_,_,e,_⟩:=x;exact SS e
 |ins C dx fs=>obtain⟨_,_,_,e,_⟩:=x;exact SS e
 |own y=>obtain⟨_,e⟩:=x;exact SS e
 |xd fs=>obtain⟨_,⟨_,_,_,e,_⟩,_⟩:=x;exact SS e
 |rng lo hi=>obtain⟨_,_,_,e⟩:=x;exact SS e
 |frz ob u=>obtain⟨e,_⟩:=x;exact SS e
 |tbl ps=>exact SS (show h.get? a=some _ from x)
 |met f y=>exact SS (show h.get? a=some _ from x)
 |ext φ=>obtain⟨_,⟨_,e⟩,_⟩:=x;exact SS e
theorem Paired.Ld{α β:Type}{F G:α->β->Prop}:∀{e:List α}{g:List β},Paired F e g->(∀a b,F a b->G a b)->Paired G e g
 |_,_,.nil,_=>.nil
 |_,_,.cons r t,f=>.cons (f _ _ r) (Paired.Ld t f)
theorem bW.mq(x:bW P w H h a o)(k:∀b u,(b=a\/H b=some (.own a))->h.get? b=some u->h'.get? b=some u)
  (i:∀b,H b=some (.own a)->H' b=some (.own a))(ht:∀b xs,H b=some (.tup xs)->H' b=some (.tup xs)):bW P w H' h' a o:=by
 induction o with
 |lst xs=>obtain⟨z,its,n,r,e⟩:=x;exact⟨z,its,n,r,k _ _ (.inl rfl) e⟩
 |tup xs=>obtain⟨z,its,r,ob,e,c⟩:=x;exact⟨z,its,r,ob,k _ _ (.inl rfl) e,c⟩
 |dK kvs=>obtain⟨z,y,vs,r,ob,es,ep,e,c⟩:=x;exact⟨z,y,vs,r,ob,es,ep,k _ _ (.inl rfl) e,c⟩
 |dT kvs=>obtain⟨z,y,xs,r,ob,es,ep,e,c⟩:=x;exact⟨z,y,xs,Paired.Ld r λp q z=>⟨z.1,ht _ _ z.2.1,z.2.2⟩,ob,es,ep,k _ _ (.inl rfl) e,c⟩
 |set S n=>obtain⟨ob,es,ep,t,e,c⟩:=x;exact⟨ob,es,ep,t,k _ _ (.inl rfl) e,c⟩
 |ins C dx fs=>obtain⟨d,z,ne,e,mA,⟨od,es,ep,j,c⟩,r⟩:=x;exact⟨i _ d,z,ne,k _ _ (.inl rfl) e,mA,⟨od,es,ep,k _ _ (.inr d) j,c⟩,r⟩
 |own y=>obtain⟨ob,e⟩:=x;exact⟨ob,k _ _ (.inl rfl) e⟩
 |xd fs=>obtain⟨mA,⟨od,es,ep,e,c⟩,r⟩:=x;exact⟨mA,⟨od,es,ep,k _ _ (.inl rfl) e,c⟩,r⟩
 |rng lo hi=>obtain⟨t,u,v,e⟩:=x;exact⟨t,u,v,k _ _ (.inl rfl) e⟩
 |frz ob u l=>obtain⟨e,q⟩:=x;exact⟨k _ _ (.inl rfl) e,l q⟩
 |tbl ps=>have e:h.get? a=some { cls:=.none,data:=.fields ps }:=x;show h'.get? a=some { cls:=.none,data:=.fields ps };exact k a _ (.inl rfl) e
 |met f y=>have e:h.get? a=some (VI (.ref f) (.ref y)):=x;show h'.get? a=some (VI (.ref f) (.ref y));exact k a _ (.inl rfl) e
 |ext φ=>obtain⟨p,⟨o,e⟩,st⟩:=x;exact⟨st _ _ p λo q=>k _ _ (.inl rfl) q,⟨o,k _ _ (.inl rfl) e⟩,st⟩
theorem jT.lt(x:jT P w H h)(e:H a=some o):a<h.objs.size:=(x a o e).lt
theorem jT.fresh(x:jT P w H h)(e:h.objs.size<=a):H a=none:=by
 cases q:H a with
 |none=>rfl
 |some u=>exact absurd (SH (x.lt q) e) (TB _)
theorem jT.kept(x:jT P w H h)(k:∀b u,h.get? b=some u->h'.get? b=some u):jT P w H h':=λa o e=>(x a o e).mq (λb u _ q=>k b u q) (λ_ q=>q) λ_ _ q=>q
theorem jT.laid(x:jT P w H h)(k:∀b u,h.get? b=some u->h'.get? b=some u)(hp:h.objs.size<=a)(new:bW P w (upd H a o) h' a o):jT P w (upd H a o) h':=λb u e=>by
 have hn:=x.fresh hp;by_cases d:b=a
 .subst d;rw[bK] at e;cases e;exact new
 .rw[aE d] at e;exact(x b u e).mq (λc v _ q=>k c v q) (λc q=>by rw[aE (aS q hn)];exact q) λc xs q=>by rw[aE (aS q hn)];exact q
end
def Rd(H:Hp)(a:Addr)(u:HO):Prop:=H a=some u\/∃o,H a=some (.frz o u)
variable{P:Program}{w:World}
theorem Rd.ok{a:Addr}{u:HO}(r:Rd H a u)(x:jT P w H h):bW P w H h a u:=by
 rcases r with r|⟨o,r⟩
 .exact x a u r
 .obtain⟨_,q⟩:=x a _ r;exact q
def Pa:Option HO->Prop
 |some (.lst _)=>True
 |some (.dK _)=>True
 |some (.dT _)=>True
 |some (.set _ _)=>True
 |some (.ins _ _ _)=>True
 |some (.ext _)=>True
 |_=>False
section
variable{P:Program}{w:World}{H:Hp}{h h':Heap}{x e:Addr}{o':HO}
theorem jT.write(ok:jT P w H h)(mu:Pa (H x))(p:e=x\/H e=some (.own x))(k:∀b u,b≠e->h.get? b=some u->h'.get? b=some u)(o:∃u,h'.get? e=some u)
  (new:bW P w (upd H x o') h' x o'):jT P w (upd H x o') h':=λb u q=>by
 have m:∀c y,H c=some (.own y)->c≠x:=λc y r z=>by subst z;rw[r] at mu;exact mu
 have n:∀c xs,H c=some (.tup xs)->c≠x:=λc xs r z=>by subst z;rw[r] at mu;exact mu
 by_cases d:b=x
 .subst d;rw[bK] at q;cases q;exact new
 .rw[aE d] at q;by_cases a:b=e
  .have s:H b=some (.own x):=by
    rcases p with z|z
    .exact absurd (a.trans z) d
    .rw[a];exact z
   rw[q] at s;cases s;obtain⟨v,t⟩:=o;exact⟨v,by rw[a];exact t⟩
  .refine(ok b u q).mq (λc v hc r=>k c v ?_ r) (λc r=>by rw[aE (m c b r)];exact r) λc xs r=>by rw[aE (n c xs r)];exact r
   rcases hc with rfl|hc
   .exact a
   .rintro rfl;rcases p with z|z
    .exact m c b hc z
    .rw[hc] at z;cases z;exact d rfl
end
structure Un(fs ex:List Addr)(H H':Hp)(h h':Heap):Prop where
 keep:∀b o,h.get? b=some o->H b=none->b∉fs->b∉ex->h'.get? b=some o
 slot:∀b o,h.get? b=some o->H b=none->b∈fs->b∉ex->∃sl,h'.get? b=some { o with slots:=sl }
 free:∀b o,h.get? b=some o->H b=none->b∉ex->H' b=none
 there:∀b o,h.get? b=some o->b∉ex->∃o',h'.get? b=some o'
 tups:∀b xs,H b=some (.tup xs)->H' b=some (.tup xs)
 frzs:∀b o u,H b=some (.frz o u)->H' b=some (.frz o u)
 tbls:∀b ps,H b=some (.tbl ps)->∃more,H' b=some (.tbl (ps++more))
section
variable{fs fs' ex ex':List Addr}{H H1 H2:Hp}{h h1 h2 h':Heap}{a x e:Addr}{o:HO}
theorem Un.any(u:Un fs ex H H1 h h1){ob:Obj}(q:h.get? b=some ob)(n:H b=none)(k:b∉ex):∃sl,h1.get? b=some { ob with slots:=sl }:=by
 by_cases d:b∈fs
 .exact u.slot b ob q n d k
 .exact⟨ob.slots,u.keep b ob q n d k⟩
theorem Un.kept(k:∀b u,h.get? b=some u->h'.get? b=some u):Un fs ex H H h h':=
 ⟨λb ob q _ _ _=>k b ob q,λb ob q _ _ _=>⟨ob.slots,k b ob q⟩,λ_ _ _ n _=>n,λb ob q _=>⟨ob,k b ob q⟩,λ_ _ q=>q,λ_ _ _ q=>q,λ_ ps q=>⟨#[],by rw[q];simp⟩⟩
theorem Un.refl:Un fs ex H H h h:=Un.kept λ_ _ q=>q
theorem Un.laid(k:∀b u,h.get? b=some u->h'.get? b=some u)(hp:h.objs.size<=a)(hn:H a=none):Un fs ex H (upd H a o) h h' where
 keep:=λb u q _ _ _=>k b u q
 slot:=λb u q _ _ _=>⟨u.slots,k b u q⟩
 free:=λb u q n _=>by rw[aE (S4 (SH (SS q) hp))];exact n
 there:=λb u q _=>⟨u,k b u q⟩
 tups:=λb xs q=>by rw[aE (aS q hn)];exact q
 frzs:=λb u xs q=>by rw[aE (aS q hn)];exact q
 tbls:=λb ps q=>⟨#[],by rw[aE (aS q hn),q];simp⟩
theorem Un.write(mu:Pa (H x))(p:e=x\/H e=some (.own x))(k:∀b u,b≠e->h.get? b=some u->h'.get? b=some u)(v:∃u,h'.get? e=some u):Un fs ex H (upd H x o) h h':=by
 have w:∀b,H b=none->b≠x:=λb n z=>by subst z;rw[n] at mu;exact mu
 have d:∀b,H b=none->b≠e:=λb n z=>by
  subst z;rcases p with r|r
  .exact w b n r
  .rw[n] at r;cases r
 have hm:∀b u,H b=some u->¬ Pa (some u)->b≠x:=λb u q nm z=>by subst z;rw[q] at mu;exact nm mu
 refine⟨λb u q n _ _=>k b u (d b n) q,λb u q n _ _=>⟨u.slots,k b u (d b n) q⟩,λb u q n _=>by rw[aE (w b n)];exact n,λb u q _=>?_,
  λb xs q=>by rw[aE (hm b _ q λz=>z)];exact q,λb u xs q=>by rw[aE (hm b _ q λz=>z)];exact q,λb ps q=>⟨#[],by rw[aE (hm b _ q λz=>z),q];simp⟩⟩
 by_cases a:b=e
 .subst a;exact v
 .exact⟨u,k b u a q⟩
end
noncomputable def PM(h:Heap)(H:Hp):List Addr:=(T9 h.objs.size).filter λa=>(H a).isSome
def qH(h:Heap)(H:Hp):Heap:=PySem.W.hideAll h (PM h H)
theorem yu(h:Heap)(H:Hp):(qH h H).objs.size=h.objs.size:=PySem.W.hideAll_size _ _
variable{o:Obj}
theorem B1(e:h.get? b=some o)(n:H b=none):(qH h H).get? b=some o:=
 PySem.W.hideAll_get _ e λhm=>by have q:(H b).isSome=true:=(Uk.mp hm).2;rw[n] at q;simp at q
theorem FZ(e:(qH h H).get? b=some o):h.get? b=some o/\H b=none:=by
 have r:h.get? b=some o:=PySem.W.of_hideAll (PM h H) e;refine⟨r,?_⟩;cases q:H b with
 |none=>rfl
 |some x=>have hm:b∈PM h H:=Uk.mpr ⟨UG.mpr (SS r),by simp[q]⟩;have z:(qH h H).get? b=none:=PySem.W.hideAll_none (PM h H) hm;rw[z] at e;cases e
noncomputable def Gm(g h:Heap)(L:Addr):List (Addr×Obj):=(T9 h.objs.size).filterMap λa=>if a=L\/(g.get? a).isSome=true then none else (h.get? a).map λo=>(a,o)
def rest(g h:Heap)(L d:Addr):List (Addr×Obj):=(Gm g h L).filter λp=>decide (p.1≠d)
structure Mod(K:So)(mg:Str->Option Value)(base:Heap):Prop where
 kin:K.In base
 glob:base.Ns mainGlobals mg
 blt:∃mb,base.Ns builtinsNs mb/\∀x:Str,x ≠ "__name__" -> mb x=bootBuiltins x
 nolimit:base.NoLimit
structure Cx where
 prog:Program
 w:World
 K:So
 mg:Str->Option Value
 base:Heap
 A:Around
 N:List Str
 s₀:Shared
 H₀:Hp
 env:Env
 outer:List Env
 stack:List Env
 ex:List Addr
 fn:Str->Bool
 calm:Bool
 pn:List (Addr×Obj)
 xe:Value->Shared->Prop
noncomputable def my(l:List Env):List Addr:=l.filterMap (·.frame)
abbrev Cx.fs(X:Cx):List Addr:=my X.outer
def o9(sc:Scope)(x:Str):Prop:=sc.names.lookup x=some .local\/sc.names.lookup x=some .cell\/sc.names.lookup x=some .free
def Loc(sc:Scope)(x:Str):Prop:=sc.names.lookup x=some .local\/sc.names.lookup x=some .cell
def Look(env:Env)(h:Heap)(m:Str->Option Value)(x:Str)(u:Value):Prop:=
 (env.kindOf x=some .local/\m x=some u)\/((env.kindOf x=some .cell\/env.kindOf x=some .free)/\∃c,env.cells.lookup x=some c/\h.IsCell c (some u))
structure Cx.Ok(X:Cx):Prop where
 mod:Mod X.K X.mg X.base
 kind:X.env.scope.kind=.function
 glob:X.env.globals=mainGlobals
 blt:X.env.builtins=builtinsNs
 above:X.s₀.heap.objs.size<=X.env.locals
 inj:∀x y c,X.env.cells.lookup x=some c->X.env.cells.lookup y=some c->x=y
 has:∀x,(X.env.kindOf x=some .cell\/X.env.kindOf x=some .free)->∃c,X.env.cells.lookup x=some c
 cab:∀x c,X.fn x=true->X.env.cells.lookup x=some c->X.s₀.heap.objs.size<=c
 hd:X.calm=true->X.A.handled=none
 frames:X.A.frames=some X.stack
 stk:X.stack=X.outer\/(X.stack=X.env::X.outer/\X.env.frame=some X.env.locals)
 exf:∀b∈X.ex,b≠X.env.locals/\∀x c,X.env.cells.lookup x=some c->c≠b
 bs:∀b o,X.base.get? b=some o->X.s₀.heap.get? b=some o/\X.H₀ b=none
 bsz:X.base.objs.size<=X.s₀.heap.objs.size
 noex:∀b o,X.base.get? b=some o->b∉X.ex
 exfs:∀b∈X.ex,b∉X.fs
 pA:X.s₀.heap.FunFrames X.base X.outer
 frf:∀b∈X.fs,X.H₀ b=none
structure Inv(X:Cx)(pins:List (Addr×Obj))(Y:List (Option V))(H:Hp)(s:Shared):Prop where
 ok:X.Ok
 os:s.os=X.s₀.os
 bare:AllBare s.gens
 base:Un X.fs X.ex X.H₀ H X.s₀.heap s.heap
 loc:∃m,s.heap.Ns X.env.locals m/\∀(i:Nat)(x:Str)(v:V),X.N[i]?=some x->Y[i]?=some (some v)->o9 X.env.scope x->∃u,RelV v u/\Look X.env s.heap m x u
 cell:∀x c,X.env.cells.lookup x=some c->∃v,s.heap.IsCell c v
 free:H X.env.locals=none
 freeC:∀x c,X.env.cells.lookup x=some c->H c=none
 pin:∀p∈X.pn++pins,s.heap.get? p.1=some p.2/\H p.1=none/\p.1≠X.env.locals/\p.1∉X.fs/\∀v,p.2.data≠.cell v
 hok:jT X.prog X.w H s.heap
 len:Y.length=X.N.length
variable{g':Array GenState}{t' i j:Nat}{d':Drawn}{ch:List Addr}{it:Addr}{N:List Str}{x:Str}{E:Value->Shared->Prop}{v:V}{u:Value}
section
variable{X:Cx}{pins:List (Addr×Obj)}{Y:List (Option V)}{H H':Hp}{s:Shared}{h':Heap}
theorem Cx.Ok.Qm(ok:X.Ok)(e:X.base.get? b=some o):b∉X.fs:=λd=>by have:=(ok.pA.mem d).1;rw[e] at this;cases this
theorem Inv.bs(I:Inv X pins Y H s):∀b o,X.base.get? b=some o->s.heap.get? b=some o/\H b=none:=λb o e=>⟨I.base.keep b o (I.ok.bs b o e).1 (I.ok.bs b o e).2 (I.ok.Qm e) (I.ok.noex b o e),I.base.free b o (I.ok.bs b o e).1 (I.ok.bs b o e).2 (I.ok.noex b o e)⟩
theorem Inv.bk(I:Inv X pins Y H s):∀b o,X.base.get? b=some o->s.heap.get? b=some o:=λb o e=>(I.bs b o e).1
theorem Inv.mod(I:Inv X pins Y H s):Mod X.K X.mg X.base:=I.ok.mod
theorem Inv.ur(I:Inv X pins Y H s):X.K.In s.heap:=I.ok.mod.kin.keeps I.bk
theorem Inv.lt(I:Inv X pins Y H s):X.env.locals<s.heap.objs.size:=let ⟨_,hn,_⟩:=I.loc;hn.lt
theorem Inv.sz(I:Inv X pins Y H s):X.s₀.heap.objs.size<=s.heap.objs.size:=SW I.ok.above (UO I.lt)
theorem Inv.Mz(I:Inv X pins Y H s){a:Addr}(h:s.heap.objs.size<=a):a∉X.fs:=λd=>by obtain⟨_,o,i,_⟩:=I.ok.pA.mem d;exact absurd (SH (SS i) (SW I.sz h)) (TB _)
theorem Inv.JM(I:Inv X pins Y H s):∀x c,X.env.cells.lookup x=some c->c≠X.env.locals:=λx c e z=>by obtain⟨v,o,i,hd⟩:=I.cell x c e;obtain⟨m,⟨o',es,ep,b,h,_⟩,_⟩:=I.loc;rw[z,b] at i;cases i;rw[h] at hd;cases hd
theorem Inv.pA(I:Inv X pins Y H s):s.heap.FunFrames X.base X.outer:=by
 have all:∀(l:List Env),(∀b∈my l,b∈X.fs)->X.s₀.heap.FunFrames X.base l->s.heap.FunFrames X.base l:=by
  intro l;induction l with
  |nil=>intro _ _;trivial
  |cons env r x=>intro u hl;obtain⟨hk,⟨L,o,hf,hn,i,hd⟩,y⟩:=hl;have q:L∈X.fs:=u L (by unfold my;rw[U2,hf];exact SN);obtain⟨sl,e⟩:=I.base.slot L o i (I.ok.frf L q) q λz=>I.ok.exfs L z q;exact⟨hk,⟨L,_,hf,hn,e,hd⟩,x (λb d=>u b (by unfold my;rw[U2,hf];exact SE _ d)) y⟩
 exact all X.outer (λ_ d=>d) I.ok.pA
theorem Inv.stack(I:Inv X pins Y H s):s.heap.FunFrames X.base X.stack:=by
 rcases I.ok.stk with e|⟨e,hf⟩
 .rw[e];exact I.pA
 .rw[e];obtain⟨m,hn,_⟩:=I.loc;refine .cons (by rw[I.ok.kind];decide) hf hn ?_ I.pA;exact VD (SW I.ok.bsz I.ok.above)
theorem Inv.lj(I:Inv X pins Y H s):∀b∈my X.stack,b∈X.env.locals::X.fs:=λb d=>by
 rcases I.ok.stk with e|⟨e,hf⟩
 .rw[e] at d;exact SE _ d
 .rw[e] at d;unfold my at d;rw[U2,hf] at d;exact d
theorem Inv.xw(I:Inv X pins Y H s):∀b∈my X.stack,H b=none:=λb d=>by
 rcases SO.mp (I.lj b d) with e|d
 .rw[e];exact I.free
 .obtain⟨_,o,i,_⟩:=I.ok.pA.mem d;exact I.base.free b o i (I.ok.frf b d) λz=>I.ok.exfs b z d
theorem Inv.step(I:Inv X pins Y H s)
  (B:∀b∈ch,(b∈X.ex\/X.s₀.heap.objs.size<=b)/\b≠X.env.locals/\(∀x c,X.env.cells.lookup x=some c->c≠b)/\∀p∈X.pn++pins,p.1≠b)
  (keep:∀b o,b≠X.env.locals->b∉X.fs->b∉ch->s.heap.get? b=some o->H b=none->h'.get? b=some o)
  (slot:∀b o,b≠X.env.locals->b∈X.fs->b∉ch->s.heap.get? b=some o->H b=none->∃sl,h'.get? b=some { o with slots:=sl })(free:∀b o,b∉ch->s.heap.get? b=some o->H b=none->H' b=none)
  (there:∀b o,b∉ch->s.heap.get? b=some o->∃o',h'.get? b=some o')
  (tups:∀b xs,H b=some (.tup xs)->H' b=some (.tup xs))(frzs:∀b o u,H b=some (.frz o u)->H' b=some (.frz o u))(tbls:∀b ps,H b=some (.tbl ps)->∃more,H' b=some (.tbl (ps++more)))
  (ns:∀m,s.heap.Ns X.env.locals m->h'.Ns X.env.locals m)(hok:jT X.prog X.w H' h')(N:AllBare g'):
  Inv X pins Y H' { s with heap:=h',gens:=g',drawn:=d',toks:=t' }:=by
 have K:∀b o,X.s₀.heap.get? b=some o->b≠X.env.locals:=λb o e=>S4 (SH (SS e) I.ok.above);have E:∀b o,X.s₀.heap.get? b=some o->b∉X.ex->b∉ch:=λb o e A G=>by
  rcases(B b G).1 with z|z
  .exact A z
  .exact absurd (SH (SS e) z) (TB _)
 have C:∀x c,X.env.cells.lookup x=some c->∀v,s.heap.IsCell c v->h'.IsCell c v:=λx c e v ⟨o,J,hd⟩=>by
  have D:c∉ch:=λz=>(B c z).2.2.1 x c e rfl;by_cases hc:c∈X.fs
  .obtain⟨sl,q⟩:=slot c o (I.JM x c e) hc D J (I.freeC x c e);exact⟨_,q,hd⟩
  .exact⟨o,keep c o (I.JM x c e) hc D J (I.freeC x c e),hd⟩
 refine⟨I.ok,I.os,N,⟨λb o e n G A=>?_,λb o e n G A=>?_,λb o e n A=>?_,λb o e A=>?_,λb xs e=>tups b xs (I.base.tups b xs e),λb o xs e=>frzs b o xs (I.base.frzs b o xs e),λb ps e=>?_⟩,?_,λx c e=>?_,?_,λx c e=>?_,λp hp=>?_,hok,I.len⟩
 .exact keep b o (K b o e) G (E b o e A) (I.base.keep b o e n G A) (I.base.free b o e n A)
 .obtain⟨sl,F⟩:=I.base.slot b o e n G A;obtain⟨L,j⟩:=slot b _ (K b o e) G (E b o e A) F (I.base.free b o e n A);exact⟨L,j⟩
 .obtain⟨o',F⟩:=I.base.there b o e A;exact free b o' (E b o e A) F (I.base.free b o e n A)
 .obtain⟨o',F⟩:=I.base.there b o e A;exact there b o' (E b o e A) F
 .obtain⟨O,F⟩:=I.base.tbls b ps e;obtain⟨P,j⟩:=tbls b _ F;exact⟨O++P,by rw[j,Array.append_assoc]⟩
 .obtain⟨m,hn,hl⟩:=I.loc;refine⟨m,ns m hn,λi x v F j Q=>?_⟩;obtain⟨u,r,l⟩:=hl i x v F j Q;refine⟨u,r,?_⟩;rcases l with l|⟨k,c,e,z⟩
  .exact .inl l
  .exact .inr ⟨k,c,e,C x c e _ z⟩
 .obtain⟨v,z⟩:=I.cell x c e;exact⟨v,C x c e v z⟩
 .obtain⟨m,⟨o,_,_,J,_⟩,_⟩:=I.loc;exact free _ o (λz=>(B _ z).2.1 rfl) J I.free
 .obtain⟨v,o,J,hd⟩:=I.cell x c e;exact free c o (λz=>(B c z).2.2.1 x c e rfl) J (I.freeC x c e)
 .obtain⟨e,n,ne,nf,d⟩:=I.pin p hp;have D:p.1∉ch:=λz=>(B p.1 z).2.2.2 p hp rfl;exact⟨keep p.1 p.2 ne nf D e n,free p.1 p.2 D e n,ne,nf,d⟩
theorem Inv.un(I:Inv X pins Y H s)(u:Un X.fs [] H H' s.heap h')(hok:jT X.prog X.w H' h'):Inv X pins Y H' { s with heap:=h',toks:=t' }:=by
 obtain⟨m,⟨o,es,ep,i,r⟩,_⟩:=id I.loc;obtain⟨sl,q⟩:=u.any i I.free (by simp);exact I.step (g':=s.gens) (d':=s.drawn) (ch:=[]) (λ_ z=>nomatch z) (λb o _ d _ e n=>u.keep b o e n d (by simp)) (λb o _ d _ e n=>u.slot b o e n d (by simp)) (λb o _ e n=>u.free b o e n (by simp)) (λb o _ e=>u.there b o e (by simp)) u.tups u.frzs u.tbls (λU hm=>by obtain⟨o',S,T,R,r'⟩:=hm;rw[i] at R;cases R;exact⟨_,S,T,q,r'⟩) hok I.bare
theorem Inv.call(I:Inv X pins Y H s)(u:Un (my X.stack) ch H H' s.heap h')(hok:jT X.prog X.w H' h')(N:AllBare g')
  (B:∀b∈ch,(b∈X.ex\/X.s₀.heap.objs.size<=b)/\b≠X.env.locals/\(∀x c,X.env.cells.lookup x=some c->c≠b)/\∀p∈X.pn++pins,p.1≠b):
  Inv X pins Y H' { s with heap:=h',gens:=g',drawn:=d',toks:=t' }:=by
 obtain⟨m,⟨o,es,ep,i,r⟩,_⟩:=id I.loc;obtain⟨sl,q⟩:=u.any i I.free λz=>(B _ z).2.1 rfl;exact I.step (ch:=ch) B (λb o q d hc e n=>u.keep b o e n (λz=>(SO.mp (I.lj b z)).elim q d) hc) (λb o _ _ hc e n=>u.any e n hc) (λb o hc e n=>u.free b o e n hc) (λb o hc e=>u.there b o e hc) u.tups u.frzs u.tbls (λU hm=>by obtain⟨o',S,T,R,r'⟩:=hm;rw[i] at R;cases R;exact⟨_,S,T,q,r'⟩) hok N
theorem Inv.turned(I:Inv X pins Y H s)(k:∀b o,b≠it->s.heap.get? b=some o->h'.get? b=some o)(hn:H it=none)(Z:it≠X.env.locals)
  (h1:it∈X.ex\/X.s₀.heap.objs.size<=it)(h2:∀x c,X.env.cells.lookup x=some c->c≠it)(h3:∀p∈X.pn++pins,p.1≠it):Inv X pins Y H { s with heap:=h',toks:=t' }:=by
 have V:∀b u,H b=some u->b≠it:=λb u e z=>by rw[z,hn] at e;cases e
 refine I.step (g':=s.gens) (d':=s.drawn) (ch:=[it]) (λb d=>?_) (λb o _ _ hc e _=>k b o (λz=>hc (by simp[z])) e) (λb o _ _ hc e _=>⟨o.slots,k b o (λz=>hc (by simp[z])) e⟩) (λ_ _ _ _ n=>n)
  (λb o hc e=>⟨o,k b o (λz=>hc (by simp[z])) e⟩) (λ_ _ e=>e) (λ_ _ _ e=>e) (λb ps e=>⟨#[],by rw[e];simp⟩) (λm hm=>?_) (λb u e=>?_) I.bare
 .have e:b=it:=by simpa using d
  subst e;exact⟨h1,Z,h2,h3⟩
 .obtain⟨o,es,ep,i,r⟩:=hm;exact⟨o,es,ep,k _ o (T6 Z) i,r⟩
 .refine(I.hok b u e).mq (λc v hc q=>k c v ?_ q) (λ_ q=>q) λ_ _ q=>q;rcases hc with z|z
  .rw[z];exact V b u e
  .exact V c _ z
theorem Inv.tok(I:Inv X pins Y H s)(t:Nat):Inv X pins Y H { s with toks:=t }:=I.un (h':=s.heap) (t':=t) Un.refl I.hok
theorem Inv.kept{t':Nat}(I:Inv X pins Y H s)(k:∀b u,s.heap.get? b=some u->h'.get? b=some u):Inv X pins Y H { s with heap:=h',toks:=t' }:=I.un (Un.kept k) (I.hok.kept k)
theorem Inv.laid{a:Addr}{o:HO}{t':Nat}(I:Inv X pins Y H s)(k:∀b u,s.heap.get? b=some u->h'.get? b=some u)(hp:s.heap.objs.size<=a)(new:bW X.prog X.w (upd H a o) h' a o):
  Inv X pins Y (upd H a o) { s with heap:=h',toks:=t' }:=I.un (Un.laid k hp (I.hok.fresh hp)) (I.hok.laid k hp new)
theorem Inv.write{x e:Addr}{o:HO}{t':Nat}(I:Inv X pins Y H s)(mu:Pa (H x))(p:e=x\/H e=some (.own x))(k:∀b u,b≠e->s.heap.get? b=some u->h'.get? b=some u)(v:∃u,h'.get? e=some u)
  (new:bW X.prog X.w (upd H x o) h' x o):Inv X pins Y (upd H x o) { s with heap:=h',toks:=t' }:=I.un (Un.write mu p k v) (I.hok.write mu p k v new)
theorem Inv.qF{b:List (Addr×Obj)}(I:Inv X pins Y H s)(h:∀p∈b,s.heap.get? p.1=some p.2/\H p.1=none/\p.1≠X.env.locals/\p.1∉X.fs/\∀v,p.2.data≠.cell v):Inv X b Y H s:=
 ⟨I.ok,I.os,I.bare,I.base,I.loc,I.cell,I.free,I.freeC,λp hp=>(Su.mp hp).elim (λz=>I.pin p (Sv _ z)) (h p),I.hok,I.len⟩
theorem tN(hN:N.Nodup)(a:N[i]?=some x)(b:N[j]?=some x):i=j:=by obtain⟨h1,F⟩:=Sy.mp a;obtain⟨h2,z⟩:=Sy.mp b;exact(List.getElem_inj hN).mp (F.trans z.symm)
theorem pV{M:Model}{A:Around}{Q:Unit->Shared->Prop}(I:Inv X pins Y H s)(hN:X.N.Nodup)(hi:X.N[i]?=some x)(hx:Loc X.env.scope x)(r:RelV v u)
  (h:∀s',Inv X pins (Y.set i (some v)) H s'->(∃a,Vp a s.heap s'.heap/\(a=X.env.locals\/X.env.cells.lookup x=some a))->Q () s')(hf:X.fn x=true\/X.env.scope.names.lookup x=some .local:=by first|exact .inl rfl|exact .inr rfl|assumption):wpAny M A (storeName X.env x u) Q E s:=by
 obtain⟨m,hn,hl⟩:=id I.loc;have hcls:(X.env.scope.kind==.class || (X.env.scope.kind==.module&&X.env.locals != X.env.globals))=false:=by rw[I.ok.kind];rfl
 have hiσ:i<Y.length:=by rw[I.len];exact(Sy.mp hi).1
 have JM:=I.JM;have tracked:∀{a:Addr}{h':Heap},(∃o,s.heap.get? a=some o/\H a=none)->Vp a s.heap h'->jT X.prog X.w H h':=λ{a h'} ha hs b ob e=>by
  obtain⟨_,_,hfree⟩:=ha;refine(I.hok b ob e).mq (λc w' hc q=>(hs.2 c ?_).trans q) (λ_ q=>q) λ_ _ q=>q;rintro rfl;rcases hc with rfl|hc
  .rw[hfree] at e;cases e
  .rw[hfree] at hc;cases hc
 rcases hx with hk|hk
 .refine wpAny_storeName_local hk hn (λh' hn' hs=>?_) hcls;obtain⟨oL,_,_,hoL,_⟩:=id hn;refine h _ ⟨I.ok,I.os,I.bare,⟨λb o e n hb hx=>?_,λb o e n hb hx=>?_,I.base.free,λb o e hx=>?_,I.base.tups,I.base.frzs,I.base.tbls⟩,⟨_,hn',λj y v' e1 e2 e3=>?_⟩,λy c e=>?_,I.free,I.freeC,λp hp=>?_,tracked ⟨oL,hoL,I.free⟩ hs,by simpa using I.len⟩ ⟨_,hs,.inl rfl⟩
  .exact(hs.2 b (S4 (SH (SS e) I.ok.above))).trans (I.base.keep b o e n hb hx)
  .obtain⟨sl,e1⟩:=I.base.slot b o e n hb hx;exact⟨sl,(hs.2 b (S4 (SH (SS e) I.ok.above))).trans e1⟩
  .obtain⟨o',e1⟩:=I.base.there b o e hx;exact⟨o',(hs.2 b (S4 (SH (SS e) I.ok.above))).trans e1⟩
  .by_cases hj:j=i
   .subst hj;rw[hi] at e1;cases e1;rw[S3 hiσ] at e2;cases e2;exact⟨u,r,.inl ⟨hk,by simp⟩⟩
   .rw[Td (T6 hj)] at e2;obtain⟨u',r',q⟩:=hl j y v' e1 e2 e3;refine⟨u',r',?_⟩;rcases q with ⟨k,e⟩|⟨k,c,e,z⟩
    .refine .inl ⟨k,?_⟩;have:y≠x:=λe=>hj (tN hN e1 (e▸hi));simp[this,e]
    .exact .inr ⟨k,c,e,z.sameBut hs (JM y c e)⟩
  .obtain⟨w',z⟩:=I.cell y c e;exact⟨w',z.sameBut hs (JM y c e)⟩
  .obtain⟨e,n,ne,nf,d⟩:=I.pin p hp;exact⟨(hs.2 p.1 ne).trans e,n,ne,nf,d⟩
 .have hfn:X.fn x=true:=by
   rcases hf with z|z
   .exact z
   .rw[z] at hk;cases hk
  obtain⟨c,hc⟩:=I.ok.has x (.inl hk);obtain⟨w',z⟩:=I.cell x c hc;refine wpAny_storeName_cell I.ok.kind hk hc z (λh' hc' hs=>?_);obtain⟨oc,hoc,hocd⟩:=id z;refine h { s with heap:=h' } ⟨I.ok,I.os,I.bare,⟨λb o e n hb hx=>?_,λb o e n hb hx=>?_,I.base.free,λb o e hx=>?_,I.base.tups,I.base.frzs,I.base.tbls⟩,⟨m,hn.sameBut hs (T6 (JM x c hc)),λj y v' e1 e2 e3=>?_⟩,λy c' e=>?_,I.free,I.freeC,λp hp=>?_,tracked ⟨oc,hoc,I.freeC x c hc⟩ hs,by simpa using I.len⟩ ⟨c,hs,.inr hc⟩
  .exact(hs.2 b (S4 (SH (SS e) (I.ok.cab x c hfn hc)))).trans (I.base.keep b o e n hb hx)
  .obtain⟨sl,e1⟩:=I.base.slot b o e n hb hx;exact⟨sl,(hs.2 b (S4 (SH (SS e) (I.ok.cab x c hfn hc)))).trans e1⟩
  .obtain⟨o',e1⟩:=I.base.there b o e hx;exact⟨o',(hs.2 b (S4 (SH (SS e) (I.ok.cab x c hfn hc)))).trans e1⟩
  .by_cases hj:j=i
   .subst hj;rw[hi] at e1;cases e1;rw[S3 hiσ] at e2;cases e2;exact⟨u,r,.inr ⟨.inl hk,c,hc,hc'⟩⟩
   .rw[Td (T6 hj)] at e2;obtain⟨u',r',q⟩:=hl j y v' e1 e2 e3;refine⟨u',r',?_⟩;rcases q with q|⟨k,c',e,z'⟩
    .exact .inl q
    .refine .inr ⟨k,c',e,z'.sameBut hs ?_⟩;rintro rfl;exact hj (tN hN e1 (I.ok.inj _ _ _ e hc▸hi))
  .by_cases hcc:c'=c
   .subst hcc;exact⟨_,hc'⟩
   .obtain⟨w2,z2⟩:=I.cell y c' e;exact⟨w2,z2.sameBut hs hcc⟩
  .obtain⟨e,n,ne,nf,d⟩:=I.pin p hp;refine⟨(hs.2 p.1 ?_).trans e,n,ne,nf,d⟩;intro q;rw[q,hoc] at e;have q':oc=p.2:=SM e;exact d w' (by rw[<-q'];exact hocd)
theorem jX{M:Model}{A:Around}{Q:Unit->Shared->Prop}(I:Inv X pins Y H s)(hN:X.N.Nodup)(hi:X.N[i]?=some x)(hx:Loc X.env.scope x)(r:RelV v u)
  (h:∀s',Inv X pins (Y.set i (some v)) H s'->Q () s')(hf:X.fn x=true\/X.env.scope.names.lookup x=some .local:=by first|exact .inl rfl|exact .inr rfl|assumption):wpAny M A (storeName X.env x u) Q E s:=
 pV I hN hi hx r (λs' I' _=>h s' I') hf
theorem Inv.N8{s':Shared}(I:Inv X pins Y H s)(i:s'.os=s.os)(u:Un (my X.stack) ch H H' s.heap s'.heap)(hok:jT X.prog X.w H' s'.heap)(N:AllBare s'.gens)
  (B:∀b∈ch,(b∈X.ex\/X.s₀.heap.objs.size<=b)/\b≠X.env.locals/\(∀x c,X.env.cells.lookup x=some c->c≠b)/\∀p∈X.pn++pins,p.1≠b):Inv X pins Y H' s':=by
 obtain⟨h',g',d',t',o'⟩:=s';have e:o'=s.os:=i;subst e;exact I.call (g':=g') (t':=t') (d':=d') u hok N B
end
abbrev XK:=Value->Option Addr->Hp->Prop
noncomputable abbrev St:=List (Option V)
abbrev VK:=V->Hp->Prop
abbrev TE:=St->Hp->VK->Prop
abbrev TT:=St->Hp->(Bool->Hp->Prop)->Prop
abbrev TA:=St->Hp->(List V->Hp->Prop)->Prop
structure Ends where
 nx:St->Hp->Prop
 rt:VK
 bk:St->Hp->Prop:=λ_ _=>False
 ct:St->Hp->Prop:=λ_ _=>False
abbrev TS:=Ends->St->Hp->Prop
inductive EP(X:Cx)(pins:List (Addr×Obj))(Y:St)(Q:VK)(u:Value)(s':Shared):Prop
 |mk(v:V)(H':Hp)(i:Inv X pins Y H' s')(r:RelV v u)(q:Q v H')
inductive TP(X:Cx)(pins:List (Addr×Obj))(Y:St)(Q:Bool->Hp->Prop)(b:Bool)(s':Shared):Prop
 |mk(H':Hp)(i:Inv X pins Y H' s')(q:Q b H')
inductive AP(X:Cx)(pins:List (Addr×Obj))(Y:St)(Q:List V->Hp->Prop)(us:List Value)(s':Shared):Prop
 |mk(vs:List V)(H':Hp)(i:Inv X pins Y H' s')(r:Vals vs us)(q:Q vs H')
def SP(X:Cx)(pins:List (Addr×Obj))(D:Ends)(f:Flow)(s':Shared):Prop:=
 match f with
 | .next=>∃Z0 H',Inv X pins Z0 H' s'/\D.nx Z0 H'
 | .brk=>∃Z0 H',Inv X pins Z0 H' s'/\D.bk Z0 H'
 | .cont=>∃Z0 H',Inv X pins Z0 H' s'/\D.ct Z0 H'
 | .ret u=>∃v Z0 H',Inv X pins Z0 H' s'/\RelV v u/\D.rt v H'
def PE(X:Cx)(e:Expr)(t:TE):Prop:=
 ∀(pins:List (Addr×Obj))(s:Shared)(Y:St)(H:Hp)(Q:VK),Inv X pins Y H s->t Y H Q->wpAny (model X.prog X.w) X.A (eval e X.env) (EP X pins Y Q) X.xe s
def PT(X:Cx)(e:Expr)(t:TT):Prop:=
 ∀(pins:List (Addr×Obj))(s:Shared)(Y:St)(H:Hp)(Q:Bool->Hp->Prop),Inv X pins Y H s->t Y H Q->wpAny (model X.prog X.w) X.A (isTrue e X.env (eval e X.env)) (TP X pins Y Q) X.xe s
def PW(X:Cx)(e:Expr)(t:TT):Prop:=
 ∀(I:Sem Value)(pins:List (Addr×Obj))(s:Shared)(Y:St)(H:Hp)(Q:Bool->Hp->Prop),Inv X pins Y H s->t Y H Q->wpAny (model X.prog X.w) X.A (isTrue e X.env I) (TP X pins Y Q) X.xe s
variable{X:Cx}{e:Expr}
theorem PW.pt{t:TT}(h:PW X e t):PT X e t:=h _
def PA(X:Cx)(es:List Expr)(t:TA):Prop:=
 ∀(pos:Pos)(pins:List (Addr×Obj))(s:Shared)(Y:St)(H:Hp)(Q:List V->Hp->Prop),Inv X pins Y H s->t Y H Q->wpAny (model X.prog X.w) X.A (spliced (backTo pos (starEach es X.env))) (AP X pins Y Q) X.xe s
def PS(X:Cx)(st:Stmt)(t:TS):Prop:=
 ∀(pins:List (Addr×Obj))(s:Shared)(Y:St)(H:Hp)(D:Ends),Inv X pins Y H s->t D Y H->wpAny (model X.prog X.w) X.A (exec st X.env) (SP X pins D) X.xe s
def uq(X:Cx)(st:List Stmt)(t:TS):Prop:=
 ∀(pins:List (Addr×Obj))(s:Shared)(Y:St)(H:Hp)(D:Ends),Inv X pins Y H s->t D Y H->wpAny (model X.prog X.w) X.A (execs st X.env) (SP X pins D) X.xe s
variable{α:Type}{s:Shared}
theorem bG{t:Sem α}{Q H:α->Shared->Prop}{M:Model}{A:Around}(h:wpAny M A t Q E s)(X:∀a s,Q a s->H a s):wpAny M A t H E s:=wpAny_mono h X λ_ _ x=>x
variable{pins:List (Addr×Obj)}{Y:St}{R:V->V->Hp->Prop}{pos:Pos}{Q:Value->Shared->Prop}{op:CmpOp}{c:Expr}
section
variable{X:Cx}
theorem bin{a b:Expr}{ta tb:TE}(ha:PE X a ta)(d:PE X b tb)(I:Inv X pins Y H s)(h:ta Y H λx e=>tb Y e λy c=>R x y c)
  {Q:α->Shared->Prop}{f:Value->Value->Sem α}
  (hf:∀v u s2 x y c,Inv X pins Y c s2->RelV x v->RelV y u->R x y c->wpAny (model X.prog X.w) X.A (f v u) Q X.xe s2):
  wpAny (model X.prog X.w) X.A (eval a X.env) (λv Z=>wpAny (model X.prog X.w) X.A (eval b X.env) (λu U=>wpAny (model X.prog X.w) X.A (f v u) Q X.xe U) X.xe Z) X.xe s:=by
 refine bG (ha pins s Y H _ I h) λv s1 ⟨x,e,g,k,l⟩=>?_;refine bG (d pins s1 Y e _ g l) λu s2 ⟨y,c,m,n,o⟩=>?_;exact hf v u s2 x y c m k n o
noncomputable def Gj(i:Nat):TE:=λY H Q=>∃v,Y[i]?=some (some v)/\Q v H
noncomputable def tC(v:V):TE:=λ_ H Q=>Q v H
theorem cU(hN:X.N[i]?=some x)(hv:o9 X.env.scope x)(hd:iw x:=by decide)(hcd:sv x:=by decide):PE X (.Name x pos) (Gj i):=by
 intro pins s Y H Q I h;obtain⟨v,e,h⟩:=h;obtain⟨m,hn,hl⟩:=I.loc;obtain⟨u,r,l⟩:=hl i x v hN e hv;have fin:EP X pins Y Q u s:=⟨v,H,I,r,h⟩
 rcases l with ⟨hk,hm⟩|⟨hk,c,hc,hcell⟩
 .exact wpAny_Name (wpAny_loadName_local I.ok.kind hk hn hm fin) hd
 .rcases hk with hk|hk
  .exact wpAny_Name (wpAny_loadName_cell I.ok.kind hk hc hcell fin) hd
  .exact wpAny_Name (wpAny_loadName_free I.ok.kind hk hc hcell fin hcd) hd
theorem IE{i j pos}:PE X (.Constant (.int i) j pos) (tC (.int i)):=λ_ _ _ H _ I h=>wpAny_Constant_int ⟨.int i,H,I.tok _,⟨_,rfl⟩,h⟩
theorem M0{b j pos}:PE X (.Constant (.bool b) j pos) (tC (.bl b)):=λ_ _ _ H _ I h=>Constant_bool ⟨.bl b,H,I,rfl,h⟩
theorem JO{j pos}:PE X (.Constant .none j pos) (tC .non):=λ_ _ _ H _ I h=>Constant_none ⟨.non,H,I,rfl,h⟩
theorem nL{x j pos}:PE X (.Constant (.str x) j pos) (tC (.str x)):=λ_ _ _ H _ I h=>Calls.Constant_str ⟨.str x,H,I.tok _,⟨_,rfl⟩,h⟩
def Gl(X:Cx)(x:Str):Prop:=X.env.kindOf x=some .globalImplicit
theorem rb(I:Inv X pins Y H s)(hg:Gl X x)(hm:X.mg x=some u)(h:Q u s)
  (hd:iw x:=by decide):wpAny (model X.prog X.w) X.A (eval (.Name x pos) X.env) Q E s:=
 Wn I.ok.kind hg (Calls.loadGlobal_global (by rw[I.ok.glob];exact I.mod.glob.keeps I.bk) hm h) hd
theorem q9(I:Inv X pins Y H s)(hg:Gl X x)(hm:X.mg x=none)(hv:bootBuiltins x=some u)(h:Q u s)
  (hn:x ≠ "__name__" := by decide)(hd:iw x:=by decide):wpAny (model X.prog X.w) X.A (eval (.Name x pos) X.env) Q E s:=by
 obtain⟨mb,h1,h2⟩:=I.mod.blt;exact Wn I.ok.kind hg (Calls.loadGlobal_builtin (by rw[I.ok.glob];exact I.mod.glob.keeps I.bk) hm (by rw[I.ok.blt];exact h1.keeps I.bk) ((h2 x hn).trans hv) h) hd
theorem EH(hg:Gl X x)(hm:X.mg x=some u)(r:RelV v u)(hd:iw x:=by decide):PE X (.Name x pos) (tC v):=
 λ_ _ _ H _ I h=>rb I hg hm ⟨v,H,I,r,h⟩ hd
theorem EY(hg:Gl X x)(hm:X.mg x=none)(hv:bootBuiltins x=some u)(r:RelV v u)(hn:x ≠ "__name__" := by decide)(hd:iw x:=by decide):PE X (.Name x pos) (tC v):=
 λ_ _ _ H _ I h=>q9 I hg hm hv ⟨v,H,I,r,h⟩ hn hd
variable{a b:Expr}{ta tb:TE}{pos:Pos}
def PC(X:Cx)(op:CmpOp)(a b:Expr)(t:TE):Prop:=
 ∀(pins:List (Addr×Obj))(s:Shared)(Y:St)(H:Hp)(Q:VK),Inv X pins Y H s->t Y H Q->
  wpAny (model X.prog X.w) X.A (eval a X.env) (λv Z=>wpAny (model X.prog X.w) X.A (eval b X.env) (λu U=>wpAny (model X.prog X.w) X.A (compareOp op v u) (EP X pins Y Q) X.xe U) X.xe Z) X.xe s
noncomputable def tB(t:TE):TT:=λY H Q=>t Y H λx e=>∃c,x=.bl c/\Q c e
theorem zw{t:TE}(h:PC X op a b t)(h1:behindInMarks op b=false:=by first|exact nobehind _ (by decide) (by decide)|rfl):PE X (.Compare a [op] [b] pos) t:=λpins s Y H Q I hw=>wpAny_Compare1 (h pins s Y H Q I hw) h1
theorem Af{t:TE}(h:PC X op a b t)(h1:behindInMarks op b=false:=by first|exact nobehind _ (by decide) (by decide)|rfl):PT X (.Compare a [op] [b] pos) (tB t):=by intro pins s Y H Q I hw;refine wpAny_isTrue_Compare1 (bG (h pins s Y H _ I hw) λv s1 h1=>bG h1 λu s2 h2=>bG h2 λc s3 ⟨x,H1,I1,r1,q1⟩=>?_) h1;obtain⟨d,rfl,q⟩:=q1;cases r1;exact wpAny_truthy_bool ⟨H1,I1,q⟩
theorem KI{t:TE}(h:PE X e t)(he:∀whole,isTrue e X.env whole=(do let v <- whole;standAt e.pos;holding [v] (truthy v)):=by intro _;rfl):PT X e (tB t):=by intro pins s Y H Q I hw;refine isTrue_plain (bG (h pins s Y H _ I hw) λv s1 ⟨x,H1,I1,r1,q1⟩=>?_) (he _);obtain⟨d,rfl,q⟩:=q1;cases r1;exact wpAny_truthy_bool ⟨H1,I1,q⟩
variable{tA tB':TT}{rest:List Expr}
noncomputable def P8(t u:TT):TT:=λY H Q=>t Y H λc e=>if c=true then u Y e Q else Q false e
noncomputable def RS(t u:TT):TT:=λY H Q=>t Y H λc e=>if c=true then Q true e else u Y e Q
noncomputable def Rh(t:TT):TT:=λY H Q=>t Y H λc e=>Q (!c) e
theorem Gx(ha:PT X a tA):PW X (.BoolOp .And [a] pos) tA:=by
 intro f pins s Y H Q I h;refine isTrue_and (bG (ha pins s Y H Q I h) λc s1 e=>?_);cases c with
 |true=>exact isTrue_and_nil e
 |false=>exact e
theorem LD(ha:PT X a tA):PW X (.BoolOp .Or [a] pos) tA:=by
 intro f pins s Y H Q I h;refine isTrue_or (bG (ha pins s Y H Q I h) λc s1 e=>?_);cases c with
 |false=>exact isTrue_or_nil e
 |true=>exact e
theorem JL(ha:PT X a tA)(d:PW X (.BoolOp .And (b::rest) pos) tB'):PW X (.BoolOp .And (a::b::rest) pos) (P8 tA tB'):=by
 intro f pins s Y H Q I h;refine isTrue_and (bG (ha pins s Y H _ I h) λc s1 ⟨e,g,l⟩=>?_);cases c with
 |true=>exact d f pins s1 Y e Q g l
 |false=>exact⟨e,g,l⟩
theorem ON(ha:PT X a tA)(d:PW X (.BoolOp .Or (b::rest) pos) tB'):PW X (.BoolOp .Or (a::b::rest) pos) (RS tA tB'):=by
 intro f pins s Y H Q I h;refine isTrue_or (bG (ha pins s Y H _ I h) λc s1 ⟨e,g,l⟩=>?_);cases c with
 |true=>exact⟨e,g,l⟩
 |false=>exact d f pins s1 Y e Q g l
theorem Ky(ha:PT X a tA):PT X (.UnaryOp .Not a pos) (Rh tA):=by intro pins s Y H Q I h;exact isTrue_not (bG (ha pins s Y H (λc e=>Q (!c) e) I h) λc s' ⟨H',i,q⟩=>⟨H',i,q⟩)
noncomputable def OV(ta tb:TE):TE:=λY H Q=>ta Y H λx e=>∃c,x=.bl c/\if c=true then tb Y e Q else Q (.bl false) e
noncomputable def QO(ta tb:TE):TE:=λY H Q=>ta Y H λx e=>∃c,x=.bl c/\if c=true then Q (.bl true) e else tb Y e Q
noncomputable def MP(ta:TE):TE:=λY H Q=>ta Y H λx e=>∃c,x=.bl c/\Q (.bl (!c)) e
theorem Jp{op}{t:TE}(h:PE X a t):PE X (.BoolOp op [a] pos) t:=λpins s Y H Q I r=>BoolOp_one (h pins s Y H Q I r)
theorem Lv(ha:PE X a ta)(d:PE X (.BoolOp .And (b::rest) pos) tb):PE X (.BoolOp .And (a::b::rest) pos) (OV ta tb):=by
 intro pins s Y H Q I h;refine BoolOp_and (bG (ha pins s Y H _ I h) λv s1 ⟨x,e,g,k,l⟩=>?_);obtain⟨c,rfl,l⟩:=l;cases k;refine wpAny_truthy_bool ?_;cases c with
 |true=>exact d pins s1 Y e Q g l
 |false=>exact⟨.bl false,e,g,rfl,l⟩
theorem MA(ha:PE X a ta)(d:PE X (.BoolOp .Or (b::rest) pos) tb):PE X (.BoolOp .Or (a::b::rest) pos) (QO ta tb):=by
 intro pins s Y H Q I h;refine BoolOp_or (bG (ha pins s Y H _ I h) λv s1 ⟨x,e,g,k,l⟩=>?_);obtain⟨c,rfl,l⟩:=l;cases k;refine wpAny_truthy_bool ?_;cases c with
 |false=>exact d pins s1 Y e Q g l
 |true=>exact⟨.bl true,e,g,rfl,l⟩
theorem Jd(ha:PE X a ta):PE X (.UnaryOp .Not a pos) (MP ta):=by intro pins s Y H Q I h;refine UnaryOp_ (bG (ha pins s Y H _ I h) λv s1 ⟨x,e,g,k,l⟩=>?_);obtain⟨c,rfl,l⟩:=l;cases k;exact not_of (wpAny_truthy_bool ⟨.bl (!c),e,g,rfl,l⟩)
noncomputable def R0(t:TT)(ta tb:TE):TE:=λY H Q=>t Y H λc e=>if c=true then ta Y e Q else tb Y e Q
theorem Ab(hc:PT X c tA)(ha:PE X a ta)(G:PE X b tb):PE X (.IfExp c a b pos) (R0 tA ta tb):=by
 intro pins s Y H Q I h;refine wpAny_IfExp (bG (hc pins s Y H _ I h) λd s1 ⟨e,g,l⟩=>?_);cases d with
 |true=>exact ha pins s1 Y e Q g l
 |false=>exact G pins s1 Y e Q g l
end
def gI(K:So)(H:Hp)(a:Addr)(xs:List V):Prop:=
 Rd H a (.lst xs) \/
  ∃(o:Obj)(its:Array Value)(n:Nat),K.lookup a=some o/\o.cls=.type "list" /\ o.dict=none/\o.data=.seq its n/\its.size<=sizeLine/\Vals xs its.toList
def gK(K:So)(H:Hp)(a:Addr)(xs:List V):Prop:=
 Rd H a (.tup xs) \/
  ∃(o:Obj)(its:Array Value)(n:Nat),K.lookup a=some o/\(o.cls=.type "tuple" /\ o.dict=none)/\o.data=.seq its n/\its.size<=sizeLine/\Vals xs its.toList
noncomputable def QZ:Value->Option V
 | .none=>some .non
 | .bool b=>some (.bl b)
 | .int i _=>some (.int i)
 | .str x _=>some (.str x)
 | .bytes b _=>some (.byt b)
 | .float b _=>some (.flt b)
 | .ref a=>some (.ref a)
 | .type n=>some (.ty n)
 |_=>none
theorem RelV.abs{x:V}(r:RelV x u):QZ u=some x:=by
 cases x with
 |non=>cases r;rfl
 |bl _=>cases r;rfl
 |int _=>obtain⟨t,rfl⟩:=r;rfl
 |str _=>obtain⟨t,rfl⟩:=r;rfl
 |byt _=>obtain⟨t,rfl⟩:=r;rfl
 |flt _=>obtain⟨t,rfl⟩:=r;rfl
 |ref _=>cases r;rfl
 |ty _=>cases r;rfl
variable{y:V}
theorem RelV.inj{x:V}(r:RelV x u)(q:RelV y u):x=y:=SM (r.abs.symm.trans q.abs)
theorem Vals.inj:∀{xs ys:List V}{us:List Value},Vals xs us->Vals ys us->xs=ys
 |_,_,_,.nil,.nil=>rfl
 |_,_,_,.cons r t,.cons r' t'=>by rw[r.inj r',Vals.inj t t']
section
variable{X:Cx}{pins:List (Addr×Obj)}{Y:St}{H:Hp}{s:Shared}{a:Addr}{xs ys:List V}
theorem Inv.list(I:Inv X pins Y H s)(h:gI X.K H a xs):∃its:List Value,Vals xs its/\PlainL s.heap a its.toArray/\xs.length<=sizeLine:=by
 rcases h with h|⟨o,its,n,hk,hc,hd,u,hz,r⟩
 .obtain⟨z,its,n,r,e⟩:=h.ok I.hok;exact⟨its,r,⟨_,n,e,rfl,rfl,rfl⟩,z⟩
 .refine⟨its.toList,r,⟨o,n,I.ur a o hk,hc,hd,by simpa using u⟩,?_⟩;have e:=r.length;simp only[Tv] at e;lia
theorem Inv.tuple(I:Inv X pins Y H s)(h:gK X.K H a xs):∃its:List Value,Vals xs its/\IsTup s.heap a its.toArray/\xs.length<=sizeLine:=by
 rcases h with h|⟨o,its,n,hk,hc,u,hz,r⟩
 .obtain⟨z,its,r,p⟩:=h.ok I.hok;exact⟨its,r,p.t,z⟩
 .refine⟨its.toList,r,⟨o,I.ur a o hk,hc.1,n,by simpa using u⟩,?_⟩;have e:=r.length;simp only[Tv] at e;lia
theorem Inv.IV(I:Inv X pins Y H s)(h:gK X.K H a xs):∃its:List Value,Vals xs its/\fg s.heap a its.toArray/\xs.length<=sizeLine:=by
 rcases h with h|⟨o,its,n,hk,hc,u,hz,r⟩
 .obtain⟨z,its,r,p⟩:=h.ok I.hok;exact⟨its,r,p,z⟩
 .refine⟨its.toList,r,⟨o,I.ur a o hk,hc.1,n,by simpa using u,hc.2⟩,?_⟩;have e:=r.length;simp only[Tv] at e;lia
theorem Inv.sD(I:Inv X pins Y H s)(h:gI X.K H a xs)(h':gI X.K H a ys):xs=ys:=by
 obtain⟨its,r,⟨o,n,e,_,_,d⟩,_⟩:=I.list h;obtain⟨its',r',⟨o',w,t,_,_,d'⟩,_⟩:=I.list h';rw[e] at t;cases t;rw[d] at d';injection d' with d1 _;have:its=its':=by simpa using congrArg XX d1
 subst this;exact r.inj r'
theorem Inv.qj(I:Inv X pins Y H s)(h:gK X.K H a xs)(h':gK X.K H a ys):xs=ys:=by
 obtain⟨its,r,⟨o,e,_,n,d⟩,_⟩:=I.tuple h;obtain⟨its',r',⟨o',t,_,w,d'⟩,_⟩:=I.tuple h';rw[e] at t;cases t;rw[d] at d';injection d' with d1 _;have:its=its':=by simpa using congrArg XX d1
 subst this;exact r.inj r'
end
section
variable{X:Cx}{st:Stmt}{rest:List Stmt}{t u:TS}{e:Expr}{te:TE}{pos:Pos}
noncomputable def HH:TS:=λD Y H=>D.nx Y H
noncomputable def Qi(t u:TS):TS:=λD Y H=>t { D with nx:=u D } Y H
theorem FX:uq X [] HH:=λ_ _ Y H _ I h=>wpAny_execs_nil ⟨Y,H,I,h⟩
theorem Az(h1:PS X st t)(h2:uq X rest u):uq X (st::rest) (Qi t u):=by
 intro pins s Y H D I h;refine wpAny_execs_cons (bG (h1 pins s Y H { D with nx:=u D } I h) λf s1 q=>?_);cases f with
 |next=>obtain⟨Z0,H',x,q⟩:=q;exact h2 pins s1 Z0 H' D x q
 |ret v=>exact q
 |brk=>exact q
 |cont=>exact q
theorem FA(h1:PS X st t):uq X [st] t:=by
 intro pins s Y H D I h;refine wpAny_execs_cons (bG (h1 pins s Y H D I h) λf s1 q=>?_);cases f with
 |next=>exact wpAny_execs_nil q
 |ret v=>exact q
 |brk=>exact q
 |cont=>exact q
noncomputable def J9:TS:=λD Y H=>D.bk Y H
noncomputable def Ng:TS:=λD Y H=>D.ct Y H
theorem GF:PS X (.Pass pos) HH:=λ_ _ Y H _ I h=>wpAny_Pass ⟨Y,H,I,h⟩
theorem Ao:PS X (.Break pos) J9:=λ_ _ Y H _ I h=>wpAny_Break ⟨Y,H,I,h⟩
theorem s9:PS X (.Continue pos) Ng:=λ_ _ Y H _ I h=>wpAny_Continue ⟨Y,H,I,h⟩
theorem Inv.quiet(I:Inv X pins Y H s):interactive X.env=false:=by simp[interactive,I.ok.kind]
noncomputable def Nh(te:TE):TS:=λD Y H=>te Y H λ_ e=>D.nx Y e
theorem DP(he:PE X e te)(hs:swapsWith e none pos.line X.env=pure false:=by rfl):PS X (.Expr e pos) (Nh te):=by intro pins s Y H D I h;exact wpAny_Expr_any (bG (he pins s Y H _ I h) λv s1 ⟨x,H1,I1,r1,q1⟩=>⟨Y,H1,I1,q1⟩) I.quiet hs
noncomputable def QB(te:TE):TS:=λD Y H=>te Y H D.rt
theorem Jj(p:PE X e te):PS X (.Return (some e) pos) (QB te):=by intro pins s Y H D I h;exact wpAny_Return_some (bG (p pins s Y H _ I h) λv s1 ⟨x,y,g,k,l⟩=>⟨x,Y,y,g,k,l⟩)
noncomputable def Po:TS:=λD _ H=>D.rt .non H
theorem GJ:PS X (.Return none pos) Po:=λ_ _ Y H _ I h=>wpAny_Return_none ⟨.non,Y,H,I,rfl,h⟩
noncomputable def QR(c:TT)(t u:TS):TS:=λD Y H=>c Y H λb e=>if b=true then t D Y e else u D Y e
theorem M4{a b:List Stmt}{j:TT}(hc:PT X c j)(ha:uq X a t)(G:uq X b u):PS X (.If c a b pos) (QR j t u):=by
 intro pins s Y H D I h;refine wpAny_If (bG (hc pins s Y H _ I h) λd s1 ⟨e,g,l⟩=>?_);cases d with
 |true=>exact ha pins s1 Y e D g l
 |false=>exact G pins s1 Y e D g l
end
abbrev TG:=V->St->Hp->(St->Hp->Prop)->Prop
abbrev HR:=List V->St->Hp->(St->Hp->Prop)->Prop
def PG(X:Cx)(h:Expr)(t:TG):Prop:=
 ∀(pins:List (Addr×Obj))(s:Shared)(Y:St)(H:Hp)(v:V)(u:Value)(Q:St->Hp->Prop),Inv X pins Y H s->RelV v u->t v Y H Q->
  wpAny (model X.prog X.w) X.A (assign h X.env u) (λ_ s'=>∃Z0 H',Inv X pins Z0 H' s'/\Q Z0 H') X.xe s
def IS(X:Cx)(ts:List Expr)(t:HR):Prop:=
 ∀(pins:List (Addr×Obj))(s:Shared)(Y:St)(H:Hp)(vs:List V)(us:List Value)(Q:St->Hp->Prop),Inv X pins Y H s->Vals vs us->t vs Y H Q->
  wpAny (model X.prog X.w) X.A (assignInOrder ((assignEach ts X.env).map (·.2)) us) (λ_ s'=>∃Z0 H',Inv X pins Z0 H' s'/\Q Z0 H') X.xe s
abbrev L7:=V->V->V->Hp->(Hp->Prop)->Prop
def Pn(X:Cx)(t:L7):Prop:=
 ∀(pins:List (Addr×Obj))(s:Shared)(Y:St)(H:Hp)(o i v:V)(z C u:Value)(Q:Hp->Prop),Inv X pins Y H s->RelV o z->RelV i C->RelV v u->t o i v H Q->
  wpAny (model X.prog X.w) X.A (setItem z C u) (λ_ s'=>∃H',Inv X pins Y H' s'/\Q H') X.xe s
variable{es:List Expr}{k:Nat}{tg:Expr}{te:TE}
section
variable{X:Cx}{pos:Pos}
noncomputable def BS(i:Nat):TG:=λv Y H Q=>Q (Y.set i (some v)) H
theorem Gn(hN:X.N.Nodup)(hi:X.N[i]?=some x)(hx:Loc X.env.scope x)(hf:X.fn x=true\/X.env.scope.names.lookup x=some .local:=by first|exact .inl rfl|exact .inr rfl|assumption):PG X (.Name x pos) (BS i):=by intro pins s Y H v u Q I r h;exact wpAny_assign_Name (jX I hN hi hx r (λs' I'=>⟨_,H,I',h⟩) hf)
noncomputable def Q7:HR:=λvs Y H Q=>vs=[]/\Q Y H
noncomputable def GX(t:TG)(u:HR):HR:=λvs Y H Q=>∃v r,vs=v::r/\t v Y H λZ0 H'=>u r Z0 H' Q
theorem GC:IS X [] Q7:=by intro pins s Y H vs us Q I r h;obtain⟨e,h⟩:=h;subst e;cases r;exact assignInOrder_nil ⟨Y,H,I,h⟩
theorem Av{t:TG}{u:HR}(h1:PG X e t)(h2:IS X es u)
  (hs:(assignEach (e::es) X.env).map (·.2)=assign e X.env::(assignEach es X.env).map (·.2):=by rfl):IS X (e::es) (GX t u):=by
 intro pins s Y H vs us Q I r h;obtain⟨v,vr,e1,h⟩:=h;subst e1;cases r with
 |cons r rr=>rw[hs];refine assignInOrder_cons (bG (h1 pins s Y H _ _ _ I r h) λ_ s1 ⟨σ1,H1,I1,q1⟩=>?_);exact h2 pins s1 σ1 H1 _ _ Q I1 rr q1
noncomputable def QY(K:So)(n:Nat)(t:HR):TG:=λv Y H Q=>∃a xs,v=.ref a/\gK K H a xs/\xs.length=n/\t xs Y H Q
theorem IW{t:HR}{n:Nat}(hc:X.calm=true)(h:IS X es t)
  (hn:(assignEach es X.env).length=n:=by rfl)(hst:(assignEach es X.env).findIdx? (·.1)=none:=by rfl):PG X (.Tuple es k pos) (QY X.K n t):=by
 intro pins s Y H v u Q I r hw;obtain⟨a,xs,e1,hq,hl,hw⟩:=hw;subst e1;cases r;obtain⟨its,rv,ht,hz⟩:=I.tuple hq;refine assign_Tuple_tuple (I.ok.hd hc) ht (by simp[hn,<-hl,rv.length]) hst λh' hx=>?_;have I1:Inv X pins Y H { s with heap:=h' }:=I.kept (t':=s.toks) λb o e=>hx b o (S4 (SS e)) e;exact h pins _ Y H xs _ Q I1 (by simpa using rv) hw
noncomputable def OX(s A:TE)(t:L7):TG:=λv Y H Q=>s Y H λo e=>A Y e λi c=>t o i v c λD=>Q Y D
theorem Ko{o i:Expr}{to ti:TE}{t:L7}(ho:PE X o to)(hi:PE X i ti)(hs:Pn X t)
  (ha:∀v,assign (.Subscript o i pos) X.env v=(do
   let ov <- holding [v] (eval o X.env)
   let iv <- holding [v,ov] (eval i X.env)
   standAt pos
   holding [v,ov,iv] (setItem ov iv v)
   release [v,ov,iv] []):=by intro _;rfl):PG X (.Subscript o i pos) (OX to ti t):=by
 intro pins s Y H v u Q I r h;rw[ha];refine wpAny_bind (wpAny_holding (bG (ho pins s Y H _ I h) λov s1 ⟨x,H1,I1,r1,q1⟩=>?_));refine wpAny_bind (wpAny_holding (bG (hi pins s1 Y H1 _ I1 q1) λiv s2 ⟨y,H2,I2,r2,q2⟩=>?_));refine wpAny_bind (wpAny_standAt (wpAny_bind (wpAny_holding (bG (hs pins s2 Y H2 x y v ov iv u _ I2 r1 r2 r q2) λ_ s3 ⟨H3,I3,q3⟩=>?_))));exact wpAny_release ⟨Y,H3,I3,q3⟩
noncomputable def Aw(te:TE)(g:TG):TS:=λD Y H=>te Y H λx e=>g x Y e D.nx
theorem Bu{g:TG}(he:PE X e te)(hg:PG X tg g)(hs:swapsWithSole [tg] e pos.line X.env=pure false:=by rfl)(hw:swappedStores [tg] e X.env=pure none:=by rfl)
  (h1:(assignEach [tg] X.env).map (·.2)=[assign tg X.env]:=by rfl):PS X (.Assign [tg] e pos) (Aw te g):=by
 intro pins s Y H D I h;refine wpAny_Assign_stores (bG (he pins s Y H _ I h) λv s1 ⟨x,H1,I1,r1,q1⟩=>?_) hs hw;rw[h1];exact bG (hg pins s1 Y H1 x v _ I1 r1 q1) λ_ s2 q=>q
theorem Jy{pos':Pos}(hN:X.N.Nodup)(hi:X.N[i]?=some x)(hx:Loc X.env.scope x)(he:PE X e te)(hs:swapsWith e (some (.Name x pos')) pos.line X.env=pure false:=by rfl)(hf:X.fn x=true\/X.env.scope.names.lookup x=some .local:=by first|exact .inl rfl|exact .inr rfl|assumption):
  PS X (.Assign [.Name x pos'] e pos) (Aw te (BS i)):=by
 intro pins s Y H D I h;refine wpAny_Assign_Name (bG (he pins s Y H _ I h) λv s1 ⟨y,H1,I1,r1,q1⟩=>?_) hs;exact jX I1 hN hi hx r1 (λs2 I2=>⟨_,H1,I2,q1⟩) hf
noncomputable def NH(i j:Nat)(ta:TA):TS:=λD Y H=>ta Y H λvs e=>∃v w,vs=[v,w]/\D.nx ((Y.set i (some v)).set j (some w)) e
theorem Io{y:Str}{a b:Expr}{ta:TA}{px py pt:Pos}{kt k2 pt2}(hc:X.calm=true)(hN:X.N.Nodup)(hi:X.N[i]?=some x)(hj:X.N[j]?=some y)(hij:i≠j)
  (hx:X.env.scope.names.lookup x=some .local)(hy:X.env.scope.names.lookup y=some .local)(ha:PA X [a,b] ta)
  (hw:swappedStores [.Tuple [.Name x px,.Name y py] kt pt] (.Tuple [a,b] k2 pt2) X.env=pure (some [x,y]))
  (hs:swapsWithSole [.Tuple [.Name x px,.Name y py] kt pt] (.Tuple [a,b] k2 pt2) pos.line X.env=pure false:=by rfl):
  PS X (.Assign [.Tuple [.Name x px,.Name y py] kt pt] (.Tuple [a,b] k2 pt2) pos) (NH i j ta):=by
 intro pins s Y H D I h;rw[exec_Assign_arm];refine wpAny_bind (wpAny_standAt ?_);rw[hs];refine wpAny_bind (wpAny_pure ?_);rw[if_neg (by decide)];refine wpAny_bind (Tuple_ (bG (ha _ pins s Y H _ I h) λus s1 ⟨vs,H1,I1,r1,q1⟩=>?_));obtain⟨v,w,e1,q1⟩:=q1;subst e1;obtain⟨u1,u2,rfl,rv,rw'⟩:∃u1 u2,us=[u1,u2]/\RelV v u1/\RelV w u2:=by
  cases r1 with
  |cons p q=>
   cases q with
   |cons p' q'=>cases q';exact⟨_,_,rfl,p,p'⟩
 refine wpAny_newObj_type ?_ (by show 2<=sizeLine;decide);have I2:Inv X pins Y H1 { s1 with heap:=s1.heap.push { cls:=.type "tuple",data:=.seq [u1,u2].toArray } }:=I1.kept (t':=s1.toks) λb o e=>SA _ e;rw[hw];refine wpAny_bind (wpAny_pure ?_);show wpAny (model X.prog X.w) X.A (do rule "assign.swapped-stores";let items <- unpackItems (.ref s1.heap.objs.size) 2 none;assignInOrder [λv=>bindName X.env y v,λv=>bindName X.env x v] items.reverse;pure YY) _ _ _;refine wpAny_bind (wpAny_rule (wpAny_bind (unpackItems_tuple (items:=#[u1,u2]) (I.ok.hd hc) (IsTup.new s1.heap _) λh' hx'=>?_)));have I3:=I2.kept (h':=h') (t':=s1.toks) λb o e=>hx' b o (S4 (SS e)) e;show wpAny _ _ (assignInOrder [λv=>bindName X.env y v,λv=>bindName X.env x v] [u2,u1] >>= λ_=>pure YY) _ _ _;refine wpAny_bind (assignInOrder_cons (wpAny_bindName (jX I3 hN hj (.inl hy) rw' (λs2 I4=>?_) (.inr hy))));refine assignInOrder_cons (wpAny_bindName (jX I4 hN hi (.inl hx) rv (λs3 I5=>assignInOrder_nil (wpAny_pure ?_)) (.inr hx)));rw[List.set_comm _ _ (T6 hij)] at I5;exact⟨_,H1,I5,q1⟩
end
variable{body:List Stmt}{tb:TS}
section
variable{X:Cx}{pos:Pos}
def Jh (c:TT) (tb:TS):TS:=fun D Y H=>∃ W:Nat → St → Hp → Prop,(∃ m,W m Y H) ∧ ∀ m Y H,W m Y H →
 c Y H fun b H1=>if b = true then ∃ N:St → Hp → Prop,(∀ Z0 H',N Z0 H' → ∃ U,U < m ∧ W U Z0 H') ∧ tb { D with nx:=N,ct:=N,bk:=D.nx } Y H1 else D.nx Y H1
theorem zW   {j:TT}  (hp:PassesOwn (model X.prog X.w) X.A X.env X.xe) (hc:PT X c j) (d:uq X body tb):PS X (.While c body [] pos) (Jh j tb):=by
 intro pins s Y H D I h;obtain ⟨W,⟨Z,a⟩,J⟩:=h;refine wpAny_While (codeAny_whileLoop (fun n s'=>∃ Z0 H',Inv X pins Z0 H' s' ∧ W n Z0 H') ?_ Z ⟨Y,H,I,a⟩);rintro n s1 ⟨E,e,g,m⟩;refine wpAny_passesOwn hp (bG (hc pins s1 E e _ g (J n E e m)) fun b s2 ⟨H2,I2,o⟩=>?_);cases b with
 |true=>
  obtain ⟨N,hN,o⟩:=o;rw [if_pos rfl];refine wpAny_passesOwn hp (bG (d pins s2 E H2 _ I2 o) λf r L=>?_);cases f with
  |next=>obtain⟨V,K,O,P⟩:=L;obtain⟨U,hm,Q⟩:=hN V K P;exact⟨U,hm,V,K,O,Q⟩
  |cont=>obtain⟨V,K,O,P⟩:=L;obtain⟨U,hm,Q⟩:=hN V K P;exact⟨U,hm,V,K,O,Q⟩
  |brk=>exact L
  |ret v=>exact L
 |false=>rw[if_neg Tg];exact wpAny_execs_nil ⟨E,H2,I2,o⟩
end
structure It where
 go:Nat->Hp->Prop
 yld:Nat->Hp->V->Hp->Prop
 stop:Nat->Hp->Prop
def oN(X:Cx)(pins:List (Addr×Obj))(H:Hp)(b:Addr):Prop:=
 H b=none/\b≠X.env.locals/\b∉X.fs/\(b∈X.ex\/X.s₀.heap.objs.size<=b)/\(∀x c,X.env.cells.lookup x=some c->c≠b)/\∀p∈X.pn++pins,p.1≠b
theorem Inv.An{H':Hp}(I:Inv X pins Y H s)(d:s.heap.objs.size<=b)(hn:H' b=none):oN X pins H' b:=by
 refine⟨hn,Yc (SH I.lt d),I.Mz d,.inr (SW I.sz d),λx c e z=>?_,λp hp z=>?_⟩
 .obtain⟨v,q⟩:=I.cell x c e;exact absurd (SH q.lt (by rw[z];exact d)) (TB _)
 .exact absurd (SH (SS (I.pin p hp).1) (by rw[z];exact d)) (TB _)
structure Turn(P:Program)(w:World)(K:So)(tg:Expr)(J:It)(fp:List Addr)(it:Addr)(tn:Nat->Heap->Prop):Prop where
 mem:it∈fp
 obj:∀i h,tn i h->∀b∈fp,∃o,h.get? b=some o/\∀v,o.data≠.cell v
 keep:∀i h h',tn i h->(∀b∈fp,∀o,h.get? b=some o->h'.get? b=some o)->tn i h'
 item:∀(X:Cx),X.prog=P->X.w=w->X.K=K->X.calm=true->∀(i:Nat)(pins:List (Addr×Obj))(s:Shared)(Y:St)(H:Hp)(E:Value->Shared->Prop),Inv X pins Y H s->(∀b∈fp,oN X pins H b)->tn i s.heap->J.go i H->
  wpAny (model P w) X.A (pyNext (.ref it)) (λr s1=>∃u,r=some u /\
   wpAny (model P w) X.A (letOwnedTupleGo tg (.ref it) u) (λ_ s2=>∃x H',Inv X pins Y H' s2/\RelV x u/\J.yld i H x H'/\tn (i+1) s2.heap/\∀b∈fp,H' b=none) E s1) E s
 done:∀(X:Cx),X.prog=P->X.w=w->X.K=K->X.calm=true->∀(i:Nat)(pins:List (Addr×Obj))(s:Shared)(Y:St)(H:Hp)(E:Value->Shared->Prop),Inv X pins Y H s->(∀b∈fp,oN X pins H b)->tn i s.heap->J.stop i H->
  wpAny (model P w) X.A (pyNext (.ref it)) (λr s1=>r=none/\Inv X pins Y H s1) E s
 self:∀(A:Around)(i:Nat)(s:Shared)(Q:Value->Shared->Prop)(E:Value->Shared->Prop),tn i s.heap->Q (.ref it) s->wpAny (model P w) A (pyIter (.ref it)) Q E s
abbrev TI:=St->Hp->(It->Hp->Prop)->Prop
def RI(X:Cx)(pins:List (Addr×Obj))(Y:St)(tg:Expr)(R:It->Hp->Prop)(H:Value)(s2:Shared):Prop:=
 ∃(it:Addr)(fp:List Addr)(tn:Nat->Heap->Prop)(J:It)(H':Hp),H=.ref it/\Inv X pins Y H' s2/\Turn X.prog X.w X.K tg J fp it tn/\tn 0 s2.heap/\(∀b∈fp,oN X pins H' b)/\R J H'
def PI(X:Cx)(tg iter:Expr)(I:TI):Prop:=
 ∀(pins:List (Addr×Obj))(s:Shared)(Y:St)(H:Hp)(R:It->Hp->Prop),Inv X pins Y H s->I Y H R->
  wpAny (model X.prog X.w) X.A (eval iter X.env) (λv s1=>wpAny (model X.prog X.w) X.A (pyIter v) (RI X pins Y tg R) X.xe s1) X.xe s
theorem uh{M:Model}{A:Around}{n:String}{vs:Array Value}{Q:Unit->Shared->Prop}(i:s.heap.get? it=some o)(hc:o.cls=.type n)(hd:o.data=.fields vs)
    (hn:["enumerate", "zip", "dict_itemiterator", "dict_reverseitemiterator", "odict_iterator", "itertools.zip_longest", "itertools.pairwise"].contains n=false)(X:Q () s):wpAny M A (letOwnedTupleGo tg (.ref it) u) Q E s:=by
  unfold letOwnedTupleGo;cases tg<;>first
    |exact wpAny_pure X
    | (cases u<;>first
        |exact wpAny_pure X
        | (refine wpAny_bind (wpAny_load i ?_)
           rw[hc,hd]
           show wpAny M A (if (["enumerate", "zip", "dict_itemiterator", "dict_reverseitemiterator", "odict_iterator", "itertools.zip_longest", "itertools.pairwise"].contains n&&vs[0]?==some (rawInt _))=true then _ else _) Q E s
           rw[if_neg (by intro h;rw[hn,VE] at h;cases h)]
           exact wpAny_pure X))
noncomputable def QE(K:So)(a:Addr):It:=
 ⟨λi H=>∃xs x,gI K H a xs/\xs[i]?=some x,λi H x H'=>H'=H/\∀xs,gI K H a xs->xs[i]?=some x,λi H=>∃xs,gI K H a xs/\xs.length<=i⟩
noncomputable def RJ(K:So)(a:Addr):It:=
 ⟨λi H=>∃xs x,gK K H a xs/\xs[i]?=some x,λi H x H'=>H'=H/\∀xs,gK K H a xs->xs[i]?=some x,λi H=>∃xs,gK K H a xs/\xs.length<=i⟩
noncomputable def PU(lo:Int)(n:Nat):It:=⟨λi _=>i<n,λi H x H'=>H'=H/\x=.int (lo+i),λi _=>n<=i⟩
variable{K:So}
theorem pQ(a it:Addr):Turn P w K tg (QE K a) [it] it (λi h=>h.IsListIter it a i) where
 mem:=by simp
 obj:=λi h st b G=>by
  have e:b=it:=by simpa using G
  subst e;obtain⟨o,e,c,d⟩:=st;exact⟨o,e,λv z=>by rw[d] at z;cases z⟩
 keep:=λi h h' st k=>st.at λo e=>k it (by simp) o e
 item:=by intro X n r y hc i pins s Y H E I hf st N;subst n r y;obtain⟨xs,x,j,A⟩:=N;obtain⟨its,C,p,hz⟩:=I.list j;obtain⟨u,f,Q⟩:=C.get A;obtain⟨D,F,R,J,L,O⟩:=hf it (by simp);refine wpAny_pyNext_list_item st p.isList (x:=u) (by simpa using f) λh' V S=>?_;have g:Inv X pins Y H { s with heap:=h' }:=I.turned (t':=s.toks) (λb o G e=>(S.2 b G).trans e) D F J L O;obtain⟨o,e,c,d⟩:=id V;exact⟨u,rfl,uh (s:={ s with heap:=h' }) e c d (by decide) ⟨x,H,g,Q,⟨rfl,λys T=>by rw[I.sD T j];exact A⟩,V,λb G=>(hf b G).1⟩⟩
 done:=by intro X n r y hc i pins s Y H E I hf st N;subst n r y;obtain⟨xs,j,A⟩:=N;obtain⟨its,C,p,hz⟩:=I.list j;obtain⟨D,F,R,J,L,O⟩:=hf it (by simp);have hl:=C.length;exact wpAny_pyNext_list_end (I.ok.hd hc) st p.isList (by simp;lia) λh' Z=>⟨rfl,I.turned (t':=s.toks) (λb o G e=>Z b o G e) D F J L O⟩
 self:=λ_ _ _ _ _ st h=>wpAny_pyIter_listiter st h
theorem vj(a it:Addr):Turn P w K tg (RJ K a) [it] it (λi h=>h.IsTupleIter it a i) where
 mem:=by simp
 obj:=λi h st b G=>by
  have e:b=it:=by simpa using G
  subst e;obtain⟨o,e,c,d⟩:=st;exact⟨o,e,λv z=>by rw[d] at z;cases z⟩
 keep:=λi h h' st k=>st.at λo e=>k it (by simp) o e
 item:=by intro X n r y hc i pins s Y H E I hf st N;subst n r y;obtain⟨xs,x,j,A⟩:=N;obtain⟨its,C,p,hz⟩:=I.tuple j;obtain⟨u,f,Q⟩:=C.get A;obtain⟨D,F,R,J,L,O⟩:=hf it (by simp);refine wpAny_pyNext_tuple_item st (show s.heap.IsTuple a its.toArray from p) (x:=u) (by simpa using f) λh' V S=>?_;have g:Inv X pins Y H { s with heap:=h' }:=I.turned (t':=s.toks) (λb o G e=>(S.2 b G).trans e) D F J L O;obtain⟨o,e,c,d⟩:=id V;exact⟨u,rfl,uh (s:={ s with heap:=h' }) e c d (by decide) ⟨x,H,g,Q,⟨rfl,λys T=>by rw[I.qj T j];exact A⟩,V,λb G=>(hf b G).1⟩⟩
 done:=by intro X n r y hc i pins s Y H E I hf st N;subst n r y;obtain⟨xs,j,A⟩:=N;obtain⟨its,C,p,hz⟩:=I.tuple j;obtain⟨D,F,R,J,L,O⟩:=hf it (by simp);have hl:=C.length;exact wpAny_pyNext_tuple_end (I.ok.hd hc) st (show s.heap.IsTuple a its.toArray from p) (by simp;lia) λh' Z=>⟨rfl,I.turned (t':=s.toks) (λb o G e=>Z b o G e) D F J L O⟩
 self:=λ_ _ _ _ _ st h=>wpAny_pyIter_tupleiter st h
theorem vb(it:Addr)(lo:Int)(n:Nat):Turn P w K tg (PU lo n) [it] it (λi h=>IsRangeIter h it (lo+(i:Nat)*1) ((n:Int)-(i:Nat)) 1) where
 mem:=by simp
 obj:=λi h st b d=>by
  have e:b=it:=by simpa using d
  subst e;exact⟨_,st,λv z=>by have a:Data.fields _=Data.cell v:=z;cases a⟩
 keep:=λi h h' st k=>k it (by simp) _ st
 item:=by intro X x r y hc i pins s Y H E I hf st N;subst x r y;obtain⟨D,F,R,J,L,O⟩:=hf it (by simp);have W:=Walks.range (prog:=X.prog) (w:=X.w) (I.ok.hd hc) it lo 1 n;refine W.item i s _ _ N st λv h' tk c V m=>?_;obtain⟨t,rfl⟩:=c;have g:Inv X pins Y H { s with heap:=h',toks:=tk }:=I.turned (λb o d e=>m b o (by simpa using d) e) D F J L O;refine⟨_,rfl,uh (s:={ s with heap:=h',toks:=tk }) (n:= "range_iterator") V rfl rfl (by decide) ⟨.int (lo+i),H,g,⟨t,?_⟩,⟨rfl,rfl⟩,V,λb d=>(hf b d).1⟩⟩;rw[Int.mul_one]
 done:=by intro X x r y hc i pins s Y H E I hf st N;subst x r y;obtain⟨D,F,R,J,L,O⟩:=hf it (by simp);exact wpAny_pyNext_range_end (I.ok.hd hc) st (by have:n<=i:=N;lia) λh' Z=>⟨rfl,I.turned (t':=s.toks) (λb o d e=>Z b o d e) D F J L O⟩
 self:=λ_ _ _ _ _ st h=>wpAny_pyIter_rangeiter st h
variable{fp:List Addr}
section
variable{X:Cx}{tg:Expr}
def Hz(K:So)(b:TE):TI:=λY H R=>b Y H λx e=>∃a,x=.ref a/\(∃xs,gI K e a xs)/\R (QE K a) e
theorem D5{l:Expr}{z:TE}(hl:PE X l z):PI X tg l (Hz X.K z):=by
 intro pins s Y H R I h;refine bG (hl pins s Y H _ I h) λv s1 ⟨x,y,g,k,E⟩=>?_;obtain⟨a,e,⟨xs,j⟩,q⟩:=E;subst e;cases k;obtain⟨its,C,p,hz⟩:=g.list j;refine wpAny_pyIter_list p.isList ?_;refine⟨s1.heap.objs.size,[s1.heap.objs.size],_,_,y,rfl,g.kept (t':=s1.toks) λb o e=>SA _ e,pQ a _,⟨_,S1 _ rfl,rfl,rfl⟩,λb d=>?_,q⟩;have e:b=s1.heap.objs.size:=by simpa using d
 subst e;exact g.An (SK _) (g.hok.fresh (SK _))
theorem Df{R:It->Hp->Prop}{lo hi:Int}{t u v:Tok}{tk:Nat}(I:Inv X pins Y H s)(h1:-(2^62)<=lo)(h2:lo<2^62)(h3:-(2^62)<=hi)(h4:hi<2^62)
  (q:R (PU lo (hi-lo).toNat) H):wpAny (model X.prog X.w) X.A (pyIter (.ref s.heap.objs.size)) (RI X pins Y tg R) E { s with heap:=s.heap.push { cls:=.type "range",data:=.fields #[.int lo t,.int hi u,.int 1 v] },toks:=tk }:=by
 refine wpAny_pyIter_range (IsRange.new ..) (small_one h1 h2 h3 h4) ?_;have g:Inv X pins Y H { s with heap:=s.heap.push { cls:=.type "range",data:=.fields #[.int lo t,.int hi u,.int 1 v] },toks:=tk }:=I.kept λb o e=>SA _ e;refine⟨(s.heap.push { cls:=.type "range",data:=.fields #[.int lo t,.int hi u,.int 1 v] }).objs.size,[(s.heap.push { cls:=.type "range",data:=.fields #[.int lo t,.int hi u,.int 1 v] }).objs.size],_,_,H,rfl,
  g.kept (t':=tk) λb o e=>SA _ e,vb _ lo (hi-lo).toNat,?_,λb d=>?_,q⟩
 .have F:lo+((0:Nat):Int)*1=lo:=by simp
  have j:(((hi-lo).toNat:Nat):Int)-((0:Nat):Int)=Yd lo hi 1:=by rw[rangeSize_one];split<;>lia
  show IsRangeIter _ _ (lo+((0:Nat):Int)*1) ((((hi-lo).toNat:Nat):Int)-((0:Nat):Int)) 1;rw[F,j];exact S1 _ rfl
 .have e:b=(s.heap.push { cls:=.type "range",data:=.fields #[.int lo t,.int hi u,.int 1 v] }).objs.size:=by simpa using d
  subst e;exact g.An (SK _) (g.hok.fresh (SK _))
def NP(ta:TA):TI:=λY H R=>ta Y H λvs e=>∃j:Int,vs=[.int j] /\ -(2^62)<=j/\j<2^62/\R (PU 0 j.toNat) e
theorem xQ{a:Expr}{ta:TA}{p:Pos}(hg:Gl X "range")(hm:X.mg "range" = none)(ha:PA X [a] ta)(hs:starEach [a] X.env=[(false,eval a X.env)]:=by rfl):PI X tg (.Call (.Name "range" p) [a] [] pos) (NP ta):=by
 intro pins s Y H R I h;refine Call_ (q9 I hg hm boot_range (VJ (bG (ha pos pins s Y H _ I h) λus s1 ⟨vs,H1,I1,r1,q1⟩=>?_) hs rfl));obtain⟨j,e,q1,q2,q⟩:=q1;subst e;cases r1 with
 |cons r rr=>cases rr;obtain⟨t,rfl⟩:=r;exact call_range_1 (Df I1 (by lia) (by lia) q1 q2 (by simpa using q))
def Qz(I:TI)(g:TG)(tb:TS):TS:=λD Y H=>I Y H λJ e=>∃W:Nat->Nat->St->Hp->Prop,(∃m,W 0 m Y e)/\∀i m Y H,W i m Y H->
 (J.stop i H/\D.nx Y H)\/(J.go i H/\∃N:St->Hp->Prop,(∀Z0 H',N Z0 H'->∃U,U<m/\W (i+1) U Z0 H')/\∀x H',J.yld i H x H'->g x Y H' λR c=>tb { D with nx:=N,ct:=N,bk:=D.nx } R c)
noncomputable def oJ(fp:List Addr)(h:Heap):List (Addr×Obj):=fp.filterMap λb=>(h.get? b).map λo=>(b,o)
theorem gR(d:b∈fp)(e:h.get? b=some o):(b,o)∈oJ fp h:=VW.mpr ⟨b,d,by rw[e];rfl⟩
theorem yJ{p:Addr×Obj}(hp:p∈oJ fp h):p.1∈fp/\h.get? p.1=some p.2:=by
 obtain⟨b,d,e⟩:=VW.mp hp;cases q:h.get? b with
 |none=>rw[q] at e;cases e
 |some o=>rw[q] at e;have t:(b,o)=p:=SM e;subst t;exact⟨d,q⟩
theorem Inv.pinned(I:Inv X pins Y H s)(hf:∀b∈fp,oN X pins H b)(i:∀b∈fp,∃o,s.heap.get? b=some o/\∀v,o.data≠.cell v):Inv X (pins++oJ fp s.heap) Y H s:=
 I.qF λp hp=>(Su.mp hp).elim (λz=>I.pin p (Sr _ z)) λz=>by obtain⟨G,e⟩:=yJ z;obtain⟨D,F,R,_⟩:=hf p.1 G;obtain⟨o,t,d⟩:=i p.1 G;rw[e] at t;cases t;exact⟨e,D,F,R,d⟩
theorem Inv.dR{pl:List (Addr×Obj)}(I:Inv X (pins++pl) Y H s):Inv X pins Y H s:=I.qF λp hp=>I.pin p (Sr _ (Sv _ hp))
theorem K0{iter:Expr}{wi:TI}{g:TG}(hp:PassesOwn (model X.prog X.w) X.A X.env X.xe)(hc:X.calm=true)(hi:PI X tg iter wi)(hg:PG X tg g)(hb:uq X body tb)
  (hs:∀x,foldedSetIterable iter X.env x=pure x:=by intro _;rfl):PS X (.For tg iter body [] pos) (Qz wi g tb):=by
 intro pins s Y H D I h;refine wpAny_For (bG (hi pins s Y H _ I h) λv s1 h1=>bG h1 λitv s2 h2=>?_) hs;obtain⟨it,fp,tn,J,H2,e,I2,T,st2,f2,W,⟨m0,w0⟩,turn⟩:=h2;subst e;have stat:∀{H':Hp},(∀b∈fp,H' b=none)->∀b∈fp,oN X pins H' b:=λhn b hb=>⟨hn b hb,(f2 b hb).2⟩
 refine codeAny_forLoop_any (λn s'=>∃i Z0 H',Inv X pins Z0 H' s'/\tn i s'.heap/\(∀b∈fp,H' b=none)/\W i n Z0 H') ?_ m0 ⟨0,Y,H2,I2,st2,λb hb=>(f2 b hb).1,w0⟩;rintro n s3 ⟨i,V,H3,I3,st3,fr3,w3⟩;rcases turn i n V H3 w3 with ⟨stop,qn⟩|⟨go,N,hN,step⟩
 .refine wpAny_passesOwn hp (bG (T.done X rfl rfl rfl hc i pins s3 V H3 X.xe I3 (stat fr3) st3 stop) λr s4 ⟨hr,I4⟩=>?_);subst hr;exact wpAny_execs_nil ⟨V,H3,I4,qn⟩
 .refine wpAny_passesOwn hp (bG (T.item X rfl rfl rfl hc i pins s3 V H3 X.xe I3 (stat fr3) st3 go) λr s4 ⟨u,hr,h4⟩=>?_);subst hr;refine wpAny_passesOwn hp (bG h4 λ_ s5 ⟨x,H5,I5,r5,y5,st5,fr5⟩=>?_);have I5':=I5.pinned (stat fr5) (T.obj _ _ st5);refine wpAny_passesOwn hp (bG (hg _ s5 V H5 x u _ I5' r5 (step x H5 y5)) λ_ s6 ⟨R,H6,I6,q6⟩=>?_);refine wpAny_passesOwn hp (bG (hb _ s6 R H6 _ I6 q6) λf s7 q7=>?_);have again:∀{Z:St}{H7:Hp},Inv X (pins++oJ fp s5.heap) Z H7 s7->N Z H7->∃m,m<n/\∃i Z0 H',Inv X pins Z0 H' s7/\tn i s7.heap/\(∀b∈fp,H' b=none)/\W i m Z0 H':=λ{Z H7} I7 n7=>by obtain⟨m',hm,w7⟩:=hN Z H7 n7;refine⟨m',hm,i+1,Z,H7,I7.dR,T.keep _ _ _ st5 λb hb o e=>(I7.pin (b,o) (Sr _ (Sr _ (gR hb e)))).1,λb hb=>?_,w7⟩;obtain⟨o,e,d⟩:=T.obj _ _ st5 b hb;exact(I7.pin (b,o) (Sr _ (Sr _ (gR hb e)))).2.1
  cases f with
  |next=>obtain⟨Z,H7,I7,n7⟩:=q7;exact again I7 n7
  |cont=>obtain⟨Z,H7,I7,n7⟩:=q7;exact again I7 n7
  |brk=>obtain⟨Z,H7,I7,q7⟩:=q7;exact⟨Z,H7,I7.dR,q7⟩
  |ret v=>obtain⟨x7,Z,H7,I7,r7,q7⟩:=q7;exact⟨x7,Z,H7,I7.dR,r7,q7⟩
end
abbrev R2:=V->V->Hp->VK->Prop
def d6(X:Cx)(f:Value->Value->Sem Value)(r:R2):Prop:=
 ∀(pins:List (Addr×Obj))(s:Shared)(Y:St)(H:Hp)(x y:V)(v u:Value)(Q:VK),Inv X pins Y H s->RelV x v->RelV y u->r x y H Q->
  wpAny (model X.prog X.w) X.A (f v u) (EP X pins Y Q) X.xe s
def QJ(X:Cx)(f:Value->Sem Value)(r:V->Hp->VK->Prop):Prop:=
 ∀(pins:List (Addr×Obj))(s:Shared)(Y:St)(H:Hp)(x:V)(v:Value)(Q:VK),Inv X pins Y H s->RelV x v->r x H Q->
  wpAny (model X.prog X.w) X.A (f v) (EP X pins Y Q) X.xe s
def cx(X:Cx)(f:Value)(r:List V->Hp->VK->Prop):Prop:=
 ∀(pins:List (Addr×Obj))(s:Shared)(Y:St)(H:Hp)(xs:List V)(us:List Value)(Q:VK),Inv X pins Y H s->Vals xs us->r xs H Q->
  wpAny (model X.prog X.w) X.A (call f us) (EP X pins Y Q) X.xe s
noncomputable def Ph(r:R2)(ta tb:TE):TE:=λY H Q=>ta Y H λx e=>tb Y e λy c=>r x y c Q
noncomputable def RO(r:V->Hp->VK->Prop)(ta:TE):TE:=λY H Q=>ta Y H λx e=>r x e Q
noncomputable def rI(C:Int->Int->Prop)(g:Int->Int->V):R2:=λx y H Q=>∃i j,x=.int i/\y=.int j/\C i j/\Q (g i j) H
noncomputable def tX(g:Int->Int->V):R2:=λx y H Q=>∃i j,x=.int i/\y=.int j/\Q (g i j) H
def rU(g:Int->V):V->Hp->VK->Prop:=λx H Q=>∃i,x=.int i/\Q (g i) H
variable{f:Value->Value->Sem Value}{r:R2}
section
variable{X:Cx}{a b c:Expr}{ta tb j:TE}{pos:Pos}
theorem Lh(ha:PE X a ta)(d:PE X b tb)(I:Inv X pins Y H s)
  (h:ta Y H λx e=>tb Y e λy c=>R x y c)
  (hf:∀v u s2 x y c,Inv X pins Y c s2->RelV x v->RelV y u->R x y c->wpAny (model X.prog X.w) X.A (f v u) Q X.xe s2):
  wpAny (model X.prog X.w) X.A (eval a X.env) (λv Z=>wpAny (model X.prog X.w) X.A (eval b X.env) (λu U=>wpAny (model X.prog X.w) X.A (f v u) Q X.xe U) X.xe Z) X.xe s:=by
 refine bG (ha pins s Y H _ I h) λv s1 ⟨x,e,g,k,l⟩=>?_;refine bG (d pins s1 Y e _ g l) λu s2 ⟨y,c,m,n,o⟩=>?_;exact hf v u s2 x y c m k n o
theorem MC{op:Operator}(i:d6 X (binaryOp op) r)(ha:PE X a ta)(d:PE X b tb):PE X (.BinOp a op b pos) (Ph r ta tb):=by intro pins s Y H Q I h;exact wpAny_BinOp (Lh ha d I h λv u s2 x y c m K P q=>i pins s2 Y c x y v u Q m K P q)
theorem NG{op:UnaryOp}{r:V->Hp->VK->Prop}(i:QJ X (unaryOp op) r)(ha:PE X a ta):PE X (.UnaryOp op a pos) (RO r ta):=by intro pins s Y H Q I h;exact UnaryOp_ (bG (ha pins s Y H _ I h) λv s1 ⟨x,e,g,k,l⟩=>i pins s1 Y e x v Q g k l)
theorem oV{C:Int->Int->Prop}{g:Int->Int->Int}
  (rule:∀(i j:Int)(t u:Tok)(s:Shared)(Q:Value->Shared->Prop)(E:Value->Shared->Prop),C i j->Q (.int (g i j) s.toks) { s with toks:=s.toks+1 }->wpAny (model X.prog X.w) X.A (f (.int i t) (.int j u)) Q E s):
  d6 X f (rI C λi j=>.int (g i j)):=by
 intro pins s Y H x y v u Q I K P h;obtain⟨i,j,rfl,rfl,hc,q⟩:=h;obtain⟨t,rfl⟩:=K;obtain⟨t',rfl⟩:=P;exact rule i j t t' s _ _ hc ⟨.int (g i j),H,I.tok _,⟨_,rfl⟩,q⟩
theorem NS{g:Int->Int->Int}
  (rule:∀(i j:Int)(t u:Tok)(s:Shared)(Q:Value->Shared->Prop)(E:Value->Shared->Prop),Q (.int (g i j) s.toks) { s with toks:=s.toks+1 }->wpAny (model X.prog X.w) X.A (f (.int i t) (.int j u)) Q E s):
  d6 X f (tX λi j=>.int (g i j)):=by
 intro pins s Y H x y v u Q I K P h;obtain⟨i,j,rfl,rfl,q⟩:=h;obtain⟨t,rfl⟩:=K;obtain⟨t',rfl⟩:=P;exact rule i j t t' s _ _ ⟨.int (g i j),H,I.tok _,⟨_,rfl⟩,q⟩
theorem DE{g:Int->Int->Bool}
  (rule:∀(i j:Int)(t u:Tok)(s:Shared)(Q:Value->Shared->Prop)(E:Value->Shared->Prop),Q (.bool (g i j)) s->wpAny (model X.prog X.w) X.A (f (.int i t) (.int j u)) Q E s):
  d6 X f (tX λi j=>.bl (g i j)):=by
 intro pins s Y H x y v u Q I K P h;obtain⟨i,j,rfl,rfl,q⟩:=h;obtain⟨t,rfl⟩:=K;obtain⟨t',rfl⟩:=P;exact rule i j t t' s _ _ ⟨.bl (g i j),H,I,rfl,q⟩
def NY(i j:Int):Prop:=0<=j/\j<=1000000/\i.natAbs<2^64
theorem KN:d6 X (binaryOp .Add) (tX λi j=>.int (i+j)):=NS λ_ _ _ _ _ _ _ q=>add_int q
theorem KS:d6 X (binaryOp .Sub) (tX λi j=>.int (i-j)):=NS λ_ _ _ _ _ _ _ q=>sub_int q
theorem DT:d6 X (binaryOp .Mod) (rI (λ_ j=>j≠0) λi j=>.int (i.fmod j)):=oV λ_ _ _ _ _ _ _ hc q=>mod_int' hc q
theorem IU:d6 X (binaryOp .Pow) (rI NY λi j=>.int (i^j.toNat)):=oV λ_ _ _ _ _ _ _ hc q=>pow_int_small hc.1 hc.2.1 hc.2.2 q
theorem Sb{f:Value->Sem Value}{g:Int->Int}
  (rule:∀(i:Int)(t:Tok)(s:Shared)(Q:Value->Shared->Prop)(E:Value->Shared->Prop),Q (.int (g i) s.toks) { s with toks:=s.toks+1 }->wpAny (model X.prog X.w) X.A (f (.int i t)) Q E s):
  QJ X f (rU λi=>.int (g i)):=by
 intro pins s Y H x v Q I K h;obtain⟨i,rfl,q⟩:=h;obtain⟨t,rfl⟩:=K;exact rule i t s _ _ ⟨.int (g i),H,I.tok _,⟨_,rfl⟩,q⟩
theorem J6:QJ X (unaryOp .USub) (rU λi=>.int (-i)):=Sb λ_ _ _ _ _ q=>neg_int q
end
variable{op':CmpOp}{r':R2}{us:List Value}
section
variable{X:Cx}{a b c:Expr}{ta tb j:TE}{pos:Pos}
theorem rM{Q:VK}{k h:Bool}(I:Inv X pins Y H s)(q:Q (.bl k) H)(e:k=h):EP X pins Y Q (.bool h) s:=by subst e;exact⟨.bl k,H,I,rfl,q⟩
theorem xi:d6 X (compareOp .Lt) (tX λi j=>.bl (decide (i<j))):=DE λ_ _ _ _ _ _ _ q=>lt_int q
theorem HX:d6 X (compareOp .LtE) (tX λi j=>.bl (decide (i<=j))):=DE λ_ _ _ _ _ _ _ q=>le_int q
theorem BZ:d6 X (compareOp .Gt) (tX λi j=>.bl (decide (j<i))):=DE λ_ _ _ _ _ _ _ q=>gt_int q
theorem CG:d6 X (compareOp .GtE) (tX λi j=>.bl (decide (j<=i))):=DE λ_ _ _ _ _ _ _ q=>ge_int q
theorem qd:d6 X (compareOp .In) (λx y H Q=>∃i j,x=.str i/\y=.str j/\Q (.bl (!(TF j i 0 j.length 1).isEmpty)) H):=by intro pins s Y H x y v u Q I K P h;obtain⟨i,j,rfl,rfl,q⟩:=h;obtain⟨t,rfl⟩:=K;obtain⟨t',rfl⟩:=P;exact in_str (rM I q rfl)
theorem CK:d6 X (compareOp .Is) (λx y H Q=>y=.non/\Q (.bl (decide (x=.non))) H):=by
 intro pins s Y H x y v u Q I K P h;obtain⟨rfl,q⟩:=h;cases P;refine is_none_gen (rM I q ?_);cases x<;>first
  |(cases K;rfl)
  |(obtain⟨t,rfl⟩:=K;rfl)
theorem vY:d6 X (compareOp .IsNot) (λx y H Q=>y=.non/\Q (.bl (!decide (x=.non))) H):=by
 intro pins s Y H x y v u Q I K P h;obtain⟨rfl,q⟩:=h;cases P;refine isnot_none_gen (rM I q ?_);cases x<;>first
  |(cases K;rfl)
  |(obtain⟨t,rfl⟩:=K;rfl)
theorem kB:d6 X (compareOp .NotIn) (λx y H Q=>∃i j,x=.str i/\y=.str j/\Q (.bl (!(!(TF j i 0 j.length 1).isEmpty))) H):=by intro pins s Y H x y v u Q I K P h;obtain⟨i,j,rfl,rfl,q⟩:=h;obtain⟨t,rfl⟩:=K;obtain⟨t',rfl⟩:=P;exact notIn_str (rM I q rfl)
theorem dm(b:Expr)(h:op≠.In:=by decide)(h2:op≠.NotIn:=by decide):behindInMarks op b=false:=by
 have e1:(op==CmpOp.In)=false:=by cases op<;>first|rfl|exact absurd rfl h
 have e2:(op==CmpOp.NotIn)=false:=by cases op<;>first|rfl|exact absurd rfl h2
 cases b<;>simp[behindInMarks,e1,e2]
theorem EM(i:d6 X (compareOp op) r)(ha:PE X a ta)(d:PE X b tb)(hm:behindInMarks op b=false):PE X (.Compare a [op] [b] pos) (Ph r ta tb):=by intro pins s Y H Q I h;exact wpAny_Compare1 (Lh ha d I h λv u s2 x y c m K P q=>i pins s2 Y c x y v u Q m K P q) hm
noncomputable def HU(t:TE):TT:=λY H Q=>t Y H λx H'=>∃k,x=.bl k/\Q k H'
theorem EV(i:d6 X (compareOp op) r)(ha:PE X a ta)(d:PE X b tb)(hm:behindInMarks op b=false):PT X (.Compare a [op] [b] pos) (HU (Ph r ta tb)):=by
 intro pins s Y H Q I h;refine wpAny_isTrue_Compare1 (bG (ha pins s Y H _ I h) λv s1 ⟨x,q,g,w,l⟩=>bG (d pins s1 Y q _ g l) λu s2 ⟨y,B,m,n,o⟩=>bG (i pins s2 Y B x y v u _ m w n o) λc p ⟨z,D,O,E,k,e,L⟩=>?_) hm
 subst e;cases E;exact wpAny_truthy_bool ⟨D,O,L⟩
noncomputable def uD(r r':R2)(ta tb j:TE):TE:=λY H Q=>ta Y H λx e=>tb Y e λy c=>r x y c λz D=>∃k,z=.bl k /\
 (if k=true then j Y D λs v=>r' y s v Q else Q (.bl false) D)
theorem BP(ho:d6 X (compareOp op) r)(ho':d6 X (compareOp op') r')(ha:PE X a ta)(hb:PE X b tb)(hc:PE X c j)
  (hm:lastMarks [op,op'] [b,c]=false:=by with_unfolding_all rfl):PE X (.Compare a [op,op'] [b,c] pos) (uD r r' ta tb j):=by
 intro pins s Y H Q I h;refine Compare_chain (bG (ha pins s Y H _ I h) λv s1 ⟨x,H1,I1,r1,q1⟩=>chain_link (bG (hb pins s1 Y H1 _ I1 q1) λu s2 ⟨y,H2,I2,r2,q2⟩=>bG (ho pins s2 Y H2 x y v u _ I2 r1 r2 q2) λd s3 ⟨z,H3,I3,r3,k,e,q3⟩=>?_)) hm
 subst e;cases r3;refine wpAny_truthy_bool ?_;cases k with
 |false=>exact ite_ff ⟨.bl false,H3,I3,rfl,q3⟩
 |true=>exact ite_tt (chain_last (bG (hc pins s3 Y H3 _ I3 q3) λw' s4 ⟨z',H4,I4,r4,q4⟩=>ho' pins s4 Y H4 y z' u w' Q I4 r2 r4 q4))
theorem Am(ho:d6 X (compareOp op) r)(ho':d6 X (compareOp op') r')(ha:PE X a ta)(hb:PE X b tb)(hc:PE X c j)
  (hm:lastMarks [op,op'] [b,c]=false:=by with_unfolding_all rfl):PT X (.Compare a [op,op'] [b,c] pos) (HU (uD r r' ta tb j)):=by
 intro pins s Y H Q I h;refine isTrue_chain (bG (ha pins s Y H _ I h) λv s1 ⟨x,H1,I1,r1,q1⟩=>test_link (bG (hb pins s1 Y H1 _ I1 q1) λu s2 ⟨y,H2,I2,r2,q2⟩=>bG (ho pins s2 Y H2 x y v u _ I2 r1 r2 q2) λd s3 ⟨z,H3,I3,r3,k,e,q3⟩=>?_)) hm
 subst e;cases r3;refine wpAny_truthy_bool ?_;cases k with
 |false=>obtain⟨k',e',q'⟩:=q3;cases e';exact ite_ff ⟨H3,I3,q'⟩
 |true=>refine ite_tt (test_last (bG (hc pins s3 Y H3 _ I3 q3) λw' s4 ⟨z',H4,I4,r4,q4⟩=>bG (ho' pins s4 Y H4 y z' u w' _ I4 r2 r4 q4) λd' s5 ⟨z2,H5,I5,r5,k2,e2,q5⟩=>?_));subst e2;cases r5;exact wpAny_truthy_bool ⟨H5,I5,q5⟩
theorem oI:(sizeLine:Nat)<2^63:=by rw[sizeLine_eq];decide
theorem vh:d6 X (binaryOp .Add) (λx y H Q=>∃i j,x=.str i/\y=.str j/\i.length+j.length<=sizeLine/\Q (.str (i++j)) H):=by intro pins s Y H x y v u Q I K P h;obtain⟨i,j,rfl,rfl,hz,q⟩:=h;obtain⟨t,rfl⟩:=K;obtain⟨t',rfl⟩:=P;exact add_str (λt' tk=>⟨.str (i++j),H,I.tok _,⟨_,rfl⟩,q⟩) hz
theorem vals1{x:V}(r:Vals [x] us):∃u,us=[u]/\RelV x u:=by
 cases r with
 |cons k n=>cases n;exact⟨_,rfl,k⟩
theorem vals2{x:V}(r:Vals [x,y] us):∃u s,us=[u,s]/\RelV x u/\RelV y s:=by
 cases r with
 |cons k n=>
  cases n with
  |cons E Y=>cases Y;exact⟨_,_,rfl,k,E⟩
theorem Dg:cx X (.builtin "abs") (λxs H Q=>∃i,xs=[.int i]/\Q (.int (if i<0 then -i else i)) H):=by intro pins s Y H xs us Q I r h;obtain⟨i,rfl,q⟩:=h;obtain⟨u,rfl,t,rfl⟩:=vals1 r;exact call_abs_int λu tk=>⟨.int (if i<0 then -i else i),H,I.tok _,⟨_,rfl⟩,q⟩
theorem yN(hc:X.calm=true):cx X (.builtin "max") (λxs H Q=>∃i j,xs=[.int i,.int j]/\Q (.int (if j > i then j else i)) H):=by
 intro pins s Y H xs us Q I r h;obtain⟨i,j,rfl,q⟩:=h;obtain⟨u,v,rfl,⟨t,rfl⟩,⟨t',rfl⟩⟩:=vals2 r;refine max_two_ints (I.ok.hd hc) λh' tk k=>⟨_,H,I.kept k,?_,q⟩
 by_cases b:j > i
 .rw[if_pos b,if_pos b];exact⟨_,rfl⟩
 .rw[if_neg b,if_neg b];exact⟨_,rfl⟩
theorem yn(hc:X.calm=true):cx X (.builtin "min") (λxs H Q=>∃i j,xs=[.int i,.int j]/\Q (.int (if j<i then j else i)) H):=by
 intro pins s Y H xs us Q I r h;obtain⟨i,j,rfl,q⟩:=h;obtain⟨u,v,rfl,⟨t,rfl⟩,⟨t',rfl⟩⟩:=vals2 r;refine min_two_ints (I.ok.hd hc) λh' tk k=>⟨_,H,I.kept k,?_,q⟩
 by_cases b:j<i
 .rw[if_pos b,if_pos b];exact⟨_,rfl⟩
 .rw[if_neg b,if_neg b];exact⟨_,rfl⟩
theorem yP:cx X (.type "int") (λxs H Q=>(∃i,xs=[.int i]/\Q (.int i) H)\/∃k,xs=[.bl k]/\Q (.int (if k then 1 else 0)) H):=by
 intro pins s Y H xs us Q I r h;rcases h with ⟨i,rfl,q⟩|⟨k,rfl,q⟩
 .obtain⟨u,rfl,t,rfl⟩:=vals1 r;exact call_int_int ⟨.int i,H,I,⟨_,rfl⟩,q⟩
 .obtain⟨u,rfl,w⟩:=vals1 r;cases w;exact call_int_bool ⟨.int (if k then 1 else 0),H,I.tok _,⟨_,rfl⟩,q⟩
def M8(K:So)(x:V)(H:Hp)(n:Nat):Prop:=
 match x with
 | .str y=>y.length<=sizeLine/\n=y.length
 | .byt y=>y.size<=sizeLine/\n=y.size
 | .ref p=>(∃xs,gI K H p xs/\n=xs.length)\/∃xs,gK K H p xs/\n=xs.length
 |_=>False
theorem Co:cx X (.builtin "len") (λxs H Q=>∃x n,xs=[x]/\M8 X.K x H n/\Q (.int n) H):=by
 intro pins s Y H xs us Q I r h;obtain⟨x,n,rfl,e,q⟩:=h;obtain⟨u,rfl,A⟩:=vals1 r;have hl:=oI;have B:sizeLine=16777216:=sizeLine_eq;cases x with
 |str y=>obtain⟨t,rfl⟩:=A;obtain⟨T,a⟩:y.length<=sizeLine/\n=y.length:=e;subst a;exact len_str (by lia) ⟨.int _,H,I.tok _,⟨_,rfl⟩,q⟩
 |byt y=>obtain⟨t,rfl⟩:=A;obtain⟨T,a⟩:y.size<=sizeLine/\n=y.size:=e;subst a;exact PySem.W.len_bytes (by lia) ⟨.int _,H,I.tok _,⟨_,rfl⟩,q⟩
 |ref p=>
  cases A;have a:(∃xs,gI X.K H p xs/\n=xs.length)\/∃xs,gK X.K H p xs/\n=xs.length:=e;rcases a with ⟨xs,w,a⟩|⟨xs,w,a⟩
  .subst a;obtain⟨its,r',pl,hz⟩:=I.list w;have z:=r'.length;exact Calls.call_len_list pl.isList (by simp only[SD];lia) ⟨.int xs.length,H,I.tok _,⟨_,by simp only[SD];rw[z]⟩,q⟩
  .subst a;obtain⟨its,r',pl,hz⟩:=I.tuple w;have z:=r'.length;exact len_tuple pl (by simp only[SD];lia) ⟨.int xs.length,H,I.tok _,⟨_,by simp only[SD];rw[z]⟩,q⟩
 |_=>exact(show False from e).elim
end
structure vk(h:Heap)(x dx C:Addr)(mA:Str->Option Value):Prop where
 obj:h.get? x=some (T5 C dx)
 ns:h.Ns1 dx mA
 ne:dx≠x
variable{dx:Addr}{mA:Str->Option Value}
theorem yd(n:h.Ns1 dx mA):∃od,h.get? dx=some od/\∀name,Vr name od=some (mA name):=by
 obtain⟨o,es,ep,i,hd,hk,_,hm⟩:=n;refine⟨o,i,λname=>?_⟩;have e:=hm name;unfold nsFind findBy at e;rw[<-Array.find?_toList] at e;unfold Vr;rw[hd];dsimp only;split
 .rename_i y q;rw[q] at e;exact congrArg some e
 .rename_i q;rw[q] at e;have a:es.toList.any (·.refKey)=false:=by rw[V0];intro y T;obtain⟨z,t,Y⟩:=hk y (Array.mem_toList_iff.mp T);simp[DictEntry.refKey,Y]
  have a':¬ es.toList.any (·.refKey)=true:=by rw[a];exact Tg
  rw[if_neg a'];exact congrArg some e
variable{C:Addr}
theorem vk.look{x:Addr}(I:vk h x dx C mA):∃od,PySem.W.InstAt h x (T5 C dx) C (some od)/\∀name,Vr name od=some (mA name):=
 let ⟨od,ho,hl⟩:=yd I.ns
 ⟨od,⟨I.obj,rfl,rfl,ho⟩,hl⟩
variable{kw:List (Str×Value)}
section
variable{prog:Program}{w:World}{A:Around}{E:Value->Shared->Prop}{s:Shared}{K:So}{x dx C f:Addr}{mA:Str->Option Value}{name:Str}{v:Value}
theorem get_map{expr:Bool}(X:K.In s.heap)(I:vk s.heap x dx C mA)(N:UP K C name=true)(Y:U6 K C=true)
  (ha:Tz K (.ref C) name=some none)(c:mA name=some v)(H:Xc v=true)(h:Q v { s with toks:=s.toks+1 }):
  wpAny (model prog w) A (getAttr (.ref x) name expr) Q E s:=by
 obtain⟨od,J,hl⟩:=I.look;exact PySem.W.get_value X J (VC N).1 (PySem.W.findObj_own Y ha rfl (by rw[hl,c])) H h
theorem AB{pl:Sem Bool}{Q:Value×List Value->Shared->Prop}(X:K.In s.heap)(I:vk s.heap x dx C mA)(N:UP K C name=true)
  (hf:Tz K (.ref C) name=some (some (.ref f)))(ht:VL K (.ref f)=true)(c:mA name=none)(h:Q (.ref f,[.ref x]) s):
  wpAny (model prog w) A (getMethod (.ref x) name pl) Q E s:=by
 obtain⟨od,J,hl⟩:=I.look;exact PySem.W.method_fn X J (VC N).1 (VC N).2 hf (beq_iff_eq.mp ht) (by show (Vr name od).map (·.isSome)=some false;rw[hl,c];rfl) h
theorem Ds{ns:List Str}{Q:Unit->Shared->Prop}(X:K.In s.heap)(I:vk s.heap x dx C mA)
  (B:Tz K (.ref C) "__setattr__" = some (some (.builtin "object.__setattr__")))(hp:VM K C=true)(ht:V7 K C name=some none)(V:U6 K C=true)
  (o:WQ mA ns)(hsz:ns.length<=sizeLine)
  (h:∀h',vk h' x dx C (λy=>if y=name then some v else mA y)->Vp dx s.heap h'->Q () { s with heap:=h',toks:=s.toks+2 }):
  wpAny (model prog w) A (setAttr (.ref x) name v) Q E s:=by
 obtain⟨od,J,hl⟩:=I.look;refine PySem.W.set_plain X J B (PySem.W.osa_open (s:={ s with toks:=s.toks+1 }) (r:=none) X J hp ht λb=>?_);obtain⟨cd,hc,q⟩:=PySem.W.any_some V;have k:s.heap.get? x=some ⟨.ref C,some dx,.plain,#[]⟩:=I.obj;refine wpAny_bind (wpAny_pure (wpAny_bind (wpAny_bind (wpAny_loadPart k (wpAny_bind (Ye (s:={ s with toks:=s.toks+1 }) (PySem.W.looks_clsIn X hc) ?_))))));rw[q];refine wpAny_pure (a:=some dx) (wpAny_bind (wpAny_pure (wpAny_bind ?_)));refine wpAny_nsSet1 (s:={ s with toks:=s.toks+1 }) I.ns λh' H Y=>?_;obtain⟨U,p,t,u,z,S⟩:=H.count (Yr name v o);refine wpAny_bind (wpAny_lookBehind u (by rw[z];exact pastItsLine_dict (SW S (by rw[SF];lia))) ?_);exact wpAny_pure (h _ ⟨(Y.2 _ (T6 I.ne)).trans I.obj,H,I.ne⟩ Y)
theorem A8{R:Result->Shared->Prop}{vs:List Value}(X:K.In s.heap)(hm:V8 K C=true)
  (hi:Tz K (.ref C) "__init__" = some (some (.ref f)))(hf:PySem.W.typeIn K (.ref f)=some (.type "function"))
  (h:codeAny (model prog w) (A.under (.builtin "type.__call__" ⟨.ref C::vs,kw⟩)) (.call (.ref f) ⟨.ref (s.heap.objs.size+1)::vs,kw⟩) (PySem.W.InitBack (s.heap.objs.size+1) R)
   { s with heap:=(s.heap.push TK).push (T5 C s.heap.objs.size) }):
  codeAny (model prog w) A (.call (.ref C) ⟨vs,kw⟩) R s:=by
 obtain⟨Y,g,d,t,os⟩:=s;exact PySem.W.make_core (PySem.W.makes_of X hm) (PySem.W.looks_findIn X hi) (λself=>PySem.W.bind_fn X self hf) (.inl rfl) h
end
noncomputable def f6(f:Str)(v:V):List (Str×V)->List (Str×V)
 |[]=>[(f,v)]
 |(g,x)::r=>if g=f then (g,v)::r else (g,x)::f6 f v r
theorem l7(f g:Str)(v:V):∀fs:List (Str×V),(f6 f v fs).lookup g=if g=f then some v else fs.lookup g
 |[]=>by
  show UZ g [(f,v)]=_;by_cases h:g=f
  .have d:(g==f)=true:=beq_iff_eq.mpr h;simp only[UZ,d,if_pos h]
  .have d:(g==f)=false:=beq_eq_false_iff_ne.mpr h;simp only[UZ,d,if_neg h]
 |(k,x)::r=>by
  have l:=l7 f g v r;rw[show f6 f v ((k,x)::r)=(if k=f then (k,v)::r else (k,x)::f6 f v r) from rfl];by_cases hk:k=f
  .rw[if_pos hk];by_cases h:g=k
   .have d:(g==k)=true:=beq_iff_eq.mpr h;simp only[UZ,d,if_pos (h.trans hk)]
   .have d:(g==k)=false:=beq_eq_false_iff_ne.mpr h;simp only[UZ,d,if_neg (λe:g=f=>h (e.trans hk.symm))]
  .rw[if_neg hk];by_cases h:g=k
   .have d:(g==k)=true:=beq_iff_eq.mpr h;simp only[UZ,d,if_neg (λe:g=f=>hk (h.symm.trans e))]
   .have d:(g==k)=false:=beq_eq_false_iff_ne.mpr h;simp only[UZ,d];exact l
theorem k6(f:Str)(v:V):∀fs:List (Str×V),f∈(f6 f v fs).map (·.1)/\∀g,g∈fs.map (·.1)->g∈(f6 f v fs).map (·.1)
 |[]=>⟨by simp[f6],λg h=>by simp at h⟩
 |(k,x)::r=>by
  obtain⟨X,I⟩:=k6 f v r;rw[show f6 f v ((k,x)::r)=(if k=f then (k,v)::r else (k,x)::f6 f v r) from rfl];by_cases hk:k=f
  .rw[if_pos hk];subst hk;exact⟨by simp,λg h=>by simpa using h⟩
  .rw[if_neg hk];refine⟨?_,λg h=>?_⟩
   .rw[SR];exact SE _ X
   .rw[SR] at h ⊢;rcases SO.mp h with e|e
    .exact SO.mpr (.inl e)
    .exact SE _ (I g e)
theorem lR(f:Str)(v:V):∀fs:List (Str×V),(f6 f v fs).length<=fs.length+1
 |[]=>by simp[f6]
 |(k,x)::r=>by
  have l:=lR f v r;rw[show f6 f v ((k,x)::r)=(if k=f then (k,v)::r else (k,x)::f6 f v r) from rfl];by_cases hk:k=f
  .rw[if_pos hk,SF,SF];lia
  .rw[if_neg hk,SF,SF];lia
theorem iq.some_of{o:Option Value}(r:iq (some v) o):∃u,o=some u/\RelV v u:=by
 cases o with
 |none=>exact(show False from r).elim
 |some u=>exact⟨u,rfl,r⟩
theorem iq.none_of{o:Option Value}(r:iq none o):o=none:=by
 cases o with
 |none=>rfl
 |some u=>exact(show False from r).elim
theorem yS(r:RelV v u):Xc u=true:=by
 cases v with
 |non=>cases (show u=Wm from r);rfl
 |bl b=>cases (show u=Xb b from r);rfl
 |int i=>obtain⟨t,e⟩:=(show ∃t,u=WK i t from r);cases e;rfl
 |str x=>obtain⟨t,e⟩:=(show ∃t,u=V6 x t from r);cases e;rfl
 |byt b=>obtain⟨t,e⟩:=(show ∃t,u=X6 b t from r);cases e;rfl
 |flt b=>obtain⟨t,e⟩:=(show ∃t,u=X7 b t from r);cases e;rfl
 |ref a=>cases (show u=Te a from r);rfl
 |ty n=>cases (show u=Yb n from r);rfl
section
variable{P:Program}{w:World}{H H':Hp}{h h':Heap}{a C dx:Addr}{fs fs':List (Str×V)}
theorem mH(hok:jT P w H h)(e:H a=some (.ins C dx fs)):∃mA,vk h a dx C mA/\(∀f,iq (fs.lookup f) (mA f))/\WQ mA (fs.map (·.1))/\fs.length<=1000/\H dx=some (.own a):=by
 obtain⟨d,z,ne,ob,mA,n,r,q⟩:=(show bW P w H h a (.ins C dx fs) from hok a _ e)
 exact⟨mA,⟨ob,n,ne⟩,r,q,z,d⟩
end
structure lQ(K:So)(C:Addr):Prop where
 pg:UP K C Str.empty=true
 hd:U6 K C=true
 po:VM K C=true
 sa:Tz K (.ref C) "__setattr__" = some (some (.builtin "object.__setattr__"))
theorem lQ.get(c:lQ K C)(f:Str):UP K C f=true:=c.pg
def dw(K:So)(C:Addr)(f:Str):Prop:=Tz K (.ref C) f=some none
theorem dw.Pp{f:Str}(n:dw K C f):V7 K C f=some none:=by unfold V7;rw[show Tz K (.ref C) f=some none from n];rfl
structure Meth(K:So)(C:Addr)(m:Str)(f:Addr):Prop where
 at_:Tz K (.ref C) m=some (some (.ref f))
 fn:VL K (.ref f)=true
 kp:TV K (.ref f)=true
variable{m:Str}
section
variable{X:Cx}{pins:List (Addr×Obj)}{Y:St}{H:Hp}{s:Shared}{a C dx:Addr}{fs:List (Str×V)}{f:Str}{v:V}{A:Around}{E:Value->Shared->Prop}
theorem vn{b:Bool}(I:Inv X pins Y H s)(e:H a=some (.ins C dx fs))(c:lQ X.K C)(n:dw X.K C f)(l:fs.lookup f=some v)
  (h:∀u s',Inv X pins Y H s'->RelV v u->Q u s'):wpAny (model X.prog X.w) A (getAttr (.ref a) f b) Q E s:=by
 obtain⟨mA,O,r,_,_,_⟩:=mH I.hok e;obtain⟨u,q,x⟩:=iq.some_of (v:=v) (o:=mA f) (by rw[<-l];exact r f);exact get_map I.ur O (c.get f) c.hd n q (yS x) (h u _ (I.tok _) x)
theorem jR{g:Addr}{pl:Sem Bool}{Q:Value×List Value->Shared->Prop}(I:Inv X pins Y H s)(e:H a=some (.ins C dx fs))(c:lQ X.K C)(k:Meth X.K C m g)(l:fs.lookup m=none)
  (h:Q (.ref g,[.ref a]) s):wpAny (model X.prog X.w) A (getMethod (.ref a) m pl) Q E s:=by
 obtain⟨mA,O,r,_,_,_⟩:=mH I.hok e;have hn:mA m=none:=iq.none_of (by rw[<-l];exact r m);exact AB I.ur O (c.get m) k.at_ k.fn hn h
theorem uM{Q:Unit->Shared->Prop}(I:Inv X pins Y H s)(e:H a=some (.ins C dx fs))(c:lQ X.K C)(n:dw X.K C f)(hl:fs.length<1000)(P:RelV y u)
  (h:∀s',Inv X pins Y (upd H a (.ins C dx (f6 f y fs))) s'->Q () s'):wpAny (model X.prog X.w) A (setAttr (.ref a) f u) Q E s:=by
 obtain⟨mA,O,r,J,_,i⟩:=mH I.hok e;have hz:(fs.map (·.1)).length<=sizeLine:=by rw[Ss,sizeLine_eq];lia
 refine Ds I.ur O c.sa c.po n.Pp c.hd J hz λh' v S=>h _ ?_;have hd:∃o,h'.get? dx=some o:=let ⟨o,_,_,e',_⟩:=v.ns;⟨o,e'⟩
 refine I.write (x:=a) (e:=dx) (by rw[e];exact UW) (.inr i) (λb q d z=>(S.2 b d).trans z) hd ?_;refine⟨by rw[aE O.ne];exact i,?_,O.ne,v.obj,_,v.ns,λg=>?_,λg N=>?_⟩
 .have:=lR f y fs;lia
 .show iq ((f6 f y fs).lookup g) (if g=f then some u else mA g);rw[l7];by_cases q:g=f
  .rw[if_pos q,if_pos q];exact P
  .rw[if_neg q,if_neg q];exact r g
 .by_cases q:g=f
  .rw[q];exact(k6 f y fs).1
  .refine(k6 f y fs).2 g (J g λz=>N ?_);show (if g=f then some u else mA g)=none;rw[if_neg q];exact z
theorem Inv.made(I:Inv X pins Y H s):Inv X pins Y (upd (upd H s.heap.objs.size (.own (s.heap.objs.size+1))) (s.heap.objs.size+1) (.ins C s.heap.objs.size []))
  { s with heap:=(s.heap.push TK).push (T5 C s.heap.objs.size) }:=by
 have F:(s.heap.push TK).get? s.heap.objs.size=some TK:=S1 s.heap rfl;have j:((s.heap.push TK).push (T5 C s.heap.objs.size)).get? (s.heap.objs.size+1)=some (T5 C s.heap.objs.size):=by have:=S1 (s.heap.push TK) (o:=T5 C s.heap.objs.size) rfl;rwa[Wt] at this
 have Q:(s.heap.push TK).Ns s.heap.objs.size (λ_=>none):=⟨TK,#[],_,F,rfl,(λe p=>absurd p (by simp)),λ_=>rfl⟩
 have g:=I.laid (a:=s.heap.objs.size) (o:=.own (s.heap.objs.size+1)) (h':=s.heap.push TK) (t':=s.toks) (λb u q=>SA _ q) (SK _) ⟨_,F⟩;refine g.laid (a:=s.heap.objs.size+1) (o:=.ins C s.heap.objs.size []) (t':=s.toks) (λb u q=>SA _ q) (V9 (Wt _ _)) ?_;have ne:s.heap.objs.size≠s.heap.objs.size+1:=S4 (Vk _);refine⟨by rw[aE ne,bK],TM _,ne,j,λ_=>none,(Heap.Ns1.of_empty Q).at λo q=>SA _ q,λ_=>UW,λy T=>absurd rfl T⟩
theorem FK{prog:Program}{env:Env}{f:Str}(d:attributeBase e f env (eval e env)=eval e env)
  (h:wpAny (model prog w) A (eval e env) (λo Z=>wpAny (model prog w) A (getAttr o f true) Q E Z) E s):wpAny (model prog w) A (eval (.Attribute e f pos) env) Q E s:=
 Attribute_any_ h (by rw[arm_eval_Attribute,d])
end
def Qx(K:So)(ta:TE)(f:Str):TE:=λY H Q=>ta Y H λx e=>∃a C dx fs v,x=.ref a/\e a=some (.ins C dx fs)/\lQ K C/\dw K C f/\fs.lookup f=some v/\Q v e
def QP(K:So)(ta h:TE)(f:Str):TS:=λD Y H=>h Y H λy e=>ta Y e λx c=>∃a C dx fs,x=.ref a/\c a=some (.ins C dx fs)/\lQ K C/\dw K C f/\fs.length<1000 /\
 D.nx Y (upd c a (.ins C dx (f6 f y fs)))
section
variable{X:Cx}{o e value:Expr}{f:Str}{pos pos' I:Pos}{ta tv:TE}
theorem uR(p:PE X e ta)(d:attributeBase e f X.env (eval e X.env)=eval e X.env):PE X (.Attribute e f pos) (Qx X.K ta f):=by intro pins s Y H Q I h;refine FK d (bG (p pins s Y H _ I h) λu s1 ⟨x,y,g,A,a,C,dx,fs,v,ex,ea,c,n,l,q⟩=>?_);subst ex;obtain rfl:u=Te a:=A;exact vn g ea c n l λz s2 m b=>⟨v,y,m,b,q⟩
theorem Cg(ha:PE X o ta)(t:PE X value tv)(B:swapsWith value (some (.Attribute o f pos')) pos.line X.env=pure false):PS X (.Assign [.Attribute o f pos'] value pos) (QP X.K ta tv f):=by intro pins s Y H D I h;refine plainObj_wpAny_Assign_Attribute (bG (t pins s Y H _ I h) λu s1 ⟨y,e,g,P,q⟩=>bG (ha pins s1 Y e _ g q) λz s2 ⟨x,Q,m,A,a,C,dx,fs,ex,ea,c,n,l,E⟩=>?_) B;subst ex;obtain rfl:z=Te a:=A;exact uM m ea c n l P λr O=>⟨Y,_,O,E⟩
theorem Ha{pl:Sem Bool}{apos:Pos}{args:List Expr}(p:PE X e te)(I:Inv X pins Y H s)
  (h:te Y H λx y=>∃a C dx fs g,x=.ref a/\y a=some (.ins C dx fs)/\lQ X.K C/\Meth X.K C m g/\fs.lookup m=none /\
   ∀s1,Inv X pins Y y s1->wpAny (model X.prog X.w) X.A (callWith pos (.ref g) [.ref a] (backTo pos (starEach args X.env)) (backToKw pos (keywordEach [] X.env))) Q X.xe s1)
  (ht:eval (.Call (.Attribute e m apos) args [] pos) X.env=(do
   let ov <- eval e X.env
   standAt apos.atName
   let (f,first) <- holding [ov] (getMethod ov m pl)
   callWith pos f first (backTo pos (starEach args X.env)) (backToKw pos (keywordEach [] X.env)))):
  wpAny (model X.prog X.w) X.A (eval (.Call (.Attribute e m apos) args [] pos) X.env) Q X.xe s:=by
 refine Vl (pl:=pl) (bG (p pins s Y H _ I h) λu s1 ⟨x,y,V,Z,a,C,dx,fs,g,ex,ea,c,k,l,q⟩=>?_) ht;subst ex;obtain rfl:u=Te a:=Z;exact jR V ea c k l (q s1 V)
end
section
variable{X:Cx}{pins:List (Addr×Obj)}{Y:St}{H:Hp}{s:Shared}{A:Around}{E:Value->Shared->Prop}{Q:Value->Shared->Prop}{c:Value}{b:Bool}
inductive mf(K:So)(H:Hp):V->Value->Prop where
 |non:mf K H .non (.type "NoneType")
 |bl(x:Bool):mf K H (.bl x) (.type "bool")
 |int(i:Int):mf K H (.int i) (.type "int")
 |str(x:Str):mf K H (.str x) (.type "str")
 |flt(x:UInt64):mf K H (.flt x) (.type "float")
 |lst{a:Addr}{xs:List V}(e:H a=some (.lst xs)):mf K H (.ref a) (.type "list")
 |frz{a:Addr}{o:Obj}{xs:List V}(e:H a=some (.frz o (.lst xs))):mf K H (.ref a) (.type "list")
 |tup{a:Addr}{xs:List V}(e:H a=some (.tup xs)):mf K H (.ref a) (.type "tuple")
 |dK{a:Addr}{kvs:List (Key×V)}(e:H a=some (.dK kvs)):mf K H (.ref a) (.type "dict")
 |dT{a:Addr}{kvs:List (List Key×V)}(e:H a=some (.dT kvs)):mf K H (.ref a) (.type "dict")
 | ins {a C dx:Addr} {fs:List (Str×V)} (e:H a=some (.ins C dx fs)) (cl:lQ K C) (ha:Tz K (.ref C) "__class__" = some (some (.builtin "object.__class__")))
   (hn:PySem.W.specialIn K (.builtin "object.__class__") "__get__" = some (some (.builtin "getset_descriptor.__get__"))) (htk:PySem.W.takesIn K (.builtin "object.__class__")=some true)
   (hm:PySem.W.mroIn K C (.type "object")=some true):mf K H (.ref a) (.ref C)
end
structure cQ(k:Nat)(A:Around):Prop where
 hd:A.handled=none
 dp:A.depth+3*k+5<recursionLimit
 un:A.units+16*k+200<cLine
theorem cQ.mono{A:Around}(r:cQ k A)(h:j<=k):cQ j A:=⟨r.hd,by have:=r.dp;lia,by have:=r.un;lia⟩
theorem cQ.deeper{k:Nat}{A:Around}(r:cQ (k+1) A)(env:Env):cQ k (A.deeper env):=
 ⟨r.hd,by have:=r.dp;show A.depth+1+3*k+5<_;lia,by have:=r.un;show A.units+3+16*k+200<_;lia⟩
theorem uA{A:Around}:(A.under (.builtin "type.__call__" ⟨.ref C::us,kw⟩)).depth=A.depth+1:=by first|rfl|simp[WN,Code.weight,Code.isCreation,Code.isGuard,Code.isCaller,Yg,WT,guardIds]
theorem vi{A:Around}:(A.under (.builtin "type.__call__" ⟨.ref C::us,kw⟩)).units=A.units+1:=by first|rfl|simp[WN,Code.cUnits,Yg,WT]
theorem cQ.make{A:Around}(r:cQ (k+1) A)(C:Addr)(us:List Value)(kw:List (Str×Value)):cQ k (A.under (.builtin "type.__call__" ⟨.ref C::us,kw⟩)):=
 ⟨r.hd,by have:=r.dp;rw[uA];lia,by have:=r.un;rw[vi];lia⟩
theorem cQ.depth{k:Nat}{A:Around}(r:cQ k A):A.depth<recursionLimit:=by have:=r.dp;lia
theorem cQ.units{k:Nat}{A:Around}(r:cQ k A):A.units+64<cLine:=by have:=r.un;lia
noncomputable def Dh:TA:=λ_ H Q=>Q [] H
noncomputable def wu(ta:TE)(tr:TA):TA:=λY H Q=>ta Y H λx e=>tr Y e λxs c=>Q (x::xs) c
section
variable{X:Cx}{e:Expr}{es:List Expr}{te:TE}{t:TA}{pos:Pos}
theorem eF:PA X [] Dh:=λ_ _ _ _ H Q I h=>Xi ⟨[],H,I,.nil,h⟩
theorem cE(ha:PE X e te)(hr:PA X es t)(hs:starEach (e::es) X.env=(false,eval e X.env)::starEach es X.env:=by rfl):PA X (e::es) (wu te t):=by intro pos pins s Y H Q I h;rw[hs];show wpAny _ _ (spliced ((false,eval e X.env)::backTo pos (starEach es X.env))) _ _ s;refine VN (bG (ha pins s Y H _ I h) λu s1 ⟨x,H1,I1,r1,q1⟩=>?_);exact bG (hr pos pins s1 Y H1 _ I1 q1) λus s2 ⟨xs,H2,I2,r2,q2⟩=>⟨x::xs,H2,I2,.cons r1 r2,q2⟩
def Qo(t:TA):TE:=λY H Q=>t Y H λxs e=>xs.length<=sizeLine/\∀p,e p=none->Q (.ref p) (upd e p (.tup xs))
def Q8(t:TA):TE:=λY H Q=>t Y H λxs e=>xs.length<=sizeLine/\∀p,e p=none->Q (.ref p) (upd e p (.lst xs))
theorem zy{x1}(h:PA X es t):PE X (.Tuple es x1 pos) (Qo t):=by intro pins s Y H Q I j;refine wpAny_Tuple_spliced (bG (h pos pins s Y H _ I j) λus s1 ⟨xs,y,g,r,z,q⟩=>⟨by rw[<-r.length];exact z,?_⟩);have hf:y s1.heap.objs.size=none:=g.hok.fresh (SK _);refine⟨.ref s1.heap.objs.size,upd y s1.heap.objs.size (.tup xs),g.laid (t':=s1.toks) (λb u e=>SA _ e) (SK _) ?_,rfl,q _ hf⟩;exact⟨z,us,r,⟨_,S1 _ rfl,rfl,_,rfl,rfl⟩⟩
theorem Ik(h:PA X es t):PE X (.List es pos) (Q8 t):=by intro pins s Y H Q I j;refine wpAny_List_spliced (bG (h pos pins s Y H _ I j) λus s1 ⟨xs,y,g,r,z,q⟩=>⟨by rw[<-r.length];exact z,?_⟩);have hf:y s1.heap.objs.size=none:=g.hok.fresh (SK _);refine⟨.ref s1.heap.objs.size,upd y s1.heap.objs.size (.lst xs),g.laid (t':=s1.toks) (λb u e=>SA _ e) (SK _) ?_,rfl,q _ hf⟩;exact⟨z,us,0,r,S1 _ rfl⟩
end
abbrev Sp:=List V->Hp->VK->XK->Prop
abbrev sx:=List Env->Hp->Shared->XK->Value->Shared->Prop
structure vd(P:Program)(w:World)(K:So)(mg:Str->Option Value)(base:Heap)(A:Around)(outer:List Env)(s:Shared)(H:Hp):Prop where
 frames:A.frames=some outer
 mod:Mod K mg base
 bs:∀b o,base.get? b=some o->s.heap.get? b=some o/\H b=none
 bsz:base.objs.size<=s.heap.objs.size
 pA:s.heap.FunFrames base outer
 frf:∀b∈my outer,H b=none
 hok:jT P w H s.heap
 bare:AllBare s.gens
def CE(outer:List Env)(P:Program)(w:World)(H:Hp)(s:Shared)(Q:VK)(u:Value)(s':Shared):Prop:=
 ∃v H',s'.os=s.os/\AllBare s'.gens/\Un (my outer) [] H H' s.heap s'.heap/\jT P w H' s'.heap/\RelV v u/\Q v H'
def CR(CX:sx)(outer:List Env)(P:Program)(w:World)(H:Hp)(s:Shared)(Q:VK)(E:XK)(r:Result)(s':Shared):Prop:=
 match r with
 | .ok (.ret u)=>CE outer P w H s Q u s'
 | .ok _=>False
 | .error e=>CX outer H s E e s'
structure dq(P:Program)(w:World)(K:So)(mg:Str->Option Value)(base:Heap)(CX:sx)(k:Nat)(f:Addr)(fd:FuncData)(ps:List Str)(sp:Sp):Prop where
 len:∀vs H Q E,sp vs H Q E->vs.length=ps.length
 run:∀(A:Around)(outer:List Env)(s:Shared)(H:Hp)(args:Args)(us:List Value)(vs:List V)(Q:VK)(E:XK),cQ k A->vd P w K mg base A outer s H->BindsTo s fd args (ps.zip us)->Vals vs us->sp vs H Q E->
  codeAny (model P w) A (.call (.ref f) args) (CR CX outer P w H s Q E) s
theorem dq.mono{P:Program}{w:World}{K:So}{mg:Str->Option Value}{base:Heap}{CX:sx}{j k:Nat}{f:Addr}{fd:FuncData}{ps:List Str}{sp:Sp}(F:dq P w K mg base CX j f fd ps sp)(h:j<=k):
  dq P w K mg base CX k f fd ps sp:=⟨F.len,λA outer s H args us vs Q E y=>F.run A outer s H args us vs Q E (y.mono h)⟩
variable{mg:Str->Option Value}{base:Heap}{CX:sx}{fd:FuncData}{ps:List Str}
theorem dq.imp{f:Addr}{sp X:Sp}(F:dq P w K mg base CX k f fd ps sp)
  (h:∀vs H Q E,X vs H Q E->sp vs H Q E):dq P w K mg base CX k f fd ps X:=
 ⟨λvs H Q E q=>F.len vs H Q E (h _ _ _ _ q),λA outer s H args us vs Q E y p d c u=>F.run A outer s H args us vs Q E y p d c (h _ _ _ _ u)⟩
variable{outer:List Env}
theorem vd.make{A:Around}(e:vd P w K mg base A outer s H)(C:Addr)(us:List Value)(kw:List (Str×Value)):
  vd P w K mg base (A.under (.builtin "type.__call__" ⟨.ref C::us,kw⟩)) outer s H:=⟨by first|exact e.frames|(simpa[WN,Code.envs,WT,pushEnvs] using e.frames),e.mod,e.bs,e.bsz,e.pA,e.frf,e.hok,e.bare⟩
section
variable{X:Cx}{pins:List (Addr×Obj)}{Y:St}{H:Hp}{s s':Shared}
theorem Inv.Mx(I:Inv X pins Y H s):vd X.prog X.w X.K X.mg X.base X.A X.stack s H:=
 ⟨I.ok.frames,I.ok.mod,I.bs,SW I.ok.bsz I.sz,I.stack,I.xw,I.hok,I.bare⟩
theorem Inv.after{Q:VK}(I:Inv X pins Y H s)(h:CE X.stack X.prog X.w H s Q u s'):EP X pins Y Q u s':=by obtain⟨v,H',os,bare,un,hok,r,q⟩:=h;obtain⟨V,g,d,t,x⟩:=s';obtain rfl:x=s.os:=os;exact⟨v,H',I.call (h':=V) (g':=g) (d':=d) (t':=t) (ch:=[]) un hok bare (λb z=>absurd z (by simp)),r,q⟩
end
noncomputable def O1(sp:Sp)(dvs:List V)(E:XK)(t:TA):TE:=λY H Q=>t Y H λvs e=>sp (vs++dvs) e Q E
def xa(C:Addr)(m:Str)(sp:Sp)(dvs:List V)(E:XK)(ta:TE)(t:TA):TE:=λY H Q=>ta Y H λx e=>∃a dx fs,x=.ref a/\e a=some (.ins C dx fs)/\fs.lookup m=none /\
 t Y e λvs c=>sp (x::(vs++dvs)) c Q E
def Hb(C:Addr)(sp:Sp)(dvs:List V)(E:XK)(t:TA):TE:=λY H Q=>t Y H λvs e=>∀x dx,e x=none->e dx=none->dx≠x->
 sp (.ref x::(vs++dvs)) (upd (upd e dx (.own x)) x (.ins C dx [])) (λv c=>v=.non/\Q (.ref x) c) E
def Binds(K:So)(fd:FuncData)(ps:List Str)(ds:List Value):Prop:=
 ∀(s:Shared)(us:List Value),K.In s.heap->(us++ds).length=ps.length->BindsTo s fd ⟨us,[]⟩ (ps.zip (us++ds))
theorem Binds.all(h:∀us:List Value,us.length=ps.length->bindArgs fd ⟨us,[]⟩=pure (ps.zip us)):Binds K fd ps []:=λs us _ hl=>by rw[Tp] at hl ⊢;exact .of_eq (h us hl)
def Passes(CX:sx)(X:Cx)(E:XK):Prop:=∀(pins:List (Addr×Obj))(Y:St)(H:Hp)(s:Shared)(e:Value)(s':Shared),Inv X pins Y H s->CX X.stack H s E e s'->X.xe e s'
variable{vs:List V}
section
variable{X:Cx}{CX:sx}{k:Nat}{f C:Addr}{fd:FuncData}{ps:List Str}{sp:Sp}{dvs:List V}{ds:List Value}{E:XK}{x m:Str}{p pos apos:Pos}{e o:Expr}{es:List Expr}{ta:TE}{t:TA}
theorem uO{Q:VK}(F:dq X.prog X.w X.K X.mg X.base CX k f fd ps sp)(y:cQ k X.A)(d:Binds X.K fd ps ds)(hd:Vals dvs ds)(a:Passes CX X E)
  (I:Inv X pins Y H s)(r:Vals vs us)(h:sp (vs++dvs) H Q E):wpAny (model X.prog X.w) X.A (call (.ref f) us) (EP X pins Y Q) X.xe s:=by
 have n:Vals (vs++dvs) (us++ds):=r.append hd;have hl:(us++ds).length=ps.length:=by rw[<-n.length];exact F.len _ _ _ _ h
 refine wpAny_call (codeAny_mono (F.run X.A X.stack s H ⟨us,[]⟩ (us++ds) (vs++dvs) Q E y I.Mx (d s us I.ur hl) n h) λr s' j=>?_);cases r with
 |error e=>exact a pins Y H s e s' I j
 |ok fl=>
  cases fl with
  |ret u=>exact I.after j
  |next=>exact T8 j
  |brk=>exact T8 j
  |cont=>exact T8 j
theorem Gb(F:dq X.prog X.w X.K X.mg X.base CX k f fd ps sp)(hr:cQ k X.A)(hg:Gl X x)(hm:X.mg x=some (.ref f))(hk:TV X.K (.ref f)=true)(hb:Binds X.K fd ps ds)(hd:Vals dvs ds)(hx:Passes CX X E)
  (ha:PA X (e::es) t)(hdb:iw x:=by decide)(he:starEach (e::es) X.env=(false,eval e X.env)::starEach es X.env:=by rfl)(hpl:(backTo pos (starEach es X.env)).any (·.1)=false:=by rfl):
  PE X (.Call (.Name x p) (e::es) [] pos) (O1 sp dvs E t):=by
 intro pins s Y H Q I h;refine wpAny_Call_Name_kw (rb I hg hm ?_ hdb);refine VG (h₀:=X.base) I.ok.mod.kin hk (bG (ha pos pins s Y H _ I h) λus s1 ⟨vs,H1,I1,r,q⟩=>⟨I1.ur,?_⟩) he hpl;exact uO F hr hb hd hx I1 r q
theorem xA{pl:Sem Bool}(he:PE X o ta)(c:lQ X.K C)(hm:Meth X.K C m f)(F:dq X.prog X.w X.K X.mg X.base CX k f fd ps sp)(hr:cQ k X.A)(hb:Binds X.K fd ps ds)(hd:Vals dvs ds)(hx:Passes CX X E)(ha:PA X (e::es) t)
  (hst:starEach (e::es) X.env=(false,eval e X.env)::starEach es X.env:=by rfl)(hpl:(backTo pos (starEach es X.env)).any (·.1)=false:=by rfl)
  (ht:eval (.Call (.Attribute o m apos) (e::es) [] pos) X.env=(do
   let ov <- eval o X.env
   standAt apos.atName
   let (f,first) <- holding [ov] (getMethod ov m pl)
   callWith pos f first (backTo pos (starEach (e::es) X.env)) (backToKw pos (keywordEach [] X.env))):=by rfl):
  PE X (.Call (.Attribute o m apos) (e::es) [] pos) (xa C m sp dvs E ta t):=by
 intro pins s Y H Q I h;refine Vl (pl:=pl) (bG (he pins s Y H _ I h) λu s1 ⟨x,H1,I1,rx,a,dx,fs,ex,ea,l,q⟩=>?_) ht;subst ex;obtain rfl:u=Te a:=rx;refine jR I1 ea c hm l ?_;refine VG (first:=[.ref a]) (h₀:=X.base) I.ok.mod.kin hm.kp (bG (ha pos pins s1 Y H1 _ I1 q) λus s2 ⟨vs,H2,I2,r,q2⟩=>⟨I2.ur,?_⟩) hst hpl;exact uO (us:=.ref a::us) (vs:=.ref a::vs) F hr hb hd hx I2 (.cons rfl r) q2
theorem tF{pl:Sem Bool}(he:PE X o ta)(c:lQ X.K C)(hm:Meth X.K C m f)(F:dq X.prog X.w X.K X.mg X.base CX k f fd ps sp)(hr:cQ k X.A)(hb:Binds X.K fd ps ds)(hd:Vals dvs ds)(hx:Passes CX X E)
  (ht:eval (.Call (.Attribute o m apos) [] [] pos) X.env=(do
   let ov <- eval o X.env
   standAt apos.atName
   let (f,first) <- holding [ov] (getMethod ov m pl)
   callWith pos f first (backTo pos (starEach [] X.env)) (backToKw pos (keywordEach [] X.env))):=by rfl):
  PE X (.Call (.Attribute o m apos) [] [] pos) (xa C m sp dvs E ta Dh):=by
 intro pins s Y H Q I h;refine Vl (pl:=pl) (bG (he pins s Y H _ I h) λu s1 ⟨x,H1,I1,rx,a,dx,fs,ex,ea,l,q⟩=>?_) ht;subst ex;obtain rfl:u=Te a:=rx;refine jR I1 ea c hm l ?_;exact PySem.W.callWith_K0 (first:=[.ref a]) I1.ur hm.kp (uO (us:=[.ref a]) (vs:=[.ref a]) F hr hb hd hx I1 (.cons rfl .nil) q)
structure Mk(K:So)(C f:Addr):Prop where
 makes:V8 K C=true
 init:Tz K (.ref C) "__init__" = some (some (.ref f))
 fn:VL K (.ref f)=true
 kp:TV K (.ref C)=true
theorem Be{Q:VK}(M:Mk X.K C f)(F:dq X.prog X.w X.K X.mg X.base CX k f fd ps sp)(y:cQ (k+1) X.A)(d:Binds X.K fd ps ds)(hd:Vals dvs ds)
  (b:Passes CX X E)(I:Inv X pins Y H s)(r:Vals vs us)
  (h:∀x dx,H x=none->H dx=none->dx≠x->sp (.ref x::(vs++dvs)) (upd (upd H dx (.own x)) x (.ins C dx [])) (λv c=>v=.non/\Q (.ref x) c) E):
  wpAny (model X.prog X.w) X.A (call (.ref C) us) (EP X pins Y Q) X.xe s:=by
 have j:=h (s.heap.objs.size+1) s.heap.objs.size (I.hok.fresh (Vc _)) (I.hok.fresh (SK _)) (S4 (Vk _));have m:=Inv.made (C:=C) I;have n:Vals (V.ref (s.heap.objs.size+1)::(vs++dvs)) (Te (s.heap.objs.size+1)::(us++ds)):=.cons rfl (r.append hd);have hl:(Te (s.heap.objs.size+1)::us++ds).length=ps.length:=by have e:=n.length;rw[F.len _ _ _ _ j] at e;exact e.symm
 refine wpAny_call (A8 (f:=f) I.ur M.makes M.init (beq_iff_eq.mp M.fn) (codeAny_mono (F.run _ X.stack _ _ ⟨Te (s.heap.objs.size+1)::us,[]⟩ (Te (s.heap.objs.size+1)::(us++ds)) _ _ E (y.make C us [])
  (m.Mx.make C us []) (d _ (Te (s.heap.objs.size+1)::us) m.ur hl) n j) λr s' a=>?_))
 cases r with
 |error e=>exact b pins Y _ _ e s' m a
 |ok fl=>
  cases fl with
  |ret u=>obtain⟨v,H',O,o,q,L⟩:=m.after a;subst q;exact⟨o,⟨V.ref (s.heap.objs.size+1),H',O,rfl,L⟩⟩
  |next=>exact T8 a
  |brk=>exact T8 a
  |cont=>exact T8 a
theorem Fv(M:Mk X.K C f)(F:dq X.prog X.w X.K X.mg X.base CX k f fd ps sp)(hr:cQ (k+1) X.A)(hg:Gl X x)(hm:X.mg x=some (.ref C))(hb:Binds X.K fd ps ds)(hd:Vals dvs ds)(hx:Passes CX X E)
  (ha:PA X (e::es) t)(hdb:iw x:=by decide)(he:starEach (e::es) X.env=(false,eval e X.env)::starEach es X.env:=by rfl)(hpl:(backTo pos (starEach es X.env)).any (·.1)=false:=by rfl):
  PE X (.Call (.Name x p) (e::es) [] pos) (Hb C sp dvs E t):=by
 intro pins s Y H Q I h;refine wpAny_Call_Name_kw (rb I hg hm ?_ hdb);refine VG (h₀:=X.base) I.ok.mod.kin M.kp (bG (ha pos pins s Y H _ I h) λus s1 ⟨vs,H1,I1,r,q⟩=>⟨I1.ur,?_⟩) he hpl;exact Be M F hr hb hd hx I1 r q
end
structure ku(N P:List Str)(sc:Scope):Prop where
 kind:sc.kind=.function
 co:sc.isCoroutine=false
 gen:sc.isGenerator=false
 nd:N.Nodup
 pre:N.take P.length=P
 par:∀x∈P,sc.names.lookup x=some .local\/sc.names.lookup x=some .cell
 nofree:∀y∈sc.names,y.2≠.free
theorem pW{kindOf:Str->Option NameKind}{x:Str}:∀{s:List (Str×Value)}{m:Str->Option Value},(∀v,(x,v)∉s)->bindL kindOf s m x=m x
 |[],_,_=>rfl
 |(n,v)::r,m,h=>by
  unfold bindL;rw[pW λw o=>h w (SE _ o)];split
  .have:x≠n:=by rintro rfl;exact h v SN
   simp[this]
  .rfl
theorem qg{kindOf:Str->Option NameKind}{x:Str}:∀{s:List (Str×Value)}{m:Str->Option Value},(∀v,(x,v)∉s)->bindC kindOf s m x=m x
 |[],_,_=>rfl
 |(n,v)::r,m,h=>by
  unfold bindC;rw[qg λw o=>h w (SE _ o)];split
  .rfl
  .have:x≠n:=by rintro rfl;exact h v SN
   simp[this]
theorem p5{kindOf:Str->Option NameKind}{x:Str}{v:Value}:∀{P:List Str}{vs:List Value}{i:Nat}{m:Str->Option Value},P.Nodup->P[i]?=some x->vs[i]?=some v->kindOf x=some .local->
  bindL kindOf (P.zip vs) m x=some v
 |[],_,_,_,_,h,_,_=>by simp at h
 |_::_,[],_,_,_,_,h,_=>by simp at h
 |p::P,w::vs,0,m,nd,h1,h2,hk=>by simp at h1 h2;subst h1;subst h2;show bindL kindOf ((p,w)::P.zip vs) m p=_;unfold bindL;rw[pW λv c=>(S8.mp nd).1 (Vs c).1,if_pos hk];simp
 |p::P,w::vs,i+1,m,nd,h1,h2,hk=>by show bindL kindOf ((p,w)::P.zip vs) m x=_;unfold bindL;exact p5 (i:=i) (S8.mp nd).2 (by simpa using h1) (by simpa using h2) hk
theorem qt{kindOf:Str->Option NameKind}{x:Str}{v:Value}:∀{P:List Str}{vs:List Value}{i:Nat}{m:Str->Option Value},P.Nodup->P[i]?=some x->vs[i]?=some v->kindOf x≠some .local->
  bindC kindOf (P.zip vs) m x=some v
 |[],_,_,_,_,h,_,_=>by simp at h
 |_::_,[],_,_,_,_,h,_=>by simp at h
 |p::P,w::vs,0,m,nd,h1,h2,hk=>by simp at h1 h2;subst h1;subst h2;show bindC kindOf ((p,w)::P.zip vs) m p=_;unfold bindC;rw[qg λv c=>(S8.mp nd).1 (Vs c).1,if_neg hk];simp
 |p::P,w::vs,i+1,m,nd,h1,h2,hk=>by show bindC kindOf ((p,w)::P.zip vs) m x=_;unfold bindC;exact qt (i:=i) (S8.mp nd).2 (by simpa using h1) (by simpa using h2) hk
noncomputable def start(N:List Str)(vs:List V):St:=vs.map some++S0 (N.length-vs.length) none
noncomputable def uS(CX:sx)(P:Program)(w:World)(K:So)(mg:Str->Option Value)(base:Heap)(N:List Str)(qual:Str)(scope:Scope)(f:Addr)(cd:Value)(A:Around)(outer:List Env)(s:Shared)(H:Hp)(E:XK):Cx where
 prog:=P
 w:=w
 K:=K
 mg:=mg
 base:=base
 A:=A.deeper (envOfC qual scope s.heap.objs.size f cd)
 N:=N
 s₀:=s
 H₀:=H
 env:=envOfC qual scope s.heap.objs.size f cd
 outer:=outer
 stack:=envOfC qual scope s.heap.objs.size f cd::outer
 ex:=[]
 calm:=true
 fn:=λ_=>true
 pn:=[]
 xe:=λe s'=>wpAny (model P w) (A.deeper (envOfC qual scope s.heap.objs.size f cd)) (leaving (envOfC qual scope s.heap.objs.size f cd) e) (λ_ h=>CX outer H s E e h) (λt h=>CX outer H s E t h) s'
theorem sG{sc:Scope}{n:Nat}(h:sc.names.lookup x=some .cell):∃c,(cellsFrom n sc.names []).lookup x=some c:=by have q:=WA sc.names n [] (.inl h);exact Option.isSome_iff_exists.mp q
variable{scope:Scope}
theorem yL{qual:Str}{f:Addr}{cd:Value}{A:Around}{s1:Shared}{E:XK}
  (S:ku N ps scope)(hd:A.handled=none)(I:vd P w K mg base A outer s H)(hl:vs.length=ps.length)(r:Vals vs us)
  (x:InCallC s s.heap.objs.size (bindL (envOfC qual scope s.heap.objs.size f cd).kindOf (ps.zip us) λ_=>none) (cellsFrom (s.heap.objs.size+1) scope.names []) (bindC (envOfC qual scope s.heap.objs.size f cd).kindOf (ps.zip us) λ_=>none) s1):
  Inv (uS CX P w K mg base N qual scope f cd A outer s H E) [] (start N vs) H s1:=by
 have G:ps.length<=N.length:=by have:=congrArg U0 S.pre;rw[Tw] at this;lia
 obtain⟨h1,tk,rfl,hk⟩:=x.done;have X:∀b:Addr,b∉(uS CX P w K mg base N qual scope f cd A outer s H E).ex:=λb z=>absurd (show b∈([]:List Addr) from z) (by simp);refine⟨⟨I.mod,S.kind,rfl,rfl,SK _,λy z c h1 h2=>?_,λy T=>?_,λy c _ h=>?_,λ_=>hd,Around.frames_deeper I.frames,.inr ⟨rfl,rfl⟩,λb z=>absurd z (X b),I.bs,I.bsz,λb _ _=>X b,λb z=>absurd z (X b),I.pA,I.frf⟩,
  rfl,I.bare,Un.kept hk,⟨_,x.toInCall.ns,λi y v h1 h2 h3=>?_⟩,λy c h=>⟨_,x.cell y c h⟩,I.hok.fresh (SK _),λy c h=>?_,λp hp=>absurd (show p∈([]:List (Addr×Obj)) from hp) (by simp),I.hok.kept hk,?_⟩
 .exact name_of_addr x.apart (Ub h1) (Ub h2)
 .have T:scope.names.lookup y=some .cell\/scope.names.lookup y=some .free:=T;rcases T with T|T
  .exact sG T
  .exact absurd rfl (S.nofree _ (Ub T))
 .exact UO (x.above y c (Ub h))
 .have hi:i<vs.length:=by
   unfold start at h2;by_cases hi:i<vs.length
   .exact hi
   .rw[S6 (by simpa using hi)] at h2;rw[WR] at h2;split at h2<;>cases h2
  have ha:vs[i]?=some v:=by
   unfold start at h2;rw[Th (by simpa using hi),SV] at h2;cases e:vs[i]? with
   |none=>rw[e] at h2;cases h2
   |some a=>rw[e] at h2;cases h2;rfl
  obtain⟨u,Y,o⟩:=r.get ha;have hp:ps[i]?=some y:=by rw[<-S.pre,Vd (by lia)];exact h1
  have C:ps.Nodup:=by rw[<-S.pre];exact S.nd.sublist (UH _ _)
  refine⟨u,o,?_⟩;rcases S.par y (SY hp) with k|k
  .exact .inl ⟨k,p5 C hp Y k⟩
  .obtain⟨c,e⟩:=sG (n:=s.heap.objs.size+1) k;refine .inr ⟨.inl k,c,e,?_⟩;have q:=x.cell y c e;rw[qt C hp Y (by show scope.names.lookup y≠_;rw[k];decide)] at q;exact q
 .exact I.hok.fresh (UO (x.above y c (Ub h)))
 .unfold start;show _=N.length;rw[SI,Ss,WZ];lia
theorem Nv{f:Addr}{name qual:Str}{h:Arguments}{dV kV doc pm cdv ct oc:Value}{an od:Option Addr}
  {osl:Array (Option Value)}{sp:Sp}(L:K.lookup f=some ⟨oc,od,.func (VO name qual h body scope dV kV doc pm an cdv ct),osl⟩)(Y:Vt K cdv qual=true)(S:ku N ps scope)
  (len:∀vs H Q E,sp vs H Q E->vs.length=ps.length)
  (X:∀(A:Around)(outer:List Env)(s:Shared)(H:Hp)(vs:List V)(Q:VK)(E:XK),cQ k (A.deeper (envOfC qual scope s.heap.objs.size f cdv))->sp vs H Q E->
   ∃t,uq (uS CX P w K mg base N qual scope f cdv A outer s H E) body t/\t { nx:=λ_ H'=>Q .non H',rt:=Q } (start N vs) H):
  dq P w K mg base CX (k+1) f (VO name qual h body scope dV kV doc pm an cdv ct) ps sp:=by
 refine⟨len,λA outer s H args us vs Q E Z R d r U=>?_⟩;have hl:=len _ _ _ _ U;have G:K.In s.heap:=R.mod.kin.keeps λb o e=>(R.bs b o e).1;have a:s.heap.NoLimit:=R.mod.nolimit.keeps λb o e=>(R.bs b o e).1;have C:∀y∈ps.zip us,scope.names.lookup y.1=some .local\/(scope.names.lookup y.1=some .cell/\((cellsFrom (s.heap.objs.size+1) scope.names []).lookup y.1).isSome=true):=λ⟨n,v⟩ T=>by
  rcases S.par n (Vs T).1 with q|q
  .exact .inl q
  .exact .inr ⟨q,WA _ _ _ (.inl q)⟩
 refine codeAny_call_function Z.depth (G _ _ L) rfl S.co S.gen rfl (PySem.W.codeRec_of G Y) (d _ _ _ _ ?_);refine wpAny_newFunctionEnv_cells S.kind C λenv p s1 x=>?_;subst p;refine⟨a.keeps x.toInCall.keep,codeAny_func ?_⟩;obtain⟨t,ht,j⟩:=X A outer s H vs Q E (Z.deeper _) U;have I:Inv (uS CX P w K mg base N qual scope f cdv A outer s H E) [] (start N vs) H s1:=yL S Z.hd R hl r x;refine wpAny_mono (ht [] s1 (start N vs) H _ I j) (λfl s' B=>?_) λe s' B=>B;have fin:∀{Z0:St}{H':Hp}{v:V}{u:Value},Inv (uS CX P w K mg base N qual scope f cdv A outer s H E) [] Z0 H' s'->RelV v u->Q v H'->CE outer P w H s Q u s':=
  λ{Z0 H' v u} J z q=>⟨v,H',J.os,J.bare,J.base,J.hok,z,q⟩
 cases fl with
 |ret u=>obtain⟨v,Z0,H',J,z,q⟩:=B;exact fin J z q
 |next=>obtain⟨Z0,H',J,q⟩:=B;exact fin (v:=V.non) (u:=Wm) J rfl q
 |brk=>obtain⟨_,_,_,q⟩:=B;exact T8 q
 |cont=>obtain⟨_,_,_,q⟩:=B;exact T8 q
section
variable{X:Cx}{x:Str}{p pos:Pos}{e:Expr}{es:List Expr}{t:TA}{id T:String}{r:List V->Hp->VK->Prop}
noncomputable def Rz(r:List V->Hp->VK->Prop)(t:TA):TE:=λY H Q=>t Y H λvs e=>r vs e Q
theorem nR(hc:cx X (.builtin id) r)(hg:Gl X x)(hm:X.mg x=none)(hv:bootBuiltins x=some (.builtin id))(ha:PA X (e::es) t)(hn:x ≠ "__name__" := by decide)(hdb:iw x:=by decide)
  (he:starEach (e::es) X.env=(false,eval e X.env)::starEach es X.env:=by rfl)(hpl:(backTo pos (starEach es X.env)).any (·.1)=false:=by rfl):PE X (.Call (.Name x p) (e::es) [] pos) (Rz r t):=by
 intro pins s Y H Q I h;refine wpAny_Call_Name_kw (q9 I hg hm hv ?_ hn hdb);exact Ys (bG (ha pos pins s Y H _ I h) λus s1 ⟨vs,H1,I1,r1,q1⟩=>hc pins s1 Y H1 vs us Q I1 r1 q1) he hpl
theorem yz(hc:cx X (.type T) r)(hg:Gl X x)(hm:X.mg x=none)(hv:bootBuiltins x=some (.type T))(ha:PA X (e::es) t)(hn:x ≠ "__name__" := by decide)(hdb:iw x:=by decide)
  (he:starEach (e::es) X.env=(false,eval e X.env)::starEach es X.env:=by rfl)(hpl:(backTo pos (starEach es X.env)).any (·.1)=false:=by rfl):PE X (.Call (.Name x p) (e::es) [] pos) (Rz r t):=by
 intro pins s Y H Q I h;refine wpAny_Call_Name_kw (q9 I hg hm hv ?_ hn hdb);exact VJ (bG (ha pos pins s Y H _ I h) λus s1 ⟨vs,H1,I1,r1,q1⟩=>hc pins s1 Y H1 vs us Q I1 r1 q1) he hpl
end
end L2
namespace HT
open PySem PyProof.Rows
variable{Q:Value->Shared->Prop}{sl:Addr}{vl vu:Value}{lo hi:Option Int}
section
variable{prog:Program}{w:World}{A:Around}{E:Value->Shared->Prop}{s:Shared}
theorem En{t b:Addr}{vs ws:List Value}(ht:IsTup s.heap t vs.toArray)(d:IsTup s.heap b ws.toArray)(c:vs≠[])
  (h1:ws=[]->Q (.ref t) s)(h2:ws≠[]->Q (.ref s.heap.objs.size) { s with heap:=s.heap.push { cls:=.type "tuple",data:=.seq (vs++ws).toArray } })
  (hsz:vs.length+ws.length<=sizeLine):wpAny (model prog w) A (binaryOp .Add (.ref t) (.ref b)) Q E s:=by
 obtain⟨⟨cls,v,data,sl⟩,i,hc,n,hd⟩:=id ht;obtain⟨⟨J,x,data2,I⟩,H,h,S,u⟩:=id d;simp only at hc hd h u;subst hc hd h u;have e:vs.toArray++ws.toArray=(vs++ws).toArray:=by simp
 by_cases r:ws=[]
 .exact concat_meets ⟨_,i,rfl⟩ ⟨_,H,rfl⟩ noFill_tuple_add seq_tuple_add Vg U9 (U8 _ _)
   (tuple_addW1 t b vs.toArray ws.toArray n S v x sl I (by simpa using c) (by simp[r])) ⟨i,H,h1 r⟩
 .refine concat_meets ⟨_,i,rfl⟩ ⟨_,H,rfl⟩ noFill_tuple_add seq_tuple_add Vg U9 (U8 _ _)
   (tuple_addW2 t b vs.toArray ws.toArray n S v x sl I (by simpa using c) (by simpa using r) (by rw[SD,SD];exact hsz)) ⟨i,H,?_⟩
  rw[e];exact h2 r
noncomputable def c6(n d:Nat):Option Int->Nat
 |none=>d
 |some v=>if v<0 then (v+(n:Int)).toNat else min v.toNat n
theorem Ki(n d:Nat)(hd:d<=n)(o:Option Int):c6 n d o<=n:=by
 cases o with
 |none=>exact hd
 |some v=>
  show (if v<0 then (v+(n:Int)).toNat else min v.toNat n)<=n;by_cases c:v<0
  .rw[if_pos c];lia
  .rw[if_neg c];exact Nat.min_le_right _ _
theorem wG(v:Int)(n d:Nat):(if v<0 then max (v+(n:Int)) 0 else min v (n:Int))=((c6 n d (some v):Nat):Int):=by
 show (if v<0 then max (v+(n:Int)) 0 else min v (n:Int))=(((if v<0 then (v+(n:Int)).toNat else min v.toNat n):Nat):Int);by_cases c:v<0
 .simp only[if_pos c];lia
 .simp only[if_neg c];lia
theorem u9(lo hi:Option Int)(n:Nat):UX lo hi 1 (n:Int)=(((c6 n 0 lo:Nat):Int),((c6 n n hi:Nat):Int)):=by
 have h1:¬ ((1:Int)<0):=by lia
 unfold UX;simp only[h1,if_false];refine Wu ?_ ?_
 .cases lo with
  |none=>rfl
  |some v=>exact wG v n 0
 .cases hi with
  |none=>rfl
  |some v=>exact wG v n n
theorem uV(i j:Nat):Ul (i:Int) (j:Int) 1=j-i:=by
 unfold Ul;have h1:(1:Int) > 0:=by lia
 simp only[h1,if_true,Int.ediv_one];split<;>lia
theorem mO{v:Value}{o:Option Int}{Q:Option Int->Shared->Prop}(p:IsPart v o)(h:Q o s):wpAny (model prog w) A (Yh v) Q E s:=by
 cases p with
 |none=>exact slicePart_none h
 |int i t=>exact slicePart_int h
theorem gx{n:Nat}{Q:Int×Int×Nat->Shared->Prop}(u:s.heap.IsSliceOf sl vl vu .none)(pl:IsPart vl lo)(X:IsPart vu hi)
  (h:Q (((c6 n 0 lo:Nat):Int),1,c6 n n hi-c6 n 0 lo) s):wpAny (model prog w) A (VP (.ref sl) (pure (n:Int))) Q E s:=by
 obtain⟨os,H,b,I⟩:=id u;unfold VP Yi;refine wpAny_bind (wpAny_bind (wpAny_field H I (x:=vl) rfl (wpAny_bind (wpAny_field H I (x:=vu) rfl (wpAny_bind (wpAny_field H I (x:=.none) rfl (wpAny_pure ?_)))))));refine wpAny_bind (slicePart_none ?_);show wpAny _ _ (if ((1:Int)==0)=true then _ else _) _ _ s;rw[if_neg (by decide)];refine wpAny_bind (mO pl (wpAny_bind (mO X (wpAny_bind (wpAny_pure ?_)))));show wpAny _ _ (match UX lo hi 1 (n:Int) with|(lo,hi)=>pure (lo,(1:Int),Ul lo hi 1)) _ _ s;rw[u9 lo hi n];show wpAny _ _ (pure (((c6 n 0 lo:Nat):Int),(1:Int),Ul ((c6 n 0 lo:Nat):Int) ((c6 n n hi:Nat):Int) 1)) _ _ s;rw[uV];exact wpAny_pure h
theorem A0(xs:Array Value)(i k:Nat):((T9 k).filterMap λ(m:Nat)=>xs[((i:Int)+(m:Int)*1).toNat]?).toArray=((xs.toList.drop i).take k).toArray:=by
 have e:(λ(m:Nat)=>xs[((i:Int)+(m:Int)*1).toNat]?)=λm=>xs[i+m]?:=by
  funext m
  have:((i:Int)+(m:Int)*1).toNat=i+m:=by lia
  rw[this]
 rw[e];have:=pick_run xs i k;rw[List.filterMap_map] at this;have j:((λx=>xs[x]?)∘λx=>i+x)=λm=>xs[i+m]?:=rfl;rw[j] at this;rw[this]
theorem jW{t:Addr}{items:Array Value}(ht:IsTup s.heap t items)(u:s.heap.IsSliceOf sl vl vu .none)(pl:IsPart vl lo)(X:IsPart vu hi)
  (r:¬ (c6 items.size 0 lo=0/\c6 items.size items.size hi=items.size))
  (h:Q (.ref s.heap.objs.size) { s with heap:=s.heap.push { cls:=.type "tuple",data:=.seq ((items.toList.drop (c6 items.size 0 lo)).take (c6 items.size items.size hi-c6 items.size 0 lo)).toArray } })
  (hsz:items.size<=sizeLine):wpAny (model prog w) A (getItem (.ref t) (.ref sl)) Q E s:=by
 have x:sizeOk (.seq ((items.toList.drop (c6 items.size 0 lo)).take (c6 items.size items.size hi-c6 items.size 0 lo)).toArray):=by show ((items.toList.drop (c6 items.size 0 lo)).take (c6 items.size items.size hi-c6 items.size 0 lo)).toArray.size<=sizeLine;rw[SD,Tw,Xs,Tv];lia
 have C:c6 items.size items.size hi<=items.size:=Ki _ _ (SK _) hi;obtain⟨os,H,b,I⟩:=id u;have f:s.TypeIs (.ref sl) "slice" := ⟨os,H,b⟩
 unfold getItem
 try with_reducible refine wpAny_holding ?_
 first|refine wpAny_bind (wpAny_pure ?_)|skip
 refine wpAny_bind (wpAny_sequenceKey ht.typeIs (by decide) ?_);refine wpAny_bind (wpAny_callSpecial?_slot (name:=Yj "__getitem__") ht.typeIs Tx
  (wpAny_call_entry Tx ht.typeIs entry_tuple_getitem ?_ (args_tuple_getitem _ _)))
 show wpAny _ _ (VQ (.ref t) >>= _) _ _ s;refine wpAny_bind (tupleItemsOf_ ht ?_);refine wpAny_bind (wpAny_typeOf f ?_);rw[if_pos (by decide)];refine wpAny_bind (gx u pl X ?_);have v:¬ ((((c6 items.size 0 lo:Nat):Int)==0&&(1:Int)==1&&(c6 items.size items.size hi-c6 items.size 0 lo)==items.size)=true):=by intro q;rw[Sn,Sn] at q;have l:((c6 items.size 0 lo:Nat):Int)=0:=eq_of_beq q.1.1;have o:c6 items.size items.size hi-c6 items.size 0 lo=items.size:=eq_of_beq q.2;exact r ⟨by lia,by lia⟩
 show wpAny _ _ (if (((c6 items.size 0 lo:Nat):Int)==0&&(1:Int)==1&&(c6 items.size items.size hi-c6 items.size 0 lo)==items.size)=true then _ else _) _ _ s;rw[if_neg v,A0]
 first
  |exact wpAny_bind (m:=Us _) (wpAny_newObj_type (wpAny_pure ⟨_,rfl,wpAny_pure h⟩) x)
  |exact wpAny_bind (m:=Us _) (wpAny_newObj_type (wpAny_bind (wpAny_pure (wpAny_pure ⟨_,rfl,wpAny_pure h⟩))) x)
  |exact wpAny_bind (wpAny_bind (m:=Us _) (wpAny_newObj_type (wpAny_pure (wpAny_pure ⟨_,rfl,wpAny_pure h⟩)) x))
  |exact wpAny_bind (wpAny_bind (m:=Us _) (wpAny_newObj_type (wpAny_pure ⟨_,rfl,wpAny_pure h⟩) x))
end
end HT
namespace L2
open PySem PySem.Spec PyProof.Rows
abbrev TO:=St->Hp->(Option Int->Hp->Prop)->Prop
def PO(X:Cx)(e:Option Expr)(t:TO):Prop:=
 ∀(pins:List (Addr×Obj))(s:Shared)(Y:St)(H:Hp)(Q:Option Int->Hp->Prop),Inv X pins Y H s->t Y H Q->
  wpAny (model X.prog X.w) X.A (evalPart e X.env) (λu s'=>∃o H',Inv X pins Y H' s'/\IsPart u o/\Q o H') X.xe s
noncomputable def Ex:TO:=λ_ H Q=>Q none H
noncomputable def NC(t:TE):TO:=λY H Q=>t Y H λx e=>∃i,x=.int i/\Q (some i) e
variable{r:V->Option Int->Option Int->Hp->VK->Prop}
section
variable{X:Cx}{e:Expr}{te:TE}{lo hi:Option Expr}{tl th:TO}{pos p2:Pos}
theorem Gg:PO X none Ex:=by intro pins s Y H Q I h;rw[evalPart_none];exact wpAny_pure ⟨none,H,I,.none,h⟩
theorem Ew(h:PE X e te):PO X (some e) (NC te):=by intro pins s Y H Q I r;rw[evalPart_some];refine bG (h pins s Y H _ I r) λu s1 ⟨x,y,g,k,l⟩=>?_;obtain⟨i,rfl,q⟩:=l;obtain⟨t,rfl⟩:=k;exact⟨some i,y,g,.int i t,q⟩
def dY(X:Cx)(r:V->Option Int->Option Int->Hp->VK->Prop):Prop:=
 ∀(pins:List (Addr×Obj))(s:Shared)(Y:St)(H:Hp)(x:V)(v E h:Value)(lo hi:Option Int)(sl:Addr)(Q:VK),Inv X pins Y H s->RelV x v->s.heap.IsSliceOf sl E h .none->IsPart E lo->IsPart h hi->r x lo hi H Q->
  ∃T id,typeLookup (.type T) "__getitem__" = pure (some (.builtin id))/\s.TypeIs v T/\wpAny (model X.prog X.w) X.A (getItem v (.ref sl)) (EP X pins Y Q) X.xe s
theorem dY.or{r':V->Option Int->Option Int->Hp->VK->Prop}(h:dY X r)(h':dY X r'):dY X (λx lo hi H Q=>r x lo hi H Q\/r' x lo hi H Q):=by
 intro pins s Y H x v E w lo hi sl Q I K u pl A q;rcases q with q|q
 .exact h pins s Y H x v E w lo hi sl Q I K u pl A q
 .exact h' pins s Y H x v E w lo hi sl Q I K u pl A q
noncomputable def RY(r:V->Option Int->Option Int->Hp->VK->Prop)(te:TE)(tl th:TO):TE:=λY H Q=>te Y H λx e=>tl Y e λl c=>th Y c λu D=>r x l u D Q
theorem CT(y:dY X r)(R:PE X e te)(hl:PO X lo tl)(f:PO X hi th):PE X (.Subscript e (.Slice lo hi none p2) pos) (RY r te tl th):=by intro pins s Y H Q I h;refine Subscript_ (bG (R pins s Y H _ I h) λv s1 ⟨x,S,g,k,U⟩=>?_);refine wpAny_Slice (bG (hl pins s1 Y S _ g U) λE s2 ⟨l,c,m,pl,o⟩=>bG (f pins s2 Y c _ m o) λJ p ⟨u,D,O,V,L⟩=>?_);rw[evalPart_none];refine wpAny_pure ?_;have Z:Inv X pins Y D { p with heap:=p.heap.push { cls:=.type "slice",data:=.fields #[E,J,.none] } }:=O.kept (t':=p.toks) λb ob q=>SA _ q;obtain⟨T,id,a,ht,N⟩:=y pins { p with heap:=p.heap.push { cls:=.type "slice",data:=.fields #[E,J,.none] } } Y D x v E J l u p.heap.objs.size Q Z k (X8 ..) pl V L;show wpAny (model X.prog X.w) X.A (subscriptTail e (.Slice lo hi none p2) v (.ref p.heap.objs.size)) (EP X pins Y Q) X.xe { p with heap:=p.heap.push { cls:=.type "slice",data:=.fields #[E,J,.none] } };exact tail_any (ops:=[.ref p.heap.objs.size,v]) ht a N (by with_unfolding_all rfl)
def rG(xs:List V)(lo hi:Option Int):List V:=(xs.drop (HT.c6 xs.length 0 lo)).take (HT.c6 xs.length xs.length hi-HT.c6 xs.length 0 lo)
theorem lN(xs:List V)(lo hi:Option Int):(rG xs lo hi).length<=xs.length:=by unfold rG;rw[Tw,Xs];lia
def QX(K:So):V->Option Int->Option Int->Hp->VK->Prop:=λx lo hi H Q=>∃a xs,x=.ref a/\gK K H a xs /\
 ¬ (HT.c6 xs.length 0 lo=0/\HT.c6 xs.length xs.length hi=xs.length)/\∀p,H p=none->Q (.ref p) (upd H p (.tup (rG xs lo hi)))
theorem K3:dY X (QX X.K):=by
 intro pins s Y H x v E J lo hi sl Q I A u pl V h;obtain⟨a,xs,rfl,w,t,q⟩:=h;cases A;obtain⟨its,r,ht,hz⟩:=I.tuple w;have z:its.toArray.size=xs.length:=by rw[SD];exact r.length.symm
 refine⟨"tuple",_,Tx.lookup,ht.typeIs,?_⟩;refine HT.jW ht u pl V (by rw[z];exact t) ?_ (by rw[z];exact hz);rw[z];refine⟨.ref s.heap.objs.size,_,I.laid (t':=s.toks) (o:=.tup (rG xs lo hi)) (λb ob q=>SA _ q) (SK _) ?_,rfl,q _ (I.hok.fresh (SK _))⟩;exact⟨SW (lN xs lo hi) hz,_,(r.drop (HT.c6 xs.length 0 lo)).take (HT.c6 xs.length xs.length hi-HT.c6 xs.length 0 lo),fg.new _ _⟩
def Nz(K:So):R2:=λx y H Q=>∃a b xs ys,x=.ref a/\y=.ref b/\gK K H a xs/\gK K H b ys/\xs≠[]/\xs.length+ys.length<=sizeLine /\
 (ys=[]->Q (.ref a) H)/\(ys≠[]->∀p,H p=none->Q (.ref p) (upd H p (.tup (xs++ys))))
theorem Vals.rW{xs:List V}{us:List Value}(r:Vals xs us):us=[]↔xs=[]:=by
 cases r with
 |nil=>simp
 |cons _ _=>simp
theorem ES:d6 X (binaryOp .Add) (Nz X.K):=by intro pins s Y H x y v u Q I A P h;obtain⟨a,b,xs,ys,rfl,rfl,ha,d,C,hz,l,E⟩:=h;cases A;cases P;obtain⟨its,k,F,_⟩:=I.tuple ha;obtain⟨B,n,p2,_⟩:=I.tuple d;refine HT.En F p2 (λz=>C (k.rW.mp z)) (λz=>⟨.ref a,H,I,rfl,l (n.rW.mp z)⟩) (λz=>?_) (by rw[<-k.length,<-n.length];exact hz);refine⟨.ref s.heap.objs.size,_,I.laid (t':=s.toks) (o:=.tup (xs++ys)) (λb ob q=>SA _ q) (SK _) ?_,rfl,E (λw=>z (n.rW.mpr w)) _ (I.hok.fresh (SK _))⟩;exact⟨by rw[SI];exact hz,_,k.append n,fg.new _ _⟩
end
noncomputable def p8(n:Nat)(i:Int):Option Nat:=if 0<=i then (if i<n then some i.toNat else none) else if -(n:Int)<=i then some (i+n).toNat else none
def jd{α:Type}(xs:List α)(i:Int):Option α:=(p8 xs.length i).bind λj=>xs[j]?
variable{i:Int}{j:Nat}
theorem vW{n:Nat}(h:p8 n i=some j):seqIndex? i n=some j/\j<n /\ -(n:Int)<=i/\i<n:=by
 unfold p8 at h;by_cases h0:0<=i
 .rw[if_pos h0] at h;by_cases h1:i<n
  .rw[if_pos h1] at h;have e:i.toNat=j:=SM h;exact⟨by rw[seqIndex_of h0 h1,e],by lia,by lia,h1⟩
  .rw[if_neg h1] at h;cases h
 .rw[if_neg h0] at h;by_cases h1:-(n:Int)<=i
  .rw[if_pos h1] at h;have e:(i+n).toNat=j:=SM h;exact⟨by rw[seqIndex_neg (by lia) h1,e],by lia,h1,by lia⟩
  .rw[if_neg h1] at h;cases h
variable{α:Type}
theorem qX{xs:List α}{v:α}(h:jd xs i=some v):∃j,seqIndex? i xs.length=some j/\xs[j]?=some v/\j<xs.length /\ -(xs.length:Int)<=i/\i<xs.length:=by
 unfold jd at h;cases e:p8 xs.length i with
 |none=>rw[e] at h;cases h
 |some j=>rw[e] at h;obtain⟨h1,h2,h3,h4⟩:=vW e;exact⟨j,h1,h,h2,h3,h4⟩
theorem gL{xs:List α}{v:α}(h:xs[j]?=some v):jd xs (j:Int)=some v:=by
 have b:j<xs.length:=(Sy.mp h).1;have e:p8 xs.length (j:Int)=some j:=by unfold p8;rw[if_pos (by lia),if_pos (by lia)];simp
 unfold jd;rw[e];exact h
theorem sC(xs:List α)(v:α):jd (xs++[v]) (-1)=some v:=by
 have hl:(xs++[v]).length=xs.length+1:=by simp
 have e:p8 (xs++[v]).length (-1)=some xs.length:=by
  unfold p8;rw[hl,if_neg (by decide),if_pos (by lia)]
  congr 1
  lia
 unfold jd;rw[e];show (xs++[v])[xs.length]?=some v;simp
def mJ(b:Expr):Prop:=∀o i,subscripted b false o i=operate [o,i] (getItem o i)
def Gv(X:Cx)(r:R2):Prop:=
 ∀(value slice:Expr)(pins:List (Addr×Obj))(s:Shared)(Y:St)(H:Hp)(x y:V)(v u:Value)(Q:VK),Inv X pins Y H s->RelV x v->RelV y u->r x y H Q->
  subscripted slice false v u=operate [v,u] (getItem v u)->wpAny (model X.prog X.w) X.A (subscriptTail value slice v u) (EP X pins Y Q) X.xe s
def P4(X:Cx)(id:String)(r:V->List V->Hp->VK->Prop):Prop:=
 ∀(pins:List (Addr×Obj))(s:Shared)(Y:St)(H:Hp)(x:V)(xs:List V)(v:Value)(us:List Value)(Q:VK),Inv X pins Y H s->RelV x v->Vals xs us->r x xs H Q->
  wpAny (model X.prog X.w) X.A (call (.builtin id) (v::us)) (EP X pins Y Q) X.xe s
variable{pins:List (Addr×Obj)}{Y:St}{H:Hp}{s:Shared}{p:Addr}{its its':List Value}{y x:V}{u v:Value}{T:String}
section
variable{X:Cx}{a b:Expr}{ta tb:TE}{pos:Pos}
theorem Gv.or{r r':R2}(h:Gv X r)(h':Gv X r'):Gv X (λx y H Q=>r x y H Q\/r' x y H Q):=by
 intro value slice pins s Y H x y v u Q I K P q B;rcases q with q|q
 .exact h value slice pins s Y H x y v u Q I K P q B
 .exact h' value slice pins s Y H x y v u Q I K P q B
theorem Ob{r:R2}(Z:Gv X r)(ha:PE X a ta)(d:PE X b tb)(B:mJ b):PE X (.Subscript a b pos) (Ph r ta tb):=by intro pins s Y H Q I h;exact Subscript_ (Lh ha d I h λv u s2 x y c m K P q=>Z a b pins s2 Y c x y v u Q m K P q (B _ _))
def Nm(K:So):R2:=λx y H Q=>∃p xs i v,x=.ref p/\y=.int i/\gI K H p xs/\jd xs i=some v/\Q v H
def MK(K:So):R2:=λx y H Q=>∃p xs i v,x=.ref p/\y=.int i/\gK K H p xs/\jd xs i=some v/\Q v H
def yU:R2:=λx y H Q=>∃z i c,x=.str z/\y=.int i/\z.length<=sizeLine/\jd z.cps.toList i=some c/\Q (.str ⟨#[c]⟩) H
theorem Eg:Gv X (Nm X.K):=by
 intro value slice pins s Y H x y v u Q I A P h B;obtain⟨p,xs,i,z,rfl,rfl,S,U,q⟩:=h;cases A;obtain⟨t,rfl⟩:=P;obtain⟨its,r,pl,hz⟩:=I.list S;obtain⟨j,h1,h2,h3,h4,h5⟩:=qX U;obtain⟨w,R,G⟩:=r.get h2;have hl:=r.length;have hn:=oI;have fin:EP X pins Y Q w s:=⟨z,H,I,G,q⟩
 by_cases h0:0<=i
 .have b:i.toNat=j:=by rw[seqIndex_of h0 h5] at h1;exact SM h1
  exact item_listR pl.isList h0 (by lia) (by rw[b];simpa using R) fin B
 .have b:(i+(its.toArray.size:Int)).toNat=j:=by rw[seqIndex_neg (by lia) h4] at h1;rw[SD,<-hl];exact SM h1
  exact subscriptTail_builtinR (x:=w) pl.isList.typeIs slot_list_getitem.lookup
   (wpAny_getItem_list_neg (Q:=λr s'=>r=w/\EP X pins Y Q r s') pl.isList (by lia) (by rw[SD]<;>lia) (by lia) (by rw[b];simpa using R) ⟨rfl,fin⟩) B
theorem KP:Gv X (MK X.K):=by
 intro value slice pins s Y H x y v u Q I A P h B;obtain⟨p,xs,i,z,rfl,rfl,S,R,q⟩:=h;cases A;obtain⟨t,rfl⟩:=P;obtain⟨its,r,pl,hz⟩:=I.tuple S;obtain⟨j,h1,h2,h3,h4,h5⟩:=qX R;obtain⟨w,a,G⟩:=r.get h2;have hl:=r.length;have hn:=oI;have fin:EP X pins Y Q w s:=⟨z,H,I,G,q⟩
 exact subscriptTail_builtinR (x:=w) pl.typeIs slot_tuple_getitem.lookup
  (getItem_tuple (j:=j) (Q:=λr s'=>r=w/\EP X pins Y Q r s') pl (by lia) (by lia) (by rw[SD,<-hl];exact h1) (by simpa using a) ⟨rfl,fin⟩) B
theorem Lz:Gv X yU:=by
 intro value slice pins s Y H x y v u Q I K P h B;obtain⟨z,i,c,rfl,rfl,hz,p,q⟩:=h;obtain⟨t,rfl⟩:=K;obtain⟨t',rfl⟩:=P;obtain⟨j,h1,h2,h3,h4,h5⟩:=qX p;have hl:z.cps.toList.length=z.length:=by simp[YZ]
 rw[hl] at h1 h4 h5;have hn:=oI;exact tail_any (typeIs_str s z t) slot_str_getitem.lookup (getItem_str (c:=c) (by have F:decide (i < -(2^63:Int))=false:=decide_eq_false (by lia);have w:decide (i≥2^63)=false:=decide_eq_false (by lia);rw[F,w,Bool.or_false]) (by rw[h1];simpa using h2) ⟨.str ⟨#[c]⟩,H,I.tok _,⟨_,rfl⟩,q⟩) B
def Ry(K:So):R2:=λx y H Q=>Nm K x y H Q\/MK K x y H Q\/yU x y H Q
theorem LS:Gv X (Ry X.K):=Eg.or (KP.or Lz)
theorem uZ(its:List Value)(n j:Nat)(u:Value):Vu (·.setIfInBounds j u) { cls:=.type "list",data:=.seq its.toArray n }={ cls:=.type "list",data:=.seq (its.set j u).toArray n }:=by simp[Vu]
theorem Inv.lst{xs:List V}(I:Inv X pins Y H s)(h:H p=some (.lst xs)):
  ∃(its:List Value)(n:Nat),Vals xs its/\s.heap.get? p=some { cls:=.type "list",data:=.seq its.toArray n }/\xs.length<=sizeLine:=by
 obtain⟨z,its,n,r,e⟩:=I.hok p _ h;exact⟨its,n,r,e,z⟩
theorem Inv.Lc{xs ys:List V}{n w:Nat}{f:Obj->Obj}(I:Inv X pins Y H s)(h:H p=some (.lst xs))
  (i:s.heap.get? p=some { cls:=.type "list",data:=.seq its.toArray n })(hf:f { cls:=.type "list",data:=.seq its.toArray n }={ cls:=.type "list",data:=.seq its'.toArray w })(r:Vals ys its')(hz:ys.length<=sizeLine)(t:Nat):
  Inv X pins Y (upd H p (.lst ys)) { s with heap:=s.heap.update p f,toks:=t }:=by
 have e:(s.heap.update p f).get? p=some { cls:=.type "list",data:=.seq its'.toArray w }:=by rw[Heap.get?_update_self f i (by rw[hf]<;>rfl),hf]
 refine I.write (x:=p) (e:=p) (by rw[h];trivial) (.inl rfl) (λb u d q=>(WU _ _ (T6 d)).trans q) ⟨_,e⟩ ?_;exact⟨hz,its',w,r,e⟩
def HL:V->V->V->Hp->(Hp->Prop)->Prop:=λo i v H Q=>∃p xs k j,o=.ref p/\i=.int k/\H p=some (.lst xs)/\p8 xs.length k=some j/\Q (upd H p (.lst (xs.set j v)))
theorem set_list:Pn X HL:=by
 intro pins s Y H o i v L O u Q I f z C h;obtain⟨p,xs,k,j,rfl,rfl,hp,b,q⟩:=h;cases f;obtain⟨t,rfl⟩:=z;obtain⟨its,n,r,J,hz⟩:=I.lst hp;obtain⟨h1,h2,h3,h4⟩:=vW b;have hl:=r.length;have hn:=oI;have x:Inv X pins Y (upd H p (.lst (xs.set j v))) { s with heap:=s.heap.update p (Vu (·.setIfInBounds j u)) }:=
  I.Lc hp J (uZ its n j u) (r.set C j) (by rw[List.length_set];exact hz) s.toks
 by_cases h0:0<=k
 .have hk:k.toNat=j:=by rw[seqIndex_of h0 h4] at h1;exact SM h1
  exact PySem.W.ki_setAt J h0 (by lia) (by rw[SD,<-hl];exact h4) (by rw[hk];exact⟨_,x,q⟩)
 .have hk:(k+(its.toArray.size:Int)).toNat=j:=by rw[seqIndex_neg (by lia) h3] at h1;rw[SD,<-hl];exact SM h1
  exact PySem.W.ki_setBack J (by lia) (by rw[SD,<-hl];exact h3) (by lia) (by rw[hk];exact⟨_,x,q⟩)
theorem rE(lo hi:Option Int)(n:Nat):(sliceBounds lo hi none n).1=((HT.c6 n 0 lo:Nat):Int)/\(sliceBounds lo hi none n).2.1=((HT.c6 n n hi:Nat):Int)/\(sliceBounds lo hi none n).2.2=1:=by
 refine⟨?_,?_,rfl⟩
 .cases lo with
  |none=>simp[sliceBounds,HT.c6]
  |some i=>
   simp only[sliceBounds,HT.c6,Xj,show (1:Int) > 0 by decide,if_true];by_cases h:i<0
   .simp only[h,if_true]<;>lia
   .simp only[h,if_false]<;>lia
 .cases hi with
  |none=>simp[sliceBounds,HT.c6]
  |some i=>
   simp only[sliceBounds,HT.c6,Xj,show (1:Int) > 0 by decide,if_true];by_cases h:i<0
   .simp only[h,if_true]<;>lia
   .simp only[h,if_false]<;>lia
theorem pj(its:List Value)(lo hi:Option Int):slicePick its.toArray lo hi none=((its.drop (HT.c6 its.length 0 lo)).take (HT.c6 its.length its.length hi-HT.c6 its.length 0 lo)).toArray:=by obtain⟨h1,h2,h3⟩:=rE lo hi its.toArray.size;unfold slicePick;rw[h1,h2,h3];simp only[sliceRange_one,pick_run,SD]<;>rfl
def Qk(K:So):V->Option Int->Option Int->Hp->VK->Prop:=λx lo hi H Q=>∃a xs,x=.ref a/\gI K H a xs/\∀p,H p=none->Q (.ref p) (upd H p (.lst (rG xs lo hi)))
theorem Gy:dY X (Qk X.K):=by intro pins s Y H x v E J lo hi sl Q I A u pl V h;obtain⟨a,xs,rfl,w,q⟩:=h;cases A;obtain⟨its,r,ht,hz⟩:=I.list w;have z:=r.length;refine⟨"list",_,slot_list_getitem.lookup,ht.isList.typeIs,?_⟩;refine wpAny_getItem_list_slice ht.isList u pl V .none (by simp) ?_ (by rw[SD]<;>lia);rw[pj,<-z];refine⟨.ref s.heap.objs.size,_,I.laid (t':=s.toks) (o:=.lst (rG xs lo hi)) (λb ob q=>SA _ q) (SK _) ?_,rfl,q _ (I.hok.fresh (SK _))⟩;exact⟨SW (lN xs lo hi) hz,_,0,(r.drop (HT.c6 xs.length 0 lo)).take (HT.c6 xs.length xs.length hi-HT.c6 xs.length 0 lo),S1 _ rfl⟩
noncomputable def iz:V->Bool
 | .non=>true
 | .bl _=>true
 | .int _=>true
 | .str _=>true
 |_=>false
noncomputable def Hh:V->V->Bool
 | .non,.non=>true
 | .bl a,.bl b=>a==b
 | .bl a,.int b=>(if a then 1 else 0)==b
 | .int a,.bl b=>a==(if b then 1 else 0)
 | .int a,.int b=>a==b
 | .str a,.str b=>a==b
 |_,_=>false
theorem cM{A:Around}(P:RelV y u)(K:RelV x v)(Q:iz y=true)(fx:iz x=true):US A s u v (Hh y x):=by
 cases y with
 |non=>
  cases P;cases x with
  |non=>cases K;exact US.same _
  |bl b=>cases K;exact US.none_bool b
  |int b=>obtain⟨t,rfl⟩:=K;exact US.none_int b t
  |str b=>obtain⟨t,rfl⟩:=K;exact US.none_str b t
  |_=>exact absurd (show false=true from fx) Tg
 |bl a=>
  cases P;cases x with
  |non=>cases K;exact US.bool_none a
  |bl b=>cases K;exact US.bool_bool a b
  |int b=>obtain⟨t,rfl⟩:=K;exact US.bool_int a b t
  |str b=>obtain⟨t,rfl⟩:=K;exact US.bool_str a b t
  |_=>exact absurd (show false=true from fx) Tg
 |int a=>
  obtain⟨t',rfl⟩:=P;cases x with
  |non=>cases K;exact US.int_none a t'
  |bl b=>cases K;exact US.int_bool a t' b
  |int b=>obtain⟨t,rfl⟩:=K;exact US.int_int a t' b t
  |str b=>obtain⟨t,rfl⟩:=K;exact WL a t' b t
  |_=>exact absurd (show false=true from fx) Tg
 |str a=>
  obtain⟨t',rfl⟩:=P;cases x with
  |non=>cases K;exact US.str_none a t'
  |bl b=>cases K;exact US.str_bool a t' b
  |int b=>obtain⟨t,rfl⟩:=K;exact WM a t' b t
  |str b=>obtain⟨t,rfl⟩:=K;exact US.str_str a t' b t
  |_=>exact absurd (show false=true from fx) Tg
 |_=>exact absurd (show false=true from Q) Tg
def uJ(x:V)(u:Value):Bool:=match u with
 | .none=>Hh .non x
 | .bool b=>Hh (.bl b) x
 | .int i _=>Hh (.int i) x
 | .str z _=>Hh (.str z) x
 |_=>false
theorem B0(r:RelV y u)(f:iz y=true):uJ x u=Hh y x:=by
 cases y with
 |non=>cases r;rfl
 |bl b=>cases r;rfl
 |int i=>obtain⟨t,rfl⟩:=r;rfl
 |str z=>obtain⟨t,rfl⟩:=r;rfl
 |_=>exact absurd (show false=true from f) Tg
theorem ke{x:V}:∀{xs:List V}{us:List Value},Vals xs us->xs.all iz=true->us.any (uJ x)=xs.any λy=>Hh y x
 |_,_,.nil,_=>rfl
 |y::xs,u::us,.cons r t,f=>by rw[S2,Sn] at f;rw[Um,Um,B0 r f.1,ke t f.2]
theorem iK{A:Around}{s:Shared}{x:V}{v:Value}(K:RelV x v)(fx:iz x=true):∀{xs:List V}{us:List Value},Vals xs us->xs.all iz=true->∀u∈us,US A s u v (uJ x u)
 |_,_,.nil,_=>λu q=>by cases q
 |y::xs,u::us,.cons r t,f=>λz q=>by
  rw[S2,Sn] at f;rcases SO.mp q with rfl|q
  .rw[B0 r f.1];exact cM r K f.1 fx
  .exact iK K fx t f.2 z q
def Mu(x:V)(xs:List V):Bool:=xs.any λy=>Hh y x
def P6(K:So)(neg:Bool):R2:=λx y H Q=>∃p xs,y=.ref p/\(gI K H p xs\/gK K H p xs)/\iz x=true/\xs.all iz=true/\Q (.bl (if neg then !Mu x xs else Mu x xs)) H
theorem qh:d6 X (compareOp .In) (P6 X.K false):=by
 intro pins s Y H x y v u Q I A P h;obtain⟨p,xs,rfl,j,fx,fs,q⟩:=h;cases P;rcases j with j|j
 .obtain⟨its,r,pl,hz⟩:=I.list j;refine Xu (uJ x) pl.isList (λw o=>iK A fx r fs w (by simpa using o)) ⟨.bl _,H,I,rfl,?_⟩;rw[show its.toArray.any (uJ x)=its.any (uJ x) by simp,ke r fs];exact q
 .obtain⟨its,r,pl,hz⟩:=I.tuple j;refine SeqAt.in_tupleAt (uJ x) pl (λw o=>iK A fx r fs w (by simpa using o)) ⟨.bl _,H,I,rfl,?_⟩;rw[show its.toArray.any (uJ x)=its.any (uJ x) by simp,ke r fs];exact q
theorem kD:d6 X (compareOp .NotIn) (P6 X.K true):=by
 intro pins s Y H x y v u Q I A P h;obtain⟨p,xs,rfl,j,fx,fs,q⟩:=h;cases P;rcases j with j|j
 .obtain⟨its,r,pl,hz⟩:=I.list j;refine Xd (uJ x) pl.isList (λw o=>iK A fx r fs w (by simpa using o)) ⟨.bl _,H,I,rfl,?_⟩;rw[show its.toArray.any (uJ x)=its.any (uJ x) by simp,ke r fs];exact q
 .obtain⟨its,r,pl,hz⟩:=I.tuple j;refine SeqAt.notIn_tupleAt (uJ x) pl (λw o=>iK A fx r fs w (by simpa using o)) ⟨.bl _,H,I,rfl,?_⟩;rw[show its.toArray.any (uJ x)=its.any (uJ x) by simp,ke r fs];exact q
theorem qK:cx X (.type "list") (λxs H Q=>∃p ys,xs=[.ref p]/\(gI X.K H p ys\/gK X.K H p ys)/\∀l,H l=none->Q (.ref l) (upd H l (.lst ys))):=by
 intro pins s Y H xs us Q I r h;obtain⟨p,ys,rfl,j,q⟩:=h;obtain⟨u,rfl,A⟩:=vals1 r;cases A;have fin:∀(its:List Value),Vals ys its->ys.length<=sizeLine->∀(h':Heap)(v:Nat),(∀b o',s.heap.get? b=some o'->h'.get? b=some o')->
   h'.get? s.heap.objs.size=some { cls:=.type "list",dict:=none,data:=.seq its.toArray v,slots:=#[] }->EP X pins Y Q (.ref s.heap.objs.size) { s with heap:=h' }:=λits r' hz h' v kp e=>
  ⟨.ref s.heap.objs.size,_,I.laid (t':=s.toks) kp (SK _) (show bW X.prog X.w _ h' _ (.lst ys) from ⟨hz,its,v,r',e⟩),rfl,q _ (I.hok.fresh (SK _))⟩
 rcases j with j|j
 .obtain⟨its,r',pl,hz⟩:=I.list j;have z:=r'.length;obtain⟨o,i,hc,n,hd⟩:=pl.isList;exact call_list_seq p (.inl rfl) i hc hd (λh' v kp e=>fin its r' hz h' v kp e) (by simp only[SD]<;>lia)
 .obtain⟨its,r',pl,hz⟩:=I.tuple j;have z:=r'.length;obtain⟨o,i,hc,n,hd⟩:=pl;exact call_list_seq p (.inr rfl) i hc hd (λh' v kp e=>fin its r' hz h' v kp e) (by simp only[SD]<;>lia)
theorem pq:cx X (.type "tuple") (λxs H Q=>∃p ys,xs=[.ref p]/\((gI X.K H p ys/\∀l,H l=none->Q (.ref l) (upd H l (.tup ys)))\/(gK X.K H p ys/\Q (.ref p) H))):=by
 intro pins s Y H xs us Q I r h;obtain⟨p,ys,rfl,h⟩:=h;obtain⟨u,rfl,A⟩:=vals1 r;cases A;rcases h with ⟨j,q⟩|⟨j,q⟩
 .obtain⟨its,r',pl,hz⟩:=I.list j;have z:=r'.length;refine call_tuple_list pl.isList (λh' kp=>?_) (by simp only[SD]<;>lia);have g:Inv X pins Y H { s with heap:=h' }:=I.kept (t':=s.toks) kp;have m:Inv X pins Y (upd H h'.objs.size (.tup ys)) { s with heap:=h'.push { cls:=.type "tuple",data:=.seq its.toArray } }:=
   g.laid (t':=s.toks) (λb o e=>SA _ e) (SK _) (show bW X.prog X.w _ _ _ (.tup ys) from ⟨hz,its,r',fg.new _ _⟩)
  exact⟨.ref h'.objs.size,_,m,rfl,q _ (g.hok.fresh (SK _))⟩
 .obtain⟨its,r',pl,hz⟩:=I.tuple j;exact call_tuple_same pl ⟨.ref p,H,I,rfl,q⟩
def PV(K:So)(T:String)(x:V)(H:Hp):Prop:=match x with
 | .str _=>T = "str"
 | .int _=>T = "int"
 | .ref p=>(T = "list" /\ ∃xs,gI K H p xs)\/(T = "tuple" /\ ∃o,K.lookup p=some o/\o.cls=.type "tuple" /\ o.dict=none) \/
   (T = "dict" /\ ((∃kvs,H p=some (.dK kvs))\/∃kvs,H p=some (.dT kvs)))\/(T = "set" /\ ∃S n,H p=some (.set S n))
 |_=>False
theorem CQ(I:Inv X pins Y H s)(r:RelV x v)(ty:PV X.K T x H):
  s.TypeIs v T/\∀a,v=.ref a->∃ob,s.heap.get? a=some ob/\ob.dict=none:=by
 cases x with
 |str z=>obtain⟨t,rfl⟩:=r;cases (show T = "str" from ty);exact⟨typeIs_str s z t,λ_ e=>nomatch e⟩
 |int i=>obtain⟨t,rfl⟩:=r;cases (show T = "int" from ty);exact⟨typeIs_int s i t,λ_ e=>nomatch e⟩
 |ref p=>
  cases r;rcases ty with ⟨rfl,xs,Q⟩|⟨rfl,o,hk,hc,hd⟩|⟨rfl,hk⟩|⟨rfl,S,n,hk⟩
  .obtain⟨its,_,pl,_⟩:=I.list Q;refine⟨pl.isList.typeIs,λa e=>?_⟩;cases e;obtain⟨o,n,e,c,hd,_⟩:=pl;exact⟨o,e,hd⟩
  .refine⟨⟨o,I.ur p o hk,hc⟩,λa e=>?_⟩;cases e;exact⟨o,I.ur _ o hk,hd⟩
  .have z:∃o,s.heap.get? p=some o/\o.ExactDict:=by
    rcases hk with ⟨kvs,hk⟩|⟨kvs,hk⟩
    .obtain⟨_,_,_,_,o,_,_,e,ex,_⟩:=I.hok p _ hk;exact⟨o,e,ex⟩
    .obtain⟨_,_,_,_,o,_,_,e,ex,_⟩:=I.hok p _ hk;exact⟨o,e,ex⟩
   obtain⟨o,e,ex⟩:=z;refine⟨⟨o,e,ex.1⟩,λa j=>?_⟩;cases j;exact⟨o,e,ex.2.1⟩
  .obtain⟨o,_,_,_,e,ex,_⟩:=I.hok p _ hk;refine⟨⟨o,e,ex.1⟩,λa j=>?_⟩;cases j;exact⟨o,e,ex.2.1⟩
 |_=>exact T8 ty
noncomputable def QI(K:So)(T:String)(r:V->List V->Hp->VK->Prop)(s:TE):TE:=λY H Q=>s Y H λx e=>PV K T x e/\r x [] e Q
noncomputable def Q2(K:So)(T:String)(r:V->List V->Hp->VK->Prop)(s:TE)(t:TA):TE:=λY H Q=>s Y H λx e=>PV K T x e/\t Y e λxs c=>r x xs c Q
variable{o e:Expr}{es:List Expr}{to:TE}{t:TA}{name:Str}{apos cpos:Pos}{T id:String}{r:V->List V->Hp->VK->Prop}
theorem BG(pa:PlainAttrs T)(slot:Slot T name id)(hty:typeOf (.builtin id)=pure (.type "method_descriptor"))(hm:P4 X id r)(ho:PE X o to)
  (hbase:attributeBase o name X.env (eval o X.env)=eval o X.env:=by rfl)(hline:(apos.endLine==cpos.line)=true:=by rfl):PE X (.Call (.Attribute o name apos) [] [] cpos) (QI X.K T r to):=by
 intro pins s Y H Q I h;refine wpAny_Call_method0_late hbase hline (bG (ho pins s Y H _ I h) λv s1 ⟨x,H1,I1,r1,ty,q1⟩=>?_);obtain⟨h1,h2⟩:=CQ I1 r1 ty;exact⟨T,id,pa,slot,hty,h1,h2,Vm rfl (PySem.evalArgs_none (hm pins s1 Y H1 x [] v [] Q I1 r1 .nil q1))⟩
theorem ua(pa:PlainAttrs T)(slot:Slot T name id)(hty:typeOf (.builtin id)=pure (.type "method_descriptor"))(hm:P4 X id r)(ho:PE X o to)(ha:PA X (e::es) t)
  (hbase:attributeBase o name X.env (eval o X.env)=eval o X.env:=by rfl)
  (hfew:((backTo cpos (starEach (e::es) X.env)).all (λx=>!x.1)&&(backToKw cpos (keywordEach [] X.env)).all (λx=>x.1.isSome)
   && decide ((e::es).length+([]:List Keyword).length+(if ([]:List Keyword).isEmpty then 0 else 1)<30))=true:=by rfl)
  (hline:(apos.endLine==cpos.line)=true:=by rfl) (hs:starEach (e::es) X.env=(false,eval e X.env)::starEach es X.env:=by rfl) (hplain:(backTo cpos (starEach es X.env)).any (·.1)=false:=by rfl):
  PE X (.Call (.Attribute o name apos) (e::es) [] cpos) (Q2 X.K T r to t):=by
 intro pins s Y H Q I h;refine wpAny_Call_method_late hbase hfew hline rfl (bG (ho pins s Y H _ I h) λv s1 ⟨x,H1,I1,r1,ty,q1⟩=>?_);obtain⟨h1,h2⟩:=CQ I1 r1 ty;refine⟨T,id,pa,slot,hty,h1,h2,?_⟩;have hA:=ha cpos pins s1 Y H1 _ I1 q1;rw[hs] at hA ⊢;refine Vm (by show (false || (backTo cpos (starEach es X.env)).any (·.1))=false;rw[hplain]<;>rfl) (W0 ?_);exact bG hA λus s2 ⟨vs,H2,I2,r2,q2⟩=>hm pins s2 Y H2 x vs v us Q I2 r1 r2 q2
end
def PR(X:Cx)(id:String)(r:V->List V->Hp->VK->Prop):Prop:=
 ∀(pins:List (Addr×Obj))(s:Shared)(Y:St)(H:Hp)(x:V)(xs:List V)(v:Value)(us:List Value)(Q:VK),Inv X pins Y H s->RelV x v->Vals xs us->r x xs H Q->
  wpAny (model X.prog X.w) X.A (call (.builtin id) (v::us)) (EP X pins Y Q) X.xe s
theorem Vals.one:∀{x:V}{us:List Value},Vals [x] us->∃u,us=[u]/\RelV x u
 |_,_,.cons r .nil=>⟨_,rfl,r⟩
theorem Vals.zero:∀{us:List Value},Vals [] us->us=[]
 |_,.nil=>rfl
theorem Vals.dropLast{xs:List V}{us:List Value}(h:Vals xs us):Vals xs.dropLast us.dropLast:=by
 induction h with
 |nil=>exact .nil
 |cons r t l=>
  cases t with
  |nil=>exact .nil
  |cons q t'=>exact .cons r l
theorem vw(l:List α):l.eraseIdx (l.length-1)=l.dropLast:=by
 induction l with
 |nil=>rfl
 |cons a r x=>
  cases r with
  |nil=>rfl
  |cons b r=>
   have e:(a::b::r).length-1=((b::r).length-1)+1:=by have h1:(a::b::r).length=r.length+2:=rfl;have h2:(b::r).length=r.length+1:=rfl;lia
   rw[e,List.eraseIdx_cons_succ,x]
   all_goals rfl
variable{t':Nat}
section
variable{X:Cx}{pins:List (Addr×Obj)}{Y:St}{H:Hp}{s:Shared}{l b:Addr}{xs ys zs:List V}
theorem Inv.ET{n:Nat}{f:Array Value->Array Value}(I:Inv X pins Y H s)(h:H l=some (.lst xs))
  (e:s.heap.get? l=some { cls:=.type "list",data:=.seq its.toArray n })(hf:f its.toArray=its'.toArray)(c:Vals ys its')(hz:ys.length<=sizeLine):
  Inv X pins Y (upd H l (.lst ys)) { s with heap:=s.heap.update l (Vu f),toks:=t' }:=by
 have q:=PySem.IsL.update e f;rw[hf] at q;refine I.write (x:=l) (e:=l) (by rw[h];exact trivial) (.inl rfl) (λt u d Q=>(WU s.heap (Vu f) (T6 d)).trans Q) ⟨_,q⟩ ?_;exact⟨hz,its',_,c,q⟩
theorem Inv.Qw(I:Inv X pins Y H s)(c:Vals ys its)(hz:ys.length<=sizeLine):
  Inv X pins Y (upd H s.heap.objs.size (.lst ys)) { s with heap:=s.heap.push { cls:=.type "list",data:=.seq its.toArray },toks:=t' }:=
 I.laid (λ_ _ q=>SA _ q) (SK _) ⟨hz,its,0,c,S1 _ rfl⟩
theorem Inv.fresh(I:Inv X pins Y H s):H s.heap.objs.size=none:=I.hok.fresh (SK _)
theorem Inv.Fb(I:Inv X pins Y H s)(h:H l=some (.lst xs)):xs.length<=sizeLine/\∃(its:List Value)(n:Nat),Vals xs its/\xs.length=its.length/\s.heap.get? l=some { cls:=.type "list",data:=.seq its.toArray n }:=by obtain⟨z,its,n,r,e⟩:=I.hok l _ h;exact⟨z,its,n,r,r.length,e⟩
theorem Cr{n:Nat}(h:n<=sizeLine):Uu n=false:=by unfold Uu;exact decide_eq_false (by lia)
end
section
variable{X:Cx}
def Fz:V->List V->Hp->VK->Prop:=λx vs H Q=>∃l xs y,x=.ref l/\vs=[y]/\H l=some (.lst xs)/\xs.length<sizeLine/\Q .non (upd H l (.lst (xs++[y])))
theorem pI:PR X "list.append" Fz:=by intro pins s Y H x vs v us Q I K C h;obtain⟨l,xs,y,rfl,rfl,T,hz,q⟩:=h;cases K;obtain⟨u,rfl,b⟩:=C.one;obtain⟨z,its,n,r,hl,e⟩:=I.Fb T;refine call_meets F.slot_list_append ⟨_,e,rfl⟩ F.entry_list_append (F.args_list_append_2 _ _) (PySem.list_append l its.toArray n u (by rw[SD];lia)) ⟨e,?_⟩;refine⟨.non,_,I.ET (its':=its++[u]) T e (by simp) (r.append (.cons b .nil)) ?_,rfl,q⟩;rw[SI,Up];lia
def Rc:V->List V->Hp->VK->Prop:=λx vs H Q=>∃l xs y,x=.ref l/\vs=[]/\H l=some (.lst xs)/\xs[xs.length-1]?=some y/\Q y (upd H l (.lst xs.dropLast))
theorem LG:PR X "list.pop" Rc:=by
 intro pins s Y H x vs v us Q I K C h;obtain⟨l,xs,y,rfl,rfl,T,a,q⟩:=h;cases K;have U:=C.zero;subst U;obtain⟨z,its,n,r,hl,e⟩:=I.Fb T;obtain⟨u,f,b⟩:=r.get a;have Z:its.toArray[its.toArray.size-1]?=some u:=by show its.toArray[its.length-1]?=some u;rw[<-UR,<-hl];exact f
 refine call_meets F.slot_list_pop ⟨_,e,rfl⟩ F.entry_list_pop (F.args_list_pop_1 _) (MeetsSeq.list_pop_last l its.toArray n u Z (by rw[SD];lia)) ⟨e,?_⟩;refine⟨y,_,I.ET (its':=its.dropLast) T e ?_ r.dropLast ?_,b,q⟩
 .show its.toArray.eraseIdxIfInBounds (its.toArray.size-1)=its.dropLast.toArray;rw[SD,List.eraseIdxIfInBounds_toArray,vw]
 .rw[List.length_dropLast];lia
def J0:V->List V->Hp->VK->Prop:=λx vs H Q=>∃l xs,x=.ref l/\vs=[]/\H l=some (.lst xs)/\Q .non (upd H l (.lst []))
theorem B4:PR X "list.clear" J0:=by intro pins s Y H x vs v us Q I K C h;obtain⟨l,xs,rfl,rfl,T,q⟩:=h;cases K;have U:=C.zero;subst U;obtain⟨z,its,n,r,hl,e⟩:=I.Fb T;refine call_meets F.slot_list_clear ⟨_,e,rfl⟩ F.entry_list_clear (F.args_list_clear_1 _) (AutoSeq1.list_clear_list_0 l its.toArray n (by rw[SD];lia)) ⟨e,?_⟩;exact⟨.non,_,I.ET (its':=[]) (ys:=[]) T e rfl .nil (TM _),rfl,q⟩
end
section
variable{prog:Program}{w:World}{A:Around}{E:Value->Shared->Prop}{s:Shared}
set_option maxRecDepth 100000 in
end
variable{o:Option V}
section
variable{D:Type}[DecidableEq D]
noncomputable def jY(kvs:List (D×V))(k:D):Option V:=(kvs.find? λH=>decide (H.1=k)).map (·.2)
noncomputable def putK(kvs:List (D×V))(k:D)(v:V):List (D×V):=
 if (kvs.any λH=>decide (H.1=k))=true then kvs.map (λH=>if H.1=k then (H.1,v) else H) else kvs++[(k,v)]
theorem mP{p:D×V}{r:List (D×V)}{k:D}(e:p.1=k):jY (p::r) k=some p.2:=by simp[jY,Ts,e]
theorem nc{p:D×V}{r:List (D×V)}{k:D}(e:¬ p.1=k):jY (p::r) k=jY r k:=by simp[jY,Ts,e]
theorem sJ(k:D):∀kvs:List (D×V),(kvs.any λH=>decide (H.1=k))=(jY kvs k).isSome
 |[]=>rfl
 |p::r=>by
  rw[Um];by_cases e:p.1=k
  .simp only[mP e,decide_eq_true e,Bool.true_or,Option.isSome_some]
  .rw[nc e,decide_eq_false e,XY];exact sJ k r
theorem iX(kvs:List (D×V))(k:D)(v:V):(putK kvs k v).length<=kvs.length+1:=by
 unfold putK;split
 .rw[Ss];lia
 .rw[SI,SF,U1];lia
theorem iq.gE{u:Option Value}(r:iq o u):o.isSome=u.isSome:=by
 cases o with
 |none=>cases u with
  |none=>rfl
  |some _=>exact(show False from r).elim
 |some _=>cases u with
  |none=>exact(show False from r).elim
  |some _=>rfl
theorem iq.getD{o:Option V}{u:Option Value}{d:V}{d':Value}(r:iq o u)(rd:RelV d d'):RelV (o.getD d) (u.getD d'):=by
 cases o with
 |none=>cases u with
  |none=>exact rd
  |some _=>exact(show False from r).elim
 |some _=>cases u with
  |none=>exact(show False from r).elim
  |some _=>exact r
theorem KV.val{kvs:List (D×V)}{vs:List (D×Value)}(r:KV kvs vs)(k:D):iq (jY kvs k) (valueAt vs k):=by
 unfold KV at r;induction r with
 |nil=>exact UW
 |@cons p q ps qs h t l=>
  obtain⟨h1,h2⟩:=h;by_cases e:p.1=k
  .have a:q.1=k:=h1.symm.trans e;have b:valueAt (q::qs) k=some q.2:=by simp[valueAt,Ts,a]
   rw[mP e,b];exact h2
  .have a:¬ q.1=k:=λz=>e (h1.trans z);have b:valueAt (q::qs) k=valueAt qs k:=by simp[valueAt,Ts,a]
   rw[nc e,b];exact l
theorem KV.any{kvs:List (D×V)}{vs:List (D×Value)}(r:KV kvs vs)(k:D):(kvs.any λH=>decide (H.1=k))=vs.any λH=>decide (H.1=k):=by
 unfold KV at r;induction r with
 |nil=>rfl
 |cons h t l=>rw[Um,Um,l,h.1]
theorem KV.Kc{kvs:List (D×V)}{vs:List (D×Value)}(r:KV kvs vs)(k:D)(P:RelV y u):
  KV (kvs.map λH=>if H.1=k then (H.1,y) else H) (vs.map λH=>if H.1=k then (H.1,u) else H):=by
 unfold KV at r ⊢;induction r with
 |nil=>exact .nil
 |@cons p q ps qs h t l=>
  rw[SR,SR];refine .cons ?_ l;obtain⟨h1,h2⟩:=h;by_cases e:p.1=k
  .rw[if_pos e,if_pos (h1.symm.trans e)];exact⟨h1,P⟩
  .rw[if_neg e,if_neg (λz=>e (h1.trans z))];exact⟨h1,h2⟩
theorem KV.put{kvs:List (D×V)}{vs:List (D×Value)}(r:KV kvs vs)(k:D)(P:RelV y u):KV (putK kvs k y) (stored vs k u):=by
 unfold putK stored;rw[r.any k];by_cases e:(vs.any λH=>decide (H.1=k))=true
 .rw[if_pos e,if_pos e];exact r.Kc k P
 .rw[if_neg e,if_neg e];exact XZ r ⟨rfl,P⟩
theorem KV.keys{kvs:List (D×V)}{vs:List (D×Value)}(r:KV kvs vs):kvs.map (·.1)=vs.map (·.1):=by
 unfold KV at r;induction r with
 |nil=>rfl
 |cons h t l=>rw[SR,SR,l,h.1]
theorem KV.length{kvs:List (D×V)}{vs:List (D×Value)}(r:KV kvs vs):kvs.length=vs.length:=Ws r
end
variable{P:Program}{w:World}
theorem lT{k:Key}(r:RelV (kV k) u):(aX P w).is k u=true:=by
 cases k with
 |inl i=>obtain⟨t,e⟩:=(show ∃t,u=WK i t from r);subst e;exact sU P w i t
 |inr x=>obtain⟨t,e⟩:=(show ∃t,u=V6 x t from r);subst e;exact sL P w x t
theorem qf{P:Program}{w:World}:∀{ks:List Key}{us:List Value},Vals (ks.map kV) us->ItemsAre (aX P w) ks us
 |[],_,r=>by rw[UI] at r;cases r;exact .nil
 |k::ks,_,r=>by
  rw[SR] at r;cases r with
  |cons h t=>exact .cons (lT h) (qf t)
abbrev KT(H:Hp):List (List Key×V)->List (List Key×Addr×Value)->Prop:=Paired λp q=>p.1=q.1/\H q.2.1=some (.tup (p.1.map kV))/\RelV p.2 q.2.2
variable{kvs:List (List Key×V)}{xs:List (List Key×Addr×Value)}
theorem KT.val(r:KT H kvs xs)(k:List Key):iq (jY kvs k) ((atKey xs k).map (·.2)):=by
 induction r with
 |nil=>exact UW
 |@cons p q ps qs h t l=>
  obtain⟨h1,_,h2⟩:=h;by_cases e:p.1=k
  .have a:q.1=k:=h1.symm.trans e;have b:atKey (q::qs) k=some q.2:=by simp[atKey,Ts,a]
   rw[mP e,b];exact h2
  .have a:¬ q.1=k:=λz=>e (h1.trans z);have b:atKey (q::qs) k=atKey qs k:=by simp[atKey,Ts,a]
   rw[nc e,b];exact l
theorem KT.Kc(r:KT H kvs xs)(k:List Key)(P:RelV y u):
  KT H (kvs.map λY=>if Y.1=k then (Y.1,y) else Y) (xs.map (putAt k u)):=by
 induction r with
 |nil=>exact .nil
 |@cons p q ps qs h t l=>
  rw[SR,SR];refine .cons ?_ l;obtain⟨h1,h2,h3⟩:=h;unfold putAt;by_cases e:p.1=k
  .rw[if_pos e,if_pos (h1.symm.trans e)];exact⟨h1,h2,P⟩
  .rw[if_neg e,if_neg (λz=>e (h1.trans z))];exact⟨h1,h2,h3⟩
theorem KT.put(r:KT H kvs xs)(k:List Key){b:Addr}(d:H b=some (.tup (k.map kV)))(P:RelV y u):
  KT H (putK kvs k y) (storedH xs k b u):=by
 have e:(kvs.any λY=>decide (Y.1=k))=(atKey xs k).isSome:=by rw[sJ,(r.val k).gE,VX]
 unfold putK storedH;rw[e];by_cases q:(atKey xs k).isSome=true
 .rw[if_pos q,if_pos q];exact r.Kc k P
 .rw[if_neg q,if_neg q];exact XZ r ⟨rfl,d,P⟩
variable{H':Hp}
theorem KT.keeps(r:KT H kvs xs)(ht:∀b ys,H b=some (.tup ys)->H' b=some (.tup ys)):KT H' kvs xs:=
 Paired.Ld r λ_ _ z=>⟨z.1,ht _ _ z.2.1,z.2.2⟩
section
variable{P:Program}{w:World}{H:Hp}{h:Heap}{a:Addr}
theorem HZ{u:HO}(ok:jT P w H h)(e:Rd H a u):bW P w H h a u:=e.ok ok
theorem gv{kvs:List (Key×V)}(ok:jT P w H h)(e:Rd H a (.dK kvs)):kvs.length<=sizeLine/\(a==sysModules)=false/\∃vs,KV kvs vs/\h.DictOf (aX P w) a vs:=
 show bW P w H h a (.dK kvs) from HZ ok e
theorem z6{kvs:List (Key×V)}(ok:jT P w H h)(e:H a=some (.dK kvs)):kvs.length<=sizeLine/\(a==sysModules)=false/\∃vs,KV kvs vs/\h.DictOf (aX P w) a vs:=gv ok (.inl e)
theorem lA{ks:List Key}(ok:jT P w H h)(e:H a=some (.tup (ks.map kV))):(tupleKind (aX P w)).is h ks a:=by
 obtain⟨_,its,r,o,h1,h2,n,h3,_⟩:=(show bW P w H h a (.tup (ks.map kV)) from ok a _ e)
 exact⟨o,its.toArray,n,h1,h2,h3,by simpa using qf r⟩
theorem nX(ok:jT P w H h)(e:Rd H a (.dT kvs)):kvs.length<=sizeLine/\(a==sysModules)=false /\
  ∃xs,KT H kvs xs/\h.DictOfH (tupleKind (aX P w)) a xs:=by
 obtain⟨z,y,xs,r,o,es,ep,h1,h2,h3,h4,h5⟩:=(show bW P w H h a (.dT kvs) from HZ ok e)
 refine⟨z,y,xs,r,o,es,ep,h1,h2,h3,h4,λx A=>?_,h5⟩;have all:∀{l:List (List Key×V)}{m:List (List Key×Addr×Value)},KT H l m->∀x∈m,(tupleKind (aX P w)).is h x.1 x.2.1:=by
  intro l m q;induction q with
  |nil=>intro x A;exact nomatch A
  |@cons p q ps qs j t s=>
   intro x A;rcases SO.mp A with e|A
   .subst e;exact lA ok (by rw[<-j.1];exact j.2.1)
   .exact s x A
 exact all r x A
theorem Pe(ok:jT P w H h)(e:H a=some (.dT kvs)):kvs.length<=sizeLine/\(a==sysModules)=false /\
  ∃xs,KT H kvs xs/\h.DictOfH (tupleKind (aX P w)) a xs:=nX ok (.inl e)
end
def iV(H:Hp)(a:Addr)(y:V)(r:Option V):Prop:=
 (∃kvs k,Rd H a (.dK kvs)/\y=kV k/\r=jY kvs k)\/∃kvs k b,Rd H a (.dT kvs)/\y=.ref b/\H b=some (.tup (k.map kV))/\r=jY kvs k
def M9(H:Hp)(a:Addr)(y v:V)(H':Hp):Prop:=
 (∃kvs k,H a=some (.dK kvs)/\y=kV k/\kvs.length<sizeLine/\H'=upd H a (.dK (putK kvs k v))) \/
 ∃kvs k b,H a=some (.dT kvs)/\y=.ref b/\H b=some (.tup (k.map kV))/\kvs.length<sizeLine/\H'=upd H a (.dT (putK kvs k v))
variable{Q:Value->Shared->Prop}{h':Heap}
section
variable{X:Cx}{pins:List (Addr×Obj)}{Y:St}{H:Hp}{s:Shared}{a:Addr}{y v:V}{u r:Value}{o:Option V}{A:Around}{E:Value->Shared->Prop}
theorem Inv.big(I:Inv X pins Y H s):sysModules<s.heap.objs.size:=by have h:mainGlobals<s.heap.objs.size:=(I.mod.glob.keeps I.bk).lt;exact Nat.lt_trans (by decide) h
theorem xV(f:A.units+1<cLine)(I:Inv X pins Y H s)(g:iV H a y (some v))(P:RelV y u)(h:∀q s',Inv X pins Y H s'->RelV v q->Q q s'):
  wpAny (model X.prog X.w) A (getItem (.ref a) u) Q E s:=by
 rcases g with ⟨kvs,k,e,x,l⟩|⟨kvs,k,b,e,x,Z,l⟩
 .subst x;obtain⟨z,hd,vs,rel,r⟩:=gv I.hok e;obtain⟨q,t,G⟩:=iq.some_of (v:=v) (o:=valueAt vs k) (by rw[l];exact rel.val k);exact wpAny_getItem_of (lT P) r.mapOf t (h q _ (I.tok _) G)
 .subst x;cases (show u=Te b from P);obtain⟨z,hd,xs,rel,r⟩:=nX I.hok e;obtain⟨q,t,G⟩:=iq.some_of (v:=v) (o:=(atKey xs k).map (·.2)) (by rw[l];exact rel.val k);obtain⟨p,hp,D⟩:=Option.map_eq_some_iff.mp t;refine wpAny_getItem_heap (tupleKind_room_in1 f) (lA I.hok Z) r hp ?_;rw[D];exact h q _ (I.tok _) G
theorem Qa(f:A.units+1<cLine)(I:Inv X pins Y H s)(g:iV H a y o)(P:RelV y u)(h:∀s',Inv X pins Y H s'->Q (.bool o.isSome) s'):
  wpAny (model X.prog X.w) A (compareOp .In u (.ref a)) Q E s:=by
 rcases g with ⟨kvs,k,e,x,l⟩|⟨kvs,k,b,e,x,Z,l⟩
 .subst x;obtain⟨z,hd,vs,rel,v⟩:=gv I.hok e;refine wpAny_in_of (lT P) hd v.mapOf ?_;rw[<-(rel.val k).gE,<-l];exact h _ (I.tok _)
 .subst x;cases (show u=Te b from P);obtain⟨z,hd,xs,rel,v⟩:=nX I.hok e;refine wpAny_in_heap (tupleKind_room_in1 f) (lA I.hok Z) hd v ?_;have q:=(rel.val k).gE;rw[VX] at q;rw[<-q,<-l];exact h _ (I.tok _)
theorem EX(f:A.units+1<cLine)(I:Inv X pins Y H s)(g:iV H a y o)(P:RelV y u)(h:∀s',Inv X pins Y H s'->Q (.bool (!o.isSome)) s'):
  wpAny (model X.prog X.w) A (compareOp .NotIn u (.ref a)) Q E s:=by
 rcases g with ⟨kvs,k,e,x,l⟩|⟨kvs,k,b,e,x,Z,l⟩
 .subst x;obtain⟨z,hd,vs,rel,v⟩:=gv I.hok e;refine wpAny_notIn_of (lT P) hd v.mapOf ?_;rw[<-(rel.val k).gE,<-l];exact h _ (I.tok _)
 .subst x;cases (show u=Te b from P);obtain⟨z,hd,xs,rel,v⟩:=nX I.hok e;refine wpAny_notIn_heap (tupleKind_room_in1 f) (lA I.hok Z) hd v ?_;have q:=(rel.val k).gE;rw[VX] at q;rw[<-q,<-l];exact h _ (I.tok _)
theorem rB{ob:HO}(I:Inv X pins Y H s)(mu:Pa (H a))(u:Vp a s.heap h')(p:∃q,h'.get? a=some q)(new:bW X.prog X.w (upd H a ob) h' a ob):
  Inv X pins Y (upd H a ob) { s with heap:=h',toks:=t' }:=
 I.write (x:=a) (e:=a) mu (.inl rfl) (λb q d z=>(u.2 b d).trans z) p new
theorem qN{kvs:List (Key×V)}{vs:List (Key×Value)}(z:kvs.length<=sizeLine)(hd:(a==sysModules)=false)(rel:KV kvs vs)(v:h'.DictOf (aX P w) a vs):
  bW P w H' h' a (.dK kvs):=⟨z,hd,vs,rel,v⟩
theorem yG{Q:Unit->Shared->Prop}(f:A.units+1<cLine)(I:Inv X pins Y H s)(g:M9 H a y v H')(P:RelV y u)(C:RelV v r)(h:∀s',Inv X pins Y H' s'->Q () s'):
  wpAny (model X.prog X.w) A (setItem (.ref a) u r) Q E s:=by
 rcases g with ⟨kvs,k,e,x,l,L⟩|⟨kvs,k,b,e,x,Z,l,L⟩
 .subst x L;obtain⟨z,hd,vs,rel,N⟩:=z6 I.hok e;have hz:vs.length<=sizeLine:=by rw[<-rel.length];exact z
  have hl:(putK kvs k v).length<=sizeLine:=by have:=iX kvs k v;lia
  refine wpAny_setItem_pairs (hsz:=hz) (lT P) N λh' F B=>h _ ?_;have p:∃q,h'.get? a=some q:=let ⟨q,_,_,j,_⟩:=F;⟨q,j⟩
  exact rB I (by rw[e];exact UW) B p (qN hl hd (rel.put k C) F)
 .subst x L;cases (show u=Te b from P);obtain⟨z,hd,xs,rel,N⟩:=Pe I.hok e;have hz:xs.length<=sizeLine:=by rw[<-Ws rel];exact z
  have hl:(putK kvs k v).length<=sizeLine:=by have:=iX kvs k v;lia
  refine wpAny_setItem_heap (hsz:=hz) (tupleKind_room_in1 f) (lA I.hok Z) N λh' F B=>h _ ?_;obtain⟨q,es,ep,j,h2,h3,h4,_,h5⟩:=F;refine rB I (by rw[e];exact UW) B ⟨q,j⟩ ⟨hl,hd,_,(rel.put k Z C).keeps λc ys O=>?_,q,es,ep,j,h2,h3,h4,h5⟩;rw[aE (Nk O e (λz=>nomatch z))];exact O
end
def AI(i:Expr):Prop:=∀z O,subscripted i false z O=operate [z,O] (getItem z O)
variable{pos:Pos}
theorem Ed{prog:Program}{A:Around}{E:Value->Shared->Prop}{env:Env}{value slice:Expr}{id:String}
  (hl:typeLookup (.type T) "__getitem__" = pure (some (.builtin id)))(u:AI slice)
  (h:wpAny (model prog w) A (eval value env) (λo Z=>wpAny (model prog w) A (eval slice env) (λi U=>U.TypeIs o T/\wpAny (model prog w) A (getItem o i) Q E U) E Z) E s):
  wpAny (model prog w) A (eval (.Subscript value slice pos) env) Q E s:=by
 refine Subscript_ (wpAny_mono h (λo Z O=>wpAny_mono O (λi U I=>?_) λ_ _ x=>x) λ_ _ x=>x);obtain⟨a,I⟩:=I;unfold subscriptTail;refine wpAny_bind ?_;rw[getitemInPython_of_ne a.not_modules];refine wpAny_bind (wpAny_specialOf a hl ?_);have fin:wpAny (model prog w) A (subscripted slice false o i) (λr P=>wpAny (model prog w) A (letTemporaryGo value o r >>= λ_=>pure r) Q E P) E U:=by rw[u o i];exact wpAny_operating (wpAny_mono I (λr P X=>wpAny_bind (wpAny_letTemporaryGo (wpAny_pure X))) λ_ _ x=>x)
 first
  |exact wpAny_pure (wpAny_bind fin)
  |exact wpAny_bind (wpAny_pure (wpAny_bind fin))
  |exact wpAny_bind fin
variable{X:Cx}
theorem sW{a:Addr}(I:Inv X pins Y H s)(g:iV H a y o):s.TypeIs (.ref a) "dict" := by
 rcases g with ⟨kvs,k,e,_,_⟩|⟨kvs,k,b,e,_,_,_⟩
 .obtain⟨_,_,vs,_,v⟩:=gv I.hok e;exact v.typeIs
 .obtain⟨_,_,xs,_,v⟩:=nX I.hok e;exact v.typeIs
noncomputable def OF(q ty:TE):TE:=λY H Q=>q Y H λx e=>ty Y e λy c=>∃a v,x=.ref a/\iV c a y (some v)/\Q v c
noncomputable def Qv(ty q:TE):TE:=λY H Q=>ty Y H λy e=>q Y e λx c=>∃a o,x=.ref a/\iV c a y o/\Q (.bl o.isSome) c
noncomputable def E5(ty q:TE):TE:=λY H Q=>ty Y H λy e=>q Y e λx c=>∃a o,x=.ref a/\iV c a y o/\Q (.bl (!o.isSome)) c
noncomputable def MN(q ty h:TE):TS:=λD Y H=>h Y H λv e=>q Y e λx c=>ty Y c λy K=>∃a s,x=.ref a/\M9 K a y v s/\D.nx Y s
section
variable{X:Cx}{o i e value:Expr}{pos pos' I:Pos}{td ty tv:TE}
theorem Ep(f:X.A.units+1<cLine)(J:PE X o td)(hi:PE X i ty)(B:AI i):PE X (.Subscript o i pos) (OF td ty):=by intro pins s Y H Q I h;refine Ed PySem.F.slot_dict_getitem.lookup B (bG (J pins s Y H _ I h) λu s1 ⟨x,e,V,K,l⟩=>bG (hi pins s1 Y e _ V l) λC s2 ⟨y,c,m,P,a,v,ex,g,E⟩=>?_);subst ex;obtain rfl:u=Te a:=K;exact⟨sW m g,xV f m g P λq r O G=>⟨v,c,O,G,E⟩⟩
theorem Cf(f:X.A.units+1<cLine)(hi:PE X i ty)(J:PE X o td):PC X .In i o (Qv ty td):=by intro pins s Y H Q I h;refine bG (hi pins s Y H _ I h) λC s1 ⟨y,e,V,P,l⟩=>bG (J pins s1 Y e _ V l) λu s2 ⟨x,c,m,K,a,z,ex,g,E⟩=>?_;subst ex;obtain rfl:u=Te a:=K;exact Qa f m g P λr O=>⟨.bl z.isSome,c,O,rfl,E⟩
theorem pG(f:X.A.units+1<cLine)(hi:PE X i ty)(J:PE X o td):PC X .NotIn i o (E5 ty td):=by intro pins s Y H Q I h;refine bG (hi pins s Y H _ I h) λC s1 ⟨y,e,V,P,l⟩=>bG (J pins s1 Y e _ V l) λu s2 ⟨x,c,m,K,a,z,ex,g,E⟩=>?_;subst ex;obtain rfl:u=Te a:=K;exact EX f m g P λr O=>⟨.bl (!z.isSome),c,O,rfl,E⟩
theorem E4(f:X.A.units+1<cLine)(J:PE X o td)(hi:PE X i ty)(c:PE X value tv)(B:swapsWith value (some (.Subscript o i pos')) pos.line X.env=pure false):
  PS X (.Assign [.Subscript o i pos'] value pos) (MN td ty tv):=by
 intro pins s Y H D I h;refine wpAny_Assign_Subscript (bG (c pins s Y H _ I h) λr s1 ⟨v,e,V,C,l⟩=>bG (J pins s1 Y e _ V l) λu s2 ⟨x,Q,m,K,E⟩=>bG (hi pins s2 Y Q _ m E) λS p ⟨y,n,O,P,a,R,ex,g,L⟩=>?_) B;subst ex;obtain rfl:u=Te a:=K;exact yG f O g P C λt Z=>⟨Y,R,Z,L⟩
end
theorem sF(h:Heap)(d:sysModules<h.objs.size):bW P w H (h.push { cls:=.type "dict",data:=.dict #[] }) h.objs.size (.dK []):=
 ⟨TM _,beq_eq_false_iff_ne.mpr (T6 (S4 d)),[],.nil,WV h⟩
def L5:TE:=λ_ H Q=>∀p,H p=none->Q (.ref p) (upd H p (.dK []))
section
variable{X:Cx}{pos:Pos}
theorem AW:PE X (.Dict [] [] pos) L5:=λpins s Y H Q I h=>wpAny_Dict_empty ⟨.ref s.heap.objs.size,_,I.laid (a:=s.heap.objs.size) (o:=.dK []) (t':=s.toks) (λ_ _ q=>SA _ q) (SK _) (sF s.heap I.big),rfl,h _ (I.hok.fresh (SK _))⟩
end
def ux:List (TE×TE)->St->Hp->(List (V×V)->Hp->Prop)->Prop
 |[],_,H,Q=>Q [] H
 |(tk,tv)::r,Y,H,Q=>tk Y H λx e=>tv Y e λy c=>ux r Y c λps D=>Q ((x,y)::ps) D
abbrev VV:List (V×V)->List (Value×Value)->Prop:=Paired λp q=>RelV p.1 q.1/\RelV p.2 q.2
def PH(X:Cx)(pos:Pos)(keys:List (Option Expr))(I:List Expr)(h:List (TE×TE)):Prop:=
 ∀(pins:List (Addr×Obj))(s:Shared)(Y:St)(H:Hp)(Q:List (V×V)->Hp->Prop),Inv X pins Y H s->ux h Y H Q->
  wpAny (model X.prog X.w) X.A (evalPairs (pairTrees keys I X.env pos)) (λvs s'=>∃ps H',Inv X pins Y H' s'/\VV ps vs/\Q ps H') X.xe s
theorem ER:PH X pos [] [] []:=λpins s Y H Q I h=>pairTrees_nil_walk ⟨[],H,I,.nil,h⟩
variable{trs:List (TE×TE)}
theorem sZ{k v:Expr}{ks:List (Option Expr)}{vs:List Expr}{tk w:TE}(hk:PE X k tk)(c:PE X v w)(Z:PH X pos ks vs trs):
  PH X pos (some k::ks) (v::vs) ((tk,w)::trs):=λpins s Y H Q I h=>
 pairTrees_cons_walk (bG (hk pins s Y H _ I h) λu s1 ⟨x,e,g,K,l⟩=>bG (c pins s1 Y e _ g l) λF s2 ⟨y,B,m,P,o⟩=>bG (Z pins s2 Y B _ m o) λws r ⟨ps,D,O,rel,L⟩=>⟨(x,y)::ps,D,O,.cons ⟨K,P⟩ rel,L⟩)
def gj(kvs more:List (Key×V)):List (Key×V):=more.foldl (λacc H=>putK acc H.1 H.2) kvs
theorem KV.merge:∀{more:List (Key×V)}{rs:List (Key×Value)}{kvs:List (Key×V)}{vs:List (Key×Value)},KV more rs->KV kvs vs->KV (gj kvs more) (merged vs rs):=by
 intro more rs kvs vs r;unfold KV at r;induction r generalizing kvs vs with
 |nil=>intro q;exact q
 |@cons p q ps qs h t l=>
  intro X;have e:KV (putK kvs p.1 p.2) (stored vs q.1 q.2):=by have:=X.put p.1 h.2;rw[<-h.1];exact this
  exact l e
theorem gm:∀(more kvs:List (Key×V)),(gj kvs more).length<=kvs.length+more.length
 |[],kvs=>by show kvs.length<=kvs.length+0;lia
 |p::r,kvs=>by have h1:=gm r (putK kvs p.1 p.2);have h2:=iX kvs p.1 p.2;show (gj (putK kvs p.1 p.2) r).length<=_;rw[SF];lia
theorem om{P:Program}{w:World}:∀{kvs:List (Key×V)}{ws:List (Value×Value)},VV (kvs.map λH=>(kV H.1,H.2)) ws->∃rs,Carries (aX P w) ws rs/\KV kvs rs
 |[],_,r=>by rw[UI] at r;cases r;exact⟨[],UW,.nil⟩
 |p::kvs,_,r=>by
  rw[SR] at r;cases r with
  |@cons a b as bs h t=>obtain⟨rs,c,q⟩:=om (P:=P) (w:=w) t;obtain⟨b1,b2⟩:=b;exact⟨(p.1,b2)::rs,⟨lT h.1,rfl,c⟩,.cons ⟨rfl,h.2⟩ q⟩
def My(trs:List (TE×TE)):TE:=λY H Q=>∀p,H p=none->ux trs Y (upd H p (.dK [])) λps c=>c p=some (.dK [])/\∃kvs:List (Key×V),ps=kvs.map (λs=>(kV s.1,s.2))/\kvs.length<=15/\Q (.ref p) (upd c p (.dK (gj [] kvs)))
theorem Ff{keys:List (Option Expr)}{N:List Expr}(h:PH X pos keys N trs)(R:keys.all (·.isSome)=true)(hl:keys.length=N.length)(h0:keys≠[])
  (S:keys.length<=15):PE X (.Dict keys N pos) (My trs):=by
 intro pins s Y H Q I q;have hn:=I.hok.fresh (SK s.heap.objs.size);have g:=I.laid (a:=s.heap.objs.size) (o:=.dK []) (h':=s.heap.push { cls:=.type "dict",data:=.dict #[] }) (t':=s.toks) (λ_ _ q=>SA _ q) (SK _) (sF s.heap I.big);refine wpAny_Dict_walk (knd:=aX X.prog X.w) R hl h0 S (bG (h pins _ Y _ _ g (q _ hn)) λws s2 ⟨ps,B,m,rel,e,kvs,ep,L,E⟩=>?_);subst ep;obtain⟨rs,c,rk⟩:=om (P:=X.prog) (w:=X.w) rel;obtain⟨z,hd,U,n,v⟩:=z6 m.hok e;cases n;refine⟨rs,c,v,λh' F u=>⟨.ref s.heap.objs.size,_,?_,rfl,E⟩⟩;have hz:(gj [] kvs).length<=sizeLine:=by have h1:=gm kvs [];rw[U1] at h1;rw[sizeLine_eq];lia
 have p:∃q,h'.get? s.heap.objs.size=some q:=let ⟨q,_,_,hq,_⟩:=F;⟨q,hq⟩
 exact rB m (by rw[e];exact UW) u p (qN hz hd (rk.merge .nil) F)
structure M1(X:Cx)(o:Expr)(m:Str)(apos:Pos)(e:Expr)(cpos:Pos):Prop where
 base:attributeBase o m X.env (eval o X.env)=eval o X.env
 few:((backTo cpos (starEach [e] X.env)).all (λx=>!x.1)&&(backToKw cpos (keywordEach [] X.env)).all (λx=>x.1.isSome)
  && decide (([e]:List Expr).length+([]:List Keyword).length+(if ([]:List Keyword).isEmpty then 0 else 1)<30))=true
 line:(apos.endLine==cpos.line)=true
 trees:backTo cpos (starEach [e] X.env)=[(false,eval e X.env)]
structure M2(X:Cx)(o:Expr)(m:Str)(apos:Pos)(e f:Expr)(cpos:Pos):Prop where
 base:attributeBase o m X.env (eval o X.env)=eval o X.env
 few:((backTo cpos (starEach [e,f] X.env)).all (λx=>!x.1)&&(backToKw cpos (keywordEach [] X.env)).all (λx=>x.1.isSome)
  && decide (([e,f]:List Expr).length+([]:List Keyword).length+(if ([]:List Keyword).isEmpty then 0 else 1)<30))=true
 line:(apos.endLine==cpos.line)=true
 trees:backTo cpos (starEach [e,f] X.env)=[(false,eval e X.env),(false,eval f X.env)]
def RB(H:Hp)(a:Addr):Prop:=(∃kvs,Rd H a (.dK kvs))\/∃kvs,Rd H a (.dT kvs)
theorem LY{a:Addr}(I:Inv X pins Y H s)(d:RB H a):
  s.TypeIs (.ref a) "dict" /\ (∀b,Te a=.ref b->∃ob,s.heap.get? b=some ob/\ob.dict=none)/\(a==sysModules)=false:=by
 rcases d with ⟨kvs,e⟩|⟨kvs,e⟩
 .obtain⟨_,hd,vs,_,v⟩:=gv I.hok e;refine⟨v.typeIs,λb q=>?_,hd⟩;cases q;obtain⟨ob,_,_,h1,h2,_⟩:=v;exact⟨ob,h1,h2.2.1⟩
 .obtain⟨_,hd,xs,_,v⟩:=nX I.hok e;refine⟨v.typeIs,λb q=>?_,hd⟩;cases q;obtain⟨ob,_,_,h1,h2,_⟩:=v;exact⟨ob,h1,h2.2.1⟩
section
variable{X:Cx}{pins:List (Addr×Obj)}{Y:St}{H:Hp}{s:Shared}{a:Addr}{y d:V}{u r:Value}{o:Option V}{A:Around}{E:Value->Shared->Prop}
theorem KD(f:A.units+1<cLine)(I:Inv X pins Y H s)(g:iV H a y o)(P:RelV y u)(rd:RelV d r)(h:∀q s',Inv X pins Y H s'->RelV (o.getD d) q->Q q s'):
  wpAny (model X.prog X.w) A (call (.builtin "dict.get") [.ref a,u,r]) Q E s:=by
 rcases g with ⟨kvs,k,e,x,l⟩|⟨kvs,k,b,e,x,Z,l⟩
 .subst x;obtain⟨z,hd,vs,rel,v⟩:=gv I.hok e;refine call_meetsIn Vn v.typeIs WB (Wv _ _ _) (meets_dict_get_default (aX X.prog X.w) a (lT P) hd r) ⟨_,v.mapOf,h _ _ (I.tok _) ?_⟩;rw[l];exact(rel.val k).getD rd
 .subst x;cases (show u=Te b from P);obtain⟨z,hd,xs,rel,v⟩:=nX I.hok e;refine call_meetsIn Vn v.typeIs WB (Wv _ _ _) (meetsH_dict_get_default (tupleKind (aX X.prog X.w)) a b hd r) ⟨tupleKind_room_in1 f,k,xs,lA I.hok Z,v,h _ _ (I.tok _) ?_⟩;rw[l];exact(rel.val k).getD rd
end
noncomputable def Kl(q ty I:TE):TE:=λY H Q=>q Y H λx e=>∃a,x=.ref a/\RB e a/\ty Y e λy c=>I Y c λz D=>∃o,iV D a y o/\Q (o.getD z) D
section
variable{X:Cx}{o e f:Expr}{apos cpos:Pos}{td ty tx:TE}
theorem zI(q:X.A.units+1<cLine)(i:PE X o td)(p:PE X e ty)(hf:PE X f tx)(m:M2 X o "get" apos e f cpos):PE X (.Call (.Attribute o "get" apos) [e,f] [] cpos) (Kl td ty tx):=by
 intro pins s Y H Q I h;refine wpAny_Call_method m.base m.few m.line PySem.F.plainAttrs_dict Vn PySem.F.type_dict_get (bG (i pins s Y H _ I h) λu s1 ⟨x,S,V,K,a,ex,d,l⟩=>?_);subst ex;obtain rfl:u=Te a:=K;obtain⟨t,w,_⟩:=LY V d;refine⟨t,w,?_⟩;rw[m.trees];refine Vm rfl (W0 (VN (bG (p pins s1 Y S _ V l) λC s2 ⟨y,c,N,P,E⟩=>VN (bG (hf pins s2 Y c _ N E) λT r ⟨z,D,O,R,U,g,L⟩=>Xi ?_))))
 exact KD q O g P R λv n Z G=>⟨_,D,Z,G,L⟩
end
section
variable{X:Cx}{pins:List (Addr×Obj)}{Y:St}{H:Hp}{s:Shared}{a:Addr}{kvs:List (Key×V)}{A:Around}{E:Value->Shared->Prop}
theorem A4(I:Inv X pins Y H s)(e:Rd H a (.dK kvs))(h:∀p s',H p=none->Inv X pins Y (upd H p (.dK kvs)) s'->Q (.ref p) s'):wpAny (model X.prog X.w) A (call (.type "dict") [.ref a]) Q E s:=by obtain⟨z,hd,vs,rel,v⟩:=gv I.hok e;refine kt_call_dict hd v (by rw[<-rel.length];exact z) λh' F u=>?_;refine h _ _ (I.hok.fresh (SK _)) (I.laid (a:=s.heap.objs.size) (o:=.dK kvs) (t':=s.toks) (λb q j=>?_) (SK _) (qN z (beq_eq_false_iff_ne.mpr (T6 (S4 I.big))) rel F));exact(u.2 b (S4 (SS j))).trans (SA _ j)
end
end L2
namespace Att
open PySem PySem.W PySem.Calls PyProof.Rows
variable{P:Params}{h:Heap}
theorem mj:∀(ns:List Int)(vs:List Value),WellAll P h vs (ns.map Yt)->IntsAre vs ns:=by
 intro ns;induction ns with
 |nil=>intro vs w;rw[UI] at w;cases w;exact .nil
 |cons n ns l=>
  intro vs w;rw[SR] at w;cases w with
  |cons a b=>cases a;exact .cons _ _ (l _ b)
variable{l:OpenLaw}
theorem yc{n:Nat}(hn:l.most=some n){args:List WData}{Y:List Value}
  (Q:l.row.toRowW.claim.pre args=true)(X:WellAll P h Y args):
  ∃a vs ns,Y=[Te a]/\args=[WData.list (ns.map Yt)]/\h.get? a=some { cls:=.type "list",data:=.seq vs.toArray }/\IntsAre vs ns/\ns.length<=n:=by
 have s:WShape.hasAll [] args [.list .int]=true:=(pre_splitW Q).1;have hc:l.pre.holds [] { args:=args }=true:=(pre_splitW Q).2;obtain⟨d,r,rfl,h1,h2⟩:=hasAllW_cons s;obtain rfl:=hasAllW_nil h2;obtain⟨xs,rfl,h3⟩:=hasW_list h1;obtain⟨ns,rfl⟩:=items_int h3;have z:ns.length<=n:=by
  unfold OpenLaw.pre at hc;have h4:(WTm.not (.lt (.lit (.int (n:Int))) (.len (.arg 0)))).holds [] { args:=[.list (ns.map .int)] }=true:=by have h4:=(holds_andW hc).1;rw[hn] at h4;exact h4
  have h5:=condW_of h4 (w_not (w_lt w_lit (w_len_list (w_arg rfl))));rw[Ss] at h5;refine Nat.le_of_not_lt λq=>?_;have I:(n:Int)<((ns.length:Nat):Int):=by lia
  first
   |(rw[decide_eq_true I] at h5;exact absurd h5 (by decide))
   |(simp at h5;lia)
 cases X with
 |cons m F=>
  cases F;cases m with
  |list i R=>exact⟨_,_,ns,rfl,rfl,i,mj ns _ R,z⟩
theorem xF(l:OpenLaw)(args:List WData):l.row.toRowW.claim.post args (.bool true) args=true:=
 postW_of (r:=l.row.toRowW) (X:=(true==true))
  (show X9 [] (.bool true) .bool=true by first|rfl|decide|simp[X9,WShape.arms,WShape.armsAll])
  (show (WTm.eq .res (.lit (.bool true))).value [] { args:=args,res:=some (.bool true),after:=args }=some (.bool (true==true)) from w_eq_bool (w_res rfl) w_lit) rfl
theorem sH{n:Nat}{q:Program}{loose:List Str}{XP:(Str->Option Value)->Heap->Prop}{YP:World->Heap->Prop}{d:DefRec}
  (hn:l.most=some n)(I:d.params.defaults=[])
  (call:∀(w:World)(s₀ Z:Shared)(mg mb:Str->Option Value)(X:Addr)(o:Obj)(pm cd doc:Value)(a:Addr)(vs:List Value)(ns:List Int),
   Ground q loose [] XP w s₀ mg mb Z.heap->YP w Z.heap->
   Z.heap.get? X=some o->o.data=.func (docDef d.name d.params d.body d.scope pm cd doc)->Z.heap.CodeRec cd d.name->mg d.name=some (.ref X)->
   Z.heap.get? a=some { cls:=.type "list",data:=.seq vs.toArray }->IntsAre vs ns->ns.length<=n->Z.gens=#[]->
   codeAny (model l.prog w) callerA (.call (.ref X) ⟨[.ref a],[]⟩) (λr s'=>r=.ok (.ret (.bool true))/\OldK Z.heap s'.heap/\s'.os=Z.os/\AllBare s'.gens) Z):
  WalkO q loose XP YP l.row.toRowW d [] (λf vs=>Xe f vs):=by
 intro w s₀ Z mg mb G Y X o pm cd doc dV kV i hd t T N x args U as h b R S k;obtain rfl:dV=.none:=Dflts.none T I;obtain rfl:kV=.none:=Dflts.noKw T;obtain⟨a,vs,ns,rfl,rfl,s,Q,z⟩:=yc hn h S;refine enter_call (codeAny_mono (call w s₀ Z mg mb X o pm cd doc a vs ns G Y i (fd_plain hd) t N s Q z x) λr s' j=>?_);obtain⟨rfl,h2,h3,h4⟩:=j;exact⟨.inl ⟨.bool true,.bool true,[],rfl,λ_=>rfl,.bool true,xF l _,λ_=>⟨Yk,λ_ hm=>(nomatch hm)⟩⟩,h2,h3,h4⟩
end Att
namespace L2
open PySem PySem.Spec PyProof.Rows
theorem pU:∀{vs:List Value}{ns:List Int},IntsAre vs ns->Vals (ns.map V.int) vs
 |_,_,.nil=>.nil
 |_,_,.cons n t h=>.cons ⟨t,rfl⟩ (pU h)
def Ie(H:Hp):Prop:=∀b,H b=none\/∃o xs,H b=some (.frz o (.lst xs))
variable{k:Nat}
theorem CV{P:Program}{w:World}{K:So}{mg mb:Str->Option Value}{CX:sx}{D a:Addr}{fd:FuncData}{x:Str}{sp:Sp}{Z:Shared}{vs:List Value}{ns:List Int}
  (A:K.In Z.heap)(I:Z.heap.Ns mainGlobals mg)(G:Z.heap.Ns builtinsNs mb)(J:∀x:Str,x ≠ "__name__" -> mb x=bootBuiltins x)(t:Z.heap.NoLimit)(f:Z.gens=#[])
  (ha:Z.heap.get? a=some { cls:=.type "list",data:=.seq vs.toArray })(hi:IntsAre vs ns)(hl:ns.length<=sizeLine)(j:cQ k callerA)
  (F:∀base:Heap,K.In base->base.Ns mainGlobals mg->dq P w K mg base CX k D fd [x] sp)(X:∀(s:Shared)(u:Value),BindsTo s fd ⟨[u],[]⟩ [(x,u)])
  (L:∀H:Hp,Ie H->gI K H a (ns.map V.int)->sp [.ref a] H (λv _=>v=.bl true) λ_ _ _=>False)
  (R:∀H e s',CX [] H Z (λ_ _ _=>False) e s'->False):
  codeAny (model P w) callerA (.call (.ref D) ⟨[.ref a],[]⟩) (λr s'=>r=.ok (.ret (.bool true))/\OldK Z.heap s'.heap/\s'.os=Z.os/\AllBare s'.gens) Z:=by
 have C:=pU hi;have N:=hi.length;have Q:∀H:Hp,Ie H->gI K H a (ns.map V.int)->jT P w H Z.heap->(∀b,H b≠none->b=a)->(H a≠none->K.lookup a=none)->
   codeAny (model P w) callerA (.call (.ref D) ⟨[.ref a],[]⟩) (λr s'=>r=.ok (.ret (.bool true))/\OldK Z.heap s'.heap/\s'.os=Z.os/\AllBare s'.gens) Z:=by
  intro H E i hok O g;have cu:∀{b:Addr}{o:Obj},Z.heap.get? b=some o->H b=none->(qH Z.heap H).get? b=some o:=λe n=>B1 e n;have y:∀{b:Addr}{o:Obj}{es:Array DictEntry}{ep:Nat},Z.heap.get? b=some o->o.data=.dict es ep->H b=none:=λ{b o es ep} e d=>by
   cases q:H b with
   |none=>rfl
   |some u=>have p:b=a:=O b (by rw[q];simp);subst p;rw[ha] at e;cases e;have d':Data.seq vs.toArray _=Data.dict es ep:=d;cases d'
  have Y:∀{b:Addr}{m:Str->Option Value},Z.heap.Ns b m->(qH Z.heap H).Ns b m:=λ{b m} ⟨o,es,ep,e,d,r⟩=>⟨o,es,ep,cu e (y e d),d,r⟩
  have S:K.In (qH Z.heap H):=λb o e=>cu (A b o e) (by
   cases q:H b with
   |none=>rfl
   | some u=>have p:b=a:=O b (by rw[q];simp);subst p;rw[g (by rw[q];simp)] at e;cases e)
  have l:Mod K mg (qH Z.heap H):=⟨S,Y I,⟨mb,Y G,J⟩,let ⟨mc,h1,h2⟩:=t;⟨mc,Y h1,h2⟩⟩
  have c:vd P w K mg (qH Z.heap H) callerA [] Z H:=⟨rfl,l,λb o e=>FZ e,V9 (yu _ _),trivial,λb G=>absurd (show b∈([]:List Addr) from G) (by simp),hok,.of_eq f⟩
  refine codeAny_mono ((F _ S (Y I)).run callerA [] Z H ⟨[.ref a],[]⟩ [.ref a] [.ref a] _ _ j c (X Z (.ref a)) (.cons rfl .nil) (L H E i)) λr s' h=>?_;cases r with
  |error e=>exact(R H e s' h).elim
  |ok fl=>
   cases fl with
   |next=>exact T8 h
   |brk=>exact T8 h
   |cont=>exact T8 h
   |ret u=>
    obtain⟨v,H',os,bare,un,T,r',q⟩:=h;have q':v=.bl true:=q;subst q';obtain rfl:u=Xb true:=r';refine⟨rfl,OldK.of_keep λb o e=>?_,os,bare⟩;cases q:H b with
    |none=>exact un.keep b o e q (by intro z;exact absurd (show b∈([]:List Addr) from z) (by simp)) (by simp)
    |some u=>
     rcases E b with z|⟨ob,xs,z⟩
     .rw[q] at z;cases z
     .have z2:=un.frzs b ob _ z;obtain⟨B,_⟩:=hok b _ z;obtain⟨e2,_⟩:=T b _ z2;rw[e] at B;cases B;exact e2
 cases hk:K.lookup a with
 |some o=>have e:=A a o hk;rw[ha] at e;cases e;refine Q (λ_=>none) (λ_=>.inl rfl) (.inr ⟨_,vs.toArray,_,hk,rfl,rfl,rfl,by rw[SD,N];exact hl,by simpa using C⟩) (λb u z=>by have U:(none:Option HO)=some u:=z;cases U) (λb z=>absurd rfl z) λz=>absurd rfl z
 |none=>
  refine Q (λb=>if b=a then some (.frz { cls:=.type "list",data:=.seq vs.toArray } (.lst (ns.map V.int))) else none) (λb=>?_) (.inl (.inr ⟨{ cls:=.type "list",data:=.seq vs.toArray },if_pos rfl⟩)) (λb u z=>?_) (λb z=>?_) λ_=>hk
  .by_cases G:b=a
   .exact .inr ⟨_,_,if_pos G⟩
   .exact .inl (if_neg G)
  .by_cases G:b=a
   .have U:=(if_pos G).symm.trans z;cases U;subst G;exact⟨ha,by rw[Ss];exact hl,vs,_,C,ha⟩
   .have U:=(if_neg G).symm.trans z;cases U
  .by_cases G:b=a
   .exact G
   .exact absurd (if_neg G) z
noncomputable def dP(s:Stmt):Arguments:=match s with
 | .FunctionDef _ a _ _ _ _ _ _ _ _=>a
 |_=>{ posonlyargs:=[],args:=[],vararg:=none,kwonlyargs:=[],kw_defaults:=[],kwarg:=none,defaults:=[] }
noncomputable def fU(s:Stmt):List Stmt:=match s with
 | .FunctionDef _ _ b _ _ _ _ _ _ _=>b
 |_=>[]
noncomputable def bp(s:Stmt):Scope:=match s with
 | .FunctionDef _ _ _ _ _ _ sc _ _ _=>sc
 |_=>{ kind:=.function,names:=[],isGenerator:=false,isCoroutine:=false }
noncomputable abbrev E0:XK:=λ_ _ _=>False
theorem tj{A:Around}(y:cQ k A):A.units+1<cLine:=UE (Nat.add_le_add_left (by decide:1<=64) _) y.units
def Q6(H H':Hp):Prop:=∀b o,H b=some o->H' b=some o
end L2
set_option maxHeartbeats 4000000
namespace L2
open PySem PySem.Spec PyProof.Rows PySem.W
open PySem.Builtin.ObjectAttr (find dataDescriptor? getOf)
open PySem.Builtin.Getset_descriptor (descrGet descrGetter descrCheckInstance descrNameAndClass)
variable{R:Result->Shared->Prop}
section
variable{prog:Program}{w:World}{A:Around}{E:Value->Shared->Prop}{h:Heap}{g:Array GenState}{d:Drawn}{t:Nat}{os:OsState}{K:Frag}{x C:Addr}
structure n6(K:Frag)(C:Addr):Prop where
 ga:findIn K (.ref C) "__getattribute__" = some (some (.builtin "BaseException.__getattribute__"))
 gt:findIn K (.ref C) "__getattr__" = some none
 cl:findIn K (.ref C) "__class__" = some (some (.builtin "object.__class__"))
 gg:specialIn K (.builtin "object.__class__") "__get__" = some (some (.builtin "getset_descriptor.__get__"))
 tk:takesIn K (.builtin "object.__class__")=some true
 ob:mroIn K C (.type "object")=some true
 be:mroIn K C (.type "BaseException")=some true
def ExcAt(a C:Addr)(h:Heap):Prop:=∃Y,h.get? a=some Y/\Y.cls=.ref C
theorem ExcAt.type{M:Model}(I:ExcAt x C h):Looks M h (typeOf (.ref x)) (.ref C):=by obtain⟨Y,F,j⟩:=I;exact j▸(Looks.ld F).andThen .now
theorem Lw{M:Model}{s:Value}{Q:Unit->Shared->Prop}(X:K.In h)(T:n6 K C)(I:ExcAt x C h)(j:Q () ⟨h,g,d,t,os⟩):
  wpAny M A (checkBuiltinCall "BaseException.__getattribute__" ⟨[.ref x,s],[]⟩) Q E ⟨h,g,d,t,os⟩:=by
 have w:builtinKind "BaseException.__getattribute__" = some .slot:=by decide +kernel
 have Y:splitId "BaseException.__getattribute__" = some ("BaseException", "__getattribute__"):=by decide +kernel
 have a:=F.args_bexc_ga (.ref x) s;have L2:Looks M h (isInstance (.ref x) (.type "BaseException")) true:=I.type.andThen (looks_mroIn (M:=M) X T.be);simp only[checkBuiltinCall,w,Y];refine wpAny_bind (L2.at ?_)
 repeat (first|exact j|wp_step)
theorem Od{M:Model}(X:K.In h)(T:n6 K C):Looks M h (find (.ref x) (.ref C) "__class__") (.bind (.builtin "getset_descriptor.__get__") (.builtin "object.__class__")):=by have l1:=looks_findIn (M:=M) X T.cl;have Q:Looks M h (getOf (some (.builtin "object.__class__"))) (some (.builtin "getset_descriptor.__get__")):=looks_specialIn X T.gg;have n:Looks M h (dataDescriptor? (some (.builtin "object.__class__")) (some (.builtin "getset_descriptor.__get__"))) (some (.builtin "getset_descriptor.__get__",.builtin "object.__class__")):=(looks_takesIn (M:=M) X T.tk).andThen .now;exact l1.andThen (Q.andThen (n.andThen (Looks.tag .now)))
theorem Ra{tp:Value}(X:K.In h)(T:n6 K C)(I:ExcAt x C h)(q:R (.ok (.ret (.ref C))) ⟨h,g,d,t,os⟩):
  codeAny (model prog w) A (.call (.builtin "getset_descriptor.__get__") ⟨[.builtin "object.__class__",.ref x,tp],[]⟩) R ⟨h,g,d,t,os⟩:=by
 have s:=I.type (M:=model prog w);have l1:=looks_mroIn (M:=model prog w) X T.ob;refine codeAny_call_builtin (KF.slot_gs).plain (KF.entry_gs) ((KF.slot_gs).check _ _ _ _ _ _ _ _ (KF.type_class) (KF.args_gs _ _ _) ?_);unfold Builtin.«getset_descriptor.__get__»;unfold descrGet;rw[dga_obj _ tp x];refine wpAny_bind (wpAny_pure ?_);unfold descrGetter descrCheckInstance;unfold descrNameAndClass isInstance;simp only[KF.owner_class,id]
 repeat (first|lk)
 refine⟨Code.quiet_builtin _ (by decide +kernel),codeAny_builtin (KF.entry_class) ?_⟩;unfold Builtin.«object.__class__»;unfold shownTypeOf
 repeat (first|lk)
 exact q
theorem JQ{tk:Tok}{Q:Fin->Shared->Prop}(X:K.In h)(T:n6 K C)(I:ExcAt x C h)(j:Q (.done (.ret (.ref C))) ⟨h,g,d,t,os⟩):
  wpAny (model prog w) A (Builtin.«object.__getattribute__» ⟨[.ref x,.str "__class__" tk],[]⟩) Q E ⟨h,g,d,t,os⟩:=by
 have G:=I.type (M:=model prog w);have Y:=Od (x:=x) (M:=model prog w) X T;unfold Builtin.«object.__getattribute__»;refine wpAny_bind (wpAny_pure ?_);refine wpAny_bind (wpAny_pure ?_);refine wpAny_bind (G.at ?_);refine wpAny_bind (Y.at ?_);unfold Xv;refine wpAny_bind (wpAny_call ?_);refine Ra X T I ?_;exact wpAny_pure j
theorem Pc{tk:Tok}(X:K.In h)(T:n6 K C)(I:ExcAt x C h)(j:R (.ok (.ret (.ref C))) ⟨h,g,d,t,os⟩):
  codeAny (model prog w) A (.call (.builtin "BaseException.__getattribute__") ⟨[.ref x,.str "__class__" tk],[]⟩) R ⟨h,g,d,t,os⟩:=
 codeAny_call_builtin Xo.ga.plain F.entry_bexc_ga (Lw X T I (JQ X T I j))
theorem RN{tk:Tok}{Q:Value->Shared->Prop}(X:K.In h)(T:n6 K C)(I:ExcAt x C h)(j:Q (.ref C) ⟨h,g,d,t,os⟩):
  wpAny (model prog w) A (getAttrBy (.ref x) (.str "__class__" tk) false) Q E ⟨h,g,d,t,os⟩:=by
 have J:=Xo.ga.bind (.ref x);have a:(Va "BaseException.__getattribute__" == Va "object.__getattribute__")=false:=by decide +kernel
 have b:(onTheHeap (Te C)&&Va "BaseException.__getattribute__" == Va "object.__getattribute__")=false:=by rw[a];rfl
 have G:=I.type (M:=model prog w);have Y:=looks_findIn (M:=model prog w) X T.ga;have L2:=looks_findIn (M:=model prog w) X T.gt;unfold getAttrBy;refine wpAny_holding (wpAny_bind (G.at (wpAny_bind (Y.at ?_))));dsimp only;rw[if_neg (by rw[b];exact Tg)];unfold getAttrByItsOwn hookBefore
 repeat (any_goals (first|assumption|with_reducible refine wpAny_bind (L2.at ?_)|with_reducible refine wpAny_bind (Y.at ?_)|wp_step))
 refine Pc X T I ?_
 repeat (any_goals (first|assumption|wp_step))
theorem O9{Q:Option Value->Shared->Prop}(X:K.In h)(T:n6 K C)(I:ExcAt x C h)(j:Q (some (.ref C)) ⟨h,g,d,t+1,os⟩):
  wpAny (model prog w) A (getAttr? (.ref x) "__class__") Q E ⟨h,g,d,t,os⟩:=by
 unfold getAttr? getAttrBy?
 repeat (any_goals (first|assumption|with_reducible apply RN X T I|wp_step))
end
variable{K:Frag}{C:Addr}
theorem n6.there(T:n6 K C):∃oc od cd sl,K.lookup C=some ⟨oc,od,.cls cd,sl⟩:=by
 have q:=T.ob;unfold mroIn clsIn at q;split at q
 .rename_i a b c e f;exact⟨a,b,c,e,f⟩
 .cases q
theorem zH{a:Addr}(T:n6 K C):KitX K (.ref a) (.ref C) (ExcAt a C) where
 ty:=λ_ _ _ I=>I.type
 it:=λ_ _ X _=>by obtain⟨_,_,_,_,L⟩:=T.there;intro o x H s1 Q l;unfold isType loadHead;exact wpAny_bind (wpAny_loadPart (Q _ _ (X _ _ L)) (wpAny_pure l))
 ne:=λh tp v its n sl X w=>by obtain⟨_,_,_,_,L⟩:=T.there;refine Xp.mpr λq=>?_;cases Te.inj (beq_iff_eq.mp q);cases (X _ _ L).symm.trans w
 ca:=λ{_ _ _ _ _ s} X I k=>by obtain⟨h,g,d,t,os⟩:=s;exact O9 X T I k
open PySem PySem.Spec PyProof.Rows
variable{P:Program}{w:World}{H:Hp}{o:HO}
theorem bW.is{h:Heap}{a:Addr}(x:bW P w H h a o):∃ob,h.get? a=some ob:=by
 cases o with
 |lst xs=>obtain⟨_,_,_,_,e⟩:=x;exact⟨_,e⟩
 |tup xs=>obtain⟨_,_,_,ob,e,_⟩:=x;exact⟨_,e⟩
 |dK kvs=>obtain⟨_,_,_,_,ob,_,_,e,_⟩:=x;exact⟨_,e⟩
 |dT kvs=>obtain⟨_,_,_,_,ob,_,_,e,_⟩:=x;exact⟨_,e⟩
 |set S n=>obtain⟨ob,_,_,_,e,_⟩:=x;exact⟨_,e⟩
 |ins C dx fs=>obtain⟨_,_,_,e,_⟩:=x;exact⟨_,e⟩
 |own y=>obtain⟨_,e⟩:=x;exact⟨_,e⟩
 |xd fs=>obtain⟨_,⟨_,_,_,e,_⟩,_⟩:=x;exact⟨_,e⟩
 |rng lo hi=>obtain⟨_,_,_,e⟩:=x;exact⟨_,e⟩
 |frz ob u=>obtain⟨e,_⟩:=x;exact⟨_,e⟩
 |tbl ps=>exact⟨_,x⟩
 |met f y=>exact⟨_,x⟩
 |ext φ=>obtain⟨_,⟨_,e⟩,_⟩:=x;exact⟨_,e⟩
abbrev XS:=Value->St->Hp->Prop
abbrev TX:=Ends->XS->St->Hp->Prop
section
variable{X:Cx}
variable{k:Nat}{f C:Addr}{fd:FuncData}{ps:List Str}{sp:Sp}{dvs:List V}{ds:List Value}{x m:Str}{p pos apos:Pos}{e o:Expr}{es:List Expr}{ta:TE}{t:TA}
noncomputable def IF(a C:Addr):HO:=.ext (ExcAt a C)
end
def Bd(n:Nat)(x:Int):Prop:=x.natAbs<2^n
variable{m:Nat}{x:Int}
theorem Bd.mono{n:Nat}(h:Bd m x)(k:m<=n):Bd n x:=SH h (TJ (by decide) k)
theorem Bd.bits{n:Nat}(h:Bd n x):Ww x<=n:=by
 unfold Ww;split
 .exact TM _
 .rename_i z;have h0:x.natAbs≠0:=λq=>z (by simp[Int.natAbs_eq_zero.mp q]);exact(Yu h0).mpr h
variable{y:Int}
theorem Bd.OO{n:Nat}(h:Bd m x)(k:Bd n y)(u:m+n<=134217728):IntMulOk x y:=IntMulOk.of_le h.bits k.bits u
theorem Bd.mul{n:Nat}(h:Bd m x)(k:Bd n y):Bd (m+n) (x*y):=by unfold Bd at *;rw[WC,Nat.pow_add];exact Nat.mul_lt_mul'' h k
theorem Bd.add{n:Nat}(h:Bd m x)(k:Bd n y):Bd (max m n+1) (x+y):=by have h1:=h.mono (XN m n);have w:=k.mono (XE m n);unfold Bd at *;have:=Int.natAbs_add_le x y;rw[Nat.pow_succ];lia
theorem Bd.neg{n:Nat}(h:Bd n x):Bd n (-x):=by unfold Bd at *;rwa[Int.natAbs_neg]
theorem Bd.log{n:Nat}(h:Bd n x)(hn:n<=9000):x.natAbs.log2<9000:=by
 by_cases z:x.natAbs=0
 .rw[z];decide
 .exact SH ((Yu z).mpr h) hn
section
variable{X:Cx}
def Rk(_ j:Int):Prop:=j≠0/\Bd 9000 j
theorem Eh:d6 X (binaryOp .Mult) (rI IntMulOk λi j=>.int (i*j)):=oV λ_ _ _ _ _ _ _ hc q=>mul_int q hc
theorem B5:d6 X (binaryOp .FloorDiv) (rI Rk λi j=>.int (i.fdiv j)):=oV λ_ _ _ _ _ _ _ hc q=>floordiv_int hc.1 q (.inl (PyProof.noPylong_of_log2 (hc.2.log (SK _))))
end
inductive D where
 |non|bl(b:Bool)|int(i:Int)|str(x:Str)|tup(ds:List D)|lst(ds:List D)
mutual
noncomputable def D.eq:D->D->Bool
 | .non,.non=>true
 | .bl a,.bl b=>a==b
 | .bl a,.int b=>(if a then 1 else 0)==b
 | .int a,.bl b=>a==(if b then 1 else 0)
 | .int a,.int b=>a==b
 | .str a,.str b=>a==b
 | .tup xs,.tup ys=>D.eqs xs ys
 | .lst xs,.lst ys=>D.eqs xs ys
 |_,_=>false
noncomputable def D.eqs:List D->List D->Bool
 |[],[]=>true
 |x::xs,y::ys=>D.eq x y&&D.eqs xs ys
 |_,_=>false
end
mutual
noncomputable def D.depth:D->Nat
 | .tup xs=>D.gh xs+1
 | .lst xs=>D.gh xs+1
 |_=>0
noncomputable def D.gh:List D->Nat
 |[]=>0
 |x::xs=>max (D.depth x) (D.gh xs)
end
mutual
theorem D.mI:∀d:D,D.eq d d=true
 | .non=>rfl
 | .bl b=>by simp[D.eq]
 | .int i=>by simp[D.eq]
 | .str x=>by simp[D.eq]
 | .tup xs=>by rw[D.eq];exact D.nT xs
 | .lst xs=>by rw[D.eq];exact D.nT xs
theorem D.nT:∀ds:List D,D.eqs ds ds=true
 |[]=>rfl
 |x::xs=>by rw[D.eqs,D.mI x,D.nT xs];rfl
end
mutual
inductive Den(K:So)(H:Hp):V->D->Prop
 |non:Den K H .non .non
 |bl(b:Bool):Den K H (.bl b) (.bl b)
 |int(i:Int):Den K H (.int i) (.int i)
 |str(x:Str):Den K H (.str x) (.str x)
 |tup{a:Addr}{xs:List V}{ds:List D}(e:gK K H a xs)(r:fB K H xs ds):Den K H (.ref a) (.tup ds)
 |lst{a:Addr}{xs:List V}{ds:List D}(e:gI K H a xs)(r:fB K H xs ds):Den K H (.ref a) (.lst ds)
inductive fB(K:So)(H:Hp):List V->List D->Prop
 |nil:fB K H [] []
 |cons{x:V}{d:D}{xs:List V}{ds:List D}(h:Den K H x d)(r:fB K H xs ds):fB K H (x::xs) (d::ds)
end
theorem fB.len{K:So}{H:Hp}:∀{xs:List V}{ds:List D},fB K H xs ds->xs.length=ds.length
 |_,_,.nil=>rfl
 |_,_,.cons _ r=>by rw[SF,SF,r.len]
theorem fB.at{K:So}{H:Hp}:∀{xs:List V}{ds:List D}(j:Nat){x:V}{d:D},fB K H xs ds->xs[j]?=some x->ds[j]?=some d->Den K H x d
 |_,_,0,_,_,.cons h _,e1,e2=>by cases e1;cases e2;exact h
 |_,_,j+1,_,_,.cons _ r,e1,e2=>r.at j e1 e2
theorem D.qe:∀{ds:List D}(j:Nat){d:D},ds[j]?=some d->D.depth d<=D.gh ds
 |x::xs,0,_,e=>by cases e;exact XN _ _
 |x::xs,j+1,_,e=>SW (D.qe (ds:=xs) j e) (XE _ _)
theorem D.gU:∀(xs ys:List D),D.eqs xs ys=((T9 (min xs.length ys.length)).all (λj=>D.eq (xs.getD j .non) (ys.getD j .non))&&xs.length==ys.length)
 |[],[]=>rfl
 |[],_::_=>rfl
 |_::_,[]=>rfl
 |x::xs,y::ys=>by
  rw[D.eqs,D.gU xs ys,SF,SF,Nat.succ_min_succ,List.range_succ_eq_map,S2,V1];have e:(xs.length+1==ys.length+1)=(xs.length==ys.length):=by rw[Vv];simp
  rw[e,Bool.and_assoc];rfl
variable{xs ys:List V}{u v:Value}{us:List Value}
section
variable{X:Cx}{pins:List (Addr×Obj)}{Y:St}{H:Hp}{s:Shared}
theorem xl{a:Addr}(I:Inv X pins Y H s)(h1:gK X.K H a xs)(h2:gI X.K H a ys):False:=by obtain⟨_,_,⟨o,e,c,_⟩,_⟩:=I.tuple h1;obtain⟨_,_,⟨o',w,t,v,_,d'⟩,_⟩:=I.list h2;rw[e] at t;cases t;rw[c] at v;injection v with q;exact absurd q (by decide)
mutual
theorem Den.inj(I:Inv X pins Y H s):∀{v:V}{d e:D},Den X.K H v d->Den X.K H v e->d=e
 |_,_,_,.non,h=>by cases h;rfl
 |_,_,_,.bl b,h=>by cases h;rfl
 |_,_,_,.int i,h=>by cases h;rfl
 |_,_,_,.str x,h=>by cases h;rfl
 |_,_,_,.tup e r,h=>by
  cases h with
  |tup t r'=>cases I.qj e t;rw[fB.inj I r r']
  |lst t r'=>exact(xl I e t).elim
 |_,_,_,.lst e r,h=>by
  cases h with
  |lst t r'=>cases I.sD e t;rw[fB.inj I r r']
  |tup t r'=>exact(xl I t e).elim
theorem fB.inj(I:Inv X pins Y H s):∀{v:List V}{d e:List D},fB X.K H v d->fB X.K H v e->d=e
 |_,_,_,.nil,h=>by cases h;rfl
 |_,_,_,.cons a r,h=>by
  cases h with
  |cons a' r'=>rw[Den.inj I a a',fB.inj I r r']
end
theorem pP(I:Inv X pins Y H s){A:Around}{x y:V}{d e:D}(f:A.units<cLine)(hf:iz x=true)(hd:Den X.K H x d)(R:Den X.K H y e)(b:RelV x u)(C:RelV y v):US A s u v (D.eq d e):=by
 cases hd with
 |tup=>cases hf
 |lst=>cases hf
 |non =>
  cases R with
  |tup q r=>cases b;cases C;rw[D.eq.eq_def];obtain⟨_,_,p,_⟩:=I.tuple q;exact .none_tuple p f
  |lst q r=>cases b;cases C;rw[D.eq.eq_def];obtain⟨_,_,p,_⟩:=I.list q;exact .none_list p.isList f
  |non => exact cM b C rfl rfl
  |bl b1=>exact cM b C rfl rfl
  |int h=>exact cM b C rfl rfl
  |str x1=>exact cM b C rfl rfl
 |bl n=>
  cases R with
  |tup q r=>cases b;cases C;rw[D.eq.eq_def];obtain⟨_,_,p,_⟩:=I.tuple q;exact .bool_tuple _ p f
  |lst q r=>cases b;cases C;rw[D.eq.eq_def];obtain⟨_,_,p,_⟩:=I.list q;exact .bool_list _ p.isList f
  |non => exact cM b C rfl rfl
  |bl b1=>exact cM b C rfl rfl
  |int h=>exact cM b C rfl rfl
  |str x1=>exact cM b C rfl rfl
 |int N=>
  cases R with
  |tup q r=>obtain⟨_,rfl⟩:=b;cases C;rw[D.eq.eq_def];obtain⟨_,_,p,_⟩:=I.tuple q;exact .int_tuple _ _ p f
  |lst q r=>obtain⟨_,rfl⟩:=b;cases C;rw[D.eq.eq_def];obtain⟨_,_,p,_⟩:=I.list q;exact .int_list _ _ p.isList f
  |non => exact cM b C rfl rfl
  |bl b1=>exact cM b C rfl rfl
  |int h=>exact cM b C rfl rfl
  |str x1=>exact cM b C rfl rfl
 |str Q=>
  cases R with
  |tup q r=>obtain⟨_,rfl⟩:=b;cases C;rw[D.eq.eq_def];obtain⟨_,_,p,_⟩:=I.tuple q;exact .str_tuple _ _ p f
  |lst q r=>obtain⟨_,rfl⟩:=b;cases C;rw[D.eq.eq_def];obtain⟨_,_,p,_⟩:=I.list q;exact .str_list _ _ p.isList f
  |non => exact cM b C rfl rfl
  |bl b1=>exact cM b C rfl rfl
  |int h=>exact cM b C rfl rfl
  |str x1=>exact cM b C rfl rfl
theorem Vals.N5(r:Vals xs us){j:Nat}(b:j<us.toArray.size):∃x,xs[j]?=some x/\RelV x us.toArray[j]:=by
 have hl:=r.length;have X:j<us.length:=by simpa using b
 have w:j<xs.length:=by lia
 obtain⟨u,e,Q⟩:=r.get (SU w);rw[SU X] at e;cases e;exact⟨xs[j],SU w,by simpa using Q⟩
theorem fB.getD{K:So}{H:Hp}{xs:List V}{ds:List D}(r:fB K H xs ds){j:Nat}{x:V}(e:xs[j]?=some x):Den K H x (ds.getD j .non)/\D.depth (ds.getD j .non)<=D.gh ds:=by
 have b:j<ds.length:=by rw[<-r.len];exact(Sy.mp e).1
 have w:ds[j]?=some ds[j]:=SU b;have Q:ds.getD j .non=ds[j]:=by rw[TL,w];rfl
 rw[Q];exact⟨r.at j e w,D.qe j w⟩
theorem lp(I:Inv X pins Y H s){n:Nat}(l:∀{A:Around}{x y:V}{d e:D}{u v:Value},A.units+n<cLine->D.depth d<=n->Den X.K H x d->Den X.K H y e->RelV x u->RelV y v->US A s u v (D.eq d e))
  {A:Around}(f:A.units+(n+1)<cLine){ds es:List D}{vs:List Value}(hn:D.gh ds<=n)(r:fB X.K H xs ds)(q:fB X.K H ys es)(b:Vals xs us)(C:Vals ys vs):
  ∀j (h1:j<us.toArray.size) (h2:j<vs.toArray.size),US A.in1 s us.toArray[j] vs.toArray[j] (D.eq (ds.getD j .non) (es.getD j .non)):=λj h1 h2=>by
 obtain⟨x,ex,Z⟩:=b.N5 h1;obtain⟨y,h,P⟩:=C.N5 h2;obtain⟨S,T⟩:=r.getD ex;exact l (by show A.units+1+n<cLine;lia) (SW T hn) S (q.getD h).1 Z P
theorem i6(I:Inv X pins Y H s):∀(n:Nat){A:Around}{x y:V}{d e:D}{u v:Value},A.units+n<cLine->D.depth d<=n->Den X.K H x d->Den X.K H y e->RelV x u->RelV y v->US A s u v (D.eq d e):=by
 intro n;induction n with
 |zero=>
  intro A x y d e u v f hn hd R Q C;cases id hd with
  |tup=>simp[D.depth] at hn
  |lst=>simp[D.depth] at hn
  |_=>exact pP I f rfl hd R Q C
 |succ n l=>
  intro A x y d e u v f hn hd R Q C;have h:A.units<cLine:=by lia
  cases id hd with
  |@tup a xs ds ea r=>
   cases Q;obtain⟨us,k,p,_⟩:=I.tuple ea;cases id R with
   |@tup b ys es Z G=>
    cases C;obtain⟨vs,U,F,_⟩:=I.tuple Z;by_cases o:a=b
    .subst o;rw[hd.inj I R,D.mI];exact .same _
    .refine .of_refs o ?_;rw[D.eq.eq_def];simp only[];rw[D.gU];have l1:us.toArray.size=ds.length:=by rw[SD,<-k.length,r.len]
     have N:vs.toArray.size=es.length:=by rw[SD,<-U.length,G.len]
     rw[<-l1,<-N];exact .tuples p F h (lp I l f (by rw[D.depth] at hn;lia) r G k U)
   |@lst b ys es Z G=>cases C;obtain⟨vs,U,F,_⟩:=I.list Z;rw[D.eq.eq_def];exact .tuple_list p F.isList h
   |non => cases C;rw[D.eq.eq_def];exact .tuple_none p h
   |bl S=>cases C;rw[D.eq.eq_def];exact .tuple_bool _ p h
   |int T=>obtain⟨_,rfl⟩:=C;rw[D.eq.eq_def];exact .tuple_int _ _ p h
   |str q=>obtain⟨_,rfl⟩:=C;rw[D.eq.eq_def];exact .tuple_str _ _ p h
  |@lst a xs ds ea r=>
   cases Q;obtain⟨us,k,p,_⟩:=I.list ea;cases id R with
   |@lst b ys es Z G=>
    cases C;obtain⟨vs,U,F,_⟩:=I.list Z;by_cases o:a=b
    .subst o;rw[hd.inj I R,D.mI];exact .same _
    .refine .of_refs o ?_;rw[D.eq.eq_def];simp only[];rw[D.gU];have l1:us.toArray.size=ds.length:=by rw[SD,<-k.length,r.len]
     have N:vs.toArray.size=es.length:=by rw[SD,<-U.length,G.len]
     rw[<-l1,<-N];by_cases hl:us.toArray.size=vs.toArray.size
     .have B:(us.toArray.size==vs.toArray.size)=true:=beq_iff_eq.mpr hl;rw[B,UY,<-hl,W2];exact .lists p.isList F.isList hl h (lp I l f (by rw[D.depth] at hn;lia) r G k U)
     .have B:(us.toArray.size==vs.toArray.size)=false:=beq_eq_false_iff_ne.mpr hl;rw[B,U7];exact .lists_lengths p.isList F.isList (by simpa using hl) h
   |@tup b ys es Z G=>cases C;obtain⟨vs,U,F,_⟩:=I.tuple Z;rw[D.eq.eq_def];exact .list_tuple p.isList F h
   |non => cases C;rw[D.eq.eq_def];exact .list_none p.isList h
   |bl S=>cases C;rw[D.eq.eq_def];exact .list_bool _ p.isList h
   |int T=>obtain⟨_,rfl⟩:=C;rw[D.eq.eq_def];exact .list_int _ _ p.isList h
   |str q=>obtain⟨_,rfl⟩:=C;rw[D.eq.eq_def];exact .list_str _ _ p.isList h
  |_=>exact pP I h rfl hd R Q C
end
section
variable{X:Cx}{pins:List (Addr×Obj)}{Y:St}{H:Hp}{s:Shared}
theorem Ct(I:Inv X pins Y H s){n:Nat}{A:Around}{x y:V}{d e:D}(f:A.units+n<cLine)(hn:D.depth d<=n)(hd:Den X.K H x d)(R:Den X.K H y e)(Q:RelV x u)(C:RelV y v):SeqAt.RcAt A s u v (D.eq d e):=by
 have h:A.units<cLine:=by lia
 cases id hd with
 |non =>
  cases Q;cases id R with
  |non => cases C;rw[D.eq.eq_def];exact .none_none
  |bl U=>cases C;rw[D.eq.eq_def];exact .none_bool _
  |int U=>obtain⟨_,rfl⟩:=C;rw[D.eq.eq_def];exact .none_int _ _
  |str U=>obtain⟨_,rfl⟩:=C;rw[D.eq.eq_def];exact .none_str _ _
  |@tup b ys es Z G=>cases C;rw[D.eq.eq_def];obtain⟨_,_,F,_⟩:=I.tuple Z;exact .none_tuple F h
  |@lst b ys es Z G=>cases C;rw[D.eq.eq_def];obtain⟨_,_,F,_⟩:=I.list Z;exact .none_list F.isList h
 |bl x1=>
  cases Q;cases id R with
  |non => cases C;rw[D.eq.eq_def];exact .bool_none _
  |bl U=>cases C;rw[D.eq.eq_def];exact .bool_bool _ _
  |int U=>obtain⟨_,rfl⟩:=C;rw[D.eq.eq_def];exact .bool_int _ _ _
  |str U=>obtain⟨_,rfl⟩:=C;rw[D.eq.eq_def];exact .bool_str _ _ _
  |@tup b ys es Z G=>cases C;rw[D.eq.eq_def];obtain⟨_,_,F,_⟩:=I.tuple Z;exact .bool_tuple _ F h
  |@lst b ys es Z G=>cases C;rw[D.eq.eq_def];obtain⟨_,_,F,_⟩:=I.list Z;exact .bool_list _ F.isList h
 |int x1=>
  obtain⟨_,rfl⟩:=Q;cases id R with
  |non => cases C;rw[D.eq.eq_def];exact .int_none _ _
  |bl U=>cases C;rw[D.eq.eq_def];exact .int_bool _ _ _
  |int U=>obtain⟨_,rfl⟩:=C;rw[D.eq.eq_def];exact .int_int _ _ _ _
  |str U=>obtain⟨_,rfl⟩:=C;rw[D.eq.eq_def];exact .int_str _ _ _ _
  |@tup b ys es Z G=>cases C;rw[D.eq.eq_def];obtain⟨_,_,F,_⟩:=I.tuple Z;exact .int_tuple _ _ F h
  |@lst b ys es Z G=>cases C;rw[D.eq.eq_def];obtain⟨_,_,F,_⟩:=I.list Z;exact .int_list _ _ F.isList h
 |str x1=>
  obtain⟨_,rfl⟩:=Q;cases id R with
  |non => cases C;rw[D.eq.eq_def];exact .str_none _ _
  |bl U=>cases C;rw[D.eq.eq_def];exact .str_bool _ _ _
  |int U=>obtain⟨_,rfl⟩:=C;rw[D.eq.eq_def];exact .str_int _ _ _ _
  |str U=>obtain⟨_,rfl⟩:=C;rw[D.eq.eq_def];exact .str_str _ _ _ _
  |@tup b ys es Z G=>cases C;rw[D.eq.eq_def];obtain⟨_,_,F,_⟩:=I.tuple Z;exact .str_tuple _ _ F h
  |@lst b ys es Z G=>cases C;rw[D.eq.eq_def];obtain⟨_,_,F,_⟩:=I.list Z;exact .str_list _ _ F.isList h
 |@tup a xs ds ea r=>
  cases Q;obtain⟨us,k,p,_⟩:=I.tuple ea;cases id R with
  |non => cases C;rw[D.eq.eq_def];exact .tuple_none p h
  |bl U=>cases C;rw[D.eq.eq_def];exact .tuple_bool _ p h
  |int U=>obtain⟨_,rfl⟩:=C;rw[D.eq.eq_def];exact .tuple_int _ _ p h
  |str U=>obtain⟨_,rfl⟩:=C;rw[D.eq.eq_def];exact .tuple_str _ _ p h
  |@tup b ys es Z G=>
   cases C;obtain⟨vs,o,F,_⟩:=I.tuple Z;rw[D.depth] at hn;obtain⟨n,rfl⟩:∃m,n=m+1:=⟨n-1,by lia⟩
   rw[D.eq.eq_def];simp only[];rw[D.gU];have l1:us.toArray.size=ds.length:=by rw[SD,<-k.length,r.len]
   have N:vs.toArray.size=es.length:=by rw[SD,<-o.length,G.len]
   rw[<-l1,<-N];exact .tuples p F h (lp I (i6 I n) f (by lia) r G k o)
  |@lst b ys es Z G=>cases C;rw[D.eq.eq_def];obtain⟨_,_,F,_⟩:=I.list Z;exact .tuple_list p F.isList h
 |@lst a xs ds ea r=>
  cases Q;obtain⟨us,k,p,_⟩:=I.list ea;cases id R with
  |non => cases C;rw[D.eq.eq_def];exact .list_none p.isList h
  |bl U=>cases C;rw[D.eq.eq_def];exact .list_bool _ p.isList h
  |int U=>obtain⟨_,rfl⟩:=C;rw[D.eq.eq_def];exact .list_int _ _ p.isList h
  |str U=>obtain⟨_,rfl⟩:=C;rw[D.eq.eq_def];exact .list_str _ _ p.isList h
  |@tup b ys es Z G=>cases C;rw[D.eq.eq_def];obtain⟨_,_,F,_⟩:=I.tuple Z;exact .list_tuple p.isList F h
  |@lst b ys es Z G=>
   cases C;obtain⟨vs,o,F,_⟩:=I.list Z;rw[D.depth] at hn;obtain⟨n,rfl⟩:∃m,n=m+1:=⟨n-1,by lia⟩
   rw[D.eq.eq_def];simp only[];rw[D.gU];have l1:us.toArray.size=ds.length:=by rw[SD,<-k.length,r.len]
   have N:vs.toArray.size=es.length:=by rw[SD,<-o.length,G.len]
   rw[<-l1,<-N];by_cases hl:us.toArray.size=vs.toArray.size
   .have B:(us.toArray.size==vs.toArray.size)=true:=beq_iff_eq.mpr hl;rw[B,UY,<-hl,W2];exact .lists p.isList F.isList hl h (lp I (i6 I n) f (by lia) r G k o)
   .have B:(us.toArray.size==vs.toArray.size)=false:=beq_eq_false_iff_ne.mpr hl;rw[B,U7];exact .lists_lengths p.isList F.isList (by simpa using hl) h
theorem vI(I:Inv X pins Y H s){n:Nat}{A:Around}{x y:V}{d e:D}(f:A.units+n<cLine)(hn:D.depth d<=n)(hd:Den X.K H x d)(R:Den X.K H y e)(Q:RelV x u)(C:RelV y v):SeqAt.RcNeAt A s u v (!D.eq d e):=by
 have h:A.units<cLine:=by lia
 cases id hd with
 |non =>
  cases Q;cases id R with
  |non => cases C;rw[D.eq.eq_def];exact .none_none
  |bl U=>cases C;rw[D.eq.eq_def];exact .none_bool _
  |int U=>obtain⟨_,rfl⟩:=C;rw[D.eq.eq_def];exact .none_int _ _
  |str U=>obtain⟨_,rfl⟩:=C;rw[D.eq.eq_def];exact .none_str _ _
  |@tup b ys es Z G=>cases C;rw[D.eq.eq_def];obtain⟨_,_,F,_⟩:=I.tuple Z;exact .none_tuple F h
  |@lst b ys es Z G=>cases C;rw[D.eq.eq_def];obtain⟨_,_,F,_⟩:=I.list Z;exact .none_list F.isList h
 |bl x1=>
  cases Q;cases id R with
  |non => cases C;rw[D.eq.eq_def];exact .bool_none _
  |bl U=>cases C;rw[D.eq.eq_def];exact .bool_bool _ _
  |int U=>obtain⟨_,rfl⟩:=C;rw[D.eq.eq_def];exact .bool_int _ _ _
  |str U=>obtain⟨_,rfl⟩:=C;rw[D.eq.eq_def];exact .bool_str _ _ _
  |@tup b ys es Z G=>cases C;rw[D.eq.eq_def];obtain⟨_,_,F,_⟩:=I.tuple Z;exact .bool_tuple _ F h
  |@lst b ys es Z G=>cases C;rw[D.eq.eq_def];obtain⟨_,_,F,_⟩:=I.list Z;exact .bool_list _ F.isList h
 |int x1=>
  obtain⟨_,rfl⟩:=Q;cases id R with
  |non => cases C;rw[D.eq.eq_def];exact .int_none _ _
  |bl U=>cases C;rw[D.eq.eq_def];exact .int_bool _ _ _
  |int U=>obtain⟨_,rfl⟩:=C;rw[D.eq.eq_def];exact .int_int _ _ _ _
  |str U=>obtain⟨_,rfl⟩:=C;rw[D.eq.eq_def];exact .int_str _ _ _ _
  |@tup b ys es Z G=>cases C;rw[D.eq.eq_def];obtain⟨_,_,F,_⟩:=I.tuple Z;exact .int_tuple _ _ F h
  |@lst b ys es Z G=>cases C;rw[D.eq.eq_def];obtain⟨_,_,F,_⟩:=I.list Z;exact .int_list _ _ F.isList h
 |str x1=>
  obtain⟨_,rfl⟩:=Q;cases id R with
  |non => cases C;rw[D.eq.eq_def];exact .str_none _ _
  |bl U=>cases C;rw[D.eq.eq_def];exact .str_bool _ _ _
  |int U=>obtain⟨_,rfl⟩:=C;rw[D.eq.eq_def];exact .str_int _ _ _ _
  |str U=>obtain⟨_,rfl⟩:=C;rw[D.eq.eq_def];exact .str_str _ _ _ _
  |@tup b ys es Z G=>cases C;rw[D.eq.eq_def];obtain⟨_,_,F,_⟩:=I.tuple Z;exact .str_tuple _ _ F h
  |@lst b ys es Z G=>cases C;rw[D.eq.eq_def];obtain⟨_,_,F,_⟩:=I.list Z;exact .str_list _ _ F.isList h
 |@tup a xs ds ea r=>
  cases Q;obtain⟨us,k,p,_⟩:=I.tuple ea;cases id R with
  |non => cases C;rw[D.eq.eq_def];exact .tuple_none p h
  |bl U=>cases C;rw[D.eq.eq_def];exact .tuple_bool _ p h
  |int U=>obtain⟨_,rfl⟩:=C;rw[D.eq.eq_def];exact .tuple_int _ _ p h
  |str U=>obtain⟨_,rfl⟩:=C;rw[D.eq.eq_def];exact .tuple_str _ _ p h
  |@tup b ys es Z G=>
   cases C;obtain⟨vs,o,F,_⟩:=I.tuple Z;rw[D.depth] at hn;obtain⟨n,rfl⟩:∃m,n=m+1:=⟨n-1,by lia⟩
   rw[D.eq.eq_def];simp only[];rw[D.gU];have l1:us.toArray.size=ds.length:=by rw[SD,<-k.length,r.len]
   have N:vs.toArray.size=es.length:=by rw[SD,<-o.length,G.len]
   rw[<-l1,<-N];exact .tuples p F h (lp I (i6 I n) f (by lia) r G k o)
  |@lst b ys es Z G=>cases C;rw[D.eq.eq_def];obtain⟨_,_,F,_⟩:=I.list Z;exact .tuple_list p F.isList h
 |@lst a xs ds ea r=>
  cases Q;obtain⟨us,k,p,_⟩:=I.list ea;cases id R with
  |non => cases C;rw[D.eq.eq_def];exact .list_none p.isList h
  |bl U=>cases C;rw[D.eq.eq_def];exact .list_bool _ p.isList h
  |int U=>obtain⟨_,rfl⟩:=C;rw[D.eq.eq_def];exact .list_int _ _ p.isList h
  |str U=>obtain⟨_,rfl⟩:=C;rw[D.eq.eq_def];exact .list_str _ _ p.isList h
  |@tup b ys es Z G=>cases C;rw[D.eq.eq_def];obtain⟨_,_,F,_⟩:=I.tuple Z;exact .list_tuple p.isList F h
  |@lst b ys es Z G=>
   cases C;obtain⟨vs,o,F,_⟩:=I.list Z;rw[D.depth] at hn;obtain⟨n,rfl⟩:∃m,n=m+1:=⟨n-1,by lia⟩
   rw[D.eq.eq_def];simp only[];rw[D.gU];have l1:us.toArray.size=ds.length:=by rw[SD,<-k.length,r.len]
   have N:vs.toArray.size=es.length:=by rw[SD,<-o.length,G.len]
   rw[<-l1,<-N];by_cases hl:us.toArray.size=vs.toArray.size
   .have B:(us.toArray.size==vs.toArray.size)=true:=beq_iff_eq.mpr hl;rw[B,UY,<-hl,W2];exact .lists p.isList F.isList hl h (lp I (i6 I n) f (by lia) r G k o)
   .have B:(us.toArray.size==vs.toArray.size)=false:=beq_eq_false_iff_ne.mpr hl;rw[B,U7];exact .lists_lengths p.isList F.isList (by simpa using hl) h
def Nw(K:So):R2:=λx y H Q=>∃d e,Den K H x d/\Den K H y e/\D.depth d<=40/\Q (.bl (D.eq d e)) H
def Oa(K:So):R2:=λx y H Q=>∃d e,Den K H x d/\Den K H y e/\D.depth d<=40/\Q (.bl (!D.eq d e)) H
theorem As(f:X.A.units+64<cLine):d6 X (compareOp .Eq) (Nw X.K):=by intro pins s Y H x y v u Q I Z P h;obtain⟨d,e,hd,p,dp,q⟩:=h;exact Ct I (n:=64) f (by lia) hd p Z P _ _ _ _ ⟨.bl _,H,I,rfl,q⟩
theorem BO(f:X.A.units+64<cLine):d6 X (compareOp .NotEq) (Oa X.K):=by intro pins s Y H x y v u Q I Z P h;obtain⟨d,e,hd,p,dp,q⟩:=h;exact vI I (n:=64) f (by lia) hd p Z P _ _ _ _ ⟨.bl _,H,I,rfl,q⟩
inductive EE(K:So)(H:Hp):V->Value->Prop where
 |of{v:V}{t:Value}(h:mf K H v t):EE K H v t
 |tup{a:Addr}{xs:List V}(e:gK K H a xs):EE K H (.ref a) (.type "tuple")
 |lst{a:Addr}{xs:List V}(e:gI K H a xs):EE K H (.ref a) (.type "list")
 |exc{a C:Addr}(e:H a=some (IF a C))(c:n6 K C):EE K H (.ref a) (.ref C)
 |dic{a:Addr}{kvs:List (Key×V)}(e:Rd H a (.dK kvs)):EE K H (.ref a) (.type "dict")
noncomputable def GW:V->Value
 | .ref a=>.ref a
 | .ty n=>.type n
 |_=>.none
noncomputable def wC:V->Bool
 | .ref _=>true
 | .ty _=>true
 |_=>false
theorem E6{x:V}(h:wC x=true)(r:RelV x u):u=GW x:=by cases x<;>first|exact r|cases h
theorem u3{pins:List (Addr×Obj)}{x:V}{t:Value}(I:Inv X pins Y H s)(A:RelV x u)(ty:EE X.K H x t):∃P,PySem.W.KitX X.K u t P/\P s.heap/\u≠.builtin "__main__.__loader__#opaque" := by
 cases ty with
 |tup e=>cases A;obtain⟨_,_,⟨o,h1,h2,_⟩,_⟩:=I.tuple e;exact⟨_,W3,⟨o,h1,h2⟩,λz=>nomatch z⟩
 |lst e=>cases A;obtain⟨_,_,⟨o,_,h1,h2,_⟩,_⟩:=I.list e;exact⟨_,VS,⟨o,h1,h2⟩,λz=>nomatch z⟩
 |dic e=>cases A;obtain⟨_,_,vs,_,o,es,ep,h1,h2,_⟩:=gv I.hok e;exact⟨_,VT,⟨o,h1,h2.1⟩,λz=>nomatch z⟩
 |exc e c=>
  cases A;obtain⟨p,_⟩:=(show bW X.prog X.w H s.heap _ (IF _ _) from I.hok _ _ e)
  exact⟨_,zH c,p,λz=>nomatch z⟩
 |of h=>
  cases h with
  |non=>cases A;exact⟨_,PySem.W.kitx_none,trivial,λz=>nomatch z⟩
  |bl y=>cases A;exact⟨_,PySem.W.kitx_bool,trivial,λz=>nomatch z⟩
  |int i=>obtain⟨_,rfl⟩:=A;exact⟨_,PySem.W.kitx_int,trivial,λz=>nomatch z⟩
  |str i=>obtain⟨_,rfl⟩:=A;exact⟨_,PySem.W.kitx_str,trivial,λz=>nomatch z⟩
  |flt i=>obtain⟨_,rfl⟩:=A;exact⟨_,PySem.W.kitx_float,trivial,λz=>nomatch z⟩
  |@lst a xs ea=>
   cases A;obtain⟨_,_,n,_,h1⟩:=(show bW X.prog X.w H s.heap a (.lst xs) from I.hok a _ ea)
   exact⟨_,VS,⟨_,h1,rfl⟩,λz=>nomatch z⟩
  |@frz a ob xs ea=>
   cases A;obtain⟨_,_,_,n,_,h1⟩:=(show bW X.prog X.w H s.heap a (.frz ob (.lst xs)) from I.hok a _ ea)
   exact⟨_,VS,⟨_,h1,rfl⟩,λz=>nomatch z⟩
  |@tup a xs ea=>
   cases A;obtain⟨_,_,_,o,h1,h2,_⟩:=(show bW X.prog X.w H s.heap a (.tup xs) from I.hok a _ ea)
   exact⟨_,W3,⟨o,h1,h2⟩,λz=>nomatch z⟩
  |@dK a kvs ea=>
   cases A;obtain⟨_,_,vs,_,o,es,ep,h1,h2,_⟩:=(show bW X.prog X.w H s.heap a (.dK kvs) from I.hok a _ ea)
   exact⟨_,VT,⟨o,h1,h2.1⟩,λz=>nomatch z⟩
  |@dT a kvs ea=>
   cases A;obtain⟨_,_,xs,_,o,es,ep,h1,h2,_⟩:=(show bW X.prog X.w H s.heap a (.dT kvs) from I.hok a _ ea)
   exact⟨_,VT,⟨o,h1,h2.1⟩,λz=>nomatch z⟩
  |@ins a C dx fs ea cl ha hn htk hm=>cases A;obtain⟨mA,O,_⟩:=mH I.hok ea;obtain⟨od,J,_⟩:=O.look;exact⟨_,PySem.W.kitx_own (cl.get _) cl.hd ha hn htk hm,J,λz=>nomatch z⟩
theorem Cv:cx X (.builtin "isinstance") (λxs H Q=>∃x c t b,xs=[x,c]/\EE X.K H x t/\wC c=true/\TQ X.K t (GW c)=some b/\Q (.bl b) H):=by intro pins s Y H xs us Q I r h;obtain⟨x,c,t,b,rfl,ty,hc,hk,q⟩:=h;obtain⟨u,v,rfl,V,G⟩:=vals2 r;rw[E6 hc G];obtain⟨P,Z,p,nb⟩:=u3 I V ty;exact PySem.W.kia_one Z I.ur p hk nb λtk=>⟨.bl b,H,I.tok tk,rfl,q⟩
end
theorem Ip:bootBuiltins "len" = some (.builtin "len"):=by decide +kernel
theorem oZ:bootBuiltins "isinstance" = some (.builtin "isinstance"):=by decide +kernel
theorem IB:bootBuiltins "abs" = some (.builtin "abs"):=by decide +kernel
theorem IJ:bootBuiltins "max" = some (.builtin "max"):=by decide +kernel
theorem KR:bootBuiltins "min" = some (.builtin "min"):=by decide +kernel
theorem xN:bootBuiltins "sorted" = some (.builtin "sorted"):=by decide +kernel
theorem Ad:bootBuiltins "all" = some (.builtin "all"):=by decide +kernel
theorem AE:bootBuiltins "int" = some (.type "int"):=by decide +kernel
theorem Eo:bootBuiltins "bool" = some (.type "bool"):=by decide +kernel
theorem KG:bootBuiltins "str" = some (.type "str"):=by decide +kernel
theorem sI:bootBuiltins "tuple" = some (.type "tuple"):=by decide +kernel
theorem xp:bootBuiltins "list" = some (.type "list"):=by decide +kernel
theorem xo:bootBuiltins "dict" = some (.type "dict"):=by decide +kernel
structure qW(K:So)(x qual:Str)(st:Stmt)(f:Addr)(fd:FuncData)(dV:Value):Prop where
 ex:∃(oc:Value)(od:Option Addr)(kV doc pm:Value)(an:Option Addr)(cdv ct:Value)(osl:Array (Option Value)),
  fd=VO x qual (dP st) (fU st) (bp st) dV kV doc pm an cdv ct/\K.lookup f=some ⟨oc,od,.func fd,osl⟩/\Vt K cdv qual=true
 kp:TV K (.ref f)=true
@[irreducible] def QS (X:Cx) (s:Stmt) (t:TS):Prop:=PS X s t
@[irreducible] def QT (X:Cx) (s:Expr) (t:TT):Prop:=PT X s t
@[irreducible] def QA (X:Cx) (s:List Expr) (t:TA):Prop:=PA X s t
set_option autoImplicit true
set_option relaxedAutoImplicit true
variable{elt:Expr}{scope:Scope}{pos:Pos}{env:Env}
section
variable{prog:Program}{w:World}{A:Around}{R:Result->Shared->Prop}{s:Shared}
theorem rX{X iter:Expr}{ifs:List Expr}{it acc:Value}(I:Nat->Shared->Prop)
  (J:∀n s,I n s->wpAny (model prog w) A (pyNext it) (λr Z=>match r with
   |none=>R (.ok .next) Z
   | some v=>wpAny (model prog w) A (letOwnedTupleGo X it v) (λ_ a=>wpAny (model prog w) A (assign X env v) (λ_ U=>
     wpAny (model prog w) A (forIn ifs true λc r=>if r=true then do let ok <- isTrue c env (eval c env);pure (Uv ok) else pure (Uv r)) (λok P=>
      if ok=true then wpAny (model prog w) A (eval elt env) (λx D=>wpAny (model prog w) A (call (.builtin "list.append") [acc,x]) (λ_ H=>∃m,m<n/\I m H) (λ_ _=>False) D) (λ_ _=>False) P
      else ∃m,m<n/\I m P) (λ_ _=>False) U) (λ_ _=>False) a) (λ_ _=>False) Z) (λ_ _=>False) s)
  (n:Nat) (h:I n s):codeAny (model prog w) A (.compLoop (.ListComp elt [⟨X,iter,ifs,0⟩] scope pos) 0 it acc env) R s:=by
 refine codeAny_loop rfl I (λn s S=>?_) n h;show wpAny _ A ((compTurn (.ListComp elt [⟨X,iter,ifs,0⟩] scope pos) 0 it acc env).onRaise (λx=>do noteFrame x env;theTreesLotGoes x)) _ _ s;refine wpAny_noted ?_;rw[compTurn_list];refine wpAny_bind (wpAny_standAt (wpAny_bind (wpAny_mono (J n s S) (λr Z O=>?_) λ_ _ h'=>h'.elim)));cases r with
 |none=>exact wpAny_pure O
 |some v=>
  refine wpAny_bind (wpAny_mono O (λ_ a Y=>?_) λ_ _ h'=>h'.elim);refine wpAny_bind (wpAny_mono Y (λ_ U t=>wpAny_bind (wpAny_mono t (λok P V=>?_) λ_ _ h'=>h'.elim)) λ_ _ h'=>h'.elim);cases ok with
  |false=>exact wpAny_pure ⟨rfl,V⟩
  |true=>exact wpAny_bind (wpAny_bind (wpAny_mono V (λx D u=>wpAny_bind (wpAny_mono u (λ_ H L=>wpAny_pure (wpAny_pure ⟨rfl,L⟩)) λ_ _ h'=>h'.elim)) λ_ _ h'=>h'.elim))
end
theorem nK{env:Env}{f:Str×NameKind->List (Str×Addr)->Sem (ForInStep (List (Str×Addr)))}
  (hf:∀x cs,f x cs=if (x.2==Uw)=true then (do let c <- cellOf env x.1;pure (Uv ((x.1,c)::cs))) else pure (Uv cs)):
  ∀(l:List (Str×NameKind))(cs:List (Str×Addr)),(∀x∈l,x.2=.free->∃c,env.cells.lookup x.1=some c)->
   ∃cl,forIn l cs f=(pure cl:Sem _)/\(∀x c,cl.lookup x=some c->cs.lookup x=some c\/env.cells.lookup x=some c) /\
    (∀x,(∃c,cs.lookup x=some c)\/(x,Uw)∈l->∃c,cl.lookup x=some c)
 |[],cs,_=>⟨cs,rfl,λ_ _ h=>.inl h,λx h=>h.elim id (λz=>by cases z)⟩
 |(n,k)::l,cs,h=>by
  rw[XF,hf];by_cases hk:k=.free
  .subst hk;obtain⟨c,hc⟩:=h (n,.free) SN rfl;obtain⟨cl,e,h1,h2⟩:=nK hf l ((n,c)::cs) λx w=>h x (SE _ w);refine⟨cl,?_,λx v q=>?_,λx q=>h2 x ?_⟩
   .have F:cellOf env n=pure c:=by unfold cellOf;rw[hc]
    simp only[beq_self_eq_true,if_true,F,pure_bind];exact e
   .rcases h1 x v q with z|z
    .rw[SX] at z;by_cases w:(x==n)=true
     .rw[w] at z;have:x=n:=eq_of_beq w;subst this;exact .inr (by rw[hc];exact z)
     .rw[Xp.mpr w] at z;exact .inl z
    .exact .inr z
   .rcases q with ⟨v,z⟩|z
    .left;rw[SX];cases x==n with
     |true=>exact⟨c,rfl⟩
     |false=>exact⟨v,z⟩
    .rcases SO.mp z with z|z
     .left;cases z;rw[SX,beq_self_eq_true];exact⟨c,rfl⟩
     .exact .inr z
  .obtain⟨cl,e,h1,h2⟩:=nK hf l cs λx w=>h x (SE _ w);refine⟨cl,?_,h1,λx q=>h2 x ?_⟩
   .have F:((n,k).2==Uw)=false:=by cases k<;>first|rfl|exact absurd rfl hk
    rw[F];simp only[Bool.false_eq_true,if_false,pure_bind];exact e
   .rcases q with z|z
    .exact .inl z
    .rcases SO.mp z with z|z
     .cases z;exact absurd rfl hk
     .exact .inr z
theorem ve(h:∀x∈scope.names,x.2=.free->∃c,env.cells.lookup x.1=some c):
  ∃cl,closureFor scope env=pure cl/\(∀x c,cl.lookup x=some c->env.cells.lookup x=some c)/\(∀x,(x,Uw)∈scope.names->∃c,cl.lookup x=some c):=by
 obtain⟨cl,e,h1,h2⟩:=nK (env:=env) (λ_ _=>rfl) scope.names [] h;refine⟨cl,?_,λx c q=>(h1 x c q).elim (λz=>by cases z) id,λx q=>h2 x (.inr q)⟩;unfold closureFor;exact(congrArg (λz:Sem (List (Str×Addr))=>z >>= λr=>pure r) e).trans (by rw[pure_bind])
section
variable{env:Env}
noncomputable def tZ(env:Env):Str×NameKind->Str×NameKind:=λ(n,k)=>if (k==.free&&env.scope.kind==.function&&env.kindOf n==some .cell) then (n,.cell) else (n,k)
theorem tR(p:Str×NameKind):(tZ env p).1=p.1:=by obtain⟨n,k⟩:=p;show (if _ then _ else _:Str×NameKind).1=n;split<;>rfl
theorem tE(p:Str×NameKind):(tZ env p).2=p.2\/(p.2=.free/\(tZ env p).2=.cell):=by
 obtain⟨n,k⟩:=p;show (if _ then _ else _:Str×NameKind).2=k\/_;split
 .rename_i h;right;rw[Sn,Sn] at h;refine⟨eq_of_beq h.1.1,?_⟩;show (if _ then _ else _:Str×NameKind).2=_;rw[if_pos (by rw[Sn,Sn];exact h)]
 .left;rfl
theorem fX:∀{names:List (Str×NameKind)}{x:Str}{k:NameKind},names.lookup x=some k->(names.map (tZ env)).lookup x=some k\/(k=.free/\(names.map (tZ env)).lookup x=some .cell)
 |[],_,_,h=>by cases h
 |p::r,x,k,h=>by
  rw[SR];obtain⟨n,I⟩:=p;have F:=tR (env:=env) (n,I);have j:=tE (env:=env) (n,I);generalize tZ env (n,I)=q at F j ⊢;obtain⟨w,s⟩:=q;have F:w=n:=F;subst F;rw[SX] at h ⊢;cases A:x==w with
  |true=>
   rw[A] at h;cases h;rcases j with j|⟨j,Q⟩
   .left;exact congrArg some j
   .right;exact⟨j,congrArg some Q⟩
  |false=>rw[A] at h;exact fX h
theorem cJ:∀{names:List (Str×NameKind)}{x:Str}{k:NameKind},(names.map (tZ env)).lookup x=some k->names.lookup x=some k\/(k=.cell/\names.lookup x=some .free)
 |[],_,_,h=>by cases h
 |p::r,x,k,h=>by
  rw[SR] at h;obtain⟨n,I⟩:=p;have F:=tR (env:=env) (n,I);have j:=tE (env:=env) (n,I);generalize tZ env (n,I)=q at F j h;obtain⟨w,s⟩:=q;have F:w=n:=F;subst F;rw[SX] at h ⊢;cases A:x==w with
  |true=>
   rw[A] at h;cases h;rcases j with j|⟨j,Q⟩
   .left;exact congrArg some j.symm
   .right;exact⟨Q,congrArg some j⟩
  |false=>rw[A] at h;exact cJ h
theorem jh{sc:Scope}{x:Str}(h:sc.names.lookup x=some .local):(relabel sc env).names.lookup x=some .local:=by
 rcases fX (env:=env) h with z|⟨z,_⟩
 .exact z
 .cases z
theorem Ce{sc:Scope}{x:Str}(h:sc.names.lookup x=some .globalImplicit):(relabel sc env).names.lookup x=some .globalImplicit:=by
 rcases fX (env:=env) h with z|⟨z,_⟩
 .exact z
 .cases z
theorem sE{sc:Scope}{x:Str}(h:sc.names.lookup x=some .free):o9 (relabel sc env) x:=by
 rcases fX (env:=env) h with z|⟨_,z⟩
 .exact .inr (.inr z)
 .exact .inr (.inl z)
end
structure fk(N0 N:List Str)(k:Nat)(sc de:Scope):Prop where
 kind:sc.kind=.function
 cell:∀y∈sc.names,y.2≠.cell
 names:∀y∈sc.names,y.2=.local->sc.names.lookup y.1=some .local
 len:N.length=N0.length+k
 nd:N.Nodup
 old:∀p∈(N.take N0.length).zip N0,p.1=p.2\/sc.names.lookup p.1=none
 nl:∀n∈N.take N0.length,sc.names.lookup n≠some .local
 fr:∀y∈sc.names,y.2=.free->de.names.lookup y.1=some .cell\/de.names.lookup y.1=some .free
noncomputable def ir(X:Cx)(N:List Str)(sc:Scope)(cl:List (Str×Addr))(C:Addr)(s:Shared)(H:Hp)(ex:List Addr):Cx where
 prog:=X.prog
 w:=X.w
 K:=X.K
 mg:=X.mg
 base:=X.base
 A:=X.A
 N:=N
 s₀:=s
 H₀:=H
 env:=compEnvC sc cl C X.env
 outer:=X.stack
 stack:=X.stack
 ex:=ex
 fn:=λ_=>false
 calm:=X.calm
 pn:=[]
 xe:=λ_ _=>False
theorem mem_of_lookupK{names:List (Str×NameKind)}{x:Str}{k:NameKind}(h:names.lookup x=some k):(x,k)∈names:=Ub h
variable{Z0:St}
section
variable{X:Cx}{pins:List (Addr×Obj)}{Y:St}{H:Hp}{s:Shared}{N:List Str}{k:Nat}{sc:Scope}{cl:List (Str×Addr)}{C:Addr}{fp:List Addr}{h1:Heap}{tk:Nat}
theorem Cu(I:Inv X pins Y H s)(S:fk X.N N k sc X.env.scope)(D:∀x c,cl.lookup x=some c->X.env.cells.lookup x=some c)
  (V:∀x,(x,Uw)∈sc.names->∃c,cl.lookup x=some c)(U:s.heap.objs.size<=C)(hf:∀b∈fp,oN X pins H b)(E:∀b∈fp,b<s.heap.objs.size)
  (hk:∀b o,s.heap.get? b=some o->h1.get? b=some o)(hn:∃m,h1.Ns C m):
  Inv (ir X N sc cl C s H fp) (X.pn++pins) (Y++S0 k none) H { s with heap:=h1,toks:=tk }:=by
 have h:∀b o,s.heap.get? b=some o->b≠C:=λb o e=>S4 (SH (SS e) U);have kind:∀x,((ir X N sc cl C s H fp).env.kindOf x=some .cell\/(ir X N sc cl C s H fp).env.kindOf x=some .free)->sc.names.lookup x=some .free:=λx w=>by
  rcases w with w|w
  .rcases cJ (env:=X.env) w with z|⟨_,z⟩
   .exact absurd rfl (S.cell _ (mem_of_lookupK z))
   .exact z
  .rcases cJ (env:=X.env) w with z|⟨z,_⟩
   .exact z
   .cases z
 refine⟨⟨I.ok.mod,S.kind,I.ok.glob,I.ok.blt,U,λx y c h1 h2=>I.ok.inj x y c (D _ _ h1) (D _ _ h2),λx w=>V x (mem_of_lookupK (kind x w)),λx c z _=>absurd (show false=true from z) Tg,
  I.ok.hd,I.ok.frames,.inl rfl,λb G=>⟨S4 (SH (E b G) U),λx c e=>(hf b G).2.2.2.2.1 x c (D _ _ e)⟩,I.bs,SW I.ok.bsz I.sz,λb o e G=>?_,λb G O=>?_,I.stack,I.xw⟩,
  rfl,I.bare,Un.kept hk,?_,λx c e=>?_,I.hok.fresh U,λx c e=>I.freeC x c (D _ _ e),λp hp=>?_,I.hok.kept hk,?_⟩
 .rcases(hf b G).2.2.2.1 with z|z
  .exact I.ok.noex b o e z
  .exact absurd (SH (SS e) (SW I.ok.bsz z)) (TB _)
 .rcases SO.mp (I.lj b O) with z|z
  .exact(hf b G).2.1 z
  .exact(hf b G).2.2.1 z
 .obtain⟨m,hn⟩:=hn;refine⟨m,hn,λi x v B j Q=>?_⟩;have hi:i<Y.length:=by
   by_cases hi:i<Y.length
   .exact hi
   .rw[S6 (by lia),WR] at j;split at j<;>cases j
  rw[Th hi] at j;have q:i<X.N.length:=by rw[<-I.len];exact hi
  have t:(N.take X.N.length)[i]?=some x:=by rw[Vd q];exact B
  have J:=S.nl x (SY t);have a:sc.names.lookup x=some .free:=by
   rcases Q with z|z|z
   .rcases cJ (env:=X.env) z with z|⟨z,_⟩
    .exact absurd z J
    .cases z
   .exact kind x (.inl z)
   .exact kind x (.inr z)
  have Z:X.N[i]?=some x:=by
   have hz:((N.take X.N.length).zip X.N)[i]?=some (x,X.N[i]):=by rw[List.getElem?_zip_eq_some];exact⟨t,SU q⟩
   rcases S.old _ (SY hz) with z|z
   .have z:x=X.N[i]:=z;rw[SU q,<-z]
   .have z:sc.names.lookup x=none:=z;rw[a] at z;cases z
  obtain⟨P,f,R⟩:=I.loc;have A:o9 X.env.scope x:=by
   rcases S.fr _ (mem_of_lookupK a) rfl with z|z
   .exact .inr (.inl z)
   .exact .inr (.inr z)
  obtain⟨u,r,l⟩:=R i x v Z j A;refine⟨u,r,.inr ⟨?_,?_⟩⟩
  .rcases sE (env:=X.env) a with z|z|z
   .rcases cJ (env:=X.env) z with z|⟨z,_⟩
    .rw[a] at z;cases z
    .cases z
   .exact .inl z
   .exact .inr z
  .rcases l with ⟨z,_⟩|⟨_,c,K,g⟩
   .have z:X.env.scope.names.lookup x = some .local:=z;rcases S.fr _ (mem_of_lookupK a) rfl with T | T
    .have T:X.env.scope.names.lookup x = some .cell:=T;rw [z] at T; cases T
    .have T:X.env.scope.names.lookup x=some .free:=T;rw[z] at T;cases T
   .obtain⟨c',L⟩:=V x (mem_of_lookupK a);have:=D _ _ L;rw[K] at this;cases this;obtain⟨o,F,hd⟩:=g;exact⟨c,L,o,hk _ _ F,hd⟩
 .obtain⟨v,o,F,hd⟩:=I.cell x c (D _ _ e);exact⟨v,o,hk _ _ F,hd⟩
 .have hp:p∈X.pn++pins:=hp;obtain⟨e,n,ne,nf,d⟩:=I.pin p hp;refine⟨hk _ _ e,n,h _ _ e,λG=>?_,d⟩;rcases SO.mp (I.lj _ G) with z|z
  .exact ne z
  .exact nf z
 .show (Y++S0 k none).length=N.length;rw[SI,WZ,I.len,S.len]
theorem zE{H':Hp}{s':Shared}{D:Addr}{its:List Value}(I:Inv X pins Y H s)(x:Inv (ir X N sc cl C s H fp) (X.pn++pins) Z0 H' s')(T:s.heap.objs.size<=D)(a:H' D=none)
  (pl:s'.heap.PlainList D its.toArray)(z:Vals ys its)(hl:ys.length<=sizeLine)(hf:∀b∈fp,oN X pins H b):Inv X pins Y (upd H' D (.lst ys)) s':=by
 obtain⟨n,G⟩:=pl;have u:=x.base;have ne:∀b o,s.heap.get? b=some o->b≠D:=λb o e=>S4 (SH (SS e) T);have r:∀b o,H' b=some o->b≠D:=λb o e=>aS e a;refine I.N8 x.os ⟨u.keep,u.slot,λb o e n nx=>?_,u.there,λb xs e=>?_,λb o v e=>?_,λb ps e=>?_⟩ (λb o e=>?_) x.bare (ch:=fp) λb d=>?_
 .rw[aE (ne b o e)];exact u.free b o e n nx
 .have:=u.tups b xs e;rw[aE (r _ _ this)];exact this
 .have:=u.frzs b o v e;rw[aE (r _ _ this)];exact this
 .obtain⟨more,this⟩:=u.tbls b ps e;exact⟨more,by rw[aE (r _ _ this)];exact this⟩
 .by_cases d:b=D
  .subst d;rw[bK] at e;cases e;exact⟨hl,its,n,z,G⟩
  .rw[aE d] at e;exact(x.hok b o e).mq (λ_ _ _ q=>q) (λc q=>by rw[aE (r _ _ q)];exact q) λc xs q=>by rw[aE (r _ _ q)];exact q
 .obtain⟨y,F,R,J,L,O⟩:=hf b d;exact⟨J,F,L,O⟩
end
variable{X:Cx}{pins:List (Addr×Obj)}{Y:St}{s:Shared}
theorem Inv.vK(I:Inv X pins Y H s){a:Addr}(h:s.heap.objs.size<=a):a∉my X.stack:=λd=>by
 rcases SO.mp (I.lj a d) with z|z
 .exact absurd (SH I.lt (by rw[<-z];exact h)) (TB _)
 .exact I.Mz h z
def PF(X:Cx)(ifs:List Expr)(t:TT):Prop:=∀(pins:List (Addr×Obj))(s:Shared)(Y:St)(H:Hp)(Q:Bool->Hp->Prop),Inv X pins Y H s->t Y H Q->
 wpAny (model X.prog X.w) X.A (forIn ifs true λc r=>if r=true then do let ok <- isTrue c X.env (eval c X.env);pure (Uv ok) else pure (Uv r)) (TP X pins Y Q) X.xe s
noncomputable def Pu:TT:=λ_ H Q=>Q true H
theorem Kn:PF X [] Pu:=λ_ _ _ H _ I h=>wpAny_tests_nil ⟨H,I,h⟩
theorem J4{c:Expr}{t:TT}(hc:PT X c t):PF X [c] t:=λpins s Y H Q I h=>wpAny_tests_one (hc pins s Y H Q I h)
def AD(J:It)(g:TG)(tt:TT)(n:TE)(Q:VK)(Y:St)(H:Hp):Prop:=∃W:Nat->Nat->St->List V->Hp->Prop,(∃m,W 0 m Y [] H)/\∀i m Y ys H,W i m Y ys H->ys.length<=sizeLine /\
  ((J.stop i H/\∀r,H r=none->Q (.ref r) (upd H r (.lst ys))) \/
   (J.go i H/\∃N:St->List V->Hp->Prop,(∀Z0 X H',N Z0 X H'->∃U,U<m/\W (i+1) U Z0 X H') /\
     ∀x H',J.yld i H x H'->g x Y H' λR c=>tt R c λb D=>if b=true then n R D λy s=>N R (ys++[y]) s else N R ys D))
noncomputable def wR(n:Nat)(I:TI)(g:TG)(tt:TT)(X:TE):TE:=λY H Q=>I Y H λJ e=>AD J g tt X Q (Y++S0 n none) e
section
variable{X:Cx}{pins:List (Addr×Obj)}{Y:St}{H:Hp}{s:Shared}{N:List Str}{k:Nat}{sc:Scope}{cl:List (Str×Addr)}{C:Addr}{fp:List Addr}{J:It}{it:Addr}{tn:Nat->Heap->Prop}
 {tg elt iter:Expr} {ifs:List Expr} {pos:Pos} {g:TG} {tt:TT} {te:TE} {Q:VK} {E:Value->Shared->Prop} {RR:Value->Addr->Result->Shared->Prop}
theorem nS(hc:X.calm=true)(S:fk X.N N k sc X.env.scope)(L:∀x c,cl.lookup x=some c->X.env.cells.lookup x=some c)
  (hcl2:∀x,(x,Uw)∈sc.names->∃c,cl.lookup x=some c)(I:Inv X pins Y H s)(T:Turn X.prog X.w X.K tg J fp it tn)(st:tn 0 s.heap)(hf:∀b∈fp,oN X pins H b)
  (B:AD J g tt te Q (Y++S0 k none) H)
  (hg:∀C,PG (ir X N sc cl C s H fp) tg g)(ht:∀C,PF (ir X N sc cl C s H fp) ifs tt)(he:∀C,PE (ir X N sc cl C s H fp) elt te)
  (hRR:∀D C s' H' ys,Inv X pins Y (upd H' D (.lst ys)) s'->s.heap.objs.size<=C->upd H' D (.lst ys) C=none->(∃m,s'.heap.Ns C m)->Q (.ref D) (upd H' D (.lst ys))->RR (.ref D) C (.ok .next) s'):
  wpAny (model X.prog X.w) X.A (newList []) (λacc P=>wpAny (model X.prog X.w) X.A (newFunctionEnv sc X.env.globals cl [] X.env.qual none .none (some X.env)) (λl s₄=>codeAny (model X.prog X.w) X.A (.compStart (.ListComp elt [⟨tg,iter,ifs,0⟩] sc pos) 0 (.ref it) acc { l with scope:=relabel sc X.env }) (RR acc l.locals) s₄) E P) E s:=by
 refine wpAny_newObj_type (wpAny_newFunctionEnv S.cell (by intro y hy;simp at hy) (λO U Z=>?_) S.kind);dsimp only at U Z ⊢;generalize hH2:s.heap.push { cls:=.type "list",dict:=none,data:=.seq ([]:List Value).toArray }=H2 at U Z ⊢;have hC:H2.objs.size=s.heap.objs.size+1:=by rw[<-hH2,Wt]
 have t:s.heap.objs.size≠H2.objs.size:=by rw[hC];exact S4 (Vk _)
 have h:s.heap.objs.size<=H2.objs.size:=by rw[hC];exact Vc _
 have below:∀b,b<s.heap.objs.size->b≠H2.objs.size/\b≠s.heap.objs.size:=λb G=>⟨by rw[hC];exact S4 (Wa G),S4 G⟩
 have old:∀b o,s.heap.get? b=some o->O.get? b=some o:=λb o e=>Z.extBut b o (below b (SS e)).1 (SA _ (hH2▸SA _ e));have hacc:O.PlainList s.heap.objs.size #[]:=⟨_,Z.extBut _ _ t (SA _ (hH2▸S1 _ rfl))⟩
 have F:∀b∈fp,b<s.heap.objs.size:=λb G=>let ⟨o,e,_⟩:=T.obj 0 _ st b G;SS e
 have st1:tn 0 O:=T.keep _ _ _ st λb G o e=>old b o e;have I0:=Cu (tk:=s.toks+([]:List (Str×Value)).length) I S L hcl2 h hf F old ⟨_,U⟩;generalize H2.objs.size=C at U Z hC t h below I0 ⊢;generalize hD:s.heap.objs.size=D at hC t h below hacc F ⊢;have a:s.heap.objs.size<=D:=by rw[hD];exact SK _
 have f:∀{H':Hp}{o:Obj},(∀b∈fp,H' b=none)->∀b∈fp,oN (ir X N sc cl C s H fp) ((X.pn++pins)++[(D,o)]) H' b:=λ{H' o} hn b G=>by
  obtain⟨f0,f1,f2,f3,f4,f5⟩:=hf b G;refine⟨hn b G,(below b (F b G)).1,λz=>?_,.inl G,λx c e=>f4 x c (L _ _ e),λp hp=>?_⟩
  .rcases SO.mp (I.lj b z) with z|z
   .exact f1 z
   .exact f2 z
  .have hp:p∈(X.pn++pins)++[(D,o)]:=hp;rcases Su.mp hp with z|z
   .exact f5 p z
   .have:p=(D,o):=by simpa using z
    rw[this];exact T6 (below b (F b G)).2
 have loop:∀P:Shared,P={ s with heap:=O,toks:=s.toks+([]:List (Str×Value)).length }->
   codeAny (model X.prog X.w) X.A (.compLoop (.ListComp elt [⟨tg,iter,ifs,0⟩] sc pos) 0 (.ref it) (.ref D) (compEnvC sc cl C X.env)) (RR (.ref D) C) P:=by
  rintro P rfl;obtain⟨W,⟨m0,w0⟩,step⟩:=B;refine rX (λn s'=>∃i Z0 H' ys its,Inv (ir X N sc cl C s H fp) (X.pn++pins) Z0 H' s'/\tn i s'.heap/\(∀b∈fp,H' b=none)/\H' D=none/\s'.heap.PlainList D (its:List Value).toArray/\Vals ys its/\W i n Z0 ys H') ?_ m0
   ⟨0,_,H,[],[],I0,st1,λb G=>(hf b G).1,I.hok.fresh a,hacc,.nil,w0⟩
  rintro n s3 ⟨i,V,H3,ys,its,I3,st3,fr3,hD3,⟨nn,pl3⟩,j,w3⟩;obtain⟨hl,cs⟩:=step i n V ys H3 w3;have pinD:∀{Z0:St}{H':Hp}{s':Shared}{o:Obj},Inv (ir X N sc cl C s H fp) (X.pn++pins) Z0 H' s'->H' D=none->s'.heap.get? D=some o->(∀v,o.data≠.cell v)->Inv (ir X N sc cl C s H fp) ((X.pn++pins)++[(D,o)]) Z0 H' s':=λ{Z0 H' s' o} I' hn e d=>
   I'.qF λp hp=>(Su.mp hp).elim (λz=>I'.pin p (Sr _ z)) λz=>by
    have:p=(D,o):=by simpa using z
    subst this;exact⟨e,hn,t,λz=>I.vK a z,d⟩
  have I3p:=pinD I3 hD3 pl3 λv z=>by cases z
  rcases cs with ⟨stop,q⟩|⟨go,NN,hN,nx⟩
  .refine bG (T.done (ir X N sc cl C s H fp) rfl rfl rfl hc i _ s3 V H3 _ I3p (f fr3) st3 stop) λr s4 ⟨hr,I4⟩=>?_;subst hr;have d4:=I4.pin (D,_) (Sr _ (Sr _ (Sx.mpr rfl)));have I5:=zE I I4.dR a d4.2.1 ⟨nn,d4.1⟩ j hl hf;refine hRR D C s4 H3 ys I5 (by rw[hD];exact h) ?_ (let ⟨m,hm,_⟩:=I4.loc;⟨m,hm⟩) (q D d4.2.1);rw[aE (T6 t)];exact I4.free
  .refine bG (T.item (ir X N sc cl C s H fp) rfl rfl rfl hc i _ s3 V H3 _ I3p (f fr3) st3 go) λr s4 ⟨u,hr,h4⟩=>?_;subst hr;refine bG h4 λ_ s5 ⟨x,H5,I5,r5,y5,st5,fr5⟩=>?_;have I5':=I5.pinned (f fr5) (T.obj _ _ st5);refine bG (hg C _ s5 V H5 x u _ I5' r5 (nx x H5 y5)) λ_ s6 ⟨R,H6,I6,q6⟩=>?_;refine bG (ht C _ s6 R H6 _ I6 q6) λb s7 ⟨H7,I7,q7⟩=>?_;have itK:∀{s8:Shared}{H8:Hp},Inv (ir X N sc cl C s H fp) (((X.pn++pins)++[(D,({ cls:=.type "list",data:=.seq its.toArray nn }:Obj))])++oJ fp s5.heap) R H8 s8->tn (i+1) s8.heap/\∀b∈fp,H8 b=none:=λ{s8 H8} I8=>by refine⟨T.keep _ _ _ st5 λb G o e=>(I8.pin (b,o) (Sr _ (Sr _ (gR G e)))).1,λb G=>?_⟩;obtain⟨o,e,d⟩:=T.obj _ _ st5 b G;exact(I8.pin (b,o) (Sr _ (Sr _ (gR G e)))).2.1
   cases b with
   |false=>
    have q7:NN R ys H7:=by simpa using q7
    obtain⟨m',hm,w7⟩:=hN _ _ _ q7;obtain⟨t7,f7⟩:=itK I7;have d7:=I7.pin (D,_) (Sr _ (Sv _ (Sr _ (Sx.mpr rfl))));show ∃m,m<n/\_;exact⟨m',hm,i+1,R,H7,ys,its,I7.dR.dR,t7,f7,d7.2.1,⟨nn,d7.1⟩,j,w7⟩
   |true=>
    have q7:te R H7 λy H4=>NN R (ys++[y]) H4:=by simpa using q7
    show wpAny _ _ _ _ _ _;refine bG (he C _ s7 R H7 _ I7 q7) λyv s8 ⟨y,H8,I8,r8,q8⟩=>?_;obtain⟨m',hm,w9⟩:=hN _ _ _ q8;obtain⟨t8,f8⟩:=itK I8;have d8:=I8.pin (D,_) (Sr _ (Sv _ (Sr _ (Sx.mpr rfl))));refine wpAny_list_append_plain (hsz:=by rw[SD,<-j.length];exact hl) ⟨nn,d8.1⟩ λh9 pl9 sb9=>?_;have I9:Inv (ir X N sc cl C s H fp) (X.pn++pins) R H8 { s8 with heap:=h9 }:=I8.dR.dR.turned (t':=s8.toks) (it:=D) (λb o G e=>(sb9.2 b G).trans e) d8.2.1 t (.inr a) (λx c e z=>?_) (λp hp z=>?_)
    .refine⟨m',hm,i+1,R,H8,ys++[y],its++[yv],I9,T.keep _ _ _ t8 λb G o e=>(sb9.2 b (below b (F b G)).2).trans e,f8,d8.2.1,?_,j.append (.cons r8 .nil),w9⟩;rw[<-List.push_toArray];exact pl9
    .obtain⟨v,q⟩:=I.cell x c (L _ _ e);exact absurd (SH q.lt (by rw[z];exact a)) (TB _)
    .have hp:p∈X.pn++pins:=hp;exact absurd (SH (SS (I.pin p hp).1) (by rw[z];exact a)) (TB _)
 exact codeAny_compStart_list (loop _ rfl) (T.self _ _ _ _ _ st1 (loop _ rfl))
end
variable{h':Heap}{px:Pos}
section
variable{X:Cx}{N:List Str}{k:Nat}{sc:Scope}{tg elt iter:Expr}{ifs:List Expr}{pos:Pos}{g:TG}{tt:TT}{te:TE}{wi:TI}
theorem oK(I:Inv X pins Y H s)(S:fk X.N N k sc X.env.scope):
  ∃cl,closureFor sc X.env=pure cl/\(∀x c,cl.lookup x=some c->X.env.cells.lookup x=some c)/\(∀x,(x,Uw)∈sc.names->∃c,cl.lookup x=some c):=
 ve λx w e=>I.ok.has x.1 (S.fr x w e)
theorem Inv.letGo{H0:Hp}{s0:Shared}(n:Inv X pins Y H0 s0)(I:Inv X pins Z0 H s)(U:s0.heap.objs.size<=C)(hn:H C=none)(S:Vp C s.heap h'):Inv X pins Z0 H { s with heap:=h' }:=
 I.turned (t':=s.toks) (it:=C) (λb o d e=>(S.2 b d).trans e) hn (Yc (SH n.lt U)) (.inr (SW n.sz U))
  (λx c e z=>by obtain⟨v,q⟩:=n.cell x c e;exact absurd (SH q.lt (by rw[z];exact U)) (TB _))
  (λp hp z=>absurd (SH (SS (n.pin p hp).1) (by rw[z];exact U)) (TB _))
theorem wY(hc:X.calm=true)(S:fk X.N N k sc X.env.scope)(hi:PI X tg iter wi)(hg:∀cl C s H fp,PG (ir X N sc cl C s H fp) tg g)(ht:∀cl C s H fp,PF (ir X N sc cl C s H fp) ifs tt)
  (he:∀cl C s H fp,PE (ir X N sc cl C s H fp) elt te)(hs:∀x,foldedSetIterable iter X.env x=pure x:=by intro _;rfl):PE X (.ListComp elt [⟨tg,iter,ifs,0⟩] sc pos) (wR k wi g tt te):=by
 intro pins s Y H Q I h;obtain⟨cl,hclos,h1,h2⟩:=oK I S;rw[eval_ListComp];refine wpAny_comprehension_free (use:=none) rfl hs hclos S.kind S.names (bG (hi pins s Y H _ I h) λv s1 q1=>bG q1 λitv s2 q2=>?_);obtain⟨it,fp,tn,J,H2,rfl,I2,T,st2,f2,B⟩:=q2;refine nS (RR:=λacc C=>compPost (model X.prog X.w) X.A X.xe none (EP X pins Y Q) acc C) hc S h1 h2 I2 T st2 f2 B (λC=>hg cl C s2 H2 fp) (λC=>ht cl C s2 H2 fp) (λC=>he cl C s2 H2 fp) ?_;intro D C s' H' ys I' hC hn hm q;obtain⟨m,hm⟩:=hm;exact⟨m,hm,λh' sb=>⟨.ref D,_,I2.letGo I' hC hn sb,rfl,q⟩⟩
theorem xx{i:Nat}{x:Str}{spos:Pos}(hc:X.calm=true)(S:fk X.N N k sc X.env.scope)(hN:X.N.Nodup)(hx:X.N[i]?=some x)(hl:X.env.scope.names.lookup x=some .local)
  (hsw:swapsWith (.ListComp elt [⟨tg,iter,ifs,0⟩] sc pos) (some (.Name x px)) spos.line X.env=pure true)(hi:PI X tg iter wi)(hg:∀cl C s H fp,PG (ir X N sc cl C s H fp) tg g)(ht:∀cl C s H fp,PF (ir X N sc cl C s H fp) ifs tt)
  (he:∀cl C s H fp,PE (ir X N sc cl C s H fp) elt te)(hs:∀x,foldedSetIterable iter X.env x=pure x:=by intro _;rfl):PS X (.Assign [.Name x px] (.ListComp elt [⟨tg,iter,ifs,0⟩] sc pos) spos) (Aw (wR k wi g tt te) (BS i)):=by
 intro pins s Y H D0 I h;obtain⟨cl,hclos,h1,h2⟩:=oK I S;rw[exec_Assign_Name_used _ _ _ _ hsw];refine wpAny_bind (wpAny_standAt (wpAny_bind ?_));show wpAny _ X.A (do let _ <- comprehension (.ListComp elt [⟨tg,iter,ifs,0⟩] sc pos) sc X.env _ (newList []) false (eval iter X.env) (some (assign (.Name x px) X.env))) _ _ s;refine wpAny_bind (bG (wpAny_comprehension_free (use:=some (assign (.Name x px) X.env)) (Q:=λ_ s'=>SP X pins D0 .next s') rfl hs hclos S.kind S.names
  (bG (hi pins s Y H _ I h) λv s1 q1=>bG q1 λitv s2 q2=>?_)) λ_ s' hq=>wpAny_pure (wpAny_pure hq))
 obtain⟨it,fp,tn,J,H2,rfl,I2,T,st2,f2,B⟩:=q2;refine nS (RR:=λacc C=>compPost (model X.prog X.w) X.A X.xe (some (assign (.Name x px) X.env)) (λ_ s'=>SP X pins D0 .next s') acc C) hc S h1 h2 I2 T st2 f2 B (λC=>hg cl C s2 H2 fp) (λC=>ht cl C s2 H2 fp) (λC=>he cl C s2 H2 fp) ?_;intro D C s' H' ys I' hC hn hm q;obtain⟨m,hm⟩:=hm;show wpAny _ X.A (assign (.Name x px) X.env (.ref D)) _ _ _;refine wpAny_assign_Name (pV I' hN hx (.inl hl) (v:=.ref D) rfl (λs'' I'' ch=>?_) (.inr hl));obtain⟨a,sb,ha⟩:=ch;refine⟨m,hm.sameBut sb ?_,λh' sb'=>⟨_,_,I2.letGo I'' hC hn sb',q⟩⟩;rintro rfl;rcases ha with z|z
 .exact absurd (SH I2.lt (by rw[<-z];exact hC)) (TB _)
 .obtain⟨v,q⟩:=I2.cell x _ z;exact absurd (SH q.lt hC) (TB _)
end
theorem nQ{gs:List Comprehension}{sc:Scope}{x:Str}{line:Nat}(h1:env.blockKind=.function)(h2:env.kindOf x=some .local)(h3:(px.line==pos.line)=true)
  (h4:(sc.names.any λp=>p.1==x&&(p.2==.local || p.2==.cell))=false):swapsWith (.ListComp elt gs sc pos) (some (.Name x px)) line env=pure true:=by
 unfold swapsWith;show (pure (env.blockKind==.function&&env.kindOf x==some .local&&px.line==pos.line&&!(sc.names.any λp=>p.1==x&&(p.2==.local || p.2==.cell))):Sem Bool)=pure true;rw[h1,h2,h3,h4];rfl
section
variable{X:Cx}{tg:Expr}
theorem Inv.rg{a:Addr}(I:Inv X pins Y H s)(hf:∀b o,s.heap.get? b=some o->b≠a):H a=none:=by
 cases e:H a with
 |none=>rfl
 |some u=>obtain⟨ob,z⟩:=(I.hok a u e).is;exact absurd rfl (hf a ob z)
theorem Inv.Hv{a:Addr}{t':Nat}(I:Inv X pins Y H s)(k:∀b u,s.heap.get? b=some u->h'.get? b=some u)(hf:∀b o,s.heap.get? b=some o->b≠a)
  (new:bW X.prog X.w (upd H a o) h' a o):Inv X pins Y (upd H a o) { s with heap:=h',toks:=t' }:=by
 have hn:=I.rg hf;refine I.un ⟨λb u e _ _ _=>k b u e,λb u e _ _ _=>⟨u.slots,k b u e⟩,λb u e n _=>by rw[aE (hf b u e)];exact n,λb u e _=>⟨u,k b u e⟩,λb xs e=>by rw[aE (aS e hn)];exact e,λb u v e=>by rw[aE (aS e hn)];exact e,
  λb ps e=>⟨#[],by rw[aE (aS e hn),e];simp⟩⟩ λb u e=>?_
 by_cases d:b=a
 .subst d;rw[bK] at e;cases e;exact new
 .rw[aE d] at e;exact(I.hok b u e).mq (λc v _ q=>k c v q) (λc q=>by rw[aE (aS q hn)];exact q) λc xs q=>by rw[aE (aS q hn)];exact q
theorem nj{ss:List Str}:∀{us:List Value},Vals (ss.map V.str) us->StrsAre us ss:=by
 induction ss with
 |nil=>intro us r;rw[UI] at r;cases r;exact .nil
 |cons n ns l=>
  intro us r;rw[SR] at r;cases r with
  |cons k G=>obtain⟨t,e⟩:=k;subst e;exact .cons n t (l G)
theorem gP:∀{ss:List Str}{us:List Value},StrsAre us ss->Vals (ss.map V.str) us
 |_,_,.nil=>.nil
 |_,_,.cons y t r=>.cons ⟨t,rfl⟩ (gP r)
def mK(K:So):List V->Hp->VK->Prop:=λvs H Q=>∃a ss,vs=[.ref a]/\(gI K H a (ss.map V.str)\/∃kvs,H a=some (.dK kvs)/\kvs.map (·.1)=ss.map Tu)/\ss.length<64 /\
 ∀r x,H r=none->x.Perm ss->sortedS x=true->Q (.ref r) (upd H r (.lst (x.map V.str)))
theorem jI:64<=sizeLine:=by rw[sizeLine_eq];decide
theorem pE{ss:List Str}{vs:List (Key×Value)}{acc:Array Value}(e:vs.map (·.1)=ss.map Tu)
  (h:ItemsOf (λi v=>∃k x,vs[i]?=some (k,x)/\(aX P w).is k v=true) acc vs.length):StrsAre acc.toList ss:=by
 obtain⟨B,hi⟩:=h;have hl:ss.length=vs.length:=by have:=congrArg U0 e;simpa using this.symm
 have H:∀(j:Nat)(v:Value),acc.toList[j]?=some v->∃(x:Str)(t:Tok),ss[j]?=some x/\v=V6 x t:=λj v c=>by
  obtain⟨k,x,A,hk⟩:=hi j v (by rw[<-UR];exact c);have hk:oF k v=true:=hk;have I:(vs.map (·.1))[j]?=some k:=by rw[SV,A];rfl
  rw[e,SV] at I;cases X:ss[j]? with
  |none=>rw[X] at I;cases I
  |some z=>
   rw[X] at I;have Q:k=Tu z:=(SM I).symm;subst Q;rcases bN hk with ⟨i,t,q,_⟩|⟨y,t,q,rfl⟩
   .cases q
   .cases q;exact⟨z,t,rfl,rfl⟩
 have r:acc.toList.length=ss.length:=by rw[Tv,B,hl]
 clear B hi e hl;generalize acc.toList=l at H r;induction l generalizing ss with
 |nil=>
  cases ss with
  |nil=>exact .nil
  |cons a b=>cases r
 |cons v l s=>
  cases ss with
  |nil=>cases r
  |cons z ss=>obtain⟨x,t,A,rfl⟩:=H 0 v rfl;have A:z=x:=SM A;subst A;exact .cons z t (s (λj u f=>H (j+1) u f) (by simpa using r))
theorem rZ(hc:X.calm=true):cx X (.builtin "sorted") (mK X.K):=by
 intro pins s Y H vs us Q I C h;obtain⟨a,ss,rfl,j,S,q⟩:=h;obtain⟨u,rfl,O⟩:=C.one;cases O;rcases j with j|⟨kvs,hd,U⟩
 .obtain⟨its,r,p,hz⟩:=I.list j;have i:=nj r;have y:its.length=ss.length:=by have:=r.length;simpa using this.symm
  refine sorted_strs p.isList i (by lia) λout x v E G=>?_;obtain⟨e,R⟩:=sortedAll_at s.heap its out;refine⟨.ref _,_,I.laid (t':=s.toks) (o:=.lst (x.map V.str)) (λb o z=>sortedAll_old z) (Vc _) ⟨?_,out.toList,e,gP v,by simpa using R⟩,rfl,q _ x (I.hok.fresh (Vc _)) E G⟩;rw[Ss,E.length_eq];exact SW (UO S) jI
 .obtain⟨hz,lo,vs,B,F⟩:=z6 I.hok hd;obtain⟨ep,t⟩:=F.dictAt;have T:vs.map (·.1)=ss.map Tu:=by rw[<-B.keys];exact U
  have y:vs.length=ss.length:=by have:=congrArg U0 T;simpa using this
  refine Wx kind_sorted plain_sorted entry_sorted (args_sorted1 _) ?_;unfold Builtin.«sorted»;refine wpAny_bind (m:=checkCount "sorted" 1 1 _) (wpAny_pure ?_);refine wpAny_bind (kdu_collect (A:=X.A.in1) (kdl_dict (knd:=aX X.prog X.w) (kvs:=vs) (ep:=ep) lo) (I.ok.hd hc) t (by have:=jI;lia) λh' tk acc hk D=>?_);have i:=pE T D;have Z:acc.toList.length=ss.length:=by rw[Tv,D.1,y]
  refine wpAny_bind (wpAny_newList ?_ (by have:=jI;lia));have N:(h'.push (seqObj "list" acc.toList.toArray 0)).get? h'.objs.size=some (seqObj "list" acc.toList.toArray 0):=S1 _ rfl;refine wpAny_bind (wpAny_holding (wpAny_call_entry slot_list_sort ⟨_,N,rfl⟩ entry_list_sort (list_sort_treeK strKind_oneLt N i.keysOf (λJ L rest e=>keyKind_strs (by rw[<-e];exact i)) (by lia) λk hp f=>⟨_,rfl,?_⟩) (args_list_sort _)));obtain⟨x,b1,b2,g⟩:=sorted_out_str i hp f;obtain⟨e,R⟩:=sortedHeap_at (vs:=acc.toList) (n:=0) (out:=(arrOf k).map (·.2)) N;have hf:∀b o,s.heap.get? b=some o->b≠h'.objs.size:=λb o z=>S4 (SS (hk b o z));refine wpAny_pure ⟨_,rfl,.ref _,_,I.Hv (t':=tk) (a:=h'.objs.size) (o:=.lst (x.map V.str)) (λb o z=>?_) hf ⟨?_,((arrOf k).map (·.2)).toList,e,gP b1,?_⟩,rfl,q _ x (I.rg hf) b2 g⟩
  .rw[sortedHeap_old (hf b o z) (by rw[size_push'];exact Wa (SS (hk b o z)))];exact SA _ (hk b o z)
  .rw[Ss,b2.length_eq];exact SW (UO S) jI
  .rw[W4];exact R
def Qe:V->Option Int->Option Int->Hp->VK->Prop:=λx lo hi H Q=>∃z,x=.str z/\z.length<=sizeLine/\Q (.str (T4 z lo hi)) H
theorem tO{o:Option Int}(p:IsPart v o):∃l:Option (Int×Tok),v=partValue l/\l.map (·.1)=o:=by
 cases p with
 |none=>exact⟨none,rfl,rfl⟩
 |int i t=>exact⟨some (i,t),rfl,rfl⟩
theorem LX:dY X Qe:=by intro pins s Y H x v E J lo hi sl Q I K B pl V h;obtain⟨z,rfl,hz,q⟩:=h;obtain⟨t,rfl⟩:=K;obtain⟨l,rfl,rfl⟩:=tO pl;obtain⟨u,rfl,rfl⟩:=tO V;refine⟨"str",_,F.slot_str_getitem.lookup,typeIs_str _ _ _,wpAny_getItem_str_slice (l:=l) (u:=u) (st:=none) B rfl ?_⟩;exact post_val_or_str ⟨SW (Txt.slice_le z _ _) hz,λt' k=>⟨.str _,H,I.tok _,⟨t',rfl⟩,q⟩⟩
noncomputable def jl(ss:List Str):Nat:=(ss.map (λz=>z.length)).sum
theorem jB:∀{us:List Value}{ss:List Str},StrsAre us ss->∃l:List (Str×Tok),us=strValues l/\l.map (·.1)=ss
 |_,_,.nil=>⟨[],rfl,rfl⟩
 |_,_,.cons y t r=>by obtain⟨l,F,j⟩:=jB r;exact⟨(y,t)::l,by rw[F];rfl,by rw[SR,j]⟩
end
noncomputable def QK(x:Str):It:=⟨λi _=>i<x.cps.size,λi H v H'=>H'=H/\∃c,x.cps[i]?=some c/\v=.str ⟨#[c]⟩,λi _=>x.cps.size<=i⟩
variable{tg:Expr}
theorem vL{K:So}(it:Addr)(x:Str)(t:Tok):Turn P w K tg (QK x) [it] it (λi h=>h.IsStrIter it "str_ascii_iterator" x t i) where
 mem:=by simp
 obj:=λi h st b G=>by
  have e:b=it:=by simpa using G
  subst e;obtain⟨o,e,c,d⟩:=st;exact⟨o,e,λv z=>by rw[d] at z;cases z⟩
 keep:=λi h h' st k=>by obtain⟨o,e,r⟩:=st;exact⟨o,k it (by simp) o e,r⟩
 item:=by intro X n u y hc i pins s Y H E I hf st N;subst n u y;have N:i<x.cps.size:=N;obtain⟨D,F,R,J,L,O⟩:=hf it (by simp);refine wpAny_pyNext_ascii_item st (c:=x.cps[i]) (by simp[N]) λh' V S=>?_;have g:Inv X pins Y H { s with heap:=h',toks:=s.toks+1 }:=I.turned (t':=s.toks+1) (λb o G e=>(S.2 b G).trans e) D F J L O;obtain⟨o,e,c,d⟩:=id V;exact⟨_,rfl,uh (s:={ s with heap:=h',toks:=s.toks+1 }) e c d (by decide) ⟨.str ⟨#[x.cps[i]]⟩,H,g,⟨_,rfl⟩,⟨rfl,_,by simp[N],rfl⟩,V,λb G=>(hf b G).1⟩⟩
 done:=by intro X n u y hc i pins s Y H E I hf st N;subst n u y;have N:x.cps.size<=i:=N;obtain⟨D,F,R,J,L,O⟩:=hf it (by simp);exact wpAny_pyNext_ascii_end (I.ok.hd hc) st (by simp;lia) λh' Z=>⟨rfl,I.turned (t':=s.toks) (λb o G e=>Z b o G e) D F J L O⟩
 self:=λ_ _ _ _ _ st h=>wpAny_pyIter_striter_ascii st h
theorem yr{K:So}(it:Addr)(x:Str)(t:Tok):Turn P w K tg (QK x) [it] it (λi h=>h.IsStrIter it "str_iterator" x t i) where
 mem:=by simp
 obj:=λi h st b G=>by
  have e:b=it:=by simpa using G
  subst e;obtain⟨o,e,c,d⟩:=st;exact⟨o,e,λv z=>by rw[d] at z;cases z⟩
 keep:=λi h h' st k=>by obtain⟨o,e,r⟩:=st;exact⟨o,k it (by simp) o e,r⟩
 item:=by intro X n u y hc i pins s Y H E I hf st N;subst n u y;have N:i<x.cps.size:=N;obtain⟨D,F,R,J,L,O⟩:=hf it (by simp);refine wpAny_pyNext_wide_item st (c:=x.cps[i]) (by simp[N]) λh' V S=>?_;have g:Inv X pins Y H { s with heap:=h',toks:=s.toks+1 }:=I.turned (t':=s.toks+1) (λb o G e=>(S.2 b G).trans e) D F J L O;obtain⟨o,e,c,d⟩:=id V;exact⟨_,rfl,uh (s:={ s with heap:=h',toks:=s.toks+1 }) e c d (by decide) ⟨.str ⟨#[x.cps[i]]⟩,H,g,⟨_,rfl⟩,⟨rfl,_,by simp[N],rfl⟩,V,λb G=>(hf b G).1⟩⟩
 done:=by intro X n u y hc i pins s Y H E I hf st N;subst n u y;have N:x.cps.size<=i:=N;obtain⟨D,F,R,J,L,O⟩:=hf it (by simp);exact wpAny_pyNext_wide_end (I.ok.hd hc) st (by simp;lia) λh' Z=>⟨rfl,I.turned (t':=s.toks) (λb o G e=>Z b o G e) D F J L O⟩
 self:=λ_ _ _ _ _ st h=>wpAny_pyIter_striter_wide st h
section
variable{X:Cx}{tg:Expr}
def OM(K:So)(b:TE):TI:=λY H R=>b Y H λx e=>(∃a,x=.ref a/\(((∃xs,gI K e a xs)/\R (QE K a) e)\/((∃xs,gK K e a xs)/\R (RJ K a) e)))\/∃t,x=.str t/\R (QK t) e
theorem Ec{l:Expr}{z:TE}(hl:PE X l z):PI X tg l (OM X.K z):=by
 intro pins s Y H R I h;refine bG (hl pins s Y H _ I h) λv s1 ⟨x,y,g,k,E⟩=>?_;rcases E with ⟨a,e,⟨⟨xs,j⟩,q⟩|⟨⟨xs,j⟩,q⟩⟩|⟨t,e,q⟩
 .subst e;cases k;obtain⟨its,C,p,hz⟩:=g.list j;refine wpAny_pyIter_list p.isList ?_;refine⟨s1.heap.objs.size,[s1.heap.objs.size],_,_,y,rfl,g.kept (t':=s1.toks) λb o e=>SA _ e,pQ a _,⟨_,S1 _ rfl,rfl,rfl⟩,λb d=>?_,q⟩;have e:b=s1.heap.objs.size:=by simpa using d
  subst e;exact g.An (SK _) (g.hok.fresh (SK _))
 .subst e;cases k;obtain⟨its,C,p,hz⟩:=g.tuple j;refine wpAny_pyIter_tuple (show s1.heap.IsTuple a its.toArray from p) ?_;refine⟨s1.heap.objs.size,[s1.heap.objs.size],_,_,y,rfl,g.kept (t':=s1.toks) λb o e=>SA _ e,vj a _,⟨_,S1 _ rfl,rfl,rfl⟩,λb d=>?_,q⟩;have e:b=s1.heap.objs.size:=by simpa using d
  subst e;exact g.An (SK _) (g.hok.fresh (SK _))
 .subst e;obtain⟨tk,rfl⟩:=k;have fin:∀b,b∈[s1.heap.objs.size]->oN X pins y b:=λb d=>by
   have e:b=s1.heap.objs.size:=by simpa using d
   subst e;exact g.An (SK _) (g.hok.fresh (SK _))
  cases ha:t.cps.all (·<128)
  .refine wpAny_pyIter_wide ha ?_;exact⟨s1.heap.objs.size,[s1.heap.objs.size],_,_,y,rfl,g.kept (t':=s1.toks) λb o e=>SA _ e,yr _ t tk,⟨_,S1 _ rfl,rfl,rfl⟩,fin,q⟩
  .refine wpAny_pyIter_ascii ha ?_;exact⟨s1.heap.objs.size,[s1.heap.objs.size],_,_,y,rfl,g.kept (t':=s1.toks) λb o e=>SA _ e,vL _ t tk,⟨_,S1 _ rfl,rfl,rfl⟩,fin,q⟩
def ME(K:So)(g:List Bool->Bool):List V->Hp->VK->Prop:=λxs H Q=>∃p ys bs,xs=[.ref p]/\gI K H p ys/\ys=bs.map V.bl/\Q (.bl (g bs)) H
theorem range_all{bs:List Bool}{tr:Nat->Bool}(h:∀i b,bs[i]?=some b->tr i=b):(T9 bs.length).all tr=bs.all id:=by
 have:(T9 bs.length).map tr=bs:=by
  apply UJ;intro i;rw[SV];by_cases hi:i<bs.length
  .rw[U3 hi,SU hi,Option.map_some,h i _ (SU hi)]
  .rw[Vx (by simpa using hi),Vx (by simpa using hi)];rfl
 calc (T9 bs.length).all tr=((T9 bs.length).map tr).all id:=by rw[V1];rfl
  _=bs.all id:=by rw[this]
theorem Cp(hc:X.calm=true):cx X (.builtin "all") (ME X.K λbs=>bs.all id):=by
 intro pins s Y H xs us Q I r h;obtain⟨p,ys,bs,rfl,j,rfl,q⟩:=h;obtain⟨u,rfl,n⟩:=vals1 r;cases n;obtain⟨its,r',pl,hz⟩:=I.list j;have y:=r'.length;refine call_all_walk (wpAny_pyIter_list pl.isList ?_);refine⟨s.heap.objs.size,_,_,_,_,_,(λi=>bs.getD i false),rfl,Walks.list (A:=X.A.in1) (I.ok.hd hc) _ p (by obtain⟨o,J,_⟩:=pl.isList;exact S4 (SS J)) its.toArray,⟨⟨_,S1 _ rfl,rfl,rfl⟩,pl.isList.at λo e=>SA _ e⟩,λi v s1 T t m a=>?_,λh' tk hk=>?_⟩
 .have c:its[i]?=some v:=by simpa using m
  cases Z:bs[i]? with
  |none=>have h1:=WD.mp Z;have h2:=(Sy.mp c).1;rw[Ss] at y;lia
  |some b=>
   obtain⟨u,f,V⟩:=r'.get (i:=i) (x:=.bl b) (by rw[SV,Z];rfl);rw[c] at f;cases f;cases V;have:bs.getD i false=b:=by rw[TL,Z];rfl
   replace a:T (bs.getD i false) s1:=a
   rw[this] at a;exact wpAny_pure a
 .have F:its.toArray.size=bs.length:=by simp at y ⊢;lia
  rw[F,range_all (bs:=bs) λi b e=>by show bs.getD i false=b;rw[TL,e];rfl];exact⟨.bl _,H,I.kept (t':=tk) λb o e=>hk b o (λz=>by have:=Sx.mp z;subst this;exact absurd (SS e) (TB _)) (SA _ e),rfl,q⟩
end
end L2
namespace W
variable{q:Int}
theorem iU(p:Int)(h:q<0):q<p.fmod q/\p.fmod q<=0:=by
 rw[Int.fmod_eq_emod];have h1:=XO p (show q≠0 by lia);have h2:=Int.emod_lt_of_neg p h;by_cases d:q ∣ p
 .rw[if_pos (Or.inr d),Int.emod_eq_zero_of_dvd d];lia
 .rw[if_neg (by intro z;rcases z with z|z;lia;exact d z)];have h3:p%q≠0:=λz=>d (Int.dvd_of_emod_eq_zero z);lia
theorem tL(p:Int)(h:q≠0):(p.fmod q).natAbs<q.natAbs:=by
 rcases VY h with z|z
 .have:=iU p z;lia
 .have h1:=VZ p z;have h2:=UQ p z;lia
theorem oH(p q:Int):Tn q (p.fmod q)=Tn p q:=by
 have h:p.fmod q=p-p.fdiv q*q:=by rw[Int.fmod_def,Wb]
 rw[h,Int.gcd_sub_mul_right_right,W5]
noncomputable def cd(x y:Int):Int:=if y<0 then -(Tn x y:Int) else (Tn x y:Int)
variable{p:Int}
theorem El(h:q≠0)(z:p.fmod q=0):q=cd p q:=by have e:=oH p q;rw[z,Xq] at e;unfold cd;rw[<-e];split<;>lia
theorem Gz(h:q≠0)(z:p.fmod q≠0):cd q (p.fmod q)=cd p q:=by
 unfold cd;rw[oH];rcases VY h with g|g
 .have:=iU p g;rw[if_pos (by lia),if_pos g]
 .have h2:=UQ p g;rw[if_neg (by lia),if_neg (by lia)]
theorem sy(x y:Int):cd x y ∣ x:=by
 unfold cd;split
 .exact(Yv).mpr (We x y)
 .exact We x y
theorem rH(x y:Int):cd x y ∣ y:=by
 unfold cd;split
 .exact(Yv).mpr (Ve x y)
 .exact Ve x y
theorem wF{x y:Int}(h:y≠0):cd x y≠0:=by have:=Uo x h;unfold cd;split<;>lia
theorem BN(x y:Int):(cd x y).natAbs=Tn x y:=by unfold cd;split<;>lia
theorem NF{x y:Int}(h:y≠0):(cd x y).natAbs<=y.natAbs:=by rw[BN];have h1:Tn x y ∣ y.natAbs:=Int.natCast_dvd_natCast.mp (Int.dvd_natAbs.mpr (Ve x y));exact Nat.le_of_dvd (by lia) h1
noncomputable abbrev Num:=Int×Int
def jK(t b:Int):Num:=(t.fdiv (cd t b),b.fdiv (cd t b))
noncomputable def KA(t b:Int):Num:=if b<0 then ((-t).fdiv (Tn (-t) (-b)),(-b).fdiv (Tn (-t) (-b))) else (t.fdiv (Tn t b),b.fdiv (Tn t b))
theorem kM{t g:Int}(N:g≠0)(d:g ∣ t):(-t).fdiv g=t.fdiv (-g):=by
 obtain⟨k,rfl⟩:=d;have F:-(g*k)=g*(-k):=by rw[Int.mul_neg]
 have j:g*k=(-g)*(-k):=by rw[Int.neg_mul_neg]
 rw[F,UA _ N,j,UA _ (by lia)]
variable{b:Int}
theorem DC{t:Int}(h:b≠0):KA t b=jK t b:=by
 unfold KA jK cd;by_cases z:b<0
 .rw[if_pos z,if_pos z,Int.gcd_neg,Yw];have Y:=Uo t h;rw[kM (by lia) (We t b),kM (by lia) (Ve t b)]
 .rw[if_neg z,if_neg z]
open L2
def Ok(q:Num):Prop:=0<q.2/\Tn q.1 q.2=1
theorem mM{t:Int}(h:b≠0):cd t b*(jK t b).1=t/\cd t b*(jK t b).2=b:=by
 have h0:=wF (x:=t) h;obtain⟨k,hk⟩:=sy t b;obtain⟨m,hm⟩:=rH t b;have F:t.fdiv (cd t b)=k:=by have:=UA k h0;rwa[<-hk] at this
 have j:b.fdiv (cd t b)=m:=by have:=UA m h0;rwa[<-hm] at this
 exact⟨by show cd t b*t.fdiv (cd t b)=t;rw[F];exact hk.symm,by show cd t b*b.fdiv (cd t b)=b;rw[j];exact hm.symm⟩
theorem Fq{t:Int}(h:b≠0):(0<b->0<cd t b)/\(b<0->cd t b<0):=by
 have:=Uo t h;unfold cd;constructor
 .intro z;rw[if_neg (by lia)];lia
 .intro z;rw[if_pos z];lia
theorem xy{t:Int}(h:b≠0):0<(jK t b).2:=by
 obtain⟨_,e⟩:=mM (t:=t) h;obtain⟨s1,s2⟩:=Fq (t:=t) h;rcases VY h with z|z
 .have c:=s2 z;rcases Yl 0 (jK t b).2 with q|q
  .exact q
  .have:=Int.mul_nonneg_of_nonpos_of_nonpos (Ym c) q;lia
 .have c:=s1 z;rcases Yl 0 (jK t b).2 with q|q
  .exact q
  .have:=Int.mul_nonpos_of_nonneg_of_nonpos (Ym c) q;lia
theorem Bs{t:Int}(h:b≠0):Ok (jK t b):=by
 refine⟨xy h,?_⟩;obtain⟨F,j⟩:=mM (t:=t) h;have g:Tn (cd t b*(jK t b).1) (cd t b*(jK t b).2)=(cd t b).natAbs*Tn (jK t b).1 (jK t b).2:=Int.gcd_mul_left _ _ _;rw[F,j,BN] at g;have p:=Uo t h;have:Tn t b*1=Tn t b*Tn (jK t b).1 (jK t b).2:=by rw[Xf];exact g
 exact(Nat.eq_of_mul_eq_mul_left p this).symm
theorem Ok.neg{q:Num}(h:Ok q):Ok (-q.1,q.2):=⟨h.1,by show Tn (-q.1) q.2=1;rw[Yw];exact h.2⟩
variable{c:Int}
theorem oq{x:Int}(h:c≠0):x.natAbs<=(c*x).natAbs:=by rw[WC];exact Nat.le_mul_of_pos_left _ (by lia)
theorem z3{t:Int}{m n:Nat}(h:b≠0)(h1:Bd m t)(h2:Bd n b):Bd m (jK t b).1/\Bd n (jK t b).2:=by obtain⟨F,j⟩:=mM (t:=t) h;have v:=oq (x:=(jK t b).1) (wF (x:=t) h);have E:=oq (x:=(jK t b).2) (wF (x:=t) h);rw[F] at v;rw[j] at E;exact⟨UE v h1,UE E h2⟩
structure NB(n:Nat)(q:Num):Prop where
 ok:Ok q
 b1:Bd n q.1
 b2:Bd n q.2
theorem NB.mono{m n:Nat}{q:Num}(h:NB m q)(k:m<=n):NB n q:=⟨h.ok,h.b1.mono k,h.b2.mono k⟩
theorem NB.nz{n:Nat}{q:Num}(h:NB n q):q.2≠0:=by have:=h.ok.1;lia
theorem NB.jK{t b:Int}{n:Nat}(h:b≠0)(h1:Bd n t)(h2:Bd n b):NB n (jK t b):=⟨Bs h,(z3 h h1 h2).1,(z3 h h1 h2).2⟩
def bX(x y:Num):Num:=jK (x.1*y.2+y.1*x.2) (x.2*y.2)
theorem NB.neg{n:Nat}{y:Num}(h:NB n y):NB n (-y.1,y.2):=⟨h.ok.neg,h.b1.neg,h.b2⟩
theorem NB.zero{n:Nat}:NB (n+1) (0,1):=⟨⟨by decide,by decide⟩,SH (by decide) (TJ (by decide) (XQ 1 n)),SH (by decide:1<2^1) (TJ (by decide) (XQ 1 n))⟩
noncomputable def nv(x:Num):Rat:=WE x.1 x.2
theorem LK{t:Int}(h:b≠0):nv (jK t b)=WE t b:=by obtain⟨F,j⟩:=mM (t:=t) h;have p:=xy (t:=t) h;unfold nv;rw[WS (by lia) h];generalize (jK t b).1=k at F ⊢;generalize (jK t b).2=m at j p ⊢;rw[<-F];rw[show k*b=k*(cd t b*m) from by rw[j]];rw[Int.mul_left_comm,Int.mul_assoc]
variable{x y:Num}
theorem n4(h:Ok x)(k:Ok y):nv (bX x y)=nv x+nv y:=by have h1:=h.1; have w:=k.1;unfold bX;rw [LK (Vy (by lia) (by lia))];exact (Rat.divInt_add_divInt _ _ (by lia) (by lia)).symm
theorem vC  (h:Ok x) (k:Ok y):Ok (bX x y):=Bs (Vy (by have:=h.1; lia) (by have:=k.1; lia))
theorem MB {a:Int} (h:a ∣ b * c) (g:Tn a b = 1):a ∣ c:=by
 have h1:a.natAbs ∣ b.natAbs * c.natAbs:=by rw [← WC]; exact W9.mpr h
 exact W9.mp (Y0 (show Nat.Coprime a.natAbs b.natAbs from g) h1)
theorem lW  (h:Ok x) (k:Ok y) (e:nv x = nv y):x = y:=by have h1:=h.1; have w:=k.1;unfold nv at e;rw [WS (by lia) (by lia)] at e;have S:x.2 ∣ y.2:=MB (show x.2 ∣ x.1 * y.2 from ⟨y.1,by rw [e,Wb]⟩) (by rw [W5]; exact h.2);have T:y.2 ∣ x.2:=MB (show y.2 ∣ y.1 * x.2 from ⟨x.1,by rw [← e,Wb]⟩) (by rw [W5]; exact k.2);have j:x.2 = y.2:=Int.dvd_antisymm (by lia) (by lia) S T;rw [j] at e;have F:x.1 = y.1:=Int.eq_of_mul_eq_mul_right (by lia) e;exact Wu F j
theorem Na  (h:Ok x) (k:Ok y):x.1 * y.2 < y.1 * x.2 ↔ nv x < nv y:=by
 have h1:=h.1; have w:=k.1;have A:(x.2:Rat)≠0:=by intro z;have:=XR.mp (show ((x.2:Int):Rat)=((0:Int):Rat) from z);lia
 have T:(y.2:Rat)≠0:=by intro z;have:=XR.mp (show ((y.2:Int):Rat)=((0:Int):Rat) from z);lia
 have ex:nv x*(x.2:Rat)=x.1:=by unfold nv;rw[Xw];grind
 have r:nv y*(y.2:Rat)=y.1:=by unfold nv;rw[Xw];grind
 have H:(0:Rat)<(x.2:Rat):=by have:=Vw.mpr h1;simpa using this
 have I:(0:Rat)<(y.2:Rat):=by have:=Vw.mpr w;simpa using this
 have X:(0:Rat)<(x.2:Rat)*(y.2:Rat):=Rat.mul_pos H I;rw[<-Vw,XT,XT,<-ex,<-r];rw[show nv x*(x.2:Rat)*(y.2:Rat)=nv x*((x.2:Rat)*(y.2:Rat)) by grind,show nv y*(y.2:Rat)*(x.2:Rat)=nv y*((x.2:Rat)*(y.2:Rat)) by grind];exact Rat.mul_lt_mul_right X
theorem ji:nv (0,1)=0:=by decide +kernel
theorem gM:Ok (0,1):=⟨by decide,by decide⟩
section
variable{x y z:Num}(hx:Ok x)(hy:Ok y)(hz:Ok z)
noncomputable def De(x y:Num):Bool:=decide (x.1*y.2<y.1*x.2)
include hx hy in
theorem wW:De x y=true↔nv x<nv y:=by unfold De;rw[decide_eq_true_eq];exact Na hx hy
include hx hy hz in
end
end W
set_option maxHeartbeats 1000000
namespace W
open L2 PySem
theorem NB.IY{m n:Nat}{x y:Num}(h:NB m x)(k:NB n y):NB (m+n+1) (bX x y):=
 .jK (Vy h.nz k.nz) (((h.b1.mul k.b2).add ((k.b1.mul h.b2).mono (n:=m+n) (by lia))).mono (by lia)) ((h.b2.mul k.b2).mono (by lia))
abbrev Pr:=Str×Num
def cc(ps:List Pr)(n:Str):Num:=ps.foldl (λacc p=>if p.1=n then bX acc p.2 else acc) (0,1)
noncomputable def cnt(ps:List Pr)(n:Str):Nat:=ps.countP (λp=>decide (p.1=n))
theorem fA(ps:List Pr)(p:Pr)(n:Str):cc (ps++[p]) n=if p.1=n then bX (cc ps n) p.2 else cc ps n:=by unfold cc;rw[List.foldl_append];rfl
theorem snoc_ind{α:Type}{M:List α->Prop}(h0:M [])(h1:∀l a,M l->M (l++[a])):∀l,M l:=by
 intro l;rw[<-List.reverse_reverse l];induction l.reverse with
 |nil=>exact h0
 |cons a r s=>rw[UK];exact h1 _ _ s
variable{ps:List Pr}
theorem vG{b:Nat}(h:∀p∈ps,NB b p.2)(n:Str):NB ((b+1)*cnt ps n+1) (cc ps n):=by
  revert n h;revert ps;intro ps;refine snoc_ind (M:=λps:List Pr=>(∀p∈ps,NB b p.2)->∀n,NB ((b+1)*cnt ps n+1) (cc ps n)) ?_ ?_ ps
  all_goals clear ps
  case refine_1=>exact λ_ n=>NB.zero (n:=0)
  case refine_2=>
   intro l a s h n;have X:=s (λp hp=>h p (Sv _ hp)) n;have I:=h a (by simp);rw[fA];have e:cnt (l++[a]) n=cnt l n+(if a.1=n then 1 else 0):=by unfold cnt;rw[Xk];simp[Xx]
   rw[e];by_cases c:a.1=n
   · rw[if_pos c,if_pos c]
     refine(X.IY I).mono ?_
     rw[Nat.mul_add,Xf];lia
   · rw[if_neg c,if_neg c]
     exact X
theorem hG(h:∀p∈ps,Ok p.2)(n:Str):Ok (cc ps n):=by
 revert h;refine snoc_ind (M:=λps:List Pr=>(∀p∈ps,Ok p.2)->Ok (cc ps n)) (λ_=>gM) (λl a s h=>?_) ps;rw[fA];have X:=s (λp hp=>h p (Sv _ hp));by_cases c:a.1=n
 .rw[if_pos c];exact vC X (h a (by simp))
 .rw[if_neg c];exact X
def fR:List Pr->Str->Rat
 |[],_=>0
 |p::r,n=>(if p.1=n then nv p.2 else 0)+fR r n
theorem dS(ps qs:List Pr)(n:Str):fR (ps++qs) n=fR ps n+fR qs n:=by
 induction ps with
 |nil=>show fR qs n=0+fR qs n;grind
 |cons p r l=>show (if p.1=n then nv p.2 else 0)+fR (r++qs) n=(if p.1=n then nv p.2 else 0)+fR r n+fR qs n;rw[l];grind
theorem gS(h:∀p∈ps,Ok p.2)(n:Str):nv (cc ps n)=fR ps n:=by
 revert h;refine snoc_ind (M:=λps:List Pr=>(∀p∈ps,Ok p.2)->nv (cc ps n)=fR ps n) (λ_=>?_) (λl a s h=>?_) ps
 .exact ji
 .have X:=s (λp hp=>h p (Sv _ hp));have Y:=hG (λp hp=>h p (Sv _ hp)) n;rw[fA,dS,<-X];show _=nv (cc l n)+((if a.1=n then nv a.2 else 0)+0);by_cases c:a.1=n
  .rw[if_pos c,if_pos c,n4 Y (h a (by simp))];grind
  .rw[if_neg c,if_neg c];grind
def um(a b:Str):Prop:=¬ b.cps.toList<a.cps.toList/\a≠b
variable{b:Str}
theorem qR{a:Str}(h:¬ b.cps.toList<a.cps.toList)(k:¬ a.cps.toList<b.cps.toList):a=b:=by have e:a.cps.toList=b.cps.toList:=Xy (Wf.mp h) (Wf.mp k);obtain⟨⟨x⟩⟩:=a;obtain⟨⟨y⟩⟩:=b;have e:x=y:=e;rw[e]
theorem um.asymm{a:Str}(h:um a b)(k:um b a):False:=h.2 (qR h.1 k.1)
theorem qJ{α:Type}{f:α->Str}:∀{l m:List α},l.Pairwise (λa b=>um (f a) (f b))->m.Pairwise (λa b=>um (f a) (f b))->(∀a,a∈l↔a∈m)->l=m
 |[],m,_,_,h=>by
  cases m with
  |nil=>rfl
  |cons b m=>exact absurd ((h b).mpr (by simp)) (by simp)
 |a::l,[],_,_,h=>absurd ((h a).mp (by simp)) (by simp)
 |a::l,b::m,hl,hm,h=>by
  rw[UC] at hl hm;have o:a=b:=by
   rcases SO.mp ((h a).mp (by simp)) with e|e
   .exact e
   .rcases SO.mp ((h b).mpr (by simp)) with t|t
    .exact t.symm
    .exact(um.asymm (hm.1 a e) (hl.1 b t)).elim
  subst o;rw[qJ hl.2 hm.2 λc=>⟨λhc=>?_,λhc=>?_⟩]
  .rcases SO.mp ((h c).mp (SE _ hc)) with e|e
   .subst e;exact((hl.1 c hc).2 rfl).elim
   .exact e
  .rcases SO.mp ((h c).mpr (SE _ hc)) with e|e
   .subst e;exact((hm.1 c hc).2 rfl).elim
   .exact e
structure Canon(ps L:List Pr):Prop where
 rise:L.Pairwise (λa b=>um a.1 b.1)
 mem:∀p:Pr,p∈L↔(p.2=cc ps p.1/\p.2≠(0,1))
variable{L:List Pr}
theorem Canon.eq{M:List Pr}(h:Canon ps L)(k:Canon ps M):L=M:=qJ h.rise k.rise λp=>by rw[h.mem,k.mem]
theorem lu:∀{L:List Pr},L.Pairwise (λa b=>um a.1 b.1)->(∀p∈L,fR L p.1=nv p.2)/\∀n,(∀p∈L,p.1≠n)->fR L n=0
 |[],_=>⟨λp hp=>(by cases hp),λn _=>rfl⟩
 |q::L,h=>by
  rw[UC] at h;obtain⟨X,I⟩:=lu h.2;refine⟨λp hp=>?_,λn hn=>?_⟩
  .rcases SO.mp hp with e|e
   .subst e;show (if p.1=p.1 then nv p.2 else 0)+fR L p.1=nv p.2;rw[if_pos rfl,I p.1 λr y z=>(h.1 r y).2 z.symm]
    grind
   .show (if q.1=p.1 then nv q.2 else 0)+fR L p.1=nv p.2;rw[if_neg (h.1 p e).2,X p e]
    grind
  .show (if q.1=n then nv q.2 else 0)+fR L n=0;rw[if_neg (hn q (by simp)),I n λp hp=>hn p (SE _ hp)]
   grind
theorem fG(h:L.Pairwise (λa b=>um a.1 b.1))(n:Str):cnt L n<=1:=by
 induction L with
 |nil=>exact TM _
 |cons q L l=>
  rw[UC] at h;unfold cnt;rw[Xx];by_cases c:q.1=n
  .have:L.countP (λp=>decide (p.1=n))=0:=List.countP_eq_zero.mpr λp hp=>by have:=(h.1 p hp).2;simp only[decide_eq_true_eq];exact λz=>this (c.trans z.symm)
   rw[this];simp[c]
  .have:=l h.2;unfold cnt at this;simp[c];exact this
end W
namespace M
open PySem L2
inductive A where
 |non|bl(b:Bool)|int(i:Int)|str(x:Str)|tup(xs:List A)|lst(xs:List A)|dic(kvs:List (Key×A))|exc(c:Str)|obj(c:Str)(fs:List (Str×A))|opq
structure Kx where
 K:So
 mg:Str->Option Value
 P:Program
 w:World
mutual
inductive RA(k:Kx)(G:Hp):V->A->Prop
 |non:RA k G .non .non
 |bl(b:Bool):RA k G (.bl b) (.bl b)
 |int(i:Int):RA k G (.int i) (.int i)
 |str(x:Str):RA k G (.str x) (.str x)
 |tup{p:Addr}{vs:List V}{as:List A}(e:gK k.K G p vs)(r:bR k G vs as):RA k G (.ref p) (.tup as)
 |lst{p:Addr}{vs:List V}{as:List A}(e:gI k.K G p vs)(r:bR k G vs as):RA k G (.ref p) (.lst as)
 |dic{p:Addr}{vs:List (Key×V)}{as:List (Key×A)}(e:Rd G p (.dK vs))(r:fM k G vs as):RA k G (.ref p) (.dic as)
 |exc{p C:Addr}{c:Str}(e:G p=some (IF p C))(m:k.mg c=some (.ref C)):RA k G (.ref p) (.exc c)
 |obj{p C dx:Addr}{c:Str}{vs:List (Str×V)}{fs:List (Str×A)}(e:G p=some (.ins C dx vs))(m:k.mg c=some (.ref C))(r:jn k G vs fs):RA k G (.ref p) (.obj c fs)
 |opq{p:Addr}:RA k G (.ref p) .opq
inductive bR(k:Kx)(G:Hp):List V->List A->Prop
 |nil:bR k G [] []
 |cons{v:V}{a:A}{vs:List V}{as:List A}(h:RA k G v a)(r:bR k G vs as):bR k G (v::vs) (a::as)
inductive jn(k:Kx)(G:Hp):List (Str×V)->List (Str×A)->Prop
 |nil:jn k G [] []
 |cons{y:Str}{v:V}{a:A}{vs:List (Str×V)}{as:List (Str×A)}(h:RA k G v a)(r:jn k G vs as):jn k G ((y,v)::vs) ((y,a)::as)
inductive Hu(k:Kx)(G:Hp):List (List Key×Addr×V)->List (List Key×A)->Prop
 |nil:Hu k G [] []
 |cons{y:List Key}{b:Addr}{v:V}{a:A}{vs:List (List Key×Addr×V)}{as:List (List Key×A)}(e:gK k.K G b (y.map kV))(h:RA k G v a)(r:Hu k G vs as):Hu k G ((y,b,v)::vs) ((y,a)::as)
inductive fM(k:Kx)(G:Hp):List (Key×V)->List (Key×A)->Prop
 |nil:fM k G [] []
 |cons{y:Key}{v:V}{a:A}{vs:List (Key×V)}{as:List (Key×A)}(h:RA k G v a)(r:fM k G vs as):fM k G ((y,v)::vs) ((y,a)::as)
end
noncomputable def xU:HO->Option (List (Key×V))
 | .dK kvs=>some kvs
 | .frz _ (.dK kvs)=>some kvs
 |_=>none
def Oq(o o':HO):Prop:=o'=o\/∃kvs,xU o=some kvs/\xU o'=some kvs
variable{G:Hp}{kvs:List (Key×V)}
theorem gv{b:Addr}{o:HO}(h:G b=some o)(e:xU o=some kvs):Rd G b (.dK kvs):=by
 unfold xU at e;split at e
 .cases e;exact .inl h
 .cases e;exact .inr ⟨_,h⟩
 .cases e
theorem NT{b:Addr}(h:Rd G b (.dK kvs)):∃o,G b=some o/\xU o=some kvs:=by
 rcases h with h|⟨o,h⟩
 .exact⟨_,h,rfl⟩
 .exact⟨_,h,rfl⟩
def Sq(G G':Hp):Prop:=∀b o,G b=some o->∃o',G' b=some o'/\Oq o o'
variable{G':Hp}
theorem Sq.of(h:Q6 G G'):Sq G G':=λb o e=>⟨o,h b o e,.inl rfl⟩
theorem Sq.refl(G:Hp):Sq G G:=λb o e=>⟨o,e,.inl rfl⟩
theorem Sq.keep(h:Sq G G'){b:Addr}{o:HO}(e:G b=some o)(n:xU o=none):G' b=some o:=by
 obtain⟨o',h1,h2⟩:=h b o e;rcases h2 with rfl|⟨kvs,h3,_⟩
 .exact h1
 .rw[n] at h3;cases h3
theorem Sq.Rq(h:Sq G G'){b:Addr}(r:Rd G b (.dK kvs)):Rd G' b (.dK kvs):=by
 obtain⟨o,e,d⟩:=NT r;obtain⟨o',h1,h2⟩:=h b o e;rcases h2 with rfl|⟨q,h3,h4⟩
 .exact gv h1 d
 .rw[d] at h3;cases h3;exact gv h1 h4
variable{p:Addr}{vs:List V}
theorem dt{K:So}(h:Sq G G')(q:gK K G p vs):gK K G' p vs:=q.imp (λr=>by
 rcases r with r|⟨o,r⟩
 .exact .inl (h.keep r rfl)
 .exact .inr ⟨o,h.keep r rfl⟩) id
theorem nZ{K:So}(h:Sq G G')(q:gI K G p vs):gI K G' p vs:=q.imp (λr=>by
 rcases r with r|⟨o,r⟩
 .exact .inl (h.keep r rfl)
 .exact .inr ⟨o,h.keep r rfl⟩) id
variable{v:V}
section
variable{k:Kx}{G G':Hp}
mutual
theorem RA.sm(s:Sq G G'):∀{v:V}{a:A},RA k G v a->RA k G' v a
 |_,_,.non=>.non
 |_,_,.bl b=>.bl b
 |_,_,.int i=>.int i
 |_,_,.str x=>.str x
 |_,_,.tup e r=>.tup (dt s e) (bR.sm s r)
 |_,_,.lst e r=>.lst (nZ s e) (bR.sm s r)
 |_,_,.dic e r=>.dic (s.Rq e) (fM.sm s r)
 |_,_,.exc e m=>.exc (s.keep e rfl) m
 |_,_,.obj e m r=>.obj (s.keep e rfl) m (jn.sm s r)
 |_,_,.opq=>.opq
theorem jn.sm(s:Sq G G'):∀{vs:List (Str×V)}{as:List (Str×A)},jn k G vs as->jn k G' vs as
 |_,_,.nil=>.nil
 |_,_,.cons h r=>.cons (RA.sm s h) (jn.sm s r)
theorem bR.sm(s:Sq G G'):∀{vs:List V}{as:List A},bR k G vs as->bR k G' vs as
 |_,_,.nil=>.nil
 |_,_,.cons h r=>.cons (RA.sm s h) (bR.sm s r)
theorem Hu.sm(s:Sq G G'):∀{vs:List (List Key×Addr×V)}{as:List (List Key×A)},Hu k G vs as->Hu k G' vs as
 |_,_,.nil=>.nil
 |_,_,.cons e h r=>.cons (dt s e) (RA.sm s h) (Hu.sm s r)
theorem fM.sm(s:Sq G G'):∀{vs:List (Key×V)}{as:List (Key×A)},fM k G vs as->fM k G' vs as
 |_,_,.nil=>.nil
 |_,_,.cons h r=>.cons (RA.sm s h) (fM.sm s r)
end
theorem bR.len:∀{vs:List V}{as:List A},bR k G vs as->vs.length=as.length
 |_,_,.nil=>rfl
 |_,_,.cons _ r=>by rw[SF,SF,r.len]
theorem bR.ta:∀{vs:List V}{as:List A}{i:Nat}{a:A},bR k G vs as->as[i]?=some a->∃v,vs[i]?=some v/\RA k G v a
 |_,_,_,_,.nil,e=>by simp at e
 |_,_,0,_,.cons h _,e=>by cases e;exact⟨_,rfl,h⟩
 |_,_,i+1,_,.cons _ r,e=>r.ta (i:=i) e
theorem bR.app:∀{vs us:List V}{as bs:List A},bR k G vs as->bR k G us bs->bR k G (vs++us) (as++bs)
 |_,_,_,_,.nil,s=>s
 |_,_,_,_,.cons h r,s=>.cons h (r.app s)
theorem bR.snoc{as:List A}{a:A}(r:bR k G vs as)(h:RA k G v a):bR k G (vs++[v]) (as++[a]):=r.app (.cons h .nil)
theorem bR.rev:∀{vs:List V}{as:List A},bR k G vs as->bR k G vs.reverse as.reverse
 |_,_,.nil=>.nil
 |_,_,.cons h r=>by rw[UK,UK];exact r.rev.snoc h
theorem bR.take:∀{vs:List V}{as:List A}(n:Nat),bR k G vs as->bR k G (vs.take n) (as.take n)
 |_,_,0,_=>.nil
 |_,_,_+1,.nil=>.nil
 |_,_,n+1,.cons h r=>.cons h (r.take n)
theorem bR.drop:∀{vs:List V}{as:List A}(n:Nat),bR k G vs as->bR k G (vs.drop n) (as.drop n)
 |_,_,0,r=>r
 |_,_,_+1,.nil=>.nil
 |_,_,n+1,.cons _ r=>r.drop n
theorem bR.set{v:V}{a:A}(h:RA k G v a):∀{vs:List V}{as:List A}(i:Nat),bR k G vs as->bR k G (vs.set i v) (as.set i a)
 |_,_,_,.nil=>.nil
 |_,_,0,.cons _ r=>.cons h r
 |_,_,i+1,.cons q r=>.cons q (r.set h i)
theorem bR.strs:∀{vs:List V}{ss:List Str},bR k G vs (ss.map A.str)->vs=ss.map V.str
 |_,[],.nil=>rfl
 |_,_::ss,.cons h r=>by cases h;rw[r.strs (ss:=ss)];rfl
theorem bR.ofStrs:∀(ss:List Str),bR k G (ss.map V.str) (ss.map A.str)
 |[]=>.nil
 |s::ss=>.cons (.str s) (bR.ofStrs ss)
theorem jn.len:∀{vs:List (Str×V)}{as:List (Str×A)},jn k G vs as->vs.length=as.length
 |_,_,.nil=>rfl
 |_,_,.cons _ r=>by rw[SF,SF,r.len]
theorem jn.get:∀{vs:List (Str×V)}{as:List (Str×A)}(y:Str),jn k G vs as->(∃v a,vs.lookup y=some v/\as.lookup y=some a/\RA k G v a)\/(vs.lookup y=none/\as.lookup y=none)
 |_,_,y,.nil=>.inr ⟨rfl,rfl⟩
 |_,_,y,.cons (y:=z) (v:=v) (a:=a) h r=>by
  rw[SX,SX];cases c:y==z with
  |true=>exact .inl ⟨v,a,rfl,rfl,h⟩
  |false=>exact r.get y
def pC(f:Str)(a:A):List (Str×A)->List (Str×A)
 |[]=>[(f,a)]
 |(g,b)::fs=>if g=f then (g,a)::fs else (g,b)::pC f a fs
theorem jn.put{f:Str}{v:V}{a:A}(h:RA k G v a):∀{vs:List (Str×V)}{as:List (Str×A)},jn k G vs as->jn k G (f6 f v vs) (pC f a as)
 |_,_,.nil=>.cons h .nil
 |_,_,.cons (y:=z) q r=>by
  unfold f6 pC;split
  .exact .cons h r
  .exact .cons q (jn.put h r)
noncomputable def gy{α:Type}(as:List (Key×α))(y:Key):Option α:=(as.find? λH=>decide (H.1=y)).map (·.2)
noncomputable def iQ{α:Type}(as:List (Key×α))(y:Key)(a:α):List (Key×α):=
 if (as.any λH=>decide (H.1=y))=true then as.map λH=>if H.1=y then (H.1,a) else H else as++[(y,a)]
theorem fM.len:∀{vs:List (Key×V)}{as:List (Key×A)},fM k G vs as->vs.length=as.length
 |_,_,.nil=>rfl
 |_,_,.cons _ r=>by rw[SF,SF,r.len]
theorem fM.keys:∀{vs:List (Key×V)}{as:List (Key×A)},fM k G vs as->vs.map (·.1)=as.map (·.1)
 |_,_,.nil=>rfl
 |_,_,.cons _ r=>by rw[SR,SR,r.keys]
theorem fM.app:∀{vs us:List (Key×V)}{as bs:List (Key×A)},fM k G vs as->fM k G us bs->fM k G (vs++us) (as++bs)
 |_,_,_,_,.nil,s=>s
 |_,_,_,_,.cons h r,s=>.cons h (r.app s)
theorem fM.get:∀{vs:List (Key×V)}{as:List (Key×A)}(y:Key),fM k G vs as->(∃v a,jY vs y=some v/\gy as y=some a/\RA k G v a)\/(jY vs y=none/\gy as y=none)
 |_,_,y,.nil=>.inr ⟨rfl,rfl⟩
 |_,_,y,.cons (y:=z) (v:=v) (a:=a) (vs:=vs) (as:=as) h r=>by
  unfold jY gy;by_cases c:z=y
  .left;exact⟨v,a,by simp[Ts,c],by simp[Ts,c],h⟩
  .have:=fM.get y r;unfold jY gy at this;simpa[Ts,c] using this
theorem fM.any:∀{vs:List (Key×V)}{as:List (Key×A)}(y:Key),fM k G vs as->(vs.any λH=>decide (H.1=y))=(as.any λH=>decide (H.1=y))
 |_,_,y,.nil=>rfl
 |_,_,y,.cons h r=>by rw[Um,Um,fM.any y r]
theorem fM.vB{v:V}{a:A}(y:Key)(h:RA k G v a):∀{vs:List (Key×V)}{as:List (Key×A)},fM k G vs as->fM k G (vs.map λH=>if H.1=y then (H.1,v) else H) (as.map λH=>if H.1=y then (H.1,a) else H)
 |_,_,.nil=>.nil
 |_,_,.cons (y:=z) q r=>by
  rw[SR,SR];by_cases c:z=y
  .simp only[c,if_true];exact .cons h (fM.vB y h r)
  .simp only[c,if_false];exact .cons q (fM.vB y h r)
theorem fM.put{vs:List (Key×V)}{as:List (Key×A)}{a:A}(y:Key)(r:fM k G vs as)(h:RA k G v a):fM k G (putK vs y v) (iQ as y a):=by
 unfold putK iQ;rw[r.any y];split
 .exact fM.vB y h r
 .exact r.app (.cons h .nil)
end
noncomputable def cut(H:Hp)(L:List Addr):Hp:=λa=>if a∈L then none else H a
variable{H:Hp}{L:List Addr}
theorem CB{a:Addr}(h:a∈L):cut H L a=none:=if_pos h
theorem rN{a:Addr}(h:a∉L):cut H L a=H a:=if_neg h
theorem Bz(H:Hp)(L:List Addr):Sq (cut H L) H:=Sq.of λb o e=>by
 unfold cut at e;split at e
 .cases e
 .exact e
variable{L':List Addr}
theorem AX(h:∀a,a∈L'->a∈L):Sq (cut H L) (cut H L'):=Sq.of λb o e=>by
 by_cases c:b∈L
 .rw[CB c] at e;cases e
 .rw[rN c] at e;rw[rN λz=>c (h b z)];exact e
def Si:List (List Key×Addr×V)->List (List Key×Addr×Value)->Prop:=Paired λx y=>x.1=y.1/\x.2.1=y.2.1/\RelV x.2.2 y.2.2
def dX(P:Program)(w:World)(p:Addr)(xs:List (List Key×Addr×V)):HO:=.ext λh=>xs.length<=sizeLine/\(p==sysModules)=false/\∃ys,Si xs ys /\
 ∃o es ep,h.get? p=some o/\o.ExactDict/\o.data=.dict es ep/\es.toList=ys.map (entryOfKey (tupleKind (aX P w)))/\(ys.map (·.1)).Nodup
inductive LO where
 |lst(xs:List A)|dic(kvs:List (Key×A))|obj(c:Str)(fs:List (Str×A))|dit(kvs:List (List Key×A))|nob(c:Str)(fs:List (Str×A))(ls:List (Str×List A))
def LO.a:LO->A
 | .lst xs=>.lst xs
 | .dic kvs=>.dic kvs
 | .obj c fs=>.obj c fs
 | .dit _=>.opq
 | .nob c fs ls=>.obj c (fs++ls.map λp=>(p.1,.lst p.2))
def LO.rd:LO->Option A
 | .lst xs=>some (.lst xs)
 | .dic kvs=>some (.dic kvs)
 | .obj c fs=>some (.obj c fs)
 | .dit _=>some .opq
 | .nob _ _ _=>none
inductive Sl where
 |un|fr(a:A)|lv(o:LO)|pv(o:LO)
inductive lB(k:Kx)(G H:Hp):List (Str×V)->List (Str×List A)->List Addr->Prop
 |nil:lB k G H [] [] []
 |cons{y:Str}{a:Addr}{us:List V}{xs:List A}{ws:List (Str×V)}{ls:List (Str×List A)}{q:List Addr}(e:H a=some (.lst us))(r:bR k G us xs)(t:lB k G H ws ls q):lB k G H ((y,.ref a)::ws) ((y,xs)::ls) (a::q)
inductive LR(k:Kx)(G H:Hp)(p:Addr):LO->List Addr->Prop
 |lst{vs:List V}{as:List A}(e:H p=some (.lst vs))(r:bR k G vs as):LR k G H p (.lst as) []
 |dic{vs:List (Key×V)}{as:List (Key×A)}(e:H p=some (.dK vs))(r:fM k G vs as):LR k G H p (.dic as) []
 |obj{C dx:Addr}{c:Str}{vs:List (Str×V)}{fs:List (Str×A)}(e:H p=some (.ins C dx vs))(m:k.mg c=some (.ref C))(r:jn k G vs fs):LR k G H p (.obj c fs) []
 |dit{vs:List (List Key×Addr×V)}{as:List (List Key×A)}(e:H p=some (dX k.P k.w p vs))(r:Hu k G vs as):LR k G H p (.dit as) []
 |nob{C dx:Addr}{c:Str}{vs ws:List (Str×V)}{fs:List (Str×A)}{ls:List (Str×List A)}{q:List Addr}(e:H p=some (.ins C dx (vs++ws)))(m:k.mg c=some (.ref C))(r:jn k G vs fs)(l:lB k G H ws ls q):LR k G H p (.nob c fs ls) q
inductive dY(k:Kx)(G H:Hp):Option V->Sl->List Addr->Prop
 |un(x:Option V):dY k G H x .un []
 |fr{v:V}{a:A}(h:RA k G v a):dY k G H (some v) (.fr a) []
 |lv{p:Addr}{o:LO}{q:List Addr}(h:LR k G H p o q):dY k G H (some (.ref p)) (.lv o) (p::q)
 |pv{p:Addr}{o:LO}{q:List Addr}(h:LR k G H p o q):dY k G H (some (.ref p)) (.pv o) (p::q)
inductive aB(k:Kx)(G H:Hp):St->List Sl->List Addr->Prop
 |nil:aB k G H [] [] []
 |cons{x:Option V}{s:Sl}{Y:St}{Z:List Sl}{L L':List Addr}(h:dY k G H x s L)(r:aB k G H Y Z L'):aB k G H (x::Y) (s::Z) (L++L')
variable{ws:List (Str×V)}{q:List Addr}
section
variable{k:Kx}{G G' H H':Hp}{L:List Addr}
theorem lB.is{ls:List (Str×List A)}(h:lB k G H ws ls q):∀a∈q,∃u,H a=some u:=by
 induction h with
 |nil=>intro a ha;cases ha
 |cons e r t l=>intro b d;rcases SO.mp d with rfl|d;exact⟨_,e⟩;exact l b d
theorem lB.sm(s:Sq G G'){ws:List (Str×V)}{ls:List (Str×List A)}{q:List Addr}(h:lB k G H ws ls q):(∀a∈q,∀u,H a=some u->H' a=some u)->lB k G' H' ws ls q:=by
 induction h with
 |nil=>intro _;exact .nil
 |cons e r t l=>intro k;exact .cons (k _ SN _ e) (r.sm s) (l λb d=>k b (SE _ d))
theorem lB.a(s:Sq G G'){ws:List (Str×V)}{ls:List (Str×List A)}{q:List Addr}(h:lB k G H ws ls q):(∀a∈q,∀u,H a=some u->G' a=some u)->jn k G' ws (ls.map λp=>(p.1,A.lst p.2)):=by
 induction h with
 |nil=>intro _;exact .nil
 |cons e r t l=>intro k;exact .cons (.lst (.inl (.inl (k _ SN _ e))) (r.sm s)) (l λb d=>k b (SE _ d))
theorem jn.app{vs:List (Str×V)}{as bs:List (Str×A)}(h:jn k G vs as)(h':jn k G ws bs):jn k G (vs++ws) (as++bs):=by
 induction vs generalizing as with
 |nil=>cases h;exact h'
 |cons v vs l=>cases h with|cons q r=>exact .cons q (l r)
theorem LR.is{p:Addr}{o:LO}{q:List Addr}(h:LR k G H p o q):∀a∈p::q,∃u,H a=some u:=by
 intro a ha;rcases SO.mp ha with rfl|ha
 .cases h with|lst e _=>exact⟨_,e⟩|dic e _=>exact⟨_,e⟩|obj e _ _=>exact⟨_,e⟩|dit e _=>exact⟨_,e⟩|nob e _ _ _=>exact⟨_,e⟩
 .cases h with|lst e _=>cases ha|dic e _=>cases ha|obj e _ _=>cases ha|dit e _=>cases ha|nob _ _ _ l=>exact l.is a ha
theorem LR.sm(s:Sq G G'){p:Addr}{o:LO}{q:List Addr}(e:∀a∈p::q,∀u,H a=some u->H' a=some u)(h:LR k G H p o q):LR k G' H' p o q:=by
 have I:=e p SN;cases h with
 |lst q r=>exact .lst (I _ q) (r.sm s)
 |dic q r=>exact .dic (I _ q) (r.sm s)
 |obj q m r=>exact .obj (I _ q) m (r.sm s)
 |dit q r=>exact .dit (I _ q) (r.sm s)
 |nob q m r l=>exact .nob (I _ q) m (r.sm s) (l.sm s λa ha=>e a (SE _ ha))
theorem dY.is{x:Option V}{t:Sl}(h:dY k G H x t L):∀p∈L,∃u,H p=some u:=by
 cases h with
 |un=>intro p hp;cases hp
 |fr=>intro p hp;cases hp
 |lv h=>exact h.is
 |pv h=>exact h.is
theorem dY.sm(s:Sq G G'){x:Option V}{t:Sl}(e:∀p∈L,∀u,H p=some u->H' p=some u)(h:dY k G H x t L):dY k G' H' x t L:=by
 cases h with
 |un=>exact .un _
 |fr h=>exact .fr (h.sm s)
 |lv h=>exact .lv (h.sm s e)
 |pv h=>exact .pv (h.sm s e)
theorem aB.is:∀{Y:St}{Z:List Sl}{L:List Addr},aB k G H Y Z L->∀p∈L,∃u,H p=some u
 |_,_,_,.nil,p,hp=>by cases hp
 |_,_,_,.cons h r,p,hp=>(Su.mp hp).elim (h.is p) (r.is p)
theorem aB.sm(s:Sq G G'):∀{Y:St}{Z:List Sl}{L:List Addr},(∀p∈L,∀u,H p=some u->H' p=some u)->aB k G H Y Z L->aB k G' H' Y Z L
 |_,_,_,_,.nil=>.nil
 |_,_,_,e,.cons h r=>.cons (h.sm s λp hp=>e p (Sv _ hp)) (r.sm s λp hp=>e p (Sr _ hp))
theorem aB.len:∀{Y:St}{Z:List Sl}{L:List Addr},aB k G H Y Z L->Y.length=Z.length
 |_,_,_,.nil=>rfl
 |_,_,_,.cons _ r=>by rw[SF,SF,r.len]
theorem aB.at:∀{Y:St}{Z:List Sl}{L:List Addr}{i:Nat}{s:Sl},aB k G H Y Z L->Z[i]?=some s->
  ∃x o L2 a,Y[i]?=some x/\dY k G H x s L2/\L=o++L2++a/\∀{G' H':Hp}{y:Option V}{t:Sl}{L':List Addr},Sq G G'->(∀p∈o++a,∀u,H p=some u->H' p=some u)->dY k G' H' y t L'->aB k G' H' (Y.set i y) (Z.set i t) (o++L'++a)
 |_,_,_,_,_,.nil,e=>by simp at e
 |_,_,_,0,_,.cons (x:=x) (L:=L) (L':=L') h r,e=>by cases e;refine⟨x,[],L,L',rfl,h,by simp,λsm e q=>?_⟩;simp only[List.set_cons_zero,UB];exact .cons q (r.sm sm (by simpa using e))
 |_,_,_,i+1,_,.cons (L:=L) h r,e=>by obtain⟨x,o,L2,a,F,j,Q,b⟩:=aB.at (i:=i) r e;refine⟨x,L++o,L2,a,F,j,by rw[Q];simp,λsm e q=>?_⟩;simp only[List.set_cons_succ];have:=aB.cons (h.sm sm λp hp=>e p (by simp[hp])) (b sm (λp hp=>e p (by rcases Su.mp hp with z|z<;>simp[z])) q);simpa[Sw] using this
theorem aB.app:∀{Y B:St}{Z θ:List Sl}{L L':List Addr},aB k G H Y Z L->aB k G H B θ L'->aB k G H (Y++B) (Z++θ) (L++L')
 |_,_,_,_,_,_,.nil,s=>s
 |_,_,_,_,_,_,.cons h r,s=>by have:=aB.cons h (r.app s);simpa[Sw] using this
theorem aB.split:∀{Y B:St}{Z θ:List Sl}{L:List Addr},Y.length=Z.length->aB k G H (Y++B) (Z++θ) L->∃o L2,L=o++L2/\aB k G H Y Z o/\aB k G H B θ L2
 |[],_,[],_,L,_,h=>⟨[],L,rfl,.nil,h⟩
 |x::Y,B,s::Z,θ,_,e,.cons (L:=L) h r=>by obtain⟨o,L2,F,w,n⟩:=aB.split (by simpa using e) r;exact⟨L++o,L2,by rw[F];simp,.cons h w,n⟩
 |_::_,_,[],_,_,e,_=>by simp at e
 |[],_,_::_,_,_,e,_=>by simp at e
theorem aB.my:∀{vs:List V}{as:List A},bR k G vs as->aB k G H (vs.map some) (as.map Sl.fr) []
 |_,_,.nil=>.nil
 |_,_,.cons h r=>aB.cons (L:=[]) (.fr h) (aB.my r)
theorem aB.Hs:∀{vs:List V}{as:List A}{L:List Addr},aB k G H (vs.map some) (as.map Sl.fr) L->L=[]/\bR k G vs as
 |[],[],_,.nil=>⟨rfl,.nil⟩
 |v::vs,a::as,_,.cons h r=>by
  cases h with
  |fr h=>obtain⟨e,q⟩:=aB.Hs r;exact⟨by rw[e];rfl,.cons h q⟩
end
structure Cn extends Kx where
 σ0:St
 H0:Hp
 Lp:List Addr
 Hd:List Addr
 Wk:List (Addr×HO)
def Cn.g(c:Cn)(H:Hp)(L:List Addr):Hp:=cut H (L++c.Hd)
structure Fr(c:Cn)(H:Hp):Prop where
 st:∀b o,c.H0 b=some o->∃u,H b=some u/\(b∉c.Lp->(∀w,(b,w)∉c.Wk)->u=o)
 pk:∀p∈c.Wk,H p.1=some p.2/\(∃ob vs,p.2=.frz ob (.dK vs))/\p.1∉c.Hd
variable{c:Cn}
theorem Fr.new{o:HO}(f:Fr c H)(h:H p=none):Fr c (upd H p o):=⟨λb u e=>by
 obtain⟨w,h1,h2⟩:=f.st b u e;exact⟨w,by rw[aE (aS h1 h)];exact h1,h2⟩,λq j=>by
 obtain⟨h1,h2⟩:=f.pk q j;exact⟨by rw[aE (aS h1 h)];exact h1,h2⟩⟩
theorem Fr.fresh(f:Fr c H)(h:H p=none):c.H0 p=none:=by
 cases e:c.H0 p with
 |none=>rfl
 |some o=>obtain⟨u,h1,_⟩:=f.st p o e;rw[h] at h1;cases h1
def gH(σ0 Y:St)(Z:List Sl):Prop:=∀(i:Nat)(o:LO),Z[i]?=some (Sl.pv o)->Y[i]?=σ0[i]?
structure fO(c:Cn)(Y:St)(H:Hp)(Z:List Sl)(B:St)(θ:List Sl)(L:List Addr):Prop where
 nd:L.Nodup
 rel:aB c.toKx (c.g H L) H (B++Y) (θ++Z) L
 own:∀p∈L,p∈c.Lp\/c.H0 p=none
 fr:Fr c H
 kp:gH c.σ0 Y Z
 lt:B.length=θ.length
 hd:∀p∈c.Hd,(∃u,c.H0 p=some u)/\p∉c.Lp
theorem g_same(c:Cn)(H:Hp)(L:List Addr):Sq (c.g H L) H:=Bz _ _
theorem c7(h:∀a,a∈L'->a∈L):Sq (c.g H L) (c.g H L'):=AX λa ha=>by
 rcases Su.mp ha with z|z
 .exact Sv _ (h a z)
 .exact Sr _ z
theorem gX{a:Addr}(h:a∈L\/a∈c.Hd):c.g H L a=none:=CB (by simpa using h)
theorem bB{a:Addr}(h:a∉L)(h':a∉c.Hd):c.g H L a=H a:=rN (by simp[h,h'])
variable{Y B:St}{Z θ:List Sl}
theorem fO.Di(b:fO c Y H Z B θ L)(h:p∈L):p∉c.Hd:=λz=>by
 obtain⟨⟨u,e⟩,n⟩:=b.hd p z;rcases b.own p h with y|y
 .exact n y
 .rw[y] at e;cases e
theorem fO.PN(b:fO c Y H Z B θ L)(h:H p=none):p∉c.Hd:=λz=>by obtain⟨⟨u,e⟩,n⟩:=b.hd p z;rw[b.fr.fresh h] at e;cases e
def Bd(c:Cn)(Y:St)(H:Hp)(Z:List Sl)(B:St)(θ:List Sl):Prop:=∃L,fO c Y H Z B θ L
variable{s:Sl}{u:HO}{o o':LO}{k:Kx}{i:Nat}{α:Type}
section
variable{c:Cn}{Y:St}{H:Hp}{Z:List Sl}{B:St}{θ:List Sl}
theorem Bd.jl(b:Bd c Y H Z B θ):Y.length=Z.length:=by obtain⟨L,b⟩:=b;have:=b.rel.len;rw[SI,SI,b.lt] at this;lia
theorem Bd.push{a:A}(b:Bd c Y H Z B θ)(h:∀G,RA c.toKx G v a):Bd c Y H Z (some v::B) (.fr a::θ):=by obtain⟨L,b⟩:=b;exact⟨L,b.nd,aB.cons (L:=[]) (.fr (h _)) b.rel,b.own,b.fr,b.kp,by simp[b.lt],b.hd⟩
theorem Bd.pop{x:Option V}(b:Bd c Y H Z (x::B) (s::θ)):Bd c Y H Z B θ:=by
 obtain⟨L,b⟩:=b;obtain⟨nd,rel,own,fr,kp,lt,q⟩:=b;have rel:aB c.toKx (c.g H L) H (x::(B++Y)) (s::(θ++Z)) L:=rel;cases rel with
 |cons h r=>rename_i o L2;exact⟨L2,(SQ.mp nd).2.1,r.sm (c7 λa ha=>Sr _ ha) (λ_ _ _ e=>e),λp hp=>own p (Sr _ hp),fr,kp,by simpa using lt,q⟩
theorem Bd.E3:∀{xs:St}{ss:List Sl},xs.length=ss.length->Bd c Y H Z (xs++B) (ss++θ)->Bd c Y H Z B θ
 |[],[],_,b=>b
 |x::xs,s::ss,e,b=>Bd.E3 (xs:=xs) (ss:=ss) (by simpa using e) (Bd.pop b)
 |[],_::_,e,_=>by simp at e
 |_::_,[],e,_=>by simp at e
theorem Bd.new{p:Addr}{o:HO}(b:Bd c Y H Z B θ)(h:H p=none):Bd c Y (upd H p o) Z B θ:=by
 obtain⟨L,b⟩:=b;have hp:p∉L:=λz=>by obtain⟨u,e⟩:=b.rel.is p z;rw[h] at e;cases e
 refine⟨L,b.nd,b.rel.sm (Sq.of λa u e=>?_) (λq j u e=>by rw[aE (aS e h)];exact e),b.own,b.fr.new h,b.kp,b.lt,b.hd⟩;by_cases z:a∈L\/a∈c.Hd
 .rw[gX z] at e;cases e
 .rw[bB (λy=>z (.inl y)) (λy=>z (.inr y))] at e;rw[bB (λy=>z (.inl y)) (λy=>z (.inr y)),aE (aS e h)];exact e
theorem Bd.my{as:List A}(b:Bd c Y H Z (vs.map some++B) (as.map Sl.fr++θ))(e:vs.length=as.length):∃L,fO c Y H Z B θ L/\bR c.toKx (c.g H L) vs as:=by obtain⟨L,b⟩:=b;have r:=b.rel;rw[Sw,Sw] at r;obtain⟨o,L2,F,k,n⟩:=aB.split (by simp[e]) r;obtain⟨z,x⟩:=aB.Hs k;subst z;have F:L=L2:=F;subst F;exact⟨L,⟨b.nd,n,b.own,b.fr,b.kp,by have:=b.lt;simp at this;lia,b.hd⟩,x⟩
theorem fO.push{a:A}(b:fO c Y H Z B θ L)(h:RA c.toKx (c.g H L) v a):Bd c Y H Z (some v::B) (.fr a::θ):=
 ⟨L,b.nd,aB.cons (L:=[]) (.fr h) b.rel,b.own,b.fr,b.kp,by simp[b.lt],b.hd⟩
theorem fO.new{L:List Addr}{p:Addr}{o:HO}(b:fO c Y H Z B θ L)(h:H p=none):fO c Y (upd H p o) Z B θ L/\Sq (c.g H L) (c.g (upd H p o) L)/\p∉L:=by
 have hp:p∉L:=λz=>by obtain⟨u,e⟩:=b.rel.is p z;rw[h] at e;cases e
 have sm:Sq (c.g H L) (c.g (upd H p o) L):=Sq.of λa u e=>by
  by_cases z:a∈L\/a∈c.Hd
  .rw[gX z] at e;cases e
  .rw[bB (λy=>z (.inl y)) (λy=>z (.inr y))] at e;rw[bB (λy=>z (.inl y)) (λy=>z (.inr y)),aE (aS e h)];exact e
 exact⟨⟨b.nd,b.rel.sm sm (λq j u e=>by rw[aE (aS e h)];exact e),b.own,b.fr.new h,b.kp,b.lt,b.hd⟩,sm,hp⟩
theorem Bd.zr{as:List A}(b:Bd c Y H Z (vs.map some++B) (as.map Sl.fr++θ))(e:vs.length=as.length)(h:H p=none)(ws:List V)(bs:List A)(r:∀G,bR c.toKx G vs as->bR c.toKx G ws bs):
  Bd c Y (upd H p (.tup ws)) Z (some (.ref p)::B) (.fr (.tup bs)::θ):=by
 obtain⟨L,bl,x⟩:=b.my e;obtain⟨b2,sm,hp⟩:=bl.new (o:=.tup ws) h;exact b2.push (.tup (.inl (.inl (by rw[bB hp (bl.PN h)];exact bK))) (r _ (x.sm sm)))
theorem fO.hZ(b:fO c Y H Z B θ L)(h:H p=none)(x:∀G H',Sq (c.g H L) G->H' p=some u->LR c.toKx G H' p o []):Bd c Y (upd H p u) Z (some (.ref p)::B) (.lv o::θ):=by
 have hp:p∉L:=λz=>by obtain⟨u,e⟩:=b.rel.is p z;rw[h] at e;cases e
 have sm:Sq (c.g H L) (c.g (upd H p u) (p::L)):=Sq.of λa w e=>by
  by_cases z:a∈L\/a∈c.Hd
  .rw[gX z] at e;cases e
  .rw[bB (λy=>z (.inl y)) (λy=>z (.inr y))] at e;have r:=aS e h;rw[bB (λy=>by rcases SO.mp y with y|y;exact r y;exact z (.inl y)) (λy=>z (.inr y)),aE r];exact e
 refine⟨p::L,S8.mpr ⟨hp,b.nd⟩,aB.cons (L:=[p]) (.lv (x _ _ sm bK)) (b.rel.sm sm (λq j w e=>by rw[aE (aS e h)];exact e)),λq j=>?_,b.fr.new h,b.kp,by simp[b.lt],b.hd⟩;rcases SO.mp j with z|z
 .subst z;exact .inr (b.fr.fresh h)
 .exact b.own q z
theorem Bd.uL{as:List A}(b:Bd c Y H Z (vs.map some++B) (as.map Sl.fr++θ))(e:vs.length=as.length)(h:H p=none)(ws:List V)(bs:List A)(r:∀G,bR c.toKx G vs as->bR c.toKx G ws bs):
  Bd c Y (upd H p (.lst ws)) Z (some (.ref p)::B) (.lv (.lst bs)::θ):=by
 obtain⟨L,bl,x⟩:=b.my e;exact bl.hZ h λG H' sm q=>.lst q (r _ (x.sm sm))
theorem LR.a{k:Kx}{G H:Hp}{p:Addr}{o:LO}{q:List Addr}{a:A}(h:LR k G H p o q)(sm:Sq G H)(ea:o.rd=some a):RA k H (.ref p) a:=by
 cases h with
 |lst e r=>cases ea;exact .lst (.inl (.inl e)) (r.sm sm)
 |dic e r=>cases ea;exact .dic (.inl e) (r.sm sm)
 |obj e m r=>cases ea;exact .obj e m (r.sm sm)
 |dit e r=>cases ea;exact .opq
 |nob=>cases ea
theorem LR.a'(h:LR k G H p o q)(sm:Sq G G')(e:∀a∈p::q,∀u,H a=some u->G' a=some u):RA k G' (.ref p) o.a:=by
 have I:=e p SN;cases h with
 |lst q r=>exact .lst (.inl (.inl (I _ q))) (r.sm sm)
 |dic q r=>exact .dic (.inl (I _ q)) (r.sm sm)
 |obj q m r=>exact .obj (I _ q) m (r.sm sm)
 |dit e r=>exact .opq
 |nob q m r l=>exact .obj (I _ q) m ((r.sm sm).app (l.a sm λa ha=>e a (SE _ ha)))
def Sl.a:Sl->Option A
 | .fr a=>some a
 | .lv o=>o.rd
 | .pv o=>o.rd
 | .un=>none
theorem dY.read{x:Option V}{a:A}(h:dY k G H x s L)(sm:Sq G H)(e:s.a=some a):∃v,x=some v/\RA k H v a:=by
 cases h with
 |un=>cases e
 |fr h=>cases e;exact⟨_,rfl,h.sm sm⟩
 |lv h=>exact⟨_,rfl,h.a sm e⟩
 |pv h=>exact⟨_,rfl,h.a sm e⟩
theorem gH.set{σ0 Y:St}{Z:List Sl}{i:Nat}{t:Sl}{y:Option V}(k:gH σ0 Y Z)(h:∀o,Z[i]?≠some (.pv o))(hi:i<Z.length)(e:∀o,t≠.pv o):gH σ0 (Y.set i y) (Z.set i t):=λj o q=>by
 by_cases z:j=i
 .subst z;rw[S3 hi] at q;exact absurd (SM q) (e o)
 .rw[Td (T6 z)] at q ⊢;exact k j o q
theorem gH.DQ{σ0:St}{t:Sl}(k:gH σ0 Y Z)(h:∀o,t=.pv o->∃o',Z[i]?=some (.pv o')):gH σ0 Y (Z.set i t):=λj o q=>by
 by_cases z:j=i
 .subst z;by_cases hi:j<Z.length
  .rw[S3 hi] at q;obtain⟨o',e⟩:=h o (SM q);exact k j o' e
  .rw[Vx (by simp;lia)] at q;cases q
 .rw[Td (T6 z)] at q;exact k j o q
theorem Bd.slot{a:A}(b:Bd c Y H Z B θ)(e:Z[i]?=some s)(ea:s.a=some a):∃v,Y[i]?=some (some v)/\RA c.toKx H v a:=by obtain⟨L,b⟩:=b;obtain⟨o,L2,F,k,n⟩:=aB.split b.lt b.rel;obtain⟨x,_,_,_,w,u,_⟩:=n.at e;obtain⟨v,rfl,h⟩:=u.read (g_same _ _ _) ea;exact⟨v,w,h⟩
theorem Bd.HD(b:Bd c Y H Z B θ)(e:Z[i]?=some (.lv o)\/Z[i]?=some (.pv o)):∃p,Y[i]?=some (some (.ref p)):=by
 obtain⟨L,b⟩:=b;obtain⟨h,L2,F,k,n⟩:=aB.split b.lt b.rel;rcases e with e|e
 .obtain⟨x,_,_,_,w,u,_⟩:=n.at e;cases u;exact⟨_,w⟩
 .obtain⟨x,_,_,_,w,u,_⟩:=n.at e;cases u;exact⟨_,w⟩
theorem Bd.load{a:A}(b:Bd c Y H Z B θ)(e:Z[i]?=some (.fr a)):∃v,Y[i]?=some (some v)/\Bd c Y H Z (some v::B) (.fr a::θ):=by
 obtain⟨L,b⟩:=b;obtain⟨o,L2,F,k,n⟩:=aB.split b.lt b.rel;obtain⟨x,_,_,_,w,u,_⟩:=n.at e;cases u with
 |fr h=>exact⟨_,w,b.push h⟩
theorem lB.nf{ls:List (Str×List A)}(h:lB k G H ws ls q):∀a∈q,∀ob w,H a≠some (.frz ob w):=by
 induction h with
 |nil=>intro a ha;cases ha
 |cons e r t l=>intro b d ob w z;rcases SO.mp d with rfl|d;rw[e] at z;cases z;exact l b d ob w z
theorem LR.nf{k:Kx}{G H:Hp}{p:Addr}{o:LO}{q:List Addr}(h:LR k G H p o q):∀a∈p::q,∀ob w,H a≠some (.frz ob w):=by
 intro a ha ob w z;rcases SO.mp ha with rfl|ha
 .cases h with|lst e _=>rw[e] at z;cases z|dic e _=>rw[e] at z;cases z|obj e _ _=>rw[e] at z;cases z|dit e _=>rw[e] at z;cases z|nob e _ _ _=>rw[e] at z;cases z
 .cases h with|lst e _=>cases ha|dic e _=>cases ha|obj e _ _=>cases ha|dit e _=>cases ha|nob _ _ _ l=>exact l.nf a ha ob w z
theorem lC{A B C:List α}(n:(A++B++C).Nodup):(A++C).Nodup/\∀a∈B,a∉A++C:=by
 obtain⟨Y,S,P⟩:=SQ.mp n;obtain⟨O,p,h⟩:=SQ.mp Y;refine⟨SQ.mpr ⟨O,S,λa ha b d=>P a (Sv _ ha) b d⟩,λa ha z=>?_⟩;rcases Su.mp z with z|z
 .exact h a z a ha rfl
 .exact P a (Sr _ ha) a z rfl
theorem set_same{v:Option V}(w:Y[i]?=some v):Y.set i v=Y:=by
 apply UJ;intro j;by_cases z:j=i
 .subst z;rw[S3 (Sy.mp w).1,w]
 .rw[Td (T6 z)]
theorem Bd.xj(b:Bd c Y H Z B θ)(e:Z[i]?=some (.lv o)):Bd c Y H (Z.set i (.fr o.a)) B θ:=by
 obtain⟨L,b⟩:=b;obtain⟨m,L2,F,k,n⟩:=aB.split b.lt b.rel;obtain⟨x,M1,M2,r,w,f,j,ins⟩:=n.at e;cases f with
 |lv h=>
  rename_i p q;have nd:=b.nd;have D:L=(m++M1)++(p::q)++r:=by rw[F,j];simp
  rw[D] at nd;obtain⟨U,hp⟩:=lC nd;have sub:∀a,a∈m++M1++r->a∈L:=λa ha=>by rw[D];simp only[Su,SO] at ha ⊢;rcases ha with (z|z)|z<;>simp[z]
  have sm:Sq (c.g H L) (c.g H (m++M1++r)):=c7 sub;have E:=ins (y:=some (.ref p)) (t:=.fr o.a) (L':=[]) sm (λ_ _ _ e=>e) (.fr (h.a' sm λa ha u e=>by rw[bB (hp a ha) (b.Di (by rw[D];exact Sv _ (Sr _ ha)))];exact e));rw[set_same w] at E;refine⟨m++M1++r,U,?_,λq S=>b.own q (sub q S),b.fr,b.kp.DQ (λo z=>by cases z),b.lt,b.hd⟩;have:=(k.sm sm (λ_ _ _ e=>e)).app E;simpa[Sw] using this
theorem fO.OB{t:Sl}(b:fO c Y H Z B θ L)(e:Z[i]?=some s)(es:s=.lv o/\t=.lv o'\/s=.pv o/\t=.pv o')
  : ∃p q,Y[i]?=some (some (.ref p))/\LR c.toKx (c.g H L) H p o q/\(p::q).Nodup/\∀a∈p::q,(∀H',H' a=some u->(∀b∈p::q,b≠a->H' b=H b)->LR c.toKx (c.g H L) H' p o' q)->Bd c Y (upd H a u) (Z.set i t) B θ:=by
 obtain⟨D,L2,F,k,n⟩:=aB.split b.lt b.rel;obtain⟨x,M1,M2,I,A,f,J,ins⟩:=n.at e;have V:∀p q,x=some (.ref p)->M2=p::q->LR c.toKx (c.g H L) H p o q->(∀G H',LR c.toKx G H' p o' q->dY c.toKx G H' (some (.ref p)) t (p::q))->(∀o2,t=.pv o2->∃o',Z[i]?=some (.pv o'))->
   ∃p q,Y[i]?=some (some (.ref p))/\LR c.toKx (c.g H L) H p o q/\(p::q).Nodup/\∀a∈p::q,(∀H',H' a=some u->(∀b∈p::q,b≠a->H' b=H b)->LR c.toKx (c.g H L) H' p o' q)->Bd c Y (upd H a u) (Z.set i t) B θ:=by
  intro p q ex em v mk pk;subst ex em;have nd:=b.nd;have N:L=(D++M1)++(p::q)++I:=by rw[F,J];simp
  rw[N] at nd;have T:(p::q).Nodup:=(SQ.mp (SQ.mp nd).1).2.1;refine⟨p,q,A,v,T,λa ha hn=>?_⟩;obtain⟨_,U⟩:=lC nd;have m:a∈L:=by rw[N];exact Sv _ (Sr _ ha)
  have O:c.g (upd H a u) L=c.g H L:=by
   funext X
   by_cases z:X∈L\/X∈c.Hd
   .rw[gX z,gX z]
   .rw[bB (λy=>z (.inl y)) (λy=>z (.inr y)),bB (λy=>z (.inl y)) (λy=>z (.inr y)),aE λy=>z (.inl (by rw[y];exact m))]
  have r:∀q,q∈D++M1++I->∀w,H q=some w->upd H a u q=some w:=λq j w e=>by rw[aE λy=>U a ha (by rw[<-y];exact j)];exact e
  have E:=ins (G':=c.g (upd H a u) L) (H':=upd H a u) (y:=some (.ref p)) (t:=t) (L':=p::q) (by rw[O];exact Sq.refl _) (λq j=>r q (by rcases Su.mp j with z|z<;>simp[z])) (mk _ _ (by rw[O];exact hn _ bK λX _ nb=>aE nb));rw[set_same A] at E;refine⟨L,b.nd,?_,b.own,⟨λq w e=>?_,λq j=>?_⟩,b.kp.DQ pk,b.lt,b.hd⟩
  .have:=(k.sm (G':=c.g (upd H a u) L) (H':=upd H a u) (by rw[O];exact Sq.refl _) (λq j=>r q (by simp[j]))).app E;have z:D++(M1++(p::q)++I)=L:=by rw[N];simp
   rw[z] at this;exact this
  .obtain⟨R,h1,h2⟩:=b.fr.st q w e;by_cases z:q=a
   .subst z;refine⟨u,bK,λS=>?_⟩;rcases b.own q m with y|y
    .exact absurd y S
    .rw[y] at e;cases e
   .exact⟨R,by rw[aE z];exact h1,h2⟩
  .obtain⟨h1,⟨ob,vs,h2⟩,h3⟩:=b.fr.pk q j;refine⟨?_,⟨ob,vs,h2⟩,h3⟩;rw[aE λy=>?_]
   .exact h1
   .rw[y,h2] at h1;exact v.nf a ha _ _ h1
 rcases es with ⟨rfl,rfl⟩|⟨rfl,rfl⟩
 .cases f with
  |lv h=>exact V _ _ rfl rfl h (λ_ _ h=>.lv h) (λ_ z=>by cases z)
 .cases f with
  |pv h=>exact V _ _ rfl rfl h (λ_ _ h=>.pv h) (λ_ z=>⟨_,e⟩)
theorem fO.change{t:Sl}(b:fO c Y H Z B θ L)(e:Z[i]?=some s)(es:s=.lv o/\t=.lv o'\/s=.pv o/\t=.pv o')
  : ∃p q,Y[i]?=some (some (.ref p))/\LR c.toKx (c.g H L) H p o q/\((∀H',H' p=some u->(∀b∈q,H' b=H b)->LR c.toKx (c.g H L) H' p o' q)->Bd c Y (upd H p u) (Z.set i t) B θ):=by
 obtain⟨p,q,h1,h2,nd,h3⟩:=b.OB (u:=u) e es;exact⟨p,q,h1,h2,λk=>h3 p SN λH' a sm=>k H' a λb d=>sm b (SE _ d) λz=>(S8.mp nd).1 (z▸d)⟩
theorem Bd.store{t:Sl}(b:Bd c Y H Z (some v::B) (t::θ))(e:Z[i]?=some s)(u:∀o,s≠.pv o)(ht:∀o,t≠.pv o):Bd c (Y.set i (some v)) H (Z.set i t) B θ:=by
 obtain⟨L,nd,rel,own,fr,kp,lt,p⟩:=b;have rel:aB c.toKx (c.g H L) H (some v::(B++Y)) (t::(θ++Z)) L:=rel;cases rel with
 |cons h r=>
  rename_i G L';obtain⟨m,L2,F,k,n⟩:=aB.split (by simpa using lt) r;obtain⟨x,M1,M2,I,w,V,j,ins⟩:=n.at e;subst F j;have sub:∀a,a∈m++(M1++G++I)->a∈G++(m++(M1++M2++I)):=λa ha=>by simp at ha ⊢;rcases ha with z|z|z|z<;>simp[z]
  have sm:Sq (c.g H (G++(m++(M1++M2++I)))) (c.g H (m++(M1++G++I))):=c7 sub;have hi:i<Z.length:=(Sy.mp e).1;refine⟨m++(M1++G++I),?_,?_,λq S=>own q (sub q S),fr,kp.set (λo z=>?_) hi ht,by simpa using lt,p⟩
  .have D:(G++(m++(M1++M2++I))).Perm (M2++(m++(M1++G++I))):=by rw[U4];intro a;simp only[Vb];lia
   exact(SQ.mp ((D.nodup_iff).mp nd)).2.1
  .exact(k.sm sm (λ_ _ _ e=>e)).app (ins sm (λ_ _ _ e=>e) (h.sm sm (λ_ _ _ e=>e)))
  .rw[e] at z;exact u o (SM z)
end
inductive Rr where
 |rf(i:Nat)|fr(a:A)|nw(o:LO)
noncomputable abbrev Mi(α:Type):=List Sl->Option (Except Str α×List Sl)
noncomputable def aW{α β:Type}(m:Mi α)(f:α->Mi β):Mi β:=λZ=>match m Z with
 |some (.ok x,U)=>f x U
 |some (.error e,U)=>some (.error e,U)
 |none=>none
noncomputable def oS{α:Type}(x:α):Mi α:=λZ=>some (.ok x,Z)
noncomputable def cv:Rr->V->St->St
 | .rf _,_,B=>B
 | .fr _,v,B=>some v::B
 | .nw _,v,B=>some v::B
noncomputable def cw:Rr->List Sl->List Sl
 | .rf _,θ=>θ
 | .fr a,θ=>.fr a::θ
 | .nw o,θ=>.lv o::θ
def VR(Y:St):Rr->V->Prop
 | .rf i,v=>Y[i]?=some (some v)
 |_,_=>True
def res(Z:List Sl):Rr->Option A
 | .rf i=>match Z[i]? with
  |some s=>s.a
  |none=>none
 | .fr a=>some a
 | .nw o=>o.rd
def Qu(K:Kx)(E:XK)(c:Cn)(Y:St)(Z:List Sl)(B:St)(θ:List Sl)(Q:VK):Except Str Rr->Prop
 | .ok r=>∀v H,VR Y r v->Bd c Y H Z (cv r v B) (cw r θ)->Q v H
 | .error x=>∀C H,K.mg x=some (.ref C)->Bd c Y H Z B θ->E (.ref C) none H
inductive gJ(K:Kx)(E:XK)(m:Mi Rr)(Y:St)(H:Hp)(Q:VK):Prop
 |mk(c:Cn)(Z:List Sl)(B:St)(θ:List Sl)(o:Except Str Rr)(O:List Sl)(h1:c.toKx=K)(h2:Bd c Y H Z B θ)(h3:m Z=some (o,O))(h4:Qu K E c Y O B θ Q o)
def NI(K:Kx)(E:XK)(c:Cn)(Y:St)(Z:List Sl)(B:St)(θ:List Sl)(Q:Bool->Hp->Prop):Except Str Bool->Prop
 | .ok b=>∀H,Bd c Y H Z B θ->Q b H
 | .error x=>∀C H,K.mg x=some (.ref C)->Bd c Y H Z B θ->E (.ref C) none H
inductive vZ(K:Kx)(E:XK)(m:Mi Bool)(Y:St)(H:Hp)(Q:Bool->Hp->Prop):Prop
 |mk(c:Cn)(Z:List Sl)(B:St)(θ:List Sl)(o:Except Str Bool)(O:List Sl)(h1:c.toKx=K)(h2:Bd c Y H Z B θ)(h3:m Z=some (o,O))(h4:NI K E c Y O B θ Q o)
def c9:List Rr->List V->St->St
 |r::rs,v::vs,B=>c9 rs vs (cv r v B)
 |_,_,B=>B
def da:List Rr->List Sl->List Sl
 |r::rs,θ=>da rs (cw r θ)
 |[],θ=>θ
def mN(Y:St):List Rr->List V->Prop
 |[],[]=>True
 |r::rs,v::vs=>VR Y r v/\mN Y rs vs
 |_,_=>False
def Mw(K:Kx)(E:XK)(c:Cn)(Y:St)(Z:List Sl)(B:St)(θ:List Sl)(Q:List V->Hp->Prop):Except Str (List Rr)->Prop
 | .ok rs=>∀vs H,mN Y rs vs->Bd c Y H Z (c9 rs vs B) (da rs θ)->Q vs H
 | .error x=>∀C H,K.mg x=some (.ref C)->Bd c Y H Z B θ->E (.ref C) none H
inductive Nq(K:Kx)(E:XK)(m:Mi (List Rr))(Y:St)(H:Hp)(Q:List V->Hp->Prop):Prop
 |mk(c:Cn)(Z:List Sl)(B:St)(θ:List Sl)(o:Except Str (List Rr))(O:List Sl)(h1:c.toKx=K)(h2:Bd c Y H Z B θ)(h3:m Z=some (o,O))(h4:Mw K E c Y O B θ Q o)
noncomputable abbrev kx(X:Cx):Kx:=⟨X.K,X.mg,X.prog,X.w⟩
structure JE(X:Cx)(E:XK)(e:Expr)(m:Mi Rr):Prop where
 p:PE X e (gJ (kx X) E m)
structure JT(X:Cx)(E:XK)(e:Expr)(m:Mi Bool):Prop where
 p:PT X e (vZ (kx X) E m)
structure JW(X:Cx)(E:XK)(e:Expr)(m:Mi Bool):Prop where
 p:PW X e (vZ (kx X) E m)
structure JA(X:Cx)(E:XK)(es:List Expr)(m:Mi (List Rr)):Prop where
 p:PA X es (Nq (kx X) E m)
variable{X:Cx}{e:Expr}
theorem PE.weaken{t t':TE}(h:PE X e t)(f:∀Y H Q,t' Y H Q->t Y H Q):PE X e t':=λpins s Y H Q I q=>h pins s Y H Q I (f Y H Q q)
variable{t':TT}
theorem PT.weaken{t:TT}(h:PT X e t)(f:∀Y H Q,t' Y H Q->t Y H Q):PT X e t':=λpins s Y H Q I q=>h pins s Y H Q I (f Y H Q q)
theorem PW.weaken{t:TT}(h:PW X e t)(f:∀Y H Q,t' Y H Q->t Y H Q):PW X e t':=λz pins s Y H Q I q=>h z pins s Y H Q I (f Y H Q q)
theorem PA.weaken{e:List Expr}{t t':TA}(h:PA X e t)(f:∀Y H Q,t' Y H Q->t Y H Q):PA X e t':=λpos pins s Y H Q I q=>h pos pins s Y H Q I (f Y H Q q)
section
variable{c:Cn}{Y:St}{H:Hp}{Z:List Sl}{B:St}{θ:List Sl}
theorem Bd.drop{r:Rr}(b:Bd c Y H Z (cv r v B) (cw r θ)):Bd c Y H Z B θ:=by
 cases r with
 |rf i=>exact b
 |fr a=>exact Bd.pop b
 |nw o=>exact Bd.pop b
theorem Bd.top{a:A}(b:Bd c Y H Z (some v::B) (s::θ))(e:s.a=some a):RA c.toKx H v a:=by
 obtain⟨L,nd,rel,_⟩:=b;have rel:aB c.toKx (c.g H L) H (some v::(B++Y)) (s::(θ++Z)) L:=rel;cases rel with
 |cons h r=>obtain⟨u,z,q⟩:=h.read (g_same _ _ _) e;cases z;exact q
theorem Bd.rd{r:Rr}{a:A}(b:Bd c Y H Z (cv r v B) (cw r θ))(t:VR Y r v)(e:res Z r=some a):RA c.toKx H v a:=by
 cases r with
 |rf i=>
  unfold res at e;cases es:Z[i]? with
  |none=>simp only[es] at e;cases e
  |some s=>simp only[es] at e;obtain⟨u,h1,h2⟩:=Bd.slot b es e;have t:Y[i]?=some (some v):=t;rw[t] at h1;cases h1;exact h2
 |fr a'=>cases e;exact Bd.top b rfl
 |nw o=>exact Bd.top b e
theorem dY.items{x:Option V}(h:dY k G H x s L)(sm:Sq G H):
  (∀as,s.a=some (.lst as)->∃p vs,x=some (.ref p)/\gI k.K H p vs/\bR k G vs as)/\(∀as,s.a=some (.tup as)->∃p vs,x=some (.ref p)/\gK k.K G p vs/\bR k G vs as) /\
  (∀as,s.a=some (.dic as)->∃p vs,x=some (.ref p)/\Rd H p (.dK vs)/\fM k G vs as):=by
 have lo:∀p o q,LR k G H p o q->(∀as,o.rd=some (A.lst as)->∃vs,gI k.K H p vs/\bR k G vs as)/\(∀as,o.rd≠some (A.tup as))/\(∀as,o.rd=some (A.dic as)->∃vs,Rd H p (.dK vs)/\fM k G vs as):=by
  intro p o q h;cases h with
  |lst e r=>exact⟨λas z=>by cases z;exact⟨_,.inl (.inl e),r⟩,λas z=>(by cases z),λas z=>(by cases z)⟩
  |dic e r=>exact⟨λas z=>(by cases z),λas z=>(by cases z),λas z=>by cases z;exact⟨_,.inl e,r⟩⟩
  |obj e m r=>exact⟨λas z=>(by cases z),λas z=>(by cases z),λas z=>(by cases z)⟩
  |dit e r=>exact⟨λas z=>(by cases z),λas z=>(by cases z),λas z=>(by cases z)⟩
  |nob e m r l=>exact⟨λas z=>(by cases z),λas z=>(by cases z),λas z=>(by cases z)⟩
 cases h with
 |un=>exact⟨λ_ z=>(by cases z),λ_ z=>(by cases z),λ_ z=>(by cases z)⟩
 |fr h=>
  refine⟨λas z=>?_,λas z=>?_,λas z=>?_⟩
  .cases z;cases h with|lst e r=>exact⟨_,_,rfl,nZ sm e,r⟩
  .cases z;cases h with|tup e r=>exact⟨_,_,rfl,e,r⟩
  .cases z;cases h with|dic e r=>exact⟨_,_,rfl,sm.Rq e,r⟩
 |lv h=>
  rename_i p o q;obtain⟨l1,N,n⟩:=lo p o q h;refine⟨λas z=>?_,λas z=>absurd z (N as),λas z=>?_⟩
  .obtain⟨vs,h1,h2⟩:=l1 as z;exact⟨p,vs,rfl,h1,h2⟩
  .obtain⟨vs,h1,h2⟩:=n as z;exact⟨p,vs,rfl,h1,h2⟩
 |pv h=>
  rename_i p o q;obtain⟨l1,N,n⟩:=lo p o q h;refine⟨λas z=>?_,λas z=>absurd z (N as),λas z=>?_⟩
  .obtain⟨vs,h1,h2⟩:=l1 as z;exact⟨p,vs,rfl,h1,h2⟩
  .obtain⟨vs,h1,h2⟩:=n as z;exact⟨p,vs,rfl,h1,h2⟩
def zb(c:Cn)(H:Hp)(L:List Addr)(v:V)(a:A):Prop:=
  (∀as,a=.lst as->∃p vs,v=.ref p/\gI c.K H p vs/\bR c.toKx (c.g H L) vs as)/\(∀as,a=.tup as->∃p vs,v=.ref p/\gK c.K (c.g H L) p vs/\bR c.toKx (c.g H L) vs as) /\
  (∀as,a=.dic as->∃p vs,v=.ref p/\Rd H p (.dK vs)/\fM c.toKx (c.g H L) vs as)
theorem zb.mono{a:A}(h:zb c H L v a)(s:∀a,a∈L'->a∈L):zb c H L' v a:=by
 obtain⟨h1,h2,h3⟩:=h;refine⟨λas e=>?_,λas e=>?_,λas e=>?_⟩
 .obtain⟨p,vs,l,E,Y⟩:=h1 as e;exact⟨p,vs,l,E,Y.sm (c7 s)⟩
 .obtain⟨p,vs,l,E,Y⟩:=h2 as e;exact⟨p,vs,l,dt (c7 s) E,Y.sm (c7 s)⟩
 .obtain⟨p,vs,l,E,Y⟩:=h3 as e;exact⟨p,vs,l,E,Y.sm (c7 s)⟩
theorem zb.of{L2:List Addr}{x:Option V}{a:A}(ex:x=some v)(h:dY c.toKx (c.g H L) H x s L2)(ea:s.a=some a):zb c H L v a:=by
 subst ex;obtain⟨l1,N,n⟩:=h.items (g_same _ _ _);refine⟨λas z=>?_,λas z=>?_,λas z=>?_⟩<;>subst z
 .obtain⟨p,vs,q,h1,h2⟩:=l1 as ea;exact⟨p,vs,SM q,h1,h2⟩
 .obtain⟨p,vs,q,h1,h2⟩:=N as ea;exact⟨p,vs,SM q,h1,h2⟩
 .obtain⟨p,vs,q,h1,h2⟩:=n as ea;exact⟨p,vs,SM q,h1,h2⟩
theorem fO.open{r:Rr}{a:A}{G:List Addr}(b:fO c Y H Z (cv r v B) (cw r θ) G)(t:VR Y r v)(e:res Z r=some a):∃L,(∀a,a∈L->a∈G)/\fO c Y H Z B θ L/\zb c H L v a:=by
 have q:∀s,fO c Y H Z (some v::B) (s::θ) G->s.a=some a->∃L,(∀a,a∈L->a∈G)/\fO c Y H Z B θ L/\zb c H L v a:=by
  intro s b ea;obtain⟨nd,rel,own,fr,kp,lt,z⟩:=b;have rel:aB c.toKx (c.g H G) H (some v::(B++Y)) (s::(θ++Z)) G:=rel;cases rel with
  |cons h r=>rename_i m L2;have sm:Sq (c.g H (m++L2)) (c.g H L2):=c7 λa ha=>Sr _ ha;exact⟨L2,λa ha=>Sr _ ha,⟨(SQ.mp nd).2.1,r.sm sm (λ_ _ _ e=>e),λp hp=>own p (Sr _ hp),fr,kp,by simpa using lt,z⟩,zb.of rfl (h.sm sm (λ_ _ _ e=>e)) ea⟩
 cases r with
 |rf i=>
  unfold res at e;cases es:Z[i]? with
  |none=>simp only[es] at e;cases e
  |some s=>simp only[es] at e;obtain⟨m,L2,F,k,n⟩:=aB.split b.lt b.rel;obtain⟨x,_,_,_,w,u,_⟩:=n.at es;have t:Y[i]?=some (some v):=t;rw[t] at w;exact⟨G,λ_ h=>h,b,zb.of (SM w).symm u e⟩
 |fr a'=>exact q _ b e
 |nw o=>exact q _ b e
theorem Bd.open{r:Rr}{v:V}{a:A}(b:Bd c Y H Z (cv r v B) (cw r θ))(t:VR Y r v)(e:res Z r=some a):∃L,fO c Y H Z B θ L/\zb c H L v a:=by obtain⟨L,b⟩:=b;obtain⟨L',_,h⟩:=b.open t e;exact⟨L',h⟩
theorem Bd.sX{r r':Rr}{h:V}{a a':A}(b:Bd c Y H Z (cv r' h (cv r v B)) (cw r' (cw r θ)))(t:VR Y r v)(q:VR Y r' h)(e:res Z r=some a)(p:res Z r'=some a'):∃L,fO c Y H Z B θ L/\zb c H L v a/\zb c H L h a':=by obtain⟨L,b⟩:=b;obtain⟨o,s1,b1,X⟩:=b.open q p;obtain⟨L2,s2,b2,I⟩:=b1.open t e;exact⟨L2,b2,I,X.mono s2⟩
end
variable{x:Str}{pos:Pos}{β:Type}{O:List Sl}{ma mb m:Mi Rr}{Q:VK}{r:R2}{b:Expr}{op:CmpOp}{mt:Mi Bool}{es:List Expr}
section
variable{X:Cx}{E:XK}
noncomputable def aa(i:Nat):Mi Rr:=λZ=>match Z[i]? with
 |some (.fr a)=>some (.ok (.fr a),Z)
 |some (.lv _)=>some (.ok (.rf i),Z)
 |some (.pv _)=>some (.ok (.rf i),Z)
 |_=>none
noncomputable def ai(i:Nat):Mi Rr:=λZ=>match Z[i]? with
 |some (.fr a)=>some (.ok (.fr a),Z)
 |some (.lv o)=>some (.ok (.fr o.a),Z.set i (.fr o.a))
 |_=>none
noncomputable def mC(a:A):Mi Rr:=λZ=>some (.ok (.fr a),Z)
theorem Kd(hN:X.N[i]?=some x)(z:o9 X.env.scope x)(hd:iw x)(t:sv x):JE X E (.Name x pos) (aa i):=
 ⟨PE.weaken (cU hN z hd t) λY H Q h=>by
  obtain⟨c,Z,B,θ,o,O,U,b,em,q⟩:=h;unfold aa at em;cases es:Z[i]? with
  |none=>simp only[es] at em;cases em
  |some s=>
   cases s with
   |un=>simp only[es] at em;cases em
   |fr a=>simp only[es] at em;cases em;obtain⟨v,h1,h2⟩:=b.load es;exact⟨v,h1,q v H trivial h2⟩
   |lv o=>simp only[es] at em;cases em;obtain⟨p,h1⟩:=b.HD (.inl es);exact⟨_,h1,q _ H h1 b⟩
   | pv o=>simp only[es] at em;cases em;obtain⟨p,h1⟩:=b.HD (.inr es);exact⟨_,h1,q _ H h1 b⟩⟩
theorem GI(hN:X.N[i]?=some x)(z:o9 X.env.scope x)(hd:iw x)(t:sv x):JE X E (.Name x pos) (ai i):=
 ⟨PE.weaken (cU hN z hd t) λY H Q h=>by
  obtain⟨c,Z,B,θ,o,O,U,b,em,q⟩:=h;unfold ai at em;cases es:Z[i]? with
  |none=>simp only[es] at em;cases em
  |some s=>
   cases s with
   |un=>simp only[es] at em;cases em
   |fr a=>simp only[es] at em;cases em;obtain⟨v,h1,h2⟩:=b.load es;exact⟨v,h1,q v H trivial h2⟩
   |lv o=>simp only[es] at em;cases em;have b2:=b.xj es;have hi:i<Z.length:=(Sy.mp es).1;obtain⟨v,h1,h2⟩:=b2.load (i:=i) (a:=o.a) (S3 hi);exact⟨v,h1,q v H trivial h2⟩
   | pv o=>simp only[es] at em;cases em⟩
theorem Aj{a:A}(h:PE X e (tC v))(r:∀G,RA (kx X) G v a):JE X E e (mC a):=⟨PE.weaken h λY H Q h=>by obtain⟨c,Z,B,θ,o,O,U,b,em,q⟩:=h;cases em;exact q v H trivial (b.push (by rw[U];exact r))⟩
theorem JY{i j pos}:JE X E (.Constant (.int i) j pos) (mC (.int i)):=Aj IE λ_=>.int _
theorem Px{b j pos}:JE X E (.Constant (.bool b) j pos) (mC (.bl b)):=Aj M0 λ_=>.bl _
theorem Ln{j pos}:JE X E (.Constant .none j pos) (mC .non):=Aj JO λ_=>.non
theorem JB{x j pos}:JE X E (.Constant (.str x) j pos) (mC (.str x)):=Aj nL λ_=>.str _
theorem EN{u:Value}{a:A}(N:Gl X x)(hm:X.mg x=some u)(r:RelV v u)(Y:∀G,RA (kx X) G v a)(hd:iw x):JE X E (.Name x pos) (mC a):=Aj (EH N hm r hd) Y
def aD(f:A->A->Option Rr)(ma mb:Mi Rr):Mi Rr:=aW ma λx=>aW mb λy=>λZ=>match res Z x,res Z y with
 |some a,some b=>match f a b with
  |some r=>some (.ok r,Z)
  |none=>none
 |_,_=>none
def ib(K:Kx)(r:R2)(f:A->A->Option Rr):Prop:=∀(c:Cn)(Y:St)(H:Hp)(Z:List Sl)(B:St)(θ:List Sl)(x y:Rr)(v w:V)(a b:A)(q:Rr)(Q:VK),c.toKx=K->VR Y x v->VR Y y w->
 Bd c Y H Z (cv y w (cv x v B)) (cw y (cw x θ))->res Z x=some a->res Z y=some b->f a b=some q->(∀u H',VR Y q u->Bd c Y H' Z (cv q u B) (cw q θ)->Q u H')->r v w H Q
theorem bind_some{m:Mi α}{f:α->Mi β}{o:Except Str β}(h:aW m f Z=some (o,O)):(∃x U,m Z=some (.ok x,U)/\f x U=some (o,O))\/∃e,m Z=some (.error e,O)/\o=.error e:=by
 unfold aW at h;cases e:m Z with
 |none=>simp only[e] at h;cases h
 |some p=>
  obtain⟨r,U⟩:=p;cases r with
  |ok x=>simp only[e] at h;exact .inl ⟨x,U,rfl,h⟩
  |error x=>simp only[e] at h;cases h;exact .inr ⟨x,rfl,rfl⟩
theorem bH{f:Rr->Mi β}{o:Except Str β}(a:c.toKx=kx X)(b:Bd c Y H Z B θ)(em:aW ma f Z=some (o,O))
  (h1:∀x v U y,VR Y x v->Bd c Y y U (cv x v B) (cw x θ)->f x U=some (o,O)->Q v y)
  (h2:∀e,o=.error e->∀C H,X.mg e=some (.ref C)->Bd c Y H O B θ->E (.ref C) none H):gJ (kx X) E ma Y H Q:=by
 rcases bind_some em with ⟨x,U,F,j⟩|⟨e,F,j⟩
 .exact⟨c,Z,B,θ,_,U,a,b,F,λv y t b1=>h1 x v U y t b1 j⟩
 .exact⟨c,Z,B,θ,_,O,a,b,F,λC y hm b1=>h2 e j C y hm b1⟩
theorem fj{x:Rr}{o:Except Str β}(h:∀e,o=.error e->∀C H,X.mg e=some (.ref C)->Bd c Y H O B θ->E (.ref C) none H):
  ∀e,o=.error e->∀C H,X.mg e=some (.ref C)->Bd c Y H O (cv x v B) (cw x θ)->E (.ref C) none H:=λe q C H hm b=>h e q C H hm b.drop
theorem bh{o:Except Str Rr}(q:Qu (kx X) E c Y O B θ Q o):∀e,o=.error e->∀C H,X.mg e=some (.ref C)->Bd c Y H O B θ->E (.ref C) none H:=λe b=>by subst b;exact q
theorem j0{o:Except Str Bool}{Q:Bool->Hp->Prop}(q:NI (kx X) E c Y O B θ Q o):∀e,o=.error e->∀C H,X.mg e=some (.ref C)->Bd c Y H O B θ->E (.ref C) none H:=λe b=>by subst b;exact q
theorem CY{o:Except Str (List Rr)}{Q:List V->Hp->Prop}(q:Mw (kx X) E c Y O B θ Q o):∀e,o=.error e->∀C H,X.mg e=some (.ref C)->Bd c Y H O B θ->E (.ref C) none H:=λe b=>by subst b;exact q
theorem D3{f:A->A->Option Rr}{x y:Rr}{o:Except Str Rr}(h:(match res Z x,res Z y with|some a,some b=>(match f a b with|some r=>some ((.ok r:Except Str Rr),Z)|none=>none)|_,_=>none)=some (o,O)):
  ∃a b r,res Z x=some a/\res Z y=some b/\f a b=some r/\o=.ok r/\O=Z:=by
 cases F:res Z x with
 |none=>simp only[F] at h;cases h
 |some a=>
  cases j:res Z y with
  |none=>simp only[F,j] at h;cases h
  |some b=>
   simp only[F,j] at h;cases Q:f a b with
   |none=>simp only[Q] at h;cases h
   |some r=>simp only[Q] at h;cases h;exact⟨a,b,r,rfl,rfl,Q,rfl,rfl⟩
theorem dO{f:A->A->Option Rr}(hf:ib (kx X) r f)(Y:St)(H:Hp)(Q:VK)(h:gJ (kx X) E (aD f ma mb) Y H Q):Ph r (gJ (kx X) E ma) (gJ (kx X) E mb) Y H Q:=by obtain⟨c,Z,B,θ,o,O,s,b,em,q⟩:=h;refine bH s b em (λx v U e t b1 p=>?_) (bh q);refine bH s b1 p (λy w Z' T u b2 L=>?_) (fj (bh q));obtain⟨a,d,r,F,j,V,rfl,rfl⟩:=D3 L;exact hf c Y T _ B θ x y v w a d r Q s t u b2 F j V q
theorem qB{op:Operator}{f:A->A->Option Rr}{a:Expr}(i:d6 X (binaryOp op) r)(hf:ib (kx X) r f)(ha:JE X E a ma)(d:JE X E b mb):JE X E (.BinOp a op b pos) (aD f ma mb):=
 ⟨PE.weaken (MC i ha.p d.p) (dO hf)⟩
theorem dG{f:A->A->Option Rr}{a:Expr}(i:d6 X (compareOp op) r)(hf:ib (kx X) r f)(ha:JE X E a ma)(d:JE X E b mb)(hm:behindInMarks op b=false):JE X E (.Compare a [op] [b] pos) (aD f ma mb):=
 ⟨PE.weaken (EM i ha.p d.p hm) (dO hf)⟩
noncomputable def RQ:Rr->Option Bool
 | .fr (.bl b)=>some b
 |_=>none
def ao(m:Mi Rr):Mi Bool:=aW m λr Z=>match RQ r with
 |some b=>some (.ok b,Z)
 |none=>none
theorem eY(Y:St)(H:Hp)(Q:Bool->Hp->Prop)(h:vZ (kx X) E (ao m) Y H Q):gJ (kx X) E m Y H λx H'=>∃k,x=.bl k/\Q k H':=by
 obtain⟨c,Z,B,θ,o,O,s,b,em,q⟩:=h;refine bH s b em (λx v U e t b1 p=>?_) (j0 q);cases x with
 |rf i=>cases p
 |nw o=>cases p
 |fr a=>
  cases a with
  |bl k=>cases p;have r:=Bd.top b1 (a:=.bl k) rfl;cases r;exact⟨k,rfl,q e b1.pop⟩
  |_=>cases p
theorem dE{f:A->A->Option Rr}{a:Expr}(i:d6 X (compareOp op) r)(hf:ib (kx X) r f)(ha:JE X E a ma)(d:JE X E b mb)(hm:behindInMarks op b=false):JT X E (.Compare a [op] [b] pos) (ao (aD f ma mb)):=
 ⟨PT.weaken (EV i ha.p d.p hm) λY H Q h=>dO hf Y H _ (eY Y H Q h)⟩
theorem Iu(h:JE X E e m)(he:∀whole,isTrue e X.env whole=(do let v <- whole;standAt e.pos;holding [v] (truthy v)):=by intro _;rfl):JT X E e (ao m):=
 ⟨PT.weaken (KI h.p he) λY H Q h=>eY Y H Q h⟩
def rS(m n:Mi Bool):Mi Bool:=aW m λb=>if b then n else oS false
def su(m n:Mi Bool):Mi Bool:=aW m λb=>if b then oS true else n
def gZ(m:Mi Bool):Mi Bool:=aW m λb=>oS (!b)
theorem km{m:Mi Bool}{f:Bool->Mi β}{o:Except Str β}{Q:Bool->Hp->Prop}(s:c.toKx=kx X)(b:Bd c Y H Z B θ)(em:aW m f Z=some (o,O))
  (h1:∀k U y,Bd c Y y U B θ->f k U=some (o,O)->Q k y)
  (h2:∀e,o=.error e->∀C H,X.mg e=some (.ref C)->Bd c Y H O B θ->E (.ref C) none H):vZ (kx X) E m Y H Q:=by
 rcases bind_some em with ⟨x,U,F,j⟩|⟨e,F,j⟩
 .exact⟨c,Z,B,θ,_,U,s,b,F,λy b1=>h1 x U y b1 j⟩
 .exact⟨c,Z,B,θ,_,O,s,b,F,λC y hm b1=>h2 e j C y hm b1⟩
theorem KY{a:Expr}{m:Mi Bool}(h:JT X E a m):JT X E (.UnaryOp .Not a pos) (gZ m):=⟨PT.weaken (Ky h.p) λY H Q h=>by obtain⟨c,Z,B,θ,o,O,s,b,em,q⟩:=h;refine km s b em (λk U e b1 x=>?_) (j0 q);cases x;exact q e b1⟩
theorem EC{a:Expr}{m:Mi Bool}(h:JT X E a m):JW X E (.BoolOp .And [a] pos) m:=⟨Gx h.p⟩
theorem Kj{a:Expr}{m:Mi Bool}(h:JT X E a m):JW X E (.BoolOp .Or [a] pos) m:=⟨LD h.p⟩
theorem Kf{a:Expr}{rest:List Expr}{m n:Mi Bool}(h:JT X E a m)(h':JW X E (.BoolOp .And (b::rest) pos) n):JW X E (.BoolOp .And (a::b::rest) pos) (rS m n):=⟨PW.weaken (JL h.p h'.p) λY H Q h=>by
 obtain⟨c,Z,B,θ,o,O,s,b,em,q⟩:=h;refine km s b em (λk U e b1 x=>?_) (j0 q);cases k with
 |true=>rw[if_pos rfl];exact⟨c,U,B,θ,o,O,s,b1,x,q⟩
 | false=>rw[if_neg (by decide)];cases x;exact q e b1⟩
theorem Om{a:Expr}{rest:List Expr}{m n:Mi Bool}(h:JT X E a m)(h':JW X E (.BoolOp .Or (b::rest) pos) n):JW X E (.BoolOp .Or (a::b::rest) pos) (su m n):=⟨PW.weaken (ON h.p h'.p) λY H Q h=>by
 obtain⟨c,Z,B,θ,o,O,s,b,em,q⟩:=h;refine km s b em (λk U e b1 x=>?_) (j0 q);cases k with
 |true=>rw[if_pos rfl];cases x;exact q e b1
 | false=>rw[if_neg (by decide)];exact⟨c,U,B,θ,o,O,s,b1,x,q⟩⟩
theorem ML{m:Mi Bool}(h:JW X E e m):JT X E e m:=⟨h.p.pt⟩
def ip(m n:Mi Rr):Mi Rr:=aW (ao m) λb=>if b then n else mC (.bl false)
def rp(m n:Mi Rr):Mi Rr:=aW (ao m) λb=>if b then mC (.bl true) else n
def jw(m:Mi Rr):Mi Rr:=aW (ao m) λb=>mC (.bl (!b))
theorem qQ{f:Bool->Mi β}{o:Except Str β}{Q:Bool->Hp->Prop}(s:c.toKx=kx X)(b:Bd c Y H Z B θ)(em:aW (ao m) f Z=some (o,O))
  (h1:∀k U y,Bd c Y y U B θ->f k U=some (o,O)->Q k y)
  (h2:∀e,o=.error e->∀C H,X.mg e=some (.ref C)->Bd c Y H O B θ->E (.ref C) none H):gJ (kx X) E m Y H λx H'=>∃k,x=.bl k/\Q k H':=
 eY Y H Q (km s b em h1 h2)
theorem JH{op}{a:Expr}(h:JE X E a m):JE X E (.BoolOp op [a] pos) m:=⟨Jp h.p⟩
theorem Lx{a:Expr}{rest:List Expr}{n:Mi Rr}(h:JE X E a m)(h':JE X E (.BoolOp .And (b::rest) pos) n):JE X E (.BoolOp .And (a::b::rest) pos) (ip m n):=⟨PE.weaken (Lv h.p h'.p) λY H Q h=>by
 obtain⟨c,Z,B,θ,o,O,s,b,em,q⟩:=h;refine qQ (Q:=λk e=>if k=true then gJ (kx X) E n Y e Q else Q (.bl false) e) s b em (λk U e b1 x=>?_) (bh q);cases k with
 |true=>rw[if_pos rfl];exact⟨c,U,B,θ,o,O,s,b1,x,q⟩
 | false=>rw[if_neg (by decide)];cases x;exact q (.bl false) e trivial (b1.push λ_=>.bl _)⟩
theorem Nf{a:Expr}{rest:List Expr}{n:Mi Rr}(h:JE X E a m)(h':JE X E (.BoolOp .Or (b::rest) pos) n):JE X E (.BoolOp .Or (a::b::rest) pos) (rp m n):=⟨PE.weaken (MA h.p h'.p) λY H Q h=>by
 obtain⟨c,Z,B,θ,o,O,s,b,em,q⟩:=h;refine qQ (Q:=λk e=>if k=true then Q (.bl true) e else gJ (kx X) E n Y e Q) s b em (λk U e b1 x=>?_) (bh q);cases k with
 |true=>rw[if_pos rfl];cases x;exact q (.bl true) e trivial (b1.push λ_=>.bl _)
 | false=>rw[if_neg (by decide)];exact⟨c,U,B,θ,o,O,s,b1,x,q⟩⟩
theorem ID{a:Expr}(h:JE X E a m):JE X E (.UnaryOp .Not a pos) (jw m):=⟨PE.weaken (Jd h.p) λY H Q h=>by obtain⟨c,Z,B,θ,o,O,s,b,em,q⟩:=h;refine qQ (Q:=λk e=>Q (.bl (!k)) e) s b em (λk U e b1 x=>?_) (bh q);cases x;exact q (.bl (!k)) e trivial (b1.push λ_=>.bl _)⟩
def Eu(t:Mi Bool)(m n:Mi Rr):Mi Rr:=aW t λb=>if b then m else n
theorem OW{t a:Expr}{n:Mi Rr}(ht:JT X E t mt)(ha:JE X E a m)(d:JE X E b n):JE X E (.IfExp t a b pos) (Eu mt m n):=⟨PE.weaken (Ab ht.p ha.p d.p) λY H Q h=>by
 obtain⟨c,Z,B,θ,o,O,s,b,em,q⟩:=h;refine km s b em (λk U e b1 x=>?_) (bh q);cases k with
 |true=>rw[if_pos rfl];exact⟨c,U,B,θ,o,O,s,b1,x,q⟩
 | false=>rw[if_neg (by decide)];exact⟨c,U,B,θ,o,O,s,b1,x,q⟩⟩
def dz:Mi (List Rr):=oS []
def bx(m:Mi Rr)(n:Mi (List Rr)):Mi (List Rr):=aW m λr=>aW n λrs=>oS (r::rs)
theorem vv:JA X E [] dz:=⟨PA.weaken eF λY H Q h=>by obtain⟨c,Z,B,θ,o,O,s,b,em,q⟩:=h;cases em;exact q [] H trivial b⟩
theorem w8{n:Mi (List Rr)}(h:JE X E e m)(h':JA X E es n)(hs:starEach (e::es) X.env=(false,eval e X.env)::starEach es X.env:=by rfl):JA X E (e::es) (bx m n):=⟨PA.weaken (cE h.p h'.p hs) λY H Q h=>by
 obtain⟨c,Z,B,θ,o,O,ek,b,em,q⟩:=h;refine bH ek b em (λx v U H1 hv b1 em1=>?_) (CY q);rcases bind_some em1 with ⟨rs,Z',e1,e2⟩|⟨e,e1,e2⟩
 .cases e2;exact⟨c,U,_,_,_,O,ek,b1,e1,λvs H2 hvs b2=>q (v::vs) H2 ⟨hv,hvs⟩ b2⟩
 .subst e2;exact⟨c,U,_,_,_,O,ek,b1,e1,λC H2 hm b2=>q C H2 hm b2.drop⟩⟩
end
variable{xs:St}{rs:List Rr}
section
variable{c:Cn}{Y:St}{H:Hp}{Z:List Sl}{B:St}{θ:List Sl}
theorem AJ{l:List α}{x:α}(h:l[i]?=some x):l.set i x=l:=by
 apply UJ;intro j;by_cases z:j=i
 .subst z;rw[S3 (Sy.mp h).1,h]
 .rw[Td (T6 z)]
theorem Dx(h:∀a,a∈L↔a∈L'):c.g H L=c.g H L':=by
 funext a
 by_cases z:a∈L\/a∈c.Hd
 .rw[gX z,gX (by rwa[<-h a])]
 .rw[bB (λy=>z (.inl y)) (λy=>z (.inr y)),bB (λy=>z (.inl ((h a).mpr y))) (λy=>z (.inr y))]
theorem fO.perm(b:fO c Y H Z B θ L){J:St}{T:List Sl}(pm:L'.Perm L)(lt:J.length=T.length)(r:aB c.toKx (c.g H L) H (J++Y) (T++O) L')(kp:gH c.σ0 Y O):fO c Y H O J T L':=
 ⟨(pm.nodup_iff).mpr b.nd,by rw[Dx (L':=L) λa=>pm.mem_iff];exact r,λp hp=>b.own p (pm.mem_iff.mp hp),b.fr,kp,lt,b.hd⟩
theorem Bd.MO{ss:List Sl}(e:xs.length=ss.length)(b:Bd c Y H Z (xs++some v::B) (ss++.lv o::θ)):Bd c Y H Z (xs++some v::B) (ss++.fr o.a::θ):=by
 obtain⟨L,b⟩:=b;have r:aB c.toKx (c.g H L) H (xs++(some v::(B++Y))) (ss++(.lv o::(θ++Z))) L:=by have:=b.rel;simpa[Sw] using this
 obtain⟨m,L2,F,k,n⟩:=aB.split e r;cases n with
 |cons h E=>
  rename_i T D;cases h with
  |lv h=>
   rename_i p q;have nd:=b.nd;rw[F,<-Sw] at nd;obtain⟨U,hp⟩:=lC nd;have sub:∀a,a∈m++D->a∈L:=λa ha=>by rw[F];simp at ha ⊢;rcases ha with z|z<;>simp[z]
   have sm:Sq (c.g H L) (c.g H (m++D)):=c7 sub;refine⟨m++D,U,?_,λq j=>b.own q (sub q j),b.fr,b.kp,by have:=b.lt;simp at this ⊢;lia,b.hd⟩;have:=(k.sm sm (λ_ _ _ e=>e)).app (aB.cons (L:=[]) (.fr (h.a' sm λa ha u e=>by rw[bB (hp a ha) (b.Di (by rw[F];exact Sr _ (Sv _ ha)))];exact e)) (E.sm sm (λ_ _ _ e=>e)));simpa[Sw] using this
theorem Bd.Il{ss:List Sl}{a:A}(e:xs.length=ss.length)(b:Bd c Y H Z (xs++B) (ss++θ))(t:Y[i]?=some (some v))(u:Z[i]?=some (.fr a)):Bd c Y H Z (xs++some v::B) (ss++.fr a::θ):=by
 obtain⟨L,b⟩:=b;obtain⟨M1,M2,_,_,n⟩:=aB.split b.lt b.rel;obtain⟨x,_,_,_,w,q,_⟩:=n.at u;rw[t] at w;cases w;cases q with
 |fr h=>
  have r:aB c.toKx (c.g H L) H (xs++(B++Y)) (ss++(θ++Z)) L:=by have:=b.rel;simpa[Sw] using this
  obtain⟨o,L2,F,k,n⟩:=aB.split e r;refine⟨L,b.nd,?_,b.own,b.fr,b.kp,by have:=b.lt;simp at this ⊢;lia,b.hd⟩;have:=k.app (aB.cons (L:=[]) (.fr h) n);rw[F] at this ⊢;simpa[Sw] using this
theorem B3(o L2 M1 I q:List Addr):(o++(q++(L2++(M1++I)))).Perm (o++(L2++(M1++(q++I)))):=by rw[U4];intro a;simp only[Vb];lia
theorem Bd.Jc{ss:List Sl}(e:xs.length=ss.length)(b:Bd c Y H Z (xs++B) (ss++θ))(V:Y[i]?=some (some v))(u:Z[i]?=some s)(hk:s=.lv o\/s=.pv o):
  Bd c Y H (Z.set i .un) (xs++some v::B) (ss++.lv o::θ):=by
 obtain⟨L,b⟩:=b;have r:aB c.toKx (c.g H L) H (xs++(B++Y)) (ss++(θ++Z)) L:=by have:=b.rel;simpa[Sw] using this
 obtain⟨m,L2,F,k,n⟩:=aB.split e r;obtain⟨X,R,j,E,D⟩:=aB.split (by have:=b.lt;simp at this;lia) n;obtain⟨x,M1,M2,I,w,a,Q,ins⟩:=D.at u;rw[V] at w;cases w;have fin:∀p q,v=.ref p->M2=p::q->LR c.toKx (c.g H L) H p o q->Bd c Y H (Z.set i .un) (xs++some v::B) (ss++.lv o::θ):=by
  intro p q J em h;subst J em;have A:=ins (y:=some (.ref p)) (t:=.un) (L':=[]) (Sq.refl _) (λ_ _ _ e=>e) (.un _);rw[AJ V] at A;have O:=k.app (aB.cons (dY.lv h) (E.app A));have pm:(m++((p::q)++(X++(M1++[]++I)))).Perm L:=by rw[F,j,Q];simpa using B3 m X M1 I (p::q)
  exact⟨_,b.perm pm (by have:=b.lt;simp at this ⊢;lia) (by simpa[Sw] using O) (b.kp.DQ (λo z=>by cases z))⟩
 rcases hk with rfl|rfl
 .cases a with|lv h=>exact fin _ _ rfl rfl h
 .cases a with|pv h=>exact fin _ _ rfl rfl h
theorem Bd.putBack{t:Sl}(b:Bd c Y H Z (some v::B) (.lv o::θ))(V:Y[i]?=some (some v))(u:Z[i]?=some .un)(hk:t=.lv o\/(t=.pv o/\Y[i]?=c.σ0[i]?)):Bd c Y H (Z.set i t) B θ:=by
 obtain⟨L,b⟩:=b;have r:aB c.toKx (c.g H L) H (some v::(B++Y)) (.lv o::(θ++Z)) L:=b.rel;cases r with
 |cons h r=>
  rename_i G L';obtain⟨m,L2,F,k,n⟩:=aB.split (by have:=b.lt;simpa using this) r;obtain⟨x,M1,M2,I,w,T,Q,ins⟩:=n.at u;cases T with
  |un=>
   cases h with
   |lv h=>
    rename_i p q;have fin:dY c.toKx (c.g H ((p::q)++L')) H (some (.ref p)) t (p::q)->gH c.σ0 Y (Z.set i t)->Bd c Y H (Z.set i t) B θ:=λh kp=>by
     have A:=ins (Sq.refl _) (λ_ _ _ e=>e) h;rw[AJ V] at A;have pm:(m++(M1++(p::q)++I)).Perm ((p::q)++L'):=by rw[F,Q];rw[U4];intro a;simp only[Vb,List.count_cons,List.count_nil];lia
     exact⟨_,b.perm pm (by have:=b.lt;simpa using this) (k.app A) kp⟩
    rcases hk with rfl|⟨rfl,hk⟩
    .exact fin (.lv h) (b.kp.DQ (λ_ z=>by cases z))
    .refine fin (.pv h) λj o' q=>?_;by_cases z:j=i
     .subst z;exact hk
     .rw[Td (T6 z)] at q;exact b.kp j o' q
theorem dF:∀(rs:List Rr)(vs:List V)(B:St),c9 rs vs B=c9 rs vs []++B
 |[],_,B=>rfl
 |r::rs,[],B=>rfl
 |r::rs,v::vs,B=>by
  show c9 rs vs (cv r v B)=c9 rs vs (cv r v [])++B;rw[dF rs vs (cv r v B),dF rs vs (cv r v []),Sw]
  congr 1
  cases r<;>rfl
theorem dC:∀(rs:List Rr)(θ:List Sl),da rs θ=da rs []++θ
 |[],θ=>rfl
 |r::rs,θ=>by
  show da rs (cw r θ)=da rs (cw r [])++θ;rw[dC rs (cw r θ),dC rs (cw r []),Sw]
  congr 1
  cases r<;>rfl
theorem mN.len:∀{rs:List Rr}{vs:List V},mN Y rs vs->rs.length=vs.length
 |[],[],_=>rfl
 |_::rs,_::vs,h=>by rw[SF,SF,mN.len h.2]
 |[],_::_,h=>h.elim
 |_::_,[],h=>h.elim
theorem rV:∀(rs:List Rr)(vs:List V),rs.length=vs.length->(c9 rs vs []).length=(da rs []).length
 |[],[],_=>rfl
 |r::rs,v::vs,h=>by
  show (c9 rs vs (cv r v [])).length=(da rs (cw r [])).length;rw[dF,dC,SI,SI,rV rs vs (by simpa using h)]
  congr 1
  cases r<;>rfl
 |[],_::_,h=>by simp at h
 |_::_,[],h=>by simp at h
noncomputable def bz:Rr->List Sl->Option (A×List Sl)
 | .fr a,Z=>some (a,Z)
 | .nw o,Z=>some (o.a,Z)
 | .rf i,Z=>match Z[i]? with
  |some (.lv o)=>some (o.a,Z.set i (.fr o.a))
  |some (.fr a)=>some (a,Z)
  |_=>none
def gB:List Rr->List Sl->Option (List A×List Sl)
 |[],Z=>some ([],Z)
 |r::rs,Z=>match bz r Z with
  |some (a,U)=>match gB rs U with
   |some (as,Z')=>some (a::as,Z')
   |none=>none
  |none=>none
theorem Bd.bz{r:Rr}{v:V}{a:A}{O:List Sl}{xs:St}{ss:List Sl}(e:xs.length=ss.length)(b:Bd c Y H Z (xs++cv r v B) (ss++cw r θ))(t:VR Y r v)(h:bz r Z=some (a,O)):Bd c Y H O (xs++some v::B) (ss++.fr a::θ):=by
 cases r with
 |fr a'=>cases h;exact b
 |nw o=>cases h;exact Bd.MO e b
 |rf i=>
  unfold M.bz at h;cases es:Z[i]? with
  |none=>simp only[es] at h;cases h
  |some s=>
   cases s with
   |un=>simp only[es] at h;cases h
   |pv o=>simp only[es] at h;cases h
   |fr a'=>simp only[es] at h;cases h;exact Bd.Il e b t es
   |lv o=>simp only[es] at h;cases h;have b2:=Bd.xj b es;exact Bd.Il e b2 t (S3 (Sy.mp es).1)
theorem yO{r:Rr}{as:List A}(h:gB (r::rs) Z=some (as,O)):∃a Y U,bz r Z=some (a,U)/\gB rs U=some (Y,O)/\as=a::Y:=by
 unfold gB at h;cases F:bz r Z with
 |none=>simp only[F] at h;cases h
 |some p=>
  obtain⟨a,U⟩:=p;simp only[F] at h;cases j:gB rs U with
  |none=>simp only[j] at h;cases h
  |some q=>obtain⟨Y,Z'⟩:=q;simp only[j] at h;cases h;exact⟨a,Y,U,rfl,j,rfl⟩
theorem Bd.gB:∀{rs:List Rr}{vs:List V}{as:List A}{Z O:List Sl}{B:St}{θ:List Sl},mN Y rs vs->Bd c Y H Z (c9 rs vs B) (da rs θ)->gB rs Z=some (as,O)->Bd c Y H O (vs.reverse.map some++B) (as.reverse.map Sl.fr++θ)/\vs.length=as.length
 |[],[],_,_,_,_,_,_,b,h=>by cases h;exact⟨b,rfl⟩
 |r::rs,v::vs,_,Z,O,B,θ,hv,b,h=>by obtain⟨a,as,U,F,j,rfl⟩:=yO h;have b:Bd c Y H Z (c9 rs vs (cv r v B)) (da rs (cw r θ)):=b;rw[dF,dC] at b;have b1:=Bd.bz (rV rs vs (mN.len hv.2)) b hv.1 F;rw[<-dF rs vs (some v::B),<-dC rs (.fr a::θ)] at b1;obtain⟨b2,Q⟩:=Bd.gB hv.2 b1 j;exact⟨by simpa using b2,by simp[Q]⟩
 |[],_::_,_,_,_,_,_,h,_,_=>h.elim
 |_::_,[],_,_,_,_,_,h,_,_=>h.elim
end
section
variable {X:Cx} {E:XK}
theorem xq        {m:Mi (List Rr)} {f:List Rr → Mi β} {o:Except Str β} {Q:List V → Hp → Prop} (s:c.toKx = kx X) (b:Bd c Y H Z B θ) (em:aW m f Z = some (o,O))
  (h1:∀ rs vs U y,mN Y rs vs → Bd c Y y U (c9 rs vs B) (da rs θ) → f rs U = some (o,O) → Q vs y)
  (h2:∀ e,o = .error e → ∀ C H,X.mg e = some (.ref C) → Bd c Y H O B θ → E (.ref C) none H):Nq (kx X) E m Y H Q:=by
 rcases bind_some em with ⟨x,U,F,j⟩ | ⟨e,F,j⟩
 .exact⟨c,Z,B,θ,_,U,s,b,F,λvs y t b1=>h1 x vs U y t b1 j⟩
 .exact⟨c,Z,B,θ,_,O,s,b,F,λC y hm b1=>h2 e j C y hm b1⟩
def bC(m:Mi (List Rr)):Mi Rr:=aW m λrs Z=>match gB rs Z with
 |some (as,O)=>if as.length<=1000 then some (.ok (.fr (.tup as)),O) else none
 |none=>none
def cS(m:Mi (List Rr)):Mi Rr:=aW m λrs Z=>match gB rs Z with
 |some (as,O)=>if as.length<=1000 then some (.ok (.nw (.lst as)),O) else none
 |none=>none
theorem nJ{as:List A}:∀G,bR k G vs.reverse as.reverse->bR k G vs as:=λG h=>by have:=h.rev;simpa using this
theorem nM:1000<=sizeLine:=by rw[sizeLine_eq];decide
theorem JJ{m:Mi (List Rr)}{x1 pos}(h:JA X E es m):JE X E (.Tuple es x1 pos) (bC m):=⟨PE.weaken (zy h.p) λY H Q h=>by
 obtain⟨c,Z,B,θ,o,O,s,b,em,q⟩:=h;refine xq s b em (λrs vs U e t b1 x=>?_) (bh q);cases F:gB rs U with
 |none=>simp only[F] at x;cases x
 |some p=>
  obtain⟨as,Z'⟩:=p;simp only[F] at x;obtain⟨b2,j⟩:=Bd.gB t b1 F;split at x
  .rename_i hl;cases x;exact⟨by have:=nM;lia,λp hp=>q (.ref p) _ trivial (Bd.zr b2 (by simp[j]) hp vs as nJ)⟩
  .cases x⟩
theorem zY{m:Mi (List Rr)}{pos}(h:JA X E es m):JE X E (.List es pos) (cS m):=⟨PE.weaken (Ik h.p) λY H Q h=>by
 obtain⟨c,Z,B,θ,o,O,s,b,em,q⟩:=h;refine xq s b em (λrs vs U e t b1 x=>?_) (bh q);cases F:gB rs U with
 |none=>simp only[F] at x;cases x
 |some p=>
  obtain⟨as,Z'⟩:=p;simp only[F] at x;obtain⟨b2,j⟩:=Bd.gB t b1 F;split at x
  .rename_i hl;cases x;exact⟨by have:=nM;lia,λp hp=>q (.ref p) _ trivial (Bd.uL b2 (by simp[j]) hp vs as nJ)⟩
  .cases x⟩
end
inductive Fl where
 |nx|rt(s:Sl)|bk|ct|ex(c:Str)
noncomputable abbrev Ms:=List Sl->Option (Fl×List Sl)
noncomputable def ay:Nat->List Sl->List Sl
 |0,_=>[]
 |n+1,[]=>.un::ay n []
 |n+1,.pv o::Z=>.pv o::ay n Z
 |n+1,_::Z=>.un::ay n Z
def jg(K:Kx)(n:Nat)(m:Ms):Sp:=λvs H Q E=>vs.length=n/\∃(c:Cn)(Z:List Sl)(f:Fl)(O:List Sl),c.toKx=K/\c.σ0=vs.map some/\c.H0=H/\fO c (vs.map some) H Z [] [] c.Lp/\m Z=some (f,O) /\
  (match f with
   | .rt s=>∀v H',(∀o,s≠.pv o)->Bd c (vs.map some) H' (ay vs.length O) [some v] [s]->Q v H'
   | .ex x=>∀C H',K.mg x=some (.ref C)->Bd c (vs.map some) H' (ay vs.length O) [] []->E (.ref C) none H'
   | _=>False)
section
variable{k:Kx}{G H:Hp}
theorem aB.back:∀{σ0 Y:St}{Z:List Sl}{L:List Addr},aB k G H Y Z L->(∀(i:Nat)(o:LO),Z[i]?=some (.pv o)->i<σ0.length->Y[i]?=σ0[i]?)->∃L',L'.Sublist L/\aB k G H σ0 (ay σ0.length Z) L'
 |[],_,_,_,_,_=>⟨[],List.nil_sublist _,.nil⟩
 |x::σ0,_,_,_,.nil,h=>by obtain⟨L',s,r⟩:=aB.back (σ0:=σ0) (Y:=[]) (Z:=[]) .nil (λi o e=>by simp at e);exact⟨L',s,aB.cons (L:=[]) (.un x) r⟩
 |x::σ0,_,_,_,.cons (x:=y) (s:=s) (Z:=U) (L:=L1) (L':=L2) hs r,h=>by
  obtain⟨L',sl,r'⟩:=aB.back (σ0:=σ0) r (λi o e hi=>by have:=h (i+1) o e (by simpa using hi);simpa using this);have fin:ay (x::σ0).length (s::U)=.un::ay σ0.length U->∃L',L'.Sublist (L1++L2)/\aB k G H (x::σ0) (ay (x::σ0).length (s::U)) L':=λe=>by rw[e];exact⟨L',sl.trans (Uz _ _),aB.cons (L:=[]) (.un x) r'⟩
  cases s with
  |un=>exact fin rfl
  |fr a=>exact fin rfl
  |lv o=>exact fin rfl
  |pv o=>
   have e:=h 0 o rfl (by simp);have e:y=x:=by simpa using e
   subst e;exact⟨L1++L',Uq (Ue _) sl,aB.cons hs r'⟩
end
variable{as:List Sl}
section
variable{c:Cn}{Y:St}{H:Hp}{Z:List Sl}{B:St}{θ:List Sl}
theorem Bd.back(b:Bd c Y H Z B θ):Bd c c.σ0 H (ay c.σ0.length Z) B θ:=by
 obtain⟨L,b⟩:=b;obtain⟨m,L2,F,k,n⟩:=aB.split b.lt b.rel;obtain⟨L',sl,r⟩:=n.back (σ0:=c.σ0) (λi o e _=>b.kp i o e);have I:(m++L').Sublist L:=by rw[F];exact Uq (Ue _) sl
 have sm:Sq (c.g H L) (c.g H (m++L')):=c7 λa ha=>I.subset ha;exact⟨m++L',b.nd.sublist I,(k.app r).sm sm (λ_ _ _ e=>e),λp hp=>b.own p (I.subset hp),b.fr,λi o _=>rfl,b.lt,b.hd⟩
noncomputable def take1:Rr->List Sl->Option (Sl×List Sl)
 | .fr a,Z=>some (.fr a,Z)
 | .nw o,Z=>some (.fr o.a,Z)
 | .rf i,Z=>match Z[i]? with
  |some (.lv o)=>some (.lv o,Z.set i .un)
  |some (.pv o)=>some (.lv o,Z.set i .un)
  |some (.fr a)=>some (.fr a,Z)
  |_=>none
def cI:List Rr->List Sl->Option (List Sl×List Sl)
 |[],Z=>some ([],Z)
 |r::rs,Z=>match take1 r Z with
  |some (a,U)=>match cI rs U with
   |some (as,Z')=>some (a::as,Z')
   |none=>none
  |none=>none
noncomputable def tq:Sl->Sl
 | .lv o=>.pv o
 |s=>s
theorem u6{r:Rr}(h:cI (r::rs) Z=some (as,O)):∃a Y U,take1 r Z=some (a,U)/\cI rs U=some (Y,O)/\as=a::Y:=by
 unfold cI at h;cases F:take1 r Z with
 |none=>simp only[F] at h;cases h
 |some p=>
  obtain⟨a,U⟩:=p;simp only[F] at h;cases j:cI rs U with
  |none=>simp only[j] at h;cases h
  |some q=>obtain⟨Y,Z'⟩:=q;simp only[j] at h;cases h;exact⟨a,Y,U,rfl,j,rfl⟩
theorem Bd.take1{r:Rr}{v:V}{a:Sl}{O:List Sl}{xs:St}{ss:List Sl}(e:xs.length=ss.length)(b:Bd c Y H Z (xs++cv r v B) (ss++cw r θ))(t:VR Y r v)(h:take1 r Z=some (a,O)):Bd c Y H O (xs++some v::B) (ss++a::θ):=by
 cases r with
 |fr a'=>cases h;exact b
 |nw o=>cases h;exact Bd.MO e b
 |rf i=>
  unfold M.take1 at h;cases es:Z[i]? with
  |none=>simp only[es] at h;cases h
  |some s=>
   cases s with
   |un=>simp only[es] at h;cases h
   |fr a'=>simp only[es] at h;cases h;exact Bd.Il e b t es
   |lv o=>simp only[es] at h;cases h;exact Bd.Jc e b t es (.inl rfl)
   |pv o=>simp only[es] at h;cases h;exact Bd.Jc e b t es (.inr rfl)
theorem Bd.cI:∀{rs:List Rr}{vs:List V}{as:List Sl}{Z O:List Sl}{B:St}{θ:List Sl},mN Y rs vs->Bd c Y H Z (c9 rs vs B) (da rs θ)->cI rs Z=some (as,O)->Bd c Y H O (vs.reverse.map some++B) (as.reverse++θ)/\vs.length=as.length
 |[],[],_,_,_,_,_,_,b,h=>by cases h;exact⟨b,rfl⟩
 |r::rs,v::vs,_,Z,O,B,θ,hv,b,h=>by obtain⟨a,as,U,F,j,rfl⟩:=u6 h;have b:Bd c Y H Z (c9 rs vs (cv r v B)) (da rs (cw r θ)):=b;rw[dF,dC] at b;have b1:=Bd.take1 (rV rs vs (mN.len hv.2)) b hv.1 F;rw[<-dF rs vs (some v::B),<-dC rs (a::θ)] at b1;obtain⟨b2,Q⟩:=Bd.cI hv.2 b1 j;exact⟨by simpa using b2,by simp[Q]⟩
 |[],_::_,_,_,_,_,_,h,_,_=>h.elim
 |_::_,[],_,_,_,_,_,h,_,_=>h.elim
noncomputable def sV(S:List Sl):Rr->Sl->List Sl->Option (List Sl)
 | .rf i,s,Z=>match S[i]?,s,Z[i]? with
  |some (.lv _),.pv o,some .un=>some (Z.set i (.lv o))
  |some (.pv _),.pv o,some .un=>some (Z.set i (.pv o))
  |some (.fr _),_,_=>some Z
  |_,_,_=>none
 |_,_,Z=>some Z
def putL(S:List Sl):List Rr->List Sl->List Sl->Option (List Sl)
 |r::rs,s::ss,Z=>match putL S rs ss Z with
  |some U=>sV S r s U
  |none=>none
 |[],[],Z=>some Z
 |_,_,_=>none
end
section
variable{k:Kx}{G H:Hp}
theorem aB.LH:∀{Y:St}{Z:List Sl}{L:List Addr},aB k G H Y Z L->∃L',L'.Perm L/\aB k G H Y.reverse Z.reverse L'
 |_,_,_,.nil=>⟨[],.refl _,.nil⟩
 |_,_,_,.cons (L:=L1) (L':=L2) h r=>by obtain⟨L',pm,r'⟩:=aB.LH r;refine⟨L'++(L1++[]),?_,by rw[UK,UK];exact r'.app (aB.cons h .nil)⟩;rw[Tp];exact(pm.append_right L1).trans UT
theorem aB.zq:∀{Y:St}{Z:List Sl}{L:List Addr},aB k G H Y Z L->∀p∈L,∀ob vs,H p=some (.frz ob (.dK vs))->False
 |_,_,_,.nil,p,hp,_,_,_=>by cases hp
 |_,_,_,.cons h r,p,hp,ob,vs,e=>by
  rcases Su.mp hp with z|z
  .cases h with
   |un=>cases z
   |fr=>cases z
   |lv h=>exact h.nf p z _ _ e
   |pv h=>exact h.nf p z _ _ e
  .exact r.zq p z ob vs e
theorem aB.tq:∀{Y:St}{Z:List Sl}{L:List Addr},aB k G H Y Z L->aB k G H Y (Z.map tq) L
 |_,_,_,.nil=>.nil
 |_,_,_,.cons h r=>by
  refine aB.cons ?_ (aB.tq r);cases h with
  |un=>exact .un _
  |fr h=>exact .fr h
  |lv h=>exact .pv h
  |pv h=>exact .pv h
noncomputable def zx:Sl->Sl
 | .pv o=>.lv o
 |s=>s
theorem aB.zx:∀{Y:St}{Z:List Sl}{L:List Addr},aB k G H Y Z L->aB k G H Y (Z.map zx) L
 |_,_,_,.nil=>.nil
 |_,_,_,.cons h r=>by
  refine aB.cons ?_ (aB.zx r);cases h with
  |un=>exact .un _
  |fr h=>exact .fr h
  |lv h=>exact .lv h
  |pv h=>exact .lv h
end
section
variable{c:Cn}{Y:St}{H:Hp}{Z:List Sl}{B:St}{θ:List Sl}
theorem Bd.enter(e:vs.length=as.length)(b:Bd c Y H Z (vs.reverse.map some++B) (as.reverse++θ)):
  ∃X:Cn,X.toKx=c.toKx/\X.σ0=vs.map some/\X.H0=H/\fO X (vs.map some) H (as.map tq) [] [] X.Lp /\
   ∀(H':Hp)(O:List Sl)(J:St)(T:List Sl),(∀s∈T,∀o,s≠.pv o)->O.length=vs.length->Bd X (vs.map some) H' O J T->Bd c Y H' Z (vs.reverse.map some++(J++B)) ((O.map zx).reverse++(T++θ)):=by
 obtain⟨L,b⟩:=b;have r:aB c.toKx (c.g H L) H (vs.reverse.map some++(B++Y)) (as.reverse++(θ++Z)) L:=by have:=b.rel;simpa[Sw] using this
 obtain⟨La,v,F,r1,n⟩:=aB.split (by simp[e]) r;obtain⟨Lp,pm,E⟩:=r1.LH;have E:aB c.toKx (c.g H L) H (vs.map some) as Lp:=by simpa[<-Xz] using E
 have V:∀a,a∈Lp++(v++c.Hd)↔a∈L++c.Hd:=λa=>by
  rw[F,Su,Su,Su,Su,pm.mem_iff];constructor
  .rintro(h|h|h)
   .exact .inl (.inl h)
   .exact .inl (.inr h)
   .exact .inr h
  .rintro((h|h)|h)
   .exact .inl h
   .exact .inr (.inl h)
   .exact .inr (.inr h)
 have nd:=b.nd;rw[F] at nd;obtain⟨n1,n2,P⟩:=SQ.mp nd
 let X:Cn:={ toKx:=c.toKx,σ0:=vs.map some,H0:=H,Lp:=Lp,Hd:=v++c.Hd,Wk:=[] }
 have f:∀A m L2,(∀a,a∈m++(v++c.Hd)↔a∈L2++c.Hd)->X.g A m=c.g A L2:=λA m L2 hm=>by
  funext a
  show (if a∈m++(v++c.Hd) then none else A a)=(if a∈L2++c.Hd then none else A a)
  by_cases z:a∈m++(v++c.Hd)
  .rw[if_pos z,if_pos ((hm a).mp z)]
  .rw[if_neg z,if_neg λy=>z ((hm a).mpr y)]
 refine⟨X,rfl,rfl,rfl,⟨(pm.nodup_iff).mpr n1,?_,λp hp=>.inl hp,⟨λq o h=>⟨o,h,λ_ _=>rfl⟩,λq j=>by cases j⟩,λi o _=>rfl,rfl,λp hp=>?_⟩,?_⟩
 .show aB c.toKx (X.g H Lp) H (vs.map some) (as.map tq) Lp;rw[f H Lp L V];exact E.tq
 .rcases Su.mp hp with z|z
  .exact⟨n.is p z,λy=>P p (pm.mem_iff.mp y) p z rfl⟩
  .refine⟨?_,λy=>b.Di (by rw[F];exact Sv _ (pm.mem_iff.mp y)) z⟩;obtain⟨⟨u,h1⟩,h2⟩:=b.hd p z;obtain⟨G,h3,_⟩:=b.fr.st p u h1;exact⟨G,h3⟩
 .intro H' O J T hθ hl t;obtain⟨L',t⟩:=t;obtain⟨I,Ls,e2,q1,q2⟩:=aB.split t.lt t.rel;obtain⟨D,K,q3⟩:=q2.zx.LH;have lt':B.length=θ.length:=by have:=b.lt;simp[e] at this;lia
  obtain⟨Lτ,Lσ,e3,s1,s2⟩:=aB.split lt' n;have C:∀p∈L',p∈Lp\/H p=none:=t.own;have Q:∀p,p∈v->∀u,H p=some u->H' p=some u:=λp hp u h=>by obtain⟨G,h1,h2⟩:=t.fr.st p u h;have:p∉Lp:=λy=>P p (pm.mem_iff.mp y) p hp rfl;rw[h1,h2 this (λw N=>by cases N)]
  have U:∀p,p∈L'->p∉v:=λp hp y=>by
   rcases C p hp with z|z
   .exact P p (pm.mem_iff.mp z) p y rfl
   .obtain⟨u,h⟩:=n.is p y;rw[z] at h;cases h
  have R:Sq (c.g H L) (X.g H' L'):=λa u h=>by
   by_cases z:a∈L\/a∈c.Hd
   .rw[gX z] at h;cases h
   .rw[bB (λy=>z (.inl y)) (λy=>z (.inr y))] at h;have k:a∉Lp:=λy=>z (.inl (by rw[F];exact Sv _ (pm.mem_iff.mp y)));have nr:a∉v:=λy=>z (.inl (by rw[F];exact Sr _ y));obtain⟨G,h1,h2⟩:=t.fr.st a u h;refine⟨G,?_,.inl (h2 k (λw N=>by cases N))⟩;rw[bB (c:=X) (λy=>?_) (λy=>?_)]
    .exact h1
    .rcases C a y with w|w
     .exact k w
     .rw[w] at h;cases h
    .rcases Su.mp y with w|w
     .exact nr w
     .exact z (.inr w)
  have x:X.g H' L'=c.g H' (L'++v):=f H' L' (L'++v) λa=>by simp[Su,or_assoc]
  have s3:aB c.toKx (X.g H' L') H' (B++Y) (θ++Z) v:=n.sm R Q;have cc:aB c.toKx (X.g H' L') H' (vs.reverse.map some++(J++B)++Y) ((O.map zx).reverse++(T++θ)++Z) (D++(I++v)):=by have:=q3.app (q1.app s3);simpa[Sw,<-Xz] using this
  have S:(D++(I++v)).Perm (L'++v):=by rw[e2];have:=K.append_right (I++v);refine this.trans ?_;rw[<-Sw];exact UT.append_right v
  refine⟨D++(I++v),(S.nodup_iff).mpr (SQ.mpr ⟨t.nd,n2,λa ha b2 hb z=>U a ha (by rw[z];exact hb)⟩),?_,λp hp=>?_,⟨λq u h=>?_,λq j=>?_⟩,b.kp,?_,b.hd⟩
  .rw[Dx (c:=c) (H:=H') (L':=L'++v) λa=>S.mem_iff,<-x];exact cc
  .rcases Su.mp (S.mem_iff.mp hp) with z|z
   .rcases C p z with y|y
    .exact b.own p (by rw[F];exact Sv _ (pm.mem_iff.mp y))
    .exact .inr (b.fr.fresh y)
   .exact b.own p (by rw[F];exact Sr _ z)
  .obtain⟨u1,h1,h2⟩:=b.fr.st q u h;obtain⟨l,h3,h4⟩:=t.fr.st q u1 h1;refine⟨l,h3,λd nw=>?_⟩;rw[h4 (λy=>?_) (λw N=>by cases N),h2 d nw];rcases b.own q (by rw[F];exact Sv _ (pm.mem_iff.mp y)) with w|w
   .exact d w
   .rw[w] at h;cases h
  .obtain⟨h1,⟨ob,ws,h2⟩,h3⟩:=b.fr.pk q j;refine⟨?_,⟨ob,ws,h2⟩,h3⟩;obtain⟨l,h4,h5⟩:=t.fr.st q.1 q.2 h1;rw[h4,h5 (λy=>?_) (λw N=>by cases N)];exact E.zq q.1 y ob ws (by rw[h1,h2])
  .have:=t.lt;simp[hl];lia
end
section
variable{c:Cn}{Y:St}{H:Hp}{Z:List Sl}{B:St}{θ:List Sl}
theorem Bd.sV{S O:List Sl}{r:Rr}{s:Sl}{v:V}(kp:gH c.σ0 Y S)(t:VR Y r v)(b:Bd c Y H Z (some v::B) (zx s::θ))(h:sV S r s Z=some O):Bd c Y H O B θ:=by
 cases r with
 |fr a=>cases h;exact b.pop
 |nw o=>cases h;exact b.pop
 |rf i=>
  unfold M.sV at h;cases I:S[i]? with
  |none=>simp only[I] at h;cases h
  |some s0=>
   simp only[I] at h;cases s0 with
   |un=>simp at h
   |fr a=>simp at h;subst h;exact b.pop
   |lv q=>
    cases s with
    |pv o=>
     cases F:Z[i]? with
     |none=>simp[F] at h
     |some s1=>
      cases s1 with
      |un=>simp[F] at h;subst h;exact Bd.putBack b t F (.inl rfl)
      |_=>simp[F] at h
    |_=>simp at h
   |pv q=>
    cases s with
    |pv o=>
     cases F:Z[i]? with
     |none=>simp[F] at h
     |some s1=>
      cases s1 with
      |un=>simp[F] at h;subst h;exact Bd.putBack b t F (.inr ⟨rfl,kp i q I⟩)
      |_=>simp[F] at h
    |_=>simp at h
theorem Bd.putL{S:List Sl}(kp:gH c.σ0 Y S):∀{rs:List Rr}{vs:List V}{ss:List Sl}{Z O:List Sl}{B:St}{θ:List Sl},mN Y rs vs->Bd c Y H Z (vs.reverse.map some++B) ((ss.map zx).reverse++θ)->M.putL S rs ss Z=some O->Bd c Y H O B θ
 |[],[],[],_,_,_,_,_,b,h=>by cases h;exact b
 |r::rs,v::vs,s::ss,Z,O,B,θ,hv,b,h=>by
  unfold M.putL at h;cases e:M.putL S rs ss Z with
  |none=>simp only[e] at h;cases h
  |some U=>
   simp only[e] at h;have b1:Bd c Y H Z (vs.reverse.map some++(some v::B)) ((ss.map zx).reverse++(zx s::θ)):=by simpa[Sw] using b
   exact Bd.sV kp hv.1 (Bd.putL kp hv.2 b1 e) h
 |[],_::_,_,_,_,_,_,h,_,_=>h.elim
 |_::_,[],_,_,_,_,_,h,_,_=>h.elim
 |[],[],_::_,_,_,_,_,_,_,h=>by cases h
 |_::_,_::_,[],_,_,_,_,_,_,h=>by cases h
theorem cA:∀(n:Nat)(Z:List Sl),(ay n Z).length=n
 |0,_=>rfl
 |n+1,[]=>by show (Sl.un::ay n []).length=_;rw[SF,cA n []]
 |n+1,s::Z=>by cases s<;>(show (_::ay n Z).length=_;rw[SF,cA n Z])
theorem mN.app:∀{rs qs:List Rr}{vs us:List V},mN Y rs vs->mN Y qs us->mN Y (rs++qs) (vs++us)
 |[],_,[],_,_,h=>h
 |_::rs,_,_::vs,_,h1,h2=>⟨h1.1,mN.app h1.2 h2⟩
 |[],_,_::_,_,h,_=>h.elim
 |_::_,_,[],_,h,_=>h.elim
theorem mN.my:∀{das:List A}{dvs:List V},das.length=dvs.length->mN Y (das.map Rr.fr) dvs
 |[],[],_=>trivial
 |_::das,_::dvs,h=>⟨trivial,mN.my (by simpa using h)⟩
 |[],_::_,h=>by simp at h
 |_::_,[],h=>by simp at h
theorem nA:∀{rs:List Rr}{vs:List V}(qs:List Rr)(us:List V)(B:St),rs.length=vs.length->c9 (rs++qs) (vs++us) B=c9 qs us (c9 rs vs B)
 |[],[],_,_,_,_=>rfl
 |r::rs,v::vs,qs,us,B,h=>nA (rs:=rs) (vs:=vs) qs us (cv r v B) (by simpa using h)
 |[],_::_,_,_,_,h=>by simp at h
 |_::_,[],_,_,_,h=>by simp at h
theorem kP:∀(rs qs:List Rr)(θ:List Sl),da (rs++qs) θ=da qs (da rs θ)
 |[],_,_=>rfl
 |r::rs,qs,θ=>kP rs qs (cw r θ)
theorem Bd.uu:∀{das:List A}{dvs:List V}{B:St}{θ:List Sl},(∀G,bR c.toKx G dvs das)->Bd c Y H Z B θ->Bd c Y H Z (c9 (das.map Rr.fr) dvs B) (da (das.map Rr.fr) θ)
 |[],[],_,_,_,b=>b
 |a::das,v::dvs,_,_,h,b=>Bd.uu (das:=das) (dvs:=dvs) (λG=>by cases h G;assumption) (Bd.push b λG=>by cases h G;assumption)
 |[],_::_,_,_,h,_=>by cases h (λ_=>none)
 |_::_,[],_,_,h,_=>by cases h (λ_=>none)
end
noncomputable def mU:Sl->Option Rr
 | .fr a=>some (.fr a)
 | .lv o=>some (.nw o)
 |_=>none
def bQ(f:Ms)(das:List A)(ma:Mi (List Rr)):Mi Rr:=aW ma λrs Z=>match cI (rs++das.map Rr.fr) Z with
 |some (as,S)=>match f (as.map tq) with
  |some (.rt s,T)=>match mU s,putL Z (rs++das.map Rr.fr) (ay as.length T) S with
   |some r,some O=>some (.ok r,O)
   |_,_=>none
  |some (.ex x,T)=>match putL Z (rs++das.map Rr.fr) (ay as.length T) S with
   |some O=>some (.error x,O)
   |none=>none
  |_=>none
 |none=>none
variable{dvs:List V}
section
variable{X:Cx}{E:XK}
theorem lh{m:Ms}{n:Nat}{das:List A}(hd:∀G,bR (kx X) G dvs das){o:Except Str Rr}(U:c.toKx=kx X)(hn:(vs++dvs).length=n)
  (t:mN Y rs vs)(b:Bd c Y H Z (c9 rs vs B) (da rs θ)) (em:(match cI (rs++das.map Rr.fr) Z with
 |some (as,S)=>match m (as.map tq) with
  |some (.rt s,T)=>match mU s,putL Z (rs++das.map Rr.fr) (ay as.length T) S with
   |some r,some O=>some (.ok r,O)
   |_,_=>none
  |some (.ex x,T)=>match putL Z (rs++das.map Rr.fr) (ay as.length T) S with
   |some O=>some (.error x,O)
   |none=>none
  |_=>none
 | none=>none)=some (o,O)) (l:∀r,o=.ok r->∀v H',VR Y r v->Bd c Y H' O (cv r v B) (cw r θ)->Q v H') (I:∀x,o=.error x->∀C H',X.mg x=some (.ref C)->Bd c Y H' O B θ->E (.ref C) none H'):jg (kx X) n m (vs++dvs) H Q E:=by
 refine⟨hn,?_⟩;cases F:cI (rs++das.map Rr.fr) Z with
 |none=>simp only[F] at em;cases em
 |some p=>
  obtain⟨as,S⟩:=p;simp only[F] at em;have ld:das.length=dvs.length:=(hd λ_=>none).len.symm;have h:mN Y (rs++das.map Rr.fr) (vs++dvs):=t.app (mN.my ld);have b2:Bd c Y H Z (c9 (rs++das.map Rr.fr) (vs++dvs) B) (da (rs++das.map Rr.fr) θ):=by rw[nA _ _ _ t.len,kP];exact Bd.uu (by rw[U];exact hd) b
  obtain⟨g,D⟩:=Bd.cI h b2 F;obtain⟨K,w,k,P,d,u⟩:=Bd.enter D g;have kp:gH c.σ0 Y Z:=by obtain⟨L,b⟩:=b;exact b.kp
  cases N:m (as.map tq) with
  |none=>simp only[N] at em;cases em
  |some p=>
   obtain⟨f,T⟩:=p;simp only[N] at em;refine⟨K,_,f,T,w.trans U,k,P,d,N,?_⟩;cases f with
   |nx=>cases em
   |bk=>cases em
   |ct=>cases em
   |rt s=>
    simp only at em;cases J:mU s with
    |none=>simp only[J] at em;cases em
    |some r=>
     cases q:putL Z (rs++das.map Rr.fr) (ay as.length T) S with
     |none=>simp only[J,q] at em;cases em
     |some Z'=>
      simp only[J,q] at em;cases em;intro v H' j R;have i:=u H' _ _ _ (λs' V o z=>by rw[Sx.mp V] at z;exact j o z) (cA _ _) R;rw[D] at i;have y:=Bd.putL kp h i q;cases s with
      |fr a=>cases J;exact l _ rfl v H' trivial y
      |lv o=>cases J;exact l _ rfl v H' trivial y
      |_=>cases J
   |ex x=>
    simp only at em;cases q:putL Z (rs++das.map Rr.fr) (ay as.length T) S with
    |none=>simp only[q] at em;cases em
    |some Z'=>simp only[q] at em;cases em;intro C H' hm R;have i:=u H' _ _ _ (λs' V=>by cases V) (cA _ _) R;rw[D] at i;exact I x rfl C H' hm (Bd.putL kp h i q)
theorem GN{CX:sx}{k n:Nat}{f:Addr}{fd:FuncData}{ps:List Str}{m:Ms}{das:List A}{ds:List Value}{p:Pos}{ma:Mi (List Rr)}(F:dq X.prog X.w X.K X.mg X.base CX k f fd ps (jg (kx X) n m))(hr:cQ k X.A)(hg:Gl X x)
  (hm:X.mg x=some (.ref f))(hk:TV X.K (.ref f)=true)(hb:Binds X.K fd ps ds)(hd:Vals dvs ds)(hda:∀G,bR (kx X) G dvs das)(hx:Passes CX X E)(ha:JA X E (e::es) ma)(hn:∀Z rs O,ma Z=some (.ok rs,O)->rs.length+das.length=n)(hdb:iw x)
  (he:starEach (e::es) X.env=(false,eval e X.env)::starEach es X.env:=by rfl)(hpl:(backTo pos (starEach es X.env)).any (·.1)=false:=by rfl):JE X E (.Call (.Name x p) (e::es) [] pos) (bQ m das ma):=
 ⟨PE.weaken (Gb F hr hg hm hk hb hd hx ha.p hdb he hpl) λY H Q h=>by
  obtain⟨c,Z,B,θ,o,O,ek,b,em,q⟩:=h;rcases bind_some em with ⟨rs,U,e1,e2⟩|⟨e,e1,e2⟩
  .refine⟨c,Z,B,θ,_,U,ek,b,e1,λvs H1 hv b1=>?_⟩;refine lh hda ek ?_ hv b1 e2 (λr hr v H' hv b=>by subst hr;exact q v H' hv b) (λx hx=>by subst hx;exact q);rw[SI,<-hv.len,<-hn Z rs U e1,(hda λ_=>none).len]
  .subst e2;exact⟨c,Z,B,θ,_,O,ek,b,e1,λC H1 hm b1=>q C H1 hm b1⟩⟩
theorem zT:∀Z rs O,dz Z=some (.ok rs,O)->rs.length=0:=λZ rs O h=>by cases h;rfl
theorem wa{ma:Mi (List Rr)}{n:Nat}(h:∀Z rs O,ma Z=some (.ok rs,O)->rs.length=n):∀Z rs O,bx m ma Z=some (.ok rs,O)->rs.length=n+1:=λZ rs O e=>by
 rcases bind_some e with ⟨r,U,F,j⟩|⟨_,_,j⟩
 .rcases bind_some j with ⟨rs',Z',Q,b⟩|⟨_,_,b⟩
  .cases b;rw[SF,h _ _ _ Q]
  .cases b
 .cases j
theorem LC{ma:Mi (List Rr)}{n d N:Nat}(h:∀Z rs O,ma Z=some (.ok rs,O)->rs.length=n)(e:n+d=N):∀Z rs O,ma Z=some (.ok rs,O)->rs.length+d=N:=λZ rs O q=>by rw[h Z rs O q];exact e
def J3(K:Kx)(E:XK)(c:Cn)(Z:List Sl)(B:St)(θ:List A)(D:Ends):Fl->Prop
 | .nx=>∀Y H,Bd c Y H Z B (θ.map Sl.fr)->D.nx Y H
 | .rt s=>∀v Y H,(∀o,s≠.pv o)->Bd c Y H Z (some v::B) (s::θ.map Sl.fr)->D.rt v H
 | .bk=>∀Y H,Bd c Y H Z B (θ.map Sl.fr)->D.bk Y H
 | .ct=>∀Y H,Bd c Y H Z B (θ.map Sl.fr)->D.ct Y H
 | .ex x=>∀C Y H,K.mg x=some (.ref C)->Bd c Y H Z B (θ.map Sl.fr)->E (.ref C) none H
inductive RC(K:Kx)(E:XK)(m:Ms)(D:Ends)(Y:St)(H:Hp):Prop
 |mk(c:Cn)(Z:List Sl)(B:St)(θ:List A)(f:Fl)(O:List Sl)(h1:c.toKx=K)(h2:Bd c Y H Z B (θ.map Sl.fr))(h3:m Z=some (f,O))(h4:J3 K E c O B θ D f)
structure JS(X:Cx)(E:XK)(s:Stmt)(m:Ms):Prop where
 p:PS X s (RC (kx X) E m)
structure yF(X:Cx)(E:XK)(s:List Stmt)(m:Ms):Prop where
 p:uq X s (RC (kx X) E m)
theorem PS.weaken{e:Stmt}{t t':TS}(h:PS X e t)(f:∀D Y H,t' D Y H->t D Y H):PS X e t':=λpins s Y H D I q=>h pins s Y H D I (f D Y H q)
theorem uq.weaken{e:List Stmt}{t t':TS}(h:uq X e t)(f:∀D Y H,t' D Y H->t D Y H):uq X e t':=λpins s Y H D I q=>h pins s Y H D I (f D Y H q)
noncomputable def br:Ms:=λZ=>some (.nx,Z)
noncomputable def av(m n:Ms):Ms:=λZ=>match m Z with
 |some (.nx,U)=>n U
 |r=>r
theorem GV:yF X E [] br:=⟨uq.weaken FX λD Y H h=>by obtain⟨c,Z,B,θ,f,O,s,b,em,q⟩:=h;cases em;exact q Y H b⟩
theorem Er{s:Stmt}{m:Ms}(h:JS X E s m):yF X E [s] m:=⟨FA h.p⟩
theorem Bh{s:Stmt}{r:List Stmt}{m n:Ms}(h:JS X E s m)(h':yF X E r n):yF X E (s::r) (av m n):=⟨uq.weaken (Az h.p h'.p) λD Y H h=>by
 obtain⟨c,Z,B,θ,f,O,a,b,em,q⟩:=h;unfold av at em;cases e:m Z with
 |none=>simp only[e] at em;cases em
 |some p=>
  obtain⟨F,U⟩:=p;simp only[e] at em;refine⟨c,Z,B,θ,F,U,a,b,e,?_⟩;cases F with
  |nx=>exact λZ0 H' t=>⟨c,U,B,θ,f,O,a,t,em,q⟩
  |rt s=>cases em;exact q
  |bk=>cases em;exact q
  |ct=>cases em;exact q
  | ex x=>cases em;exact q⟩
theorem Fh{pos}:JS X E (.Pass pos) br:=⟨PS.weaken GF λD Y H h=>by obtain⟨c,Z,B,θ,f,O,s,b,em,q⟩:=h;cases em;exact q Y H b⟩
noncomputable def Bw:Ms:=λZ=>some (.bk,Z)
noncomputable def HQ:Ms:=λZ=>some (.ct,Z)
theorem C8{pos}:JS X E (.Break pos) Bw:=⟨PS.weaken Ao λD Y H h=>by obtain⟨c,Z,B,θ,f,O,s,b,em,q⟩:=h;cases em;exact q Y H b⟩
theorem D6{pos}:JS X E (.Continue pos) HQ:=⟨PS.weaken s9 λD Y H h=>by obtain⟨c,Z,B,θ,f,O,s,b,em,q⟩:=h;cases em;exact q Y H b⟩
noncomputable def c8{α:Type}(m:Mi α)(f:α->Ms):Ms:=λZ=>match m Z with
 |some (.ok x,U)=>f x U
 |some (.error e,U)=>some (.ex e,U)
 |none=>none
theorem dJ{m:Mi α}{f:α->Ms}{o:Fl}(h:c8 m f Z=some (o,O)):(∃x U,m Z=some (.ok x,U)/\f x U=some (o,O))\/∃e,m Z=some (.error e,O)/\o=.ex e:=by
 unfold c8 at h;cases e:m Z with
 |none=>simp only[e] at h;cases h
 |some p=>
  obtain⟨r,U⟩:=p;cases r with
  |ok x=>simp only[e] at h;exact .inl ⟨x,U,rfl,h⟩
  |error x=>simp only[e] at h;cases h;exact .inr ⟨x,rfl,rfl⟩
theorem eU{θ:List A}{f:Rr->Ms}{o:Fl}{D:Ends}(s:c.toKx=kx X)(b:Bd c Y H Z B (θ.map Sl.fr))(em:c8 m f Z=some (o,O))(q:J3 (kx X) E c O B θ D o)
  (h1:∀x v U y,VR Y x v->Bd c Y y U (cv x v B) (cw x (θ.map Sl.fr))->f x U=some (o,O)->Q v y):gJ (kx X) E m Y H Q:=by
 rcases dJ em with ⟨x,U,F,j⟩|⟨e,F,j⟩
 .exact⟨c,Z,B,_,_,U,s,b,F,λv y t b1=>h1 x v U y t b1 j⟩
 .subst j;exact⟨c,Z,B,_,_,O,s,b,F,λC y hm b1=>q C Y y hm b1⟩
theorem FN{θ:List A}{m:Mi Bool}{f:Bool->Ms}{o:Fl}{Q:Bool->Hp->Prop}{D:Ends}(s:c.toKx=kx X)(b:Bd c Y H Z B (θ.map Sl.fr))(em:c8 m f Z=some (o,O))(q:J3 (kx X) E c O B θ D o)
  (h1:∀k U y,Bd c Y y U B (θ.map Sl.fr)->f k U=some (o,O)->Q k y):vZ (kx X) E m Y H Q:=by
 rcases dJ em with ⟨x,U,F,j⟩|⟨e,F,j⟩
 .exact⟨c,Z,B,_,_,U,s,b,F,λy b1=>h1 x U y b1 j⟩
 .subst j;exact⟨c,Z,B,_,_,O,s,b,F,λC y hm b1=>q C Y y hm b1⟩
def bA(m:Mi Rr):Ms:=c8 m λ_ Z=>some (.nx,Z)
theorem EL(h:JE X E e m)(hs:swapsWith e none pos.line X.env=pure false:=by rfl):JS X E (.Expr e pos) (bA m):=⟨PS.weaken (DP h.p hs) λD Y H h=>by obtain⟨c,Z,B,θ,f,O,ek,b,em,q⟩:=h;refine eU ek b em q λx v U H1 hv b1 em1=>?_;cases em1;exact q Y H1 b1.drop⟩
def f9(t:Mi Bool)(m n:Ms):Ms:=c8 t λb=>if b then m else n
theorem Oo{t:Expr}{a b:List Stmt}{m n:Ms}(ht:JT X E t mt)(ha:yF X E a m)(d:yF X E b n):JS X E (.If t a b pos) (f9 mt m n):=⟨PS.weaken (M4 ht.p ha.p d.p) λD Y H h=>by
 obtain⟨c,Z,B,θ,f,O,s,b,em,q⟩:=h;refine FN s b em q λk U e b1 x=>?_;cases k with
 |true=>rw[if_pos rfl];exact⟨c,U,B,θ,f,O,s,b1,x,q⟩
 | false=>rw[if_neg (by decide)];exact⟨c,U,B,θ,f,O,s,b1,x,q⟩⟩
noncomputable def Lm:Rr->List Sl->Option (Sl×List Sl)
 | .fr a,Z=>some (.fr a,Z)
 | .nw o,Z=>some (.lv o,Z)
 | .rf i,Z=>match Z[i]? with
  |some (.lv o)=>some (.lv o,Z.set i .un)
  |_=>none
def bc(m:Mi Rr):Ms:=c8 m λr Z=>match Lm r Z with
 |some (s,O)=>some (.rt s,O)
 |none=>none
theorem Kb(h:JE X E e m):JS X E (.Return (some e) pos) (bc m):=⟨PS.weaken (Jj h.p) λD Y H h=>by
 obtain⟨c,Z,B,θ,f,O,L,b,em,q⟩:=h;refine eU L b em q λx v U y t b1 r=>?_;cases x with
 |fr a=>cases r;exact q v Y y (λo z=>by cases z) b1
 |nw o=>cases r;exact q v Y y (λo z=>by cases z) b1
 |rf i=>
  unfold Lm at r;cases es:U[i]? with
  |none=>simp only[es] at r;cases r
  |some s=>
   cases s with
   |lv o=>simp only[es] at r;cases r;exact q v Y y (λo z=>by cases z) (Bd.Jc (xs:=[]) (ss:=[]) rfl b1 t es (.inl rfl))
   | _=>simp only[es] at r;cases r⟩
noncomputable def HP:Ms:=λZ=>some (.rt (.fr .non),Z)
theorem Gq:JS X E (.Return none pos) HP:=⟨PS.weaken GJ λD Y H h=>by obtain⟨c,Z,B,θ,f,O,s,b,em,q⟩:=h;cases em;exact q .non Y H (λo z=>by cases z) (b.push λ_=>.non)⟩
def wA:Rr->List Sl->Option (Sl×List Sl)
 | .fr a,Z=>some (.fr a,Z)
 | .nw o,Z=>some (.lv o,Z)
 | .rf i,Z=>match bz (.rf i) Z with
  |some (a,O)=>some (.fr a,O)
  |none=>none
noncomputable def put(i:Nat)(s:Sl)(Z:List Sl):Option (List Sl):=match Z[i]? with
 |some (.pv _)=>none
 |some _=>some (Z.set i s)
 |none=>none
theorem Bd.put{c:Cn}{Y:St}{H:Hp}{Z O:List Sl}{B:St}{θ:List Sl}{i:Nat}{v:V}{t:Sl}(b:Bd c Y H Z (some v::B) (t::θ))(ht:∀o,t≠.pv o)(h:put i t Z=some O):Bd c (Y.set i (some v)) H O B θ:=by
 unfold M.put at h;cases es:Z[i]? with
 |none=>simp only[es] at h;cases h
 |some s=>
  cases s with
  |pv o=>simp only[es] at h;cases h
  |un=>simp only[es] at h;cases h;exact b.store es (λo z=>by cases z) ht
  |fr a=>simp only[es] at h;cases h;exact b.store es (λo z=>by cases z) ht
  |lv o=>simp only[es] at h;cases h;exact b.store es (λo z=>by cases z) ht
theorem Bd.wA{c:Cn}{Y:St}{H:Hp}{Z O:List Sl}{B:St}{θ:List Sl}{r:Rr}{v:V}{t:Sl}(L:VR Y r v)(b:Bd c Y H Z (cv r v B) (cw r θ))(h:wA r Z=some (t,O)):Bd c Y H O (some v::B) (t::θ)/\∀o,t≠.pv o:=by
 cases r with
 |fr a=>cases h;exact⟨b,λo z=>by cases z⟩
 |nw o=>cases h;exact⟨b,λo z=>by cases z⟩
 |rf i=>
  unfold M.wA at h;cases e:M.bz (.rf i) Z with
  |none=>simp only[e] at h;cases h
  |some p=>obtain⟨a,U⟩:=p;simp only[e] at h;cases h;exact⟨Bd.bz (r:=.rf i) (xs:=[]) (ss:=[]) rfl b L e,λo z=>by cases z⟩
def aK(i:Nat)(m:Mi Rr):Ms:=c8 m λr Z=>match wA r Z with
 |some (t,U)=>match put i t U with
  |some Z'=>some (.nx,Z')
  |none=>none
 |none=>none
theorem Bo{pos':Pos}(hN:X.N.Nodup)(hi:X.N[i]?=some x)(hx:Loc X.env.scope x)(he:JE X E e m)(hs:swapsWith e (some (.Name x pos')) pos.line X.env=pure false:=by rfl)
  (hf:X.fn x=true\/X.env.scope.names.lookup x=some .local:=by first|exact .inl rfl|exact .inr rfl|assumption):JS X E (.Assign [.Name x pos'] e pos) (aK i m):=⟨PS.weaken (Jy hN hi hx he.p hs hf) λD Y H h=>by
 obtain⟨c,Z,B,θ,f,O,ek,b,em,q⟩:=h;refine eU ek b em q λr v U H1 hv b1 em1=>?_;cases e1:wA r U with
 |none=>simp only[e1] at em1;cases em1
 |some p=>
  obtain⟨t,Z'⟩:=p;simp only[e1] at em1;obtain⟨b2,ht⟩:=Bd.wA hv b1 e1;cases e2:put i t Z' with
  |none=>simp only[e2] at em1;cases em1
  | some F=>simp only[e2] at em1;cases em1;exact q _ H1 (Bd.put b2 ht e2)⟩
noncomputable def bf(loc:Nat)(m:Ms):Ms:=λZ=>match m (Z++S0 loc .un) with
 |some (.nx,O)=>some (.rt (.fr .non),O)
 |some (.rt s,O)=>some (.rt s,O)
 |some (.ex x,O)=>some (.ex x,O)
 |_=>none
theorem oh{k:Kx}{G H:Hp}:∀n,aB k G H (S0 n none) (S0 n Sl.un) []
 |0=>.nil
 |n+1=>aB.cons (L:=[]) (.un _) (oh n)
theorem fO.start{c:Cn}{vs:List V}{H:Hp}{Z:List Sl}(N:List Str)(b:fO c (vs.map some) H Z [] [] c.Lp)(e:c.σ0=vs.map some):Bd c (start N vs) H (Z++S0 (N.length-vs.length) .un) [] []:=by
 have hl:vs.length=Z.length:=by have:=b.rel.len;simpa using this
 refine⟨c.Lp,b.nd,?_,b.own,b.fr,λi o h=>?_,rfl,b.hd⟩
 .have:=b.rel.app (oh (k:=c.toKx) (G:=c.g H c.Lp) (H:=H) (N.length-vs.length));simpa[L2.start] using this
 .have hi:i<Z.length:=by
   by_cases z:i<Z.length
   .exact z
   .rw[S6 (by lia)] at h;have:=SY h;have:=WO this;cases this
  unfold L2.start;rw[Th (by simp;lia),e]
end
variable{r':R2}{K:Kx}
section
variable{X:Cx}{E:XK}
theorem d6.or'{f:Value->Value->Sem Value}(h:d6 X f r)(h':d6 X f r'):d6 X f (λx y H Q=>r x y H Q\/r' x y H Q):=by
 intro pins s Y H x y v u Q I K P q;rcases q with q|q
 .exact h pins s Y H x y v u Q I K P q
 .exact h' pins s Y H x y v u Q I K P q
theorem cx.or'{f:Value}{r r':List V->Hp->VK->Prop}(h:cx X f r)(h':cx X f r'):cx X f (λxs H Q=>r xs H Q\/r' xs H Q):=by
 intro pins s Y H xs us Q I K q;rcases q with q|q
 .exact h pins s Y H xs us Q I K q
 .exact h' pins s Y H xs us Q I K q
noncomputable def bS(f g:A->A->Option Rr):A->A->Option Rr:=λa b=>match f a b with
 |some r=>some r
 |none=>g a b
theorem ib.or{f g:A->A->Option Rr}(h:ib K r f)(h':ib K r' g):ib K (λx y H Q=>r x y H Q\/r' x y H Q) (bS f g):=by
 intro c Y H Z B θ x y v w a b q Q s t o p F j D k;unfold bS at D;cases e:f a b with
 |some z=>simp only[e] at D;cases D;exact .inl (h c Y H Z B θ x y v w a b _ Q s t o p F j e k)
 |none=>simp only[e] at D;exact .inr (h' c Y H Z B θ x y v w a b _ Q s t o p F j D k)
theorem IQ{f g:A->A->Option Rr}(h:gJ (kx X) E (aD (bS f g) ma mb) Y H Q):gJ (kx X) E (aD f ma mb) Y H Q\/gJ (kx X) E (aD g ma mb) Y H Q:=by
 obtain⟨c,Z,B,θ,o,O,s,b,em,q⟩:=h;have V:aD f ma mb Z=some (o,O)\/aD g ma mb Z=some (o,O):=by
  unfold aD aW at em ⊢;cases F:ma Z with
  |none=>simp only[F] at em;cases em
  |some p=>
   obtain⟨x,U⟩:=p;cases x with
   |error e=>simp only[F] at em ⊢;exact .inl em
   |ok x=>
    simp only[F] at em ⊢;cases j:mb U with
    |none=>simp only[j] at em;cases em
    |some p=>
     obtain⟨y,Z'⟩:=p;cases y with
     |error e=>simp only[j] at em ⊢;exact .inl em
     |ok y=>
      simp only[j] at em ⊢;cases D:res Z' x with
      |none=>simp only[D] at em;cases em
      |some a=>
       cases N:res Z' y with
       |none=>simp only[D,N] at em;cases em
       |some d=>
        simp only[D,N] at em ⊢;unfold bS at em;cases J:f a d with
        |some z=>simp only[J] at em ⊢;exact .inl em
        |none=>simp only[J] at em;exact .inr em
 exact V.imp (λk=>⟨c,Z,B,θ,o,O,s,b,k,q⟩) (λk=>⟨c,Z,B,θ,o,O,s,b,k,q⟩)
theorem dD{f g:A->A->Option Rr}(h:JE X E e (aD f ma mb))(h':JE X E e (aD g ma mb)):JE X E e (aD (bS f g) ma mb):=
 ⟨λpins s Y H Q I q=>(IQ q).elim (λq=>h.p pins s Y H Q I q) (λq=>h'.p pins s Y H Q I q)⟩
theorem zC{f g:A->A->Option Rr}{Q:Bool->Hp->Prop}(h:vZ (kx X) E (ao (aD (bS f g) ma mb)) Y H Q):vZ (kx X) E (ao (aD f ma mb)) Y H Q\/vZ (kx X) E (ao (aD g ma mb)) Y H Q:=by
 obtain⟨c,Z,B,θ,o,O,s,b,em,q⟩:=h;have V:ao (aD f ma mb) Z=some (o,O)\/ao (aD g ma mb) Z=some (o,O):=by
  unfold ao aD aW at em ⊢;cases F:ma Z with
  |none=>simp only[F] at em;cases em
  |some p=>
   obtain⟨x,U⟩:=p;cases x with
   |error e=>simp only[F] at em ⊢;exact .inl em
   |ok x=>
    simp only[F] at em ⊢;cases j:mb U with
    |none=>simp only[j] at em;cases em
    |some p=>
     obtain⟨y,Z'⟩:=p;cases y with
     |error e=>simp only[j] at em ⊢;exact .inl em
     |ok y=>
      simp only[j] at em ⊢;cases D:res Z' x with
      |none=>simp only[D] at em;cases em
      |some a=>
       cases N:res Z' y with
       |none=>simp only[D,N] at em;cases em
       |some d=>
        simp only[D,N] at em ⊢;unfold bS at em;cases J:f a d with
        |some z=>simp only[J] at em ⊢;exact .inl em
        |none=>simp only[J] at em;exact .inr em
 exact V.imp (λk=>⟨c,Z,B,θ,o,O,s,b,k,q⟩) (λk=>⟨c,Z,B,θ,o,O,s,b,k,q⟩)
theorem eX{f g:A->A->Option Rr}(h:JT X E e (ao (aD f ma mb)))(h':JT X E e (ao (aD g ma mb))):JT X E e (ao (aD (bS f g) ma mb)):=
 ⟨λpins s Y H Q I q=>(zC q).elim (λq=>h.p pins s Y H Q I q) (λq=>h'.p pins s Y H Q I q)⟩
theorem ib.scalar{f:A->A->Option Rr}(h:∀H v w a b q,RA K H v a->RA K H w b->f a b=some q->∃u d,q=.fr d/\(∀G,RA K G u d)/\∀Q:VK,Q u H->r v w H Q):ib K r f:=by intro c Y H Z B θ x y v w a b q Q s t o p F j D k;have n:=Bd.rd p o j;have z:=Bd.rd p.drop t F;rw[s] at z n;obtain⟨u,d,rfl,L,S⟩:=h H v w a b q z n D;exact S Q (k u H trivial (Bd.push p.drop.drop (by rw[s];exact L)))
noncomputable def fits(n:Nat)(i:Int):Bool:=decide (i.natAbs<2^n)
theorem qC{n:Nat}{i:Int}(h:fits n i=true):L2.Bd n i:=show i.natAbs<2^n from of_decide_eq_true h
theorem fV{n m:Nat}{i:Int}(h:L2.Bd m i)(k:m<=n):fits n i=true:=decide_eq_true (show i.natAbs<2^n from h.mono k)
noncomputable def oV(f:Int->Int->Option Rr):A->A->Option Rr
 | .int i,.int j=>f i j
 |_,_=>none
theorem cL{f:Int->Int->Option Rr}{a b:A}{q:Rr}(h:oV f a b=some q):∃i j,a=.int i/\b=.int j/\f i j=some q:=by
 unfold oV at h;split at h
 .exact⟨_,_,rfl,rfl,h⟩
 .cases h
noncomputable def QG(f:Str->Str->Option Rr):A->A->Option Rr
 | .str i,.str j=>f i j
 |_,_=>none
theorem Bk{f:Str->Str->Option Rr}{a b:A}{q:Rr}(h:QG f a b=some q):∃i j,a=.str i/\b=.str j/\f i j=some q:=by
 unfold QG at h;split at h
 .exact⟨_,_,rfl,rfl,h⟩
 .cases h
def we:A->A->Option Rr:=oV λi j=>some (.fr (.int (i+j)))
def vx:A->A->Option Rr:=oV λi j=>some (.fr (.int (i-j)))
def vO:A->A->Option Rr:=oV λi j=>if fits 20000 i&&fits 20000 j then some (.fr (.int (i*j))) else none
def l9:A->A->Option Rr:=oV λi j=>if j != 0&&fits 9000 j then some (.fr (.int (i.fdiv j))) else none
def j9:A->A->Option Rr:=oV λi j=>if j != 0 then some (.fr (.int (i.fmod j))) else none
def nN:A->A->Option Rr:=oV λi j=>if 0<=j/\j<=1000000/\i.natAbs<2^64 then some (.fr (.int (i^j.toNat))) else none
def vc:A->A->Option Rr:=oV λi j=>some (.fr (.bl (decide (i<j))))
def IA:A->A->Option Rr:=oV λi j=>some (.fr (.bl (decide (j<i))))
def Mo:A->A->Option Rr:=oV λi j=>some (.fr (.bl (decide (j<=i))))
theorem FD:ib K (tX λi j=>.int (i+j)) we:=.scalar λH v w a b q z n h=>by
 replace h:=cL h
 obtain⟨i,j,rfl,rfl,h⟩:=h
 cases z;cases n;cases h
 exact⟨_,_,rfl,λ_=>.int _,λQ k=>⟨_,_,rfl,rfl,k⟩⟩
theorem IT:ib K (tX λi j=>.int (i-j)) vx:=.scalar λH v w a b q z n h=>by
 replace h:=cL h
 obtain⟨i,j,rfl,rfl,h⟩:=h
 cases z;cases n;cases h
 exact⟨_,_,rfl,λ_=>.int _,λQ k=>⟨_,_,rfl,rfl,k⟩⟩
theorem GL:ib K (rI IntMulOk λi j=>.int (i*j)) vO:=.scalar λH v w a b q z n h=>by
 replace h:=cL h
 obtain⟨i,j,rfl,rfl,h⟩:=h
 cases z;cases n
 split at h
 .rename_i hc
  rw[Sn] at hc
  cases h
  exact⟨_,_,rfl,λ_=>.int _,λQ k=>⟨_,_,rfl,rfl,(qC hc.1).OO (qC hc.2) (by decide),k⟩⟩
 .cases h
theorem KW:ib K (rI Rk λi j=>.int (i.fdiv j)) l9:=.scalar λH v w a b q z n h=>by
 replace h:=cL h
 obtain⟨i,j,rfl,rfl,h⟩:=h
 cases z;cases n
 split at h
 .rename_i hc
  rw[Sn] at hc
  cases h
  exact⟨_,_,rfl,λ_=>.int _,λQ k=>⟨_,_,rfl,rfl,⟨by simpa using hc.1,qC hc.2⟩,k⟩⟩
 .cases h
theorem Ju:ib K (rI (λ_ j=>j≠0) λi j=>.int (i.fmod j)) j9:=.scalar λH v w a b q z n h=>by
 replace h:=cL h
 obtain⟨i,j,rfl,rfl,h⟩:=h
 cases z;cases n
 split at h
 .rename_i hc
  cases h
  exact⟨_,_,rfl,λ_=>.int _,λQ k=>⟨_,_,rfl,rfl,by simpa using hc,k⟩⟩
 .cases h
theorem JR:ib K (rI NY λi j=>.int (i^j.toNat)) nN:=.scalar λH v w a b q z n h=>by
 replace h:=cL h
 obtain⟨i,j,rfl,rfl,h⟩:=h
 cases z;cases n
 split at h
 .rename_i hc
  cases h
  exact⟨_,_,rfl,λ_=>.int _,λQ k=>⟨_,_,rfl,rfl,hc,k⟩⟩
 .cases h
theorem G0:ib K (tX λi j=>.bl (decide (i<j))) vc:=.scalar λH v w a b q z n h=>by
 replace h:=cL h
 obtain⟨i,j,rfl,rfl,h⟩:=h
 cases z;cases n;cases h
 exact⟨_,_,rfl,λ_=>.bl _,λQ k=>⟨_,_,rfl,rfl,k⟩⟩
theorem Hf:ib K (tX λi j=>.bl (decide (j<i))) IA:=.scalar λH v w a b q z n h=>by
 replace h:=cL h
 obtain⟨i,j,rfl,rfl,h⟩:=h
 cases z;cases n;cases h
 exact⟨_,_,rfl,λ_=>.bl _,λQ k=>⟨_,_,rfl,rfl,k⟩⟩
theorem He:ib K (tX λi j=>.bl (decide (j<=i))) Mo:=.scalar λH v w a b q z n h=>by
 replace h:=cL h
 obtain⟨i,j,rfl,rfl,h⟩:=h
 cases z;cases n;cases h
 exact⟨_,_,rfl,λ_=>.bl _,λQ k=>⟨_,_,rfl,rfl,k⟩⟩
mutual
noncomputable def toD:A->Option D
 | .non=>some .non
 | .bl b=>some (.bl b)
 | .int i=>some (.int i)
 | .str x=>some (.str x)
 | .tup xs=>match jN xs with
  |some ds=>some (.tup ds)
  |none=>none
 | .lst xs=>match jN xs with
  |some ds=>some (.lst ds)
  |none=>none
 | .dic _=>none
 | .exc _=>none
 | .obj _ _=>none
 | .opq=>none
noncomputable def jN:List A->Option (List D)
 |[]=>some []
 |a::as=>match toD a,jN as with
  |some d,some ds=>some (d::ds)
  |_,_=>none
end
mutual
theorem kY{K:Kx}{H:Hp}:∀{v:V}{a:A}{d:D},RA K H v a->toD a=some d->Den K.K H v d
 |_,_,_,.non,h=>by rw[toD] at h;cases h;exact .non
 |_,_,_,.bl b,h=>by rw[toD] at h;cases h;exact .bl _
 |_,_,_,.int i,h=>by rw[toD] at h;cases h;exact .int _
 |_,_,_,.str x,h=>by rw[toD] at h;cases h;exact .str _
 |_,_,_,.tup (as:=as) e r,h=>by
  rw[toD] at h;cases q:jN as with
  |none=>simp only[q] at h;cases h
  |some ds=>simp only[q] at h;cases h;exact .tup e (mG r q)
 |_,_,_,.lst (as:=as) e r,h=>by
  rw[toD] at h;cases q:jN as with
  |none=>simp only[q] at h;cases h
  |some ds=>simp only[q] at h;cases h;exact .lst e (mG r q)
 |_,_,_,.dic e r,h=>by rw[toD] at h;cases h
 |_,_,_,.exc e m,h=>by rw[toD] at h;cases h
 |_,_,_,.obj e m r,h=>by rw[toD] at h;cases h
 |_,_,_,.opq,h=>by rw[toD] at h;cases h
theorem mG{K:Kx}{H:Hp}:∀{vs:List V}{as:List A}{ds:List D},bR K H vs as->jN as=some ds->fB K.K H vs ds
 |_,_,_,.nil,h=>by rw[jN] at h;cases h;exact .nil
 |_,_,_,.cons (a:=a) (as:=as) q r,h=>by
  rw[jN] at h;cases F:toD a with
  |none=>simp only[F] at h;cases h
  |some d=>
   cases j:jN as with
   |none=>simp only[F,j] at h;cases h
   |some ds=>simp only[F,j] at h;cases h;exact .cons (kY q F) (mG r j)
end
def si(a b:A):Option Bool:=match toD a,toD b with
 |some d,some e=>if D.depth d<=40 then some (D.eq d e) else none
 |_,_=>none
def gG(a b:A):Option Rr:=match si a b with
 |some k=>some (.fr (.bl k))
 |none=>none
def jc(a b:A):Option Rr:=match si a b with
 |some k=>some (.fr (.bl (!k)))
 |none=>none
theorem ug{a b:A}{k:Bool}(h:si a b=some k):∃d e,toD a=some d/\toD b=some e/\D.depth d<=40/\k=D.eq d e:=by
 unfold si at h;cases F:toD a with
 |none=>simp only[F] at h;cases h
 |some d=>
  cases j:toD b with
  |none=>simp only[F,j] at h;cases h
  |some e=>
   simp only[F,j] at h;split at h
   .rename_i hd;cases h;exact⟨d,e,rfl,rfl,hd,rfl⟩
   .cases h
theorem os_eq:ib K (Nw K.K) gG:=.scalar λH v w a b q z n h=>by
 unfold gG at h;cases e:si a b with
 |none=>simp only[e] at h;cases h
 |some k=>simp only[e] at h;cases h;obtain⟨d,d',h1,h2,h3,rfl⟩:=ug e;exact⟨_,_,rfl,λ_=>.bl _,λQ k=>⟨d,d',kY z h1,kY n h2,h3,k⟩⟩
theorem G7:ib K (Oa K.K) jc:=.scalar λH v w a b q z n h=>by
 unfold jc at h;cases e:si a b with
 |none=>simp only[e] at h;cases h
 |some k=>simp only[e] at h;cases h;obtain⟨d,d',h1,h2,h3,rfl⟩:=ug e;exact⟨_,_,rfl,λ_=>.bl _,λQ k=>⟨d,d',kY z h1,kY n h2,h3,k⟩⟩
def xk:A->A->Option Rr:=QG λx y=>if x.length+y.length<=100000 then some (.fr (.str (x++y))) else none
theorem kA:100000<=sizeLine:=by rw[sizeLine_eq];decide
theorem Gk:ib K (λx y H Q=>∃i j,x=.str i/\y=.str j/\i.length+j.length<=sizeLine/\Q (.str (i++j)) H) xk:=.scalar λH v w a b q z n h=>by
 replace h:=Bk h
 obtain⟨i,j,rfl,rfl,h⟩:=h
 cases z;cases n
 split at h
 .rename_i hc
  cases h
  exact⟨_,_,rfl,λ_=>.str _,λQ k=>⟨_,_,rfl,rfl,SW hc kA,k⟩⟩
 .cases h
noncomputable def HI:R2:=λx y H Q=>∃z n,x=.str z/\y=.int n/\MulOk z n/\Q (.str (Txt.mul z n)) H
theorem D1:d6 X (binaryOp .Mult) HI:=by intro pins s Y H x y v u Q I K P h;obtain⟨z,n,rfl,rfl,hok,q⟩:=h;obtain⟨t,rfl⟩:=K;obtain⟨t',rfl⟩:=P;exact SB.mul hok λr k=>⟨.str _,H,I.tok _,⟨r,rfl⟩,q⟩
noncomputable def zm:A->A->Option Rr
 | .str z,.int n=>if 1<=n/\n<=1000/\z.length<=1000 then some (.fr (.str (Txt.mul z n))) else none
 |_,_=>none
theorem EA:ib K HI zm:=.scalar λH v w a b q Y G h=>by
 cases a<;>first|(cases h;done)|(cases b<;>first|(cases h;done)|skip)
 cases Y;cases G;rename_i z n;unfold zm at h;simp only at h;split at h
 .rename_i hc;cases h;refine⟨_,_,rfl,λ_=>.str _,λQ k=>⟨_,_,rfl,rfl,⟨?_,λ_ _ r=>?_,λ_ _=>?_⟩,k⟩⟩
  .rw[Bool.or_eq_false_iff];exact⟨decide_eq_false (by lia),decide_eq_false (by lia)⟩
  .have h1:n*(z.length:Int)<=1000*1000:=Int.mul_le_mul hc.2.1 (by lia) (by lia) (by decide);have h2:(z.length:Int)<=(2^63-1) / n:=by rw[Int.le_ediv_iff_mul_le (by lia)];rw[Wb];lia
   lia
  .unfold Vo;refine decide_eq_false ?_;have h1:z.length*n.toNat<=1000*1000:=Nat.mul_le_mul hc.2.2 (by lia);have:=sizeLine_eq;lia
 .cases h
noncomputable def tI:A->A->Option Rr
 | .tup xs,.tup ys=>if xs.length+ys.length<=100000 then some (.fr (.tup (xs++ys))) else none
 |_,_=>none
def HV(K:So):R2:=λx y H Q=>∃a b xs ys,x=.ref a/\y=.ref b/\gK K H a xs/\gK K H b ys/\xs.length+ys.length<=sizeLine/\(xs=[]->Q (.ref b) H)/\(xs≠[]->ys=[]->Q (.ref a) H) /\
 (xs≠[]->ys≠[]->∀p,H p=none->Q (.ref p) (upd H p (.tup (xs++ys))))
theorem FH:d6 X (binaryOp .Add) (HV X.K):=by
 intro pins s Y H x y v u Q I A P h;obtain⟨a,b,xs,ys,rfl,rfl,ha,d,hz,l,E,L⟩:=h;by_cases w:xs=[]
 .subst w;cases A;cases P;obtain⟨its,k,D,_⟩:=I.tuple ha;obtain⟨T,n,p,_⟩:=I.tuple d;cases k;obtain⟨⟨Z,S,t,l1⟩,F,q,C,r⟩:=id D;obtain⟨⟨J,i,U,N⟩,j,B,R,O⟩:=id p;simp only at q r B O;subst q r B O;exact concat_meets ⟨_,F,rfl⟩ ⟨_,j,rfl⟩ noFill_tuple_add seq_tuple_add Vg U9 (U8 _ _) (Yx a b _ _ C R S i l1 N rfl) ⟨F,j,.ref b,H,I,rfl,l rfl⟩
 .exact ES pins s Y H (.ref a) (.ref b) v u Q I A P ⟨a,b,xs,ys,rfl,rfl,ha,d,w,hz,E w,L w⟩
theorem GU:ib K (HV K.K) tI:=by
 intro c Y H Z B θ x y v w a b q Q s t u O F j D k;cases a<;>first|(cases D;done)|(cases b<;>first|(cases D;done)|skip)
 rename_i xs ys;unfold tI at D;simp only at D;split at D
 .rename_i hc;cases D;obtain⟨L,bl,T,I⟩:=Bd.sX O t u F j;obtain⟨C,h,rfl,s1,r⟩:=T.2.1 xs rfl;obtain⟨i,X,rfl,s2,n⟩:=I.2.1 ys rfl;have l1:=r.len;have N:=n.len;subst s;refine⟨C,i,h,X,rfl,rfl,dt (g_same _ _ _) s1,dt (g_same _ _ _) s2,by have:=kA;lia,λz=>?_,λ_ z=>?_,λ_ _ p hp=>?_⟩
  .subst z;have:xs=[]:=Wg (by rw[<-l1];rfl);subst this;exact k _ H trivial (bl.push (.tup s2 n))
  .subst z;have:ys=[]:=Wg (by rw[<-N];rfl);subst this;rw[Tp] at k;exact k _ H trivial (bl.push (.tup s1 r))
  .obtain⟨b2,sm,np⟩:=bl.new (o:=.tup (h++X)) hp;exact k _ _ trivial (b2.push (.tup (.inl (.inl (by rw[bB np (bl.PN hp)];exact bK))) ((r.app n).sm sm)))
 .cases D
end
variable{w:V}{id:String}
section
variable{X:Cx}{E:XK}
def jb:A->A->Option Rr
 | .lst xs,.int i=>match jd xs i with
  |some a=>some (.fr a)
  |none=>none
 | .tup xs,.int i=>match jd xs i with
  |some a=>some (.fr a)
  |none=>none
 | .str z,.int i=>if z.length<=100000 then match jd z.cps.toList i with
  |some c=>some (.fr (.str ⟨#[c]⟩))
  |none=>none else none
 |_,_=>none
theorem bR.jd{k:Kx}{G:Hp}{vs:List V}{as:List A}{i:Int}{a:A}(r:bR k G vs as)(h:jd as i=some a):∃v,jd vs i=some v/\RA k G v a:=by
 unfold L2.jd at h ⊢;rw[r.len];cases e:p8 as.length i with
 |none=>rw[e] at h;cases h
 |some j=>rw[e] at h;obtain⟨v,h1,h2⟩:=r.ta h;exact⟨v,h1,h2⟩
theorem O6:ib K (Ry K.K) jb:=by
 intro c Y H Z B θ x y v w a b q Q s t r O F j D k;subst s;have n:=Bd.rd O r j;obtain⟨L,bl,X,I⟩:=Bd.sX O t r F j;have T:=Bd.rd O.drop t F;cases a<;>first|(cases D;done)|(cases b<;>first|(cases D;done)|skip)
 .rename_i z i;cases T;cases n;unfold jb at D;simp only at D;split at D
  .rename_i hz;cases e:jd z.cps.toList i with
   |none=>simp only[e] at D;cases D
   |some ch=>simp only[e] at D;cases D;exact .inr (.inr ⟨z,i,ch,rfl,rfl,SW hz kA,e,k _ H trivial (Bd.push ⟨L,bl⟩ λ_=>.str _)⟩)
  .cases D
 .rename_i xs i;cases n;unfold jb at D;simp only at D;cases e:jd xs i with
  |none=>simp only[e] at D;cases D
  |some d=>simp only[e] at D;cases D;obtain⟨p,vs,rfl,s1,h⟩:=X.2.1 xs rfl;obtain⟨u,h1,h2⟩:=h.jd e;exact .inr (.inl ⟨p,vs,i,u,rfl,rfl,dt (g_same _ _ _) s1,h1,k u H trivial (bl.push h2)⟩)
 .rename_i xs i;cases n;unfold jb at D;simp only at D;cases e:jd xs i with
  |none=>simp only[e] at D;cases D
  |some d=>simp only[e] at D;cases D;obtain⟨p,vs,rfl,s1,h⟩:=X.1 xs rfl;obtain⟨u,h1,h2⟩:=h.jd e;exact .inl ⟨p,vs,i,u,rfl,rfl,s1,h1,k u H trivial (bl.push h2)⟩
theorem Jk{a:Expr}(ha:JE X E a ma)(d:JE X E b mb)(u:mJ b):JE X E (.Subscript a b pos) (aD jb ma mb):=
 ⟨PE.weaken (Ob LS ha.p d.p u) (dO O6)⟩
noncomputable def iu:A->Option Key
 | .int i=>some (.inl i)
 | .str x=>some (.inr x)
 |_=>none
theorem jO{b:A}{y:Key}(r:RA K H w b)(h:iu b=some y):w=kV y:=by cases r<;>first|(cases h;rfl)|(cases h;done)
def bZ:A->A->Option Rr
 | .dic kvs,b=>match iu b with
  |some y=>match gy kvs y with
   |some a=>some (.fr a)
   |none=>none
  |none=>none
 |_,_=>none
theorem EJ:ib K (λx y H Q=>∃a v,x=.ref a/\iV H a y (some v)/\Q v H) bZ:=by
 intro c Y H Z B θ x y v w a b q Q s t r O F j D k;subst s;have n:=Bd.rd O r j;obtain⟨L,bl,T,I⟩:=Bd.sX O t r F j;cases a<;>first|(cases D;done)|skip
 rename_i kvs;unfold bZ at D;simp only at D;cases h:iu b with
 |none=>simp only[h] at D;cases D
 |some X=>
  simp only[h] at D;obtain⟨p,vs,rfl,s1,A⟩:=T.2.2 kvs rfl;rcases A.get X with ⟨u,a,h1,h2,h3⟩|⟨h1,h2⟩
  .simp only[h2] at D;cases D;exact⟨p,u,rfl,.inl ⟨vs,X,s1,jO n h,h1.symm⟩,k u H trivial (bl.push h3)⟩
  .simp only[h2] at D;cases D
theorem GH{a:Expr}(f:X.A.units+1<cLine)(ha:JE X E a ma)(d:JE X E b mb)(u:AI b):JE X E (.Subscript a b pos) (aD bZ ma mb):=
 ⟨PE.weaken (Ep f ha.p d.p u) (dO (r:=λx y H Q=>∃a v,x=.ref a/\iV H a y (some v)/\Q v H) EJ)⟩
theorem OY{a:Expr}(f:X.A.units+1<cLine)(ha:JE X E a ma)(d:JE X E b mb)(u:mJ b)(V:AI b):JE X E (.Subscript a b pos) (aD (bS jb bZ) ma mb):=dD (Jk ha d u) (GH f ha d V)
noncomputable def pB:A->Bool
 | .non=>true
 | .bl _=>true
 | .int _=>true
 | .str _=>true
 |_=>false
noncomputable def tD:A->V
 | .non=>.non
 | .bl b=>.bl b
 | .int i=>.int i
 | .str x=>.str x
 |_=>.non
theorem Bb{b:A}(r:RA K H w b)(h:pB b=true):w=tD b/\iz w=true:=by cases r<;>first|exact⟨rfl,rfl⟩|(cases h;done)
theorem xr{K:Kx}{H:Hp}:∀{vs:List V}{as:List A},bR K H vs as->as.all pB=true->vs=as.map tD/\vs.all iz=true
 |_,_,.nil,_=>⟨rfl,rfl⟩
 |_,_,.cons h r,e=>by rw[S2,Sn] at e;obtain⟨h1,h2⟩:=Bb h e.1;obtain⟨h3,h4⟩:=xr r e.2;exact⟨by rw[h1,h3];rfl,by rw[S2,h2,h4];rfl⟩
def Mp(neg:Bool)(x:A)(xs:List A):Option Rr:=if pB x&&xs.all pB then some (.fr (.bl (if neg then !Mu (tD x) (xs.map tD) else Mu (tD x) (xs.map tD)))) else none
def gb(neg:Bool):A->A->Option Rr
 |x,.lst xs=>Mp neg x xs
 |x,.tup xs=>Mp neg x xs
 |_,_=>none
theorem rR{neg:Bool}:ib K (P6 K.K neg) (gb neg):=.scalar λH v w a b q z n h=>by
 have Y:∀(xs:List A)(vs:List V)(p:Addr),bR K H vs xs->(gI K.K H p vs\/gK K.K H p vs)->Mp neg a xs=some q->∃u d,q=.fr d/\(∀G,RA K G u d)/\∀Q:VK,Q u H->P6 K.K neg v (.ref p) H Q:=by
  intro xs vs p B sq h;unfold Mp at h;split at h
  .rename_i hc;rw[Sn] at hc;cases h;obtain⟨rfl,h2⟩:=Bb z hc.1;obtain⟨rfl,h4⟩:=xr B hc.2;exact⟨_,_,rfl,λ_=>.bl _,λQ k=>⟨p,_,rfl,sq,h2,h4,k⟩⟩
  .cases h
 cases b<;>first|(cases h;done)|skip
 .cases n with|tup e r=>exact Y _ _ _ r (.inr e) h
 .cases n with|lst e r=>exact Y _ _ _ r (.inl e) h
def eS(neg:Bool):A->A->Option Rr
 |x,.dic kvs=>match iu x with
  |some y=>some (.fr (.bl (if neg then !(gy kvs y).isSome else (gy kvs y).isSome)))
  |none=>none
 |_,_=>none
theorem CU:ib K (λy x H Q=>∃a o,x=.ref a/\iV H a y o/\Q (.bl o.isSome) H) (eS false):=.scalar λH v w a b q z n h=>by
 cases b<;>first|(cases h;done)|skip
 cases n with
 |dic e r=>
  unfold eS at h;simp only at h;cases Y:iu a with
  |none=>simp only[Y] at h;cases h
  |some y=>
   simp only[Y] at h;cases h;refine⟨_,_,rfl,λ_=>.bl _,λQ k=>⟨_,_,rfl,.inl ⟨_,y,e,jO z Y,rfl⟩,?_⟩⟩;rcases r.get y with ⟨u,a,h1,h2,h3⟩|⟨h1,h2⟩
   .rw[h1];rw[h2] at k;exact k
   .rw[h1];rw[h2] at k;exact k
theorem wD:ib K (λy x H Q=>∃a o,x=.ref a/\iV H a y o/\Q (.bl (!o.isSome)) H) (eS true):=.scalar λH v w a b q z n h=>by
 cases b<;>first|(cases h;done)|skip
 cases n with
 |dic e r=>
  unfold eS at h;simp only at h;cases Y:iu a with
  |none=>simp only[Y] at h;cases h
  |some y=>
   simp only[Y] at h;cases h;refine⟨_,_,rfl,λ_=>.bl _,λQ k=>⟨_,_,rfl,.inl ⟨_,y,e,jO z Y,rfl⟩,?_⟩⟩;rcases r.get y with ⟨u,a,h1,h2,h3⟩|⟨h1,h2⟩
   .rw[h1];rw[h2] at k;exact k
   .rw[h1];rw[h2] at k;exact k
theorem KH{a:Expr}(f:X.A.units+1<cLine)(ha:JE X E a ma)(d:JE X E b mb)(hm:behindInMarks .In b=false):JE X E (.Compare a [.In] [b] pos) (aD (eS false) ma mb):=
 ⟨PE.weaken (zw (Cf f ha.p d.p) hm) (dO (r:=λy x H Q=>∃a o,x=.ref a/\iV H a y o/\Q (.bl o.isSome) H) CU)⟩
theorem Ig{a:Expr}(f:X.A.units+1<cLine)(ha:JE X E a ma)(d:JE X E b mb)(hm:behindInMarks .In b=false):JT X E (.Compare a [.In] [b] pos) (ao (aD (eS false) ma mb)):=
 ⟨PT.weaken (Af (Cf f ha.p d.p) hm) λY H Q h=>dO (r:=λy x H Q=>∃a o,x=.ref a/\iV H a y o/\Q (.bl o.isSome) H) CU Y H _ (eY Y H Q h)⟩
theorem DH{a:Expr}(f:X.A.units+1<cLine)(ha:JE X E a ma)(d:JE X E b mb)(hm:behindInMarks .NotIn b=false):JE X E (.Compare a [.NotIn] [b] pos) (aD (eS true) ma mb):=
 ⟨PE.weaken (zw (pG f ha.p d.p) hm) (dO (r:=λy x H Q=>∃a o,x=.ref a/\iV H a y o/\Q (.bl (!o.isSome)) H) wD)⟩
theorem GO{a:Expr}(f:X.A.units+1<cLine)(ha:JE X E a ma)(d:JE X E b mb)(hm:behindInMarks .NotIn b=false):JT X E (.Compare a [.NotIn] [b] pos) (ao (aD (eS true) ma mb)):=
 ⟨PT.weaken (Af (pG f ha.p d.p) hm) λY H Q h=>dO (r:=λy x H Q=>∃a o,x=.ref a/\iV H a y o/\Q (.bl (!o.isSome)) H) wD Y H _ (eY Y H Q h)⟩
theorem OT{a:Expr}(f:X.A.units+1<cLine)(ha:JE X E a ma)(d:JE X E b mb)(hm:behindInMarks .In b=false):JE X E (.Compare a [.In] [b] pos) (aD (bS (gb false) (eS false)) ma mb):=dD (dG qh rR ha d hm) (KH f ha d hm)
theorem Ov{a:Expr}(f:X.A.units+1<cLine)(ha:JE X E a ma)(d:JE X E b mb)(hm:behindInMarks .In b=false):JT X E (.Compare a [.In] [b] pos) (ao (aD (bS (gb false) (eS false)) ma mb)):=eX (dE qh rR ha d hm) (Ig f ha d hm)
theorem KU{a:Expr}(f:X.A.units+1<cLine)(ha:JE X E a ma)(d:JE X E b mb)(hm:behindInMarks .NotIn b=false):JE X E (.Compare a [.NotIn] [b] pos) (aD (bS (gb true) (eS true)) ma mb):=dD (dG kD rR ha d hm) (DH f ha d hm)
theorem Js{a:Expr}(f:X.A.units+1<cLine)(ha:JE X E a ma)(d:JE X E b mb)(hm:behindInMarks .NotIn b=false):JT X E (.Compare a [.NotIn] [b] pos) (ao (aD (bS (gb true) (eS true)) ma mb)):=eX (dE kD rR ha d hm) (GO f ha d hm)
noncomputable def uN:A->Bool
 | .non=>true
 |_=>false
def xM(neg:Bool):A->A->Option Rr
 |a,.non=>some (.fr (.bl (if neg then !uN a else uN a)))
 |_,_=>none
theorem wX{a:A}(r:RA K H v a):decide (v=.non)=uN a:=by cases r<;>rfl
theorem HA:ib K (λx y H Q=>y=.non/\Q (.bl (decide (x=.non))) H) (xM false):=.scalar λH v w a b q z n h=>by
 cases b<;>first|(cases h;done)|skip
 cases n;cases h;exact⟨_,_,rfl,λ_=>.bl _,λQ k=>⟨rfl,by rw[wX z];exact k⟩⟩
theorem xg:ib K (λx y H Q=>y=.non/\Q (.bl (!decide (x=.non))) H) (xM true):=.scalar λH v w a b q z n h=>by
 cases b<;>first|(cases h;done)|skip
 cases n;cases h;exact⟨_,_,rfl,λ_=>.bl _,λQ k=>⟨rfl,by rw[wX z];exact k⟩⟩
def d0(f:A->Option Rr)(m:Mi Rr):Mi Rr:=aW m λx Z=>match res Z x with
 |some a=>match f a with
  |some r=>some (.ok r,Z)
  |none=>none
 |none=>none
def lE(K:Kx)(r:V->Hp->VK->Prop)(f:A->Option Rr):Prop:=∀(c:Cn)(Y:St)(H:Hp)(Z:List Sl)(B:St)(θ:List Sl)(x:Rr)(v:V)(a:A)(q:Rr)(Q:VK),c.toKx=K->VR Y x v->
 Bd c Y H Z (cv x v B) (cw x θ)->res Z x=some a->f a=some q->(∀u H',VR Y q u->Bd c Y H' Z (cv q u B) (cw q θ)->Q u H')->r v H Q
theorem sd{f:A->Option Rr}{x:Rr}{o:Except Str Rr}(h:(match res Z x with|some a=>(match f a with|some r=>some ((.ok r:Except Str Rr),Z)|none=>none)|none=>none)=some (o,O)):∃a r,res Z x=some a/\f a=some r/\o=.ok r/\O=Z:=by
 cases F:res Z x with
 |none=>simp only[F] at h;cases h
 |some a=>
  simp only[F] at h;cases Q:f a with
  |none=>simp only[Q] at h;cases h
  |some r=>simp only[Q] at h;cases h;exact⟨a,r,rfl,Q,rfl,rfl⟩
theorem jV{r:V->Hp->VK->Prop}{f:A->Option Rr}(hf:lE (kx X) r f)(Y:St)(H:Hp)(Q:VK)(h:gJ (kx X) E (d0 f m) Y H Q):gJ (kx X) E m Y H λv H'=>r v H' Q:=by obtain⟨c,Z,B,θ,o,O,s,b,em,q⟩:=h;refine bH s b em (λx v U e t b1 p=>?_) (bh q);obtain⟨a,r,F,D,rfl,rfl⟩:=sd p;exact hf c Y e _ B θ x v a r Q s t b1 F D q
theorem lE.scalar{r:V->Hp->VK->Prop}{f:A->Option Rr}(h:∀H v a q,RA K H v a->f a=some q->∃u d,q=.fr d/\(∀G,RA K G u d)/\∀Q:VK,Q u H->r v H Q):lE K r f:=by intro c Y H Z B θ x v a q Q s t O F D k;have z:=Bd.rd O t F;rw[s] at z;obtain⟨u,d,rfl,L,j⟩:=h H v a q z D;exact j Q (k u H trivial (Bd.push O.drop (by rw[s];exact L)))
noncomputable def nY:A->Option Rr
 | .int i=>some (.fr (.int (-i)))
 |_=>none
theorem IM{a:Expr}(h:JE X E a m):JE X E (.UnaryOp .USub a pos) (d0 nY m):=⟨PE.weaken (NG J6 h.p) (jV (.scalar λH v a q z h=>by
 cases a<;>first|(cases h;done)|skip
 cases z;cases h;exact⟨_,_,rfl,λ_=>.int _,λQ k=>⟨_,rfl,k⟩⟩))⟩
def cb(f:A->Option Rr)(m:Mi Rr):Mi Rr:=d0 f m
def HB(f:A->A->Option Rr)(m n:Mi Rr):Mi Rr:=aD f m n
theorem vR{r:List V->Hp->VK->Prop}{f:A->Option Rr}{p:Pos}(hc:cx X (.builtin id) r)(hf:lE (kx X) (λv=>r [v]) f)(hg:Gl X x)(hm:X.mg x=none)(hv:bootBuiltins x=some (.builtin id))(ha:JE X E e m)(hn:x ≠ "__name__")
  (hdb:iw x)(hs:starEach [e] X.env=(false,eval e X.env)::starEach [] X.env:=by rfl)(hp:(backTo pos (starEach [] X.env)).any (·.1)=false:=by rfl):JE X E (.Call (.Name x p) [e] [] pos) (cb f m):=
 ⟨PE.weaken (nR hc hg hm hv (cE ha.p eF hs) hn hdb hs hp) λY H Q h=>jV hf Y H Q h⟩
theorem vS{T:String}{r:List V->Hp->VK->Prop}{f:A->Option Rr}{p:Pos}(hc:cx X (.type T) r)(hf:lE (kx X) (λv=>r [v]) f)(hg:Gl X x)(hm:X.mg x=none)(hv:bootBuiltins x=some (.type T))(ha:JE X E e m)(hn:x ≠ "__name__")
  (hdb:iw x)(hs:starEach [e] X.env=(false,eval e X.env)::starEach [] X.env:=by rfl)(hp:(backTo pos (starEach [] X.env)).any (·.1)=false:=by rfl):JE X E (.Call (.Name x p) [e] [] pos) (cb f m):=
 ⟨PE.weaken (yz hc hg hm hv (cE ha.p eF hs) hn hdb hs hp) λY H Q h=>jV hf Y H Q h⟩
theorem Hn{r:List V->Hp->VK->Prop}{f:A->A->Option Rr}{p:Pos}{e1 e2:Expr}{n:Mi Rr}(hc:cx X (.builtin id) r)(hf:ib (kx X) (λv w=>r [v,w]) f)(hg:Gl X x)(hm:X.mg x=none)(hv:bootBuiltins x=some (.builtin id))(h1:JE X E e1 m)(h2:JE X E e2 n)(hn:x ≠ "__name__")
  (hdb:iw x)(hs:starEach [e1,e2] X.env=(false,eval e1 X.env)::starEach [e2] X.env:=by rfl)(hs2:starEach [e2] X.env=(false,eval e2 X.env)::starEach [] X.env:=by rfl)(hp:(backTo pos (starEach [e2] X.env)).any (·.1)=false:=by rfl):JE X E (.Call (.Name x p) [e1,e2] [] pos) (HB f m n):=
 ⟨PE.weaken (nR hc hg hm hv (cE h1.p (cE h2.p eF hs2) hs) hn hdb hs hp) λY H Q h=>dO (r:=λv w=>r [v,w]) hf Y H Q h⟩
noncomputable def gc:A->Option Rr
 | .str z=>if z.length<=100000 then some (.fr (.int z.length)) else none
 | .lst xs=>some (.fr (.int xs.length))
 | .tup xs=>some (.fr (.int xs.length))
 |_=>none
theorem LW:lE K (λv H Q=>∃x n,[v]=[x]/\M8 K.K x H n/\Q (.int n) H) gc:=.scalar λH v a q z h=>by
 cases a<;>first|(cases h;done)|skip
 .cases z;unfold gc at h;simp only at h;split at h
  .rename_i hz;cases h;exact⟨_,_,rfl,λ_=>.int _,λQ k=>⟨_,_,rfl,⟨SW hz kA,rfl⟩,k⟩⟩
  .cases h
 .cases z with
  |tup e r=>cases h;exact⟨_,_,rfl,λ_=>.int _,λQ k=>⟨_,_,rfl,.inr ⟨_,e,rfl⟩,by rw[r.len];exact k⟩⟩
 .cases z with
  |lst e r=>cases h;exact⟨_,_,rfl,λ_=>.int _,λQ k=>⟨_,_,rfl,.inl ⟨_,e,rfl⟩,by rw[r.len];exact k⟩⟩
noncomputable def qZ:A->Option Rr
 | .int i=>some (.fr (.int (if i<0 then -i else i)))
 |_=>none
theorem Ii:lE K (λv H Q=>∃i,[v]=[V.int i]/\Q (.int (if i<0 then -i else i)) H) qZ:=.scalar λH v a q z h=>by
 cases a<;>first|(cases h;done)|skip
 cases z;cases h;exact⟨_,_,rfl,λ_=>.int _,λQ k=>⟨_,rfl,k⟩⟩
def F6:A->A->Option Rr:=oV λi j=>some (.fr (.int (if j > i then j else i)))
def Em:A->A->Option Rr:=oV λi j=>some (.fr (.int (if j<i then j else i)))
theorem Ji:ib K (λv w H Q=>∃i j,[v,w]=[V.int i,V.int j]/\Q (.int (if j > i then j else i)) H) F6:=.scalar λH v w a b q z n h=>by
 replace h:=cL h
 obtain⟨i,j,rfl,rfl,h⟩:=h
 cases z;cases n;cases h
 exact⟨_,_,rfl,λ_=>.int _,λQ k=>⟨_,_,rfl,k⟩⟩
theorem Kq:ib K (λv w H Q=>∃i j,[v,w]=[V.int i,V.int j]/\Q (.int (if j<i then j else i)) H) Em:=.scalar λH v w a b q z n h=>by
 replace h:=cL h
 obtain⟨i,j,rfl,rfl,h⟩:=h
 cases z;cases n;cases h
 exact⟨_,_,rfl,λ_=>.int _,λQ k=>⟨_,_,rfl,k⟩⟩
noncomputable def Fu:A->Option Rr
 | .int i=>some (.fr (.int i))
 | .bl k=>some (.fr (.int (if k then 1 else 0)))
 |_=>none
theorem J7:lE K (λv H Q=>(∃i,[v]=[V.int i]/\Q (.int i) H)\/∃k,[v]=[V.bl k]/\Q (.int (if k then 1 else 0)) H) Fu:=.scalar λH v a q z h=>by
 cases a<;>first|(cases h;done)|skip
 .cases z;cases h;exact⟨_,_,rfl,λ_=>.int _,λQ k=>.inr ⟨_,rfl,k⟩⟩
 .cases z;cases h;exact⟨_,_,rfl,λ_=>.int _,λQ k=>.inl ⟨_,rfl,k⟩⟩
noncomputable def JC:A->Option (List A)
 | .lst xs=>some xs
 | .tup xs=>some xs
 |_=>none
def zu(a:A):Option Rr:=match JC a with
 |some xs=>some (.nw (.lst xs))
 |none=>none
def hE(a:A):Option Rr:=match JC a with
 |some xs=>some (.fr (.tup xs))
 |none=>none
theorem Gu:lE K (λv H Q=>∃p ys,[v]=[V.ref p]/\(gI K.K H p ys\/gK K.K H p ys)/\∀l,H l=none->Q (.ref l) (upd H l (.lst ys))) zu:=by
 intro c Y H Z B θ x v a q Q s t O F D k;subst s;obtain⟨L,bl,X⟩:=Bd.open O t F;cases a<;>first|(cases D;done)|skip
 .rename_i xs;cases D;obtain⟨p,vs,rfl,s1,h⟩:=X.2.1 xs rfl;exact⟨p,vs,rfl,.inr (dt (g_same _ _ _) s1),λl hl=>k _ _ trivial (bl.hZ hl λG H' sm q=>.lst q (h.sm sm))⟩
 .rename_i xs;cases D;obtain⟨p,vs,rfl,s1,h⟩:=X.1 xs rfl;exact⟨p,vs,rfl,.inl s1,λl hl=>k _ _ trivial (bl.hZ hl λG H' sm q=>.lst q (h.sm sm))⟩
theorem BK:lE K (λv H Q=>∃p ys,[v]=[V.ref p]/\((gI K.K H p ys/\∀l,H l=none->Q (.ref l) (upd H l (.tup ys)))\/(gK K.K H p ys/\Q (.ref p) H))) hE:=by
 intro c Y H Z B θ x v a q Q s t O F D k;subst s;obtain⟨L,bl,X⟩:=Bd.open O t F;cases a<;>first|(cases D;done)|skip
 .rename_i xs;cases D;obtain⟨p,vs,rfl,s1,h⟩:=X.2.1 xs rfl;exact⟨p,vs,rfl,.inr ⟨dt (g_same _ _ _) s1,k _ _ trivial (bl.push (.tup s1 h))⟩⟩
 .rename_i xs;cases D;obtain⟨p,vs,rfl,s1,h⟩:=X.1 xs rfl;refine⟨p,vs,rfl,.inl ⟨s1,λl hl=>?_⟩⟩;obtain⟨b2,sm,np⟩:=bl.new (o:=.tup vs) hl;exact k _ _ trivial (b2.push (.tup (.inl (.inl (by rw[bB np (bl.PN hl)];exact bK))) (h.sm sm)))
end
section
variable{c:Cn}{Y:St}{H:Hp}{Z:List Sl}{B:St}{θ:List Sl}
theorem Bd.qL{x:Option V}{ss:List Sl}(e:xs.length=ss.length)(b:Bd c Y H Z (x::(xs++B)) (s::(ss++θ))):Bd c Y H Z (x::B) (s::θ):=by
 obtain⟨L,b⟩:=b;have r:aB c.toKx (c.g H L) H (x::(xs++(B++Y))) (s::(ss++(θ++Z))) L:=by have:=b.rel;simpa[Sw] using this
 cases r with
 |cons h r=>rename_i G L';obtain⟨o,L2,F,k,n⟩:=aB.split e r;subst F;have sl:(G++L2).Sublist (G++(o++L2)):=Uq (Ue _) (Uz _ _);have sm:Sq (c.g H (G++(o++L2))) (c.g H (G++L2)):=c7 λa ha=>sl.subset ha;exact⟨G++L2,b.nd.sublist sl,aB.cons (h.sm sm (λ_ _ _ e=>e)) (n.sm sm (λ_ _ _ e=>e)),λp hp=>b.own p (sl.subset hp),b.fr,b.kp,by have:=b.lt;simp at this ⊢;lia,b.hd⟩
theorem Bd.OZ{ys:St}(b:Bd c (Y++ys) H Z B θ):Bd c Y H (Z.take Y.length) B θ:=by
 have hl:=b.jl;rw[SI] at hl;obtain⟨L,b⟩:=b;have r:aB c.toKx (c.g H L) H ((B++Y)++ys) ((θ++Z.take Y.length)++Z.drop Y.length) L:=by have:=b.rel;rw[Sw,Sw,Ur];exact this
 obtain⟨m,L2,F,k,n⟩:=aB.split (by simp[b.lt];lia) r;subst F;have sm:Sq (c.g H (m++L2)) (c.g H m):=c7 λa ha=>Sv _ ha;refine⟨m,(SQ.mp b.nd).1,k.sm sm (λ_ _ _ e=>e),λp hp=>b.own p (Sv _ hp),b.fr,λi o h=>?_,b.lt,b.hd⟩;have hi:i<(Z.take Y.length).length:=(Sy.mp h).1;rw[Tw] at hi;have h':Z[i]?=some (.pv o):=by rw[List.getElem?_take] at h;split at h;exact h;cases h
 have:=b.kp i o h';rwa[Th (by lia)] at this
theorem Bd.GR{n:Nat}(b:Bd c Y H Z B θ):Bd c (Y++S0 n none) H (Z++S0 n .un) B θ:=by
 have hl:=b.jl;obtain⟨L,b⟩:=b;refine⟨L,b.nd,?_,b.own,b.fr,λi o h=>?_,b.lt,b.hd⟩
 .have:=b.rel.app (oh (k:=c.toKx) (G:=c.g H L) (H:=H) n);simpa[Sw] using this
 .by_cases z:i<Z.length
  .rw[Th z] at h;rw[Th (by lia)];exact b.kp i o h
  .rw[S6 (by lia)] at h;have:=WO (SY h);cases this
end
noncomputable abbrev Mg:=A->List Sl->Option (List Sl)
noncomputable abbrev Dl:=List A->List Sl->Option (List Sl)
inductive Nc(K:Kx)(lo:Nat)(G:Mg)(v:V)(Y:St)(H:Hp)(Q:St->Hp->Prop):Prop
 |mk(c:Cn)(Z:List Sl)(B:St)(θ:List Sl)(a:A)(O:List Sl)(h1:c.toKx=K)(h2:Bd c Y H Z (some v::B) (.fr a::θ))(h3:G a Z=some O)(h4:∀Z0 H',Z0.take lo=Y.take lo->Z0.length=Y.length->Bd c Z0 H' O B θ->Q Z0 H')
inductive Qc(K:Kx)(lo:Nat)(G:Dl)(vs:List V)(Y:St)(H:Hp)(Q:St->Hp->Prop):Prop
 |mk(c:Cn)(Z:List Sl)(B:St)(θ:List Sl)(as:List A)(O:List Sl)(h1:c.toKx=K)(h2:vs.length=as.length)(h3:Bd c Y H Z (vs.map some++B) (as.map Sl.fr++θ))(h4:G as Z=some O)(h5:∀Z0 H',Z0.take lo=Y.take lo->Z0.length=Y.length->Bd c Z0 H' O B θ->Q Z0 H')
structure JG(X:Cx)(lo:Nat)(tg:Expr)(G:Mg):Prop where
 p:PG X tg (Nc (kx X) lo G)
structure NX(X:Cx)(lo:Nat)(tg:List Expr)(G:Dl):Prop where
 p:IS X tg (Qc (kx X) lo G)
def aH(i:Nat):Mg:=λa Z=>put i (.fr a) Z
noncomputable def dA:Dl:=λas Z=>match as with
 |[]=>some Z
 |_=>none
noncomputable def aJ(g:Mg)(gs:Dl):Dl:=λas Z=>match as with
 |a::as=>match g a Z with
  |some U=>gs as U
  |none=>none
 |[]=>none
noncomputable def dj(n:Nat)(gs:Dl):Mg:=λa Z=>match a with
 | .tup as=>if as.length=n then gs as Z else none
 |_=>none
variable{gs:Dl}{tg iter:Expr}{body:List Stmt}
section
variable{X:Cx}{E:XK}{lo:Nat}
theorem DY(hN:X.N.Nodup)(hi:X.N[i]?=some x)(hx:Loc X.env.scope x)(hl:lo<=i)(hf:X.fn x=true\/X.env.scope.names.lookup x=some .local:=by first|exact .inl rfl|exact .inr rfl|assumption):JG X lo (.Name x pos) (aH i):=⟨λpins s Y H v u Q I r h=>by refine Gn hN hi hx hf pins s Y H v u Q I r ?_;obtain⟨c,Z,B,θ,a,O,ek,b,em,q⟩:=h;exact q _ H (by rw[List.take_set_of_le hl]) (by simp) (Bd.put b (λo z=>by cases z) em)⟩
theorem EK:NX X lo [] dA:=⟨λpins s Y H v u Q I r h=>by
 refine GC pins s Y H v u Q I r ?_;obtain⟨c,Z,B,θ,as,O,U,hl,b,em,q⟩:=h;cases as with
 |nil=>cases em;cases v with|nil=>exact⟨rfl,q Y H rfl rfl b⟩|cons _ _=>simp at hl
 | cons _ _=>cases em⟩
theorem AN{g:Mg}(h1:JG X lo e g)(h2:NX X lo es gs)(hp:∀{t:TG}{u:HR},PG X e t->IS X es u->IS X (e::es) (GX t u)):NX X lo (e::es) (aJ g gs):=⟨λpins s Y H v u Q I r h=>by
 refine hp h1.p h2.p pins s Y H v u Q I r ?_;obtain⟨c,Z,B,θ,as,O,L,hl,b,em,q⟩:=h;cases as with
 |nil=>cases em
 |cons a as=>
  cases v with
  |nil=>simp at hl
  |cons v vs=>
   unfold aJ at em;simp only at em;cases F:g a Z with
   |none=>simp only[F] at em;cases em
   | some U=>simp only[F] at em;refine⟨v,vs,rfl,c,Z,_,_,a,U,L,b,F,λZ0 H' C l1 b1=>⟨c,U,B,θ,as,O,L,by simpa using hl,b1,em,λR T w N b2=>q R T (w.trans C) (N.trans l1) b2⟩⟩⟩
theorem LP{k n:Nat}(hc:X.calm=true)(h:NX X lo es gs)(hn:(assignEach es X.env).length=n:=by rfl)(hst:(assignEach es X.env).findIdx? (·.1)=none:=by rfl):JG X lo (.Tuple es k pos) (dj n gs):=⟨λpins s Y H v u Q I r h'=>by
 refine IW hc h.p hn hst pins s Y H v u Q I r ?_;obtain⟨c,Z,B,θ,a,O,ek,b,em,q⟩:=h';cases a<;>first|(cases em;done)|skip
 rename_i as;unfold dj at em;simp only at em;split at em
 .rename_i hl;obtain⟨L,bl,i1⟩:=Bd.open (r:=.fr (.tup as)) b trivial rfl;obtain⟨p,vs,rfl,s1,rr⟩:=i1.2.1 as rfl;have:c.K=X.K:=by have:=congrArg Kx.K ek;exact this
  refine⟨p,vs,rfl,by rw[<-this];exact dt (g_same _ _ _) s1,by rw[rr.len];exact hl,c,Z,B,θ,as,O,ek,rr.len,?_,em,q⟩;obtain⟨nd,rel,own,fr,kp,lt,hdd⟩:=bl;exact⟨L,nd,by have:=(aB.my (H:=H) rr).app rel;simpa[Sw] using this,own,fr,kp,by simp[lt,rr.len],hdd⟩
 .cases em⟩
def NZ(K:Kx)(J:It)(P:St)(N:List A)(as:List A):Prop:=∀(c:Cn)(Y:St)(H:Hp)(Z:List Sl)(D:St)(z:List Sl)(B:St)(θ:List Sl)(i:Nat),c.toKx=K->D.length=z.length->Bd c Y H Z (D++(P++B)) (z++(N.map Sl.fr++θ))->
 (as.length<=i->J.stop i H)/\∀a,as[i]?=some a->J.go i H/\∀x H',J.yld i H x H'->Bd c Y H' Z (some x::(D++(P++B))) (.fr a::(z++(N.map Sl.fr++θ)))
def Pg(K:Kx)(E:XK)(c:Cn)(Y:St)(Z:List Sl)(B:St)(θ:List Sl)(R:It->Hp->Prop):Except Str (List A)->Prop
 | .ok as=>∀J H P N,P.length=N.length->NZ K J P N as->Bd c Y H Z (P++B) (N.map Sl.fr++θ)->R J H
 | .error x=>∀C H,K.mg x=some (.ref C)->Bd c Y H Z B θ->E (.ref C) none H
inductive Rv(K:Kx)(E:XK)(m:Mi (List A))(Y:St)(H:Hp)(R:It->Hp->Prop):Prop
 |mk(c:Cn)(Z:List Sl)(B:St)(θ:List Sl)(o:Except Str (List A))(O:List Sl)(h1:c.toKx=K)(h2:Bd c Y H Z B θ)(h3:m Z=some (o,O))(h4:Pg K E c Y O B θ R o)
structure JI(X:Cx)(E:XK)(tg iter:Expr)(m:Mi (List A)):Prop where
 p:PI X tg iter (Rv (kx X) E m)
theorem ub{o:Except Str (List A)}{R:It->Hp->Prop}(q:Pg (kx X) E c Y O B θ R o):∀e,o=.error e->∀C H,X.mg e=some (.ref C)->Bd c Y H O B θ->E (.ref C) none H:=λe b=>by subst b;exact q
noncomputable def Ek(s:Str):List A:=s.cps.toList.map λc=>.str ⟨#[c]⟩
def Ia:A->Option (List A)
 | .str s=>some (Ek s)
 |a=>JC a
def bF(m:Mi Rr):Mi (List A):=aW m λr Z=>match bz r Z with
 |some (a,O)=>match Ia a with
  |some as=>some (.ok as,O)
  |none=>none
 |none=>none
theorem Bd.mid{ss:List Sl}{a:A}(e:xs.length=ss.length)(b:Bd c Y H Z (xs++(some v::B)) (ss++(.fr a::θ))):∃L,fO c Y H Z (xs++(some v::B)) (ss++(.fr a::θ)) L/\RA c.toKx (c.g H L) v a:=by
 obtain⟨L,b⟩:=b;have r:aB c.toKx (c.g H L) H (xs++(some v::(B++Y))) (ss++(.fr a::(θ++Z))) L:=by have:=b.rel;simpa[Sw] using this
 obtain⟨o,L2,F,k,n⟩:=aB.split e r;cases n with
 |cons h E=>cases h with|fr h=>exact⟨L,b,h⟩
theorem CF{l:Expr}(hl:JE X E l m):JI X E tg l (bF m):=⟨λpins s Y H R I h=>by
 refine Ec hl.p pins s Y H R I ?_;obtain⟨c,Z,B,θ,o,O,k,b,em,q⟩:=h;refine bH k b em (λx v U e P b1 r=>?_) (ub q);cases F:bz x U with
 |none=>simp only[F] at r;cases r
 |some p=>
  obtain⟨a,Z'⟩:=p;simp only[F] at r;have b2:=Bd.bz (xs:=[]) (ss:=[]) rfl b1 P F;cases j:Ia a with
  |none=>simp only[j] at r;cases r
  |some as=>
   simp only[j] at r;cases r;have w:c.K=X.K:=congrArg Kx.K k;cases a<;>first|(cases j;done)|skip
   .rename_i t;cases j;have rt:=Bd.top b2 (a:=.str t) rfl;cases rt;refine .inr ⟨t,rfl,q _ e [some (.str t)] [.str t] rfl (λN Z0 H' O D z J T i S C V=>?_) b2⟩;obtain⟨L,bl,h⟩:=Bd.mid C V;have hl:(Ek t).length=t.cps.size:=by simp[Ek]
    refine⟨λhi=>by rw[hl] at hi;exact hi,λa ha=>?_⟩;have hi:i<t.cps.size:=by rw[<-hl];exact(Sy.mp ha).1
    refine⟨hi,λx f y=>?_⟩;obtain⟨rfl,c,hc,rfl⟩:=y;have:a=.str ⟨#[c]⟩:=by unfold Ek at ha;rw[SV,UR,hc] at ha;exact(SM ha).symm
    subst this;exact bl.push (.str _)
   .cases j;have rt:=Bd.top b2 (a:=.tup as) rfl;cases rt with
    |tup Q n=>
     rename_i p vs;refine .inl ⟨p,rfl,.inr ⟨⟨vs,by rw[<-w];exact Q⟩,q _ e [some (.ref p)] [.tup as] rfl (λN Z0 H' O D z J T i S C V=>?_) b2⟩⟩;have A:N.K=X.K:=congrArg Kx.K S;obtain⟨L,bl,h⟩:=Bd.mid C V;cases h with
     |tup g G=>
      rename_i us;have sq:gK X.K H' p us:=by rw[<-A];exact dt (g_same _ _ _) g
      refine⟨λhi=>⟨us,sq,by rw[G.len];exact hi⟩,λa ha=>?_⟩;obtain⟨u,h1,h2⟩:=G.ta ha;refine⟨⟨us,u,sq,h1⟩,λx f y=>?_⟩;obtain⟨rfl,y⟩:=y;have:=y us sq;rw[h1] at this;cases this;exact bl.push h2
   .cases j;have rt:=Bd.top b2 (a:=.lst as) rfl;cases rt with
    |lst Q n=>
     rename_i p vs;refine .inl ⟨p,rfl,.inl ⟨⟨vs,by rw[<-w];exact Q⟩,q _ e [some (.ref p)] [.lst as] rfl (λN Z0 H' O D z J T i S C V=>?_) b2⟩⟩;have A:N.K=X.K:=congrArg Kx.K S;obtain⟨L,bl,h⟩:=Bd.mid C V;cases h with
     |lst g G=>
      rename_i us;have sq:gI X.K H' p us:=by rw[<-A];exact nZ (g_same _ _ _) g
      refine⟨λhi=>⟨us,sq,by rw[G.len];exact hi⟩,λa ha=>?_⟩;obtain⟨u,h1,h2⟩:=G.ta ha;refine⟨⟨us,u,sq,h1⟩,λx f y=>?_⟩;obtain⟨rfl,y⟩:=y;have:=y us sq;rw[h1] at this;cases this;exact bl.push h2⟩
noncomputable def fS(lo:Int)(n:Nat):List A:=(T9 n).map λi=>.int (lo+(i:Nat))
theorem K5{lo:Int}{n:Nat}:NZ K (PU lo n) [] [] (fS lo n):=λc Y H Z D z B θ i s C b=>by
 have hl:(fS lo n).length=n:=by simp[fS]
 refine⟨λh=>by rw[hl] at h;exact h,λa ha=>?_⟩;have hi:i<n:=by rw[<-hl];exact(Sy.mp ha).1
 refine⟨hi,λx H' y=>?_⟩;obtain⟨rfl,rfl⟩:=y;have:a=.int (lo+i):=by unfold fS at ha;rw[SV,U3 hi] at ha;exact(SM ha).symm
 subst this;exact b.push λ_=>.int _
def eI(m:Mi Rr):Mi (List A):=aW m λr Z=>match res Z r with
 |some (.int j)=>if -(2^60)<=j/\j<2^60 then some (.ok (fS 0 j.toNat),Z) else none
 |_=>none
theorem DW{a:Expr}{p:Pos}(hg:Gl X "range")(hm:X.mg "range" = none)(ha:JE X E a m)(hs:starEach [a] X.env=[(false,eval a X.env)]:=by rfl)(hs':starEach [a] X.env=(false,eval a X.env)::starEach [] X.env:=by rfl):JI X E tg (.Call (.Name "range" p) [a] [] pos) (eI m):=⟨λpins s Y H R I h=>by
 refine xQ hg hm (cE ha.p eF hs') hs pins s Y H R I ?_;obtain⟨c,Z,B,θ,o,O,ek,b,em,q⟩:=h;refine bH ek b em (λx v U H1 hv b1 em1=>?_) (ub q);cases e1:res U x with
 |none=>simp only[e1] at em1;cases em1
 |some a=>
  have r1:=Bd.rd b1 hv e1;simp only[e1] at em1;cases a<;>first|(cases em1;done)|skip
  rename_i j;simp only at em1;split at em1
  .rename_i hj;cases em1;cases r1;exact⟨j,rfl,by lia,by lia,q _ H1 [] [] rfl K5 b1.drop⟩
  .cases em1⟩
theorem Bq{u:Option A}{F:Int->Option α}{r:α} (h:(match u with
   |some (.int k)=>F k
   | _=>none)=some r):∃k,u=some (.int k)/\F k=some r:=by
 split at h
 .rename_i k;exact⟨k,rfl,h⟩
 .cases h
theorem Bg{u w:Option A}{F:Int->Int->Option α}{r:α} (h:(match u,w with
 |some (.int i),some (.int j)=>F i j
 | _,_=>none)=some r):∃i j,u=some (.int i)/\w=some (.int j)/\F i j=some r:=by
 split at h
 .rename_i i j;exact⟨i,j,rfl,rfl,h⟩
 .cases h
noncomputable def forL(G:Mg)(b:Ms):List A->Ms
 |[],Z=>some (.nx,Z)
 |a::as,Z=>match G a Z with
  |none=>none
  |some U=>match b U with
   |some (.nx,Z')=>forL G b as Z'
   |some (.ct,Z')=>forL G b as Z'
   |some (.bk,Z')=>some (.nx,Z')
   |r=>r
def dh(m:Mi (List A))(G:Mg)(b:Ms):Ms:=c8 m λas Z=>forL G b as Z
theorem IG{m:Mi (List A)}{G:Mg}{mb:Ms}(hp:PassesOwn (model X.prog X.w) X.A X.env X.xe)(hc:X.calm=true)(hi:JI X E tg iter m)(hg:JG X 0 tg G)(hb:yF X E body mb)
  (hs:∀x,foldedSetIterable iter X.env x=pure x:=by intro _;rfl):JS X E (.For tg iter body [] pos) (dh m G mb):=⟨PS.weaken (K0 hp hc hi.p hg.p hb.p hs) λD Y H h=>by
 obtain⟨c,Z,B,θ,f,O,ek,b,em,q⟩:=h;rcases dJ em with ⟨as,U,e1,e2⟩|⟨e,e1,e2⟩
 .refine⟨c,Z,B,_,_,U,ek,b,e1,λJ H1 P N li it b1=>?_⟩;refine⟨λi m Z0 H'=>m=as.length-i/\i<=as.length/\∃S,Bd c Z0 H' S (P++B) (N.map Sl.fr++θ.map Sl.fr)/\forL G mb (as.drop i) S=some (f,O),⟨_,rfl,TM _,U,b1,by simpa using e2⟩,?_⟩;rintro i m Z0 H' ⟨rfl,hi,S,bi,ei⟩;obtain⟨i1,i2⟩:=it c Z0 H' S [] [] B (θ.map Sl.fr) i ek rfl bi;by_cases hlt:i<as.length
  .have hd:as.drop i=as[i]::as.drop (i+1):=Ti hlt;rw[hd] at ei;obtain⟨go,yl⟩:=i2 as[i] (by simp[hlt]);refine .inr ⟨go,λR H2=>∃Z',Bd c R H2 Z' (P++B) (N.map Sl.fr++θ.map Sl.fr)/\forL G mb (as.drop (i+1)) Z'=some (f,O),λR H2 ⟨Z',q1,q2⟩=>⟨as.length-(i+1),by lia,rfl,hlt,Z',q1,q2⟩,λx H2 y=>?_⟩;have b2:=yl x H2 y;unfold forL at ei;cases eg:G as[i] S with
   |none=>simp only[eg] at ei;cases ei
   |some Z'=>
    simp only[eg] at ei;refine⟨c,S,_,_,as[i],Z',ek,b2,eg,λV H3 _ _ b3=>?_⟩;cases eb:mb Z' with
    |none=>simp only[eb] at ei;cases ei
    |some p=>
     obtain⟨f1,F⟩:=p;simp only[eb] at ei;refine⟨c,Z',P++B,N++θ,f1,F,ek,by rw[SJ];exact b3,eb,?_⟩;cases f1 with
     |nx=>intro T H4 b4;rw[SJ] at b4;exact⟨F,b4,ei⟩
     |ct=>intro T H4 b4;rw[SJ] at b4;exact⟨F,b4,ei⟩
     |bk=>cases ei;intro T H4 b4;rw[SJ] at b4;exact q T H4 (Bd.E3 (by simp[li]) b4)
     |rt s=>cases ei;intro v T H4 hs b4;rw[SJ] at b4;exact q v T H4 hs (Bd.qL (by simp[li]) b4)
     |ex x=>cases ei;intro C T H4 hm b4;rw[SJ] at b4;exact q C T H4 hm (Bd.E3 (by simp[li]) b4)
  .have e:i=as.length:=by lia
   subst e;rw[Vi] at ei;cases ei;exact .inl ⟨i1 (SK _),q Z0 H' (Bd.E3 (by simp[li]) bi)⟩
 .subst e2;exact⟨c,Z,B,_,_,O,ek,b,e1,λC H1 hm b1=>q C Y H1 hm b1⟩⟩
noncomputable def fZ(t:Mi Bool)(b:Ms):Nat->Ms
 |0,_=>none
 |n+1,Z=>match t Z with
  |some (.ok true,U)=>match b U with
   |some (.nx,Z')=>fZ t b n Z'
   |some (.ct,Z')=>fZ t b n Z'
   |some (.bk,Z')=>some (.nx,Z')
   |r=>r
  |some (.ok false,U)=>some (.nx,U)
  |some (.error e,U)=>some (.ex e,U)
  |none=>none
def iy(n:Nat)(t:Mi Bool)(b:Ms):Ms:=fZ t b n
theorem z0{n:Nat}{t:Expr}{mb:Ms}(hp:PassesOwn (model X.prog X.w) X.A X.env X.xe)(ht:JT X E t mt)(d:yF X E body mb):JS X E (.While t body [] pos) (iy n mt mb):=⟨PS.weaken (zW hp ht.p d.p) λD Y H h=>by
 obtain⟨c,Z,B,θ,f,O,V,b,em,q⟩:=h;refine⟨λm Z0 H'=>∃S,Bd c Z0 H' S B (θ.map Sl.fr)/\fZ mt mb m S=some (f,O),⟨n,Z,b,em⟩,?_⟩;rintro m Z0 H' ⟨S,G,a⟩;cases m with
 |zero=>cases a
 |succ m=>
  unfold fZ at a;cases L:mt S with
  |none=>simp only[L] at a;cases a
  |some p=>
   obtain⟨o,U⟩:=p;refine⟨c,S,B,_,o,U,V,G,L,?_⟩;cases o with
   |error e=>simp only[L] at a;cases a;exact λC y hm b1=>q C Z0 y hm b1
   |ok k=>
    intro y b1;cases k with
    |false=>simp only[L] at a;cases a;rw[if_neg (by decide)];exact q Z0 y b1
    |true=>
     simp only[L] at a;rw[if_pos rfl];refine⟨λR Q=>∃Z',Bd c R Q Z' B (θ.map Sl.fr)/\fZ mt mb m Z'=some (f,O),λR Q w=>⟨m,Vk _,w⟩,?_⟩;cases r:mb U with
     |none=>simp only[r] at a;cases a
     |some p=>
      obtain⟨u,F⟩:=p;simp only[r] at a;refine⟨c,U,B,θ,u,F,V,b1,r,?_⟩;cases u with
      |nx=>exact λT J i=>⟨F,i,a⟩
      |ct=>exact λT J i=>⟨F,i,a⟩
      |bk=>cases a;exact λT J i=>q T J i
      |rt s=>cases a;exact λv T J j i=>q v T J j i
      | ex x=>cases a;exact λC T J hm i=>q C T J hm i⟩
end
theorem eV(r:Rr)(v:V)(t:St)(u:List Sl):cv r v t=cv r v []++t/\cw r u=cw r []++u/\(cv r v []).length=(cw r []).length:=by cases r<;>exact⟨rfl,rfl,rfl⟩
theorem uU:100000<sizeLine:=by rw[sizeLine_eq];decide
def cT(G:Mg)(t:Mi Bool)(e:Mi Rr):List A->List A->List Sl->Option (List A×List Sl)
 |[],acc,Z=>some (acc,Z)
 |a::as,acc,Z=>match G a Z with
  |none=>none
  |some U=>match t U with
   |some (.ok true,Z')=>match e Z' with
    |some (.ok r,F)=>match bz r F with
     |some (d,T)=>cT G t e as (acc++[d]) T
     |none=>none
    |_=>none
   |some (.ok false,Z')=>cT G t e as acc Z'
   |_=>none
inductive Nd(G:Mg)(t:Mi Bool)(e:Mi Rr)(a:A)(as acc:List A)(Z:List Sl)(r:List A×List Sl):Prop
 |skip{U Z':List Sl}(g:G a Z=some U)(k:t U=some (.ok false,Z'))(q:cT G t e as acc Z'=some r)
 |take{d:A}{u:Rr}{U Z' F T:List Sl}(g:G a Z=some U)(k:t U=some (.ok true,Z'))(m:e Z'=some (.ok u,F))(f:bz u F=some (d,T))(q:cT G t e as (acc++[d]) T=some r)
theorem xX{G:Mg}{t:Mi Bool}{e:Mi Rr}{a:A}{as acc:List A}{r:List A×List Sl}(h:cT G t e (a::as) acc Z=some r):Nd G t e a as acc Z r:=by
 unfold cT at h;split at h
 .cases h
 .rename_i U H;split at h
  .rename_i Z' L;split at h
   .rename_i u F b;split at h
    .rename_i d T v;exact .take H L b v h
    .cases h
   .cases h
  .rename_i Z' L;exact .skip H L h
  .cases h
def bj:Mi Bool:=oS true
def bu(n:Nat)(H:Mi (List A))(G:Mg)(t:Mi Bool)(e:Mi Rr):Mi Rr:=aW H λas Z=>if as.length<=100000 then match cT G t e as [] (Z++S0 n .un) with
 |some (ys,O)=>some (.ok (.nw (.lst ys)),O.take Z.length)
 |none=>none else none
structure JF(X:Cx)(E:XK)(ifs:List Expr)(m:Mi Bool):Prop where
 p:PF X ifs (vZ (kx X) E m)
variable{me mk:Mi Rr}{lo:Nat}{N:List Str}{elt ek:Expr}{ifs:List Expr}{px apos cpos p1:Pos}
section
variable{X:Cx}{E:XK}
theorem Jl:JF X E [] bj:=⟨λpins s Y H Q I h=>by refine Kn pins s Y H Q I ?_;obtain⟨c,Z,B,θ,o,O,ek,b,em,q⟩:=h;cases em;exact q H b⟩
theorem Li{t:Expr}{m:Mi Bool}(h:JT X E t m):JF X E [t] m:=⟨J4 h.p⟩
noncomputable abbrev qa:XK:=λ_ _ _=>False
theorem yg{n:Nat}{G:Mg}{P:St}{l:Hp}{U Z':List Sl}{N as ys:List A}{J:It}(w:Y.length=lo)(ek:c.toKx=kx X)(li:P.length=N.length)
  (it:∀Y H Z D z i,D.length=z.length->Bd c Y H Z (D++(P++B)) (z++(N.map Sl.fr++θ))->(as.length<=i->J.stop i H)/\∀a,as[i]?=some a->J.go i H/\∀x H',J.yld i H x H'->Bd c Y H' Z (some x::(D++(P++B))) (.fr a::(z++(N.map Sl.fr++θ))))
  (b1:Bd c Y l U (P++B) (N.map Sl.fr++θ))(t:as.length<=100000)(ec:cT G mt me as [] (U++S0 n .un)=some (ys,Z'))(q:Qu (kx X) E c Y (Z'.take U.length) B θ Q (.ok (.nw (.lst ys)))):
  AD J (Nc (kx X) lo G) (vZ (kx X) qa mt) (gJ (kx X) qa me) Q (Y++S0 n none) l:=by
 have C:Y.length=U.length:=b1.jl;refine⟨λi m Z0 vs H'=>m=as.length-i/\i<=as.length/\Z0.take lo=Y/\∃S acc,vs.length=acc.length/\acc.length<=i/\Bd c Z0 H' S (vs.reverse.map some++(P++B)) (acc.reverse.map Sl.fr++(N.map Sl.fr++θ))/\cT G mt me (as.drop i) acc S=some (ys,Z'),
  ⟨_,rfl,TM _,by rw[<-w,Wy],_,[],rfl,TM _,b1.GR,by simpa using ec⟩,?_⟩
 rintro i m Z0 vs H' ⟨rfl,hi,htk,S,acc,lv,la,d,h⟩;refine⟨by have:=kA;lia,?_⟩;obtain⟨i1,i2⟩:=it Z0 H' S (vs.reverse.map some) (acc.reverse.map Sl.fr) i (by simp[lv]) d;by_cases o:i<as.length
 .have hd:as.drop i=as[i]::as.drop (i+1):=Ti o;rw[hd] at h;obtain⟨go,yl⟩:=i2 as[i] (by simp[o]);refine .inr ⟨go,λR r L=>R.take lo=Y/\∃F b,r.length=b.length/\b.length<=i+1/\Bd c R L F (r.reverse.map some++(P++B)) (b.reverse.map Sl.fr++(N.map Sl.fr++θ))/\cT G mt me (as.drop (i+1)) b F=some (ys,Z'),
   λR r L ⟨q0,F,b,q1,q2,q3,q4⟩=>⟨as.length-(i+1),by lia,rfl,o,q0,F,b,q1,q2,q3,q4⟩,λx L y=>?_⟩
  have b2:=yl x L y;have fin:∀{F T:List Sl}{k:Bool},G as[i] S=some F->mt F=some (.ok k,T)->(∀V s,V.take lo=Y->Bd c V s T (vs.reverse.map some++(P++B)) (acc.reverse.map Sl.fr++(N.map Sl.fr++θ))->if k=true then gJ (kx X) qa me V s λv g=>V.take lo=Y/\∃F b,(vs++[v]).length=b.length/\b.length<=i+1/\Bd c V g F ((vs++[v]).reverse.map some++(P++B)) (b.reverse.map Sl.fr++(N.map Sl.fr++θ))/\cT G mt me (as.drop (i+1)) b F=some (ys,Z') else V.take lo=Y/\∃F b,vs.length=b.length/\b.length<=i+1/\Bd c V s F (vs.reverse.map some++(P++B)) (b.reverse.map Sl.fr++(N.map Sl.fr++θ))/\cT G mt me (as.drop (i+1)) b F=some (ys,Z'))->Nc (kx X) lo G x Z0 L λV j=>vZ (kx X) qa mt V j λk s=>if k=true then gJ (kx X) qa me V s λv g=>V.take lo=Y/\∃F b,(vs++[v]).length=b.length/\b.length<=i+1/\Bd c V g F ((vs++[v]).reverse.map some++(P++B)) (b.reverse.map Sl.fr++(N.map Sl.fr++θ))/\cT G mt me (as.drop (i+1)) b F=some (ys,Z') else V.take lo=Y/\∃F b,vs.length=b.length/\b.length<=i+1/\Bd c V s F (vs.reverse.map some++(P++B)) (b.reverse.map Sl.fr++(N.map Sl.fr++θ))/\cT G mt me (as.drop (i+1)) b F=some (ys,Z'):=
   λO u f=>⟨c,S,_,_,as[i],_,ek,b2,O,λV j I l3 b3=>⟨c,_,_,_,.ok _,_,ek,b3,u,λs K=>f V s (I.trans htk) K⟩⟩
  cases xX h with
  |skip O u h=>exact fin O u λV s I K=>⟨I,_,acc,lv,by lia,K,h⟩
  |take O u ee ef h=>exact fin O u λV s I K=>⟨c,_,_,_,_,_,ek,K,ee,λv g hv b5=>⟨I,_,_,by simp[lv],by simp;lia,by simpa using Bd.bz (xs:=[]) (ss:=[]) rfl b5 hv ef,h⟩⟩
 .have e:i=as.length:=by lia
  subst e;rw[Vi] at h;cases h;refine .inl ⟨i1 (SK _),λp hp=>?_⟩;have b7:=Bd.uL d (by simp[lv]) hp vs ys nJ;have b8:=Bd.qL (by simp[li]) b7;have es:Z0=Y++Z0.drop lo:=by rw[<-htk];exact(Ur _ _).symm
  rw[es] at b8;have b9:=b8.OZ;rw[C] at b9;exact q _ _ trivial b9
theorem kU{n:Nat}{a:Mi (List A)}{G:Mg}(Y:St)(H:Hp)(Q:VK)(k:Y.length=lo)(h:gJ (kx X) E (bu n a G mt me) Y H Q):
  wR n (Rv (kx X) E a) (Nc (kx X) lo G) (vZ (kx X) qa mt) (gJ (kx X) qa me) Y H Q:=by
 obtain⟨c,Z,B,θ,o,O,ek,b,em,q⟩:=h;rcases bind_some em with ⟨as,U,F,j⟩|⟨e,F,j⟩
 .refine⟨c,Z,B,θ,_,U,ek,b,F,λJ y P N v it b1=>?_⟩;split at j
  .rename_i t;cases K:cT G mt me as [] (U++S0 n .un) with
   |none=>simp only[K] at j;cases j
   |some p=>obtain⟨ys,Z'⟩:=p;simp only[K] at j;cases j;exact yg k ek v (λY H Z D z i l b=>it c Y H Z D z B θ i ek l b) b1 t K q
  .cases j
 .subst j;exact⟨c,Z,B,θ,_,O,ek,b,F,λC y hm b1=>q C y hm b1⟩
theorem wg{k:Nat}{sc:Scope}{mi:Mi (List A)}{G:Mg}(hc:X.calm=true)(S:fk X.N N k sc X.env.scope)(hlo:X.N.length=lo)(hi:JI X E tg iter mi)
  (hg:∀cl C s H fp,JG (ir X N sc cl C s H fp) lo tg G)(ht:∀cl C s H fp,JF (ir X N sc cl C s H fp) qa ifs mt)(he:∀cl C s H fp,JE (ir X N sc cl C s H fp) qa elt me)(hs:∀x,foldedSetIterable iter X.env x=pure x:=by intro _;rfl):
  JE X E (.ListComp elt [⟨tg,iter,ifs,0⟩] sc pos) (bu k mi G mt me):=
 ⟨λpins s Y H Q I h=>wY hc S hi.p (λcl C s H fp=>(hg cl C s H fp).p) (λcl C s H fp=>(ht cl C s H fp).p) (λcl C s H fp=>(he cl C s H fp).p) hs pins s Y H Q I (kU Y H Q (I.len.trans hlo) h)⟩
theorem F9{spos:Pos}{k:Nat}{sc:Scope}{mi:Mi (List A)}{G:Mg}(hc:X.calm=true)(S:fk X.N N k sc X.env.scope)(hlo:X.N.length=lo)(hN:X.N.Nodup)(hx:X.N[i]?=some x)
  (hl:X.env.scope.names.lookup x=some .local)(hsw:swapsWith (.ListComp elt [⟨tg,iter,ifs,0⟩] sc pos) (some (.Name x px)) spos.line X.env=pure true)(hi:JI X E tg iter mi)
  (hg:∀cl C s H fp,JG (ir X N sc cl C s H fp) lo tg G)(ht:∀cl C s H fp,JF (ir X N sc cl C s H fp) qa ifs mt)(he:∀cl C s H fp,JE (ir X N sc cl C s H fp) qa elt me)(hs:∀x,foldedSetIterable iter X.env x=pure x:=by intro _;rfl):
  JS X E (.Assign [.Name x px] (.ListComp elt [⟨tg,iter,ifs,0⟩] sc pos) spos) (aK i (bu k mi G mt me)):=
 ⟨λpins s Y H D I h=>xx hc S hN hx hl hsw hi.p (λcl C s H fp=>(hg cl C s H fp).p) (λcl C s H fp=>(ht cl C s H fp).p) (λcl C s H fp=>(he cl C s H fp).p) hs pins s Y H D I (by
  obtain⟨c,Z,B,θ,f,O,ek,b,em,q⟩:=h;refine kU (E:=E) Y H _ (I.len.trans hlo) (eU ek b em q λr v U H1 hv b1 em1=>?_);cases e1:wA r U with
  |none=>simp only[e1] at em1;cases em1
  |some p=>
   obtain⟨t,Z'⟩:=p;simp only[e1] at em1;obtain⟨b2,ht⟩:=Bd.wA hv b1 e1;cases e2:put i t Z' with
   |none=>simp only[e2] at em1;cases em1
   | some F=>simp only[e2] at em1;cases em1;exact q _ H1 (Bd.put b2 ht e2))⟩
noncomputable def aF(Z:List Sl)(i:Nat):Option LO:=match Z[i]? with
 |some (.lv o)=>some o
 |some (.pv o)=>some o
 |_=>none
noncomputable def setAt(Z:List Sl)(i:Nat)(o:LO):List Sl:=match Z[i]? with
 |some (.pv _)=>Z.set i (.pv o)
 |_=>Z.set i (.lv o)
theorem fO.live(b:fO c Y H Z B θ L)(h:aF Z i=some o)(o':LO)(u:HO):
  ∃p q,Y[i]?=some (some (.ref p))/\LR c.toKx (c.g H L) H p o q/\((∀H',H' p=some u->LR c.toKx (c.g H L) H' p o' q)->Bd c Y (upd H p u) (setAt Z i o') B θ):=by
 unfold aF at h;unfold setAt;cases es:Z[i]? with
 |none=>simp only[es] at h;cases h
 |some s=>
  cases s with
  |un=>simp only[es] at h;cases h
  |fr a=>simp only[es] at h;cases h
  |lv v=>simp only[es] at h;cases h;obtain⟨p,q,h1,h2,h3⟩:=b.change (u:=u) es (.inl ⟨rfl,rfl⟩);exact⟨p,q,h1,h2,λk=>h3 λH' e _=>k H' e⟩
  |pv v=>simp only[es] at h;cases h;obtain⟨p,q,h1,h2,h3⟩:=b.change (u:=u) es (.inr ⟨rfl,rfl⟩);exact⟨p,q,h1,h2,λk=>h3 λH' e _=>k H' e⟩
theorem Bd.yi{a:A}(b:Bd c Y H Z (some v::B) (.fr a::θ)):∃L,fO c Y H Z B θ L/\RA c.toKx (c.g H L) v a:=by obtain⟨L,bl,r⟩:=Bd.my (vs:=[v]) (as:=[a]) b rfl;cases r with|cons h _=>exact⟨L,bl,h⟩
def bI(i:Nat)(m:Mi Rr):Mi Rr:=aW m λr Z=>match bz r Z with
 |some (a,U)=>match aF U i with
  |some (.lst xs)=>if xs.length<=16000000 then some (.ok (.fr .non),setAt U i (.lst (xs++[a]))) else none
  |_=>none
 |none=>none
theorem gF{xs:List A}(b:Bd c Y H Z B θ)(h:aF Z i=some (.lst xs)):∃p vs,Y[i]?=some (some (.ref p))/\H p=some (.lst vs):=by obtain⟨L,b⟩:=b;obtain⟨p,_,h1,h2,a⟩:=b.live h (.lst xs) (.lst []);clear a;cases h2 with|lst e r=>exact⟨p,_,h1,e⟩
def Ke(Z:List Sl)(i:Nat):Bool:=match aF Z i with
 |some (.lst _)=>true
 |_=>false
def dQ(i:Nat)(m:Mi Rr):Mi Rr:=λZ=>if Ke Z i then m Z else none
theorem nu(h:Ke Z i=true):∃xs,aF Z i=some (.lst xs):=by
 unfold Ke at h;cases e:aF Z i with
 |none=>rw[e] at h;cases h
 |some o=>cases o with
  |lst xs=>exact⟨xs,rfl⟩
  |dic _=>rw[e] at h;cases h
  |dit _=>rw[e] at h;cases h
  |obj _ _=>rw[e] at h;cases h
  |nob _ _ _=>rw[e] at h;cases h
theorem xB(hN:X.N[i]?=some x)(hv:o9 X.env.scope x)(hd:iw x)(hcd:sv x)(he:JE X E e m)
  (hbase:attributeBase (.Name x px) "append" X.env (eval (.Name x px) X.env)=eval (.Name x px) X.env:=by rfl)
  (hfew:((backTo cpos (starEach [e] X.env)).all (λx=>!x.1)&&(backToKw cpos (keywordEach [] X.env)).all (λx=>x.1.isSome)&&decide (([e]:List Expr).length+([]:List Keyword).length+(if ([]:List Keyword).isEmpty then 0 else 1)<30))=true:=by rfl)
  (hline:(apos.endLine==cpos.line)=true:=by rfl)(hs:starEach [e] X.env=(false,eval e X.env)::starEach [] X.env:=by rfl)(hplain:(backTo cpos (starEach [] X.env)).any (·.1)=false:=by rfl):
  JE X E (.Call (.Attribute (.Name x px) "append" apos) [e] [] cpos) (dQ i (bI i m)):=
 ⟨PE.weaken (ua Ua Wo Wq pI (cU hN hv hd hcd) (cE he.p eF hs) hbase hfew hline hs hplain) λY H Q h=>by
  obtain⟨c,Z,B,θ,o,O,ek,b,em,q⟩:=h;unfold dQ at em;split at em
  .rename_i hl;obtain⟨xs0,hl⟩:=nu hl;obtain⟨p,vs,hp,hH⟩:=gF b hl;refine⟨_,hp,.inl ⟨rfl,vs,.inl (.inl hH)⟩,?_⟩;refine bH ek b em (λr v U H1 hv b1 em1=>?_) (bh q);cases e1:bz r U with
   |none=>simp only[e1] at em1;cases em1
   |some pr=>
    obtain⟨a,Z'⟩:=pr;simp only[e1] at em1;have b2:=Bd.bz (xs:=[]) (ss:=[]) rfl b1 hv e1;cases e2:aF Z' i with
    |none=>simp only[e2] at em1;cases em1
    |some lo=>
     cases lo with
     |dic _=>simp only[e2] at em1;cases em1
     |dit _=>simp only[e2] at em1;cases em1
     |obj _ _=>simp only[e2] at em1;cases em1
     |nob _ _ _=>simp only[e2] at em1;cases em1
     |lst xs=>
      simp only[e2] at em1;split at em1
      .rename_i hx;cases em1;obtain⟨L,bl,ra⟩:=Bd.yi b2;obtain⟨p',_,h1,h2,h3⟩:=bl.live e2 (.lst (xs++[a])) (.lst ((match H1 p with|some (.lst ws)=>ws|_=>[])++[v]));rw[hp] at h1;cases h1;cases h2 with
       |lst e rr=>rename_i ws;simp only[e] at h3;refine⟨p,ws,v,rfl,rfl,e,by have:=rr.len;have:=sizeLine_eq;lia,q _ _ trivial (Bd.push (h3 λH' hh=>.lst hh (rr.snoc ra)) λ_=>.non)⟩
      .cases em1
  .cases em⟩
def m8(i:Nat)(mk m:Mi Rr):Ms:=c8 m λr S=>if Ke S i then c8 mk (λrk=>λZ=>match bz r Z with
 |some (a,U)=>match res U rk,aF U i with
  |some (.int k),some (.lst xs)=>match p8 xs.length k with
   |some j=>some (.nx,setAt U i (.lst (xs.set j a)))
   |none=>none
  |_,_=>none
 | none=>none) S else none
theorem Cq(hN:X.N[i]?=some x)(t:o9 X.env.scope x)(hd:iw x)(T:sv x)(hk:JE X E ek mk)(K:JE X E e m)
  (hp:∀{s u n:TE},PE X (.Name x px) s->PE X ek u->PE X e n->PS X (.Assign [.Subscript (.Name x px) ek p1] e pos) (Aw n (OX s u HL))):JS X E (.Assign [.Subscript (.Name x px) ek p1] e pos) (m8 i mk m):=
 ⟨PS.weaken (hp (cU hN t hd T) hk.p K.p) λD Y H h=>by
  obtain⟨c,Z,B,θ,f,O,ek,b,em,q⟩:=h;refine eU ek b em q λr v U H1 t b1 S=>?_;split at S
  .rename_i hl;obtain⟨P,hl⟩:=nu hl;obtain⟨p,vs,hp,hH⟩:=gF b1 hl;refine⟨_,hp,?_⟩;rcases dJ S with ⟨rk,Z',o,J⟩|⟨ee,o,J⟩
   .refine⟨c,U,_,_,_,Z',ek,b1,o,λw Q z b2=>?_⟩;cases V:bz r Z' with
    |none=>simp only[V] at J;cases J
    |some l=>
     obtain⟨a,F⟩:=l;simp only[V] at J;have g:Bd c Y Q F (cv rk w (some v::B)) (cw rk (.fr a::θ.map Sl.fr)):=by obtain⟨d,g2,g3⟩:=eV rk w (cv r v B) (cw r (θ.map Sl.fr));obtain⟨g4,g5,_⟩:=eV rk w (some v::B) (.fr a::θ.map Sl.fr);rw[g4,g5];rw[d,g2] at b2;exact Bd.bz g3 b2 t V
     cases R:res F rk with
     |none=>simp only[R] at J;cases J
     |some ak=>
      cases ak<;>first|(simp only[R] at J;cases J;done)|skip
      rename_i k;have y:=Bd.rd g z R;cases y;cases A:aF F i with
      |none=>simp only[R,A] at J;cases J
      |some lo=>
       cases lo with
       |dic _=>simp only[R,A] at J;cases J
       |dit _=>simp only[R,A] at J;cases J
       |obj _ _=>simp only[R,A] at J;cases J
       |nob _ _ _=>simp only[R,A] at J;cases J
       |lst xs=>
        simp only[R,A] at J;cases G:p8 xs.length k with
        |none=>simp only[G] at J;cases J
        |some j=>
         simp only[G] at J;cases J;obtain⟨L,bl,ra⟩:=Bd.yi g.drop;obtain⟨p',_,h1,h2,h3⟩:=bl.live A (.lst (xs.set j a)) (.lst ((match Q p with|some (.lst ws)=>ws|_=>[]).set j v));rw[hp] at h1;cases h1;cases h2 with
         |lst e I=>rename_i ws;simp only[e] at h3;exact⟨p,ws,k,j,rfl,rfl,e,by rw[I.len];exact G,q Y _ (h3 λH' hh=>.lst hh (I.set ra j))⟩
   .subst J;exact⟨c,U,_,_,_,O,ek,b1,o,λC Q hm b2=>q C Y Q hm b2.drop⟩
  .cases S⟩
def EW(Z:List Sl)(i:Nat):Bool:=match aF Z i with
 |some (.dic _)=>true
 |_=>false
theorem yR(h:EW Z i=true):∃xs,aF Z i=some (.dic xs):=by
 unfold EW at h;cases e:aF Z i with
 |none=>rw[e] at h;cases h
 |some o=>cases o with
  |dic xs=>exact⟨xs,rfl⟩
  |lst _=>rw[e] at h;cases h
  |dit _=>rw[e] at h;cases h
  |obj _ _=>rw[e] at h;cases h
  |nob _ _ _=>rw[e] at h;cases h
theorem Bt{xs:List (Key×A)}(b:Bd c Y H Z B θ)(h:aF Z i=some (.dic xs)):∃p vs,Y[i]?=some (some (.ref p))/\H p=some (.dK vs):=by obtain⟨L,b⟩:=b;obtain⟨p,_,h1,h2,a⟩:=b.live h (.dic xs) (.lst []);clear a;cases h2 with|dic e r=>exact⟨p,_,h1,e⟩
def kg(i:Nat)(mk m:Mi Rr):Ms:=c8 m λr S=>if EW S i then c8 mk (λrk=>λZ=>match bz r Z with
 |some (a,U)=>match res U rk,aF U i with
  |some ka,some (.dic kvs)=>match iu ka with
   |some y=>if kvs.length<=100000 then some (.nx,setAt U i (.dic (iQ kvs y a))) else none
   |none=>none
  |_,_=>none
 | none=>none) S else none
theorem Gw(hu:X.A.units+1<cLine)(hN:X.N[i]?=some x)(hv:o9 X.env.scope x)(hd:iw x)(hcd:sv x)(hk:JE X E ek mk)(he:JE X E e m)
  (hs:swapsWith e (some (.Subscript (.Name x px) ek p1)) pos.line X.env=pure false:=by rfl):JS X E (.Assign [.Subscript (.Name x px) ek p1] e pos) (kg i mk m):=
 ⟨PS.weaken (E4 hu (cU hN hv hd hcd) hk.p he.p hs) λD Y H h=>by
  obtain⟨c,Z,B,θ,f,O,ek,b,em,q⟩:=h;refine eU ek b em q λr v U H1 hv b1 em1=>?_;split at em1
  .rename_i hl;obtain⟨xs0,hl⟩:=yR hl;obtain⟨p,vs,hp,hH⟩:=Bt b1 hl;refine⟨_,hp,?_⟩;rcases dJ em1 with ⟨rk,Z',e1,e2⟩|⟨ee,e1,e2⟩
   .refine⟨c,U,_,_,_,Z',ek,b1,e1,λw H2 hw b2=>?_⟩;cases ef:bz r Z' with
    |none=>simp only[ef] at e2;cases e2
    |some pr=>
     obtain⟨a,F⟩:=pr;simp only[ef] at e2;have b3:Bd c Y H2 F (cv rk w (some v::B)) (cw rk (.fr a::θ.map Sl.fr)):=by obtain⟨g1,g2,g3⟩:=eV rk w (cv r v B) (cw r (θ.map Sl.fr));obtain⟨g4,g5,_⟩:=eV rk w (some v::B) (.fr a::θ.map Sl.fr);rw[g4,g5];rw[g1,g2] at b2;exact Bd.bz g3 b2 hv ef
     cases er:res F rk with
     |none=>simp only[er] at e2;cases e2
     |some ka=>
      have rk':=Bd.rd b3 hw er;cases el:aF F i with
      |none=>simp only[er,el] at e2;cases e2
      |some lo=>
       cases lo with
       |lst _=>simp only[er,el] at e2;cases e2
       |dit _=>simp only[er,el] at e2;cases e2
       |obj _ _=>simp only[er,el] at e2;cases e2
       |nob _ _ _=>simp only[er,el] at e2;cases e2
       |dic kvs=>
        simp only[er,el] at e2;cases ej:iu ka with
        |none=>simp only[ej] at e2;cases e2
        |some y=>
         simp only[ej] at e2;split at e2
         .rename_i h100;cases e2;obtain⟨L,bl,ra⟩:=Bd.yi b3.drop;obtain⟨p',_,h1,h2,h3⟩:=bl.live el (.dic (iQ kvs y a)) (.dK (putK (match H2 p with|some (.dK ws)=>ws|_=>[]) y v));rw[hp] at h1;cases h1;cases h2 with
          |dic e rr=>rename_i ws;simp only[e] at h3;exact⟨p,_,rfl,.inl ⟨ws,y,e,jO rk' ej,by have:=rr.len;have:=uU;lia,rfl⟩,q Y _ (h3 λH' hh=>.dic hh (rr.put y ra))⟩
         .cases e2
   .subst e2;exact⟨c,U,_,_,_,O,ek,b1,e1,λC H2 hm b2=>q C Y H2 hm b2.drop⟩
  .cases em1⟩
noncomputable def qr:Mi Rr:=λZ=>some (.ok (.nw (.dic [])),Z)
theorem FT{pos}:JE X E (.Dict [] [] pos) qr:=⟨PE.weaken AW λY H Q h=>by obtain⟨c,Z,B,θ,o,O,ek,b,em,q⟩:=h;cases em;intro p hp;obtain⟨L,bl⟩:=b;exact q _ _ trivial (bl.hZ hp λG H' sm V=>.dic V .nil)⟩
def uj(H mk q:Mi Rr):Mi Rr:=aW H λd S=>match res S d with
 | some (.dic _)=>aW mk (λk=>aW q λx=>λZ=>match res Z d,res Z k with
  |some (.dic kvs),some ka=>match iu ka with
   |some y=>match gy kvs y with
    |some a=>some (.ok (.fr a),Z)
    |none=>match bz x Z with
     |some (a,U)=>some (.ok (.fr a),U)
     |none=>none
   |none=>none
  | _,_=>none) S
 |_=>none
theorem F7{o f:Expr}{G P:Mi Rr}(s:X.A.units+1<cLine)(n:JE X E o G)(he:JE X E e mk)(hf:JE X E f P)(m:M2 X o "get" apos e f cpos):JE X E (.Call (.Attribute o "get" apos) [e,f] [] cpos) (uj G mk P):=
 ⟨PE.weaken (zI s n.p he.p hf.p m) λY H Q h=>by
  obtain⟨c,Z,B,θ,o,O,ek,b,em,q⟩:=h;refine bH ek b em (λd v U H1 t b1 r=>?_) (bh q);cases I:res U d with
  |none=>simp only[I] at r;cases r
  |some a0=>
   cases a0<;>first|(simp only[I] at r;cases r;done)|skip
   rename_i i;simp only[I] at r;obtain⟨L0,bl0,i0⟩:=Bd.open b1 t I;obtain⟨p,C,rfl,s0,_⟩:=i0.2.2 i rfl;refine⟨p,rfl,.inl ⟨C,s0⟩,?_⟩;refine bH ek b1 r (λk w Z' H2 l b2 N=>?_) (fj (bh q));refine bH ek b2 N (λx z F D hz g R=>?_) (fj (fj (bh q)));cases S:res F d with
   |none=>simp only[S] at R;cases R
   |some a1=>
    cases a1<;>first|(simp only[S] at R;cases R;done)|skip
    rename_i kvs;cases j:res F k with
    |none=>simp only[S,j] at R;cases R
    |some ka=>
     simp only[S,j] at R;cases J:iu ka with
     |none=>simp only[J] at R;cases R
     |some y=>
      simp only[J] at R;have rk:=Bd.rd g.drop l j;obtain⟨L,bl,i1,_⟩:=Bd.sX g.drop t l S j;obtain⟨p',vs,ep,s1,rr⟩:=i1.2.2 kvs rfl;cases ep;rcases rr.get y with ⟨u,a,h1,h2,h3⟩|⟨h1,h2⟩
      .simp only[h2] at R;cases R;exact⟨some u,.inl ⟨vs,y,s1,jO rk J,h1.symm⟩,q u D trivial (bl.push h3)⟩
      .simp only[h2] at R;cases V:bz x F with
       |none=>simp only[V] at R;cases R
       |some pr=>
        obtain⟨a,T⟩:=pr;simp only[V] at R;cases R;have K:=Bd.bz (xs:=[]) (ss:=[]) rfl g hz V;refine⟨none,.inl ⟨vs,y,s1,jO rk J,h1.symm⟩,q z D trivial ?_⟩;obtain⟨g1,g2,g3⟩:=eV k w (cv d (.ref p) B) (cw d θ);obtain⟨g4,g5,g6⟩:=eV d (.ref p) B θ;have K:Bd c Y D O (some z::((cv k w []++cv d (.ref p) [])++B)) (.fr a::((cw k []++cw d [])++θ)):=by have:=K;rw[g1,g4,g2,g5] at this;simpa[Sw] using this
        exact Bd.qL (by simp[g3,g6]) K⟩
end
noncomputable def uo(a b:Str):Bool:=!WW b.cps.toList a.cps.toList
def bP(l:List Str):List Str:=l.mergeSort uo
theorem nU(a b:Str):uo a b=decide (¬ b.cps.toList<a.cps.toList):=by unfold uo;rw[Yy,decide_not]
theorem pZ(a b c:Str)(h1:uo a b=true)(h2:uo b c=true):uo a c=true:=by rw[nU,decide_eq_true_eq] at *;intro h;exact(Yz.negTrans c.cps.toList b.cps.toList a.cps.toList (decide_eq_true h)).elim (λh=>h2 (of_decide_eq_true h)) (λh=>h1 (of_decide_eq_true h))
theorem xR(a b:Str):(uo a b || uo b a)=true:=by
 rw[TR,nU,nU,decide_eq_true_eq,decide_eq_true_eq];by_cases h:b.cps.toList<a.cps.toList
 .exact .inr (List.lt_asymm h)
 .exact .inl h
theorem AS{a b:Str}(h1:uo a b=true)(h2:uo b a=true):a=b:=by rw[nU,decide_eq_true_eq] at *;have:a.cps.toList=b.cps.toList:=Xy (Wf.mp h1) (Wf.mp h2);cases a;cases b;simp only[YA];exact Xr.mp this
theorem bV(l:List Str):(bP l).Perm l:=List.mergeSort_perm l uo
theorem nV(l:List Str):(bP l).Pairwise (λa b=>uo a b=true):=List.pairwise_mergeSort pZ xR l
theorem vt{ss:List Str}(h:Vf ss=true):ss.Pairwise (λa b=>uo a b=true):=by
 have V:∀(l:List Str)(p:Str),Wi p l=true->(∀q∈l,uo p q=true)/\l.Pairwise (λa b=>uo a b=true):=by
  intro l;induction l with
  |nil=>intro p _;exact⟨λq j=>(by cases j),.nil⟩
  |cons q l s=>
   intro p hp;have hp:(!WW q.cps.toList p.cps.toList&&Wi q l)=true:=hp;rw[Sn] at hp;obtain⟨X,I⟩:=s q hp.2;refine⟨λr y=>?_,UC.mpr ⟨X,I⟩⟩;rcases SO.mp y with z|z
   .subst z;exact hp.1
   .exact pZ p q r hp.1 (X r z)
 cases ss with
 |nil=>exact .nil
 |cons p l=>obtain⟨X,I⟩:=V l p h;exact UC.mpr ⟨X,I⟩
theorem oC{ss l:List Str}(h:Vf ss=true)(pm:ss.Perm l):ss=bP l:=
 (pm.trans (bV l).symm).eq_of_pairwise (λa b _ _ h1 h2=>AS h1 h2) (vt h) (nV l)
noncomputable def jC:List A->Option (List Str)
 |[]=>some []
 | .str x::r=>match jC r with
  |some ss=>some (x::ss)
  |none=>none
 |_=>none
theorem k9:∀{as:List A}{ss:List Str},jC as=some ss->as=ss.map A.str
 |[],_,h=>by cases h;rfl
 | .str x::r,_,h=>by
  unfold jC at h;cases e:jC r with
  |none=>simp only[e] at h;cases h
  |some ss=>simp only[e] at h;cases h;rw[k9 e];rfl
 | .non::_,_,h=>by cases h
 | .bl _::_,_,h=>by cases h
 | .int _::_,_,h=>by cases h
 | .tup _::_,_,h=>by cases h
 | .lst _::_,_,h=>by cases h
 | .dic _::_,_,h=>by cases h
 | .exc _::_,_,h=>by cases h
theorem tf(ss:List Str):jC (ss.map A.str)=some ss:=by
 induction ss with
 |nil=>rfl
 |cons s ss l=>rw[SR,jC,l]
noncomputable def strKeys:List (Key×A)->Option (List Str)
 |[]=>some []
 |(.inr x,_)::r=>match strKeys r with
  |some ss=>some (x::ss)
  |none=>none
 |_=>none
theorem l5:∀{as:List (Key×A)}{ss:List Str},strKeys as=some ss->as.map (·.1)=ss.map Tu
 |[],_,h=>by cases h;rfl
 |(.inr x,a)::r,_,h=>by
  unfold strKeys at h;cases e:strKeys r with
  |none=>simp only[e] at h;cases h
  |some ss=>simp only[e] at h;cases h;rw[SR,l5 e];rfl
 |(.inl _,_)::_,_,h=>by cases h
section
variable{X:Cx}{E:XK}
def bL:A->Option Rr
 | .lst xs=>match jC xs with
  |some ss=>if ss.length<64 then some (.nw (.lst ((bP ss).map A.str))) else none
  |none=>none
 |_=>none
theorem uI:lE K (λv=>mK K.K [v]) bL:=by
 intro c Y H Z B θ x v a q Q ek t O F D k;subst ek;obtain⟨L,bl,X⟩:=Bd.open O t F;cases a<;>first|(cases D;done)|skip
 rename_i xs;unfold bL at D;simp only at D;cases es:jC xs with
 |none=>simp only[es] at D;cases D
 |some ss=>
  simp only[es] at D;split at D
  .rename_i S;cases D;obtain⟨p,vs,rfl,s1,h⟩:=X.1 xs rfl;rw[k9 es] at h;rw[h.strs] at s1;refine⟨p,ss,rfl,.inl s1,S,λr m y pm b=>?_⟩;rw[oC b pm];exact k _ _ trivial (bl.hZ y λG H' sm q=>.lst q (bR.ofStrs _))
  .cases D
def kz:List V->Hp->VK->Prop:=λxs H Q=>∃(a:Addr)(kvs:List (Key×V))(ss:List Str),xs=[.ref a]/\Rd H a (.dK kvs)/\kvs.map (·.1)=ss.map Tu/\ss.length<64/\∀r x,H r=none->x.Perm ss->Vf x=true->Q (.ref r) (upd H r (.lst (x.map V.str)))
open PySem.Spec PyProof.Rows PySem.W in
theorem qG(hc:X.calm=true):cx X (.builtin "sorted") kz:=by
 intro pins s Y H vs us Q I C h;obtain⟨a,kvs,ss,rfl,hd,ek,S,q⟩:=h;obtain⟨u,rfl,O⟩:=C.one;cases O;obtain⟨hz,lo,vs,B,F⟩:=L2.gv I.hok hd;obtain⟨ep,t⟩:=F.dictAt;have T:vs.map (·.1)=ss.map Tu:=by rw[<-B.keys];exact ek
 have y:vs.length=ss.length:=by have:=congrArg U0 T;simpa using this
 refine Wx kind_sorted plain_sorted entry_sorted (args_sorted1 _) ?_;unfold Builtin.«sorted»;refine wpAny_bind (m:=checkCount "sorted" 1 1 _) (wpAny_pure ?_);refine wpAny_bind (kdu_collect (A:=X.A.in1) (kdl_dict (knd:=aX X.prog X.w) (kvs:=vs) (ep:=ep) lo) (I.ok.hd hc) t (by have:=L2.jI;lia) λh' tk acc hk D=>?_);have i:=L2.pE T D;have Z:acc.toList.length=ss.length:=by rw[Tv,D.1,y]
 refine wpAny_bind (wpAny_newList ?_ (by have:=L2.jI;lia));have N:(h'.push (seqObj "list" acc.toList.toArray 0)).get? h'.objs.size=some (seqObj "list" acc.toList.toArray 0):=S1 _ rfl;refine wpAny_bind (wpAny_holding (wpAny_call_entry slot_list_sort ⟨_,N,rfl⟩ entry_list_sort (list_sort_treeK strKind_oneLt N i.keysOf (λJ L rest e=>keyKind_strs (by rw[<-e];exact i)) (by lia) λk hp f=>⟨_,rfl,?_⟩) (args_list_sort _)));obtain⟨x,b1,b2,g⟩:=sorted_out_str i hp f;obtain⟨e,p⟩:=sortedHeap_at (vs:=acc.toList) (n:=0) (out:=(arrOf k).map (·.2)) N;have hf:∀b o,s.heap.get? b=some o->b≠h'.objs.size:=λb o z=>S4 (SS (hk b o z));refine wpAny_pure ⟨_,rfl,.ref _,_,I.Hv (t':=tk) (a:=h'.objs.size) (o:=.lst (x.map V.str)) (λb o z=>?_) hf ⟨?_,((arrOf k).map (·.2)).toList,e,L2.gP b1,?_⟩,rfl,q _ x (I.rg hf) b2 g⟩
 .rw[sortedHeap_old (hf b o z) (by rw[size_push'];exact Wa (SS (hk b o z)))];exact SA _ (hk b o z)
 .rw[Ss,b2.length_eq];exact SW (UO S) L2.jI
 .rw[W4];exact p
def bT:A->Option Rr
 | .dic kvs=>match strKeys kvs with
  |some ss=>if ss.length<64 then some (.nw (.lst ((bP ss).map A.str))) else none
  |none=>none
 |_=>none
theorem vH:lE K (λv=>kz [v]) bT:=by
 intro c Y H Z B θ x v a q Q ek t O F D k;subst ek;obtain⟨L,bl,X⟩:=Bd.open O t F;cases a<;>first|(cases D;done)|skip
 rename_i kvs;unfold bT at D;simp only at D;cases es:strKeys kvs with
 |none=>simp only[es] at D;cases D
 |some ss=>
  simp only[es] at D;split at D
  .rename_i S;cases D;obtain⟨p,vs,rfl,s1,h⟩:=X.2.2 kvs rfl;refine⟨p,vs,ss,rfl,s1,by rw[h.keys,l5 es],S,λr m y pm b=>?_⟩;rw[oC b pm];exact k _ _ trivial (bl.hZ y λG H' sm q=>.lst q (bR.ofStrs _))
  .cases D
noncomputable def ph(f g:A->Option Rr):A->Option Rr:=λa=>match f a with
 |some r=>some r
 |none=>g a
theorem lE.or{r r':V->Hp->VK->Prop}{f g:A->Option Rr}(h:lE K r f)(h':lE K r' g):lE K (λv H Q=>r v H Q\/r' v H Q) (ph f g):=by
 intro c Y H Z B θ x v a q Q ek t O F D k;unfold ph at D;cases e:f a with
 |some z=>simp only[e] at D;cases D;exact .inl (h c Y H Z B θ x v a _ Q ek t O F e k)
 |none=>simp only[e] at D;exact .inr (h' c Y H Z B θ x v a _ Q ek t O F D k)
theorem qI(hc:X.calm=true):cx X (.builtin "sorted") (λxs H Q=>mK X.K xs H Q\/kz xs H Q):=cx.or' (rZ hc) (qG hc)
theorem yQ:lE K (λv H Q=>mK K.K [v] H Q\/kz [v] H Q) (ph bL bT):=uI.or vH
open PySem.Spec PyProof.Rows PySem.W in
def rl:List V->Hp->VK->Prop:=λvs H Q=>∃(a:Addr)(kvs:List (Key×V)),vs=[.ref a]/\Rd H a (.dK kvs)/\∀r,H r=none->Q (.ref r) (upd H r (.dK kvs))
theorem vJ:cx X (.type "dict") rl:=by intro pins s Y H vs us Q I C h;obtain⟨a,kvs,rfl,hd,q⟩:=h;obtain⟨u,rfl,b⟩:=C.one;cases b;exact A4 I hd λp s' hp x=>⟨.ref p,_,x,rfl,q p hp⟩
noncomputable def kW:A->Option Rr
 | .dic kvs=>some (.nw (.dic kvs))
 |_=>none
theorem zj:lE K (λv=>rl [v]) kW:=by
 intro c Y H Z B θ x v a q Q ek t O F D k;subst ek;obtain⟨L,bl,X⟩:=Bd.open O t F;cases a<;>first|(cases D;done)|skip
 rename_i kvs;cases D;obtain⟨p,vs,rfl,s1,h⟩:=X.2.2 kvs rfl;exact⟨p,vs,rfl,s1,λr y=>k _ _ trivial (bl.hZ y λG H' sm q=>.dic q (h.sm sm))⟩
end
end M
namespace L2
open PySem PySem.Spec PyProof.Rows
theorem jk{prog:Program}{w:World}{A:Around}{E:Value->Shared->Prop}{s:Shared}{t sl:Addr}{items:Array Value}{Y J:Value}{lo hi:Option Int}{Q:Value->Shared->Prop}(ht:IsTup s.heap t items)(u:s.heap.IsSliceOf sl Y J .none)(pl:IsPart Y lo)(V:IsPart J hi)
  (r:HT.c6 items.size 0 lo=0/\HT.c6 items.size items.size hi=items.size)(h:Q (.ref t) s):wpAny (model prog w) A (getItem (.ref t) (.ref sl)) Q E s:=by
 obtain⟨os,H,b,I⟩:=id u;have f:s.TypeIs (.ref sl) "slice" := ⟨os,H,b⟩
 unfold getItem
 try with_reducible refine wpAny_holding ?_
 first|refine wpAny_bind (wpAny_pure ?_)|skip
 refine wpAny_bind (wpAny_sequenceKey ht.typeIs (by decide) ?_);refine wpAny_bind (wpAny_callSpecial?_slot (name:=Yj "__getitem__") ht.typeIs Tx
  (wpAny_call_entry Tx ht.typeIs entry_tuple_getitem ?_ (args_tuple_getitem _ _)))
 show wpAny _ _ (VQ (.ref t) >>= _) _ _ s;refine wpAny_bind (tupleItemsOf_ ht ?_);refine wpAny_bind (wpAny_typeOf f ?_);rw[if_pos (by decide)];refine wpAny_bind (HT.gx u pl V ?_);show wpAny _ _ (if (((HT.c6 items.size 0 lo:Nat):Int)==0&&(1:Int)==1&&(HT.c6 items.size items.size hi-HT.c6 items.size 0 lo)==items.size)=true then _ else _) _ _ s;rw[if_pos (by rw[r.1,r.2];simp)];refine wpAny_bind ?_;unfold Yn;refine wpAny_bind (wpAny_typeOf ht.typeIs (wpAny_pure ?_));rw[if_pos (by decide)];refine wpAny_bind (wpAny_rule ?_);exact wpAny_pure ⟨_,rfl,wpAny_pure h⟩
def QC(K:So):V->Option Int->Option Int->Hp->VK->Prop:=λx lo hi H Q=>∃a xs,x=.ref a/\gK K H a xs/\(HT.c6 xs.length 0 lo=0/\HT.c6 xs.length xs.length hi=xs.length)/\Q (.ref a) H
theorem F8{X:Cx}:dY X (QC X.K):=by
 intro pins s Y H x v E J lo hi sl Q I A u pl V h;obtain⟨a,xs,rfl,w,o,q⟩:=h;cases A;obtain⟨its,r,ht,hz⟩:=I.tuple w;have z:its.toArray.size=xs.length:=by rw[SD];exact r.length.symm
 refine⟨"tuple",_,Tx.lookup,ht.typeIs,?_⟩;exact jk ht u pl V (by rw[z];exact o) ⟨.ref a,H,I,rfl,q⟩
end L2
namespace M
open PySem L2
variable{c:Cn}{Y B:St}{H:Hp}{Z θ:List Sl}{L:List Addr}
theorem fO.NA{v w:V}{a b:A}(bl:fO c Y H Z B θ L)(h1:RA c.toKx (c.g H L) v a)(h2:RA c.toKx (c.g H L) w b):Bd c Y H Z (some v::some w::B) (.fr a::.fr b::θ):=
 ⟨L,bl.nd,aB.cons (L:=[]) (.fr h1) (aB.cons (L:=[]) (.fr h2) bl.rel),bl.own,bl.fr,bl.kp,by simp[bl.lt],bl.hd⟩
variable{mo m:Mi Rr}{K:Kx}{e:Expr}{apos cpos p2 pos:Pos}{O:List Sl}{Q:Option Int->Hp->Prop}{i j:Nat}
section
variable{X:Cx}{E:XK}
def vy(K:So):V->List V->Hp->VK->Prop:=λx vs H Q=>∃(q:Str)(l:Addr)(ss:List Str),x=.str q/\vs=[.ref l]/\gI K H l (ss.map V.str)/\jl ss+ss.length*q.length<=100000/\Q (.str (TH q ss)) H
theorem oy(q:Str):∀(ss:List Str)(n:Nat),ss.foldl (λ(a:Nat)(z:Str)=>a+z.length+q.length) n=n+jl ss+ss.length*q.length
 |[],n=>by simp[jl]
 |z::ss,n=>by rw[XG,oy q ss];have e:jl (z::ss)=z.length+jl ss:=rfl;rw[e,SF,Nat.add_mul,Nat.one_mul];lia
open PySem.Spec PyProof.Rows PySem.W in
theorem zA:P4 X "str.join" (vy X.K):=by
 intro pins s Y H x vs v us Q I A C h;obtain⟨B,l,ss,rfl,rfl,S,hl,q⟩:=h;obtain⟨t,rfl⟩:=A;obtain⟨u,rfl,O⟩:=C.one;cases O;obtain⟨its,r,p,hz⟩:=I.list S;obtain⟨ps,rfl,j⟩:=L2.jB (L2.nj r);have R:=uU;have Z:Vo ((ps.map (·.1)).toArray.foldl (·+·.length+B.length) 0)=false:=by
  have e:(ps.map (·.1)).toArray.foldl (λ(a:Nat)(z:Str)=>a+z.length+B.length) 0=jl ss+ss.length*B.length:=by rw[List.foldl_toArray,oy,j,Yo]
  unfold Vo;rw[e];exact decide_eq_false (by lia)
 refine call_meets F.slot_str_join (typeIs_str _ _ _) F.entry_str_join (F.args_str_join_2 _ _) (meets_str_join_list B t l ps Z) ⟨p.isList,?_⟩;have N:(TH B ss).length<=jl ss+ss.length*B.length:=by rw[size_glued];have:(ss.length-1)*B.length<=ss.length*B.length:=Nat.mul_le_mul_right _ (Y1 _ _);have e:jl ss=(ss.map (·.length)).sum:=rfl;lia
 have V:∀(z:Str)(t':Tok)(k:Nat),z=TH B ss->EP X pins Y Q (.str z t') { s with toks:=k }:=λz t' k e=>⟨.str z,H,I.tok _,⟨t',rfl⟩,by rw[e];exact q⟩
 have fin:(Made.str (TH B (ps.map (·.1)))).post (λv s'=>EP X pins Y Q v s') s:=⟨by rw[j];lia,V _ _ _ (by rw[j])⟩
 cases ps with
 |nil=>exact fin
 |cons a ps=>
  cases ps with
  |nil=>subst j;exact V a.1 a.2 s.toks rfl
  |cons b ps=>exact fin
def Sk(f:Str->Option Rr)(mo:Mi Rr):Mi Rr:=aW mo λx Z=>match x with
 | .fr (.str z)=>match f z with
  |some r=>some (.ok r,Z)
  |none=>none
 |_=>none
def Dm(f:Str->A->Option Rr)(mo m:Mi Rr):Mi Rr:=aW mo λx S=>match x with
 | .fr (.str z)=>aW m (λy Z=>match res Z y with
  |some a=>match f z a with
   |some r=>some (.ok r,Z)
   |none=>none
  | none=>none) S
 |_=>none
theorem wL{r:V->List V->Hp->VK->Prop}{f:Str->A->Option Rr}(hf:∀z,lE (kx X) (λw=>r (.str z) [w]) (f z))(Y:St)(H:Hp)(Q:VK)(h:gJ (kx X) E (Dm f mo m) Y H Q):
  gJ (kx X) E mo Y H λx e=>PV X.K "str" x e/\gJ (kx X) E m Y e λy T=>r x [y] T Q:=by
 obtain⟨c,Z,B,θ,o,O,s,b,em,q⟩:=h;refine bH s b em (λx v U e t b1 p=>?_) (bh q);cases x with
 |rf i=>cases p
 |nw o=>cases p
 |fr a=>
  cases a<;>first|(cases p;done)|skip
  rename_i z;have k:=Bd.top b1 (a:=.str z) rfl;cases k;refine⟨rfl,?_⟩;refine bH s b1.pop p (λy w Z' T u b2 L=>?_) (bh q);obtain⟨a,r,F,D,rfl,rfl⟩:=sd L;exact hf z c Y T _ B θ y w a r Q s u b2 F D q
def kK(q:Str):A->Option Rr
 | .lst xs=>match jC xs with
  |some ss=>if jl ss+ss.length*q.length<=100000 then some (.fr (.str (TH q ss))) else none
  |none=>none
 |_=>none
theorem Fj(B:Str):lE K (λw=>vy K.K (.str B) [w]) (kK B):=.scalar λH v a q z h=>by
 cases a<;>first|(cases h;done)|skip
 rename_i xs;unfold kK at h;simp only at h;cases es:jC xs with
 |none=>simp only[es] at h;cases h
 |some ss=>
  simp only[es] at h;split at h
  .rename_i hl;cases h;cases z with
   |lst e r=>rw[k9 es] at r;rw[r.strs] at e;exact⟨_,_,rfl,λ_=>.str _,λQ k=>⟨B,_,ss,rfl,rfl,e,hl,k⟩⟩
  .cases h
theorem DD{o:Expr}(i:JE X E o mo)(R:JE X E e m)(hp:∀{s n:TE},PE X o s->PE X e n->PE X (.Call (.Attribute o "join" apos) [e] [] cpos) (Q2 X.K "str" (vy X.K) s (wu n Dh))):
  JE X E (.Call (.Attribute o "join" apos) [e] [] cpos) (Dm kK mo m):=⟨PE.weaken (hp i.p R.p) λY H Q h=>wL Fj Y H Q h⟩
def j5:Mi (Option Int):=oS none
def oA(m:Mi Rr):Mi (Option Int):=aW m λr Z=>match res Z r with
 |some (.int i)=>some (.ok (some i),Z)
 |_=>none
def OL(K:Kx)(E:XK)(c:Cn)(Y:St)(Z:List Sl)(B:St)(θ:List Sl)(Q:Option Int->Hp->Prop):Except Str (Option Int)->Prop
 | .ok i=>∀H,Bd c Y H Z B θ->Q i H
 | .error x=>∀C H,K.mg x=some (.ref C)->Bd c Y H Z B θ->E (.ref C) none H
inductive Rm(K:Kx)(E:XK)(m:Mi (Option Int))(Y:St)(H:Hp)(Q:Option Int->Hp->Prop):Prop
 |mk(c:Cn)(Z:List Sl)(B:St)(θ:List Sl)(o:Except Str (Option Int))(O:List Sl)(h1:c.toKx=K)(h2:Bd c Y H Z B θ)(h3:m Z=some (o,O))(h4:OL K E c Y O B θ Q o)
structure JP(X:Cx)(E:XK)(e:Option Expr)(m:Mi (Option Int)):Prop where
 p:PO X e (Rm (kx X) E m)
theorem PO.weaken{e:Option Expr}{t t':TO}(h:PO X e t)(f:∀Y H Q,t' Y H Q->t Y H Q):PO X e t':=λpins s Y H Q I q=>h pins s Y H Q I (f Y H Q q)
theorem Ar{o:Except Str (Option Int)}(q:OL (kx X) E c Y O B θ Q o):∀e,o=.error e->∀C H,X.mg e=some (.ref C)->Bd c Y H O B θ->E (.ref C) none H:=λe b=>by subst b;exact q
theorem Fo:JP X E none j5:=⟨PO.weaken Gg λY H Q h=>by obtain⟨c,Z,B,θ,o,O,s,b,em,q⟩:=h;cases em;exact q H b⟩
theorem Es(h:JE X E e m):JP X E (some e) (oA m):=⟨PO.weaken (Ew h.p) λY H Q h=>by
 obtain⟨c,Z,B,θ,o,O,s,b,em,q⟩:=h;refine bH s b em (λx v U y t b1 r=>?_) (Ar q);cases F:res U x with
 |none=>simp only[F] at r;cases r
 |some a=>
  have k:=Bd.rd b1 t F;cases a<;>first|(simp only[F] at r;cases r;done)|skip
  simp only[F] at r;cases r;cases k;exact⟨_,rfl,q y b1.drop⟩⟩
def yK(xs:List A)(lo hi:Option Int):List A:=(xs.drop (HT.c6 xs.length 0 lo)).take (HT.c6 xs.length xs.length hi-HT.c6 xs.length 0 lo)
theorem ze{k:Kx}{G:Hp}{vs:List V}{as:List A}(r:bR k G vs as)(lo hi:Option Int):bR k G (rG vs lo hi) (yK as lo hi):=by unfold rG yK;rw[r.len];exact(r.drop _).take _
def Rb(a:A)(lo hi:Option Int):Option Rr:=match a with
 | .lst xs=>some (.nw (.lst (yK xs lo hi)))
 | .tup xs=>some (.fr (.tup (yK xs lo hi)))
 | .str z=>if z.length<=100000 then some (.fr (.str (T4 z lo hi))) else none
 |_=>none
def MD(m:Mi Rr)(ml mh:Mi (Option Int)):Mi Rr:=aW m λx=>aW ml λlo=>aW mh λhi=>λZ=>match res Z x with
 |some a=>match Rb a lo hi with
  |some r=>some (.ok r,Z)
  |none=>none
 |none=>none
theorem vP{β:Type}{m:Mi (Option Int)}{f:Option Int->Mi β}{o:Except Str β}(s:c.toKx=kx X)(b:Bd c Y H Z B θ)(em:aW m f Z=some (o,O))
  (h1:∀k U y,Bd c Y y U B θ->f k U=some (o,O)->Q k y)
  (h2:∀e,o=.error e->∀C H,X.mg e=some (.ref C)->Bd c Y H O B θ->E (.ref C) none H):Rm (kx X) E m Y H Q:=by
 rcases bind_some em with ⟨x,U,F,j⟩|⟨e,F,j⟩
 .exact⟨c,Z,B,θ,_,U,s,b,F,λy b1=>h1 x U y b1 j⟩
 .exact⟨c,Z,B,θ,_,O,s,b,F,λC y hm b1=>h2 e j C y hm b1⟩
theorem Pf{lo hi:Option Expr}{ml mh:Mi (Option Int)}(h:JE X E e m)(hl:JP X E lo ml)(V:JP X E hi mh):JE X E (.Subscript e (.Slice lo hi none p2) pos) (MD m ml mh):=
 ⟨PE.weaken (CT (L2.dY.or Gy (L2.dY.or (L2.dY.or K3 F8) LX)) h.p hl.p V.p) λY H Q h=>by
  obtain⟨c,Z,B,θ,o,O,s,b,em,q⟩:=h;refine bH s b em (λx v U y t b1 S=>?_) (bh q);refine vP s b1 S (λl Z' f b2 N=>?_) (fj (bh q));refine vP s b2 N (λu F n g R=>?_) (fj (bh q));obtain⟨a,r,i,D,rfl,rfl⟩:=sd R;have w:c.K=X.K:=congrArg Kx.K s;obtain⟨L,bl,T⟩:=Bd.open g t i;have k:=Bd.rd g t i;cases a<;>first|(cases D;done)|skip
  .rename_i z;unfold Rb at D;simp only at D;split at D
   .rename_i hz;cases D;cases k;exact .inr (.inr ⟨z,rfl,SW hz kA,q _ n trivial (Bd.push ⟨L,bl⟩ λ_=>.str _)⟩)
   .cases D
  .rename_i xs;cases D;obtain⟨p,vs,rfl,s1,A⟩:=T.2.1 xs rfl;by_cases hn:HT.c6 xs.length 0 l=0/\HT.c6 xs.length xs.length u=xs.length
   .refine .inr (.inl (.inr ⟨p,vs,rfl,by rw[<-w];exact dt (g_same _ _ _) s1,by rw[A.len];exact hn,?_⟩));have J:yK xs l u=xs:=by unfold yK;rw[hn.1,hn.2,Wz,W6,S9]
    rw[J] at q;exact q _ _ trivial (bl.push (.tup s1 A))
   .refine .inr (.inl (.inl ⟨p,vs,rfl,by rw[<-w];exact dt (g_same _ _ _) s1,by rw[A.len];exact hn,λC hp=>?_⟩));obtain⟨b2,sm,np⟩:=bl.new (o:=.tup (rG vs l u)) hp;exact q _ _ trivial (b2.push (.tup (.inl (.inl (by rw[bB np (bl.PN hp)];exact bK))) ((ze A l u).sm sm)))
  .rename_i xs;cases D;obtain⟨p,vs,rfl,s1,A⟩:=T.1 xs rfl;exact .inl ⟨p,vs,rfl,by rw[<-w];exact s1,λC hp=>q _ _ trivial (bl.hZ hp λG H' sm q=>.lst q ((ze A l u).sm sm))⟩⟩
noncomputable def R9(f g:Mg):Mg:=λa Z=>match f a Z with
 |some r=>some r
 |none=>g a Z
def GP(m:Mi Rr)(G:Mg):Ms:=c8 m λr Z=>match bz r Z with
 |some (a,U)=>match G a U with
  |some Z'=>some (.nx,Z')
  |none=>none
 |none=>none
theorem KO{tg:Expr}{G:Mg}(he:JE X E e m)(hg:JG X 0 tg G)(hs:swapsWithSole [tg] e pos.line X.env=pure false:=by rfl)(hw:swappedStores [tg] e X.env=pure none:=by rfl)
  (hp:∀{te:TE}{g:TG},PE X e te->PG X tg g->PS X (.Assign [tg] e pos) (Aw te g)):JS X E (.Assign [tg] e pos) (GP m G):=⟨PS.weaken (hp he.p hg.p) λD Y H h=>by
 obtain⟨c,Z,B,θ,f,O,ek,b,em,q⟩:=h;refine eU ek b em q λr v U H1 hv b1 em1=>?_;cases e1:bz r U with
 |none=>simp only[e1] at em1;cases em1
 |some p=>
  obtain⟨a,Z'⟩:=p;simp only[e1] at em1;have b2:=Bd.bz (xs:=[]) (ss:=[]) rfl b1 hv e1;cases e2:G a Z' with
  |none=>simp only[e2] at em1;cases em1
  | some F=>simp only[e2] at em1;cases em1;exact⟨c,Z',B,_,a,O,ek,b2,e2,λZ0 H' _ _ b3=>q Z0 H' b3⟩⟩
def DR(i j:Nat)(rs:List Rr)(Z:List Sl):Option (Fl×List Sl):=match gB rs Z with
 |some ([a,b],U)=>match put i (.fr a) U with
  |some Z'=>match put j (.fr b) Z' with
   |some F=>some (.nx,F)
   |none=>none
  |none=>none
 |_=>none
theorem yh{rs:List Rr}{f:Fl}(h:DR i j rs Z=some (f,O)):∃a d Z' F,gB rs Z=some ([a,d],Z')/\put i (.fr a) Z'=some F/\put j (.fr d) F=some O/\f=.nx:=by
 unfold DR at h;cases V:gB rs Z with
 |none=>rw[V] at h;cases h
 |some p=>
  rw[V] at h;obtain⟨as,Z'⟩:=p
  match as,h with
  |[a,d],h=>
   dsimp only at h;cases D:put i (.fr a) Z' with
   |none=>rw[D] at h;cases h
   |some F=>
    rw[D] at h;dsimp only at h;cases N:put j (.fr d) F with
    |none=>rw[N] at h;cases h
    |some T=>rw[N] at h;cases h;exact⟨a,d,Z',F,rfl,D,N,rfl⟩
theorem E8{α:Type}{l:List α}(h:l.length=2):∃a b,l=[a,b]:=match l,h with
 |[a,b],_=>⟨a,b,rfl⟩
def zF(i j:Nat)(m:Mi (List Rr)):Ms:=c8 m (DR i j)
theorem IC{s:Stmt}{es:List Expr}{m:Mi (List Rr)}(ha:JA X E es m)(R:i≠j)(hp:∀{ta:TA},PA X es ta->PS X s (NH i j ta)):JS X E s (zF i j m):=⟨PS.weaken (hp ha.p) λD Y H h=>by
 obtain⟨c,Z,B,θ,f,O,V,b,em,q⟩:=h;rcases dJ em with ⟨rs,U,S,J⟩|⟨e,S,J⟩
 .refine⟨c,Z,B,_,_,U,V,b,S,λvs y t b1=>?_⟩;obtain⟨a,d,Z',F,A,Q,N,rfl⟩:=yh J;obtain⟨b2,T⟩:=Bd.gB t b1 A;obtain⟨v,w,rfl⟩:=E8 T;refine⟨v,w,rfl,q _ y ?_⟩;have g:Bd c Y y Z' (some w::some v::B) (.fr d::.fr a::θ.map Sl.fr):=by simpa using b2
  obtain⟨L,bl,x⟩:=Bd.my (vs:=[w,v]) (as:=[d,a]) g rfl;cases x with|cons h1 x=>cases x with|cons h2 _=>
  exact Bd.put (Bd.put (fO.NA bl h2 h1) (λo z=>by cases z) Q) (λo z=>by cases z) N
 .subst J;exact⟨c,Z,B,_,_,O,V,b,S,λC y hm b1=>q C Y y hm b1⟩⟩
end
section
variable{X:Cx}{E:XK}{a b:Expr}{ma mb:Mi Rr}{pos:Pos}
abbrev d5:=bS vO zm
theorem LL(ha:JE X E a ma)(d:JE X E b mb):JE X E (.BinOp a .Sub b pos) (aD vx ma mb):=qB KS IT ha d
theorem J8(ha:JE X E a ma)(d:JE X E b mb):JE X E (.BinOp a .Mult b pos) (aD d5 ma mb):=qB (d6.or' Eh D1) (GL.or EA) ha d
theorem Iv(ha:JE X E a ma)(d:JE X E b mb):JE X E (.BinOp a .FloorDiv b pos) (aD l9 ma mb):=qB B5 KW ha d
theorem Ku(ha:JE X E a ma)(d:JE X E b mb):JE X E (.BinOp a .Mod b pos) (aD j9 ma mb):=qB DT Ju ha d
theorem K4(ha:JE X E a ma)(d:JE X E b mb):JE X E (.BinOp a .Pow b pos) (aD nN ma mb):=qB IU JR ha d
theorem O4(f:X.A.units+64<cLine)(ha:JE X E a ma)(d:JE X E b mb):JE X E (.Compare a [.Eq] [b] pos) (aD gG ma mb):=dG (As f) os_eq ha d (dm _)
theorem Of(f:X.A.units+64<cLine)(ha:JE X E a ma)(d:JE X E b mb):JE X E (.Compare a [.NotEq] [b] pos) (aD jc ma mb):=dG (BO f) G7 ha d (dm _)
theorem Pb(ha:JE X E a ma)(d:JE X E b mb):JE X E (.Compare a [.Lt] [b] pos) (aD vc ma mb):=dG xi G0 ha d (dm _)
theorem Ou(ha:JE X E a ma)(d:JE X E b mb):JE X E (.Compare a [.Gt] [b] pos) (aD IA ma mb):=dG BZ Hf ha d (dm _)
theorem MQ(ha:JE X E a ma)(d:JE X E b mb):JE X E (.Compare a [.GtE] [b] pos) (aD Mo ma mb):=dG CG He ha d (dm _)
theorem OR(ha:JE X E a ma)(d:JE X E b mb):JE X E (.Compare a [.Is] [b] pos) (aD (xM false) ma mb):=dG CK HA ha d (dm _)
theorem D8(ha:JE X E a ma)(d:JE X E b mb):JE X E (.Compare a [.IsNot] [b] pos) (aD (xM true) ma mb):=dG vY xg ha d (dm _)
theorem NW(f:X.A.units+64<cLine)(ha:JE X E a ma)(d:JE X E b mb):JT X E (.Compare a [.Eq] [b] pos) (ao (aD gG ma mb)):=dE (As f) os_eq ha d (dm _)
theorem Oy(f:X.A.units+64<cLine)(ha:JE X E a ma)(d:JE X E b mb):JT X E (.Compare a [.NotEq] [b] pos) (ao (aD jc ma mb)):=dE (BO f) G7 ha d (dm _)
theorem MF(ha:JE X E a ma)(d:JE X E b mb):JT X E (.Compare a [.Lt] [b] pos) (ao (aD vc ma mb)):=dE xi G0 ha d (dm _)
theorem Ol(ha:JE X E a ma)(d:JE X E b mb):JT X E (.Compare a [.Gt] [b] pos) (ao (aD IA ma mb)):=dE BZ Hf ha d (dm _)
theorem NV(ha:JE X E a ma)(d:JE X E b mb):JT X E (.Compare a [.GtE] [b] pos) (ao (aD Mo ma mb)):=dE CG He ha d (dm _)
theorem Pq(ha:JE X E a ma)(d:JE X E b mb):JT X E (.Compare a [.Is] [b] pos) (ao (aD (xM false) ma mb)):=dE CK HA ha d (dm _)
theorem Fy(ha:JE X E a ma)(d:JE X E b mb):JT X E (.Compare a [.IsNot] [b] pos) (ao (aD (xM true) ma mb)):=dE vY xg ha d (dm _)
end
noncomputable def AL:Nat:=2^10000
noncomputable def Br(K:So):Sp:=λvs H Q _=>∃(p:Addr)(ns:List Int),vs=[.ref p]/\gI K H p (ns.map V.int)/\ns.length<=63/\∀H',Q (.bl true) H'
theorem wq{k:Kx}{G:Hp}:∀(ns:List Int),bR k G (ns.map V.int) (ns.map A.int)
 |[]=>.nil
 |n::ns=>.cons (.int n) (wq ns)
theorem Lo{P:Program}{w:World}{K:So}{mg:Str->Option Value}{base:Heap}{CX:sx}{k:Nat}{f:Addr}{fd:FuncData}{ps:List Str}{m:Ms}(F:dq P w K mg base CX k f fd ps (jg ⟨K,mg,P,w⟩ 1 m))
  (h:∀ns:List Int,ns.length<=63->∃Z,m [.fr (.lst (ns.map A.int))]=some (.rt (.fr (.bl true)),Z)):dq P w K mg base CX k f fd ps (Br K):=
 F.imp λvs H Q E q=>by
  obtain⟨p,ns,rfl,u,hl,q⟩:=q;obtain⟨Z,e⟩:=h ns hl
  let c:Cn:={ K:=K,mg:=mg,P:=P,w:=w,σ0:=[some (.ref p)],H0:=H,Lp:=[],Hd:=[],Wk:=[] }
  refine⟨rfl,c,_,_,Z,rfl,rfl,rfl,⟨.nil,aB.cons (L:=[]) (.fr (.lst (nZ (Sq.of λb o e=>?_) u) (wq ns))) .nil,λp hp=>(by cases hp),⟨λb o e=>⟨o,e,λ_ _=>rfl⟩,λq j=>(by cases j)⟩,λi o _=>rfl,rfl,λq j=>(by cases j)⟩,e,λv H' _ b=>?_⟩
  .rw[bB (c:=c) (λz=>by cases z) (λz=>by cases z)];exact e
  .have r:=Bd.top b (a:=.bl true) rfl;cases r;exact q H'
def kT(m:Mi Rr):Mi Rr:=aW m λr Z=>match bz r Z with
 |some (a,O)=>some (.ok (.fr a),O)
 |none=>none
variable{X:Cx}
theorem OP{E:XK}(R:JE X E e m):JE X E e (kT m):=⟨PE.weaken R.p λY H Q h=>by
 obtain⟨c,Z,B,θ,o,O,s,b,em,q⟩:=h;refine bH s b em (λx v U y t b1 r=>?_) (bh q);cases F:bz x U with
 |none=>simp only[F] at r;cases r
 | some p=>obtain⟨a,Z'⟩:=p;simp only[F] at r;cases r;exact q v y trivial (Bd.bz (xs:=[]) (ss:=[]) rfl b1 t F)⟩
variable{x:Str}
section
variable{X:Cx}{E:XK}
inductive Ty where|bool|int|str|tuple|list|dict
 deriving DecidableEq
noncomputable def Ty.n:Ty->String
 | .bool=> "bool" | .int=> "int" | .str=> "str" | .tuple=> "tuple" | .list=> "list" | .dict=> "dict"
noncomputable def Qp(T:Ty):A->Option Bool
 | .non=>some false
 | .bl _=>some (T=.bool || T=.int)
 | .int _=>some (T=.int)
 | .str _=>some (T=.str)
 | .tup _=>some (T=.tuple)
 | .lst _=>some (T=.list)
 | .dic _=>some (T=.dict)
 |_=>none
def cG(T:Ty)(a:A):Option Rr:=match Qp T a with
 |some k=>some (.fr (.bl k))
 |none=>none
theorem Ma(K:So)(T:Ty):TQ K (.type "NoneType") (.type T.n)=some false:=by cases T<;>kernel_rfl
theorem FQ(K:So)(T:Ty):TQ K (.type "bool") (.type T.n)=some (T=.bool || T=.int:Bool):=by cases T<;>kernel_rfl
theorem Kt(K:So)(T:Ty):TQ K (.type "int") (.type T.n)=some (T=.int:Bool):=by cases T<;>kernel_rfl
theorem IZ(K:So)(T:Ty):TQ K (.type "str") (.type T.n)=some (T=.str:Bool):=by cases T<;>kernel_rfl
theorem Iy(K:So)(T:Ty):TQ K (.type "tuple") (.type T.n)=some (T=.tuple:Bool):=by cases T<;>kernel_rfl
theorem LB(K:So)(T:Ty):TQ K (.type "list") (.type T.n)=some (T=.list:Bool):=by cases T<;>kernel_rfl
theorem LU(K:So)(T:Ty):TQ K (.type "dict") (.type T.n)=some (T=.dict:Bool):=by cases T<;>kernel_rfl
theorem Kw(T:Ty):lE K (λv H Q=>∃x c t b,[v,V.ty T.n]=[x,c]/\EE K.K H x t/\wC c=true/\TQ K.K t (GW c)=some b/\Q (.bl b) H) (cG T):=.scalar λH v a q z h=>by
 cases a<;>first|(cases h;done)|skip
 .cases z;cases h;exact⟨_,_,rfl,λ_=>.bl _,λQ k=>⟨_,_,_,_,rfl,.of .non,rfl,Ma _ T,k⟩⟩
 .cases z;cases h;exact⟨_,_,rfl,λ_=>.bl _,λQ k=>⟨_,_,_,_,rfl,.of (.bl _),rfl,FQ _ T,k⟩⟩
 .cases z;cases h;exact⟨_,_,rfl,λ_=>.bl _,λQ k=>⟨_,_,_,_,rfl,.of (.int _),rfl,Kt _ T,k⟩⟩
 .cases z;cases h;exact⟨_,_,rfl,λ_=>.bl _,λQ k=>⟨_,_,_,_,rfl,.of (.str _),rfl,IZ _ T,k⟩⟩
 .cases z with
  |tup e r=>cases h;exact⟨_,_,rfl,λ_=>.bl _,λQ k=>⟨_,_,_,_,rfl,.tup e,rfl,Iy _ T,k⟩⟩
 .cases z with
  |lst e r=>cases h;exact⟨_,_,rfl,λ_=>.bl _,λQ k=>⟨_,_,_,_,rfl,.lst e,rfl,LB _ T,k⟩⟩
 .cases z with
  |dic e r=>cases h;exact⟨_,_,rfl,λ_=>.bl _,λQ k=>⟨_,_,_,_,rfl,.dic e,rfl,LU _ T,k⟩⟩
theorem Ib{y:Str}{p:Pos}(T:Ty)(hg:Gl X x)(hm:X.mg x=none)(hv:bootBuiltins x=some (.builtin "isinstance"))(hg2:Gl X y)(hm2:X.mg y=none)(hv2:bootBuiltins y=some (.type T.n))(ha:JE X E e m)(hn:x ≠ "__name__")
  (hdb:iw x)(hn2:y ≠ "__name__")(hdb2:iw y)(hs:starEach [e,.Name y p2] X.env=(false,eval e X.env)::starEach [.Name y p2] X.env:=by rfl)(hs2:starEach [.Name y p2] X.env=(false,eval (.Name y p2) X.env)::starEach [] X.env:=by rfl)(hp:(backTo pos (starEach [.Name y p2] X.env)).any (·.1)=false:=by rfl):JE X E (.Call (.Name x p) [e,.Name y p2] [] pos) (cb (cG T) m):=
 ⟨PE.weaken (nR Cv hg hm hv (cE ha.p (cE (EY hg2 hm2 hv2 (v:=.ty T.n) rfl hn2 hdb2) eF hs2) hs) hn hdb hs hp) λY H Q h=>jV (r:=λv H Q=>∃x c t b,[v,V.ty T.n]=[x,c]/\EE (kx X).K H x t/\wC c=true/\TQ (kx X).K t (GW c)=some b/\Q (.bl b) H) (Kw T) Y H Q h⟩
end
variable{r r':R2}{p q:Int->Int->Bool}{ma mb mc:Mi Rr}{op op':CmpOp}{b:Expr}
section
variable{X:Cx}{E:XK}
def gT(p q:Int->Int->Bool)(ma mb mc:Mi Rr):Mi Rr:=aW ma λx=>aW mb λy=>λZ=>match res Z x,res Z y with
 |some (.int i),some (.int j)=>match p i j with
  | true=>aW mc (λz Z'=>match res Z' z with
   |some (.int k)=>some (.ok (.fr (.bl (q j k))),Z')
   | _=>none) Z
  |false=>some (.ok (.fr (.bl false)),Z)
 |_,_=>none
theorem m7(A:∀i j H Q,Q (.bl (p i j)) H->r (.int i) (.int j) H Q)(m:∀i j H Q,Q (.bl (q i j)) H->r' (.int i) (.int j) H Q)(Y:St)(H:Hp)(Q:VK)(h:gJ (kx X) E (gT p q ma mb mc) Y H Q):
  uD r r' (gJ (kx X) E ma) (gJ (kx X) E mb) (gJ (kx X) E mc) Y H Q:=by
 obtain⟨c,Z,B,θ,o,O,s,b,em,a⟩:=h;refine bH s b em (λx v U e t b1 S=>?_) (bh a);refine bH s b1 S (λy w Z' T u b2 L=>?_) (fj (bh a));obtain⟨i,j,G,J,L⟩:=Bg L;obtain⟨rfl,rfl⟩:v=.int i/\w=.int j:=by have n:=Bd.rd b2 u J;have C:=Bd.rd b2.drop t G;cases C;cases n;exact⟨rfl,rfl⟩
 refine A _ _ _ _ ⟨p i j,rfl,?_⟩;cases ep:p i j with
 |false=>rw[ep] at L;cases L;exact a _ T trivial (Bd.push b2.drop.drop (λ_=>.bl _))
 |true=>rw[ep] at L;refine bH s b2.drop.drop L (λz I F D hz g R=>?_) (bh a);obtain⟨k,V,R⟩:=Bq R;have K:=Bd.rd g hz V;cases K;cases R;exact m _ _ _ _ (a _ D trivial (Bd.push g.drop (λ_=>.bl _)))
theorem sP{a c:Expr}(ho:d6 X (compareOp op) r)(ho':d6 X (compareOp op') r')(hr:∀i j H Q,Q (.bl (p i j)) H->r (.int i) (.int j) H Q)(hr':∀i j H Q,Q (.bl (q i j)) H->r' (.int i) (.int j) H Q)
  (ha:JE X E a ma)(hb:JE X E b mb)(hc:JE X E c mc)(hm:lastMarks [op,op'] [b,c]=false:=by with_unfolding_all rfl):JE X E (.Compare a [op,op'] [b,c] pos) (gT p q ma mb mc):=⟨PE.weaken (BP ho ho' ha.p hb.p hc.p hm) (m7 hr hr')⟩
theorem zZ{a c:Expr}(ho:d6 X (compareOp op) r)(ho':d6 X (compareOp op') r')(hr:∀i j H Q,Q (.bl (p i j)) H->r (.int i) (.int j) H Q)(hr':∀i j H Q,Q (.bl (q i j)) H->r' (.int i) (.int j) H Q)
  (ha:JE X E a ma)(hb:JE X E b mb)(hc:JE X E c mc)(hm:lastMarks [op,op'] [b,c]=false:=by with_unfolding_all rfl):JT X E (.Compare a [op,op'] [b,c] pos) (ao (gT p q ma mb mc)):=⟨PT.weaken (Am ho ho' ha.p hb.p hc.p hm) λY H Q h=>m7 hr hr' Y H _ (eY Y H Q h)⟩
noncomputable abbrev Qs(i j:Int):Bool:=decide (i<j)
noncomputable abbrev Oi(i j:Int):Bool:=decide (i<=j)
noncomputable abbrev Rj(i j:Int):Bool:=decide (j<i)
noncomputable abbrev RK(i j:Int):Bool:=decide (j<=i)
theorem Hx(i j:Int)(H:Hp)(Q:VK)(q:Q (.bl (Qs i j)) H):tX (λi j=>.bl (decide (i<j))) (.int i) (.int j) H Q:=⟨_,_,rfl,rfl,q⟩
theorem Hj(i j:Int)(H:Hp)(Q:VK)(q:Q (.bl (Oi i j)) H):tX (λi j=>.bl (decide (i<=j))) (.int i) (.int j) H Q:=⟨_,_,rfl,rfl,q⟩
theorem Ni(i j:Int)(H:Hp)(Q:VK)(q:Q (.bl (Rj i j)) H):tX (λi j=>.bl (decide (j<i))) (.int i) (.int j) H Q:=⟨_,_,rfl,rfl,q⟩
theorem MM(i j:Int)(H:Hp)(Q:VK)(q:Q (.bl (RK i j)) H):tX (λi j=>.bl (decide (j<=i))) (.int i) (.int j) H Q:=⟨_,_,rfl,rfl,q⟩
example {a b c:Expr} {ma mb mc:Mi Rr} {pos:Pos} (ha:JE X E a ma) (hb:JE X E b mb) (hc:JE X E c mc) (hm:lastMarks [.LtE,.Lt] [b,c]=false):JE X E (.Compare a [.LtE,.Lt] [b,c] pos) (gT Oi Qs ma mb mc):=sP HX xi Hj Hx ha hb hc hm
end
section
variable{X:Cx}{E:XK}
def Cj(K:So):R2:=λx y H Q=>∃a b xs ys,x=.ref a/\y=.ref b/\gI K H a xs/\gI K H b ys/\xs.length+ys.length<=sizeLine/\∀p,H p=none->Q (.ref p) (upd H p (.lst (xs++ys)))
theorem BI:d6 X (binaryOp .Add) (Cj X.K):=by
 intro pins s Y H x y v u Q I A P h;obtain⟨a,b,xs,ys,rfl,rfl,ha,d,hz,q⟩:=h;cases A;cases P;obtain⟨its,k,D,_⟩:=I.list ha;obtain⟨T,n,p2,_⟩:=I.list d;obtain⟨⟨E,m,t,l1⟩,C,S,p,B,r⟩:=id D;obtain⟨⟨J,i,w,N⟩,R,j,U,Z,O⟩:=id p2;simp only at p r U O B Z;subst p r U O B Z;have o:=k.length;have L:=n.length;refine concat_meets ⟨_,S,rfl⟩ ⟨_,j,rfl⟩ noFill_list_add seq_list_add PySem.F.slot_list_add PySem.F.entry_list_add (PySem.F.args_list_add_2 _ _) (YB a b _ _ C R _ _ l1 N (by rw[SD,SD];lia)) ⟨S,j,?_⟩;have ea:its.toArray++T.toArray=(its++T).toArray:=by simp
 rw[ea];exact⟨.ref _,_,I.Qw (t':=s.toks) (k.append n) (by rw[SI];lia),rfl,q _ I.fresh⟩
noncomputable def zc:A->A->Option Rr
 | .lst xs,.lst ys=>if xs.length+ys.length<=100000 then some (.nw (.lst (xs++ys))) else none
 |_,_=>none
theorem Ez:ib K (Cj K.K) zc:=by
 intro c Y H Z B θ x y v w a b q Q s t r O F j D k;cases a<;>first|(cases D;done)|(cases b<;>first|(cases D;done)|skip)
 rename_i xs ys;unfold zc at D;simp only at D;split at D
 .rename_i hc;cases D;obtain⟨L,bl,T,I⟩:=Bd.sX O t r F j;obtain⟨C,h,rfl,s1,z⟩:=T.1 xs rfl;obtain⟨p2,X,rfl,s2,n⟩:=I.1 ys rfl;have l1:=z.len;have N:=n.len;subst s;exact⟨C,p2,h,X,rfl,rfl,s1,s2,by have:=kA;lia,λp hp=>k _ _ trivial (bl.hZ hp λG H' sm q=>.lst q ((z.app n).sm sm))⟩
 .cases D
abbrev bt:=bS we (bS xk (bS tI zc))
theorem Eb{a:Expr}(ha:JE X E a ma)(d:JE X E b mb):JE X E (.BinOp a .Add b pos) (aD bt ma mb):=qB (d6.or' KN (d6.or' vh (d6.or' FH BI))) (FD.or (Gk.or (GU.or Ez))) ha d
end
variable{px:Pos}
section
variable{X:Cx}{E:XK}
def uW(i:Nat):Mi Rr:=λZ=>match aF Z i with
 |some (.lst _)=>some (.ok (.fr .non),setAt Z i (.lst []))
 |_=>none
theorem Ak(hN:X.N[i]?=some x)(hv:o9 X.env.scope x)(hd:iw x)(hcd:sv x)
  (hbase:attributeBase (.Name x px) "clear" X.env (eval (.Name x px) X.env)=eval (.Name x px) X.env:=by rfl)(hline:(apos.endLine==cpos.line)=true:=by rfl):
  JE X E (.Call (.Attribute (.Name x px) "clear" apos) [] [] cpos) (uW i):=
 ⟨PE.weaken (BG Ua PySem.F.slot_list_clear PySem.F.type_list_clear B4 (cU hN hv hd hcd) hbase hline) λY H Q h=>by
  obtain⟨c,Z,B,θ,o,O,ek,b,em,q⟩:=h;unfold uW at em;cases e2:aF Z i with
  |none=>simp only[e2] at em;cases em
  |some lo=>
   cases lo with
   |dic _=>simp only[e2] at em;cases em
   |dit _=>simp only[e2] at em;cases em
   |obj _ _=>simp only[e2] at em;cases em
   |nob _ _ _=>simp only[e2] at em;cases em
   | lst xs=>simp only[e2] at em;cases em;obtain⟨p,vs,hp,hH⟩:=gF b e2;obtain⟨L,bl⟩:=b;obtain⟨p',_,h1,h2,h3⟩:=bl.live e2 (.lst []) (.lst []);rw[hp] at h1;cases h1;refine⟨_,hp,.inl ⟨rfl,vs,.inl (.inl hH)⟩,?_⟩;cases h2;exact⟨p,vs,rfl,rfl,hH,q _ _ trivial (Bd.push (h3 λH' hh=>.lst hh .nil) λ_=>.non)⟩⟩
theorem bR.dropLast{K:Kx}{G:Hp}:∀{vs:List V}{as:List A},bR K G vs as->bR K G vs.dropLast as.dropLast
 |_,_,.nil=>.nil
 |_,_,.cons h .nil=>.nil
 |_,_,.cons h (.cons h2 r)=>.cons h (bR.dropLast (.cons h2 r))
def LN(i:Nat):Mi Rr:=λZ=>match aF Z i with
 |some (.lst xs)=>match xs[xs.length-1]? with
  |some a=>some (.ok (.fr a),setAt Z i (.lst xs.dropLast))
  |none=>none
 |_=>none
theorem Jv(hN:X.N[i]?=some x)(hv:o9 X.env.scope x)(hd:iw x)(hcd:sv x)
  (hbase:attributeBase (.Name x px) "pop" X.env (eval (.Name x px) X.env)=eval (.Name x px) X.env:=by rfl)(hline:(apos.endLine==cpos.line)=true:=by rfl):
  JE X E (.Call (.Attribute (.Name x px) "pop" apos) [] [] cpos) (LN i):=
 ⟨PE.weaken (BG Ua PySem.F.slot_list_pop PySem.F.type_list_pop LG (cU hN hv hd hcd) hbase hline) λY H Q h=>by
  obtain⟨c,Z,B,θ,o,O,ek,b,em,q⟩:=h;unfold LN at em;cases e2:aF Z i with
  |none=>simp only[e2] at em;cases em
  |some lo=>
   cases lo with
   |dic _=>simp only[e2] at em;cases em
   |dit _=>simp only[e2] at em;cases em
   |obj _ _=>simp only[e2] at em;cases em
   |nob _ _ _=>simp only[e2] at em;cases em
   |lst xs=>
    simp only[e2] at em;cases e3:xs[xs.length-1]? with
    |none=>simp only[e3] at em;cases em
    |some a=>
     simp only[e3] at em;cases em;obtain⟨p,vs,hp,hH⟩:=gF b e2;obtain⟨L,bl⟩:=b;obtain⟨p',_,h1,h2,h3⟩:=bl.live e2 (.lst xs) (.lst []);rw[hp] at h1;cases h1;cases h2 with
     |lst e rr=>
      rename_i ws;rw[hH] at e;cases e;obtain⟨v,g1,g2⟩:=rr.ta e3;obtain⟨L1,bl1⟩:=bl.push g2;obtain⟨p2,_,k1,k2,k3⟩:=bl1.live e2 (.lst xs.dropLast) (.lst vs.dropLast);rw[hp] at k1;cases k1;cases k2 with
      | lst e' rr'=>rw[hH] at e';cases e';refine⟨_,hp,.inl ⟨rfl,vs,.inl (.inl hH)⟩,?_⟩;exact⟨p,vs,v,rfl,rfl,hH,by rw[rr.len];exact g1,q _ _ trivial (k3 λH' hh=>.lst hh rr'.dropLast)⟩⟩
end
section
variable{c:Cn}{Y:St}{H:Hp}{Z:List Sl}{B:St}{θ:List Sl}
theorem fO.OS{p:Addr}{o o':LO}{u:HO}(b:fO c Y H Z (some (.ref p)::B) (.lv o::θ) L):
  ∃q,LR c.toKx (c.g H L) H p o q/\((∀H',H' p=some u->LR c.toKx (c.g H L) H' p o' q)->fO c Y (upd H p u) Z (some (.ref p)::B) (.lv o'::θ) L):=by
 obtain⟨nd,rel,own,fr,kp,lt,v⟩:=b;have rel:aB c.toKx (c.g H L) H (some (.ref p)::(B++Y)) (.lv o::(θ++Z)) L:=rel;cases rel with
 |cons h r=>
  rename_i D L2;cases h with
  |lv h=>
   rename_i I;refine⟨I,h,λhn=>?_⟩;have m:p∈(p::I)++L2:=by simp
   have U:∀q∈L2,q≠p:=λq j z=>(S8.mp nd).1 (by rw[<-z];exact Sr _ j);have K:c.g (upd H p u) ((p::I)++L2)=c.g H ((p::I)++L2):=by
    funext a
    by_cases z:a∈(p::I)++L2\/a∈c.Hd
    .rw[gX z,gX z]
    .rw[bB (λy=>z (.inl y)) (λy=>z (.inr y)),bB (λy=>z (.inl y)) (λy=>z (.inr y)),aE λy=>z (.inl (by rw[y];exact m))]
   refine⟨nd,aB.cons (L:=p::I) (.lv (by rw[K];exact hn _ bK)) (r.sm (by rw[K];exact Sq.refl _) (λq j w e=>by rw[aE (U q j)];exact e)),own,⟨λq w e=>?_,λq j=>?_⟩,kp,lt,v⟩
   .obtain⟨s,h1,h2⟩:=fr.st q w e;by_cases z:q=p
    .subst z;refine⟨u,bK,λS=>?_⟩;rcases own q m with y|y
     .exact absurd y S
     .rw[y] at e;cases e
    .exact⟨s,by rw[aE z];exact h1,h2⟩
   .obtain⟨h1,⟨ob,vs,h2⟩,h3⟩:=fr.pk q j;refine⟨?_,⟨ob,vs,h2⟩,h3⟩;rw[aE λy=>?_]
    .exact h1
    .rw[y,h2] at h1;exact h.nf p SN _ _ h1
end
end M
set_option maxHeartbeats 4000000
namespace L2
open PySem PySem.Spec PyProof.Rows
theorem wt:entryFor table "dict.update.loop" = some Builtin.«dict.update.loop»:=entryFor_of_tree (by kernel_rfl)
theorem rA:plainId "dict.update.loop" = true:=by decide +kernel
theorem yI:typeLookup (.type "tuple") "keys" = pure none:=am_miss_of_fast (by kernel_rfl)
section
variable{prog:Program}{w:World}{A:Around}{E:Value->Shared->Prop}{s:Shared}
theorem EZ{a:Addr}{items:Array Value}{Q:Option Value->Shared->Prop}(C:fg s.heap a items)(O:A.handled=none)(h:∀h' tk,(∀b ob,s.heap.get? b=some ob->h'.get? b=some ob)->Q none { s with heap:=h',toks:=tk }):
  wpAny (model prog w) A (getAttr? (.ref a) "keys") Q E s:=by
 obtain⟨⟨c,p,B,sl⟩,C,hc,k,H,hd⟩:=C;simp only at hc H hd;subst hc H hd;obtain⟨hp,g,d,tk,os⟩:=s;have q:∀Y,(⟨hp,g,d,Y,os⟩:Shared).TypeIs (.ref a) "tuple" := λ_=>⟨_,C,rfl⟩
 have u:=sub_AttributeError;have J:=Vh.lookup;have L:=Vh.bind (.ref a);have Z:=am_tuple_getattr_none;unfold getAttr? getAttrBy? getAttrBy
 repeat (any_goals (first|assumption|exact q _|((with_reducible show wpAny _ _ (call (Va "tuple.__getattribute__") _ _) _ _ _);refine call_meets Vh (q _) am_entry_tuple_getattribute (F.args_tuple_getattribute_2 _ _) (meets_getattribute_miss_tuple a items k sl "keys" _ yI (by decide +kernel)) ⟨C,O,λh' Y e v=>?_⟩)|wp_step))
 obtain⟨t',z,R⟩:=v.there;show wpAny _ _ (getattributeRaised _ _ _ _ _ _ _) _ _ _;unfold getattributeRaised
 repeat (any_goals (first|assumption|wp_step))
 exact h _ _ v.keeps
theorem yY{R:Result->Shared->Prop}(K:A.in1.handled=none){h0:Heap}{a D I:Addr}{its:Array Value}{kvs:List (Key×Value)}(ha:h0.IsTuple a its)
  (Z:∀(i:Nat)(v:Value),its[i]?=some v->∃p k u r,v=Te p/\h0.IsTuple p #[u,r]/\kvs[i]?=some (k,r)/\(aX prog w).is k u=true)(hl:its.size=kvs.length)(F:h0.get? D=none)(S:h0.get? I=none)(Y:D≠I)(hz:its.size<=1000):
  ∀(k i:Nat)(n:Int)(t:Tok)(s:Shared),its.size-i=k->i<=its.size->s.heap.IsTupleIter I a i->(∀b o,h0.get? b=some o->s.heap.get? b=some o)->s.heap.DictOf (aX prog w) D (merged [] (kvs.take i))->
   (∀h' tk,(∀b o,h0.get? b=some o->h'.get? b=some o)->h'.DictOf (aX prog w) D (merged [] kvs)->R (.ok (.ret .none)) { s with heap:=h',toks:=tk })->
   codeAny (model prog w) A (.builtin "dict.update.loop" ⟨[.ref D,.ref I,.int n t,.none],[]⟩) R s:=by
 intro k;induction k with
 |zero=>
  intro i n t s hk hi q kp hd m;have X:i=its.size:=by lia
  subst X;refine codeAny_builtin wt ?_;rw[WX rA _];show wpAny _ A.in1 (pyNext (.ref I) >>= _) _ _ s;refine wpAny_bind (wpAny_pyNext_tuple_end K q (let ⟨o,e,r⟩:=ha;⟨o,kp _ _ e,r⟩) (by simp) λh' B=>?_);have H:∀b o,h0.get? b=some o->h'.get? b=some o:=λb o e=>B b o (λz=>by rw[z,S] at e;cases e) (kp b o e);show wpAny _ A.in1 (YC D [] >>= _) _ _ _;refine wpAny_bind (wpAny_pure ?_);refine wpAny_pure (m h' s.toks H ?_);rw[hl,S9] at hd;exact hd.extBut B Y
 |succ k l=>
  intro i n t s hk hi q kp hd m;have h:i<its.size:=by lia
  obtain⟨p,C,u,r,c,hp,G,Q⟩:=Z i its[i] (by simp[h]);refine codeAny_builtin wt ?_;rw[WX rA _];show wpAny _ A.in1 (pyNext (.ref I) >>= _) _ _ s;refine wpAny_bind (wpAny_pyNext_tuple_item q (let ⟨o,e,r⟩:=ha;⟨o,kp _ _ e,r⟩) (x:=.ref p) (by rw[<-c];simp[h]) λh' E V=>?_);have H:∀b o,h0.get? b=some o->h'.get? b=some o:=λb o e=>(V.2 b (λz=>by rw[z,S] at e;cases e)).trans (kp b o e);obtain⟨po,J,N,pn,g⟩:=hp;have y:Shared.TypeIs { s with heap:=h' } (.ref p) "tuple" := ⟨po,H _ _ J,N⟩
  have L:h'.DictOf (aX prog w) D (merged [] (kvs.take i)):=hd.extBut V.extBut Y;show wpAny _ A.in1 (holding [Te p] _ >>= _) _ _ _;refine wpAny_bind (wpAny_holding ?_);refine wpAny_bind (wpAny_tryCatch ?_);unfold YD;refine wpAny_bind (wpAny_typeOf y ?_);refine wpAny_bind (wpAny_seqItems (H _ _ J) g (wpAny_pure ?_));show wpAny _ A.in1 (holding [u,r] (dictSet D u r)) _ _ _;refine wpAny_holding (wpAny_dictSet_pairs (s:={ s with heap:=h' }) Q L (λh2 O U=>?_) ?_)
  .have T:∀b o,h0.get? b=some o->h2.get? b=some o:=λb o e=>(U.2 b (λz=>by rw[z,F] at e;cases e)).trans (H b o e);refine wpAny_pure ⟨plainId_quiet rA _,?_⟩;refine l (i+1) _ _ { s with heap:=h2,toks:=s.toks+1 } (by lia) h (E.extBut U.extBut (T6 Y)) T ?_ (λh3 tk P f=>m h3 tk P f);rw[merged_take_succ [] kvs i (C,r) G];exact O
  .have:=merged_length_le [] (kvs.take i);rw[U1,Tw] at this;rw[sizeLine_eq];lia
end
inductive eZ(K:So)(H:Hp):List V->List (Key×V)->Prop
 |nil:eZ K H [] []
 |cons{p:Addr}{k:Key}{v:V}{ws:List V}{kvs:List (Key×V)}(h:gK K H p [kV k,v])(t:eZ K H ws kvs):eZ K H (.ref p::ws) ((k,v)::kvs)
section
variable{X:Cx}
theorem pairs_at{pins:List (Addr×Obj)}{Y:St}{H:Hp}{s:Shared}(I:Inv X pins Y H s):∀{ws:List V}{kvs:List (Key×V)}{its:List Value},eZ X.K H ws kvs->Vals ws its->
  ∃rs:List (Key×Value),KV kvs rs/\its.length=rs.length/\∀(i:Nat)(v:Value),its[i]?=some v->∃p k u r,v=Te p/\s.heap.IsTuple p #[u,r]/\rs[i]?=some (k,r)/\(aX X.prog X.w).is k u=true
 |_,_,_,.nil,.nil=>⟨[],.nil,rfl,λi v e=>by simp at e⟩
 |_,_,_,.cons (p:=p) (k:=k) (v:=v) h t,.cons r0 t0=>by
  obtain⟨rs,a,hl,Z⟩:=pairs_at I t t0;obtain⟨B,n,F,_⟩:=I.tuple h;cases n with
  |cons b E=>
   cases E with
   |cons A D=>
    cases D;rename_i u r;cases r0;refine⟨(k,r)::rs,.cons ⟨rfl,A⟩ a,by simp[hl],λi v e=>?_⟩;cases i with
    |zero=>cases e;exact⟨p,k,u,r,rfl,F,rfl,lT b⟩
    |succ i=>exact Z i v e
def r9(K:So):List V->Hp->VK->Prop:=λvs H Q=>∃(a:Addr)(ws:List V)(kvs:List (Key×V)),vs=[.ref a]/\gK K H a ws/\eZ K H ws kvs/\ws.length<=1000/\∀r,H r=none->Q (.ref r) (upd H r (.dK (gj [] kvs)))
theorem uy(hc:X.calm=true):cx X (.type "dict") (r9 X.K):=by
 intro pins s Y H vs us Q I z h;obtain⟨a,ws,kvs,rfl,f,hp,hz,q⟩:=h;obtain⟨u,rfl,V⟩:=z.one;cases V;obtain⟨its,k,y,_⟩:=I.IV f;obtain⟨rs,E,hl,p⟩:=pairs_at I hp k;have O:=I.ok.hd hc;have m:=k.length;refine callType_codes (Q₁:=λobj Z=>obj=.ref s.heap.objs.size/\Z={ s with heap:=s.heap.push { cls:=.type "dict",data:=.dict #[] } }) PySem.F.kt_called_dict (PySem.F.kt_typeCall_dict_1 _) PySem.F.entry_dict_init (kt_code_dict_new _ ⟨rfl,rfl⟩) ?_;rintro obj Z ⟨rfl,rfl⟩;have C:(s.heap.push { cls:=.type "dict",data:=.dict #[] }).DictOf (aX X.prog X.w) s.heap.objs.size []:=WV s.heap;refine⟨C.typeIs,PySem.F.args_dict_init_2 _ _,?_⟩;have U:fg (s.heap.push { cls:=.type "dict",data:=.dict #[] }) a its.toArray:=by obtain⟨o,e,r⟩:=y;exact⟨o,SA _ e,r⟩
 unfold Builtin.«dict.__init__»;refine wpAny_bind ?_;unfold YE;refine wpAny_bind (wpAny_notOrdered_dict C.typeIs ?_);show wpAny _ _ (pure (s.heap.objs.size,[Te a])) _ _ _;refine wpAny_pure ?_;show wpAny _ _ (Wc "dict.__init__" s.heap.objs.size (.ref a) [] .none) _ _ _;unfold Wc;refine wpAny_bind (wpAny_typeOf U.t.typeIs ?_);rw[if_pos (by decide)];refine wpAny_bind (EZ U (by simp[O]) λh' tk kp=>?_);rw[if_pos (show (none:Option Value).isNone=true from rfl)];refine wpAny_bind (wpAny_rule ?_);have ht:h'.IsTuple a its.toArray:=by obtain⟨o,e,c,n,d,_⟩:=U;exact⟨o,kp _ _ e,c,n,d⟩
 refine wpAny_bind (wpAny_pyIter_tuple ht ?_);refine wpAny_pure ⟨plainId_quiet rA _,?_⟩;have hsz:s.heap.objs.size<h'.objs.size:=by obtain⟨o,_,_,e,_⟩:=C;exact SS (kp _ _ e)
 refine yY (A:=X.A.in1) (h0:=s.heap) (a:=a) (its:=its.toArray) (kvs:=rs) (by simp[O]) y.t (λi v e=>p i v (by simpa using e)) (by simp[hl]) (VD (SK _)) (VD (UO hsz)) (S4 hsz) (by simp;lia)
  (its.toArray.size-0) 0 0 0 _ rfl (TM _) ⟨_,S1 _ rfl,rfl,rfl⟩ (λb o e=>SA _ (kp _ _ (SA _ e))) ?_ (λh2 x L T=>⟨rfl,?_⟩)
 .obtain⟨o,es,ep,e,r⟩:=C;exact⟨o,es,ep,SA _ (kp _ _ e),r⟩
 .have B:(gj [] kvs).length<=sizeLine:=by have h1:=gm kvs [];have h2:=E.length;rw[U1] at h1;rw[sizeLine_eq];lia
  exact⟨.ref s.heap.objs.size,_,I.laid (a:=s.heap.objs.size) (o:=.dK (gj [] kvs)) L (SK _) (qN B (beq_eq_false_iff_ne.mpr (T6 (S4 I.big))) (E.merge .nil) T),rfl,q _ I.fresh⟩
end
end L2
namespace M
open PySem L2
def eu:List A->Option (List (Key×A))
 |[]=>some []
 | .tup [k,v]::r=>match iu k,eu r with
  |some y,some t=>some ((y,v)::t)
  |_,_=>none
 |_=>none
def iY(kvs more:List (Key×A)):List (Key×A):=more.foldl (λacc H=>iQ acc H.1 H.2) kvs
theorem fM.merge{k:Kx}{G:Hp}:∀{vs ws:List (Key×V)}{as bs:List (Key×A)},fM k G vs as->fM k G ws bs->fM k G (gj ws vs) (iY bs as)
 |_,_,_,_,.nil,r=>r
 |_,_,_,_,.cons (y:=y) h t,r=>by have:=fM.merge t (r.put y h);exact this
theorem p7{k:Kx}{G:Hp}:∀{as:List A}{vs:List V}{kvs:List (Key×A)},bR k G vs as->eu as=some kvs->∃ws,eZ k.K G vs ws/\fM k G ws kvs
 |[],_,_,.nil,h=>by cases h;exact⟨[],.nil,.nil⟩
 |a::as,_,_,.cons h0 t0,h=>by
  cases a<;>first|(simp[eu] at h;done)|skip
  rename_i xs
  match xs,h0,h with
  |[],_,h=>simp[eu] at h
  |[_],_,h=>simp[eu] at h
  |_::_::_::_,_,h=>simp[eu] at h
  |[x,y],h0,h=>
   unfold eu at h;cases F:iu x with
   |none=>simp only[F] at h;cases h
   |some X=>
    cases j:eu as with
    |none=>simp only[F,j] at h;cases h
    |some t=>
     simp only[F,j] at h;cases h;obtain⟨ws,D,p⟩:=p7 t0 j;cases h0 with
     |tup e r=>
      cases r with
      |cons d r=>
       cases r with
       |cons H r=>cases r;rw[jO d F] at e;exact⟨_::ws,.cons e D,.cons H p⟩
theorem eZ.sm{K:So}{G G':Hp}(s:Sq G G'):∀{vs:List V}{ws:List (Key×V)},eZ K G vs ws->eZ K G' vs ws
 |_,_,.nil=>.nil
 |_,_,.cons h t=>.cons (dt s h) (eZ.sm s t)
def jH:A->Option Rr
 | .tup as=>if as.length<=1000 then match eu as with
  |some kvs=>some (.nw (.dic (iY [] kvs)))
  |none=>none else none
 |_=>none
variable{K:Kx}
theorem z9:lE K (λv=>r9 K.K [v]) jH:=by
 intro c Y H Z B θ x v a q Q s t O F D k;subst s;obtain⟨L,bl,X⟩:=Bd.open O t F;cases a<;>first|(cases D;done)|skip
 rename_i as;unfold jH at D;simp only at D;split at D
 .rename_i hz;cases es:eu as with
  |none=>simp only[es] at D;cases D
  |some kvs=>simp only[es] at D;cases D;obtain⟨p,vs,rfl,s1,h⟩:=X.2.1 as rfl;obtain⟨ws,C,i⟩:=p7 h es;exact⟨p,vs,ws,rfl,dt (g_same _ _ _) s1,eZ.sm (g_same _ _ _) C,by rw[h.len];exact hz,λr y=>k _ _ trivial (bl.hZ y λG H' sm q=>.dic q ((i.sm sm).merge .nil))⟩
 .cases D
section
variable{X:Cx}
theorem uP(hc:X.calm=true):cx X (.type "dict") (λxs H Q=>rl xs H Q\/r9 X.K xs H Q):=cx.or' vJ (uy hc)
theorem AU:lE K (λv H Q=>rl [v] H Q\/r9 K.K [v] H Q) (ph kW jH):=zj.or z9
end
end M
set_option maxHeartbeats 1000000
namespace M
open PySem L2
variable{s:Sl}{cn:Str}{r:Rr}
section
variable{c:Cn}{Y:St}{H:Hp}{Z:List Sl}{B:St}{θ:List Sl}
theorem dY.HG{k:Kx}{G:Hp}{x:Option V}{L:List Addr}{fs:List (Str×A)}(h:dY k G H x s L)(sm:Sq G H)(e:s.a=some (.obj cn fs)):∃p C dx vs,x=some (.ref p)/\H p=some (.ins C dx vs)/\k.mg cn=some (.ref C)/\jn k G vs fs:=by
 have lo:∀p o q,LR k G H p o q->o.rd=some (A.obj cn fs)->∃C dx vs,H p=some (.ins C dx vs)/\k.mg cn=some (.ref C)/\jn k G vs fs:=λp o q h z=>by
  cases h with
  |nob=>cases z
  |lst=>cases z
  |dic=>cases z
  |dit=>cases z
  |obj e m r=>cases z;exact⟨_,_,_,e,m,r⟩
 cases h with
 |un=>cases e
 |fr h=>cases e;cases h with|obj e m r=>exact⟨_,_,_,_,rfl,sm.keep e rfl,m,r⟩
 |lv h=>obtain⟨C,dx,vs,h1,h2,h3⟩:=lo _ _ _ h e;exact⟨_,C,dx,vs,rfl,h1,h2,h3⟩
 |pv h=>obtain⟨C,dx,vs,h1,h2,h3⟩:=lo _ _ _ h e;exact⟨_,C,dx,vs,rfl,h1,h2,h3⟩
theorem Bd.HN{v:V}{fs:List (Str×A)}(b:Bd c Y H Z (cv r v B) (cw r θ))(t:VR Y r v)(e:res Z r=some (.obj cn fs)):∃L p C dx vs,fO c Y H Z B θ L/\v=.ref p/\H p=some (.ins C dx vs)/\c.mg cn=some (.ref C)/\jn c.toKx (c.g H L) vs fs:=by
 obtain⟨G,b⟩:=b;have q:∀s,fO c Y H Z (some v::B) (s::θ) G->s.a=some (.obj cn fs)->∃L p C dx vs,fO c Y H Z B θ L/\v=.ref p/\H p=some (.ins C dx vs)/\c.mg cn=some (.ref C)/\jn c.toKx (c.g H L) vs fs:=by
  intro s b ea;obtain⟨nd,rel,own,fr,kp,lt,z⟩:=b;have rel:aB c.toKx (c.g H G) H (some v::(B++Y)) (s::(θ++Z)) G:=rel;cases rel with
  |cons h r=>rename_i m L2;have sm:Sq (c.g H (m++L2)) (c.g H L2):=c7 λa ha=>Sr _ ha;obtain⟨p,C,dx,vs,h1,h2,h3,h4⟩:=(h.sm sm (λ_ _ _ e=>e)).HG (g_same _ _ _) ea;exact⟨L2,p,C,dx,vs,⟨(SQ.mp nd).2.1,r.sm sm (λ_ _ _ e=>e),λp hp=>own p (Sr _ hp),fr,kp,by simpa using lt,z⟩,SM h1,h2,h3,h4⟩
 cases r with
 |rf i=>
  unfold res at e;cases es:Z[i]? with
  |none=>simp only[es] at e;cases e
  |some s=>simp only[es] at e;obtain⟨m,L2,F,k,n⟩:=aB.split b.lt b.rel;obtain⟨x,_,_,_,w,u,_⟩:=n.at es;have t:Y[i]?=some (some v):=t;rw[t] at w;obtain⟨p,C,dx,vs,h1,h2,h3,h4⟩:=u.HG (g_same _ _ _) e;rw[<-SM w] at h1;exact⟨G,p,C,dx,vs,b,SM h1,h2,h3,h4⟩
 |fr a'=>exact q _ b e
 |nw o=>exact q _ b e
theorem Bd.RV{x:Option V}{ys:St}{ss:List Sl}(e:ys.length=ss.length)(b:Bd c Y H Z (x::(ys++B)) (s::(ss++θ))):Bd c Y H Z (ys++x::B) (ss++s::θ):=by
 obtain⟨L,b⟩:=b;have r:aB c.toKx (c.g H L) H (x::(ys++(B++Y))) (s::(ss++(θ++Z))) L:=by have:=b.rel;simpa[Sw] using this
 cases r with
 |cons h r=>
  rename_i o L2;obtain⟨T,D,F,k,n⟩:=aB.split e r;subst F;have pm:(o++(T++D)).Perm (T++(o++D)):=by rw[<-Sw,<-Sw];exact UT.append_right D
  refine⟨T++(o++D),(pm.nodup_iff).mp b.nd,?_,λp hp=>b.own p (pm.mem_iff.mpr hp),b.fr,b.kp,by have:=b.lt;simp[e] at this ⊢;lia,b.hd⟩;have N:c.g H (T++(o++D))=c.g H (o++(T++D)):=Dx λa=>pm.mem_iff.symm;rw[N];have:=k.app (aB.cons h n);simpa[Sw] using this
end
variable{K:Kx}{cs:List Str}{f x mn:Str}{e:Expr}{m mo:Mi Rr}{pos px:Pos}{i:Nat}{Z O:List Sl}{o:Except Str Rr}{ma:Mi (List Rr)}{C:Addr}
section
variable{X:Cx}{E:XK}
def aT(cs:List Str)(f:Str):A->Option Rr
 | .obj c fs=>if cs.contains c then (match fs.lookup f with
  |some a=>some (.fr a)
  | none=>none) else none
 |_=>none
def G8(K:So)(f:Str):V->Hp->VK->Prop:=λx e Q=>∃a C dx fs v,x=.ref a/\e a=some (.ins C dx fs)/\lQ K C/\dw K C f/\fs.lookup f=some v/\Q v e
theorem DS(hc:∀c C,cs.contains c=true->K.mg c=some (.ref C)->lQ K.K C/\dw K.K C f):lE K (G8 K.K f) (aT cs f):=by
 intro c Y H Z B θ x v a q Q s t O F D k;cases a<;>first|(cases D;done)|skip
 rename_i cn fs;unfold aT at D;simp only at D;split at D
 .rename_i h;cases A:fs.lookup f with
  |none=>simp only[A] at D;cases D
  |some w=>
   simp only[A] at D;cases D;obtain⟨L,p,C,dx,vs,bl,rfl,h2,h3,h4⟩:=Bd.HN O t F;subst s;obtain⟨E,J⟩:=hc cn C h h3;rcases h4.get f with ⟨u,a,d,b,U⟩|⟨_,b⟩
   .rw[A] at b;cases b;exact⟨p,C,dx,vs,u,rfl,h2,E,J,d,k u H trivial (bl.push U)⟩
   .rw[A] at b;cases b
 .cases D
theorem vM(hc:∀c C,cs.contains c=true->X.mg c=some (.ref C)->lQ X.K C/\dw X.K C f)(R:JE X E e m)(d:attributeBase e f X.env (eval e X.env)=eval e X.env):JE X E (.Attribute e f pos) (d0 (aT cs f) m):=
 ⟨PE.weaken (uR R.p d) λY H Q h=>jV (r:=G8 X.K f) (DS hc) Y H Q h⟩
def gD(cs:List Str)(i:Nat)(f:Str)(m:Mi Rr):Ms:=c8 m λr Z=>match bz r Z with
 |some (a,U)=>match aF U i with
  |some (.obj c fs)=>if cs.contains c&&U5 fs.length 900 then some (.nx,setAt U i (.obj c (pC f a fs))) else none
  |_=>none
 |none=>none
theorem Ei{Q:Pos}(hN:X.N[i]?=some x)(t:o9 X.env.scope x)(hd:iw x)(T:sv x)(hc:∀c C,cs.contains c=true->X.mg c=some (.ref C)->lQ X.K C/\dw X.K C f)(R:JE X E e m)
  (u:swapsWith e (some (.Attribute (.Name x px) f Q)) pos.line X.env=pure false):JS X E (.Assign [.Attribute (.Name x px) f Q] e pos) (gD cs i f m):=
 ⟨PS.weaken (Cg (cU hN t hd T) R.p u) λD Y H h=>by
  obtain⟨c,Z,B,θ,fl,O,s,b,em,q⟩:=h;refine eU s b em q λr v U y t b1 S=>?_;cases F:bz r U with
  |none=>simp only[F] at S;cases S
  |some l=>
   obtain⟨a,Z'⟩:=l;simp only[F] at S;have b2:=Bd.bz (xs:=[]) (ss:=[]) rfl b1 t F;cases j:aF Z' i with
   |none=>simp only[j] at S;cases S
   |some lo=>
    cases lo with
    |lst _=>simp only[j] at S;cases S
    |dic _=>simp only[j] at S;cases S
    |dit _=>simp only[j] at S;cases S
    |nob _ _ _=>simp only[j] at S;cases S
    |obj cn fs=>
     simp only[j] at S;split at S
     .rename_i o;rw[Sn] at o;cases S;obtain⟨L,bl,J⟩:=Bd.yi b2;obtain⟨p,_,h1,h2,h3⟩:=bl.live j (.obj cn (pC f a fs)) (match y (match Y[i]? with|some (some (.ref p))=>p|_=>0) with|some (.ins C dx ws)=>.ins C dx (f6 f v ws)|_=>.lst []);cases h2 with
      |obj G A I=>
       rename_i C dx ws;simp only[h1,G] at h3;have V:X.mg cn=some (.ref C):=by have:=congrArg (λk:Kx=>k.mg cn) s;simp only at this;rw[<-this];exact A
       obtain⟨g,w⟩:=hc cn C o.1 V;exact⟨_,h1,p,C,dx,ws,rfl,G,g,w,by have:=I.len;have:=TN o.2;lia,q Y _ (h3 λH' P=>.obj P A (I.put J))⟩
     .cases S⟩
def bO(cn m:Str)(mo:Mi Rr):Mi Rr:=aW mo λr Z=>match res Z r with
 |some (.obj c fs)=>if c==cn&&(fs.lookup m).isNone then some (.ok r,Z) else none
 |_=>none
theorem pK{m:Str}{r':Rr}(h:(match res Z r with|some (.obj c fs)=>if c==cn&&(fs.lookup m).isNone then some ((.ok r:Except Str Rr),Z) else none|_=>none)=some (o,O)):∃fs,res Z r=some (.obj cn fs)/\fs.lookup m=none/\o=.ok r/\O=Z:=by
 split at h
 .rename_i c fs e;split at h
  .rename_i hc;rw[Sn,beq_iff_eq,TC] at hc;cases h;exact⟨fs,by rw[e,hc.1],hc.2,rfl,rfl⟩
  .cases h
 .cases h
inductive J1(cn mn:Str)(mo:Mi Rr)(ma:Mi (List Rr))(Z:List Sl)(x:Except Str (List Rr))(U:List Sl):Prop
 |ok{r:Rr}{rs:List Rr}{Z':List Sl}{fs:List (Str×A)}(e:mo Z=some (.ok r,Z'))(g:res Z' r=some (.obj cn fs))(l:fs.lookup mn=none)(a:ma Z'=some (.ok rs,U))(q:x=.ok (r::rs))
 |err{y:Str}(e:mo Z=some (.error y,U))(q:x=.error y)
 |bad{r:Rr}{Z':List Sl}{fs:List (Str×A)}{y:Str}(e:mo Z=some (.ok r,Z'))(g:res Z' r=some (.obj cn fs))(l:fs.lookup mn=none)(a:ma Z'=some (.error y,U))(q:x=.error y)
theorem tH{U:List Sl}{x:Except Str (List Rr)}(h:bx (bO cn mn mo) ma Z=some (x,U)):J1 cn mn mo ma Z x U:=by
 rcases bind_some h with ⟨r,Z',D,N⟩|⟨y,D,N⟩
 .rcases bind_some D with ⟨n,F,J,q⟩|⟨_,_,q⟩
  .obtain⟨fs,d,H,v,b⟩:=pK (r':=n) q;cases v;subst b;rcases bind_some N with ⟨rs,T,Y,a⟩|⟨y,Y,a⟩
   .cases a;exact .ok J d H Y rfl
   .exact .bad J d H Y a
  .cases q
 .rcases bind_some D with ⟨n,F,J,q⟩|⟨z,J,q⟩
  .obtain⟨fs,d,H,v,b⟩:=pK (r':=n) q;cases v
  .cases q;exact .err J N
theorem qq{m:Ms}{n:Nat}{das:List A}{dvs:List V}(hd:∀G,bR (kx X) G dvs das)(u:X.mg cn=some (.ref C))(hn:∀Z rs O,ma Z=some (.ok rs,O)->rs.length+1+das.length=n)(Y:St)(H:Hp)(Q:VK)(h:gJ (kx X) E (bQ m das (bx (bO cn mn mo) ma)) Y H Q):
  xa C mn (jg (kx X) n m) dvs E (gJ (kx X) E mo) (Nq (kx X) E ma) Y H Q:=by
 obtain⟨c,Z,B,θ,o,O,s,b,em,q⟩:=h;have S:∀{r:Rr}{Z':List Sl}{fs:List (Str×A)}{v:V}{y:Hp},res Z' r=some (.obj cn fs)->fs.lookup mn=none->VR Y r v->Bd c Y y Z' (cv r v B) (cw r θ)->∃p dx vs,v=.ref p/\y p=some (.ins C dx vs)/\vs.lookup mn=none:=λd a t b1=>by
  obtain⟨L,p,I,dx,vs,bl,rfl,h2,h3,h4⟩:=Bd.HN b1 t d;have i:X.mg cn=some (.ref I):=by have:=congrArg (λk:Kx=>k.mg cn) s;simp only at this;rw[<-this];exact h3
  rw[u] at i;cases i;refine⟨p,dx,vs,rfl,h2,?_⟩;rcases h4.get mn with ⟨_,_,_,z,_⟩|⟨z,_⟩
  .rw[a] at z;cases z
  .exact z
 have fin:∀e,o=.error e->∀C H,X.mg e=some (.ref C)->Bd c Y H O B θ->E (.ref C) none H:=bh q;rcases bind_some em with ⟨rs,U,F,j⟩|⟨e,F,j⟩
 .cases tH F with
  |@ok r rs' Z' fs J d a K eq=>cases eq;refine⟨c,Z,B,θ,_,_,s,b,J,λv y t b1=>?_⟩;obtain⟨p,dx,vs,rfl,h2,hl⟩:=S d a t b1;refine⟨p,dx,vs,rfl,h2,hl,c,_,_,_,_,_,s,b1,K,λws T R b2=>?_⟩;refine lh (rs:=r::rs') (vs:=.ref p::ws) hd s ?_ ⟨t,R⟩ b2 j (λr g v H' t b=>by subst g;exact q v H' t b) (λx w=>by subst w;exact q);rw[Ux,SF,SI,<-R.len,<-hn _ _ _ K,(hd λ_=>none).len];lia
  |err _ eq=>cases eq
  |bad _ _ _ _ eq=>cases eq
 .cases tH F with
  |ok _ _ _ _ eq=>cases eq
  |err J eq=>cases eq;exact⟨c,Z,B,θ,_,_,s,b,J,λC y hm b1=>fin _ j C y hm b1⟩
  |bad J d a K eq=>cases eq;refine⟨c,Z,B,θ,_,_,s,b,J,λv y t b1=>?_⟩;obtain⟨p,dx,vs,rfl,h2,hl⟩:=S d a t b1;exact⟨p,dx,vs,rfl,h2,hl,c,_,_,_,_,_,s,b1,K,λC T hm b2=>fin _ j C T hm b2.drop⟩
end
variable{apos:Pos}
theorem je{o:Expr}{m:Str}{args:List Expr}{env:Env}(v:attributeBase o m env (eval o env)=eval o env)
  (Y:methodCallForm (args.length+([]:List Keyword).length) (backTo pos (starEach args env)) (backToKw pos (keywordEach [] env))=true)(H:(apos.endLine==pos.line)=true):
  eval (.Call (.Attribute o m apos) args [] pos) env=(do
   let ov <- eval o env
   standAt apos.atName
   let (f,first) <- holding [ov] (getMethod ov m (do return (<- importBound o env).getD true))
   callWith pos f first (backTo pos (starEach args env)) (backToKw pos (keywordEach [] env))):=by
 rw[arm_eval_Call,v];unfold methodCall calleeOf methodCallPos;rw[Y,H];rfl
variable{H:Hp}{Q:VK}
section
variable{X:Cx}{E:XK}{CX:sx}{k n:Nat}{f C:Addr}{fd:FuncData}{ps:List Str}{m:Ms}{das:List A}{dvs:List V}{ds:List Value}{cn mn:Str}{apos pos:Pos}{o e:Expr}{es:List Expr}{mo:Mi Rr}{ma:Mi (List Rr)}
theorem Gp(U:X.mg cn=some (.ref C))(hc:lQ X.K C)(hm:Meth X.K C mn f)(F:dq X.prog X.w X.K X.mg X.base CX k f fd ps (jg (kx X) n m))(y:cQ k X.A)(d:Binds X.K fd ps ds)(hd:Vals dvs ds)(a:∀G,bR (kx X) G dvs das)(h:Passes CX X E)
  (i:JE X E o mo)(ha:JA X E (e::es) ma)(hn:∀Z rs O,ma Z=some (.ok rs,O)->rs.length+1+das.length=n)(v:attributeBase o mn X.env (eval o X.env)=eval o X.env)
  (Y:methodCallForm ((e::es).length+([]:List Keyword).length) (backTo pos (starEach (e::es) X.env)) (backToKw pos (keywordEach [] X.env))=true)(H:(apos.endLine==pos.line)=true)
  (q:starEach (e::es) X.env=(false,eval e X.env)::starEach es X.env)(b:(backTo pos (starEach es X.env)).any (·.1)=false):JE X E (.Call (.Attribute o mn apos) (e::es) [] pos) (bQ m das (bx (bO cn mn mo) ma)):=
 ⟨PE.weaken (xA i.p hc hm F y d hd h ha.p q b (je v Y H)) (qq a U hn)⟩
theorem gJ.mono{m:Mi Rr}{Y:St}{a:VK}(h:gJ K E m Y H Q)(f:∀v H,Q v H->a v H):gJ K E m Y H a:=by
 obtain⟨c,Z,B,θ,o,O,s,b,em,q⟩:=h;refine⟨c,Z,B,θ,o,O,s,b,em,?_⟩;cases o with
 |ok r=>exact λv H' t X=>f _ _ (q v H' t X)
 |error x=>exact q
theorem BC(u:X.mg cn=some (.ref C))(hc:lQ X.K C)(hm:Meth X.K C mn f)(F:dq X.prog X.w X.K X.mg X.base CX k f fd ps (jg (kx X) n m))(y:cQ k X.A)(d:Binds X.K fd ps ds)(hd:Vals dvs ds)(i:∀G,bR (kx X) G dvs das)(r:Passes CX X E)
  (J:JE X E o mo)(hn:1+das.length=n)(U:attributeBase o mn X.env (eval o X.env)=eval o X.env)(x:(apos.endLine==pos.line)=true):JE X E (.Call (.Attribute o mn apos) [] [] pos) (bQ m das (bx (bO cn mn mo) dz)):=
 ⟨PE.weaken (tF J.p hc hm F y d hd r (je U rfl x)) λY H Q h=>by
  have h1:=qq (X:=X) (E:=E) (C:=C) (n:=n) i u (ma:=dz) (λZ rs O q=>by cases q;rw[<-hn];simp) Y H Q h;refine gJ.mono h1 λv e ⟨a,dx,fs,L,R,S,T⟩=>⟨a,dx,fs,L,R,S,?_⟩
  obtain⟨c,Z,B,θ,o,O,s,b,em,q⟩:=T;cases em;exact q [] e trivial b⟩
def hW(cn:Str)(f:Ms)(das:List A)(ma:Mi (List Rr)):Mi Rr:=aW ma λrs Z=>match cI (rs++das.map Rr.fr) Z with
 |some (as,S)=>match f (.pv (.obj cn [])::as.map tq) with
  |some (.rt (.fr .non),.pv o2::Y)=>match putL Z (rs++das.map Rr.fr) (ay as.length Y) S with
   |some O=>some (.ok (.nw o2),O)
   |none=>none
  |some (.ex x,s::Y)=>match putL Z (rs++das.map Rr.fr) (ay as.length Y) S with
   |some O=>some (.error x,O)
   |none=>none
  |_=>none
 |none=>none
theorem yX(n:Nat)(s:Sl)(Z:List Sl):∃t,ay (n+1) (s::Z)=t::ay n Z:=by cases s<;>exact⟨_,rfl⟩
inductive Ka(cn:Str)(f:Ms)(rs':List Rr)(Z:List Sl)(o:Except Str Rr)(O:List Sl):Prop
 |ok{as S Y:List Sl}{o2:LO}(t:cI rs' Z=some (as,S))(e:f (.pv (.obj cn [])::as.map tq)=some (.rt (.fr .non),.pv o2::Y))(p:putL Z rs' (ay as.length Y) S=some O)(q:o=.ok (.nw o2))
 |err{as S Y:List Sl}{s:Sl}{x:Str}(t:cI rs' Z=some (as,S))(e:f (.pv (.obj cn [])::as.map tq)=some (.ex x,s::Y))(p:putL Z rs' (ay as.length Y) S=some O)(q:o=.error x)
theorem BW{f:Ms}{rs':List Rr}{o:Except Str Rr} (h:(match cI rs' Z with
 |some (as,S)=>match f (.pv (.obj cn [])::as.map tq) with
  |some (.rt (.fr .non),.pv o2::Y)=>match putL Z rs' (ay as.length Y) S with
   |some O=>some (.ok (.nw o2),O)
   |none=>none
  |some (.ex x,s::Y)=>match putL Z rs' (ay as.length Y) S with
   |some O=>some (.error x,O)
   |none=>none
  |_=>none
 | none=>none:Option (Except Str Rr×List Sl))=some (o,O)):Ka cn f rs' Z o O:=by
 split at h
 .rename_i as S t;split at h
  .rename_i o2 Y e;split at h
   .rename_i p;cases h;exact .ok t e p rfl
   .cases h
  .rename_i x s Y e;split at h
   .rename_i p;cases h;exact .err t e p rfl
   .cases h
  .cases h
 .cases h
theorem yD(A:∀G,bR (kx X) G dvs das)(hC:X.mg cn=some (.ref C))(hn:∀Z rs O,ma Z=some (.ok rs,O)->rs.length+1+das.length=n)(Y:St)(H:Hp)(Q:VK)(h:gJ (kx X) E (hW cn m das ma) Y H Q):
  Hb C (jg (kx X) n m) dvs E (Nq (kx X) E ma) Y H Q:=by
 obtain⟨c,Z,B,θ,o,O,s,b,em,q⟩:=h;rcases bind_some em with ⟨rs,U,F,em⟩|⟨e,F,j⟩
 .refine⟨c,Z,B,θ,_,U,s,b,F,λvs y P b1 x dx hx R I=>?_⟩;have ld:das.length=dvs.length:=(A λ_=>none).len.symm;refine⟨by rw[SF,SI,<-P.len,<-hn _ _ _ F,ld];lia,?_⟩;have i:mN Y (rs++das.map Rr.fr) (vs++dvs):=P.app (mN.my ld);have N:c.mg cn=some (.ref C):=by have:=congrArg (λk:Kx=>k.mg cn) s;simp only at this;rw[this];exact hC
  have kp:gH c.σ0 Y U:=by obtain⟨L,b⟩:=b1;exact b.kp
  have pre:∀{as S:List Sl},cI (rs++das.map Rr.fr) U=some (as,S)->(vs++dvs).length=as.length/\Bd c Y (upd (upd y dx (.own x)) x (.ins C dx [])) S ((V.ref x::(vs++dvs)).reverse.map some++B) ((Sl.lv (.obj cn [])::as).reverse++θ):=λ{as S} j=>by obtain⟨b3,D⟩:=Bd.cI i (by rw[nA _ _ _ P.len,kP];exact Bd.uu (by rw[s];exact A) b1:Bd c Y y U (c9 (rs++das.map Rr.fr) (vs++dvs) B) (da (rs++das.map Rr.fr) θ)) j;obtain⟨L,b5⟩:=b3.new (o:=.own x) R;have b6:=b5.hZ (u:=.ins C dx []) (o:=.obj cn []) (by rw[aE I.symm];exact hx) λG H' sm q=>.obj q N .nil;have b7:=Bd.RV (ys:=(vs++dvs).reverse.map some) (ss:=as.reverse) (by simp only[Ss,List.length_reverse];exact D) b6;exact⟨D,by simpa[Sw] using b7⟩
  cases BW em with
  |ok t T g eq=>obtain⟨D,J⟩:=pre t;obtain⟨w,f,l,d,k4,k5⟩:=Bd.enter (by rw[SF,SF,D]) J;refine⟨w,_,_,_,f.trans s,l,d,k4,T,λv H' hs K=>?_⟩;have rv:=Bd.top K (a:=.non) rfl;cases rv;refine⟨rfl,?_⟩;have p:=k5 H' _ _ _ (λs' r o z=>by rw[Sx.mp r] at z;exact hs o z) (cA _ _) K;rw[SF,D] at p;rw[eq] at q;exact q (.ref x) H' trivial (Bd.qL (xs:=[some .non]) (ss:=[.fr .non]) rfl (Bd.putL kp i (by simpa[ay,zx,Sw] using p) g))
  |err t T g eq=>obtain⟨D,J⟩:=pre t;obtain⟨w,f,l,d,k4,k5⟩:=Bd.enter (by rw[SF,SF,D]) J;refine⟨w,_,_,_,f.trans s,l,d,k4,T,λC' H' hm K=>?_⟩;have p:=k5 H' _ _ _ (λs' r=>by cases r) (cA _ _) K;rw[SF,D] at p;obtain⟨t,ht⟩:=yX _ _ _;rw[ht] at p;rw[eq] at q;exact q C' H' hm (Bd.putL kp i (by simpa[Sw] using p) g).pop
 .subst j;exact⟨c,Z,B,θ,_,O,s,b,F,λC y hm b1=>q C y hm b1⟩
theorem DX{p:Pos}(l:Mk X.K C f)(F:dq X.prog X.w X.K X.mg X.base CX k f fd ps (jg (kx X) n m))(y:cQ (k+1) X.A)(N:Gl X x)(U:X.mg x=some (.ref C))(d:Binds X.K fd ps ds)(hd:Vals dvs ds)(a:∀G,bR (kx X) G dvs das)(h:Passes CX X E)
  (ha:JA X E (e::es) ma)(hn:∀Z rs O,ma Z=some (.ok rs,O)->rs.length+1+das.length=n)(v:iw x)(R:starEach (e::es) X.env=(false,eval e X.env)::starEach es X.env)(b:(backTo pos (starEach es X.env)).any (·.1)=false):
  JE X E (.Call (.Name x p) (e::es) [] pos) (hW x m das ma):=
 ⟨PE.weaken (Fv l F y N U d hd h ha.p v R b) (yD a U hn)⟩
noncomputable def bg(m n:Mi Rr):Mi Rr:=λZ=>match m Z with
 |some x=>some x
 |none=>n Z
theorem mT{m n:Mi Rr}(h:JE X E e m)(h':JE X E e n):JE X E e (bg m n):=⟨λpins s Y H Q I t=>by
 obtain⟨c,Z,B,θ,o,O,U,b,em,q⟩:=t;unfold bg at em;cases F:m Z with
 |some x=>simp only[F] at em;cases em;exact h.p pins s Y H Q I ⟨c,Z,B,θ,o,O,U,b,F,q⟩
 | none=>simp only[F] at em;exact h'.p pins s Y H Q I ⟨c,Z,B,θ,o,O,U,b,em,q⟩⟩
end
noncomputable def pH(i j:Str):Bool:=!(TF j i 0 j.length 1).isEmpty
def kE(neg:Bool):A->A->Option Rr
 | .str i,.str j=>some (.fr (.bl (if neg then !(pH i j) else pH i j)))
 |_,_=>none
noncomputable def fY:List A->Option (List Bool)
 |[]=>some []
 | .bl b::r=>match fY r with
  |some bs=>some (b::bs)
  |none=>none
 |_=>none
theorem pF:∀{xs:List A}{bs:List Bool},fY xs=some bs->xs=bs.map A.bl
 |[],bs,h=>by cases h;rfl
 |a::r,bs,h=>by
  cases a<;>first|(cases h;done)|skip
  unfold fY at h;cases e:fY r with
  |none=>simp only[e] at h;cases h
  |some cs=>simp only[e] at h;cases h;rw[pF e];rfl
def eJ(g:List Bool->Bool):A->Option Rr
 | .lst xs=>match fY xs with
  |some bs=>some (.fr (.bl (g bs)))
  |none=>none
 |_=>none
theorem tW{K:Kx}{G:Hp}:∀{bs:List Bool}{vs:List V},bR K G vs (bs.map A.bl)->vs=bs.map V.bl
 |[],vs,h=>by cases h;rfl
 |b::bs,vs,h=>by
  cases h with
  |cons h1 h2=>cases h1;rw[tW h2];rfl
theorem JV{g:List Bool->Bool}:lE K (λv=>ME K.K g [v]) (eJ g):=.scalar λH v a q z h=>by
 cases a<;>first|(cases h;done)|skip
 rename_i xs;unfold eJ at h;simp only at h;cases e:fY xs with
 |none=>simp only[e] at h;cases h
 |some bs=>
  simp only[e] at h;cases h;have:=pF e;subst this;cases z with
  |lst I n=>exact⟨_,_,rfl,λ_=>.bl _,λQ k=>⟨_,_,bs,rfl,I,tW n,k⟩⟩
section
variable{X:Cx}{E:XK}{a b:Expr}{ma mb:Mi Rr}{pos:Pos}
theorem CS:ib K (λx y H Q=>∃i j,x=.str i/\y=.str j/\Q (.bl (!(TF j i 0 j.length 1).isEmpty)) H) (kE false):=.scalar λH v w a b q z n h=>by
 cases a<;>first|(cases h;done)|skip
 cases b<;>first|(cases h;done)|skip
 cases z;cases n;cases h;exact⟨_,_,rfl,λ_=>.bl _,λQ k=>⟨_,_,rfl,rfl,k⟩⟩
theorem wk:ib K (λx y H Q=>∃i j,x=.str i/\y=.str j/\Q (.bl (!(!(TF j i 0 j.length 1).isEmpty))) H) (kE true):=.scalar λH v w a b q z n h=>by
 cases a<;>first|(cases h;done)|skip
 cases b<;>first|(cases h;done)|skip
 cases z;cases n;cases h;exact⟨_,_,rfl,λ_=>.bl _,λQ k=>⟨_,_,rfl,rfl,k⟩⟩
theorem JZ(f:X.A.units+1<cLine)(ha:JE X E a ma)(d:JE X E b mb)(hm:behindInMarks .In b=false):JE X E (.Compare a [.In] [b] pos) (aD (bS (bS (gb false) (eS false)) (kE false)) ma mb):=dD (OT f ha d hm) (dG qd CS ha d hm)
theorem KL(f:X.A.units+1<cLine)(ha:JE X E a ma)(d:JE X E b mb)(hm:behindInMarks .In b=false):JT X E (.Compare a [.In] [b] pos) (ao (aD (bS (bS (gb false) (eS false)) (kE false)) ma mb)):=eX (Ov f ha d hm) (dE qd CS ha d hm)
theorem EB(f:X.A.units+1<cLine)(ha:JE X E a ma)(d:JE X E b mb)(hm:behindInMarks .NotIn b=false):JE X E (.Compare a [.NotIn] [b] pos) (aD (bS (bS (gb true) (eS true)) (kE true)) ma mb):=dD (KU f ha d hm) (dG kB wk ha d hm)
theorem DL(f:X.A.units+1<cLine)(ha:JE X E a ma)(d:JE X E b mb)(hm:behindInMarks .NotIn b=false):JT X E (.Compare a [.NotIn] [b] pos) (ao (aD (bS (bS (gb true) (eS true)) (kE true)) ma mb)):=eX (Js f ha d hm) (dE kB wk ha d hm)
theorem Ad:bootBuiltins "all" = some (.builtin "all"):=by decide +kernel
end
mutual
def lf:A->Bool
 | .tup xs=>Me xs
 | .lst _=>false
 | .dic _=>false
 | .obj _ fs=>NQ fs
 |_=>true
def Me:List A->Bool
 |[]=>true
 |a::r=>lf a&&Me r
def NQ:List (Str×A)->Bool
 |[]=>true
 |(_,a)::r=>lf a&&NQ r
end
def P0:List (Key×A)->Bool
 |[]=>true
 |(_,a)::r=>lf a&&P0 r
def Mf:LO->Bool
 | .lst xs=>Me xs
 | .dic kvs=>P0 kvs
 | .obj _ fs=>NQ fs
 | .dit _=>false
 | .nob _ _ _=>false
def Mq:Sl->Bool
 | .fr a=>lf a
 | .lv o=>Mf o
 | .pv o=>Mf o
 | .un=>true
def Lq(G G':Hp):Prop:=∀a u,G a=some u->(∀ws,u≠.lst ws)->G' a=some u
variable{vs:List V}
section
variable{k:Kx}{G G' H:Hp}(s:Lq G G')
theorem Ly{p:Addr}(s:Lq G G')(q:gK k.K G p vs):gK k.K G' p vs:=q.imp (λr=>by
 rcases r with r|⟨o,r⟩
 .exact .inl (s _ _ r λws z=>by cases z)
 .exact .inr ⟨o,s _ _ r λws z=>by cases z⟩) id
mutual
theorem RA.lf(s:Lq G G'):∀{v:V}{a:A},RA k G v a->M.lf a=true->RA k G' v a
 |_,_,.non,_=>.non
 |_,_,.bl b,_=>.bl b
 |_,_,.int i,_=>.int i
 |_,_,.str x,_=>.str x
 |_,_,.tup e r,h=>.tup (Ly s e) (bR.lf s r (by rw[M.lf] at h;exact h))
 |_,_,.lst e r,h=>by rw[M.lf] at h;cases h
 |_,_,.dic e r,h=>by rw[M.lf] at h;cases h
 |_,_,.exc e m,h=>.exc (s _ _ e λws z=>by cases z) m
 |_,_,.obj e m r,h=>.obj (s _ _ e λws z=>by cases z) m (jn.lf s r (by rw[M.lf] at h;exact h))
 |_,_,.opq,_=>.opq
theorem jn.lf(s:Lq G G'):∀{vs:List (Str×V)}{as:List (Str×A)},jn k G vs as->NQ as=true->jn k G' vs as
 |_,_,.nil,_=>.nil
 |_,_,.cons h r,e=>by rw[NQ,Sn] at e;exact .cons (RA.lf s h e.1) (jn.lf s r e.2)
theorem bR.lf(s:Lq G G'):∀{vs:List V}{as:List A},bR k G vs as->Me as=true->bR k G' vs as
 |_,_,.nil,_=>.nil
 |_,_,.cons h r,e=>by rw[Me,Sn] at e;exact .cons (RA.lf s h e.1) (bR.lf s r e.2)
end
theorem fM.lf(s:Lq G G'):∀{vs:List (Key×V)}{as:List (Key×A)},fM k G vs as->P0 as=true->fM k G' vs as
 |_,_,.nil,_=>.nil
 |_,_,.cons h r,e=>by rw[P0,Sn] at e;exact .cons (RA.lf s h e.1) (fM.lf s r e.2)
theorem LR.lf{p:Addr}{o:LO}{q:List Addr}(s:Lq G G')(h:LR k G H p o q)(e:Mf o=true):LR k G' H p o q:=by
 cases h with
 |nob=>cases e
 |lst x r=>exact .lst x (r.lf s e)
 |dic x r=>exact .dic x (r.lf s e)
 |obj x m r=>exact .obj x m (r.lf s e)
 |dit x r=>cases e
theorem dY.lf{x:Option V}{t:Sl}{L:List Addr}(s:Lq G G')(h:dY k G H x t L)(e:Mq t=true):dY k G' H x t L:=by
 cases h with
 |un=>exact .un _
 |fr h=>exact .fr (h.lf s e)
 |lv h=>exact .lv (h.lf s e)
 |pv h=>exact .pv (h.lf s e)
theorem aB.pick:∀{Y:St}{Z:List Sl}{L:List Addr}{j:Nat}{t:Sl},aB k G H Y Z L->Z[j]?=some t->∃x o v L2,Y[j]?=some x/\L=o++(v++L2)/\dY k G H x t v /\
  ∀{G':Hp}{t':Sl}{L':List Addr},(∀{x:Option V}{t:Sl}{L:List Addr},t∈Z->dY k G H x t L->dY k G' H x t L)->dY k G' H x t' L'->aB k G' H Y (Z.set j t') (o++(L'++L2))
 |_,_,_,j,t,.nil,e=>by simp at e
 |x::Y,u::Z,_,0,t,.cons (L:=La) (L':=Lb) h r,e=>by
  cases e;refine⟨x,[],La,Lb,rfl,rfl,h,λ{G2 w a} f h'=>?_⟩;rw[UB];have:∀{Y:St}{O:List Sl}{L:List Addr},(∀t∈O,t∈u::Z)->aB k G H Y O L->aB k G2 H Y O L:=by
   intro Y O L hm r;induction r with
   |nil=>exact .nil
   |cons h r l=>exact .cons (f (hm _ SN) h) (l λt ht=>hm t (SE _ ht))
  exact .cons h' (this (λt ht=>SE _ ht) r)
 |x::Y,u::Z,_,j+1,t,.cons (L:=La) (L':=Lb) h r,e=>by obtain⟨y,o,v,L2,h1,h2,h3,h4⟩:=aB.pick r (j:=j) (by simpa using e);refine⟨y,La++o,v,L2,by simpa using h1,by rw[h2,Sw],h3,λf h'=>?_⟩;have:=h4 (λm=>f (SE _ m)) h';rw[Sw];exact .cons (f SN h) this
end
noncomputable def mW:Option Sl->Bool
 |some .un=>true
 |_=>false
theorem mE{o:Option Sl}(h:mW o=true):o=some .un:=by
 cases o with
 |none=>cases h
 |some s=>cases s<;>first|rfl|cases h
def jq(j:Nat)(m:Ms):Ms:=λZ=>match Z[j]? with
 |some (.pv (.lst xs))=>match m (Z.set j (.fr (.lst xs))) with
  |some (.rt s,T)=>if mW (ay Z.length T)[j]?&&(s::ay Z.length T).all Mq then some (.rt s,(ay Z.length T).set j (.pv (.lst xs))) else none
  |some (.ex x,T)=>if mW (ay Z.length T)[j]?&&(ay Z.length T).all Mq then some (.ex x,(ay Z.length T).set j (.pv (.lst xs))) else none
  |_=>none
 |_=>m Z
theorem fI:∀{n j:Nat}{Z:List Sl}{o:LO},ay n ((ay n Z).set j (.pv o))=(ay n Z).set j (.pv o)
 |0,_,_,_=>rfl
 |n+1,0,Z,o=>by
  have:∀Z:List Sl,ay n (ay n Z)=ay n Z:=λZ=>backL_idem n Z;cases Z with
  |nil=>show ay (n+1) (.pv o::ay n [])=.pv o::ay n [];rw[ay,this]
  |cons s Z=>cases s<;>(show ay (n+1) (.pv o::ay n Z)=.pv o::ay n Z;rw[ay,this])
 |n+1,j+1,Z,o=>by
  cases Z with
  |nil=>show ay (n+1) (.un::(ay n []).set j (.pv o))=.un::(ay n []).set j (.pv o);rw[ay,fI];intro o z;cases z
  |cons s Z=>cases s<;>first
   |(show ay (n+1) (.un::(ay n Z).set j (.pv o))=.un::(ay n Z).set j (.pv o);rw[ay,fI];intro o z;cases z)
   |(show ay (n+1) (.pv _::(ay n Z).set j (.pv o))=.pv _::(ay n Z).set j (.pv o);rw[ay,fI])
where backL_idem:∀(n:Nat)(Z:List Sl),ay n (ay n Z)=ay n Z
 |0,_=>rfl
 |n+1,[]=>by show ay (n+1) (.un::ay n [])=.un::ay n [];rw[ay,backL_idem];intro o z;cases z
 |n+1,s::Z=>by cases s<;>first
   |(show ay (n+1) (.un::ay n Z)=.un::ay n Z;rw[ay,backL_idem];intro o z;cases z)
   |(show ay (n+1) (.pv _::ay n Z)=.pv _::ay n Z;rw[ay,backL_idem])
variable{E:XK}
theorem jg.lend{n j:Nat}{m:Ms}(h:jg K n (jq j m) vs H Q E):jg K n m vs H Q E:=by
 obtain⟨hn,c,Z,f,O,P,es,G,b,em,q⟩:=h;unfold jq at em;split at em
 .rename_i xs ej;have rel:aB c.toKx (c.g H c.Lp) H (vs.map some) Z c.Lp:=b.rel;obtain⟨x,D,Lj,L2,x1,x2,x3,x4⟩:=rel.pick ej;cases x3 with
  |pv lr=>
   rename_i p _;cases lr with
   |lst ep l=>
    rename_i ws;have nd:=b.nd;rw[x2] at nd;have X:(D++L2).Nodup:=nd.sublist (Uq (Ue _) (Uz _ _));have np:p∉D++L2:=λy=>by have pm:(D++([p]++L2)).Perm (p::(D++L2)):=Vj;exact(S8.mp ((pm.nodup_iff).mp nd)).1 y
    have sub:∀a,a∈D++L2->a∈c.Lp:=λa ha=>by
     rw[x2];rcases Su.mp ha with z|z
     .exact Sv _ z
     .exact Sr _ (Sr _ z)
    have pin:p∈c.Lp:=by rw[x2];exact Sr _ (Sv _ SN)
    have hin:∀a,a∈c.Lp->a=p\/a∈D++L2:=λa ha=>by
     rw[x2] at ha;rcases Su.mp ha with z|z
     .exact .inr (Sv _ z)
     .rcases Su.mp z with z|z
      .exact .inl (Sx.mp z)
      .exact .inr (Sr _ z)
    have Di:p∉c.Hd:=b.Di pin
    let c2:Cn:={ c with Lp:=D++L2 }
    have Y:Z.length=vs.length:=by have:=rel.len;simpa using this.symm
    have b2:fO c2 (vs.map some) H (Z.set j (.fr (.lst xs))) [] [] c2.Lp:=by refine⟨X,?_,λa ha=>.inl ha,⟨λa o e=>⟨o,by rw[<-G];exact e,λ_ _=>rfl⟩,λw r=>b.fr.pk w r⟩,λi o _=>by rw[es],rfl,λa ha=>⟨(b.hd a ha).1,λy=>(b.hd a ha).2 (sub a y)⟩⟩;have sm:Sq (c.g H c.Lp) (c.g H (D++L2)):=c7 sub;have:aB c.toKx (c.g H (D++L2)) H (vs.map some) (Z.set j (.fr (.lst xs))) (D++([]++L2)):=x4 (λ_ h=>h.sm sm (λ_ _ _ e=>e)) (.fr (.lst (.inl (.inl (by rw[bB np Di];exact ep))) (l.sm sm)));exact this
    have V:∀(H':Hp)(β:List Sl)(B:St)(θ:List Sl),B.length=θ.length->β[j]?=some .un->(θ++β).all Mq=true->Bd c2 (vs.map some) H' β B θ->Bd c (vs.map some) H' (β.set j (.pv (.lst xs))) B θ:=by
     intro H' β B θ lt L A t;obtain⟨L',t⟩:=t;have R:H p=some (.lst ws):=ep;have S:∀w,(p,w)∉c.Wk:=λw r=>by obtain⟨h1,⟨ob,us,h2⟩,_⟩:=b.fr.pk _ r;simp only at h1 h2;rw[R,h2] at h1;cases h1
     have U:H' p=some (.lst ws):=by obtain⟨u,h1,h2⟩:=t.fr.st p (.lst ws) (by show c.H0 p=_;rw[G];exact R);rw[h1,h2 np S]
     have I:p∉L':=λy=>by
      rcases t.own p y with z|z
      .exact np z
      .have z:c.H0 p=none:=z;rw[G,R] at z;cases z
     have jj:(θ++β)[θ.length+j]?=some .un:=by rw[S6 (Ug _ _),TU];exact L
     obtain⟨y,M1,Mj,M2,d,y2,y3,y4⟩:=aB.pick t.rel jj;cases y3 with
     |un=>
      have yx:y=some (.ref p):=by rw[<-lt,S6 (Ug _ _),TU,x1] at d;exact(SM d).symm
      subst yx;have N:L'=M1++M2:=y2;have hN:∀a,a∈M1++([p]++M2)↔a=p\/a∈L':=λa=>by
       rw[N];simp only[Su,Sx];constructor
       .rintro(h|h|h)
        .exact .inr (.inl h)
        .exact .inl h
        .exact .inr (.inr h)
       .rintro(h|h|h)
        .exact .inr (.inl h)
        .exact .inl h
        .exact .inr (.inr h)
      have lq:Lq (c.g H' L') (c.g H' (M1++([p]++M2))):=λa u e nl=>by
       by_cases z:a∈L'\/a∈c.Hd
       .rw[gX z] at e;cases e
       .rw[bB (λy=>z (.inl y)) (λy=>z (.inr y))] at e;rw[bB (λy=>?_) (λy=>z (.inr y))]
        .exact e
        .rcases(hN a).mp y with w|w
         .subst w;rw[U] at e;exact nl ws (SM e).symm
         .exact z (.inl w)
      have sq:Sq (c.g H c.Lp) (c.g H' (M1++([p]++M2))):=λa u e=>by
       by_cases z:a∈c.Lp\/a∈c.Hd
       .rw[gX z] at e;cases e
       .rw[bB (λy=>z (.inl y)) (λy=>z (.inr y))] at e;obtain⟨u',h1,h2⟩:=t.fr.st a u (by show c.H0 a=_;rw[G];exact e);have hu:u'=u:=by
         by_cases r:∃w,(a,w)∈c.Wk
         .obtain⟨w,r⟩:=r;have F:=(b.fr.pk _ r).1;have J:=(t.fr.pk _ r).1;simp only at F J;rw[e] at F;rw[h1] at J;rw[SM J,SM F]
         .exact h2 (λy=>z (.inl (sub a y))) λw y=>r ⟨w,y⟩
        subst hu;refine⟨u',?_,.inl rfl⟩;rw[bB (λy=>?_) (λy=>z (.inr y))]
        .exact h1
        .rcases(hN a).mp y with w|w
         .subst w;exact z (.inl pin)
         .rcases t.own a w with v|v
          .exact z (.inl (sub a v))
          .have v:c.H0 a=none:=v;rw[G,e] at v;cases v
      have cc:aB c.toKx (c.g H' (M1++([p]++M2))) H' (B++vs.map some) ((θ++β).set (θ.length+j) (.pv (.lst xs))) (M1++([p]++M2)):=
       y4 (λm h=>h.lf lq (Tf.mp A _ m)) (.pv (.lst U (l.sm sq)))
      rw[Vz _ _ (Ug _ _),TU] at cc;refine⟨M1++([p]++M2),?_,cc,λa ha=>?_,⟨λa o e=>?_,λw r=>t.fr.pk w r⟩,λi o _=>by rw[es],lt,b.hd⟩
      .have pm:(M1++([p]++M2)).Perm (p::(M1++M2)):=Vj;refine(pm.nodup_iff).mpr (S8.mpr ⟨by rw[<-N];exact I,by rw[<-N];exact t.nd⟩)
      .rcases(hN a).mp ha with w|w
       .subst w;exact .inl pin
       .rcases t.own a w with v|v
        .exact .inl (sub a v)
        .exact .inr v
      .obtain⟨u,h1,h2⟩:=t.fr.st a o e;exact⟨u,h1,λna nw=>h2 (λy=>na (sub a y)) nw⟩
    cases k:m (Z.set j (.fr (.lst xs))) with
    |none=>simp only[k] at em;cases em
    |some pr=>
     obtain⟨g,T⟩:=pr;simp only[k] at em;refine⟨hn,c2,_,g,T,P,es,G,b2,k,?_⟩;cases g with
     |nx=>cases em
     |bk=>cases em
     |ct=>cases em
     |rt s=>
      simp only at em;split at em
      .rename_i hc;cases em;intro v H' hs t;rw[Sn] at hc;rw[Y] at hc q;simp only[fI] at q;exact q v H' hs (V H' _ _ _ rfl (mE hc.1) hc.2 t)
      .cases em
     |ex x=>
      simp only at em;split at em
      .rename_i hc;cases em;intro C H' hm t;rw[Sn] at hc;rw[Y] at hc q;simp only[fI] at q;exact q C H' hm (V H' _ _ _ rfl (mE hc.1) hc.2 t)
      .cases em
 .exact⟨hn,c,Z,f,O,P,es,G,b,em,q⟩
theorem qE(l:Addr)(xs:Array Value)(n:Nat)(b:Addr)(ys:Array Value)(S:Nat)(T:Option Addr)(I:Array (Option Value))(h0:¬ (!xs.isEmpty&&Uu (xs.size+ys.size))=true)(h1:xs.size<=sizeLine)(h2:xs.size+ys.size<=sizeLine+1):
  Meets (Builtin.«list.extend» ⟨[.ref l,.ref b],[]⟩) (λ_ R s=>s.heap.get? l=some { cls:=.type "list",data:=.seq xs n }/\s.heap.get? b=some { cls:=.type "list",dict:=T,data:=.seq ys S,slots:=I }/\R (.ok (.ret Wm)) { s with heap:=s.heap.update l (Vu λx=>x++ys),toks:=s.toks }):=
 .of_wp λprog w A R s h=>by
  obtain⟨hp,g,d,tk,os⟩:=s;obtain⟨hl,G,h⟩:=h;have F:=AutoSeq1.idx_int;have Y:=AutoSeq1.sub_tuple_tuple;have J:=AutoSeq1.sub_list_list;have L:=AutoSeq1.sub_tuple_list;have O:=AutoSeq1.sub_list_tuple;have H:(xs++ys).size<=sizeLine+1:=by rw[Array.size_append];exact h2
  wp_walk using (wpAny_updateSeq hl rfl (hz:=h1) (_hz':=H)),Wj hl,Wj G
  exact⟨_,rfl,h⟩
section
variable{X:Cx}{E:XK}
def zM(K:So):V->List V->Hp->VK->Prop:=λx vs H Q=>∃l b xs zs,x=.ref l/\vs=[.ref b]/\H l=some (.lst xs)/\gI K H b zs/\xs.length+zs.length<=sizeLine/\Q .non (upd H l (.lst (xs++zs)))
theorem u4:PR X "list.extend" (zM X.K):=by
 intro pins s Y H x vs v us Q I A C h;obtain⟨l,b,xs,zs,rfl,rfl,R,a,hz,q⟩:=h;cases A;obtain⟨u,rfl,V⟩:=C.one;cases V;obtain⟨z,its,n,r,hl,e⟩:=I.Fb R;obtain⟨T,G,i,_⟩:=I.list a;obtain⟨⟨J,E,w,N⟩,S,j,B,p,O⟩:=id i;simp only at B O p;subst B O p;have L:=G.length;have hsz:its.toArray.size+T.toArray.size<=sizeLine:=by rw[SD,SD];lia
 have Z:¬ (!its.toArray.isEmpty&&Uu (its.toArray.size+T.toArray.size))=true:=by rw[Cr hsz,U7];exact Tg
 refine call_meets Wr ⟨_,e,rfl⟩ PySem.F.entry_list_extend (PySem.F.args_list_extend_2 _ _)
  (qE l its.toArray n b T.toArray S _ _ Z (by rw[SD];lia) (by lia)) ⟨e,j,?_⟩
 refine⟨.non,_,I.ET (its':=its++T) R e (by simp) (r.append G) ?_,rfl,q⟩;rw[SI];lia
def mF(i:Nat)(m:Mi Rr):Mi Rr:=aW m λr Z=>match bz r Z with
 |some (.lst zs,U)=>match aF U i with
  |some (.lst xs)=>if xs.length+zs.length<=100000 then some (.ok (.fr .non),setAt U i (.lst (xs++zs))) else none
  |_=>none
 |_=>none
theorem yq{cpos:Pos}(hN:X.N[i]?=some x)(hv:o9 X.env.scope x)(hd:iw x)(hcd:sv x)(he:JE X E e m)
  (hbase:attributeBase (.Name x px) "extend" X.env (eval (.Name x px) X.env)=eval (.Name x px) X.env:=by rfl)
  (hfew:((backTo cpos (starEach [e] X.env)).all (λx=>!x.1)&&(backToKw cpos (keywordEach [] X.env)).all (λx=>x.1.isSome)&&decide (([e]:List Expr).length+([]:List Keyword).length+(if ([]:List Keyword).isEmpty then 0 else 1)<30))=true:=by rfl)
  (hline:(apos.endLine==cpos.line)=true:=by rfl)(hs:starEach [e] X.env=(false,eval e X.env)::starEach [] X.env:=by rfl)(hplain:(backTo cpos (starEach [] X.env)).any (·.1)=false:=by rfl):
  JE X E (.Call (.Attribute (.Name x px) "extend" apos) [e] [] cpos) (dQ i (mF i m)):=
 ⟨PE.weaken (ua Ua Wr PySem.F.type_list_extend u4 (cU hN hv hd hcd) (cE he.p eF hs) hbase hfew hline hs hplain) λY H Q h=>by
  obtain⟨c,Z,B,θ,o,O,ek,b,em,q⟩:=h;unfold dQ at em;split at em
  .rename_i hl;obtain⟨xs0,hl⟩:=nu hl;obtain⟨p,vs,hp,hH⟩:=gF b hl;refine⟨_,hp,.inl ⟨rfl,vs,.inl (.inl hH)⟩,?_⟩;refine bH ek b em (λr v U H1 hv b1 em1=>?_) (bh q);cases e1:bz r U with
   |none=>simp only[e1] at em1;cases em1
   |some pr=>
    obtain⟨a,Z'⟩:=pr;simp only[e1] at em1;have b2:=Bd.bz (xs:=[]) (ss:=[]) rfl b1 hv e1;cases a<;>first|(simp only at em1;cases em1;done)|skip
    rename_i zs;simp only at em1;cases e2:aF Z' i with
    |none=>simp only[e2] at em1;cases em1
    |some lo=>
     cases lo with
     |dic _=>simp only[e2] at em1;cases em1
     |dit _=>simp only[e2] at em1;cases em1
     |obj _ _=>simp only[e2] at em1;cases em1
     |nob _ _ _=>simp only[e2] at em1;cases em1
     |lst xs=>
      simp only[e2] at em1;split at em1
      .rename_i hx;cases em1;obtain⟨L,bl,ra⟩:=Bd.yi b2;cases ra with
       |lst se sr=>
       rename_i pb us;obtain⟨p',_,h1,h2,h3⟩:=bl.live e2 (.lst (xs++zs)) (.lst ((match H1 p with|some (.lst ws)=>ws|_=>[])++us));rw[hp] at h1;cases h1;cases h2 with
       |lst e rr=>rename_i ws;simp only[e] at h3;have eK:c.K=X.K:=congrArg Kx.K ek;have n1:=rr.len;have n2:=sr.len;refine⟨p,pb,ws,us,rfl,rfl,e,by rw[<-eK];exact nZ (g_same _ _ _) se,by have:=uU;lia,q _ _ trivial (Bd.push (h3 λH' hh=>.lst hh (rr.app sr)) λ_=>.non)⟩
      .cases em1
  .cases em⟩
end
def dZ(i:Nat)(G:Mg)(t:Mi Bool)(e:Mi Rr):Nat->Nat->List A->List Sl->Option (List A×List Sl)
 |0,_,_,_=>none
 |n+1,j,acc,Z=>match aF Z i with
  |some (.lst xs)=>match xs[j]? with
   |none=>some (acc,Z)
   |some a=>match G a Z with
    |none=>none
    |some U=>match t U with
     |some (.ok true,Z')=>match e Z' with
      |some (.ok r,F)=>match bz r F with
       |some (d,T)=>dZ i G t e n (j+1) (acc++[d]) T
       |none=>none
      |_=>none
     |some (.ok false,Z')=>dZ i G t e n (j+1) acc Z'
     |_=>none
  |_=>none
def dy(n i:Nat)(G:Mg)(t:Mi Bool)(e:Mi Rr):Mi Rr:=λZ=>match dZ i G t e 100001 0 [] (Z++S0 n .un) with
 |some (ys,O)=>some (.ok (.nw (.lst ys)),O.take Z.length)
 |none=>none
variable{G:Mg}{mt:Mi Bool}{me:Mi Rr}{lo:Nat}
section
variable{X:Cx}{E:XK}
theorem uH{n:Nat}(Y:St)(H:Hp)(Q:VK)(f:Y.length=lo)(hi:i<lo)(h:gJ (kx X) E (dy n i G mt me) Y H Q):
  wR n (Hz X.K (Gj i)) (Nc (kx X) lo G) (vZ (kx X) qa mt) (gJ (kx X) qa me) Y H Q:=by
 obtain⟨c,Z,B,θ,o,O,s,b,em,q⟩:=h;unfold dy at em;cases J:dZ i G mt me 100001 0 [] (Z++S0 n .un) with
 |none=>simp only[J] at em;cases em
 |some p=>
  obtain⟨ys,Z'⟩:=p;simp only[J] at em;cases em;have z:Y.length=Z.length:=b.jl;have eK:c.K=X.K:=congrArg Kx.K s;have b0:=b.GR (n:=n);have D:∀{Z0:St},Z0.take lo=Y->Z0[i]?=Y[i]?:=λ{Z0} h=>by rw[<-h,Vd hi]
  have t:∃xs,aF (Z++S0 n .un) i=some (.lst xs):=by
   unfold dZ at J;cases u:aF (Z++S0 n .un) i with
   |none=>simp only[u] at J;cases J
   |some lo=>cases lo with
    |lst xs=>exact⟨xs,rfl⟩
    |dic _=>simp only[u] at J;cases J
    |dit _=>simp only[u] at J;cases J
    |obj _ _=>simp only[u] at J;cases J
    |nob _ _ _=>simp only[u] at J;cases J
  obtain⟨xs0,t⟩:=t;obtain⟨p,vs0,g,hH0⟩:=gF b0 t;have hp:Y[i]?=some (some (.ref p)):=by rw[Th (by lia)] at g;exact g
  refine⟨.ref p,hp,p,rfl,⟨vs0,.inl (.inl hH0)⟩,?_⟩;refine⟨λj m Z0 vs H'=>Z0.take lo=Y/\m+j<=100001/\∃S acc,vs.length=acc.length/\acc.length<=j/\Bd c Z0 H' S (vs.reverse.map some++B) (acc.reverse.map Sl.fr++θ)/\dZ i G mt me m j acc S=some (ys,Z'),
   ⟨100001,by rw[<-f,Wy],SK _,_,[],rfl,TM _,b0,J⟩,?_⟩
  rintro j m Z0 vs H' ⟨htk,hm,S,acc,lv,la,bi,U⟩;cases m with
  |zero=>cases U
  |succ m=>
   refine⟨by have:=kA;lia,?_⟩;unfold dZ at U;cases u:aF S i with
   |none=>simp only[u] at U;cases U
   |some lo'=>
    cases lo' with
    |dic _=>simp only[u] at U;cases U
    |dit _=>simp only[u] at U;cases U
    |obj _ _=>simp only[u] at U;cases U
    |nob _ _ _=>simp only[u] at U;cases U
    |lst as=>
     simp only[u] at U;have bi':=bi;obtain⟨L,bl⟩:=bi';obtain⟨p',_,h1,h2,hx2⟩:=bl.live u (.lst as) (.lst []);clear hx2;rw[D htk,hp] at h1;cases h1;cases h2 with
     |lst eH rr=>
     rename_i ws;cases P:as[j]? with
     |none=>
      simp only[P] at U;cases U;have hj:as.length<=j:=WD.mp P;refine .inl ⟨⟨ws,.inl (.inl eH),by rw[rr.len];exact hj⟩,λr hr=>?_⟩;have b7:=Bd.uL bi (by simp[lv]) hr vs ys nJ;have es:Z0=Y++Z0.drop lo:=by rw[<-htk];exact(Ur _ _).symm
      rw[es] at b7;have b9:=b7.OZ;rw[z] at b9;exact q _ _ trivial b9
     |some a=>
      simp only[P] at U;obtain⟨x0,I,ra0⟩:=rr.ta P;refine .inr ⟨⟨ws,x0,.inl (.inl eH),I⟩,λR C H2=>R.take lo=Y/\∃F A,C.length=A.length/\A.length<=j+1/\Bd c R H2 F (C.reverse.map some++B) (A.reverse.map Sl.fr++θ)/\dZ i G mt me m (j+1) A F=some (ys,Z'),
       λR C H2 ⟨q0,F,A,q1,q2,q3,q4⟩=>⟨m,by lia,q0,by lia,F,A,q1,q2,q3,q4⟩,λx H2 y=>?_⟩
      obtain⟨rfl,hy⟩:=y;have ex:=hy ws (.inl (.inl eH));rw[I] at ex;cases ex;have b2:=bl.push ra0;cases eg:G a S with
      |none=>simp only[eg] at U;cases U
      |some F=>
       simp only[eg] at U;refine⟨c,S,_,_,a,F,s,b2,eg,λV H3 t3 l3 b3=>?_⟩;cases N:mt F with
       |none=>simp only[N] at U;cases U
       |some p=>
        obtain⟨ot,T⟩:=p;cases ot with
        |error e=>simp only[N] at U;cases U
        |ok k=>
         refine⟨c,F,_,_,.ok k,T,s,b3,N,λH4 b4=>?_⟩;cases k with
         |false=>simp only[N] at U;rw[if_neg (by decide)];exact⟨t3.trans htk,T,acc,lv,by lia,b4,U⟩
         |true=>
          simp only[N] at U;rw[if_pos rfl];cases l:me T with
          |none=>simp only[l] at U;cases U
          |some p=>
           obtain⟨oe,w⟩:=p;cases oe with
           |error e=>simp only[l] at U;cases U
           |ok r=>
            simp only[l] at U;refine⟨c,T,_,_,.ok r,w,s,b4,l,λv H5 hv b5=>?_⟩;cases ef:bz r w with
            |none=>simp only[ef] at U;cases U
            |some p=>obtain⟨d,ρ6⟩:=p;simp only[ef] at U;have b6:=Bd.bz (xs:=[]) (ss:=[]) rfl b5 hv ef;exact⟨t3.trans htk,ρ6,acc++[d],by simp[lv],by simp;lia,by simpa using b6,U⟩
theorem Bx{N:List Str}{k:Nat}{sc:Scope}{tg v:Expr}{ifs:List Expr}(hc:X.calm=true)(S:fk X.N N k sc X.env.scope)(w:X.N.length=lo)
  (hN:X.N[i]?=some x)(c:o9 X.env.scope x)(hd:iw x)(t:sv x)
  (f:∀cl C s H fp,JG (ir X N sc cl C s H fp) lo tg G)(ht:∀cl C s H fp,JF (ir X N sc cl C s H fp) qa ifs mt)(R:∀cl C s H fp,JE (ir X N sc cl C s H fp) qa v me)(u:∀y,foldedSetIterable (.Name x px) X.env y=pure y):
  JE X E (.ListComp v [⟨tg,.Name x px,ifs,0⟩] sc pos) (dy k i G mt me):=
 ⟨λpins s Y H Q I h=>wY hc S (D5 (cU hN c hd t)) (λcl C s H fp=>(f cl C s H fp).p) (λcl C s H fp=>(ht cl C s H fp).p) (λcl C s H fp=>(R cl C s H fp).p) u pins s Y H Q I (uH Y H Q (I.len.trans w) (by rw[<-w];exact(Sy.mp hN).1) h)⟩
end
end M
set_option maxHeartbeats 4000000
set_option maxHeartbeats 1000000
set_option maxHeartbeats 4000000
set_option maxHeartbeats 1000000
set_option maxHeartbeats 4000000
namespace L2
open PySem PySem.Spec PyProof.Rows PySem.W
section
variable{prog:Program}{w:World}{A:Around}{E:Value->Shared->Prop}{s:Shared}
theorem set_same{a:Addr}{h h':Heap}{S:Key->Bool}{n:Nat}(x:h.SetOf (aX prog w) a S n)(e:∀o,h.get? a=some o->h'.get? a=some o):h'.SetOf (aX prog w) a S n:=let ⟨o,es,ep,t,ho,r⟩:=x;⟨o,es,ep,t,e _ ho,r⟩
end
end L2
set_option maxHeartbeats 1000000
namespace M
open PySem L2
section
variable{X:Cx}{E:XK}
theorem range_all(rs:List Bool):(T9 rs.length).all (λj=>rs.getD j true)=rs.all id:=by
 rw[Vv,Tf,Tf];constructor
 .intro h x w;obtain⟨j,b,e⟩:=VH w;have:=h j (UG.mpr b);rw[TL,SU b,e] at this;exact this
 .intro h j b;have b:=UG.mp b;rw[TL,SU b];exact h _ (TY b)
variable{a b:Expr}{ma mb:Mi Rr}{pos:Pos}
end
end M
set_option maxHeartbeats 4000000
set_option maxHeartbeats 1000000
namespace M
open PySem L2
section
variable{X:Cx}{E:XK}
open PySem.Spec PyProof.Rows PySem.W in
end
open PySem.W (KasT kas_asc kas_desc kas_rev kas_tail3 kas_descPart kas_count kas_place kas_bin kas_sort)
open PyProof.Rows (mirror_perm bubble_perm bubble)
section
variable{X:Cx}{E:XK}
open PySem.Spec PyProof.Rows PySem.W in
end
section
open PySem PyProof.Rows PySem.W
structure Cc(f:Nat->Nat->Bool)(n:Nat) where
 prog:Program
 w:World
 A:Around
 E:Value->Shared->Prop
 D:SortKind
 it:Array Keyed
 s:Shared
 hc:∀i j (C:Bool->Shared->Prop),i<n->j<n->C (f i j) s->kas_cmp prog w A D it i j C s
structure CZ where
 p:Array Nat
 pend:Array (Nat×Nat×Nat)
 mg:Nat
variable{f:Nat->Nat->Bool}{n:Nat}{α β γ δ:Type}{Y Z0:CZ}
section
variable{m m2:Cc f n->StateT SortSt Sem α}{e:β->Cc f n->α}{e':δ->Cc f n->γ}{P P2:β->CZ->Prop}{P':δ->CZ->Prop}
def Lp(I D:β->CZ->Prop):ForInStep β->CZ->Prop
 | .yield b,Y=>I b Y
 | .done b,Y=>D b Y
end
variable{r:Nat->Nat}
noncomputable abbrev GS:=Option (Option Nat)×Nat×Nat
noncomputable abbrev MI:=Option (Array Keyed)×Array Keyed×Nat×Nat×Nat×Nat
end
section
variable{X:Cx}{E:XK}{pins:List (Addr×Obj)}{Y:St}{H:Hp}{s:Shared}{a b:Addr}
open PySem.Spec PyProof.Rows PySem.W in
end
section
variable{X:Cx}{E:XK}
open PySem.Builtin PyProof.Rows PySem.W in
end
variable{us:List Value}{K:Kx}
section
variable{X:Cx}{E:XK}{pins:List (Addr×Obj)}{Y:St}{H:Hp}{s:Shared}
def Jn(K:So)(neg:Bool):R2:=λx y H Q=>∃p xs d ds,y=.ref p/\gI K H p xs/\Den K H x d/\fB K H xs ds/\(∀e∈ds,D.depth e<=40)/\Q (.bl (if neg then !(ds.any λe=>D.eq e d) else ds.any λe=>D.eq e d)) H
open Classical in
def eW(us:List Value)(ds:List D)(d:D)(w:Value):Bool:=(us.zip ds).any λp=>decide (p.1=w)&&D.eq p.2 d
theorem zi(I:Inv X pins Y H s){A:Around}{x:V}{d:D}{v:Value}(f:A.units+40<cLine)(w:Den X.K H x d)(Z:RelV x v):∀{xs:List V}{us:List Value}{ds:List D},fB X.K H xs ds->Vals xs us->(∀e∈ds,D.depth e<=40)->
  ∀p∈us.zip ds,US A s p.1 v (D.eq p.2 d)
 |_,_,_,.nil,.nil,_,u,hm=>nomatch hm
 |_,_,_,.cons h t,.cons r q,hd,u,hm=>by
  rcases SO.mp hm with rfl|hm
  .exact i6 I 40 f (hd _ SN) h w r Z
  .exact zi I f w Z t q (λe R=>hd e (SE _ R)) u hm
theorem HE(I:Inv X pins Y H s){A:Around}{x:V}{d:D}{v:Value}(f:A.units+40<cLine)(w:Den X.K H x d)(n:RelV x v){xs:List V}{ds:List D}(h:fB X.K H xs ds)(r:Vals xs us)(hd:∀e∈ds,D.depth e<=40):
  ∀u∈us,US A s u v (eW us ds d u):=by
 intro u hm;have z:=zi I f w n h r hd;cases Z:eW us ds d u with
 |true=>obtain⟨p,hp,j⟩:=TZ.mp Z;rw[Sn,decide_eq_true_iff] at j;have:=z p hp;rw[j.1,j.2] at this;exact this
 |false=>
  obtain⟨i,hi,rfl⟩:=VH hm;have hl:us.length=ds.length:=by rw[<-r.length,h.len]
  have hp:(us[i],ds[i]'(by lia))∈us.zip ds:=by rw[<-XA (h:=by simp;lia)];exact TY _
  have:=z _ hp;have hf:=V0.mp Z _ hp;simp only[decide_true,X0,Bool.not_eq_true] at hf;rw[hf] at this;exact this
theorem CC{ds:List D}{d:D}(hl:us.length=ds.length):us.any (eW us ds d)=ds.any λe=>D.eq e d:=by
 rw[Vv,TZ,TZ];constructor
 .rintro⟨u,_,h⟩;obtain⟨p,hp,j⟩:=TZ.mp h;rw[Sn] at j;exact⟨p.2,(Vs hp).2,j.2⟩
 .rintro⟨e,R,h⟩;obtain⟨i,hi,rfl⟩:=VH R;have hp:(us[i]'(by lia),ds[i])∈us.zip ds:=by rw[<-XA (h:=by simp;lia)];exact TY _
  exact⟨us[i]'(by lia),TY _,TZ.mpr ⟨_,hp,by simp[h]⟩⟩
theorem BJ(f:X.A.units+64<cLine):d6 X (compareOp .In) (Jn X.K false):=by intro pins s Y H x y v u Q I Z P h;obtain⟨p,xs,d,ds,rfl,j,dx,N,hd,q⟩:=h;cases P;obtain⟨its,r,pl,hz⟩:=I.list j;refine Xu (eW its ds d) pl.isList (λw o=>HE I (by have:X.A.in1.units=X.A.units+1:=rfl;lia) dx Z N r hd w (by simpa using o)) ⟨.bl _,H,I,rfl,?_⟩;rw[show its.toArray.any (eW its ds d)=its.any (eW its ds d) by simp,CC (by rw[<-r.length,N.len])];exact q
theorem qb(f:X.A.units+64<cLine):d6 X (compareOp .NotIn) (Jn X.K true):=by intro pins s Y H x y v u Q I Z P h;obtain⟨p,xs,d,ds,rfl,j,dx,N,hd,q⟩:=h;cases P;obtain⟨its,r,pl,hz⟩:=I.list j;refine Xd (eW its ds d) pl.isList (λw o=>HE I (by have:X.A.in1.units=X.A.units+1:=rfl;lia) dx Z N r hd w (by simpa using o)) ⟨.bl _,H,I,rfl,?_⟩;rw[show its.toArray.any (eW its ds d)=its.any (eW its ds d) by simp,CC (by rw[<-r.length,N.len])];exact q
def fP(neg:Bool):A->A->Option Rr
 |x,.lst xs=>match toD x,jN xs with
  |some d,some ds=>if (ds.all λe=>decide (D.depth e<=40))=true then some (.fr (.bl (if neg then !(ds.any λe=>D.eq e d) else ds.any λe=>D.eq e d))) else none
  |_,_=>none
 |_,_=>none
theorem rO{neg:Bool}:ib K (Jn K.K neg) (fP neg):=.scalar λH v w a b q z n h=>by
 cases b<;>first|(cases h;done)|skip
 rename_i xs;cases n with
 |lst e r=>
  unfold fP at h;simp only at h;cases F:toD a with
  |none=>simp only[F] at h;cases h
  |some d=>cases j:jN xs with
   |none=>simp only[F,j] at h;cases h
   |some ds=>
    simp only[F,j] at h;split at h
    .rename_i hd;cases h;exact⟨_,_,rfl,λ_=>.bl _,λQ k=>⟨_,_,d,ds,rfl,e,kY z F,mG r j,λe p=>of_decide_eq_true (Tf.mp hd e p),k⟩⟩
    .cases h
variable{a b:Expr}{ma mb:Mi Rr}{pos:Pos}
theorem Lk(f:X.A.units+1<cLine)(h2:X.A.units+64<cLine)(ha:JE X E a ma)(d:JE X E b mb)(hm:behindInMarks .In b=false):JE X E (.Compare a [.In] [b] pos) (aD (bS (bS (bS (gb false) (eS false)) (kE false)) (fP false)) ma mb):=dD (JZ f ha d hm) (dG (BJ h2) rO ha d hm)
theorem LZ(f:X.A.units+1<cLine)(h2:X.A.units+64<cLine)(ha:JE X E a ma)(d:JE X E b mb)(hm:behindInMarks .In b=false):JT X E (.Compare a [.In] [b] pos) (ao (aD (bS (bS (bS (gb false) (eS false)) (kE false)) (fP false)) ma mb)):=eX (KL f ha d hm) (dE (BJ h2) rO ha d hm)
theorem DA(f:X.A.units+1<cLine)(h2:X.A.units+64<cLine)(ha:JE X E a ma)(d:JE X E b mb)(hm:behindInMarks .NotIn b=false):JE X E (.Compare a [.NotIn] [b] pos) (aD (bS (bS (bS (gb true) (eS true)) (kE true)) (fP true)) ma mb):=dD (EB f ha d hm) (dG (qb h2) rO ha d hm)
theorem DB(f:X.A.units+1<cLine)(h2:X.A.units+64<cLine)(ha:JE X E a ma)(d:JE X E b mb)(hm:behindInMarks .NotIn b=false):JT X E (.Compare a [.NotIn] [b] pos) (ao (aD (bS (bS (bS (gb true) (eS true)) (kE true)) (fP true)) ma mb)):=eX (DL f ha d hm) (dE (qb h2) rO ha d hm)
end
section
open PySem PyProof.Rows PySem.W
open SetTable in
noncomputable def aw(m:Nat)(p:Probe):Probe:=if p.more > 0 then { p with j:=p.j+1,more:=p.more-1 } else { p with j:=(leap m p.i p.perturb).1,more:=runEnd m (leap m p.i p.perturb).1-(leap m p.i p.perturb).1,i:=(leap m p.i p.perturb).1,perturb:=(leap m p.i p.perturb).2 }
open SetTable in
open SetTable in
def sp(m:Nat)(h:Int):Nat->Probe
 |0=>{ j:=bits h%(m+1),more:=runEnd m (bits h%(m+1))-bits h%(m+1),i:=bits h%(m+1),perturb:=bits h,dummy:=none }
 |n+1=>aw m (sp m h n)
open SetTable in
def nl(m:Nat)(h:Int)(N:Nat):Nat:=N+(sp m h N).more+1
end
section
open PySem.Spec PyProof.Rows PySem.W PySem.Calls
variable{X:Cx}{E:XK}
noncomputable def Jo(z y:Str):Option Nat:=(TF z y 0 z.length 1).head?
def yU:V->List V->Hp->VK->Prop:=λx vs H Q=>∃(z y:Str)(i:Nat),x=.str z/\vs=[.str y]/\Jo z y=some i/\Q (.int (i:Int)) H
theorem K9:P4 X "str.index" yU:=by
 intro pins s Y H x vs v us Q I K C h;obtain⟨z,y,i,rfl,rfl,hi,q⟩:=h;obtain⟨t,rfl⟩:=K;obtain⟨u,rfl,w,rfl⟩:=vals1 C;cases e:TF z y 0 z.length 1 with
 |nil=>unfold Jo at hi;rw[e] at hi;cases hi
 |cons j r=>unfold Jo at hi;rw[e] at hi;cases hi;exact call_meets F.slot_str_index (typeIs_str _ _ _) F.entry_str_index (F.args_str_index_2 _ _) (gives_str_index z y t w i r e).meets (show (Made.int (i:Int)).post _ s from ⟨.int (i:Int),H,I.tok _,⟨_,rfl⟩,q⟩)
end
variable{m:Mi Rr}{apos cpos:Pos}
section
variable{X:Cx}{E:XK}
def sR(z:Str):A->Option Rr
 | .str y=>match Jo z y with
  |some i=>some (.fr (.int (i:Int)))
  |none=>none
 |_=>none
theorem KJ(z:Str):lE K (λw=>yU (.str z) [w]) (sR z):=.scalar λH v a q Y h=>by
 cases a<;>first|(cases h;done)|skip
 rename_i y;unfold sR at h;simp only at h;cases e:Jo z y with
 |none=>simp only[e] at h;cases h
 |some i=>simp only[e] at h;cases Y;cases h;exact⟨_,_,rfl,λ_=>.int _,λQ k=>⟨_,_,i,rfl,rfl,e,k⟩⟩
theorem B7{o e:Expr}{mo:Mi Rr}(i:JE X E o mo)(R:JE X E e m)(hp:∀{s n:TE},PE X o s->PE X e n->PE X (.Call (.Attribute o "index" apos) [e] [] cpos) (Q2 X.K "str" yU s (wu n Dh))):
  JE X E (.Call (.Attribute o "index" apos) [e] [] cpos) (Dm sR mo m):=⟨PE.weaken (hp i.p R.p) λY H Q h=>wL KJ Y H Q h⟩
end
theorem oM{α:Type}{f:Str}:∀{vs ws:List (Str×α)}{u:α},vs.lookup f=some u->(vs++ws).lookup f=some u
 |[],_,_,h=>nomatch h
 |(y,v)::vs,ws,u,h=>by
  rw[SX] at h;rw[Ux,SX];split at h
  .exact h
  .exact oM h
theorem lG{α:Type}{f:Str}:∀{vs ws:List (Str×α)},vs.lookup f=none->ws.lookup f=none->(vs++ws).lookup f=none
 |[],_,_,h=>h
 |(y,v)::vs,ws,h,h'=>by
  rw[SX] at h;rw[Ux,SX];split at h
  .cases h
  .exact lG h h'
theorem lI{α:Type}{f:Str}:∀{vs ws:List (Str×α)}{u:α},vs.lookup f=none->ws.lookup f=some u->(vs++ws).lookup f=some u
 |[],_,_,_,h=>h
 |(y,v)::vs,ws,u,h,h'=>by
  rw[SX] at h;rw[Ux,SX];split at h
  .cases h
  .exact lI h h'
theorem lB.none{k:Kx}{G H:Hp}{f:Str}:∀{ws:List (Str×V)}{ls:List (Str×List A)}{q:List Addr},lB k G H ws ls q->ls.lookup f=none->ws.lookup f=none
 |_,_,_,.nil,_=>rfl
 |_,_,_,.cons (y:=y) e r t,h=>by
  rw[SX] at h ⊢;split at h
  .cases h
  .exact lB.none t h
theorem lB.get{k:Kx}{G H:Hp}{f:Str}{xs:List A}:∀{ws:List (Str×V)}{ls:List (Str×List A)}{q:List Addr},lB k G H ws ls q->ls.lookup f=some xs->∃a us,ws.lookup f=some (.ref a)/\a∈q/\H a=some (.lst us)/\bR k G us xs
 |_,_,_,.nil,h=>nomatch h
 |_,_,_,.cons (y:=y) (a:=a) (us:=us) e r t,h=>by
  rw[SX] at h;rw[SX];split at h
  .cases h;exact⟨a,us,rfl,SN,e,r⟩
  .obtain⟨a,us,h1,h2,h3,h4⟩:=lB.get t h;exact⟨a,us,h1,SE _ h2,h3,h4⟩
noncomputable def yT(f:Str)(xs:List A):List (Str×List A)->List (Str×List A)
 |[]=>[]
 |(y,zs)::r=>if f==y then (y,xs)::r else (y,zs)::yT f xs r
theorem lB.put{k:Kx}{G H H':Hp}{f:Str}{xs Y:List A}{a:Addr}{v:List V}:∀{ws:List (Str×V)}{ls:List (Str×List A)}{q:List Addr},lB k G H ws ls q->q.Nodup->ls.lookup f=some xs->ws.lookup f=some (.ref a)->H' a=some (.lst v)->(∀b∈q,b≠a->H' b=H b)->bR k G v Y->lB k G H' ws (yT f Y ls) q
 |_,_,_,.nil,_,h,_,_,_,_=>nomatch h
 |_,_,_,.cons (y:=y) (a:=b) e r t,nd,h,h2,h3,sm,ra=>by
  rw[SX] at h h2;unfold yT;have nd:=S8.mp nd;cases hc:f==y with
  |true=>rw[hc] at h2;cases h2;rw[if_pos rfl];exact .cons h3 ra (t.sm (Sq.refl _) λc hc u e=>by rw[sm c (SE _ hc) λz=>nd.1 (z▸hc)];exact e)
  |false=>rw[hc] at h h2;rw[if_neg (by decide)];obtain⟨a',us,d,R,-,-⟩:=lB.get t h;have h2:_=some (V.ref a):=h2;rw[d] at h2;cases h2;refine .cons ?_ r (lB.put t nd.2 h d h3 (λc hc=>sm c (SE _ hc)) ra);rw[sm b SN λz=>nd.1 (z▸R)];exact e
variable{i:Nat}{x cn mn:Str}{cs:List Str}{px pos:Pos}{Z:List Sl}
section
variable{X:Cx}{E:XK}
def cp(cs:List Str)(i:Nat)(f:Str):Mi Rr:=λZ=>match aF Z i with
 | some (.nob c fs _)=>if cs.contains c then (match fs.lookup f with
  |some a=>some (.ok (.fr a),Z)
  | none=>none) else none
 |_=>none
theorem BE{f:Str}(hN:X.N[i]?=some x)(V:o9 X.env.scope x)(hd:iw x)(t:sv x)(hc:∀c C,cs.contains c=true->X.mg c=some (.ref C)->lQ X.K C/\dw X.K C f)
  (d:attributeBase (.Name x px) f X.env (eval (.Name x px) X.env)=eval (.Name x px) X.env):JE X E (.Attribute (.Name x px) f pos) (cp cs i f):=
 ⟨PE.weaken (uR (cU hN V hd t) d) λY H Q h=>by
  obtain⟨c,Z,B,θ,o,O,s,b,em,q⟩:=h;unfold cp at em;cases A:aF Z i with
  |none=>simp only[A] at em;cases em
  |some lo=>
   cases lo with
   |lst _=>simp only[A] at em;cases em
   |dic _=>simp only[A] at em;cases em
   |obj _ _=>simp only[A] at em;cases em
   |dit _=>simp only[A] at em;cases em
   |nob cn fs ls=>
    simp only[A] at em;split at em
    .rename_i U;cases j:fs.lookup f with
     |none=>simp only[j] at em;cases em
     |some a=>
      simp only[j] at em;cases em;obtain⟨L,bl⟩:=b;obtain⟨p,_,h1,h2,v⟩:=bl.live A (.nob cn fs ls) (.lst []);clear v;cases h2 with
      |nob e m r l=>
       rename_i C dx vs ws;have D:X.mg cn=some (.ref C):=by have:=congrArg (λk:Kx=>k.mg cn) s;simp only at this;rw[<-this];exact m
       obtain⟨g,J⟩:=hc cn C U D;rcases r.get f with ⟨u,a',G,R,S⟩|⟨_,R⟩
       .rw[j] at R;cases R;exact⟨_,h1,p,C,dx,vs++ws,u,rfl,e,g,J,oM G,q u H trivial (bl.push S)⟩
       .rw[j] at R;cases R
    .cases em⟩
def aY(cn m:Str)(i:Nat):Mi Rr:=λZ=>match aF Z i with
 |some (.nob c fs ls)=>if c==cn&&(fs.lookup m).isNone&&(ls.lookup m).isNone then some (.ok (.rf i),Z) else none
 |_=>none
theorem jG{m:Str}{O:List Sl}{o:Except Str Rr}(h:aY cn m i Z=some (o,O)):∃fs ls,aF Z i=some (.nob cn fs ls)/\fs.lookup m=none/\ls.lookup m=none/\o=.ok (.rf i)/\O=Z:=by
 unfold aY at h;split at h
 .rename_i c fs ls e;split at h
  .rename_i hc;rw[Sn,Sn,beq_iff_eq,TC,TC] at hc;cases h;exact⟨fs,ls,by rw[e,hc.1.1],hc.1.2,hc.2,rfl,rfl⟩
  .cases h
 .cases h
theorem mX{m:Ms}{n:Nat}{C:Addr}{das:List A}{dvs:List V}(hd:∀G,bR (kx X) G dvs das){ma:Mi (List Rr)}(t:X.mg cn=some (.ref C))(hn:∀Z rs O,ma Z=some (.ok rs,O)->rs.length+1+das.length=n)(Y:St)(H:Hp)(Q:VK)(h:gJ (kx X) E (bQ m das (bx (aY cn mn i) ma)) Y H Q):
  xa C mn (jg (kx X) n m) dvs E (Gj i) (Nq (kx X) E ma) Y H Q:=by
 obtain⟨c,Z,B,θ,o,O,s,b,em,q⟩:=h;have P:∀{fs:List (Str×A)}{ls:List (Str×List A)},aF Z i=some (.nob cn fs ls)->fs.lookup mn=none->ls.lookup mn=none->∃p dx vs,Y[i]?=some (some (.ref p))/\H p=some (.ins C dx vs)/\vs.lookup mn=none:=λd R S=>by
  obtain⟨L,bl⟩:=b;obtain⟨p,_,h1,h2,a⟩:=bl.live d (.lst []) (.lst []);clear a;cases h2 with
  |nob e mm r l=>
   rename_i C' dx vs ws;have g:X.mg cn=some (.ref C'):=by have:=congrArg (λk:Kx=>k.mg cn) s;simp only at this;rw[<-this];exact mm
   rw[t] at g;cases g;refine⟨p,dx,vs++ws,h1,e,lG ?_ (l.none S)⟩;rcases r.get mn with ⟨_,_,_,z,_⟩|⟨z,_⟩
   .rw[R] at z;cases z
   .exact z
 have fin:∀e,o=.error e->∀C H,X.mg e=some (.ref C)->Bd c Y H O B θ->E (.ref C) none H:=bh q;rcases bind_some em with ⟨rs,U,F,j⟩|⟨e,F,j⟩
 .rcases bind_some F with ⟨r,Z',D,N⟩|⟨y,D,N⟩
  .obtain⟨fs,ls,d,R,S,I,w⟩:=jG D;cases I;subst w;rcases bind_some N with ⟨rs',T,u,K⟩|⟨y,u,K⟩
   .cases K;obtain⟨p,dx,vs,hp,h2,hl⟩:=P d R S;refine⟨.ref p,hp,p,dx,vs,rfl,h2,hl,c,_,_,_,_,_,s,b,u,λws f J b2=>?_⟩;refine lh (rs:=.rf i::rs') (vs:=.ref p::ws) hd s ?_ ⟨hp,J⟩ b2 j (λr hr v H' hv b=>by subst hr;exact q v H' hv b) (λx hx=>by subst hx;exact q);rw[Ux,SF,SI,<-J.len,<-hn _ _ _ u,(hd λ_=>none).len];lia
   .cases K
  .cases N
 .rcases bind_some F with ⟨r,Z',D,N⟩|⟨y,D,N⟩
  .obtain⟨fs,ls,d,R,S,I,w⟩:=jG D;cases I;subst w;rcases bind_some N with ⟨rs',T,u,K⟩|⟨y,u,K⟩
   .cases K
   .cases K;obtain⟨p,dx,vs,hp,h2,hl⟩:=P d R S;exact⟨.ref p,hp,p,dx,vs,rfl,h2,hl,c,_,_,_,_,_,s,b,u,λC f hm b2=>fin _ j C f hm b2⟩
  .obtain⟨_,_,_,_,_,I,_⟩:=jG D;cases I
end
section
variable{X:Cx}{E:XK}{CX:sx}{k n i:Nat}{f C:Addr}{fd:FuncData}{ps:List Str}{m:Ms}{das:List A}{dvs:List V}{ds:List Value}{cn mn x:Str}{px apos pos:Pos}{e:Expr}{es:List Expr}{ma:Mi (List Rr)}
theorem ud(U:X.mg cn=some (.ref C))(hc:lQ X.K C)(hm:Meth X.K C mn f)(F:dq X.prog X.w X.K X.mg X.base CX k f fd ps (jg (kx X) n m))(y:cQ k X.A)(d:Binds X.K fd ps ds)(hd:Vals dvs ds)(a:∀G,bR (kx X) G dvs das)(h:Passes CX X E)
  (hN:X.N[i]?=some x)(c:o9 X.env.scope x)(q:iw x)(t:sv x)(ha:JA X E (e::es) ma)(hn:∀Z rs O,ma Z=some (.ok rs,O)->rs.length+1+das.length=n)(v:attributeBase (.Name x px) mn X.env (eval (.Name x px) X.env)=eval (.Name x px) X.env)
  (Y:methodCallForm ((e::es).length+([]:List Keyword).length) (backTo pos (starEach (e::es) X.env)) (backToKw pos (keywordEach [] X.env))=true)(H:(apos.endLine==pos.line)=true)
  (B:starEach (e::es) X.env=(false,eval e X.env)::starEach es X.env)(b:(backTo pos (starEach es X.env)).any (·.1)=false):JE X E (.Call (.Attribute (.Name x px) mn apos) (e::es) [] pos) (bQ m das (bx (aY cn mn i) ma)):=
 ⟨PE.weaken (xA (cU hN c q t) hc hm F y d hd h ha.p B b (je v Y H)) (mX a U hn)⟩
theorem qm(u:X.mg cn=some (.ref C))(hc:lQ X.K C)(hm:Meth X.K C mn f)(F:dq X.prog X.w X.K X.mg X.base CX k f fd ps (jg (kx X) n m))(y:cQ k X.A)(d:Binds X.K fd ps ds)(hd:Vals dvs ds)(r:∀G,bR (kx X) G dvs das)(T:Passes CX X E)
  (hN:X.N[i]?=some x)(V:o9 X.env.scope x)(L:iw x)(t:sv x)(hn:1+das.length=n)(U:attributeBase (.Name x px) mn X.env (eval (.Name x px) X.env)=eval (.Name x px) X.env)(p:(apos.endLine==pos.line)=true):JE X E (.Call (.Attribute (.Name x px) mn apos) [] [] pos) (bQ m das (bx (aY cn mn i) dz)):=
 ⟨PE.weaken (tF (cU hN V L t) hc hm F y d hd T (je U rfl p)) λY H Q h=>by obtain⟨v,h0,a,dx,fs,g,R,S,I⟩:=mX (X:=X) (E:=E) (C:=C) (n:=n) r u (ma:=dz) (λZ rs O q=>by cases q;rw[<-hn];simp) Y H Q h;refine⟨v,h0,a,dx,fs,g,R,S,?_⟩;obtain⟨c,Z,B,θ,o,O,s,b,em,q⟩:=I;cases em;exact q [] H trivial b⟩
end
section
variable{c:Cn}{Y:St}{H:Hp}{Z:List Sl}{B:St}{θ:List Sl}
theorem Bd.give{a:Addr}{xs:List A}{f:Str}{fs:List (Str×A)}(b:Bd c Y H Z (some (.ref a)::B) (.lv (.lst xs)::θ))(E:aF Z i=some (.obj cn fs)):
  ∃p C dx vs,Y[i]?=some (some (.ref p))/\H p=some (.ins C dx vs)/\c.mg cn=some (.ref C)/\vs.length=fs.length/\(fs.lookup f=none->vs.lookup f=none)/\Bd c Y (upd H p (.ins C dx (vs++[(f,.ref a)]))) (setAt Z i (.nob cn fs [(f,xs)])) B θ:=by
 obtain⟨L,b⟩:=b;have rel:aB c.toKx (c.g H L) H (some (.ref a)::(B++Y)) (.lv (.lst xs)::(θ++Z)) L:=b.rel;have lt:B.length=θ.length:=by simpa using b.lt
 cases rel with
 |cons h r=>
  rename_i La L';cases h with
  |lv S=>
   cases S with
   |lst ea ra=>
    rename_i us;have nd:a∉L'/\L'.Nodup:=S8.mp b.nd;obtain⟨D,L2,F,r1,r2⟩:=aB.split lt r;have V:∀(s t:Sl)(o:LO),Z[i]?=some s->(s=.lv (.obj cn fs)/\t=.lv (.nob cn fs [(f,xs)])\/s=.pv (.obj cn fs)/\t=.pv (.nob cn fs [(f,xs)]))->setAt Z i (.nob cn fs [(f,xs)])=Z.set i t->
      ∃p C dx vs,Y[i]?=some (some (.ref p))/\H p=some (.ins C dx vs)/\c.mg cn=some (.ref C)/\vs.length=fs.length/\(fs.lookup f=none->vs.lookup f=none)/\Bd c Y (upd H p (.ins C dx (vs++[(f,.ref a)]))) (setAt Z i (.nob cn fs [(f,xs)])) B θ:=by
     intro s t _ es K v;obtain⟨x,M1,M2,I,N,hs,J,ins⟩:=r2.at es;have Q:∀p,x=some (.ref p)->M2=[p]->LR c.toKx (c.g H (a::L')) H p (.obj cn fs) []->(∀G H' ,LR c.toKx G H' p (.nob cn fs [(f,xs)]) [a]->dY c.toKx G H' (some (.ref p)) t [p,a])->
       ∃p C dx vs,Y[i]?=some (some (.ref p))/\H p=some (.ins C dx vs)/\c.mg cn=some (.ref C)/\vs.length=fs.length/\(fs.lookup f=none->vs.lookup f=none)/\Bd c Y (upd H p (.ins C dx (vs++[(f,.ref a)]))) (setAt Z i (.nob cn fs [(f,xs)])) B θ:=by
      intro p ex P S mk;subst ex P;cases S with
      |obj e m n=>
       rename_i C dx vs;have hpa:p≠a:=λz=>nd.1 (by rw[F,J,<-z];simp);have O:∀b,b∈D++(M1++[p,a]++I)↔b∈a::L':=λb=>by
        rw[F,J];simp only[Su,SO,Sx,List.not_mem_nil,or_false];constructor
        .rintro(h|(h|h|h)|h)<;>simp[h]
        .rintro(h|h|(h|h)|h)<;>simp[h]
       have hg:∀H',c.g H' (D++(M1++[p,a]++I))=c.g H' (a::L'):=λH'=>Dx O;have pL:p∈a::L':=by rw[F,J];simp
       have hgu:c.g (upd H p (.ins C dx (vs++[(f,.ref a)]))) (a::L')=c.g H (a::L'):=by
        funext z
        by_cases X:z∈a::L'\/z∈c.Hd
        .rw[gX X,gX X]
        .rw[bB (λy=>X (.inl y)) (λy=>X (.inr y)),bB (λy=>X (.inl y)) (λy=>X (.inr y)),aE (λ(y:z=p)=>X (.inl (by rw[y];exact pL)))]
       have hne:∀b∈D++(M1++I),b≠p:=λb d z=>by
        have T:=nd.2;rw[F,J] at T;subst z;obtain⟨n1,n2,n3⟩:=SQ.mp T;rcases Su.mp d with z|z
        .exact n3 _ z _ (by simp) rfl
        .obtain⟨m1,m2⟩:=lC n2;exact m2 b (by simp) z
       have keep:∀b∈D++(M1++I),∀u,H b=some u->upd H p (.ins C dx (vs++[(f,.ref a)])) b=some u:=λb d u e=>by rw[aE (hne b d)];exact e
       refine⟨p,C,dx,vs,N,e,m,n.len,(λz=>by
        rcases n.get f with ⟨_,_,_,y,_⟩|⟨y,_⟩
        .rw[z] at y;cases y
        .exact y),D++(M1++[p,a]++I),?_,?_,λz hz=>b.own z ((O z).mp hz),?_,?_,lt,b.hd⟩
       .have pm:(D++(M1++[p,a]++I)).Perm (a::L'):=by
         rw[F,J];have q1:(M1++[p,a]++I).Perm (a::(M1++[p]++I)):=by
          have:M1++[p,a]++I=(M1++[p])++(a::I):=by simp
          rw[this];exact Vj
         exact(List.Perm.append_left D q1).trans Vj
        exact pm.nodup_iff.mpr b.nd
       .rw[hg,hgu,v];have i1:=ins (G':=c.g H (a::L')) (H':=upd H p (.ins C dx (vs++[(f,.ref a)]))) (y:=some (.ref p)) (t:=t) (L':=[p,a]) (Sq.refl _) (λb d=>keep b (Sr _ d)) (mk _ _ (.nob (by rw[bK]) m n (.cons (by rw[aE hpa.symm];exact ea) ra .nil)));have es2:Y.set i (some (.ref p))=Y:=by
         apply UJ;intro j;by_cases U:i=j
         .subst U;rw[S3 (Sy.mp N).1,N]
         .rw[Td U]
        rw[es2] at i1;exact(r1.sm (Sq.refl _) λb d=>keep b (Sv _ d)).app i1
       .refine⟨λz o e'=>?_,λw hw=>?_⟩
        .obtain⟨u,u1,u2⟩:=b.fr.st z o e';by_cases hz:z=p
         .subst hz;refine⟨_,bK,λna _=>?_⟩;rcases b.own z pL with y|y
          .exact absurd y na
          .rw[y] at e';cases e'
         .exact⟨u,by rw[aE hz];exact u1,u2⟩
        .obtain⟨k,l,k3⟩:=b.fr.pk w hw;refine⟨?_,l,k3⟩;rw[aE λz=>?_]
         .exact k
         .obtain⟨ob,us',l⟩:=l;rw[z,e] at k;rw[l] at k;cases k
       .rw[v];intro j o U;by_cases R:i=j
        .subst R;rw[S3 (Sy.mp es).1] at U;rcases K with ⟨_,rfl⟩|⟨rfl,rfl⟩
         .cases U
         .exact b.kp i _ es
        .rw[Td R] at U;exact b.kp j o U
     rcases K with ⟨rfl,rfl⟩|⟨rfl,rfl⟩
     .cases hs with
      |lv h=>
       rename_i p q;have:q=[]:=by cases h;rfl
       subst this;exact Q p rfl rfl h λG H' h=>.lv h
     .cases hs with
      |pv h=>
       rename_i p q;have:q=[]:=by cases h;rfl
       subst this;exact Q p rfl rfl h λG H' h=>.pv h
    unfold aF at E;cases es:Z[i]? with
    |none=>simp only[es] at E;cases E
    |some s=>
     cases s with
     |un=>simp only[es] at E;cases E
     |fr a=>simp only[es] at E;cases E
     |lv o1=>simp only[es] at E;cases E;exact V _ _ (.obj cn fs) es (.inl ⟨rfl,rfl⟩) (by unfold setAt;simp only[es])
     |pv o1=>simp only[es] at E;cases E;exact V _ _ (.obj cn fs) es (.inr ⟨rfl,rfl⟩) (by unfold setAt;simp only[es])
end
variable{Y:St}{H:Hp}{o:LO}{p1 p2:Pos}
section
variable{X:Cx}{E:XK}
theorem t6(f:Str)(v:V):∀{fs:List (Str×V)},fs.lookup f=none->f6 f v fs=fs++[(f,v)]
 |[],_=>rfl
 |(g,x)::r,h=>by
  rw[SX] at h;unfold f6;split at h
  .cases h
  .rename_i hc;have:¬ g=f:=λz=>by rw[z] at hc;simp at hc
   rw[if_neg this,t6 f v h];rfl
theorem Bd.Ll{c:Cn}{B:St}{θ:List Sl}{v:V}(b:Bd c Y H Z (some v::B) (.lv o::θ)):∃a,v=.ref a:=by
 obtain⟨L,b⟩:=b;have rel:aB c.toKx (c.g H L) H (some v::(B++Y)) (.lv o::(θ++Z)) L:=b.rel;cases rel with
 |cons h r=>cases h with
  |lv h=>exact⟨_,rfl⟩
def wx(cs:List Str)(i:Nat)(f:Str):Ms:=λZ=>match aF Z i with
 |some (.obj c fs)=>if cs.contains c&&U5 fs.length 900&&(fs.lookup f).isNone then some (.nx,setAt Z i (.nob c fs [(f,[])])) else none
 |_=>none
theorem Dw{f:Str}(hN:X.N[i]?=some x)(V:o9 X.env.scope x)(hd:iw x)(t:sv x)(hc:∀c C,cs.contains c=true->X.mg c=some (.ref C)->lQ X.K C/\dw X.K C f)(R:JE X E (.List [] p2) (cS dz))
  (u:swapsWith (.List [] p2) (some (.Attribute (.Name x px) f p1)) pos.line X.env=pure false):JS X E (.Assign [.Attribute (.Name x px) f p1] (.List [] p2) pos) (wx cs i f):=
 ⟨PS.weaken (Cg (cU hN V hd t) R.p u) λD Y H h=>by
  obtain⟨c,Z,B,θ,fl,O,s,b,em,q⟩:=h;unfold wx at em;cases A:aF Z i with
  |none=>simp only[A] at em;cases em
  |some lo=>
   cases lo with
   |lst _=>simp only[A] at em;cases em
   |dic _=>simp only[A] at em;cases em
   |nob _ _ _=>simp only[A] at em;cases em
   |dit _=>simp only[A] at em;cases em
   |obj cn fs=>
    simp only[A] at em;split at em
    .rename_i o;rw[Sn,Sn,TC] at o;cases em;refine⟨c,Z,B,_,.ok (.nw (.lst [])),Z,s,b,rfl,λv e V b1=>?_⟩;obtain⟨a,rfl⟩:=Bd.Ll b1;obtain⟨p,C,dx,vs,h1,h2,h3,h4,h5,m⟩:=Bd.give (f:=f) b1 A;have Q:X.mg cn=some (.ref C):=by have:=congrArg (λk:Kx=>k.mg cn) s;simp only at this;rw[<-this];exact h3
     obtain⟨g,J⟩:=hc cn C o.1.1 Q;refine⟨_,h1,p,C,dx,vs,rfl,h2,g,J,by have:=TN o.1.2;lia,?_⟩;rw[t6 f _ (h5 o.2)];exact q Y _ m
    .cases em⟩
end
def wI:List Nat->TA
 |[]=>Dh
 |j::js=>wu (Gj j) (wI js)
noncomputable def lU(Z:List Sl):List Nat->Option (List A)
 |[]=>some []
 |j::js=>match Z[j]?,lU Z js with
  |some (.fr a),some as=>some (a::as)
  |_,_=>none
section
variable{c:Cn}{Y:St}{H:Hp}{Z:List Sl}
theorem xt:∀{p:List Nat}{as:List A}{B:St}{θ:List Sl},lU Z p=some as->Bd c Y H Z B θ->∃vs:List V,(∀Q:List V->Hp->Prop,Q vs H->wI p Y H Q)/\vs.length=as.length/\Bd c Y H Z (vs.reverse.map some++B) (as.reverse.map Sl.fr++θ)
 |[],_,_,_,h,b=>by cases h;exact⟨[],λQ q=>q,rfl,b⟩
 |j::p,as,B,θ,h,b=>by
  unfold lU at h;cases F:Z[j]? with
  |none=>simp only[F] at h;cases h
  |some s=>cases J:lU Z p with
   |none=>simp only[F,J] at h;cases s<;>cases h
   |some E=>
    cases s with
    |un=>simp only[F,J] at h;cases h
    |lv _=>simp only[F,J] at h;cases h
    |pv _=>simp only[F,J] at h;cases h
    |fr a=>
     simp only[F,J] at h;cases h;obtain⟨v,t,b1⟩:∃v,Y[j]?=some (some v)/\Bd c Y H Z (some v::B) (.fr a::θ):=by
      obtain⟨L,b⟩:=b;obtain⟨o,L2,D,k,n⟩:=aB.split b.lt b.rel;obtain⟨x,_,_,_,w,u,_⟩:=n.at F;cases u with
      |fr h=>exact⟨_,w,b.push h⟩
     obtain⟨vs,d,R,S⟩:=xt J b1;refine⟨v::vs,λQ q=>⟨v,t,d _ q⟩,congrArg (·+1) R,?_⟩;simpa[Sw] using S
end
section
variable{X:Cx}{E:XK}
def tM(cs:List Str)(i:Nat)(f:Str)(p:List Nat):Mi Rr:=λZ=>match aF Z i with
 | some (.nob c fs ls)=>if cs.contains c&&(fs.lookup f).isNone&&U5 p.length 900 then (match ls.lookup f,lU Z p with
  |some xs,some as=>if xs.length<=100000 then some (.ok (.fr .non),setAt Z i (.nob c fs (yT f (xs++[.tup as]) ls))) else none
  | _,_=>none) else none
 |_=>none
theorem xu:∀{p:List Nat}{Z:List Sl}{as:List A},lU Z p=some as->as.length=p.length
 |[],_,_,h=>by cases h;rfl
 |j::p,Z,as,h=>by
  unfold lU at h;split at h
  .rename_i e;cases h;exact congrArg (·+1) (xu e)
  .cases h
theorem DO{f:Str}{js:List Nat}{I:Pos}{es:List Expr}{j:_}(hN:X.N[i]?=some x)(hv:o9 X.env.scope x)(hd:iw x)(hcd:sv x)(hc:∀c C,cs.contains c=true->X.mg c=some (.ref C)->lQ X.K C/\dw X.K C f)
  (hb:attributeBase (.Name x px) f X.env (eval (.Name x px) X.env)=eval (.Name x px) X.env)(ha:PA X es (wI js))
  (g:attributeBase (.Attribute (.Name x px) f p1) "append" X.env (eval (.Attribute (.Name x px) f p1) X.env)=eval (.Attribute (.Name x px) f p1) X.env)
  (R:((backTo cpos (starEach [.Tuple es j I] X.env)).all (λx=>!x.1)&&(backToKw cpos (keywordEach [] X.env)).all (λx=>x.1.isSome)&&decide (([.Tuple es j I]:List Expr).length+([]:List Keyword).length+(if ([]:List Keyword).isEmpty then 0 else 1)<30))=true)
  (S:(apos.endLine==cpos.line)=true)(hs:starEach [.Tuple es j I] X.env=(false,eval (.Tuple es j I) X.env)::starEach [] X.env)(G:(backTo cpos (starEach [] X.env)).any (·.1)=false):
  JE X E (.Call (.Attribute (.Attribute (.Name x px) f p1) "append" apos) [.Tuple es j I] [] cpos) (tM cs i f js):=
 ⟨PE.weaken (ua Ua Wo Wq pI (uR (cU hN hv hd hcd) hb) (cE (zy ha) eF hs) g R S hs G) λY H Q h=>by
  obtain⟨c,Z,B,θ,o,O,ek,b,em,q⟩:=h;unfold tM at em;cases A:aF Z i with
  |none=>simp only[A] at em;cases em
  |some lo=>
   cases lo with
   |lst _=>simp only[A] at em;cases em
   |dic _=>simp only[A] at em;cases em
   |obj _ _=>simp only[A] at em;cases em
   |dit _=>simp only[A] at em;cases em
   |nob cn fs ls=>
    simp only[A] at em;split at em
    .rename_i U;rw[Sn,Sn,TC] at U;cases w:ls.lookup f with
     |none=>simp only[w] at em;cases em
     |some xs=>
      cases d:lU Z js with
      |none=>simp only[w,d] at em;cases em
      |some as=>
       simp only[w,d] at em;split at em
       .rename_i hl;cases em;obtain⟨vs,g1,g2,g3⟩:=xt d b;obtain⟨L,bl⟩:=b;obtain⟨p,q0,h1,h2,V⟩:=bl.live A (.nob cn fs ls) (.lst []);clear V;cases h2 with
        |nob e m r l=>
         rename_i C dx ws us;have e4:X.mg cn=some (.ref C):=by have:=congrArg (λk:Kx=>k.mg cn) ek;simp only at this;rw[<-this];exact m
         obtain⟨c1,c2⟩:=hc cn C U.1.1 e4;obtain⟨a,ys,k1,k2,P,k4⟩:=l.get w;have kw:ws.lookup f=none:=by
          rcases r.get f with ⟨_,_,_,y,_⟩|⟨y,_⟩
          .rw[U.1.2] at y;cases y
          .exact y
         refine⟨_,h1,p,C,dx,ws++us,.ref a,rfl,e,c1,c2,lI kw k1,.inl ⟨rfl,ys,.inl (.inl P)⟩,?_⟩;refine g1 _ ⟨by have:=nM;have:=xu d;have:=TN U.2;lia,λpt J=>?_⟩;have D:a≠pt:=λz=>by rw[z,J] at P;cases P
         have n:p≠pt:=λz=>by rw[z,J] at e;cases e
         have b3:=Bd.zr g3 (by simp[g2]) J vs as nJ;obtain⟨L3,bl3,ra⟩:=Bd.yi b3;refine⟨a,ys,.ref pt,rfl,rfl,by rw[aE D];exact P,by have:=k4.len;have:=sizeLine_eq;lia,q _ _ trivial (Bd.push ?_ λ_=>.non)⟩;have fin:∀(s t:Sl),Z[i]?=some s->(s=.lv (.nob cn fs ls)/\t=.lv (.nob cn fs (yT f (xs++[.tup as]) ls))\/s=.pv (.nob cn fs ls)/\t=.pv (.nob cn fs (yT f (xs++[.tup as]) ls)))->Bd c Y (upd (upd H pt (.tup vs)) a (.lst (ys++[.ref pt]))) (Z.set i t) B θ:=by
          intro s t es hst;obtain⟨p',q',j1,j2,nd,j3⟩:=bl3.OB (u:=.lst (ys++[.ref pt])) es hst;rw[h1] at j1;cases j1;cases j2 with
          |nob v m' r' l'=>
           rename_i C' dx' F us';rw[aE n,e] at v;have ew:F=ws/\us'=us:=by
            have T:F.length=ws.length:=by rw[r'.len,r.len]
            injection v with v;injection v with _ _ v;exact⟨(XH v.symm T).1,(XH v.symm T).2⟩
           obtain⟨rfl,rfl⟩:=ew;obtain⟨a',ys',w1,w2,w3,w4⟩:=l'.get w;rw[k1] at w1;cases w1;rw[aE D,P] at w3;cases w3;injection v with v;injection v with eC edx _;subst eC edx;refine j3 a (SE _ w2) λH' ha' sm=>?_;refine .nob (dx:=dx) ?_ m' r' (lB.put l' (S8.mp nd).2 w k1 ha' (λb hb hne=>sm b (SE _ hb) hne) (w4.snoc ra));rw[sm p SN λz=>(S8.mp nd).1 (z▸w2),aE n];exact e
         unfold aF at A;unfold setAt;cases es:Z[i]? with
         |none=>simp only[es] at A;cases A
         |some s=>
          cases s with
          |un=>simp only[es] at A;cases A
          |fr a=>simp only[es] at A;cases A
          |lv o1=>simp only[es] at A ⊢;cases A;exact fin _ _ es (.inl ⟨rfl,rfl⟩)
          |pv o1=>simp only[es] at A ⊢;cases A;exact fin _ _ es (.inr ⟨rfl,rfl⟩)
       .cases em
    .cases em⟩
end
mutual
noncomputable def pl:A->Bool
 | .tup xs=>oW xs
 | .lst _=>false
 | .dic _=>false
 | .obj _ _=>false
 | .exc _=>false
 |_=>true
noncomputable def oW:List A->Bool
 |[]=>true
 |a::r=>pl a&&oW r
end
def PB:LO->Bool
 | .lst xs=>oW xs
 |_=>false
def p6:Sl->Bool
 | .fr a=>pl a
 | .lv o=>PB o
 | .pv o=>PB o
 | .un=>true
def Tq(G G':Hp):Prop:=∀a u,G a=some u->(∀ws,u≠.lst ws)->(∀C dx fs,u≠.ins C dx fs)->G' a=some u
variable{vs:List V}
section
variable{k:Kx}{G G' H:Hp}
theorem LM{p:Addr}(s:Tq G G')(q:gK k.K G p vs):gK k.K G' p vs:=q.imp (λr=>by
 rcases r with r|⟨o,r⟩
 .exact .inl (s _ _ r (λws z=>by cases z) λC dx fs z=>by cases z)
 .exact .inr ⟨o,s _ _ r (λws z=>by cases z) λC dx fs z=>by cases z⟩) id
mutual
theorem RA.pl(s:Tq G G'):∀{v:V}{a:A},RA k G v a->M.pl a=true->RA k G' v a
 |_,_,.non,_=>.non
 |_,_,.bl b,_=>.bl b
 |_,_,.int i,_=>.int i
 |_,_,.str x,_=>.str x
 |_,_,.tup e r,h=>.tup (LM s e) (bR.pl s r (by rw[M.pl] at h;exact h))
 |_,_,.lst e r,h=>by rw[M.pl] at h;cases h
 |_,_,.dic e r,h=>by rw[M.pl] at h;cases h
 |_,_,.exc e m,h=>by rw[M.pl] at h;cases h
 |_,_,.obj e m r,h=>by rw[M.pl] at h;cases h
 |_,_,.opq,_=>.opq
theorem bR.pl(s:Tq G G'):∀{vs:List V}{as:List A},bR k G vs as->oW as=true->bR k G' vs as
 |_,_,.nil,_=>.nil
 |_,_,.cons h r,e=>by rw[oW,Sn] at e;exact .cons (RA.pl s h e.1) (bR.pl s r e.2)
end
theorem LR.pl{p:Addr}{o:LO}{q:List Addr}(s:Tq G G')(h:LR k G H p o q)(e:PB o=true):LR k G' H p o q:=by
 cases h with
 |nob=>cases e
 |lst x r=>exact .lst x (r.pl s e)
 |dic x r=>cases e
 |obj x m r=>cases e
 |dit x r=>cases e
theorem dY.pl{x:Option V}{t:Sl}{L:List Addr}(s:Tq G G')(h:dY k G H x t L)(e:p6 t=true):dY k G' H x t L:=by
 cases h with
 |un=>exact .un _
 |fr h=>exact .fr (h.pl s e)
 |lv h=>exact .lv (h.pl s e)
 |pv h=>exact .pv (h.pl s e)
theorem lB.kind{ws:List (Str×V)}{ls:List (Str×List A)}{q:List Addr}(h:lB k G H ws ls q):∀a∈q,∃us,H a=some (.lst us):=by
 induction h with
 |nil=>intro a ha;cases ha
 |cons e r t l=>intro b d;rcases SO.mp d with rfl|d;exact⟨_,e⟩;exact l b d
theorem LR.kind{p:Addr}{cn:Str}{fs:List (Str×A)}{ls:List (Str×List A)}{q:List Addr}(h:LR k G H p (.nob cn fs ls) q):∀a∈p::q,(∃us,H a=some (.lst us))\/∃C dx fs,H a=some (.ins C dx fs):=by
 cases h with
 |nob e m r l=>
  intro a ha;rcases SO.mp ha with rfl|ha
  .exact .inr ⟨_,_,_,e⟩
  .exact .inl (l.kind a ha)
end
def du(j:Nat)(m:Ms):Ms:=λZ=>match Z[j]? with
 |some (.pv (.nob c fs ls))=>match m (Z.set j (.fr (LO.nob c fs ls).a)) with
  |some (.rt s,T)=>if mW (ay Z.length T)[j]?&&(s::ay Z.length T).all p6 then some (.rt s,(ay Z.length T).set j (.pv (.nob c fs ls))) else none
  |some (.ex x,T)=>if mW (ay Z.length T)[j]?&&(ay Z.length T).all p6 then some (.ex x,(ay Z.length T).set j (.pv (.nob c fs ls))) else none
  |_=>none
 |_=>m Z
variable{j:Nat}{Q:VK}{E:XK}
theorem jg.HY{n:Nat}{m:Ms}(h:jg K n (du j m) vs H Q E):jg K n m vs H Q E:=by
 obtain⟨hn,c,Z,f,O,ek,es,G,b,em,q⟩:=h;unfold du at em;split at em
 .rename_i cn fs ls ej;have rel:aB c.toKx (c.g H c.Lp) H (vs.map some) Z c.Lp:=b.rel;obtain⟨x,D,Lj,L2,x1,x2,x3,x4⟩:=rel.pick ej;cases x3 with
  |pv lr=>
   rename_i p qs;have X:=lr;cases lr with
   |nob ep mm rr ll=>
    rename_i C dx ws us;have nd:=b.nd;rw[x2] at nd;have A:(D++L2).Nodup:=nd.sublist (Uq (Ue _) (Uz _ _));have np:∀a∈p::qs,a∉D++L2:=λa ha=>(lC (by rw[<-Sw] at nd;exact nd)).2 a ha;have k:(p::qs).Nodup:=(SQ.mp (SQ.mp nd).2.1).1;have I:=X.is;have N:=X.nf;have sub:∀a,a∈D++L2->a∈c.Lp:=λa ha=>by
     rw[x2];rcases Su.mp ha with z|z
     .exact Sv _ z
     .exact Sr _ (Sr _ z)
    have pin:∀a∈p::qs,a∈c.Lp:=λa ha=>by rw[x2];exact Sr _ (Sv _ ha)
    have Di:∀a∈p::qs,a∉c.Hd:=λa ha=>b.Di (pin a ha)
    let c2:Cn:={ c with Lp:=D++L2 }
    have Y:Z.length=vs.length:=by have:=rel.len;simpa using this.symm
    have b2:fO c2 (vs.map some) H (Z.set j (.fr (LO.nob cn fs ls).a)) [] [] c2.Lp:=by refine⟨A,?_,λa ha=>.inl ha,⟨λa o e=>⟨o,by rw[<-G];exact e,λ_ _=>rfl⟩,λw r=>b.fr.pk w r⟩,λi o _=>by rw[es],rfl,λa ha=>⟨(b.hd a ha).1,λy=>(b.hd a ha).2 (sub a y)⟩⟩;have sm:Sq (c.g H c.Lp) (c.g H (D++L2)):=c7 sub;have:aB c.toKx (c.g H (D++L2)) H (vs.map some) (Z.set j (.fr (LO.nob cn fs ls).a)) (D++([]++L2)):=x4 (λ_ h=>h.sm sm (λ_ _ _ e=>e)) (.fr (X.a' sm λa ha u e=>by rw[bB (np a ha) (Di a ha)];exact e));exact this
    have V:∀(H':Hp)(β:List Sl)(B:St)(θ:List Sl),B.length=θ.length->β[j]?=some .un->(θ++β).all p6=true->Bd c2 (vs.map some) H' β B θ->Bd c (vs.map some) H' (β.set j (.pv (.nob cn fs ls))) B θ:=by
     intro H' β B θ lt S J t;obtain⟨L',t⟩:=t;have R:∀a∈p::qs,∀w,(a,w)∉c.Wk:=λa ha w r=>by obtain⟨h1,⟨ob,us,h2⟩,_⟩:=b.fr.pk _ r;simp only at h1 h2;exact N a ha _ _ (by rw[h1,h2])
     have U:∀a∈p::qs,∀u,H a=some u->H' a=some u:=λa ha u e=>by obtain⟨P,h1,h2⟩:=t.fr.st a u (by show c.H0 a=_;rw[G];exact e);rw[h1,h2 (np a ha) (R a ha)]
     have l:∀a∈p::qs,a∉L':=λa ha y=>by
      rcases t.own a y with z|z
      .exact np a ha z
      .have z:c.H0 a=none:=z;obtain⟨u,L⟩:=I a ha;rw[G,L] at z;cases z
     have jj:(θ++β)[θ.length+j]?=some .un:=by rw[S6 (Ug _ _),TU];exact S
     obtain⟨y,M1,Mj,M2,y1,y2,y3,y4⟩:=aB.pick t.rel jj;cases y3 with
     |un=>
      have yx:y=some (.ref p):=by rw[<-lt,S6 (Ug _ _),TU,x1] at y1;exact(SM y1).symm
      subst yx;have F:L'=M1++M2:=y2;have hN:∀a,a∈M1++((p::qs)++M2)↔a∈p::qs\/a∈L':=λa=>by
       rw[F];simp only[Su];constructor
       .rintro(h|h|h)
        .exact .inr (.inl h)
        .exact .inl h
        .exact .inr (.inr h)
       .rintro(h|h|h)
        .exact .inr (.inl h)
        .exact .inl h
        .exact .inr (.inr h)
      have lq:Tq (c.g H' L') (c.g H' (M1++((p::qs)++M2))):=λa u e nl ni=>by
       by_cases z:a∈L'\/a∈c.Hd
       .rw[gX z] at e;cases e
       .rw[bB (λy=>z (.inl y)) (λy=>z (.inr y))] at e;rw[bB (λy=>?_) (λy=>z (.inr y))]
        .exact e
        .rcases(hN a).mp y with w|w
         .rcases X.kind a w with ⟨us,L⟩|⟨C,dx,fs,L⟩
          .rw[U a w _ L] at e;exact nl us (SM e).symm
          .rw[U a w _ L] at e;exact ni C dx fs (SM e).symm
         .exact z (.inl w)
      have sq:Sq (c.g H c.Lp) (c.g H' (M1++((p::qs)++M2))):=λa u e=>by
       by_cases z:a∈c.Lp\/a∈c.Hd
       .rw[gX z] at e;cases e
       .rw[bB (λy=>z (.inl y)) (λy=>z (.inr y))] at e;obtain⟨P,h1,h2⟩:=t.fr.st a u (by show c.H0 a=_;rw[G];exact e);have L:P=u:=by
         by_cases r:∃w,(a,w)∈c.Wk
         .obtain⟨w,r⟩:=r;have p1:=(b.fr.pk _ r).1;have p2:=(t.fr.pk _ r).1;simp only at p1 p2;rw[e] at p1;rw[h1] at p2;rw[SM p2,SM p1]
         .exact h2 (λy=>z (.inl (sub a y))) λw y=>r ⟨w,y⟩
        subst L;refine⟨P,?_,.inl rfl⟩;rw[bB (λy=>?_) (λy=>z (.inr y))]
        .exact h1
        .rcases(hN a).mp y with w|w
         .exact z (.inl (pin a w))
         .rcases t.own a w with v|v
          .exact z (.inl (sub a v))
          .have v:c.H0 a=none:=v;rw[G,e] at v;cases v
      have cc:aB c.toKx (c.g H' (M1++((p::qs)++M2))) H' (B++vs.map some) ((θ++β).set (θ.length+j) (.pv (.nob cn fs ls))) (M1++((p::qs)++M2)):=
       y4 (λm h=>h.pl lq (Tf.mp J _ m)) (.pv (X.sm sq U))
      rw[Vz _ _ (Ug _ _),TU] at cc;refine⟨M1++((p::qs)++M2),?_,cc,λa ha=>?_,⟨λa o e=>?_,λw r=>t.fr.pk w r⟩,λi o _=>by rw[es],lt,b.hd⟩
      .have pm:(M1++((p::qs)++M2)).Perm ((p::qs)++(M1++M2)):=by rw[<-Sw,<-Sw];exact UT.append_right M2
       refine(pm.nodup_iff).mpr (SQ.mpr ⟨k,by rw[<-F];exact t.nd,λa ha b hb z=>l a ha (by rw[F,z];exact hb)⟩)
      .rcases(hN a).mp ha with w|w
       .exact .inl (pin a w)
       .rcases t.own a w with v|v
        .exact .inl (sub a v)
        .exact .inr v
      .obtain⟨u,h1,h2⟩:=t.fr.st a o e;exact⟨u,h1,λna nw=>h2 (λy=>na (sub a y)) nw⟩
    cases d:m (Z.set j (.fr (LO.nob cn fs ls).a)) with
    |none=>simp only[d] at em;cases em
    |some pr=>
     obtain⟨g,T⟩:=pr;simp only[d] at em;refine⟨hn,c2,_,g,T,ek,es,G,b2,d,?_⟩;cases g with
     |nx=>cases em
     |bk=>cases em
     |ct=>cases em
     |rt s=>
      simp only at em;split at em
      .rename_i hc;cases em;intro v H' hs t;rw[Sn] at hc;rw[Y] at hc q;simp only[fI] at q;exact q v H' hs (V H' _ _ _ rfl (mE hc.1) hc.2 t)
      .cases em
     |ex x=>
      simp only at em;split at em
      .rename_i hc;cases em;intro C H' hm t;rw[Sn] at hc;rw[Y] at hc q;simp only[fI] at q;exact q C H' hm (V H' _ _ _ rfl (mE hc.1) hc.2 t)
      .cases em
 .exact⟨hn,c,Z,f,O,ek,es,G,b,em,q⟩
section
variable{k:Kx}{G G' H:Hp}
theorem aB.zp:∀{Y:St}{Z:List Sl}{L:List Addr},(∀{x:Option V}{t:Sl}{L:List Addr}(j:Nat),Z[j]?=some t->dY k G H x t L->dY k G' H x t L)->aB k G H Y Z L->aB k G' H Y Z L
 |_,_,_,_,.nil=>.nil
 |_,_,_,f,.cons h r=>.cons (f 0 rfl h) (aB.zp (λj b=>f (j+1) (by simpa using b)) r)
theorem aB.G9:∀{Y:St}{Z:List Sl}{L:List Addr}{j:Nat}{t:Sl},aB k G H Y Z L->Z[j]?=some t->∃x o v L2,Y[j]?=some x/\dY k G H x t v/\L=o++(v++L2) /\
  ∀{G':Hp}{t':Sl}{L':List Addr},(∀{x:Option V}{t:Sl}{L:List Addr}(n:Nat),Z[n]?=some t->n≠j->dY k G H x t L->dY k G' H x t L)->dY k G' H x t' L'->aB k G' H Y (Z.set j t') (o++(L'++L2))
 |_,_,_,j,t,.nil,e=>by simp at e
 |x::Y,u::Z,_,0,t,.cons (L:=La) (L':=Lb) h r,e=>by cases e;refine⟨x,[],La,Lb,rfl,h,rfl,λ{G2 w a} f h'=>?_⟩;rw[UB];exact .cons h' (aB.zp (λn hn=>f (n+1) (by simpa using hn) (XI n)) r)
 |x::Y,u::Z,_,j+1,t,.cons (L:=La) (L':=Lb) h r,e=>by obtain⟨y,o,v,L2,h1,h3,h2,h4⟩:=aB.G9 r (j:=j) (by simpa using e);refine⟨y,La++o,v,L2,by simpa using h1,h3,by rw[h2,Sw],λf h'=>?_⟩;have:=h4 (λn hn U=>f (n+1) (by simpa using hn) (λz=>U (Nat.succ.inj z))) h';rw[Sw];exact .cons (f 0 rfl (XI j).symm h) this
end
variable{s:Sl}
section
variable{c:Cn}{Y:St}{H:Hp}{Z:List Sl}{B:St}{θ:List Sl}
theorem Bd.HM{fs:List (Str×A)}{ls:List (Str×List A)}(b:Bd c Y H Z B θ)(es:Z[i]?=some s)(hs:s=.lv (.nob cn fs ls)\/s=.pv (.nob cn fs ls)):
  ∃J:Cn,J.toKx=c.toKx/\Bd J Y H (Z.set i (.fr (LO.nob cn fs ls).a)) [] []/\∀H' U Q X,Bd J Y H' U Q X->(∃a,U[i]?=some (.fr a))->(U.set i .un).all p6=true->X.all p6=true->Bd c Y H' (U.set i s) (Q++B) (X++θ):=by
 obtain⟨L,b⟩:=b;obtain⟨D,L2,e1,r1,r2⟩:=aB.split b.lt b.rel;obtain⟨x,M1,M2,I,hx,F,e2,ins⟩:=r2.at es;have d:∀p q,x=some (.ref p)->M2=p::q->LR c.toKx (c.g H L) H p (.nob cn fs ls) q->(∀G H',LR c.toKx G H' p (.nob cn fs ls) q->dY c.toKx G H' (some (.ref p)) s (p::q))->
   ∃J:Cn,J.toKx=c.toKx/\Bd J Y H (Z.set i (.fr (LO.nob cn fs ls).a)) [] []/\∀H' U Q X,Bd J Y H' U Q X->(∃a,U[i]?=some (.fr a))->(U.set i .un).all p6=true->X.all p6=true->Bd c Y H' (U.set i s) (Q++B) (X++θ):=by
  intro p q ex em lr mk;subst ex em;have nd:=b.nd;rw[e1,e2] at nd;obtain⟨n1,n2,n3⟩:=SQ.mp nd;obtain⟨m1,m2⟩:=lC n2;have ndq:(p::q).Nodup:=(SQ.mp (SQ.mp n2).1).2.1;have m:∀a,a∈L↔a∈D\/a∈p::q\/a∈M1++I:=λa=>by
   rw[e1,e2];simp only[Su];constructor
   .rintro(h|(h|h)|h)
    .exact .inl h
    .exact .inr (.inr (.inl h))
    .exact .inr (.inl h)
    .exact .inr (.inr (.inr h))
   .rintro(h|h|h|h)
    .exact .inl h
    .exact .inr (.inl (.inr h))
    .exact .inr (.inl (.inl h))
    .exact .inr (.inr h)
  have N:∀a∈L,∃u,H a=some u:=b.rel.is;have S:∀a∈L,a∉c.Hd:=λa ha=>b.Di ha;have nq:∀a∈p::q,a∉M1++I:=m2;have n1q:∀a∈D,a∉p::q:=λa ha hq=>n3 a ha a (Sv _ (Sr _ hq)) rfl;have n1m:∀a∈D,a∉M1++I:=λa ha hq=>by
   rcases Su.mp hq with z|z
   .exact n3 a ha a (Sv _ (Sv _ z)) rfl
   .exact n3 a ha a (Sr _ z) rfl
  let J:Cn:={ c with H0:=H,Lp:=M1++I,Hd:=D++c.Hd,Wk:=[] }
  have g2in:∀{H':Hp}{K:List Addr}{a:Addr},a∈K\/a∈D\/a∈c.Hd->J.g H' K a=none:=λ{H' K a} h=>gX (c:=J) (by rcases h with h|h|h;exact .inl h;exact .inr (Sv _ h);exact .inr (Sr _ h));have r:∀{H':Hp}{K:List Addr}{a:Addr},a∉K->a∉D->a∉c.Hd->J.g H' K a=H' a:=λ{H' K a} h1 h2 h3=>bB (c:=J) h1 (λy=>by rcases Su.mp y with z|z;exact h2 z;exact h3 z);have sm0:Sq (c.g H L) (J.g H (M1++I)):=λa u e=>by
   by_cases z:a∈L\/a∈c.Hd
   .rw[gX z] at e;cases e
   .have O:a∉L:=λy=>z (.inl y);rw[bB O (λy=>z (.inr y))] at e;refine⟨u,?_,.inl rfl⟩;rw[r (λy=>O ((m a).mpr (.inr (.inr y)))) (λy=>O ((m a).mpr (.inl y))) (λy=>z (.inr y))];exact e
  have es2:Y.set i (some (.ref p))=Y:=by
   apply UJ;intro j;by_cases E:i=j
   .subst E;rw[S3 (Sy.mp hx).1,hx]
   .rw[Td E]
  refine⟨J,rfl,⟨M1++I,m1,?_,λa ha=>.inl ha,⟨λa o e=>⟨o,e,λ_ _=>rfl⟩,λw l=>nomatch l⟩,λj o E=>?_,rfl,λa ha=>?_⟩,?_⟩
  .have i1:=ins (G':=J.g H (M1++I)) (H':=H) (y:=some (.ref p)) (t:=.fr (LO.nob cn fs ls).a) (L':=[]) sm0 (λ_ _ _ e=>e) (.fr (lr.a' sm0 λa ha u e=>by rw[r (nq a ha) (λy=>n1q a y ha) (S a ((m a).mpr (.inr (.inl ha))))];exact e))
   rw[es2,Tp] at i1;exact i1
  .by_cases R:i=j
   .subst R;rw[S3 (Sy.mp es).1] at E;cases E
   .rw[Td R] at E;exact b.kp j o E
  .rcases Su.mp ha with z|z
   .exact⟨N a ((m a).mpr (.inl z)),n1m a z⟩
   .obtain⟨⟨u,f⟩,_⟩:=b.hd a z;obtain⟨u',h1,_⟩:=b.fr.st a u f;exact⟨⟨u',h1⟩,λy=>S a ((m a).mpr (.inr (.inr y))) z⟩
  .rintro H' U Q X ⟨L',V⟩ ⟨a0,ea0⟩ hpl hp1;have mq:∀a u,H a=some u->a∉M1++I->H' a=some u:=λa u e na=>by obtain⟨u',h1,h2⟩:=V.fr.st a u e;rw[h1,h2 na λw l=>nomatch l]
   have P:∀a∈p::q,∀u,H a=some u->H' a=some u:=λa ha u e=>mq a u e (nq a ha);have h1':∀a∈D,∀u,H a=some u->H' a=some u:=λa ha u e=>mq a u e (n1m a ha);have npL:∀a∈p::q,a∉L':=λa ha y=>by
    rcases V.own a y with z|z
    .exact nq a ha z
    .obtain⟨u,f⟩:=N a ((m a).mpr (.inr (.inl ha)));have z:H a=none:=z;rw[f] at z;cases z
   have n1L:∀a∈D,a∉L':=λa ha y=>V.Di y (Sv _ ha);obtain⟨T,K2,e5,t1,t2⟩:=aB.split V.lt V.rel;obtain⟨y,k,N2,N3,hy,hys,e4,ins2⟩:=t2.G9 ea0;have yp:y=some (.ref p):=by rw[hx] at hy;exact(SM hy).symm
   subst yp;cases hys with
   |fr hra=>
    have eL:L'=T++(k++N3):=by rw[e5,e4];simp
    have pm:(T++(D++(k++((p::q)++N3)))).Perm (D++((p::q)++L')):=by rw[eL,U4];intro a;simp only[Vb];lia
    have hN:∀a,a∈T++(D++(k++((p::q)++N3)))↔a∈D\/a∈p::q\/a∈L':=λa=>by rw[pm.mem_iff,Su,Su]
    have lq:Tq (J.g H' L') (c.g H' (T++(D++(k++((p::q)++N3))))):=λa u e nl ni=>by
     by_cases z:a∈L'\/a∈D\/a∈c.Hd
     .rw[g2in z] at e;cases e
     .rw[r (λy=>z (.inl y)) (λy=>z (.inr (.inl y))) (λy=>z (.inr (.inr y)))] at e;rw[bB (λy=>?_) (λy=>z (.inr (.inr y)))]
      .exact e
      .rcases(hN a).mp y with w|w|w
       .exact z (.inr (.inl w))
       .rcases lr.kind a w with ⟨us,f⟩|⟨C,dx,fs,f⟩
        .rw[P a w _ f] at e;exact nl us (SM e).symm
        .rw[P a w _ f] at e;exact ni C dx fs (SM e).symm
       .exact z (.inl w)
    have sq:Sq (c.g H L) (c.g H' (T++(D++(k++((p::q)++N3))))):=λa u e=>by
     by_cases z:a∈L\/a∈c.Hd
     .rw[gX z] at e;cases e
     .have O:a∉L:=λy=>z (.inl y);rw[bB O (λy=>z (.inr y))] at e;refine⟨u,?_,.inl rfl⟩;rw[bB (λy=>?_) (λy=>z (.inr y))]
      .exact mq a u e λy=>O ((m a).mpr (.inr (.inr y)))
      .rcases(hN a).mp y with w|w|w
       .exact O ((m a).mpr (.inl w))
       .exact O ((m a).mpr (.inr (.inl w)))
       .rcases V.own a w with v|v
        .exact O ((m a).mpr (.inr (.inr v)))
        .have v:H a=none:=v;rw[e] at v;cases v
    have cc:aB c.toKx (c.g H' (T++(D++(k++((p::q)++N3))))) H' Y (U.set i s) (k++((p::q)++N3)):=by refine ins2 (λ{x t L} j E hne h=>h.pl lq (Tf.mp hpl t ?_)) (mk _ _ (lr.sm sq P));exact SY (by rw[Td (T6 hne)];exact E:(U.set i .un)[j]?=some t)
    have tem:aB c.toKx (c.g H' (T++(D++(k++((p::q)++N3))))) H' Q X T:=t1.zp λj E h=>h.pl lq (Tf.mp hp1 _ (SY E));refine⟨T++(D++(k++((p::q)++N3))),?_,(by rw[Sw,Sw];exact tem.app ((r1.sm sq h1').app cc)),λa ha=>?_,⟨λa o e=>?_,λw l=>?_⟩,λj o E=>?_,(by rw[SI,SI,V.lt,b.lt]),b.hd⟩
    .refine(pm.nodup_iff).mpr (SQ.mpr ⟨n1,SQ.mpr ⟨ndq,V.nd,λa ha b hb z=>npL a ha (by rw[z];exact hb)⟩,λa ha b hb z=>?_⟩);subst z;rcases Su.mp hb with w|w
     .exact n1q a ha w
     .exact n1L a ha w
    .rcases(hN a).mp ha with w|w|w
     .exact b.own a ((m a).mpr (.inl w))
     .exact b.own a ((m a).mpr (.inr (.inl w)))
     .rcases V.own a w with v|v
      .exact b.own a ((m a).mpr (.inr (.inr v)))
      .exact .inr (b.fr.fresh v)
    .obtain⟨u,f1,f2⟩:=b.fr.st a o e;obtain⟨u',g1,g2⟩:=V.fr.st a u f1;refine⟨u',g1,λk1 n=>?_⟩;rw[g2 (λy=>?_) λw l=>nomatch l]
     .exact f2 k1 n
     .rcases b.own a ((m a).mpr (.inr (.inr y))) with v|v
      .exact k1 v
      .rw[e] at v;cases v
    .obtain⟨k1,n,k3⟩:=b.fr.pk w l;refine⟨mq _ _ k1 λy=>?_,n,k3⟩;have hw2:=(m w.1).mpr (.inr (.inr y));obtain⟨ob,vs,n⟩:=n;exact b.rel.zq _ hw2 ob vs (by rw[k1,n])
    .by_cases R:i=j
     .subst R;have hlt:i<U.length:=(Sy.mp ea0).1;rw[S3 hlt] at E;cases E;exact b.kp i o es
     .rw[Td R] at E;exact V.kp j o E
 rcases hs with rfl|rfl
 .cases F with
  |lv h=>exact d _ _ rfl rfl h λG H' h=>.lv h
 .cases F with
  |pv h=>exact d _ _ rfl rfl h λG H' h=>.pv h
end
noncomputable def kb:Option Sl->Bool
 |some (.fr _)=>true
 |_=>false
theorem jQ{o:Option Sl}(h:kb o=true):∃a,o=some (.fr a):=by
 cases o with
 |none=>cases h
 |some s=>cases s<;>first|exact⟨_,rfl⟩|cases h
def nP(i:Nat)(t:Mi Bool):Mi Bool:=λZ=>match Z[i]? with
 |some (.lv (.nob c fs ls))=>match t (Z.set i (.fr (LO.nob c fs ls).a)) with
  |some (.ok b,U)=>if kb U[i]?&&(U.set i .un).all p6 then some (.ok b,U.set i (.lv (.nob c fs ls))) else none
  |_=>none
 |some (.pv (.nob c fs ls))=>match t (Z.set i (.fr (LO.nob c fs ls).a)) with
  |some (.ok b,U)=>if kb U[i]?&&(U.set i .un).all p6 then some (.ok b,U.set i (.pv (.nob c fs ls))) else none
  |_=>none
 |_=>t Z
theorem Ej{X:Cx}{e:Expr}{t:Mi Bool}(h:JT X E e t):JT X E e (nP i t):=⟨PT.weaken h.p λY H Q h=>by
 obtain⟨c,Z,B,θ,o,O,L,b,em,q⟩:=h;have V:∀(s:Sl)(cn:Str)(fs:List (Str×A))(ls:List (Str×List A)),Z[i]?=some s->(s=.lv (.nob cn fs ls)\/s=.pv (.nob cn fs ls))->(match t (Z.set i (.fr (LO.nob cn fs ls).a)) with
   |some (.ok b,U)=>if kb U[i]?&&(U.set i .un).all p6 then some ((.ok b:Except Str Bool),U.set i s) else none
   | _=>none)=some (o,O)->vZ (kx X) E t Y H Q:=by
  intro s cn fs ls es u em;obtain⟨J,w,l,P⟩:=Bd.HM b es u;split at em
  .rename_i x U F;split at em
   .rename_i hc;rw[Sn] at hc;cases em;exact⟨J,_,[],[],.ok x,U,w.trans L,l,F,λy b1=>q y (P y U [] [] b1 (jQ hc.1) hc.2 rfl)⟩
   .cases em
  .cases em
 unfold nP at em;split at em
 .rename_i cn fs ls es;exact V _ cn fs ls es (.inl rfl) em
 .rename_i cn fs ls es;exact V _ cn fs ls es (.inr rfl) em
 .exact⟨c,Z,B,θ,o,O,L,b,em,q⟩⟩
def Pz:Rr->Bool
 | .rf _=>false
 | .fr a=>pl a
 | .nw o=>PB o
def kS(i:Nat)(m:Mi Rr):Mi Rr:=λZ=>match Z[i]? with
 |some (.lv (.nob c fs ls))=>match m (Z.set i (.fr (LO.nob c fs ls).a)) with
  |some (.ok r,U)=>if kb U[i]?&&(U.set i .un).all p6&&Pz r then some (.ok r,U.set i (.lv (.nob c fs ls))) else none
  |_=>none
 |some (.pv (.nob c fs ls))=>match m (Z.set i (.fr (LO.nob c fs ls).a)) with
  |some (.ok r,U)=>if kb U[i]?&&(U.set i .un).all p6&&Pz r then some (.ok r,U.set i (.pv (.nob c fs ls))) else none
  |_=>none
 |_=>m Z
theorem Ge(h:gJ K E (kS i m) Y H Q):gJ K E m Y H Q:=by
 obtain⟨c,Z,B,θ,o,O,L,b,em,q⟩:=h;have V:∀(s:Sl)(cn:Str)(fs:List (Str×A))(ls:List (Str×List A)),Z[i]?=some s->(s=.lv (.nob cn fs ls)\/s=.pv (.nob cn fs ls))->(match m (Z.set i (.fr (LO.nob cn fs ls).a)) with
   |some (.ok r,U)=>if kb U[i]?&&(U.set i .un).all p6&&Pz r then some ((.ok r:Except Str Rr),U.set i s) else none
   | _=>none)=some (o,O)->gJ K E m Y H Q:=by
  intro s cn fs ls es u em;obtain⟨J,w,l,P⟩:=Bd.HM b es u;split at em
  .rename_i r U F;split at em
   .rename_i hc;rw[Sn,Sn] at hc;cases em;refine⟨J,_,[],[],.ok r,U,w.trans L,l,F,λv e t b1=>q v e t ?_⟩;cases r with
    |rf j=>cases hc.2
    |fr a=>exact P e U [some v] [.fr a] b1 (jQ hc.1.1) hc.1.2 (by simp only[S2,Uh,UY];exact hc.2)
    |nw o=>exact P e U [some v] [.lv o] b1 (jQ hc.1.1) hc.1.2 (by simp only[S2,Uh,UY];exact hc.2)
   .cases em
  .cases em
 unfold kS at em;split at em
 .rename_i cn fs ls es;exact V _ cn fs ls es (.inl rfl) em
 .rename_i cn fs ls es;exact V _ cn fs ls es (.inr rfl) em
 .exact⟨c,Z,B,θ,o,O,L,b,em,q⟩
variable{G:Mg}
section
variable{X:Cx}{E:XK}
theorem Ae{spos:Pos}{N:List Str}{k:Nat}{sc:Scope}{tg elt iter:Expr}{ifs:List Expr}{mi:Mi (List A)}{mt:Mi Bool}{me:Mi Rr}{lo:Nat}(hc:X.calm=true)(S:fk X.N N k sc X.env.scope)(hlo:X.N.length=lo)(hN:X.N.Nodup)(hx:X.N[i]?=some x)
  (hl:X.env.scope.names.lookup x=some .local)(hsw:swapsWith (.ListComp elt [⟨tg,iter,ifs,0⟩] sc pos) (some (.Name x px)) spos.line X.env=pure true)(hi:JI X E tg iter mi)
  (hg:∀cl C s H fp,JG (ir X N sc cl C s H fp) lo tg G)(ht:∀cl C s H fp,JF (ir X N sc cl C s H fp) qa ifs mt)(he:∀cl C s H fp,JE (ir X N sc cl C s H fp) qa elt me)(hs:∀x,foldedSetIterable iter X.env x=pure x:=by intro _;rfl):
  JS X E (.Assign [.Name x px] (.ListComp elt [⟨tg,iter,ifs,0⟩] sc pos) spos) (aK i (kS j (bu k mi G mt me))):=
 ⟨λpins s Y H D I h=>xx hc S hN hx hl hsw hi.p (λcl C s H fp=>(hg cl C s H fp).p) (λcl C s H fp=>(ht cl C s H fp).p) (λcl C s H fp=>(he cl C s H fp).p) hs pins s Y H D I (by
  obtain⟨c,Z,B,θ,f,O,ek,b,em,q⟩:=h;refine kU (E:=E) Y H _ (I.len.trans hlo) (Ge (eU ek b em q λr v U H1 hv b1 em1=>?_));cases e1:wA r U with
  |none=>simp only[e1] at em1;cases em1
  |some p=>
   obtain⟨t,Z'⟩:=p;simp only[e1] at em1;obtain⟨b2,ht⟩:=Bd.wA hv b1 e1;cases e2:put i t Z' with
   |none=>simp only[e2] at em1;cases em1
   | some F=>simp only[e2] at em1;cases em1;exact q _ H1 (Bd.put b2 ht e2))⟩
def uY(k v s h:Str):Mi Rr:=λZ=>some (.ok (.nw (.dic (iY [] [(.inr k,.str v),(.inr s,.str h)]))),Z)
theorem BF{k v s x:Str}{m i r K:Nat}{C A:Pos}:JE X E (.Dict [some (.Constant (.str k) m p1),some (.Constant (.str s) i p2)] [.Constant (.str v) r C,.Constant (.str x) K A] pos) (uY k v s x):=
 ⟨PE.weaken (Ff (sZ nL nL (sZ nL nL ER)) rfl rfl (by simp) (by simp)) λY H Q h=>by
  obtain⟨c,Z,B,θ,o,O,U,b,em,q⟩:=h;cases em;intro p hp;obtain⟨L,bl⟩:=b;have S:Bd c Y (upd H p (.dK [])) Z (some (.ref p)::B) (.lv (.dic [])::θ):=bl.hZ hp λG H' sm V=>.dic V .nil;obtain⟨L',a⟩:=S;obtain⟨_,h1,h2⟩:=a.OS (o':=.dic (iY [] [(.inr k,.str v),(.inr s,.str x)])) (u:=.dK (gj [] [(.inr k,.str v),(.inr s,.str x)]));cases h1 with
  | dic e n=>cases n;exact⟨e,[(.inr k,.str v),(.inr s,.str x)],rfl,by simp,q _ _ trivial ⟨L',h2 λH' V=>.dic V (fM.merge (.cons (.str _) (.cons (.str _) .nil)) .nil)⟩⟩⟩
end
open PySem L2 W
def fh(f:Ms)(das:List A):List Rr->Mi Rr:=λrs Z=>match cI (rs++das.map Rr.fr) Z with
 |some (as,S)=>match f (as.map tq) with
  |some (.rt s,T)=>match mU s,putL Z (rs++das.map Rr.fr) (ay as.length T) S with
   |some r,some O=>some (.ok r,O)
   |_,_=>none
  |some (.ex x,T)=>match putL Z (rs++das.map Rr.fr) (ay as.length T) S with
   |some O=>some (.error x,O)
   |none=>none
  |_=>none
 |none=>none
def Val(f:Ms)(as:List A)(a:A):Prop:=∃Z,f (as.map Sl.fr)=some (.rt (.fr a),Z)
def eE(f:Ms)(as:List A)(o:LO):Prop:=∃Z,f (as.map Sl.fr)=some (.rt (.lv o),Z)
def eG(f:Ms)(o:LO)(as:List A)(s:Sl)(o':LO):Prop:=∃Z,f (.pv o::as.map Sl.fr)=some (.rt s,.pv o'::Z)
theorem kh(as:List A)(Z:List Sl):cI (as.map Rr.fr) Z=some (as.map Sl.fr,Z):=by
 induction as generalizing Z with
 |nil=>rfl
 |cons a as l=>simp only[SR,cI,take1,l]
theorem rP(as:List A):(as.map Sl.fr).map tq=as.map Sl.fr:=by rw[Tj];rfl
theorem j7(S:List Sl):∀(as:List A)(ss:List Sl)(Z:List Sl),as.length=ss.length->putL S (as.map Rr.fr) ss Z=some Z
 |[],[],Z,_=>rfl
 |a::as,s::ss,Z,h=>by rw[SR,putL,j7 S as ss Z (by simpa using h)];rfl
 |[],_::_,_,h=>by simp at h
 |_::_,[],_,h=>by simp at h
variable{f:Ms}
theorem aL{as:List A}{a:A}(h:Val f as a)(Z:List Sl):fh f [] (as.map Rr.fr) Z=some (.ok (.fr a),Z):=by obtain⟨T,h⟩:=h;unfold fh;rw[UI,Tp,kh];simp only[rP,h,mU];rw[j7 _ _ _ _ (by rw[cA,Ss])]
theorem cj{as:List A}(h:eE f as o)(Z:List Sl):fh f [] (as.map Rr.fr) Z=some (.ok (.nw o),Z):=by obtain⟨T,h⟩:=h;unfold fh;rw[UI,Tp,kh];simp only[rP,h,mU];rw[j7 _ _ _ _ (by rw[cA,Ss])]
theorem cg{as:List A}{o':LO}{r:Rr}(h:eG f o as s o')(y:mU s=some r)(hl:aF Z i=some o):fh f [] (.rf i::as.map Rr.fr) Z=some (.ok r,setAt Z i o'):=by
 obtain⟨T,h⟩:=h;unfold aF at hl;unfold setAt;have hi:∀s,Z[i]?=some s->(Z.set i Sl.un)[i]?=some .un:=λs e=>S3 (Sy.mp e).1;have V:∀(s0:Sl)(k:LO->Sl),Z[i]?=some s0->take1 (.rf i) Z=some (.lv o,Z.set i .un)->(∀s O,O[i]?=some Sl.un->sV Z (.rf i) (.pv s) O=some (O.set i (k s)))->fh f [] (.rf i::as.map Rr.fr) Z=some (.ok r,Z.set i (k o')):=by
  intro s0 k es ht hp;unfold fh;rw[UI,Tp,cI,ht];simp only[kh];have h':f (XU tq (Sl.lv o::XU Sl.fr as))=some (.rt s,.pv o'::T):=by rw[SR,rP];exact h
  rw[h'];simp only[y];have d:ay (Sl.lv o::XU Sl.fr as).length (.pv o'::T)=.pv o'::ay as.length T:=by rw[SF,Ss];rfl
  rw[d,putL,j7 _ _ _ _ (by rw[cA])];simp only[hp _ _ (hi s0 es),List.set_set]
 cases es:Z[i]? with
 |none=>simp only[es] at hl;cases hl
 |some t=>
  cases t with
  |un=>simp only[es] at hl;cases hl
  |fr a=>simp only[es] at hl;cases hl
  |lv Y=>simp only[es] at hl;cases hl;refine V _ Sl.lv es (by unfold take1;simp only[es]) λs O e=>?_;unfold sV;simp only[es,e]
  |pv Y=>simp only[es] at hl;cases hl;refine V _ Sl.pv es (by unfold take1;simp only[es]) λs O e=>?_;unfold sV;simp only[es,e]
theorem Cd{b:Ms}{as:List A}(P:Nat->List Sl->Prop)(h0:P 0 Z)(u:∀i a Z,as[i]?=some a->P i Z->∃U Z',G a Z=some U/\(b U=some (.nx,Z')\/b U=some (.ct,Z'))/\P (i+1) Z'):
  ∃O,forL G b as Z=some (.nx,O)/\P as.length O:=by
 have V:∀n i Z,as.length-i=n->i<=as.length->P i Z->∃O,forL G b (as.drop i) Z=some (.nx,O)/\P as.length O:=by
  intro n;induction n with
  |zero=>
   intro i Z e hi p;have:i=as.length:=by lia
   subst this;exact⟨Z,by rw[Vi];rfl,p⟩
  |succ n l=>
   intro i Z e hi p;have h:i<as.length:=by lia
   obtain⟨U,Z',h1,h2,h3⟩:=u i as[i] Z (by simp[h]) p;obtain⟨O,h4,h5⟩:=l (i+1) Z' (by lia) h h3;refine⟨O,?_,h5⟩;rw[Ti h,forL,h1];rcases h2 with h2|h2
   .simp only[h2];exact h4
   .simp only[h2];exact h4
 simpa using V as.length 0 Z (by simp) (TM _) h0
variable{e:Mi Rr}
theorem gC{t:Mi Bool}{as:List A}(P:Nat->List A->List Sl->Prop)(h0:P 0 [] Z)
  (u:∀i a acc Z,as[i]?=some a->P i acc Z->∃U,G a Z=some U/\((∃Z' r F d T,t U=some (.ok true,Z')/\e Z'=some (.ok r,F)/\bz r F=some (d,T)/\P (i+1) (acc++[d]) T)\/∃Z',t U=some (.ok false,Z')/\P (i+1) acc Z')):
  ∃ys O,cT G t e as [] Z=some (ys,O)/\P as.length ys O:=by
 have V:∀n i acc Z,as.length-i=n->i<=as.length->P i acc Z->∃ys O,cT G t e (as.drop i) acc Z=some (ys,O)/\P as.length ys O:=by
  intro n;induction n with
  |zero=>
   intro i acc Z v hi p;have:i=as.length:=by lia
   subst this;exact⟨acc,Z,by rw[Vi];rfl,p⟩
  |succ n s=>
   intro i acc Z v hi p;have h:i<as.length:=by lia
   obtain⟨U,h1,h2⟩:=u i as[i] acc Z (by simp[h]) p;rw[Ti h,cT,h1];rcases h2 with ⟨Z',r,F,d,T,l,E,L,H⟩|⟨Z',l,E⟩
   .simp only[l,E,L];exact s (i+1) _ T (by lia) h H
   .simp only[l];exact s (i+1) _ Z' (by lia) h E
 simpa using V as.length 0 [] Z (by simp) (TM _) h0
theorem lD{t:Mi Bool}{b:Ms}(P:Nat->List Sl->Prop)(Q:List Sl->Prop)(u:∀k Z,P k Z->(∃U,t Z=some (.ok false,U)/\Q U)\/∃U Z' s,t Z=some (.ok true,U)/\(b U=some (.nx,Z')\/b U=some (.ct,Z'))/\s<k/\P s Z'):
  ∀{n k:Nat}{Z:List Sl},P k Z->k<n->∃O,fZ t b n Z=some (.nx,O)/\Q O:=by
 intro n;induction n with
 |zero=>intro k Z _ h;lia
 |succ n l=>
  intro k Z p hk;rcases u k Z p with ⟨U,h1,h2⟩|⟨U,Z',s,h1,h2,h3,h4⟩
  .exact⟨U,by rw[fZ,h1],h2⟩
  .obtain⟨O,h5,m⟩:=l h4 (by lia);refine⟨O,?_,m⟩;rw[fZ,h1];rcases h2 with h2|h2
   .simp only[h2];exact h5
   .simp only[h2];exact h5
theorem uX{n:Nat}(h:n<2^9500):n<AL:=SH h (by unfold AL;exact TJ (by decide) (by decide))
noncomputable def nm(x:Num):A:=.tup [.int x.1,.int x.2]
theorem KQ(x:Num):toD (nm x)=some (.tup [.int x.1,.int x.2]):=by simp[nm,toD,jN]
theorem IP(x y:Num):si (nm x) (nm y)=some (decide (x=y)):=by unfold si;simp only[KQ];rw[if_pos (by simp[D.depth,D.gh])];obtain⟨x1,x2⟩:=x;obtain⟨U,H⟩:=y;simp[D.eq,D.eqs,VA]
theorem rT(i j:Int):si (.int i) (.int j)=some (decide (i=j)):=by unfold si;simp only[toD];rw[if_pos (by simp[D.depth])];simp[D.eq,VA]
section
variable{α β:Type}{Z:List Sl}
theorem OA(i:Nat):aa i Z=(match Z[i]? with|some (.fr a)=>some (.ok (.fr a),Z)|some (.lv _)=>some (.ok (.rf i),Z)|some (.pv _)=>some (.ok (.rf i),Z)|_=>none):=rfl
def gq(f:A->A->Option Rr)(x y:Rr)(Z:List Sl):Option (Except Str Rr×List Sl):=match res Z x,res Z y with
 |some a,some b=>match f a b with
  |some r=>some (.ok r,Z)
  |none=>none
 |_,_=>none
def Qd(f:A->Option Rr)(x:Rr)(Z:List Sl):Option (Except Str Rr×List Sl):=match res Z x with
 |some a=>match f a with
  |some r=>some (.ok r,Z)
  |none=>none
 |none=>none
theorem Rl(m n:Mi Bool):rS m n Z=(match m Z with|some (.ok true,U)=>n U|some (.ok false,U)=>some (.ok false,U)|some (.error e,U)=>some (.error e,U)|none=>none):=by
 unfold rS aW;cases m Z with
 |none=>rfl
 |some p=>obtain⟨o,U⟩:=p;cases o with|error e=>rfl|ok k=>cases k<;>rfl
def tupK(rs:List Rr)(Z:List Sl):Option (Except Str Rr×List Sl):=match gB rs Z with
 |some (as,O)=>if as.length<=1000 then some (.ok (.fr (.tup as)),O) else none
 |none=>none
def lstK(rs:List Rr)(Z:List Sl):Option (Except Str Rr×List Sl):=match gB rs Z with
 |some (as,O)=>if as.length<=1000 then some (.ok (.nw (.lst as)),O) else none
 |none=>none
theorem G5(m n:Ms):av m n Z=(match m Z with|some (.nx,U)=>n U|r=>r):=rfl
def Ee(i:Nat)(r:Rr)(Z:List Sl):Option (Fl×List Sl):=match wA r Z with
 |some (t,U)=>match put i t U with
  |some Z'=>some (.nx,Z')
  |none=>none
 |none=>none
def Rg(r:Rr)(Z:List Sl):Option (Fl×List Sl):=match Lm r Z with
 |some (s,O)=>some (.rt s,O)
 |none=>none
theorem Pm(t:Mi Bool)(m n:Ms):f9 t m n Z=(match t Z with|some (.ok true,U)=>m U|some (.ok false,U)=>n U|some (.error e,U)=>some (.ex e,U)|none=>none):=by
 unfold f9 c8;cases t Z with
 |none=>rfl
 |some p=>obtain⟨o,U⟩:=p;cases o with|error e=>rfl|ok k=>cases k<;>rfl
theorem O5(loc:Nat)(m:Ms):bf loc m Z=(match m (Z++S0 loc .un) with|some (.nx,O)=>some (.rt (.fr .non),O)|some (.rt s,O)=>some (.rt s,O)|some (.ex x,O)=>some (.ex x,O)|_=>none):=by
 unfold bf;cases m (Z++S0 loc .un) with
 |none=>rfl
 |some p=>obtain⟨f,U⟩:=p;cases f<;>rfl
theorem Hm(m:Mi (List A))(G:Mg)(b:Ms):dh m G b Z=(match m Z with|some (.ok as,U)=>forL G b as U|some (.error e,U)=>some (.ex e,U)|none=>none):=by
 unfold dh c8;cases m Z with
 |none=>rfl
 |some p=>
  obtain⟨o,U⟩:=p;cases o with
  |error e=>rfl
  |ok x=>rfl
def Qt(r:Rr)(Z:List Sl):Option (Except Str (List A)×List Sl):=match bz r Z with
 |some (a,O)=>match Ia a with
  |some as=>some (.ok as,O)
  |none=>none
 |none=>none
def sT(r:Rr)(Z:List Sl):Option (Except Str (List A)×List Sl):=match res Z r with
 |some (.int j)=>if -(2^60)<=j/\j<2^60 then some (.ok (fS 0 j.toNat),Z) else none
 |_=>none
def hY(n:Nat)(G:Mg)(t:Mi Bool)(e:Mi Rr)(as:List A)(Z:List Sl):Option (Except Str Rr×List Sl):=if as.length<=100000 then match cT G t e as [] (Z++S0 n .un) with
 |some (ys,O)=>some (.ok (.nw (.lst ys)),O.take Z.length)
 |none=>none else none
def Sh(i:Nat)(r:Rr)(Z:List Sl):Option (Except Str Rr×List Sl):=match bz r Z with
 |some (a,U)=>match aF U i with
  |some (.lst xs)=>if xs.length<=16000000 then some (.ok (.fr .non),setAt U i (.lst (xs++[a]))) else none
  |_=>none
 |none=>none
def R6(i:Nat)(r rk:Rr)(Z:List Sl):Option (Fl×List Sl):=match bz r Z with
 |some (a,U)=>match res U rk,aF U i with
  |some (.int k),some (.lst xs)=>match p8 xs.length k with
   |some j=>some (.nx,setAt U i (.lst (xs.set j a)))
   |none=>none
  |_,_=>none
 |none=>none
def dK(i:Nat)(r rk:Rr)(Z:List Sl):Option (Fl×List Sl):=match bz r Z with
 |some (a,U)=>match res U rk,aF U i with
  |some ka,some (.dic kvs)=>match iu ka with
   |some y=>if kvs.length<=100000 then some (.nx,setAt U i (.dic (iQ kvs y a))) else none
   |none=>none
  |_,_=>none
 |none=>none
def RW(r:Rr)(Z:List Sl):Option (Except Str Rr×List Sl):=match bz r Z with
 |some (a,O)=>some (.ok (.fr a),O)
 |none=>none
end
section
variable{Z:List Sl}
def RL(cs:List Str)(i:Nat)(f:Str)(r:Rr)(Z:List Sl):Option (Fl×List Sl):=match bz r Z with
 |some (a,U)=>match aF U i with
  |some (.obj c fs)=>if cs.contains c&&U5 fs.length 900 then some (.nx,setAt U i (.obj c (pC f a fs))) else none
  |_=>none
 |none=>none
def tu(cn:Str)(f:Ms)(das:List A)(rs:List Rr)(Z:List Sl):Option (Except Str Rr×List Sl):=match cI (rs++das.map Rr.fr) Z with
 |some (as,S)=>match f (.pv (.obj cn [])::as.map tq) with
  |some (.rt (.fr .non),.pv o2::Y)=>match putL Z (rs++das.map Rr.fr) (ay as.length Y) S with
   |some O=>some (.ok (.nw o2),O)
   |none=>none
  |some (.ex x,s::Y)=>match putL Z (rs++das.map Rr.fr) (ay as.length Y) S with
   |some O=>some (.error x,O)
   |none=>none
  |_=>none
 |none=>none
def OE(cn mn:Str)(r:Rr)(Z:List Sl):Option (Except Str Rr×List Sl):=match res Z r with
 |some (.obj c fs)=>if c==cn&&(fs.lookup mn).isNone then some (.ok r,Z) else none
 |_=>none
theorem Dv(a b:A):vO a b=(oV λi j=>if fits 20000 i&&fits 20000 j then some (.fr (.int (i*j))) else none) a b:=rfl
theorem LJ(a b:A):l9 a b=(oV λi j=>if j != 0&&fits 9000 j then some (.fr (.int (i.fdiv j))) else none) a b:=rfl
end
noncomputable def np:Sl->Bool
 | .pv _=>false
 |_=>true
theorem MV(i:Nat)(s:Sl)(Z:List Sl):put i s Z=(match Z[i]? with|some t=>if np t=true then some (Z.set i s) else none|none=>none):=by
 unfold put;cases Z[i]? with
 |none=>rfl
 |some t=>cases t<;>rfl
def Wp(m:Ms)(Z:List Sl)(Q:Fl->List Sl->Prop):Prop:=∃f O,m Z=some (f,O)/\Q f O
section
variable{m n b:Ms}{Z U:List Sl}{Q:Fl->List Sl->Prop}
theorem Wp.st(h:m Z=some (.nx,U))(k:Wp n U Q):Wp (av m n) Z Q:=by obtain⟨f,O,e,q⟩:=k;exact⟨f,O,by rw[G5,h];exact e,q⟩
theorem Wp.sq(k:Wp m Z λf U=>f=.nx/\Wp n U Q):Wp (av m n) Z Q:=by obtain⟨f,U,e,rfl,R,Z',j,q⟩:=k;exact⟨R,Z',by rw[G5,e];exact j,q⟩
theorem Wp.en{f:Fl}(h:m Z=some (f,U))(q:Q f U):Wp m Z Q:=⟨_,_,h,q⟩
theorem Wp.mono{H:Fl->List Sl->Prop}(k:Wp m Z Q)(h:∀f U,Q f U->H f U):Wp m Z H:=by obtain⟨f,U,e,q⟩:=k;exact⟨f,U,e,h f U q⟩
theorem Wp.ft{t:Mi Bool}(h:t Z=some (.ok true,U))(k:Wp m U Q):Wp (f9 t m n) Z Q:=by obtain⟨f,O,e,q⟩:=k;exact⟨f,O,by rw[Pm,h];exact e,q⟩
theorem Wp.fr{H:Mi (List A)}{as:List A}(P:Nat->List Sl->Prop)(h:H Z=some (.ok as,U))(h0:P 0 U)(u:∀i a Z,as[i]?=some a->P i Z->∃U,G a Z=some U/\Wp b U λf Z'=>(f=.nx\/f=.ct)/\P (i+1) Z')(j:∀O,P as.length O->Q .nx O):Wp (dh H G b) Z Q:=by
 obtain⟨O,h1,h2⟩:=Cd (G:=G) (b:=b) (as:=as) P h0 (λi a Z ha p=>by
  obtain⟨U,g,f,Z',e,hf,C⟩:=u i a Z ha p;refine⟨U,Z',g,?_,C⟩;rcases hf with rfl|rfl
  .exact .inl e
  .exact .inr e)
 exact⟨_,O,by rw[Hm,h];exact h1,j O h2⟩
theorem Wp.PK{H:Mi (List A)}(as:List A)(P:List Sl->Prop)(h:H Z=some (.ok as,U))(h0:P U)(u:∀a∈as,∀Z,P Z->∃U,G a Z=some U/\Wp b U λf Z'=>(f=.nx\/f=.ct)/\P Z')(j:∀O,P O->Q .nx O):Wp (dh H G b) Z Q:=
 Wp.fr (λ_=>P) h h0 (λ_ a Z ha p=>u a (SY ha) Z p) j
theorem Wp.df{loc:Nat}(k:Wp m (Z++S0 loc .un) λf O=>match f with | .nx=>Q (.rt (.fr .non)) O | .rt s=>Q (.rt s) O | .ex x=>Q (.ex x) O|_=>False):Wp (bf loc m) Z Q:=by
 obtain⟨f,O,e,q⟩:=k;unfold Wp;rw[O5,e];cases f with
 |nx=>exact⟨_,_,rfl,q⟩
 |rt s=>exact⟨_,_,rfl,q⟩
 |ex x=>exact⟨_,_,rfl,q⟩
 |bk=>exact q.elim
 |ct=>exact q.elim
theorem Val.of{as:List A}{a:A}(k:Wp f (as.map Sl.fr) λg _=>g=.rt (.fr a)):Val f as a:=by obtain⟨g,O,e,rfl⟩:=k;exact⟨O,e⟩
theorem eE.of{as:List A}(k:Wp f (as.map Sl.fr) λg _=>g=.rt (.lv o)):eE f as o:=by obtain⟨g,O,e,rfl⟩:=k;exact⟨O,e⟩
theorem eG.of{as:List A}{R:Sl->LO->Prop}(k:Wp f (.pv o::as.map Sl.fr) λg Z=>∃s o' U,g=.rt s/\Z=.pv o'::U/\R s o'):∃s o',eG f o as s o'/\R s o':=by obtain⟨g,O,e,s,o',U,rfl,rfl,r⟩:=k;exact⟨s,o',⟨U,e⟩,r⟩
end
def Dt(n:Nat)(a:A):Prop:=∃d,toD a=some d/\D.depth d<=n
def xf(n:Nat)(as:List A):Prop:=∃ds,jN as=some ds/\D.gh ds<=n
theorem Dt.int{n:Nat}(i:Int):Dt n (.int i):=⟨.int i,by rw[toD],by simp[D.depth]⟩
theorem Dt.str{n:Nat}(x:Str):Dt n (.str x):=⟨.str x,by rw[toD],by simp[D.depth]⟩
theorem xf.nil{n:Nat}:xf n []:=⟨[],by rw[jN],by simp[D.gh]⟩
theorem xf.cons{n:Nat}{a:A}{as:List A}(h:Dt n a)(k:xf n as):xf n (a::as):=by obtain⟨d,h1,h2⟩:=h;obtain⟨ds,h3,h4⟩:=k;exact⟨d::ds,by rw[jN,h1,h3],by rw[D.gh];lia⟩
theorem xf.of{n:Nat}:∀{as:List A},(∀a∈as,Dt n a)->xf n as
 |[],_=>.nil
 |a::as,h=>.cons (h a SN) (xf.of λb d=>h b (SE _ d))
theorem Dt.tup{n:Nat}{as:List A}(h:xf n as):Dt (n+1) (.tup as):=by obtain⟨ds,h1,h2⟩:=h;exact⟨.tup ds,by rw[toD,h1],by rw[D.depth];lia⟩
theorem Dt.lst{n:Nat}{as:List A}(h:xf n as):Dt (n+1) (.lst as):=by obtain⟨ds,h1,h2⟩:=h;exact⟨.lst ds,by rw[toD,h1],by rw[D.depth];lia⟩
theorem Dt.nm{n:Nat}(x:Num):Dt (n+1) (nm x):=Dt.tup (.cons (.int _) (.cons (.int _) .nil))
theorem nD{a:A}(h:Dt 40 a):si a a=some true:=by obtain⟨d,h1,h2⟩:=h;unfold si;simp only[h1];rw[if_pos h2,D.mI]
theorem gN(n:Nat):(fS 0 n).length=n:=by simp[fS]
theorem ly{n:Nat}{a:A}(h:(fS 0 n)[i]?=some a):i<n/\a=.int i:=by have hi:=(Sy.mp h).1;rw[gN] at hi;unfold fS at h;rw[SV,U3 hi] at h;simp at h;exact⟨hi,h.symm⟩
variable{P:List Sl->Prop}
section
variable{Z:List Sl}
def QH(i:Nat)(r:Rr)(Z:List Sl):Option (Except Str Rr×List Sl):=match bz r Z with
 |some (.lst zs,U)=>match aF U i with
  |some (.lst xs)=>if xs.length+zs.length<=100000 then some (.ok (.fr .non),setAt U i (.lst (xs++zs))) else none
  |_=>none
 |_=>none
theorem yC{t:Mi Bool}{xs:List A}{f:A->A}(x:∀Z,P Z->aF Z i=some (.lst xs))
  (h:∀a,a∈xs->∀Z,P Z->∃U,G a Z=some U/\∃Z',t U=some (.ok true,Z')/\∃r F,e Z'=some (.ok r,F)/\∃T,bz r F=some (f a,T)/\P T):
  ∀(n j:Nat)(acc:List A)(Z:List Sl),P Z->xs.length<=j+n->j<=xs.length->∃O,dZ i G t e (n+1) j acc Z=some (acc++(xs.drop j).map f,O)/\P O:=by
 intro n;induction n with
 |zero=>
  intro j acc Z hp h1 h2;have b:j=xs.length:=by lia
  subst b;refine⟨Z,?_,hp⟩;unfold dZ;rw[x Z hp];simp
 |succ n l=>
  intro j acc Z hp h1 h2;by_cases b:j=xs.length
  .subst b;refine⟨Z,?_,hp⟩;unfold dZ;rw[x Z hp];simp
  .have hl:j<xs.length:=by lia
   obtain⟨U,d,Z',R,r,F,S,T,I,w⟩:=h xs[j] (TY hl) Z hp;obtain⟨O,Q,L⟩:=l (j+1) (acc++[f xs[j]]) T w (by lia) (by lia);refine⟨O,?_,L⟩;unfold dZ;rw[x Z hp];simp only[SU hl,d,R,S,I];rw[Q,Ti hl,SR,Sw];rfl
theorem yM{m:Nat}{t:Mi Bool}{xs:List A}{f:A->A}(n:∀Z,P Z->aF Z i=some (.lst xs))(hl:xs.length<=100000)
  (h:∀a,a∈xs->∀Z,P Z->∃U,G a Z=some U/\∃Z',t U=some (.ok true,Z')/\∃r F,e Z'=some (.ok r,F)/\∃T,bz r F=some (f a,T)/\P T)(hp:P (Z++S0 m .un)):
  ∃O,dy m i G t e Z=some (.ok (.nw (.lst (xs.map f))),O.take Z.length)/\P O:=by
 obtain⟨O,w,L⟩:=yC n h 100000 0 [] _ hp (by lia) (by lia);refine⟨O,?_,L⟩;unfold dy;rw[w];simp
end
variable{ms:Mi (List Rr)}{rs:List Rr}{b:Bool}
section
variable{α β:Type}{Z S U Z' F:List Sl}{m n mk:Mi Rr}{t u:Mi Bool}{x y r rk:Rr}
theorem bk{m:Mi α}{f:α->Mi β}{x:α}{q:Option (Except Str β×List Sl)}(h:m Z=some (.ok x,U))(k:f x U=q):aW m f Z=q:=by unfold aW;rw[h];exact k
theorem sk{m:Mi α}{f:α->Ms}{x:α}{q:Option (Fl×List Sl)}(h:m Z=some (.ok x,U))(k:f x U=q):c8 m f Z=q:=by unfold c8;rw[h];exact k
theorem ah{das:List A}(h:ms Z=some (.ok rs,U))(c:fh f das rs U=some (.ok r,Z')):bQ f das ms Z=some (.ok r,Z'):=bk h c
theorem ag(h:m Z=some (.ok x,U))(k:ms U=some (.ok rs,Z')):bx m ms Z=some (.ok (x::rs),Z'):=bk h (bk k rfl)
theorem aj{f:A->A->Option Rr}(h:m Z=some (.ok x,U))(k:n U=some (.ok y,Z'))(o:gq f x y Z'=some (.ok r,F)):aD f m n Z=some (.ok r,F):=bk h (bk k o)
theorem bq{f:A->Option Rr}(h:m Z=some (.ok x,U))(o:Qd f x U=some (.ok r,Z')):d0 f m Z=some (.ok r,Z'):=bk h o
theorem cZ(h:m Z=some (.ok x,U))(o:RW x U=some (.ok r,Z')):kT m Z=some (.ok r,Z'):=bk h o
theorem bD(h:ms Z=some (.ok rs,U))(o:tupK rs U=some (.ok r,Z')):bC ms Z=some (.ok r,Z'):=bk h o
theorem d9(h:ms Z=some (.ok rs,U))(o:lstK rs U=some (.ok r,Z')):cS ms Z=some (.ok r,Z'):=bk h o
theorem kG{das:List A}(h:ms Z=some (.ok rs,U))(c:tu cn f das rs U=some (.ok r,Z')):hW cn f das ms Z=some (.ok r,Z'):=bk h c
theorem gW(h:m Z=some (.ok x,U))(c:OE cn mn x U=some (.ok r,Z')):bO cn mn m Z=some (.ok r,Z'):=bk h c
theorem aC(h:m Z=some (.ok (.fr (.bl b)),U)):ao m Z=some (.ok b,U):=bk h rfl
theorem c5(h:t Z=some (.ok b,U)):gZ t Z=some (.ok (!b),U):=bk h rfl
theorem dr(h:t Z=some (.ok false,U))(k:u U=some (.ok b,Z')):su t u Z=some (.ok b,Z'):=bk h k
theorem Dy(h:t Z=some (.ok false,U)):rS t u Z=some (.ok false,U):=bk h rfl
theorem Fc(h:t Z=some (.ok true,U))(k:u U=some (.ok b,Z')):rS t u Z=some (.ok b,Z'):=bk h k
theorem cz(h:m Z=none)(k:n Z=some (.ok r,U)):bg m n Z=some (.ok r,U):=by unfold bg;rw[h];exact k
theorem cq(h:m Z=some (.ok r,U)):bg m n Z=some (.ok r,U):=by unfold bg;rw[h]
theorem vA(h:m Z=some (.ok r,U))(k:Ee i r U=some (.nx,Z')):aK i m Z=some (.nx,Z'):=sk h k
theorem mD(h:m Z=some (.ok r,S))(d:EW S i=true)(hk:mk S=some (.ok rk,U))(k:dK i r rk U=some (.nx,Z')):kg i mk m Z=some (.nx,Z'):=sk h ((if_pos d).trans (sk hk k))
theorem aO{f:Fl}(h:m Z=some (.ok r,U))(k:Rg r U=some (f,Z')):bc m Z=some (f,Z'):=sk h k
theorem dM(h:m Z=some (.ok r,U)):bA m Z=some (.nx,U):=sk h rfl
theorem O7{a:Sl}(h:wA r Z=some (a,U))(k:U[i]?=some s)(hn:np s=true):Ee i r Z=some (.nx,U.set i a):=by unfold Ee;rw[h];dsimp only;rw[MV,k];dsimp only;rw[if_pos hn]
theorem Fi{a:A}{B:A}{kvs:List (Key×A)}{q:Key}(h:bz r Z=some (a,U))(h1:res U rk=some B)(h2:aF U i=some (.dic kvs))(h3:iu B=some q)(hl:kvs.length<=100000):dK i r rk Z=some (.nx,setAt U i (.dic (iQ kvs q a))):=by unfold dK;rw[h];dsimp only;rw[h1,h2];dsimp only;rw[h3];dsimp only;rw[if_pos hl]
end
end M
namespace W
open PySem L2
noncomputable def A5(o:Obj):Bool:=match o.data with
 | .freed=>false
 |_=>true
def pD:List Nat->List Obj->So->So
 |a::as,o::os,K=>pD as os (match A5 o with|true=>(a,o)::K|false=>K)
 |_,_,K=>K
def jf(h:Heap):So:=match h.get? mainGlobals with
 |some o=>(mainGlobals,o)::pD (T9 h.objs.size) h.objs.toList []
 |none=>[]
theorem qz{o:Obj}{a:Addr}:∀{K:So},K.lookup a=some o->(a,o)∈K
 |(b,u)::K,e=>by
  rw[SX] at e;split at e
  .rename_i q;cases e;rw[beq_iff_eq.mp q];exact SN
  .exact SE _ (qz e)
theorem ue{h:Heap}:∀{as:List Nat}{os:List Obj}{K:So},(∀(i a:Nat)(o:Obj),as[i]?=some a->os[i]?=some o->h.objs[a]?=some o)->(∀(a:Nat)(o:Obj),(a,o)∈K->h.get? a=some o)->∀a o,(a,o)∈pD as os K->h.get? a=some o
 |[],_,K,_,k=>by unfold pD;exact k
 |_::_,[],K,_,k=>by unfold pD;exact k
 |a::as,o::os,K,e,k=>by
  unfold pD;refine ue (λi b u h1 h2=>e (i+1) b u h1 h2) ?_;cases c:A5 o with
  |false=>exact k
  |true=>
   intro b u m;rcases SO.mp m with m|m
   .cases m;unfold Heap.get?;rw[e 0 a o rfl rfl];obtain⟨S,T,f,q⟩:=o;cases f<;>first|rfl|cases c
   .exact k b u m
theorem n8(h:Heap):(jf h).In h:=λa o e=>by
 have m:=qz e;unfold jf at m;split at m
 .rename_i o' H;rcases SO.mp m with m|m
  .cases m;exact H
  .refine ue (λi b u h1 h2=>?_) (λ_ _ q=>by cases q) a o m;have hi:i<h.objs.size:=(Sy.mp h1).1 |> λq=>by rwa[V2] at q
   rw[U3 hi] at h1;cases h1;rw[<-UR];exact h2
 .cases m
noncomputable def NO(K:So)(n:Str):Option (Str×Str×Arguments×FuncBody×Scope×Addr×List (Str×Addr)×Value×Addr×Bool):=
 match WG K mainGlobals n with
 | some (some (.ref f))=>(match K.lookup f with
  |some ⟨_,_,.func d,_⟩=>some (d.name,d.qualname,d.params,d.body,d.scope,d.globals,d.closure,d.defaults,d.builtins,Vt K d.code n&&TV K (.ref f))
  | _=>none)
 |_=>none
def O3(n:Str)(st:Stmt):Option (Str×Str×Arguments×FuncBody×Scope×Addr×List (Str×Addr)×Value×Addr×Bool):=some (n,n,dP st,.stmts (fU st),bp st,mainGlobals,[],.none,builtinsNs,true)
noncomputable def Q3(K:So)(a:Addr)(i j:Int):Bool:=match K.lookup a with
 | some ⟨.type "tuple",none,.seq its _,_⟩=>(match its.toList with
  |[.int x _,.int y _]=>x==i&&y==j
  | _=>false)
 |_=>false
def Mr(ds:List (Str×Stmt))(q:So->Bool)(K:So):=(ds.map λx=>NO K x.1,q K)
def Mn(ds:List (Str×Stmt)):List (Option (Str×Str×Arguments×FuncBody×Scope×Addr×List (Str×Addr)×Value×Addr×Bool))×Bool:=(ds.map λx=>O3 x.1 x.2,true)
def hk(ds:List (Str×Stmt))(q:So->Bool):XJ where
 α:=List (Option (Str×Str×Arguments×FuncBody×Scope×Addr×List (Str×Addr)×Value×Addr×Bool))×Bool
 obs:=λs=>Mr ds q (jf s.heap)
 val:=λ_=>Mn ds
 says:=λ_ h=>∃K:So,Mr ds q K=Mn ds/\K.In h
 of:=λ_ s e=>⟨jf s.heap,e,n8 _⟩
 keeps:=λ_ _ _ ⟨K,e,i⟩ k=>⟨K,e,i.keeps k⟩
noncomputable def OG(p:Program):List Stmt:=p.main.body.filter λs=>match s with | .FunctionDef n ..=>n==("law" : Str)|_=>false
noncomputable def Pj:Stmt->List Str
 | .FunctionDef n ..=>[n]
 | .ClassDef n ..=>[n]
 | .Assign [.Name n _] _ _=>[n]
 |_=>[]
def NK(p:Program):Program:={ p with main:={ p.main with body:=OG p } }
def xb(p:Program):List Str:=(p.main.body.flatMap Pj).filter λn=>n != ("law" : Str)
open PySem PySem.W PyProof.Rows
noncomputable abbrev Hy:=YF
noncomputable abbrev vo:=YG
noncomputable abbrev MR:=YH
noncomputable abbrev Cs:=YI
noncomputable abbrev HS:=YJ
noncomputable abbrev HK:=YK
noncomputable abbrev CJ:=YL
theorem BQ:denote=Hy:=YM
theorem qy:treeTable=vo:=YN
theorem ED:stepOk=MR:=YO
theorem xJ:stepT=Cs:=YQ
theorem CO:importEnds=HS:=YR
theorem Bf:fenceModules?=HK:=YS
theorem yH:openSeen=CJ:=YT
def Bp(p:Program)(w:World)(Z:Nat)(Y:Option Value):Nat->SharedT->Thread->Option SharedT
 |0,_,_=>none
 |m+1,s,t=>match through t with
  |true=>some s
  |false=>match MR Z Y t with
   |false=>none
   |true=>match Cs (Hy vo) p w s t with
    |some (s',t')=>Bp p w Z Y m s' t'
    |none=>none
theorem wK{p:Program}{w:World}{Z:Nat}{Y:Option Value}:∀{m:Nat}{s s2:SharedT}{t:Thread},Bp p w Z Y m s t=some s2->topRun treeTable p w Z Y m s.abs t=some s2.abs
 |0,_,_,_,e=>by cases e
 |m+1,s,s2,t,e=>by
  unfold Bp at e;rw[<-ED,<-xJ,<-BQ,<-qy] at e;unfold topRun;cases L:through t with
  |true=>rw[L] at e;cases e;rfl
  |false=>
   rw[L] at e;simp only at e ⊢;cases B:stepOk Z Y t with
   |false=>rw[B] at e;cases e
   |true=>
    rw[B] at e;simp only at e ⊢;cases es:stepT (denote treeTable) p w s t with
    |none=>rw[es] at e;cases e
    |some q=>obtain⟨r,I⟩:=q;rw[es] at e;rw[stepT_spec es];exact wK e
noncomputable def Mv:List Obj->Nat->BT->Option BT
 |[],_,t=>some t
 |o::os,n,t=>match ((t.ins n o).get n).isSome with
  |true=>Mv os (n+1) (t.ins n o)
  |false=>none
theorem CP(l:Life):∀{os:List Obj}{n:Nat}{t t':BT},Mv os n t=some t'->absHeap t' (n+os.length) l=⟨(absHeap t n l).objs++os.toArray,l⟩
 |[],n,t,t',e=>by cases e;show absHeap t n l=⟨(absHeap t n l).objs++#[],l⟩;rw[Array.append_empty];rfl
 |o::os,n,t,t',e=>by
  unfold Mv at e;cases H:((t.ins n o).get n).isSome with
  |false=>rw[H] at e;cases e
  |true=>
   rw[H] at e;have i:=CP l e;rw[absHeap_ins H] at i;have j:n+1+os.length=n+(o::os).length:=by rw[SF];lia
   rw[<-j,i];show Heap.mk (((absHeap t n l).objs.push o)++os.toArray) l=_;simp
theorem By{h:Heap}{t:BT}(e:Mv h.objs.toList 0 .nil=some t):absHeap t h.objs.size h.life=h:=by have i:=CP h.life e;rw[Yo,Tv] at i;rw[i];obtain⟨objs,l⟩:=h;show Heap.mk (#[]++objs.toList.toArray) l=_;simp
def J5(p:Program)(w:World)(N:Nat)(s₀:Shared):Option Shared:=match s₀.heap.isNs mainGlobals&&s₀.gens.size==0 with
 |true=>match Mv s₀.heap.objs.toList 0 .nil with
  |some t=>(Bp p w s₀.heap.objs.size (s₀.heap.nsMap mainGlobals "__annotations__") N ⟨t,s₀.heap.objs.size,s₀.heap.life,s₀.gens,s₀.drawn,s₀.toks,s₀.os⟩ (topStub p)).bind λq=>match staticsOk (importedModules p.main.body) s₀.heap q.abs.heap&&namesBound p q.abs.heap&&gensDone q.abs&&laidKept s₀.heap q.abs.heap with
   |true=>some q.abs
   |false=>none
  |none=>none
 |false=>none
variable{p:Program}{w:World}{N:Nat}{s:Shared}
theorem Fw{s₀:Shared}(e:J5 p w N s₀=some s):topFrom treeTable p w N s₀=some s:=by
 unfold J5 at e;unfold topFrom;cases F:s₀.heap.isNs mainGlobals&&s₀.gens.size==0 with
 |false=>rw[F] at e;cases e
 |true=>
  rw[F] at e;simp only at e ⊢;cases j:Mv s₀.heap.objs.toList 0 .nil with
  |none=>rw[j] at e;cases e
  |some t=>
   rw[j] at e;simp only at e;cases D:Bp p w s₀.heap.objs.size (s₀.heap.nsMap mainGlobals "__annotations__") N ⟨t,s₀.heap.objs.size,s₀.heap.life,s₀.gens,s₀.drawn,s₀.toks,s₀.os⟩ (topStub p) with
   |none=>rw[D] at e;cases e
   |some q=>
    rw[D] at e;have k:=wK D;have I:XW ⟨t,s₀.heap.objs.size,s₀.heap.life,s₀.gens,s₀.drawn,s₀.toks,s₀.os⟩=s₀:=by unfold XW;rw[By j]
    rw[I] at k;rw[k];exact e
def wH(p:Program)(w:World)(N:Nat):Option Shared:=((HS vo (opening p) w N (start (opening p)).1 (start (opening p)).2).bind (HK p)).bind (J5 p w N)
theorem AV(e:wH p w N=some s):openEnds treeTable p w N=some s:=by
 unfold wH at e;unfold openEnds fencedOpening;rw[<-CO,<-qy,<-Bf] at e;cases F:(importEnds treeTable (opening p) w N (start (opening p)).1 (start (opening p)).2).bind (fenceModules? p) with
 |none=>rw[F] at e;cases e
 |some s0=>rw[F] at e;exact Fw e
theorem z8{q:Program}{loose:List Str}{Xt:Shared->Bool}{α:Type}{Yf:Shared->α}{Ya:World->α}
  (h:∀w,Option.map (λs=>(CJ q loose (importedModules p.main.body) Xt true s,Yf s)) (wH p w N)=some (openGood q loose,Ya w)):LeftO p q loose Xt Yf Ya N:=λw=>by
 have h:=h w;rw[<-yH] at h;cases e:wH p w N with
 |none=>rw[e] at h;cases h
 |some s=>rw[e] at h;rw[AV e];exact h
end W
namespace L2
open PySem PySem.Spec PyProof.Rows
section
variable{P:Program}{w:World}{K:So}{mg:Str->Option Value}{base:Heap}{dV:Value}
theorem qW.RP{CX:sx}{x qual:Str}{st:Stmt}{f:Addr}{fd:FuncData}{N ps:List Str}{k:Nat}{sp:Sp}(F:qW K x qual st f fd dV)(S:ku N ps (bp st))(len:∀vs H Q E,sp vs H Q E->vs.length=ps.length)
  (X:∀(cdv:Value)(A:Around)(outer:List Env)(s:Shared)(H:Hp)(vs:List V)(Q:VK)(E:XK),cQ k (A.deeper (envOfC qual (bp st) s.heap.objs.size f cdv))->sp vs H Q E->
   ∃t,uq (uS CX P w K mg base N qual (bp st) f cdv A outer s H E) (fU st) t/\t { nx:=λ_ H'=>Q .non H',rt:=Q } (start N vs) H):dq P w K mg base CX (k+1) f fd ps sp:=by
 obtain⟨oc,od,kV,doc,pm,an,cdv,ct,osl,rfl,L,T⟩:=F.ex;exact Nv L T S len λA outer s H vs Q E y U=>X cdv A outer s H vs Q E y U
end
end L2
namespace M
open PySem L2
section
variable{X:Cx}{E:XK}
theorem F4{CX:sx}{P:Program}{w:World}{K:So}{mg:Str->Option Value}{base:Heap}{dV:Value}{x qual:Str}{st:Stmt}{f:Addr}{fd:FuncData}{N ps:List Str}{k:Nat}{m:Ms}(F:qW K x qual st f fd dV)(S:ku N ps (bp st))
  (d:∀(cdv:Value)(A:Around)(outer:List Env)(s:Shared)(H:Hp)(E:XK),cQ k (A.deeper (YU qual (bp st) s.heap.objs.size f cdv))->
   yF (uS CX P w K mg base N qual (bp st) f cdv A outer s H E) E (fU st) m):dq P w K mg base CX (k+1) f fd ps (jg ⟨K,mg,P,w⟩ ps.length (bf (N.length-ps.length) m)):=
 F.RP S (λvs H Q E h=>h.1) λcdv A outer s H vs Q E y h=>by
  obtain⟨hn,c,Z,f,O,L,I,i,b,em,q⟩:=h;refine⟨_,(d cdv A outer s H E y).p,?_⟩;have bs:=b.start N I;rw[hn] at bs;unfold bf at em;cases e:m (Z++S0 (N.length-ps.length) .un) with
  |none=>simp only[e] at em;cases em
  |some p=>
   obtain⟨u,U⟩:=p;simp only[e] at em;refine⟨c,_,[],[],u,U,L,bs,e,?_⟩;have bk:∀{Z0:St}{H':Hp}{J:St}{T:List Sl},Bd c Z0 H' U J T->Bd c (vs.map some) H' (ay vs.length U) J T:=λt=>by have:=t.back;rw[I,Ss] at this;exact this
   cases u with
   |nx=>cases em;exact λZ0 H' t=>q .non H' (λo z=>by cases z) ((bk t).push λ_=>.non)
   |rt s=>cases em;exact λv Z0 H' B t=>q v H' B (bk t)
   |ex x=>cases em;exact λC Z0 H' hm t=>q C H' hm (bk t)
   |bk=>cases em
   |ct=>cases em
noncomputable def GA:sx:=λ_ _ _ _ _ _=>False
noncomputable def fz:Ms:=λ_=>none
theorem FP{s:Stmt}:JS X E s fz:=⟨λpins s Y H D I h=>by obtain⟨c,Z,B,θ,f,O,U,b,em,q⟩:=h;cases em⟩
end
end M
namespace W
open PySem L2
theorem xH{CX:sx}{l:Xl}{n k:Nat}{q:Program}{loose:List Str}{XP:(Str->Option Value)->Heap->Prop}{YP:World->Heap->Prop}{d:DefRec}{x:Str}{sp:So->Sp}
  (hn:l.most=some n)(p:n<=sizeLine)(I:d.params.defaults=[])(A:cQ k callerA)
  (F:∀(w:World)(mg:Str->Option Value)(X:Addr)(h:Heap),YP w h->h.Ns mainGlobals mg->mg d.name=some (.ref X)->
   ∃K:So,K.In h/\∃fd:FuncData,(∀(s:Shared)(u:Value),BindsTo s fd ⟨[u],[]⟩ [(x,u)])/\∀base:Heap,K.In base->base.Ns mainGlobals mg->dq l.prog w K mg base CX k X fd [x] (sp K))
  (C:∀l H s e s',CX l H s (λ_ _ _=>False) e s'->False) (U:∀(K:So)(H:Hp)(a:Addr)(ns:List Int),ns.length<=n->Ie H->gI K H a (ns.map V.int)->sp K [.ref a] H (λv _=>v=.bl true) λ_ _ _=>False):
  XB q loose XP YP l.row.toRowW d [] (λf vs=>Xe f vs):=by
 refine Att.sH hn I λw s₀ Z mg mb X o pm cd doc a vs ns G Y J hd t N B Q y E=>?_;obtain⟨K,m,fd,i,r⟩:=F w mg X _ Y G.T.g N;exact CV m G.T.g G.T.b G.T.builtins G.T.nolimit E B Q (SW y p) A r i (λH c O=>U K H a ns y c O) λH e s' z=>C _ _ _ _ _ z
end W
namespace M
open PySem L2
structure FI where
 n:Nat
 m:Ms
 mu:List Bool
 df:List A
 hf:Bool
structure Tb where
 fns:List (Str×FI)
 cst:List (Str×A)
 exs:List Str
 kit:List (Str×List (Str×Bool))
 exm:List (Str×List Str)
 fld:List (Str×List Str)
 ini:List (Str×FI)
 mts:List (Str×Str×FI)
structure Sc where
 N:List Str
 nm:List (Str×NameKind)
 di:List Str
 ca:List Str
 hd:Bool
 lv:List Str
 tp:Bool:=false
noncomputable def RM(s:Sc):Sc:={ s with tp:=false }
noncomputable def aq{α β:Type}(x:Option α)(f:α->Option β):Option β:=match x with
 |some a=>f a
 |none=>none
noncomputable def eB{α:Type}(b:Bool)(x:Option α):Option α:=match b with
 |true=>x
 |false=>none
variable{α:Type}
theorem af{β:Type}{x:Option α}{f:α->Option β}{y:β}(h:aq x f=some y):∃a,x=some a/\f a=some y:=by
 cases x with
 |none=>cases h
 |some a=>exact⟨a,rfl,h⟩
theorem aA{b:Bool}{x:Option α}{y:α}(h:eB b x=some y):b=true/\x=some y:=by
 cases b with
 |false=>cases h
 |true=>exact⟨rfl,h⟩
def sj(s:Sc)(x:Str)(k:NameKind):Bool:=s.nm.lookup x==some k
def F0(s:Sc)(x:Str):Bool:=sj s x .local || sj s x .cell || sj s x .free
def vD(s:Sc)(x:Str):Bool:=sj s x .local || sj s x .cell
noncomputable def okN(x:Str):Bool:=!(x==("__debug__" : Str))&&!(x==("__classdict__" : Str))
def Fd(s:Sc)(x:Str):Bool:=sj s x .globalImplicit&&okN x
def p8(x:Str):List Str->Nat->Option Nat
 |[],_=>none
 |y::ys,i=>if x==y then some i else p8 x ys (i+1)
theorem nI{x:Str}:∀{N:List Str}{k i:Nat},p8 x N k=some i->∃j,i=k+j/\N[j]?=some x
 |[],_,_,h=>by cases h
 |y::ys,k,i,h=>by
  unfold p8 at h;split at h
  .rename_i e;cases h;exact⟨0,rfl,by rw[beq_iff_eq.mp e];rfl⟩
  .obtain⟨j,F,J⟩:=nI h;exact⟨j+1,by lia,by simpa using J⟩
def slot(s:Sc)(x:Str):Option Nat:=eB (F0 s x&&okN x) (p8 x s.N 0)
def jD(s:Sc)(x:Str):Option Nat:=eB (vD s x&&okN x) (p8 x s.N 0)
noncomputable def Du:List Str:=["len", "isinstance", "abs", "max", "min", "int", "bool", "str", "tuple", "list", "dict", "range", "ValueError", "sorted", "all", "zip", "set", "sum", "enumerate", "any", "reversed"]
def oO(P:Program)(w:World)(K:So)(mg:Str->Option Value)(fd:FuncData)(ps:List Str)(df:List A):Prop:=∀j,j<=df.length->∃ds dvs,Binds K fd ps ds/\Vals dvs ds/\∀G,bR ⟨K,mg,P,w⟩ G dvs (df.drop j)
noncomputable def pz(fi:FI)(n:Nat):List A:=fi.df.drop (fi.df.length-(fi.n-n))
variable{P:Program}{w:World}{K:So}{mg:Str->Option Value}{fd:FuncData}{ps:List Str}
theorem oO.of{fi:FI}(h:oO P w K mg fd ps fi.df)(n:Nat):∃ds dvs,Binds K fd ps ds/\Vals dvs ds/\∀G,bR ⟨K,mg,P,w⟩ G dvs (pz fi n):=h _ (Y1 _ _)
noncomputable def mY(tb:Tb)(f:Str):List Str:=(tb.fld.filter λp=>p.2.contains f).map (·.1)
noncomputable def Hq(tb:Tb)(m:Str):List (Str×FI):=tb.mts.filterMap λp=>if p.1==m then some p.2 else none
structure Gd(tb:Tb)(k:Nat)(P:Program)(w:World)(K:So)(mg:Str->Option Value)(base:Heap):Prop where
 fn:∀x f,tb.fns.lookup x=some f->∃a fd ps,dq P w K mg base GA k a fd ps (jg ⟨K,mg,P,w⟩ f.n f.m)/\mg x=some (.ref a)/\TV K (.ref a)=true/\oO P w K mg fd ps f.df
 cs:∀x a,tb.cst.lookup x=some a->∃v u,mg x=some u/\RelV v u/\∀G,RA ⟨K,mg,P,w⟩ G v a
 bl:∀x∈Du,mg x=none
 fl:∀f c C,(mY tb f).contains c=true->mg c=some (.ref C)->lQ K C/\dw K C f
 im:∀c f,tb.ini.lookup c=some f->∃C a fd ps j,j+1<=k/\dq P w K mg base GA j a fd ps (jg ⟨K,mg,P,w⟩ f.n f.m)/\mg c=some (.ref C)/\Mk K C a/\oO P w K mg fd ps f.df
 mt:∀m c f,(m,c,f)∈tb.mts->∃C a fd ps,dq P w K mg base GA k a fd ps (jg ⟨K,mg,P,w⟩ f.n f.m)/\mg c=some (.ref C)/\lQ K C/\Meth K C m a/\oO P w K mg fd ps f.df
structure Sit(tb:Tb)(k:Nat)(X:Cx)(E:XK)(s:Sc):Prop where
 n:X.N=s.N
 nd:s.N.Nodup
 gl:∀x,s.nm.lookup x=some .globalImplicit->Gl X x
 vs:∀x,F0 s x=true->o9 X.env.scope x
 lo:∀x,vD s x=true->Loc X.env.scope x
 lc:∀x,s.nm.lookup x=some .local->X.env.scope.names.lookup x=some .local
 ce:∀x,s.nm.lookup x=some .cell->X.env.scope.names.lookup x=some .cell
 fx:∀x,vD s x=true->X.fn x=true\/X.env.scope.names.lookup x=some .local
 cm:s.hd=false->X.calm=true
 rm:s.hd=false->cQ k X.A
 ps:s.hd=false->Passes GA X E
 gd:Gd tb k X.prog X.w X.K X.mg X.base
variable{x:Str}
section
variable{tb:Tb}{k:Nat}{X:Cx}{E:XK}{s:Sc}
theorem rC(h:okN x=true):iw x/\sv x:=by unfold okN at h;rw[Sn] at h;exact⟨by simpa using h.1,by simpa using h.2⟩
theorem Sit.slot(S:Sit tb k X E s){i:Nat}(h:M.slot s x=some i):X.N[i]?=some x/\o9 X.env.scope x/\iw x/\sv x:=by
 obtain⟨h1,h2⟩:=aA h;rw[Sn] at h1;obtain⟨j,F,J⟩:=nI h2;obtain rfl:i=j:=by lia
 exact⟨by rw[S.n];exact J,S.vs x h1.1,(rC h1.2).1,(rC h1.2).2⟩
theorem Sit.jD(S:Sit tb k X E s){i:Nat}(h:M.jD s x=some i):X.N[i]?=some x/\Loc X.env.scope x/\iw x/\(X.fn x=true\/X.env.scope.names.lookup x=some .local):=by
 obtain⟨h1,h2⟩:=aA h;rw[Sn] at h1;obtain⟨j,F,J⟩:=nI h2;obtain rfl:i=j:=by lia
 exact⟨by rw[S.n];exact J,S.lo x h1.1,(rC h1.2).1,S.fx x h1.1⟩
theorem Sit.glob(S:Sit tb k X E s)(h:Fd s x=true):Gl X x/\iw x:=by unfold Fd sj at h;rw[Sn,beq_iff_eq] at h;exact⟨S.gl x h.1,(rC h.2).1⟩
end
noncomputable def notStar:Expr->Bool
 | .Starred _ _=>false
 |_=>true
variable{e:Expr}
theorem aI(h:notStar e=true)(es:List Expr)(env:Env):starEach (e::es) env=(false,eval e env)::starEach es env:=by cases e<;>first|rfl|cases h
theorem fF{env:Env}{pos:Pos}:∀{es:List Expr},es.all notStar=true->(backTo pos (starEach es env)).any (·.1)=false
 |[],_=>rfl
 |e::es,h=>by rw[S2,Sn] at h;rw[aI h.1];show (false || (backTo pos (starEach es env)).any (·.1))=false;rw[fF h.2];rfl
noncomputable def kN:Expr->Bool
 | .ListComp _ _ _ _=>false
 | .SetComp _ _ _ _=>false
 | .DictComp _ _ _ _ _=>false
 |_=>true
theorem kQ(h:kN e=true)(t:Option Expr)(l:Nat)(env:Env):swapsWith e t l env=pure false:=by cases e<;>first|rfl|cases h
noncomputable def gY:Expr->Bool
 | .Set _ _ _=>false
 |_=>true
theorem jJ(h:gY e=true)(env:Env)(x:Value):foldedSetIterable e env x=pure x:=by cases e<;>first|rfl|cases h
noncomputable def plainT:Expr->Bool
 | .UnaryOp _ _ _=>false
 | .BoolOp _ _ _=>false
 | .IfExp _ _ _ _=>false
 | .Compare _ _ _ _=>false
 |_=>true
theorem uE(h:plainT e=true)(env:Env):∀I,isTrue e env I=(do let v <- I;standAt e.pos;holding [v] (truthy v)):=by intro I;cases e<;>first|rfl|cases h
noncomputable def iC:Expr->Bool
 | .Slice _ _ _ _=>false
 |_=>true
theorem vg(h:iC e=true):mJ e:=by intro o i;cases e<;>first|rfl|cases h
theorem FL(h:iC e=true):AI e:=by intro o i;cases e<;>first|rfl|cases h
variable{op:CmpOp}
theorem i8(h:gY e=true):behindInMarks op e=false:=by cases e<;>first|rfl|cases h
theorem wb{env:Env}:∀es:List Expr,(assignEach es env).length=es.length
 |[]=>rfl
 |e::es=>by cases e<;>(show (_::assignEach es env).length=_;rw[SF,SF,wb es])
theorem tV{env:Env}:∀es:List Expr,es.all notStar=true->(assignEach es env).findIdx? (·.1)=none
 |[],_=>rfl
 |e::es,h=>by
  rw[S2,Sn] at h;have l:=tV (env:=env) es h.2;have F:assignEach (e::es) env=(false,assign e env)::assignEach es env:=by cases e<;>first|rfl|cases h.1
  rw[F,List.findIdx?_cons];simp[l]
variable{env:Env}{es:List Expr}
theorem BV(h:notStar e=true):(assignEach (e::es) env).map (·.2)=assign e env::(assignEach es env).map (·.2):=by cases e<;>first|rfl|cases h
variable{b:Expr}{m q:Mi Rr}{pos p:Pos}{f:Str}
section
variable{tb:Tb}{k:Nat}{X:Cx}{E:XK}{s:Sc}
def Bi(F:Expr->Option (Mi Rr)):List Expr->Option (Mi (List Rr))
 |[]=>some dz
 |e::es=>eB (notStar e) (aq (F e) λm=>aq (Bi F es) λn=>some (bx m n))
def GK(F G:Expr->Option (Mi Rr)):List Expr->List Bool->Option (Mi (List Rr))
 |[],_=>some dz
 |e::es,b::bs=>eB (notStar e) (aq (match b with|true=>F e|false=>G e) λm=>aq (GK F G es bs) λn=>some (bx m n))
 |_::_,[]=>none
def NL(m:Mi (List Rr))(n:Nat):Prop:=∀Z rs O,m Z=some (.ok rs,O)->rs.length=n
theorem mL{F:Expr->Option (Mi Rr)}(h:∀e m,F e=some m->JE X E e m):∀{es:List Expr}{m:Mi (List Rr)},Bi F es=some m->JA X E es m/\NL m es.length/\es.all notStar=true
 |[],m,e=>by cases e;exact⟨vv,zT,rfl⟩
 |a::es,m,e=>by obtain⟨h1,e⟩:=aA e;obtain⟨O,B,e⟩:=af e;obtain⟨p,j,e⟩:=af e;cases e;obtain⟨T,I,q⟩:=mL h j;exact⟨w8 (h _ _ B) T (aI h1 _ _),wa I,by rw[S2,h1,q];rfl⟩
theorem mB{F G:Expr->Option (Mi Rr)}(h:∀e m,F e=some m->JE X E e m)(g:∀e m,G e=some m->JE X E e m):∀{es:List Expr}{bs:List Bool}{m:Mi (List Rr)},GK F G es bs=some m->JA X E es m/\NL m es.length/\es.all notStar=true
 |[],_,m,e=>by cases e;exact⟨vv,zT,rfl⟩
 |_::_,[],m,e=>by cases e
 |a::es,b::bs,m,e=>by
  obtain⟨h1,e⟩:=aA e;obtain⟨O,B,e⟩:=af e;obtain⟨p,j,e⟩:=af e;cases e;obtain⟨T,I,q⟩:=mB h g j;refine⟨w8 ?_ T (aI h1 _ _),wa I,by rw[S2,h1,q];rfl⟩;cases b
  .exact g _ _ B
  .exact h _ _ B
def QD(op:BoolOp)(F:Expr->Option (Mi Rr)):List Expr->Option (Mi Rr)
 |[]=>none
 |[a]=>F a
 |a::b::r=>aq (F a) λm=>aq (QD op F (b::r)) λn=>some (match op with | .And=>ip m n | .Or=>rp m n)
theorem z4{op:BoolOp}{F:Expr->Option (Mi Rr)}{pos:Pos}(h:∀e m,F e=some m->JE X E e m):∀{es:List Expr}{m:Mi Rr},QD op F es=some m->JE X E (.BoolOp op es pos) m
 |[],m,e=>by cases e
 |[a],m,e=>JH (h _ _ e)
 |a::b::r,m,e=>by
  obtain⟨O,B,e⟩:=af e;obtain⟨p,j,e⟩:=af e;have i:=z4 (pos:=pos) h j;cases op
  .cases e;exact Lx (h _ _ B) i
  .cases e;exact Nf (h _ _ B) i
def QF(op:BoolOp)(F:Expr->Option (Mi Bool)):List Expr->Option (Mi Bool)
 |[]=>none
 |[a]=>F a
 |a::b::r=>aq (F a) λm=>aq (QF op F (b::r)) λn=>some (match op with | .And=>rS m n | .Or=>su m n)
theorem zO{op:BoolOp}{F:Expr->Option (Mi Bool)}{pos:Pos}(h:∀e m,F e=some m->JT X E e m):∀{es:List Expr}{m:Mi Bool},QF op F es=some m->JW X E (.BoolOp op es pos) m
 |[],m,e=>by cases e
 |[a],m,e=>by cases op;exact EC (h _ _ e);exact Kj (h _ _ e)
 |a::b::r,m,e=>by
  obtain⟨O,B,e⟩:=af e;obtain⟨p,j,e⟩:=af e;have i:=zO (pos:=pos) h j;cases op
  .cases e;exact Kf (h _ _ B) i
  .cases e;exact Om (h _ _ B) i
def RH(s:Sc)(op:CmpOp)(a b:Expr)(m n:Mi Rr):Option (Mi Rr):=match op with
 | .Eq=>eB (!s.hd) (some (aD gG m n))
 | .NotEq=>eB (!s.hd) (some (aD jc m n))
 | .Lt=>some (aD vc m n)
 | .LtE=>none
 | .Gt=>some (aD IA m n)
 | .GtE=>some (aD Mo m n)
 | .Is=>some (aD (xM false) m n)
 | .IsNot=>some (aD (xM true) m n)
 | .In=>eB (!s.hd&&gY b) (some (aD (bS (bS (bS (gb false) (eS false)) (kE false)) (fP false)) m n))
 | .NotIn=>eB (!s.hd&&gY b) (some (aD (bS (bS (bS (gb true) (eS true)) (kE true)) (fP true)) m n))
theorem Jf(S:Sit tb k X E s){a:Expr}{n:Mi Rr}(h:RH s op a b m n=some q)(ha:JE X E a m)(d:JE X E b n):JE X E (.Compare a [op] [b] pos) q/\JT X E (.Compare a [op] [b] pos) (ao q):=by
 cases op
 case Eq=>obtain⟨h1,h⟩:=aA h;have f:=(S.rm (by simpa using h1)).units;cases h;exact⟨O4 f ha d,NW f ha d⟩
 case NotEq=>obtain⟨h1,h⟩:=aA h;have f:=(S.rm (by simpa using h1)).units;cases h;exact⟨Of f ha d,Oy f ha d⟩
 case Lt=>cases h;exact⟨Pb ha d,MF ha d⟩
 case LtE=>cases h
 case Gt=>cases h;exact⟨Ou ha d,Ol ha d⟩
 case GtE=>cases h;exact⟨MQ ha d,NV ha d⟩
 case Is=>cases h;exact⟨OR ha d,Pq ha d⟩
 case IsNot=>cases h;exact⟨D8 ha d,Fy ha d⟩
 case In=>obtain⟨h1,h⟩:=aA h;rw[Sn] at h1;have f:=tj (S.rm (by simpa using h1.1));cases h;exact⟨Lk f (S.rm (by simpa using h1.1)).units ha d (i8 h1.2),LZ f (S.rm (by simpa using h1.1)).units ha d (i8 h1.2)⟩
 case NotIn=>obtain⟨h1,h⟩:=aA h;rw[Sn] at h1;have f:=tj (S.rm (by simpa using h1.1));cases h;exact⟨DA f (S.rm (by simpa using h1.1)).units ha d (i8 h1.2),DB f (S.rm (by simpa using h1.1)).units ha d (i8 h1.2)⟩
def Qb:CmpOp->Option (Int->Int->Bool)
 | .Lt=>some Qs
 | .LtE=>some Oi
 | .Gt=>some Rj
 | .GtE=>some RK
 |_=>none
theorem C7{p:Int->Int->Bool}(h:Qb op=some p):∃r,d6 X (compareOp op) r/\∀i j H Q,Q (.bl (p i j)) H->r (.int i) (.int j) H Q:=by
 cases op<;>first|(cases h;done)|skip
 .cases h;exact⟨_,xi,Hx⟩
 .cases h;exact⟨_,HX,Hj⟩
 .cases h;exact⟨_,BZ,Ni⟩
 .cases h;exact⟨_,CG,MM⟩
def Q9(f:Str):Option (A->Option Rr):=
 if f==("len" : Str) then some gc else if f==("abs" : Str) then some qZ else if f==("int" : Str) then some Fu else if f==("tuple" : Str) then some hE else
 if f==("list" : Str) then some zu else if f==("sorted" : Str) then some (ph bL bT) else if f==("dict" : Str) then some (ph kW jH) else
 if f==("all" : Str) then some (eJ λbs=>bs.all id) else none
theorem cP(S:Sit tb k X E s)(h:Du.contains x=true):X.mg x=none:=S.gd.bl x (VB.mp h)
theorem L9(S:Sit tb k X E s){g:A->Option Rr}{a:Expr}(h:Q9 f=some g)(N:Fd s f=true)(V:s.hd=false)(u:notStar a=true)(ha:JE X E a m):JE X E (.Call (.Name f p) [a] [] pos) (cb g m):=by
 obtain⟨d,R⟩:=S.glob N;have hc:=S.cm V;have h1:=aI u [] X.env;have h2:(backTo pos (starEach [] X.env)).any (·.1)=false:=rfl;unfold Q9 at h;split at h
 .rename_i z;rw[beq_iff_eq] at z;subst z;cases h;exact vR Co LW d (cP S (by decide +kernel)) Ip ha (by decide +kernel) R h1 h2
 split at h
 .rename_i z;rw[beq_iff_eq] at z;subst z;cases h;exact vR Dg Ii d (cP S (by decide +kernel)) IB ha (by decide +kernel) R h1 h2
 split at h
 .rename_i z;rw[beq_iff_eq] at z;subst z;cases h;exact vS yP J7 d (cP S (by decide +kernel)) AE ha (by decide +kernel) R h1 h2
 split at h
 .rename_i z;rw[beq_iff_eq] at z;subst z;cases h;exact vS pq BK d (cP S (by decide +kernel)) sI ha (by decide +kernel) R h1 h2
 split at h
 .rename_i z;rw[beq_iff_eq] at z;subst z;cases h;exact vS qK Gu d (cP S (by decide +kernel)) xp ha (by decide +kernel) R h1 h2
 split at h
 .rename_i z;rw[beq_iff_eq] at z;subst z;cases h;exact vR (qI hc) yQ d (cP S (by decide +kernel)) xN ha (by decide +kernel) R h1 h2
 split at h
 .rename_i z;rw[beq_iff_eq] at z;subst z;cases h;exact vS (uP hc) AU d (cP S (by decide +kernel)) xo ha (by decide +kernel) R h1 h2
 split at h
 .rename_i z;rw[beq_iff_eq] at z;subst z;cases h;exact vR (Cp hc) JV d (cP S (by decide +kernel)) Ad ha (by decide +kernel) R h1 h2
 .cases h
def PY(f:Str):Option (A->A->Option Rr):=if f==("max" : Str) then some F6 else if f==("min" : Str) then some Em else none
theorem Cz(S:Sit tb k X E s){g:A->A->Option Rr}{a:Expr}{n:Mi Rr}(h:PY f=some g)(N:Fd s f=true)(Y:s.hd=false)(u:notStar a=true)(V:notStar b=true)(ha:JE X E a m)(d:JE X E b n):JE X E (.Call (.Name f p) [a,b] [] pos) (HB g m n):=by
 obtain⟨G,R⟩:=S.glob N;have hc:=S.cm Y;have h1:=aI u [b] X.env;have h3:=aI V [] X.env;have h2:(backTo pos (starEach [b] X.env)).any (·.1)=false:=fF (by rw[S2,V];rfl);unfold PY at h;split at h
 .rename_i z;rw[beq_iff_eq] at z;subst z;cases h;exact Hn (yN hc) Ji G (cP S (by decide +kernel)) IJ ha d (by decide +kernel) R h1 h3 h2
 split at h
 .rename_i z;rw[beq_iff_eq] at z;subst z;cases h;exact Hn (yn hc) Kq G (cP S (by decide +kernel)) KR ha d (by decide +kernel) R h1 h3 h2
 .cases h
noncomputable def Qr(x:Str):Option Ty:=if x==("int" : Str) then some .int else if x==("bool" : Str) then some .bool else if x==("str" : Str) then some .str else if x==("tuple" : Str) then some .tuple else if x==("list" : Str) then some .list else if x==("dict" : Str) then some .dict else none
theorem Jg{T:Ty}(h:Qr x=some T):bootBuiltins x=some (.type T.n)/\Du.contains x=true/\x ≠ "__name__" := by
 unfold Qr at h;split at h
 .rename_i z;rw[beq_iff_eq] at z;subst z;cases h;exact⟨AE,by decide +kernel,by decide +kernel⟩
 split at h
 .rename_i z;rw[beq_iff_eq] at z;subst z;cases h;exact⟨Eo,by decide +kernel,by decide +kernel⟩
 split at h
 .rename_i z;rw[beq_iff_eq] at z;subst z;cases h;exact⟨KG,by decide +kernel,by decide +kernel⟩
 split at h
 .rename_i z;rw[beq_iff_eq] at z;subst z;cases h;exact⟨sI,by decide +kernel,by decide +kernel⟩
 split at h
 .rename_i z;rw[beq_iff_eq] at z;subst z;cases h;exact⟨xp,by decide +kernel,by decide +kernel⟩
 split at h
 .rename_i z;rw[beq_iff_eq] at z;subst z;cases h;exact⟨xo,by decide +kernel,by decide +kernel⟩
 .cases h
end
structure Tr where
 E:Sc->Expr->Option (Mi Rr)
 T:Sc->Expr->Option (Mi Bool)
 I:Sc->Expr->Expr->Option (Mi (List A))
structure cO(tb:Tb)(k:Nat)(r:Tr):Prop where
 E:∀{X E s e m},Sit tb k X E s->r.E s e=some m->JE X E e m
 T:∀{X E s e m},Sit tb k X E s->r.T s e=some m->JT X E e m
 I:∀{X E s tg e m},Sit tb k X E s->r.I s tg e=some m->JI X E tg e m
def Dp(s:Sc)(lo:Nat):Nat->Expr->Option Mg
 |0,_=>none
 |d+1,.Name x _=>aq (jD s x) λi=>eB (U5 lo i) (some (aH i))
 |d+1,.Tuple es _ _=>eB (!s.hd) (aq (trGs (Dp s lo d) es) λgs=>some (dj es.length gs))
 |_+1,_=>none
where trGs (F:Expr->Option Mg):List Expr->Option Dl
 |[]=>some dA
 |e::es=>eB (notStar e) (aq (F e) λg=>aq (trGs F es) λgs=>some (aJ g gs))
variable{r:Tr}{tg:Expr}
section
variable{tb:Tb}{k:Nat}{X:Cx}{E:XK}{s:Sc}
theorem vU{lo:Nat}{F:Expr->Option Mg}(h:∀e g,F e=some g->JG X lo e g):∀{es:List Expr}{gs:Dl},Dp.trGs F es=some gs->NX X lo es gs/\es.all notStar=true
 |[],gs,e=>by cases e;exact⟨EK,rfl⟩
 |a::es,gs,e=>by obtain⟨h1,e⟩:=aA e;obtain⟨g,B,e⟩:=af e;obtain⟨Z,j,e⟩:=af e;cases e;obtain⟨T,I⟩:=vU h j;exact⟨AN (h _ _ B) T (λx y=>Av x y (BV h1)),by rw[S2,h1,I];rfl⟩
theorem oi(S:Sit tb k X E s){lo:Nat}:∀{d:Nat}{e:Expr}{g:Mg},Dp s lo d e=some g->JG X lo e g
 |0,e,g,h=>by cases h
 |d+1,e,g,h=>by
  unfold Dp at h;split at h
  .rename_i Y;cases Y
  .rename_i Y;cases Y;obtain⟨i,F,h⟩:=af h;obtain⟨h1,h⟩:=aA h;cases h;obtain⟨v,Z,G,a⟩:=S.jD F;exact DY (by rw[S.n];exact S.nd) v Z (TN h1) a
  .rename_i Y;cases Y;obtain⟨h0,h⟩:=aA h;obtain⟨gs,F,h⟩:=af h;cases h;obtain⟨T,I⟩:=vU (λe g h=>oi S h) F;have hc:=S.cm (by simpa using h0);exact LP hc T (wb _) (tV _ I)
  .cases h
noncomputable def Rx:Expr->Bool
 | .Name _ _=>true
 |_=>false
def KC(r:Tr)(s:Sc)(tg:Expr):Expr->Option (Mi (List A))
 | .Call (.Name f p) [a] [] pos=>match f==("range" : Str) with
  |true=>eB (Fd s f&&notStar a) (aq (r.E s a) λm=>some (eI m))
  |false=>aq (r.E s (.Call (.Name f p) [a] [] pos)) λm=>some (bF m)
 |e=>aq (r.E s e) λm=>some (bF m)
theorem GB(R:cO tb k r)(S:Sit tb k X E s){m:Mi (List A)}(h:KC r s tg e=some m):JI X E tg e m:=by
 unfold KC at h;split at h
 .split at h
  .rename_i z;rw[beq_iff_eq] at z;subst z;obtain⟨h1,h⟩:=aA h;rw[Sn] at h1;obtain⟨O,F,h⟩:=af h;cases h;exact DW (S.glob h1.1).1 (cP S (by decide +kernel)) (R.E S F) (aI h1.2 _ _) (aI h1.2 _ _)
  .obtain⟨O,F,h⟩:=af h;cases h;exact CF (R.E S F)
 .obtain⟨O,F,h⟩:=af h;cases h;exact CF (R.E S F)
noncomputable def Bm{α:Type}(a b:Option α):Option α:=match a with
 |some x=>some x
 |none=>b
theorem cV{a b:Option α}{x:α}(h:Bm a b=some x):a=some x\/b=some x:=by
 cases a with
 |none=>exact .inr h
 |some y=>exact .inl h
def QN(r:Tr)(s:Sc)(tg e:Expr):Option (Mi (List A)):=Bm (r.I s tg e) (KC r s tg e)
theorem B8(R:cO tb k r)(S:Sit tb k X E s){m:Mi (List A)}(h:QN r s tg e=some m):JI X E tg e m:=by
 rcases cV h with h|h
 .exact R.I S h
 .exact GB R S h
noncomputable def Qh:Nat->Expr->List Str
 |0,_=>[]
 |_+1,.Name x _=>[x]
 |d+1,.Tuple es _ _=>es.flatMap (Qh d)
 |_+1,_=>[]
noncomputable def OQ(N own:List Str):List Str:=N.map (λn=>if own.contains n then n++(" (of the def)" : Str) else n)++own
def vV(s:Sc)(N:List Str)(own:Nat)(sc:Scope):Bool:=
 sc.kind==.function&&sc.names.all (λy=>y.2 != .cell)&&sc.names.all (λy=>y.2 != .local || sc.names.lookup y.1==some .local)&&N.length==s.N.length+own&&decide N.Nodup &&
 ((N.take s.N.length).zip s.N).all (λp=>p.1==p.2 || sc.names.lookup p.1==none)&&(N.take s.N.length).all (λn=>sc.names.lookup n != some .local)&&sc.names.all (λy=>y.2 != .free || s.nm.lookup y.1==some .cell)
def xW(s:Sc)(N:List Str)(sc:Scope):Sc:={ N:=N,nm:=sc.names,di:=s.di,ca:=[],hd:=false,lv:=s.lv }
end
variable{elt:Expr}{gs:List Comprehension}{args:List Expr}
section
variable{tb:Tb}{k:Nat}{X:Cx}{E:XK}{s:Sc}
theorem dW{α:Type}{x:Str}{v:α}:∀{l:List (Str×α)},l.lookup x=some v->(x,v)∈l
 |(y,u)::l,h=>by
  rw[SX] at h;split at h
  .rename_i e;cases h;rw[beq_iff_eq.mp e];exact SN
  .exact SE _ (dW h)
theorem Sit.comp(S:Sit tb k X E s){N:List Str}{sc:Scope}{own:Nat}(h:vV s N own sc=true)(V:s.hd=false):
  fk X.N N own sc X.env.scope/\∀cl C s0 H fp,Sit tb k (ir X N sc cl C s0 H fp) qa (xW s N sc):=by
 unfold vV at h;simp only[Sn,beq_iff_eq,decide_eq_true_eq,Tf,TR,bne_iff_ne,ne_eq] at h;obtain⟨⟨⟨⟨⟨⟨⟨h1,h2⟩,h3⟩,h4⟩,h5⟩,m⟩,b⟩,h8⟩:=h;refine⟨⟨h1,h2,λy T e=>?_,by rw[S.n];exact h4,h5,by rw[S.n];exact m,by rw[S.n];exact b,λy T e=>?_⟩,λcl C s0 H fp=>?_⟩
 .rcases h3 y T with z|z
  .exact absurd e z
  .exact z
 .rcases h8 y T with z|z
  .exact absurd e z
  .exact .inl (S.ce _ z)
 .have loc:∀x,vD (xW s N sc) x=true->sc.names.lookup x=some .local:=λx w=>by
   unfold vD sj xW at w;simp only[TR,beq_iff_eq] at w;rcases w with z|z
   .exact z
   .exact absurd rfl (h2 _ (dW z))
  refine⟨rfl,h5,λx w=>Ce w,λx w=>?_,λx w=>.inl (jh (loc x w)),λx w=>jh w,λx w=>absurd rfl (h2 _ (dW w)),λx w=>.inr (jh (loc x w)),λ_=>S.cm V,λ_=>S.rm V,λ_=>(λ_ _ _ _ _ _ _ x=>x.elim),S.gd⟩;unfold F0 sj xW at w;simp only[TR,beq_iff_eq] at w;rcases w with (z|z)|z
  .exact .inl (jh z)
  .exact absurd rfl (h2 _ (dW z))
  .exact sE z
def FE(r:Tr)(s:Sc):List Expr->Option (Mi Bool)
 |[]=>some bj
 |[t]=>r.T s t
 |_=>none
def oG(r:Tr)(s:Sc)(elt:Expr)(gs:List Comprehension)(sc:Scope):Option (Mi Rr):=match gs with
 |[g]=>
  let own:=Qh 9 g.target
  let N:=OQ s.N own
  let s':=xW s N sc
  eB (!s.hd&&g.is_async==0&&gY g.iter&&vV s N own.length sc) (aq (QN r s g.target g.iter) λH=>aq (Dp s' s.N.length 9 g.target) λG=>aq (FE r s' g.ifs) λmt=>aq (r.E s' elt) λh=>some (bu own.length H G mt h))
 |_=>none
theorem wB(R:cO tb k r)(S:Sit tb k X E s){ifs:List Expr}{m:Mi Bool}(h:FE r s ifs=some m):JF X E ifs m:=by
 unfold FE at h;split at h
 .cases h;exact Jl
 .exact Li (R.T S h)
 .cases h
theorem k7(R:cO tb k r)(S:Sit tb k X E s){sc:Scope}(h:oG r s elt gs sc=some m):
  s.hd=false/\∃N own tg iter ifs a G mt q,gs=[⟨tg,iter,ifs,0⟩]/\m=bu own a G mt q/\fk X.N N own sc X.env.scope/\JI X E tg iter a/\(∀cl C s0 H fp,JG (ir X N sc cl C s0 H fp) X.N.length tg G) /\
   (∀cl C s0 H fp,JF (ir X N sc cl C s0 H fp) qa ifs mt)/\(∀cl C s0 H fp,JE (ir X N sc cl C s0 H fp) qa elt q)/\∀x,foldedSetIterable iter X.env x=pure x:=by
 unfold oG at h;split at h
 .rename_i g;obtain⟨tg,iter,ifs,o⟩:=g;obtain⟨h0,h⟩:=aA h;simp only[Sn,beq_iff_eq,S7] at h0;obtain⟨⟨⟨h1,rfl⟩,h3⟩,h4⟩:=h0;obtain⟨a,F,h⟩:=af h;obtain⟨G,j,h⟩:=af h;obtain⟨mt,D,h⟩:=af h;obtain⟨q,b,h⟩:=af h;cases h;obtain⟨Z,Y⟩:=S.comp h4 h1;exact⟨h1,_,_,tg,iter,ifs,a,G,mt,q,rfl,rfl,Z,B8 R S F,λcl C s0 H fp=>by rw[S.n];exact oi (Y cl C s0 H fp) j,λcl C s0 H fp=>wB R (Y cl C s0 H fp) D,λcl C s0 H fp=>R.E (Y cl C s0 H fp) b,jJ h3 _⟩
 .cases h
def Qn(F:Expr->Option (Mi Rr)):Option Expr->Option (Mi (Option Int))
 |none=>some j5
 |some e=>aq (F e) λm=>some (oA m)
theorem Bc{F:Expr->Option (Mi Rr)}(h:∀e m,F e=some m->JE X E e m){o:Option Expr}{m:Mi (Option Int)}(e:Qn F o=some m):JP X E o m:=by
 cases o with
 |none=>cases e;exact Fo
 |some a=>obtain⟨O,B,e⟩:=af e;cases e;exact Es (h _ _ B)
def AH(r:Tr)(s:Sc)(a:Expr):Expr->Option (Mi Rr)
 | .Slice lo hi none _=>aq (r.E s a) λm=>aq (Qn (r.E s) lo) λml=>aq (Qn (r.E s) hi) λmh=>some (MD m ml mh)
 |b=>eB (iC b&&!s.hd) (aq (r.E s a) λm=>aq (r.E s b) λn=>some (aD (bS jb bZ) m n))
theorem Ca(R:cO tb k r)(S:Sit tb k X E s){a:Expr}(h:AH r s a b=some m):JE X E (.Subscript a b pos) m:=by
 unfold AH at h;split at h
 .obtain⟨O,F,h⟩:=af h;obtain⟨p,j,h⟩:=af h;obtain⟨x,D,h⟩:=af h;cases h;exact Pf (R.E S F) (Bc (λ_ _=>R.E S) j) (Bc (λ_ _=>R.E S) D)
 .obtain⟨h0,h⟩:=aA h;simp only[Sn,S7] at h0;obtain⟨O,F,h⟩:=af h;obtain⟨p,j,h⟩:=af h;cases h;exact OY (tj (S.rm h0.2)) (R.E S F) (R.E S j) (vg h0.1) (FL h0.1)
noncomputable def R8(f:Str):Bool:=match f.cps[0]? with
 |some c=>U5 65 c&&U5 c 90
 |none=>false
def JK:Expr->Bool
 | .ListComp _ _ _ _=>true
 | .List _ _=>true
 | .Dict _ _ _=>true
 | .BinOp _ .Add _ _=>true
 | .Subscript _ (.Slice _ _ _ _) _=>true
 | .Call (.Name f _) _ _ _=>f==("list" : Str) || f==("sorted" : Str) || f==("dict" : Str) || R8 f
 | .Call (.Attribute _ _ _) _ _ _=>true
 |_=>false
def MU(r:Tr)(s:Sc)(e:Expr):Option (Mi Rr):=match e with
 | .Name x _=>match s.lv.contains x with
  |true=>r.E s e
  |false=>match slot s x with
   |some i=>some (ai i)
   |none=>r.E s e
 |e=>match JK e with
  |true=>aq (r.E s e) λm=>some (kT m)
  |false=>r.E s e
theorem rJ(R:cO tb k r)(S:Sit tb k X E s)(h:MU r s e=some m):JE X E e m:=by
 unfold MU at h;split at h
 .split at h
  .exact R.E S h
  split at h
  .rename_i F;cases h;obtain⟨v,Z,G,a⟩:=S.slot F;exact GI v Z G a
  .exact R.E S h
 .split at h
  .obtain⟨O,F,h⟩:=af h;cases h;exact OP (R.E S F)
  .exact R.E S h
noncomputable def gp(s:Sc):Nat->List Expr->List Bool->List Nat
 |j,.Name x _::es,false::bs=>match s.lv.contains x with
  |true=>j::gp s (j+1) es bs
  |false=>gp s (j+1) es bs
 |j,_::es,_::bs=>gp s (j+1) es bs
 |_,_,_=>[]
def eN:List Nat->Ms->Ms
 |[],m=>m
 |j::js,m=>jq j (eN js m)
theorem jg.eN{K:Kx}{n:Nat}{m:Ms}{vs:List V}{H:Hp}{Q:VK}{E:XK}:∀{p:List Nat},jg K n (M.eN p m) vs H Q E->jg K n m vs H Q E
 |[],h=>h
 |_::_,h=>jg.eN (jg.lend h)
def Ic(tb:Tb)(r:Tr)(s:Sc)(fi:FI)(args:List Expr):Option (Mi (List Rr)):=eB (args.length+(pz fi args.length).length==fi.n) (GK (r.E s) (MU r s) args fi.mu)
def BR(tb:Tb)(r:Tr)(s:Sc)(fi:FI)(args:List Expr):Option (Mi (List Rr)):=eB (args.length+1+(pz fi (args.length+1)).length==fi.n) (GK (r.E s) (MU r s) args (fi.mu.drop 1))
def zU(tb:Tb)(r:Tr)(s:Sc)(f:Str):List Expr->Option (Mi Rr)
 |[]=>none
 |a::as=>aq (tb.ini.lookup f) λfi=>eB (!s.hd) (aq (BR tb r s fi (a::as)) λm=>some (hW f (eN (gp s 1 (a::as) (fi.mu.drop 1)) fi.m) (pz fi ((a::as).length+1)) m))
def Hi(tb:Tb)(r:Tr)(s:Sc)(a:Expr)(x:Str):Option (Mi Rr):=match Qr x with
 |some T=>aq (r.E s a) λm=>some (cb (cG T) m)
 |none=>none
def Cw(tb:Tb)(r:Tr)(s:Sc)(f:Str)(args:List Expr):Option (Mi Rr):=eB (Fd s f) (match tb.fns.lookup f with
 |some fi=>match args with
  |[]=>none
  |a::as=>match s.hd with
   |true=>none
   |false=>aq (Ic tb r s fi (a::as)) λm=>some (bQ (eN (gp s 0 (a::as) fi.mu) fi.m) (pz fi (a::as).length) m)
 |none=>match tb.ini.lookup f with
 |some _=>zU tb r s f args
 |none=>match args with
  |[a]=>eB (notStar a&&!s.hd) (aq (Q9 f) λg=>aq (r.E s a) λm=>some (cb g m))
  |[a,.Name x p]=>match f==("isinstance" : Str) with
   |true=>eB (notStar a&&Fd s x) (Hi tb r s a x)
   |false=>eB (notStar a&&!s.hd) (aq (PY f) λg=>aq (r.E s a) λm=>aq (r.E s (.Name x p)) λn=>some (HB g m n))
  |[a,b]=>eB (notStar a&&notStar b&&!s.hd) (aq (PY f) λg=>aq (r.E s a) λm=>aq (r.E s b) λn=>some (HB g m n))
  | _=>none)
theorem yo(R:cO tb k r)(S:Sit tb k X E s)(h:Cw tb r s f args=some m):JE X E (.Call (.Name f p) args [] pos) m:=by
 have h':=aA h;clear h;obtain⟨N,h⟩:=h';split at h
 .rename_i fi v;split at h
  .cases h
  .rename_i a as;split at h
   .cases h
   rename_i V;obtain⟨ma,B,h⟩:=af h;cases h;obtain⟨h1,B⟩:=aA B;obtain⟨Q,I,o⟩:=mB (λ_ _=>R.E S) (λ_ _=>rJ R S) B;obtain⟨K,fd,ps,F,hm,hk,d⟩:=S.gd.fn f fi v;obtain⟨ds,dvs,H,Y,b⟩:=d.of (a::as).length;have x:=o;rw[S2,Sn] at x;exact GN (F.imp λ_ _ _ _ q=>jg.eN q) (S.rm V) (S.glob N).1 hm hk H Y b (S.ps V) Q (LC I (by rw[beq_iff_eq] at h1;exact h1)) (S.glob N).2 (aI x.1 _ _) (fF x.2)
 split at h
 .unfold zU at h;split at h
  .cases h
  .rename_i a as;obtain⟨fi,v,h⟩:=af h;obtain⟨V,h⟩:=aA h;have V:s.hd=false:=by simpa using V
   obtain⟨ma,B,h⟩:=af h;cases h;obtain⟨h1,B⟩:=aA B;rw[beq_iff_eq] at h1;obtain⟨Q,I,o⟩:=mB (λ_ _=>R.E S) (λ_ _=>rJ R S) B;obtain⟨C,K,fd,ps,j,U,F,hm,hk,d⟩:=S.gd.im f fi v;obtain⟨ds,dvs,H,Y,b⟩:=d.of ((a::as).length+1);have x:=o;rw[S2,Sn] at x;exact DX hk (F.imp λ_ _ _ _ q=>jg.eN q) ((S.rm V).mono U) (S.glob N).1 hm H Y b (S.ps V) Q (λZ rs O q=>by rw[I Z rs O q];exact h1) (S.glob N).2 (aI x.1 _ _) (fF x.2)
 .split at h
  .obtain⟨h0,h⟩:=aA h;simp only[Sn,S7] at h0;obtain⟨g,B,h⟩:=af h;obtain⟨i,J,h⟩:=af h;cases h;exact L9 S B N h0.2 h0.1 (R.E S J)
  .split at h
   .rename_i z;rw[beq_iff_eq] at z;subst z;obtain⟨h0,h⟩:=aA h;simp only[Sn] at h0;obtain⟨G,c⟩:=S.glob N;obtain⟨A,L⟩:=S.glob h0.2;unfold Hi at h;split at h
    .rename_i T y;obtain⟨i,J,h⟩:=af h;cases h;obtain⟨t,w,u⟩:=Jg y;exact Ib T G (cP S (by decide +kernel)) oZ A (cP S w) t (R.E S J) (by decide +kernel) c u L (aI h0.1 _ _)
    .cases h
   .obtain⟨h0,h⟩:=aA h;simp only[Sn,S7] at h0;obtain⟨g,B,h⟩:=af h;obtain⟨i,J,h⟩:=af h;obtain⟨P,D,h⟩:=af h;cases h;exact Cz S B N h0.2 h0.1 rfl (R.E S J) (R.E S D)
  .obtain⟨h0,h⟩:=aA h;simp only[Sn,S7] at h0;obtain⟨g,B,h⟩:=af h;obtain⟨i,J,h⟩:=af h;obtain⟨P,D,h⟩:=af h;cases h;exact Cz S B N h0.2 h0.1.1 h0.1.2 (R.E S J) (R.E S D)
  .cases h
end
variable{o:Expr}{apos cpos px p1:Pos}{j:Nat}
section
variable{tb:Tb}{k:Nat}{X:Cx}{E:XK}{s:Sc}
noncomputable def p0(o:Expr):Bool:=match o with
 | .Call f args kw _=>match f with
  | .Name _ _=>!(args.isEmpty&&kw.isEmpty)
  |_=>true
 |_=>true
theorem cu(h:p0 o=true)(m:Str)(env:Env)(w:Sem Value):attributeBase o m env w=w:=by
 cases o with
 |Call f args q p=>cases f with
  |Name _ _=>cases args with
   |cons _ _=>rfl
   |nil=>cases q with
    |cons _ _=>rfl
    |nil=>cases h
  |_=>rfl
 |_=>rfl
theorem D7(h:notStar e=true)(cpos:Pos)(env:Env):((backTo cpos (starEach [e] env)).all (λx=>!x.1)&&(backToKw cpos (keywordEach [] env)).all (λx=>x.1.isSome)&&decide (([e]:List Expr).length+([]:List Keyword).length+(if ([]:List Keyword).isEmpty then 0 else 1)<30))=true:=by rw[aI h];rfl
theorem Q0{f:Expr}(h:notStar e=true)(h':notStar f=true)(cpos:Pos)(env:Env):((backTo cpos (starEach [e,f] env)).all (λx=>!x.1)&&(backToKw cpos (keywordEach [] env)).all (λx=>x.1.isSome)&&decide (([e,f]:List Expr).length+([]:List Keyword).length+(if ([]:List Keyword).isEmpty then 0 else 1)<30))=true:=by rw[aI h,aI h'];rfl
theorem Og{f:Expr}{m:Str}(h0:p0 o=true)(h:notStar e=true)(h':notStar f=true)(hl:(apos.endLine==cpos.line)=true):M2 X o m apos e f cpos:=⟨cu h0 _ _ _,Q0 h h' _ _,hl,by rw[aI h,aI h'];rfl⟩
def RT(e:Expr):Option (Expr×Str×Pos×Pos):=match e with
 | .Call f args kw cpos=>match f with
  | .Attribute o m apos=>eB (args.isEmpty&&kw.isEmpty) (some (o,m,apos,cpos))
  |_=>none
 |_=>none
def Gh(e:Expr):Option (Expr×Str×Pos×Expr×Pos):=match e with
 | .Call f args kw cpos=>match f with
  | .Attribute o m apos=>match args with
   |[a]=>eB (kw.isEmpty&&notStar a) (some (o,m,apos,a,cpos))
   |_=>none
  |_=>none
 |_=>none
theorem pR{a:Expr}{m:Str}(h:Gh e=some (o,m,apos,a,cpos)):e=.Call (.Attribute o m apos) [a] [] cpos/\notStar a=true:=by
 unfold Gh at h;split at h
 .rename_i f args q c;split at h
  .split at h
   .obtain⟨h0,h⟩:=aA h;rw[Sn,Uy] at h0;cases h;rw[h0.1];exact⟨rfl,h0.2⟩
   .cases h
  .cases h
 .cases h
noncomputable def GZ(e:Expr):Option (Str×Pos):=match e with
 | .Name x p=>some (x,p)
 |_=>none
theorem iL(h:GZ e=some (x,p)):e=.Name x p:=by
 unfold GZ at h;split at h
 .cases h;rfl
 .cases h
def nC(_:Tb)(r:Tr)(s:Sc)(e:Expr):Option (Mi Rr):=match e with
 | .ListComp elt gs sc _=>match gs with
  |[g]=>aq (GZ g.iter) λ(x,_)=>
   let own:=Qh 9 g.target
   let N:=OQ s.N own
   let s':=xW s N sc
   eB (s.lv.contains x&&!s.hd&&g.is_async==0&&vV s N own.length sc) (aq (slot s x) λi=>aq (Dp s' s.N.length 9 g.target) λG=>aq (FE r s' g.ifs) λmt=>aq (r.E s' elt) λh=>aq (oG r s elt gs sc) λZ=>some (bg (dy own.length i G mt h) Z))
  |_=>none
 |_=>none
theorem sA(R:cO tb k r)(S:Sit tb k X E s)(h:nC tb r s e=some q):JE X E e q:=by
 unfold nC at h;split at h
 .split at h
  .rename_i g;obtain⟨tg,iter,ifs,A⟩:=g;obtain⟨⟨x,px⟩,h0,g⟩:=af h;clear h;have h0:GZ iter=some (x,px):=h0;obtain rfl:=iL h0;obtain⟨h1,h⟩:=aA g;simp only[Sn,beq_iff_eq,S7] at h1;obtain⟨⟨⟨_,V⟩,rfl⟩,h4⟩:=h1;obtain⟨i,F,h⟩:=af h;obtain⟨G,j,h⟩:=af h;obtain⟨mt,D,h⟩:=af h;obtain⟨b,T,h⟩:=af h;obtain⟨P,J,h⟩:=af h;cases h;obtain⟨Z,Y⟩:=S.comp h4 V;obtain⟨v,m,Q,o⟩:=S.slot F;refine mT (Bx (S.cm V) Z rfl v m Q o (λcl C s0 H fp=>by rw[S.n];exact oi (Y cl C s0 H fp) j) (λcl C s0 H fp=>wB R (Y cl C s0 H fp) D) (λcl C s0 H fp=>R.E (Y cl C s0 H fp) T) (jJ rfl _)) ?_;obtain⟨V,N,own,tg,iter,ifs,L,G,mt,b,a,rfl,Z,Y,p,B,K,c⟩:=k7 R S J;rw[a];exact wg (S.cm V) Z rfl Y p B K c
  .cases h
 .cases h
def pS(_:Tb)(r:Tr)(s:Sc)(e:Expr):Option (Mi Rr):=aq (Gh e) λ(o,m,apos,a,cpos)=>eB (m==("extend" : Str)&&apos.endLine==cpos.line) (aq (GZ o) λ(x,_)=>aq (slot s x) λi=>aq (r.E s a) λn=>some (dQ i (mF i n)))
theorem rY(R:cO tb k r)(S:Sit tb k X E s)(h:pS tb r s e=some q):JE X E e q:=by obtain⟨⟨o,m,apos,a,cpos⟩,h1,g⟩:=af h;clear h;obtain⟨rfl,u⟩:=pR h1;obtain⟨h2,h⟩:=aA g;rw[Sn,beq_iff_eq] at h2;obtain⟨⟨x,px⟩,h3,H⟩:=af h;clear h;obtain rfl:=iL h3;obtain⟨i,F,h⟩:=af H;obtain⟨n,j,h⟩:=af h;obtain⟨v,Z,G,Y⟩:=S.slot F;cases h;obtain⟨rfl,hl⟩:=h2;exact yq v Z G Y (R.E S j) rfl (D7 u _ _) hl (aI u _ _) rfl
noncomputable def Iz:Expr->Bool
 | .Subscript _ _ _=>true
 |_=>false
def AA(_:Tb)(r:Tr)(s:Sc)(e:Expr):Option (Mi Rr):=aq (Gh e) λ(o,m,apos,a,cpos)=>eB (m==("index" : Str)&&apos.endLine==cpos.line&&Iz a) (aq (GZ o) λ_=>aq (r.E s o) λn=>aq (r.E s a) λq=>some (Dm sR n q))
theorem yb(R:cO tb k r)(S:Sit tb k X E s)(h:AA tb r s e=some q):JE X E e q:=by obtain⟨⟨o,m,apos,a,cpos⟩,h1,g⟩:=af h;clear h;obtain⟨rfl,u⟩:=pR h1;obtain⟨h2,h⟩:=aA g;rw[Sn,Sn,beq_iff_eq] at h2;obtain⟨⟨x,px⟩,h3,H⟩:=af h;clear h;obtain rfl:=iL h3;obtain⟨n,B,h⟩:=af H;obtain⟨l,j,h⟩:=af h;cases h;obtain⟨⟨rfl,hl⟩,_⟩:=h2;exact B7 (R.E S B) (R.E S j) (λx y=>ua WH PySem.F.slot_str_index PySem.F.type_str_index K9 x (cE y eF (aI u _ _)) rfl (D7 u _ _) hl (aI u _ _) rfl)
def Jw(s:Sc):List Expr->Option (List Nat)
 |[]=>some []
 | .Name x _::es=>aq (slot s x) λi=>aq (Jw s es) λp=>some (i::p)
 |_=>none
theorem xm(S:Sit tb k X E s):∀{es:List Expr}{p:List Nat},Jw s es=some p->PA X es (wI p)
 |[],_,h=>by cases h;exact eF
 |e::es,p,h=>by
  cases e<;>first|(cases h;done)|skip
  obtain⟨i,F,h⟩:=af h;obtain⟨x,j,h⟩:=af h;cases h;obtain⟨v,Z,G,a⟩:=S.slot F;exact cE (cU v Z G a) (xm S j) (aI rfl _ _)
def Jt(e:Expr):Option (Str×Pos×Str×Pos×Pos×List Expr×Nat×Pos×Pos):=match e with
 | .Call (.Attribute (.Attribute (.Name x px) f p1) m apos) [.Tuple es j I] [] cpos=>eB (m==("append" : Str)&&(apos.endLine==cpos.line)) (some (x,px,f,p1,apos,es,j,I,cpos))
 |_=>none
theorem yj{I:Pos}(h:Jt e=some (x,px,f,p1,apos,es,j,I,cpos)):e=.Call (.Attribute (.Attribute (.Name x px) f p1) "append" apos) [.Tuple es j I] [] cpos/\(apos.endLine==cpos.line)=true:=by
 unfold Jt at h;split at h
 .obtain⟨h0,h⟩:=aA h;rw[Sn,beq_iff_eq] at h0;cases h;rw[h0.1];exact⟨rfl,h0.2⟩
 .cases h
def xh(tb:Tb)(_:Tr)(s:Sc)(e:Expr):Option (Mi Rr):=aq (Jt e) λ(x,_,f,_,_,es,_,_,_)=>eB (s.lv.contains ("*nob" : Str)&&s.lv.contains f) (aq (slot s x) λi=>aq (Jw s es) λp=>some (tM (mY tb f) i f p))
theorem uz(R:cO tb k r)(S:Sit tb k X E s)(h:xh tb r s e=some m):JE X E e m:=by obtain⟨⟨x,px,f,p1,apos,es,j,I,cpos⟩,h0,g⟩:=af h;clear h;obtain⟨rfl,hl⟩:=yj h0;obtain⟨_,g⟩:=aA g;obtain⟨i,F,g⟩:=af g;obtain⟨p,J,g⟩:=af g;cases g;obtain⟨v,Z,G,a⟩:=S.slot F;exact DO v Z G a (λc C=>S.gd.fl _ c C) (cu rfl _ _ _) (xm S J) (cu rfl _ _ _) rfl hl (aI rfl _ _) rfl
noncomputable def Mt:Expr->Option (Str×Nat×Pos)
 | .Constant (.str k) j p=>some (k,j,p)
 |_=>none
theorem kF{q:Str×Nat×Pos}(h:Mt e=some q):e=.Constant (.str q.1) q.2.1 q.2.2:=by
 unfold Mt at h;split at h
 .cases h;rfl
 .cases h
noncomputable def Lf:Expr->Option (Expr×Expr×Expr×Expr×Pos)
 | .Dict [some a,some b] [c,d] pos=>some (a,b,c,d,pos)
 |_=>none
theorem ye{q:Expr×Expr×Expr×Expr×Pos}(h:Lf e=some q):e=.Dict [some q.1,some q.2.1] [q.2.2.1,q.2.2.2.1] q.2.2.2.2:=by
 unfold Lf at h;split at h
 .cases h;rfl
 .cases h
def tm(_:Tb)(_:Tr)(_:Sc)(e:Expr):Option (Mi Rr):=aq (Lf e) λq=>aq (Mt q.1) λa=>aq (Mt q.2.1) λb=>aq (Mt q.2.2.1) λc=>aq (Mt q.2.2.2.1) λd=>some (uY a.1 c.1 b.1 d.1)
theorem t4(R:cO tb k r)(S:Sit tb k X E s)(h:tm tb r s e=some m):JE X E e m:=by obtain⟨⟨a,b,c,d,pos⟩,h0,g⟩:=af h;obtain⟨a',F,g⟩:=af g;obtain⟨t,j,g⟩:=af g;obtain⟨v,D,g⟩:=af g;obtain⟨d',N,g⟩:=af g;cases g;rw[ye h0];dsimp only at F j D N ⊢;rw[kF F,kF j,kF D,kF N];exact BF
def xP(tb:Tb)(r:Tr)(s:Sc)(e:Expr):Option (Mi Rr):=Bm (nC tb r s e) (Bm (AA tb r s e) (Bm (xh tb r s e) (Bm (tm tb r s e) (none))))
theorem Oz(R:cO tb k r)(S:Sit tb k X E s)(h:xP tb r s e=some m):JE X E e m:=by
 rcases cV h with h|h
 .exact sA R S h
 rcases cV h with h|h
 .exact yb R S h
 rcases cV h with h|h
 .exact uz R S h
 rcases cV h with h|h
 .exact t4 R S h
 cases h
def xE(tb:Tb)(r:Tr)(s:Sc)(e:Expr):Option (Mi Rr):=Bm (pS tb r s e) (none)
theorem MT(R:cO tb k r)(S:Sit tb k X E s)(h:xE tb r s e=some m):JE X E e m:=by
 rcases cV h with h|h
 .exact rY R S h
 cases h
noncomputable def xT(tb:Tb)(r:Tr)(s:Sc)(e:Expr):Option (Mi Bool):=none
theorem NR(R:cO tb k r)(S:Sit tb k X E s){m:Mi Bool}(h:xT tb r s e=some m):JT X E e m:=by cases h
noncomputable def xI(tb:Tb)(r:Tr)(s:Sc)(tg e:Expr):Option (Mi (List A)):=none
theorem MJ(R:cO tb k r)(S:Sit tb k X E s){m:Mi (List A)}(h:xI tb r s tg e=some m):JI X E tg e m:=by cases h
end
variable{mn:Str}
section
variable{tb:Tb}{k:Nat}{X:Cx}{E:XK}{s:Sc}
def N7(s:Sc)(o:Expr)(m:Str):Option (Mi Rr):=match o with
 | .Name x _=>aq (slot s x) λi=>if m==("clear" : Str) then some (uW i) else if m==("pop" : Str) then some (LN i) else none
 |_=>none
def OH(r:Tr)(s:Sc)(o:Expr)(m:Str)(e:Expr):Option (Mi Rr):=
 if m==("append" : Str) then (match o with
  | .Name x _=>aq (slot s x) λi=>aq (r.E s e) λn=>some (dQ i (bI i n))
  | _=>none)
 else if m==("join" : Str) then aq (r.E s o) λa=>aq (r.E s e) λn=>some (Dm kK a n)
 else none
noncomputable def Nj:Expr->Bool
 | .Name x _=>x==("self" : Str)
 |_=>false
def CH(r:Tr)(s:Sc)(fi:FI)(o:Expr):Option (Mi Rr):=match Nj o || fi.mu.headD true with
 |true=>r.E s o
 |false=>MU r s o
def II(s:Sc)(o:Expr):Option (Str×Pos×Nat):=match o with
 | .Name x p=>eB (s.lv.contains ("*nob" : Str)) (aq (slot s x) λi=>some (x,p,i))
 |_=>none
theorem qu{s:Sc}{i:Nat}(h:II s o=some (x,p,i)):o=.Name x p/\slot s x=some i:=by
 cases o<;>first|(cases h;done)|skip
 obtain⟨_,h⟩:=aA h;obtain⟨j,e,h⟩:=af h;cases h;exact⟨rfl,e⟩
def uB(tb:Tb)(r:Tr)(s:Sc)(o:Expr)(m:Str)(args:List Expr)(c:Str)(fi:FI):Option (Mi Rr):=eB (!s.hd&&U5 args.length 20) (aq (CH r s fi o) λmo=>aq (BR tb r s fi args) λma=>(match II s o with
 |some (_,_,i)=>some (bg (bQ (eN (gp s 1 args (fi.mu.drop 1)) fi.m) (pz fi (args.length+1)) (bx (aY c m i) ma)) (bg (bQ (du 0 (eN (gp s 1 args (fi.mu.drop 1)) fi.m)) (pz fi (args.length+1)) (bx (aY c m i) ma)) (bQ (eN (gp s 1 args (fi.mu.drop 1)) fi.m) (pz fi (args.length+1)) (bx (bO c m mo) ma))))
 | none=>some (bQ (eN (gp s 1 args (fi.mu.drop 1)) fi.m) (pz fi (args.length+1)) (bx (bO c m mo) ma))))
def BA(tb:Tb)(r:Tr)(s:Sc)(o:Expr)(m:Str)(args:List Expr):List (Str×FI)->Option (Mi Rr)
 |[]=>none
 |[p]=>uB tb r s o m args p.1 p.2
 |p::q::ps=>aq (uB tb r s o m args p.1 p.2) λa=>aq (BA tb r s o m args (q::ps)) λb=>some (bg a b)
theorem rh(h:args.all notStar=true)(hl:args.length<=20)(pos:Pos)(env:Env):methodCallForm (args.length+([]:List Keyword).length) (backTo pos (starEach args env)) (backToKw pos (keywordEach [] env))=true:=by
 have:∀{es:List Expr},es.all notStar=true->(backTo pos (starEach es env)).all (λx=>!x.1)=true:=by
  intro es;induction es with
  |nil=>intro _;rfl
  |cons e es l=>intro h;rw[S2,Sn] at h;rw[aI h.1];show (true&&(backTo pos (starEach es env)).all (λx=>!x.1))=true;rw[l h.2];rfl
 unfold methodCallForm;rw[this h];show (true&&(true&&decide (args.length+0+0<30)))=true;rw[show decide (args.length+0+0<30)=true from decide_eq_true (by lia)];rfl
theorem pO(R:cO tb k r)(S:Sit tb k X E s){c:Str}{fi:FI}(hl:(apos.endLine==cpos.line)=true)(d:p0 o=true)(hc:(mn,c,fi)∈tb.mts)(h:uB tb r s o mn args c fi=some m):JE X E (.Call (.Attribute o mn apos) args [] cpos) m:=by
 obtain⟨h0,h⟩:=aA h;simp only[Sn,S7] at h0;obtain⟨mo,B,h⟩:=af h;obtain⟨ma,j,h⟩:=af h;obtain⟨h1,j⟩:=aA j;rw[beq_iff_eq] at h1;obtain⟨T,I,K⟩:=mB (λ_ _=>R.E S) (λ_ _=>rJ R S) j;obtain⟨C,D,fd,ps,F,hm,U,l,p⟩:=S.gd.mt _ _ _ hc;obtain⟨ds,dvs,H,Y,Q⟩:=p.of (args.length+1);have J:JE X E o mo:=by
  unfold CH at B;split at B
  .exact R.E S B
  .exact rJ R S B
 have len:=TN h0.2;have old:JE X E (.Call (.Attribute o mn apos) args [] cpos) (bQ (eN (gp s 1 args (fi.mu.drop 1)) fi.m) (pz fi (args.length+1)) (bx (bO c mn mo) ma)):=by
  cases args with
  |nil=>cases j;exact BC hm U l F (S.rm h0.1) H Y Q (S.ps h0.1) J (by simpa using h1) (cu d _ _ _) hl
  |cons a as=>have b:=K;rw[S2,Sn] at b;exact Gp hm U l (F.imp λ_ _ _ _ q=>jg.eN q) (S.rm h0.1) H Y Q (S.ps h0.1) J T (λZ rs O q=>by rw[I Z rs O q];exact h1) (cu d _ _ _) (rh K len _ _) hl (aI b.1 _ _) (fF b.2)
 split at h
 .rename_i x px i en;cases h;obtain⟨rfl,sl⟩:=qu en;obtain⟨v,g,G,A⟩:=S.slot sl;refine mT ?_ (mT ?_ old)
  .cases args with
   |nil=>cases j;exact qm hm U l F (S.rm h0.1) H Y Q (S.ps h0.1) v g G A (by simpa using h1) (cu d _ _ _) hl
   |cons a as=>have b:=K;rw[S2,Sn] at b;exact ud hm U l (F.imp λ_ _ _ _ q=>jg.eN q) (S.rm h0.1) H Y Q (S.ps h0.1) v g G A T (λZ rs O q=>by rw[I Z rs O q];exact h1) (cu d _ _ _) (rh K len _ _) hl (aI b.1 _ _) (fF b.2)
  .cases args with
   |nil=>cases j;exact qm hm U l (F.imp λ_ _ _ _ q=>jg.HY q) (S.rm h0.1) H Y Q (S.ps h0.1) v g G A (by simpa using h1) (cu d _ _ _) hl
   |cons a as=>have b:=K;rw[S2,Sn] at b;exact ud hm U l (F.imp λ_ _ _ _ q=>jg.eN (jg.HY q)) (S.rm h0.1) H Y Q (S.ps h0.1) v g G A T (λZ rs O q=>by rw[I Z rs O q];exact h1) (cu d _ _ _) (rh K len _ _) hl (aI b.1 _ _) (fF b.2)
 .cases h;exact old
theorem tP{r:Tr}(R:cO tb k r)(S:Sit tb k X E s){o:Expr}{mn:Str}{args:List Expr}{apos cpos:Pos}(hl:(apos.endLine==cpos.line)=true)(d:p0 o=true):∀{cs:List (Str×FI)}{m:Mi Rr},(∀p∈cs,(mn,p.1,p.2)∈tb.mts)->BA tb r s o mn args cs=some m->JE X E (.Call (.Attribute o mn apos) args [] cpos) m
 |[],m,_,h=>by cases h
 |[p],m,hc,h=>pO R S hl d (hc p SN) h
 |p::q::ps,m,hc,h=>by obtain⟨a,F,h⟩:=af h;obtain⟨b,j,h⟩:=af h;cases h;exact mT (pO R S hl d (hc p SN) F) (tP R S hl d (λx w=>hc x (SE _ w)) j)
def AQ(tb:Tb)(r:Tr)(s:Sc)(o:Expr)(m:Str)(apos:Pos)(args:List Expr)(cpos:Pos):Option (Mi Rr):=eB (apos.endLine==cpos.line&&p0 o) (match Hq tb m with
 |p::ps=>BA tb r s o m args (p::ps)
 |[]=>match args with
 |[]=>N7 s o m
 |[e]=>eB (notStar e) (OH r s o m e)
 |[e,f]=>eB (notStar e&&notStar f&&m==("get" : Str)&&!s.hd) (aq (r.E s o) λd=>aq (r.E s e) λy=>aq (r.E s f) λx=>some (uj d y x))
 | _=>none)
theorem yw(R:cO tb k r)(S:Sit tb k X E s)(h:AQ tb r s o mn apos args cpos=some m):JE X E (.Call (.Attribute o mn apos) args [] cpos) m:=by
 have h':=aA h;clear h;obtain⟨h0,h⟩:=h';rw[Sn] at h0;split at h
 .rename_i p ps ep;refine tP R S h0.1 h0.2 (λx w=>?_) h;rw[<-ep] at w;unfold Hq at w;obtain⟨⟨a,b⟩,h1,h2⟩:=VW.mp w;simp only at h2;split at h2
  .rename_i z;cases h2;rw[beq_iff_eq] at z;subst z;exact h1
  .cases h2
 split at h
 .unfold N7 at h;split at h
  .obtain⟨i,B,h⟩:=af h;obtain⟨v,Z,G,Y⟩:=S.slot B;split at h
   .rename_i z;rw[beq_iff_eq] at z;cases h;subst z;exact Ak v Z G Y rfl h0.1
   .split at h
    .rename_i z;rw[beq_iff_eq] at z;cases h;subst z;exact Jv v Z G Y rfl h0.1
    .cases h
  .cases h
 .have h':=aA h;clear h;obtain⟨u,h⟩:=h';unfold OH at h;split at h
  .rename_i z;rw[beq_iff_eq] at z;split at h
   .obtain⟨i,B,h⟩:=af h;obtain⟨n,j,h⟩:=af h;obtain⟨v,Z,G,Y⟩:=S.slot B;cases h;subst z;exact xB v Z G Y (R.E S j) rfl (D7 u _ _) h0.1 (aI u _ _) rfl
   .cases h
  .split at h
   .rename_i z;rw[beq_iff_eq] at z;obtain⟨a,B,h⟩:=af h;obtain⟨n,j,h⟩:=af h;cases h;subst z;exact DD (R.E S B) (R.E S j) (λx y=>ua WH PySem.F.slot_str_join PySem.F.type_str_join zA x (cE y eF (aI u _ _)) (cu h0.2 _ _ _) (D7 u _ _) h0.1 (aI u _ _) rfl)
   .cases h
 .have h':=aA h;clear h;obtain⟨h1,h⟩:=h';simp only[Sn,beq_iff_eq,S7] at h1;obtain⟨⟨⟨h1,h2⟩,h3⟩,h4⟩:=h1;obtain⟨d,B,h⟩:=af h;obtain⟨y,j,h⟩:=af h;obtain⟨x,D,h⟩:=af h;cases h;subst h3;exact F7 (tj (S.rm h4)) (R.E S B) (R.E S j) (R.E S D) (Og h0.2 h1 h2 h0.1)
 .cases h
def stK:Const->Option (Mi Rr)
 | .none=>some (mC .non)
 | .bool b=>some (mC (.bl b))
 | .int i=>some (mC (.int i))
 | .str x=>some (mC (.str x))
 |_=>none
def Oh(m n:Mi Rr):Operator->Option (Mi Rr)
 | .Add=>some (aD bt m n)
 | .Sub=>some (aD vx m n)
 | .Mult=>some (aD d5 m n)
 | .FloorDiv=>some (aD l9 m n)
 | .Mod=>some (aD j9 m n)
 | .Pow=>some (aD nN m n)
 |_=>none
theorem FU{a:Expr}{n:Mi Rr}{op:Operator}(h:Oh m n op=some q)(ha:JE X E a m)(d:JE X E b n):JE X E (.BinOp a op b pos) q:=by
 cases op<;>first|(cases h;done)|skip
 .cases h;exact Eb ha d
 .cases h;exact LL ha d
 .cases h;exact J8 ha d
 .cases h;exact Ku ha d
 .cases h;exact K4 ha d
 .cases h;exact Iv ha d
theorem GY{E:CmpOp}{c:Expr}(h:gY c=true):lastMarks [op,E] [b,c]=false:=i8 h
def wV(r:Tr)(s:Sc)(a:Expr)(ops:List CmpOp)(bs:List Expr):Option (Mi Rr):=match ops,bs with
 |[op],[b]=>aq (r.E s a) λm=>aq (r.E s b) λn=>RH s op a b m n
 |[op,op'],[b,c]=>eB (gY b&&gY c) (aq (Qb op) λp=>aq (Qb op') λq=>aq (r.E s a) λma=>aq (r.E s b) λmb=>aq (r.E s c) λh=>some (gT p q ma mb h))
 |_,_=>none
theorem oj(R:cO tb k r)(S:Sit tb k X E s){a:Expr}{ops:List CmpOp}{bs:List Expr}(h:wV r s a ops bs=some m):JE X E (.Compare a ops bs pos) m/\JT X E (.Compare a ops bs pos) (ao m):=by
 unfold wV at h;split at h
 .obtain⟨O,F,h⟩:=af h;obtain⟨P,j,h⟩:=af h;exact Jf S h (R.E S F) (R.E S j)
 .obtain⟨h0,h⟩:=aA h;rw[Sn] at h0;obtain⟨p,F,h⟩:=af h;obtain⟨q,j,h⟩:=af h;obtain⟨ma,D,h⟩:=af h;obtain⟨mb,N,h⟩:=af h;obtain⟨x,J,h⟩:=af h;cases h;obtain⟨z,Y,l⟩:=C7 (X:=X) F;obtain⟨n,o2,o⟩:=C7 (X:=X) j;exact⟨sP Y o2 l o (R.E S D) (R.E S N) (R.E S J) (GY h0.2),zZ Y o2 l o (R.E S D) (R.E S N) (R.E S J) (GY h0.2)⟩
 .cases h
def zJ(r:Tr)(s:Sc)(ks:List (Option Expr))(vs:List Expr):Option (Mi Rr):=match ks,vs with
 |[],[]=>some qr
 |_,_=>none
theorem CL(R:cO tb k r)(S:Sit tb k X E s){ks:List (Option Expr)}{vs:List Expr}(h:zJ r s ks vs=some m):JE X E (.Dict ks vs pos) m:=by
 unfold zJ at h;split at h
 .cases h;exact FT
 .cases h
def K8(tb:Tb)(r:Tr)(s:Sc)(f:Expr)(args:List Expr)(q:List Keyword)(cpos:Pos):Option (Mi Rr):=match q with
 |[]=>match f with
  | .Name f _=>Cw tb r s f args
  | .Attribute o m apos=>AQ tb r s o m apos args cpos
  |_=>none
 |_::_=>none
theorem E7(R:cO tb k r)(S:Sit tb k X E s){f:Expr}{q:List Keyword}(h:K8 tb r s f args q pos=some m):JE X E (.Call f args q pos) m:=by
 unfold K8 at h;split at h
 .split at h
  .exact yo R S h
  .exact yw R S h
  .cases h
 .cases h
def Ro(tb:Tb)(r:Tr)(s:Sc):Expr->Option (Mi Rr)
 | .Name x _=>match slot s x with
  |some i=>some (aa i)
  |none=>aq (tb.cst.lookup x) λa=>eB (Fd s x) (some (mC a))
 | .Constant c _ _=>stK c
 | .BinOp a op b _=>aq (r.E s a) λm=>aq (r.E s b) λn=>Oh m n op
 | .UnaryOp op a _=>match op with
  | .USub=>aq (r.E s a) λm=>some (d0 nY m)
  | .Not=>aq (r.E s a) λm=>some (jw m)
  |_=>none
 | .BoolOp op vs _=>QD op (r.E s) vs
 | .Compare a ops bs _=>wV r s a ops bs
 | .IfExp t a b _=>aq (r.T s t) λmt=>aq (r.E s a) λm=>aq (r.E s b) λn=>some (Eu mt m n)
 | .Tuple es _ _=>aq (Bi (r.E s) es) λm=>some (bC m)
 | .List es _=>aq (Bi (r.E s) es) λm=>some (cS m)
 | .Dict ks vs _=>zJ r s ks vs
 | .Subscript a b _=>AH r s a b
 | .Call f args kw cpos=>K8 tb r s f args kw cpos
 | .Attribute o f _=>eB (p0 o) (aq (r.E s o) λm=>match II s o with
  |some (_,_,i)=>some (bg (cp (mY tb f) i f) (d0 (aT (mY tb f) f) m))
  | none=>some (d0 (aT (mY tb f) f) m))
 | .ListComp elt gs sc _=>oG r s elt gs sc
 |_=>none
theorem Ih(R:cO tb k r)(S:Sit tb k X E s)(h:Ro tb r s e=some m):JE X E e m:=by
 cases e with
 |Name x _=>
  have h:(match slot s x with
   |some i=>some (aa i)
   | none=>aq (tb.cst.lookup x) λa=>eB (Fd s x) (some (mC a)))=some m:=h
  split at h
  .rename_i F;cases h;obtain⟨q,Z,Q,Y⟩:=S.slot F;exact Kd q Z Q Y
  .obtain⟨a,F,h⟩:=af h;obtain⟨H,h⟩:=aA h;cases h;obtain⟨v,u,h1,h2,h3⟩:=S.gd.cs _ _ F;exact EN (S.glob H).1 h1 h2 h3 (S.glob H).2
 |Constant c _ _=>
  cases c<;>first|(cases h;done)|skip
  .cases h;exact Ln
  .cases h;exact Px
  .cases h;exact JY
  .cases h;exact JB
 |BinOp a op b _=>obtain⟨O,F,h⟩:=af h;obtain⟨p,j,h⟩:=af h;exact FU h (R.E S F) (R.E S j)
 |UnaryOp op a _=>
  cases op<;>first|(cases h;done)|skip
  .obtain⟨O,F,h⟩:=af h;cases h;exact ID (R.E S F)
  .obtain⟨O,F,h⟩:=af h;cases h;exact IM (R.E S F)
 |BoolOp op vs _=>exact z4 (λ_ _=>R.E S) h
 |Compare a ops bs _=>exact(oj R S h).1
 |IfExp t a b _=>obtain⟨mt,F,h⟩:=af h;obtain⟨O,j,h⟩:=af h;obtain⟨p,D,h⟩:=af h;cases h;exact OW (R.T S F) (R.E S j) (R.E S D)
 |Tuple es _ _=>obtain⟨O,F,h⟩:=af h;cases h;exact JJ (mL (λ_ _=>R.E S) F).1
 |List es _=>obtain⟨O,F,h⟩:=af h;cases h;exact zY (mL (λ_ _=>R.E S) F).1
 |Dict ks vs _=>exact CL R S h
 |Subscript a b _=>exact Ca R S h
 |Call f args y cpos=>exact E7 R S h
 |Attribute o f _=>
  obtain⟨d,h⟩:=aA h;obtain⟨O,F,h⟩:=af h;split at h
  .rename_i x px i en;cases h;obtain⟨rfl,sl⟩:=qu en;obtain⟨q,Z,Q,Y⟩:=S.slot sl;exact mT (BE q Z Q Y (λc C=>S.gd.fl _ c C) (cu d _ _ _)) (vM (λc C=>S.gd.fl _ c C) (R.E S F) (cu d _ _ _))
  .cases h;exact vM (λc C=>S.gd.fl _ c C) (R.E S F) (cu d _ _ _)
 |ListComp elt gs sc _=>obtain⟨V,N,own,tg,iter,ifs,z,G,mt,I,rfl,rfl,K,B,g,A,L,U⟩:=k7 R S h;exact wg (S.cm V) K rfl B g A L U
 |JoinedStr es _=>cases h
 |_=>cases h
def Oj(s:Sc)(bs:List Expr):Option Nat:=match bs with
 |[.ListComp _ [⟨_,.Attribute (.Name x _) f _,_,_⟩] _ _]=>eB (s.lv.contains ("*nob" : Str)&&s.lv.contains f) (slot s x)
 |_=>none
def Kh(r:Tr)(s:Sc):Expr->Option (Mi Bool)
 | .Compare a ops bs _=>aq (wV r s a ops bs) λq=>match Oj s bs with
  |some i=>some (nP i (ao q))
  |none=>some (ao q)
 | .UnaryOp .Not a _=>aq (r.T s a) λm=>some (gZ m)
 | .BoolOp op vs _=>QF op (r.T s) vs
 |e=>eB (plainT e) (aq (r.E s e) λm=>some (ao m))
theorem Fx(R:cO tb k r)(S:Sit tb k X E s){m:Mi Bool}(h:Kh r s e=some m):JT X E e m:=by
 unfold Kh at h;split at h
 .obtain⟨q,F,h⟩:=af h;split at h
  .cases h;exact Ej (oj R S F).2
  .cases h;exact(oj R S F).2
 .obtain⟨O,F,h⟩:=af h;cases h;exact KY (R.T S F)
 .exact ML (zO (λ_ _=>R.T S) h)
 .obtain⟨h0,h⟩:=aA h;obtain⟨O,F,h⟩:=af h;cases h;exact Iu (R.E S F) (uE h0 _)
def tr(tb:Tb):Nat->Tr
 |0=>⟨λ_ _=>none,λ_ _=>none,λ_ _ _=>none⟩
 |n+1=>⟨λs e=>Bm (xP tb (tr tb n) s e) (Bm (Ro tb (tr tb n) s e) (xE tb (tr tb n) s e)),λs e=>Bm (Kh (tr tb n) s e) (xT tb (tr tb n) s e),xI tb (tr tb n)⟩
theorem nF:∀n,cO tb k (tr tb n)
 |0=>⟨λ_ h=>(by cases h),λ_ h=>(by cases h),λ_ h=>(by cases h)⟩
 | n+1=>⟨λS h=>by
   rcases cV h with h|h
   .exact Oz (nF n) S h
   rcases cV h with h|h
   .exact Ih (nF n) S h
   .exact MT (nF n) S h,λS h=>by
   rcases cV h with h|h
   .exact Fx (nF n) S h
   .exact NR (nF n) S h,λS h=>MJ (nF n) S h⟩
end
structure kL(tb:Tb)(k:Nat)(X:Cx)(E:XK)(s:Sc):Prop extends Sit tb k X E s where
 po:s.hd=false->PassesOwn (model X.prog X.w) X.A X.env X.xe
 st:s.hd=false->X.stack=X.env::X.outer/\X.env.frame=some X.env.locals/\X.ex=[]
 bk:X.env.blockKind=.function
noncomputable def PZ:Expr->Bool
 | .Starred ..=>true
 |_=>false
def Rf(x y:Str)(px I:Pos)(a b:Expr):Bool:=x != y&&px.line==I.line&&notStar a&&notStar b&&!([a,b].all (foldedForSure 8))&&!([a,b].all (constantsAlone 8))
variable{y:Str}{py:Pos}{kt:Nat}
theorem O0{pt E:Pos}{L:Nat}{a:Expr}(h:Rf x y px py a b=true)(w:env.kindOf x=some .local)(T:env.kindOf y=some .local)(d:env.blockKind=.function):
  swappedStores [.Tuple [.Name x px,.Name y py] kt pt] (.Tuple [a,b] L E) env=pure (some [x,y]):=by
 unfold Rf at h;simp only[Sn,bne_iff_ne,ne_eq,beq_iff_eq,S7] at h;obtain⟨⟨⟨⟨⟨h1,h2⟩,h3⟩,h4⟩,h5⟩,i⟩:=h;have s1:(([a,b]:List Expr).any fun | .Starred ..=>true|_=>false)=false:=by
  rw[V0];intro e R;have hn:notStar e=true:=by
   rcases SO.mp R with z|z
   .rw[z];exact h3
   .rw[Sx.mp z];exact h4
  cases e<;>first|(cases hn;done)|exact Tg
 have X:(y==x)=false:=beq_eq_false_iff_ne.mpr λz=>h1 z.symm;have m:(x==y)=false:=beq_eq_false_iff_ne.mpr h1;unfold swappedStores;have pn:∀(n:Str)(p:Pos),(Expr.Name n p).pos=p:=λ_ _=>rfl;simp[d,s1,w,T,pn,<-h2,h5,i,List.eraseDups_cons,X,m];intro z;exfalso;rcases z with z|z
 .cases a<;>first|(cases h3;done)|cases z
 .cases b<;>first|(cases h4;done)|cases z
noncomputable def vQ:Expr->Bool
 | .Tuple _ _ _=>false
 |_=>true
theorem ow(h:vQ e=true):swappedStores [tg] e env=pure none:=by cases tg<;>first|rfl|(cases e<;>first|rfl|cases h)
variable{i:Expr}
theorem uF:swappedStores [.Subscript o i p] e env=pure none:=by cases e<;>rfl
variable{l:Nat}
theorem qx:swapsWith e (some (.Subscript o i p)) l env=pure false:=by cases e<;>rfl
theorem uT{sc:Scope}(h:env.kindOf x=some .cell):swapsWith (.ListComp elt gs sc pos) (some (.Name x px)) l env=pure false:=by unfold swapsWith;show (pure (env.blockKind==.function&&env.kindOf x==some .local&&px.line==pos.line&&!(sc.names.any λp=>p.1==x&&(p.2==.local || p.2==.cell))):Sem Bool)=pure false;rw[h,show (some (NameKind.cell)==some (NameKind.local))=false from rfl,U7,VE,VE]
theorem tY{t:Expr}(h:kN e=true)(l:Nat)(env:Env):swapsWithSole [t] e l env=pure false:=kQ h (some t) l env
theorem zL:swapsWithSole [.Subscript o i p] e l env=pure false:=qx (e:=e) (o:=o) (i:=i) (p:=p) (l:=l) (env:=env)
theorem DM(h:iC i=true)(v:Value):assign (.Subscript o i p) env v=(do
   let ov <- holding [v] (eval o env)
   let iv <- holding [v,ov] (eval i env)
   standAt p
   holding [v,ov,iv] (setItem ov iv v)
   release [v,ov,iv] []):=by cases i<;>first|rfl|cases h
variable{ts:List Expr}
section
variable{tb:Tb}{k:Nat}{X:Cx}{E:XK}{s:Sc}
def BU(r:Tr)(s:Sc)(x:Str)(px:Pos)(e:Expr):Option Ms:=aq (jD s x) λi=>match e with
 | .ListComp elt gs sc pos=>match sj s x .local with
  | true=>eB (px.line==pos.line&&!(sc.names.any λp=>p.1==x&&(p.2==.local || p.2==.cell))) (aq (oG r s elt gs sc) λm=>match Oj s [.ListComp elt gs sc pos] with
   |some j=>some (aK i (kS j m))
   | none=>some (aK i m))
  |false=>aq (r.E s e) λm=>some (aK i m)
 |e=>eB (kN e) (aq (r.E s e) λm=>some (aK i m))
theorem xC(R:cO tb k r)(S:kL tb k X E s){m:Ms}(h:BU r s x px e=some m):JS X E (.Assign [.Name x px] e pos) m:=by
 obtain⟨i,F,h⟩:=af h;obtain⟨v,Z,Q,a⟩:=S.jD F;have hN:X.N.Nodup:=by rw[S.n];exact S.nd
 split at h
 .split at h
  .rename_i z;obtain⟨h0,h⟩:=aA h;simp only[Sn,S7] at h0;obtain⟨O,j,h⟩:=af h;have hl:X.env.scope.names.lookup x=some .local:=S.lc x (by unfold sj at z;simpa using z);obtain⟨V,N,own,tg,iter,ifs,H,G,mt,b,rfl,rfl,K,Y,p,B,L,c⟩:=k7 R S.toSit j;split at h
   .cases h;exact Ae (S.cm V) K rfl hN v hl (nQ S.bk hl h0.1 h0.2) Y p B L c
   .cases h;exact F9 (S.cm V) K rfl hN v hl (nQ S.bk hl h0.1 h0.2) Y p B L c
  .rename_i z;obtain⟨O,j,h⟩:=af h;cases h;refine Bo hN v Z (R.E S.toSit j) (uT ?_) a;obtain⟨g,_⟩:=aA F;simp only[Sn,vD,TR] at g;rcases g.1 with y|y
   .rw[y] at z;cases z
   .exact S.ce x (by unfold sj at y;simpa using y)
 .obtain⟨h0,h⟩:=aA h;obtain⟨O,j,h⟩:=af h;cases h;exact Bo hN v Z (R.E S.toSit j) (kQ h0 _ _ _) a
noncomputable def Le(e:Expr):Option (Expr×Expr):=match e with
 | .Tuple es _ _=>match es with
  |[a,b]=>some (a,b)
  |_=>none
 |_=>none
theorem yB{a:Expr}(h:Le e=some (a,b)):∃c p,e=.Tuple [a,b] c p:=by
 cases e with
 |Tuple es c p=>match es,h with
  |[a,b],h=>cases h;exact⟨c,p,rfl⟩
 |_=>cases h
def IX(ts:List Expr):Option ((Str×Pos)×Str×Pos):=match ts with
 |[a,b]=>aq (GZ a) λp=>aq (GZ b) λq=>some (p,q)
 |_=>none
theorem xO(h:IX ts=some ((x,px),y,py)):ts=[.Name x px,.Name y py]:=by
 match ts,h with
 |[a,b],h=>obtain⟨p,h1,h⟩:=af h;obtain⟨q,h2,h⟩:=af h;cases h;rw[iL h1,iL h2]
def u5(r:Tr)(s:Sc)(ts:List Expr)(e:Expr):Option Ms:=eB (vQ e&&kN e) (aq (r.E s e) λm=>aq (Dp s 0 9 (.Tuple ts 0 default)) λg=>some (GP m g))
def C0(r:Tr)(s:Sc)(ts:List Expr)(e:Expr):Option Ms:=match IX ts with
 | some ((x,px),y,py)=>(match Le e with
  |some (a,b)=>eB (!s.hd&&sj s x .local&&sj s y .local&&okN x&&okN y&&Rf x y px py a b) (aq (jD s x) λi=>aq (jD s y) λj=>eB (i != j) (aq (Bi (r.E s) [a,b]) λm=>some (zF i j m)))
  | none=>u5 r s ts e)
 |none=>u5 r s ts e
theorem LA{lo d:Nat}{n w:Nat}{C:Pos}{g:Mg}(h:Dp s lo d (.Tuple ts n p)=some g):Dp s lo d (.Tuple ts w C)=some g:=by
 cases d with
 |zero=>cases h
 |succ d=>exact h
theorem pX(R:cO tb k r)(S:kL tb k X E s){pt:Pos}{m:Ms}(h:u5 r s ts e=some m):JS X E (.Assign [.Tuple ts kt pt] e pos) m:=by obtain⟨h0,h⟩:=aA h;rw[Sn] at h0;obtain⟨O,F,h⟩:=af h;obtain⟨g,j,h⟩:=af h;cases h;exact KO (R.E S.toSit F) (oi S.toSit (LA j)) (tY h0.2 _ _) (ow h0.1) (hp:=λx y=>Bu x y (tY h0.2 _ _) (ow h0.1))
theorem Cb(R:cO tb k r)(S:kL tb k X E s){pt:Pos}{m:Ms}(h:C0 r s ts e=some m):JS X E (.Assign [.Tuple ts kt pt] e pos) m:=by
 unfold C0 at h;cases l:IX ts with
 |none=>rw[l] at h;exact pX R S h
 |some p=>
  obtain⟨⟨x,px⟩,y,py⟩:=p;rw[l] at h;dsimp only at h;cases o:Le e with
  |none=>rw[o] at h;exact pX R S h
  |some p=>
   obtain⟨a,b⟩:=p;rw[o] at h;obtain⟨h0,h⟩:=aA h;simp only[Sn,S7] at h0;obtain⟨⟨⟨⟨⟨h1,h2⟩,h3⟩,_⟩,_⟩,h4⟩:=h0;obtain⟨i,F,h⟩:=af h;obtain⟨j,J,h⟩:=af h;obtain⟨q,h⟩:=aA h;obtain⟨ma,D,h⟩:=af h;cases h;obtain rfl:=xO l;obtain⟨c,p,rfl⟩:=yB o;have hN:X.N.Nodup:=by rw[S.n];exact S.nd
   have l1:=S.lc x (show s.nm.lookup _=_ by unfold sj at h2;simpa using h2);have Q:=S.lc y (show s.nm.lookup _=_ by unfold sj at h3;simpa using h3);have H:i≠j:=by simpa using q
   exact IC (mL (λ_ _=>R.E S.toSit) D).1 H (λy=>Io (S.cm h1) hN (S.jD F).1 (S.jD J).1 H l1 Q y (O0 h4 l1 Q S.bk))
def Nb(r:Tr)(s:Sc)(x:Str)(U e:Expr):Option Ms:=aq (slot s x) λi=>aq (r.E s U) λmk=>aq (r.E s e) λm=>eB (!s.hd&&iC U) (match s.di.contains x with
 |true=>some (kg i mk m)
 | false=>some (m8 i mk m))
theorem DN(R:cO tb k r)(S:kL tb k X E s){U:Expr}{m:Ms}(h:Nb r s x U e=some m):JS X E (.Assign [.Subscript (.Name x px) U p1] e pos) m:=by
 obtain⟨i,F,h⟩:=af h;obtain⟨mk,j,h⟩:=af h;obtain⟨O,D,h⟩:=af h;obtain⟨V,h⟩:=aA h;simp only[Sn,S7] at V;obtain⟨v,Z,G,a⟩:=S.slot F;split at h
 .cases h;exact Gw (tj (S.rm V.1)) v Z G a (R.E S.toSit j) (R.E S.toSit D) qx
 .cases h;exact Cq v Z G a (R.E S.toSit j) (R.E S.toSit D) (λx y z=>Bu z (Ko x y set_list (DM V.2)) zL uF)
theorem qA:swapsWith e (some (.Attribute o f p)) l env=pure false:=by cases e<;>rfl
noncomputable def MW:Expr->Bool
 | .List es _=>es.isEmpty
 |_=>false
theorem ym(h:MW e=true):∃p,e=.List [] p:=by
 cases e<;>first|(cases h;done)|skip
 rename_i es p;cases es with
 |nil=>exact⟨p,rfl⟩
 |cons a b=>cases h
def NM(tb:Tb)(r:Tr)(s:Sc)(x f:Str)(e:Expr):Option Ms:=aq (slot s x) λi=>match s.lv.contains ("*nob" : Str)&&s.lv.contains f&&MW e with
 |true=>some (wx (mY tb f) i f)
 |false=>aq (r.E s e) λm=>some (gD (mY tb f) i f m)
theorem EF(R:cO tb k r)(S:kL tb k X E s){m:Ms}(h:NM tb r s x f e=some m):JS X E (.Assign [.Attribute (.Name x px) f p1] e pos) m:=by
 obtain⟨i,F,g⟩:=af h;clear h;obtain⟨v,Z,G,a⟩:=S.slot F;split at g
 .rename_i z;rw[Sn] at z;obtain⟨p,rfl⟩:=ym z.2;cases g;exact Dw v Z G a (λc C=>S.gd.fl _ c C) (zY vv) qA
 .obtain⟨O,j,g⟩:=af g;cases g;exact Ei v Z G a (λc C=>S.gd.fl _ c C) (R.E S.toSit j) qA
def zN(tb:Tb)(r:Tr)(s:Sc)(t e:Expr):Option Ms:=match t with
 | .Name x px=>BU r s x px e
 | .Tuple ts _ _=>C0 r s ts e
 | .Subscript (.Name x _) ek _=>Nb r s x ek e
 | .Attribute (.Name x _) f _=>NM tb r s x f e
 |_=>none
theorem Bj(R:cO tb k r)(S:kL tb k X E s){t:Expr}{m:Ms}(h:zN tb r s t e=some m):JS X E (.Assign [t] e pos) m:=by
 unfold zN at h;split at h
 .exact xC R S h
 .exact Cb R S h
 .exact DN R S h
 .exact EF R S h
 .cases h
end
section
variable{tb:Tb}{k:Nat}{X:Cx}{E:XK}{s:Sc}
def u0(F:Stmt->Option Ms):List Stmt->Option Ms
 |[]=>some br
 |[a]=>F a
 |a::b::r=>aq (F a) λm=>aq (u0 F (b::r)) λn=>some (av m n)
theorem ja{F:Stmt->Option Ms}(h:∀a m,F a=some m->JS X E a m):∀{l:List Stmt}{m:Ms},u0 F l=some m->yF X E l m
 |[],m,e=>by cases e;exact GV
 |[a],m,e=>Er (h _ _ e)
 |a::b::r,m,e=>by obtain⟨O,B,e⟩:=af e;obtain⟨p,j,e⟩:=af e;cases e;exact Bh (h _ _ B) (ja h j)
noncomputable def xS(tb:Tb)(r:Tr)(s:Sc)(F:Sc->Stmt->Option Ms)(st:Stmt):Option Ms:=none
theorem Ow{F:Sc->Stmt->Option Ms}(R:cO tb k r)(S:kL tb k X E s)(x:∀H,Passes GA X H->∀a m,F (RM s) a=some m->JS X H a m){st:Stmt}{m:Ms}(h:xS tb r s F st=some m):JS X E st m:=by cases h
end
variable{base:Heap}{dV:Value}
section
variable{tb:Tb}{k:Nat}{X:Cx}{E:XK}{s:Sc}
def Ho(r:Tr)(s:Sc)(tg it:Expr)(b:Ms):Option Ms:=eB (gY it) (aq (QN r s tg it) λm=>aq (Dp s 0 9 tg) λG=>some (dh m G b))
theorem B2(R:cO tb k r)(S:kL tb k X E s)(V:s.hd=false){it:Expr}{body:List Stmt}{b m:Ms}(d:yF X E body b)(h:Ho r s tg it b=some m):JS X E (.For tg it body [] pos) m:=by obtain⟨h0,h⟩:=aA h;obtain⟨O,F,h⟩:=af h;obtain⟨G,j,h⟩:=af h;cases h;exact IG (S.po V) (S.cm V) (B8 R S.toSit F) (oi S.toSit j) d (jJ h0 _)
def Al(tb:Tb)(r:Tr)(s:Sc)(ts:List Expr)(e:Expr):Option Ms:=match ts with
 |[t]=>zN tb r s t e
 |_=>none
def QQ(tb:Tb)(r:Tr)(s:Sc)(ex ca:Option Expr):Option Ms:=some fz
def Sj(tb:Tb)(r:Tr)(s:Sc)(F:Sc->Stmt->Option Ms):Stmt->Option Ms
 | .Assign ts e _=>Al tb r s ts e
 | .Return none _=>some HP
 | .Return (some e) _=>aq (r.E s e) λm=>some (bc m)
 | .If t a b _=>aq (r.T s t) λmt=>aq (u0 (F s) a) λm=>aq (u0 (F s) b) λn=>some (f9 mt m n)
 | .While t b els _=>eB (!s.hd&&els.isEmpty) (aq (r.T s t) λmt=>aq (u0 (F s) b) λm=>some (iy AL mt m))
 | .For tg it b els _=>eB (!s.hd&&els.isEmpty) (aq (u0 (F s) b) λm=>Ho r s tg it m)
 | .Raise ex ca _=>QQ tb r s ex ca
 | .Expr e _=>eB (kN e) (aq (r.E s e) λm=>some (bA m))
 | .Pass _=>some br
 | .Break _=>some Bw
 | .Continue _=>some HQ
 |_=>none
def Md(tb:Tb)(r:Tr):Nat->Sc->Stmt->Option Ms
 |0,_,_=>none
 |d+1,s,st=>Bm (xS tb r s (Md tb r d) st) (Sj tb r s (Md tb r d) st)
theorem kL.MZ{h:XK}(S:kL tb k X E s)(h1:Passes GA X h):kL tb k X h (RM s):=⟨⟨S.n,S.nd,S.gl,S.vs,S.lo,S.lc,S.ce,S.fx,S.cm,S.rm,λ_=>h1,S.gd⟩,S.po,S.st,S.bk⟩
theorem vf{r:Tr}(R:cO tb k r):∀{d:Nat}{X:Cx}{E:XK}{s:Sc}{st:Stmt}{m:Ms},kL tb k X E s->Md tb r d s st=some m->JS X E st m
 |0,X,E,s,st,m,S,h=>by cases h
 |d+1,X,E,s,st,m,S,h=>by
  have l:∀a m,Md tb r d s a=some m->JS X E a m:=λa m e=>vf R S e;unfold Md at h;have h':=cV h;clear h;rcases h' with h|h
  .exact Ow R S (λi h1 a m e=>vf R (S.MZ h1) e) h
  cases st with
  |Assign ts e _=>
   have h:Al tb r s ts e=some m:=h;unfold Al at h;split at h
   .exact Bj R S h
   .cases h
  |Return v _=>cases v with
   |none=>cases h;exact Gq
   |some e=>obtain⟨O,F,h⟩:=af h;cases h;exact Kb (R.E S.toSit F)
  |If t a b _=>obtain⟨mt,F,h⟩:=af h;obtain⟨O,j,h⟩:=af h;obtain⟨p,D,h⟩:=af h;cases h;exact Oo (R.T S.toSit F) (ja l j) (ja l D)
  |While t b x _=>have h':=aA h;clear h;obtain⟨h0,h⟩:=h';simp only[Sn,S7,Uy] at h0;obtain⟨V,rfl⟩:=h0;obtain⟨mt,F,h⟩:=af h;obtain⟨O,j,h⟩:=af h;cases h;exact z0 (S.po V) (R.T S.toSit F) (ja l j)
  |For tg it b x _=>have h':=aA h;clear h;obtain⟨h0,h⟩:=h';simp only[Sn,S7,Uy] at h0;obtain⟨V,rfl⟩:=h0;obtain⟨O,j,h⟩:=af h;exact B2 R S V (ja l j) h
  |Raise ex ca _=>cases h;exact FP
  |Expr e _=>obtain⟨h0,h⟩:=aA h;obtain⟨O,F,h⟩:=af h;cases h;exact EL (R.E S.toSit F) (kQ h0 _ _ _)
  |Pass _=>cases h;exact Fh
  |Break _=>cases h;exact C8
  |Continue _=>cases h;exact D6
  |_=>cases h
structure DI where
 cl:Option Str
 name:Str
 st:Stmt
 N:List Str
 n:Nat
 di:List Str
 mu:List Bool
 df:List A
 lv:List Str
 m:Ms
 ce:List Str:=[]
 tp:Bool:=false
 sp:Bool:=false
def DI.sc(d:DI):Sc:={ N:=d.N,nm:=(bp d.st).names,di:=d.di,ca:=[],hd:=false,lv:=d.lv }
def iF(d:DI):Bool:=(bp d.st).kind==.function&&!(bp d.st).isCoroutine&&!(bp d.st).isGenerator&&decide d.N.Nodup&&U5 d.n d.N.length&&(d.N.take d.n).all (λx=>(bp d.st).names.lookup x==some .local || (bp d.st).names.lookup x==some .cell)&&(bp d.st).names.all (λy=>y.2 != .free)
variable{d:DI}
theorem i9(h:iF d=true):ku d.N (d.N.take d.n) (bp d.st)/\(d.N.take d.n).length=d.n:=by
 unfold iF at h;simp only[Sn,beq_iff_eq,S7,decide_eq_true_eq,Tf,TR,bne_iff_ne,ne_eq] at h;obtain⟨⟨⟨⟨⟨⟨h1,h2⟩,h3⟩,h4⟩,h5⟩,m⟩,b⟩:=h;have hl:(d.N.take d.n).length=d.n:=by rw[Tw];have:=TN h5;lia
 exact⟨⟨h1,h2,h3,h4,by rw[hl],m,b⟩,hl⟩
def DI.M(d:DI):Ms:=bf (d.N.length-d.n) d.m
noncomputable def DI.fi(d:DI):FI:=⟨d.n,d.M,d.mu,d.df,!d.ce.isEmpty⟩
noncomputable def DI.qual(d:DI):Str:=match d.cl with
 |none=>d.name
 |some c=>c++(("." : Str)++d.name)
def Tb.add(tb:Tb)(d:DI):Tb:=match d.cl with
 |none=>{ tb with fns:=(d.name,d.fi)::tb.fns }
 |some c=>match d.name==("__init__" : Str) with
  |true=>{ tb with ini:=(c,d.fi)::tb.ini }
  |false=>{ tb with mts:=(d.name,c,d.fi)::tb.mts }
noncomputable def L4:Nat:=40
noncomputable def A9:Ms:=λ_=>none
theorem AR{l:List Stmt}:yF X E l A9:=⟨λpins s Y H D I h=>by obtain⟨c,Z,B,θ,f,O,U,b,em,q⟩:=h;cases em⟩
def uK(tb:Tb)(d:DI):Option Ms:=match d.sp with
 |true=>some A9
 |false=>u0 (Md tb (tr tb L4) L4 d.sc) (fU d.st)
theorem F5{m:Ms}(h:uK tb d=some m)(S:kL tb k X E d.sc):yF X E (fU d.st) m:=by
 unfold uK at h;split at h
 .cases h;exact AR
 .exact ja (λa m e=>vf (nF L4) S e) h
theorem Hr{f:Addr}{qual:Str}(G:Gd tb k P w K mg base)(F:qW K d.name qual d.st f fd dV)(u:iF d=true)
  (h:uK tb d=some d.m):dq P w K mg base GA (k+1) f fd (d.N.take d.n) (jg ⟨K,mg,P,w⟩ d.n d.M):=by
 obtain⟨S,hl⟩:=i9 u;have V:=F4 (CX:=GA) (P:=P) (w:=w) (mg:=mg) (base:=base) (k:=k) (m:=d.m) F S (λcdv A outer s H E y=>F5 h (?_:kL tb k _ E d.sc))
 .rw[hl] at V;exact V
 .refine⟨⟨rfl,S.nd,λx C=>C,λx C=>?_,λx C=>?_,λx C=>C,λx C=>C,λx C=>.inl rfl,λ_=>rfl,λ_=>y,λ_ _ _ _ _ _ _ _ x=>x.elim,G⟩,λ_=>PassesOwn.leaving,λ_=>⟨rfl,rfl,rfl⟩,?_⟩
  .unfold F0 sj DI.sc at C;simp only[TR,beq_iff_eq] at C;rcases C with (z|z)|z
   .exact .inl z
   .exact .inr (.inl z)
   .exact .inr (.inr z)
  .unfold vD sj DI.sc at C;simp only[TR,beq_iff_eq] at C;exact C
  .show (if (bp d.st).kind.isAnnotationScope then ScopeKind.function else (bp d.st).kind)=.function;rw[S.kind];rfl
end
theorem vE:∀{us:List Value}{n:Str},us.length=ps.length->n∈ps->((ps.zip us).lookup n).isSome=true:=by
 induction ps with
 |nil=>intro us n _ h;cases h
 |cons p ps l=>
  intro us n hl h;cases us with
  |nil=>cases hl
  |cons u us=>
   rw[UD,SX];split
   .rfl
   .rename_i z;rcases SO.mp h with y|y
    .rw[y,beq_self_eq_true] at z;cases z
    .exact l (by simpa using hl) y
theorem nh:∀{us:List Value}{pre:List (Str×Value)},us.length=ps.length->ps.Nodup->(∀n∈ps,pre.lookup n=none)->ps.filterMap (λn=>((pre++ps.zip us).lookup n).map (n,·))=ps.zip us:=by
 induction ps with
 |nil=>intro us pre _ _ _;rfl
 |cons p ps l=>
  intro us pre hl nd hp;cases us with
  |nil=>cases hl
  |cons u us=>
   obtain⟨C,S⟩:=S8.mp nd;have F:(pre++(p,u)::ps.zip us).lookup p=some u:=by rw[Xm,hp p SN,SX,beq_self_eq_true];rfl
   rw[UD,U2,F];show (p,u)::_=_
   congr 1
   have:=l (us:=us) (pre:=pre++[(p,u)]) (by simpa using hl) S (λn hn=>by rw[Xm,hp n (SE _ hn),SX];have:(n==p)=false:=beq_eq_false_iff_ne.mpr λz=>C (z▸hn);rw[this];rfl)
   simpa[Sw] using this
theorem lJ{α β:Type}{f:α->β->Sem (ForInStep β)}{g:β->α->β}(h:∀a b,f a b=pure (.yield (g b a))):∀(l:List α)(b:β),(forIn l b f:Sem β)=pure (l.foldl g b)
 |[],_=>rfl
 |a::l,b=>by rw[XF,h,pure_bind];exact lJ h l _
noncomputable def t5(S:List (Str×Value))(x:Str×Value):List (Str×Value):=if (S.lookup x.1).isNone=true then S++[(x.1,x.2)] else S
variable{us:List Value}
theorem rL(h1:fd.params.posonlyargs=[])(h2:fd.params.kwonlyargs=[])(h3:fd.params.vararg=none)(h4:fd.params.kwarg=none)(m:fd.params.args.map (·.arg)=ps)(hl:us.length<=ps.length):
  ∃k,bindArgs fd ⟨us,[]⟩=seqItems? fd.defaults >>= k/\∀(o:Option (Array Value))(ds:List Value),(o.getD #[]).toList.drop ((o.getD #[]).toList.length-ps.length)=ds->
   (ps.take (ps.length-ds.length)).filter (λn=>((ps.zip us).lookup n).isNone)=[]->
   k o=pure ((ps++[]).filterMap λn=>((((ps.drop (ps.length-ds.length)).zip ds).foldl t5 (ps.zip us)).lookup n).map (n,·)):=by
 obtain⟨nm,x,l,i,sc,gl,cl,de,Q,H,pm,an,cd,ct,G⟩:=fd;obtain⟨po,E,h,X,r,q,df⟩:=l;obtain rfl:E.map (·.arg)=ps:=m;obtain rfl:po=[]:=h1;obtain rfl:X=[]:=h2;obtain rfl:h=none:=h3;obtain rfl:q=none:=h4;refine⟨_,rfl,λo ds hd hm=>?_⟩;subst hd;refine(if_neg (λz=>?_)).trans ?_
 .rw[Sn,decide_eq_true_eq] at z;exact absurd z.1 (Nat.not_lt.mpr hl)
 refine(if_neg (λz=>?_)).trans ?_
 .rw[S7,List.isEmpty_eq_false_iff] at z;exact z hm
 refine(congrArg (· >>= _) (lJ (g:=t5) (λa b=>?_) _ _)).trans ?_
 .unfold t5;by_cases z:(b.lookup a.1).isNone=true
  .rw[if_pos z];exact if_pos z
  .rw[if_neg z];exact if_neg z
 .exact rfl
theorem kf(hl:us.length=ps.length):ps.filter (λn=>((ps.zip us).lookup n).isNone)=[]:=by
 rw[UL];intro n hn;have:=vE hl hn;cases e:(ps.zip us).lookup n with
 |none=>rw[e] at this;cases this
 |some v=>exact Tg
theorem ui(h1:fd.params.posonlyargs=[])(h2:fd.params.kwonlyargs=[])(h3:fd.params.vararg=none)(h4:fd.params.kwarg=none)(h5:fd.defaults=.none)(m:fd.params.args.map (·.arg)=ps)(nd:ps.Nodup)(hl:us.length=ps.length):
  bindArgs fd ⟨us,[]⟩=pure (ps.zip us):=by
 obtain⟨k,F,j⟩:=rL (us:=us) h1 h2 h3 h4 m (V9 hl);rw[F,h5];refine(j none [] X1 (by rw[U1,W6,S9];exact kf hl)).trans ?_;rw[Tp,List.zip_nil_right];have R:=nh (pre:=[]) hl nd (λn _=>rfl);rw[UB] at R;exact congrArg pure R
theorem AM:∀{us:List Value}{z:Str},z∉ps->(ps.zip us).lookup z=none:=by
 induction ps with
 |nil=>intro us z _;rfl
 |cons p ps l=>
  intro us z hz;cases us with
  |nil=>rfl
  |cons u us=>rw[UD,SX];have:(z==p)=false:=beq_eq_false_iff_ne.mpr λy=>hz (y▸SN);rw[this];exact l λy=>hz (SE _ y)
variable{qs:List Str}
theorem yA:∀{us:List Value},us.length=ps.length->(ps++qs).zip us=ps.zip us:=by
 induction ps with
 |nil=>intro us h;cases us with
  |nil=>cases qs<;>rfl
  |cons _ _=>cases h
 |cons p ps l=>intro us h;cases us with
  |nil=>cases h
  |cons u us=>rw[Ux,UD,UD,l (by simpa using h)]
theorem z7{s:Shared}{z:Str}{q:Addr}{o:Obj}{E:Value}{ep:Nat}(h1:fd.params.posonlyargs=[])(h2:fd.params.kwonlyargs=[])(h3:fd.params.vararg=none)(h4:fd.params.kwarg=none)(h5:fd.defaults=.ref q)(i:s.heap.get? q=some o)(u:o.data=.seq #[E] ep)
  (m:fd.params.args.map (·.arg)=qs++[z])(nd:(qs++[z]).Nodup):
  (us.length=(qs++[z]).length->BindsTo s fd ⟨us,[]⟩ ((qs++[z]).zip us))/\(us.length=qs.length->BindsTo s fd ⟨us,[]⟩ ((qs++[z]).zip (us++[E]))):=by
 have nz:z∉qs:=λy=>(SQ.mp nd).2.2 z y z SN rfl;have F:List.drop (1-(qs++[z]).length) [E]=[E]:=by rw[show 1-(qs++[z]).length=0 by simp];rfl
 have j:(qs++[z]).take ((qs++[z]).length - [E].length)=qs:=by simp
 have D:(qs++[z]).drop ((qs++[z]).length - [E].length)=[z]:=by simp
 refine⟨λhl=>?_,λhl=>?_⟩
 .obtain⟨k,w,L⟩:=rL (us:=us) h1 h2 h3 h4 m (V9 hl);refine .of_defaults h5 i u w ((L (some #[E]) [E] F ?_).trans ?_)
  .rw[j,UL];exact λn hn=>UL.mp (kf hl) n (Sv _ hn)
  .have J:¬ (((qs++[z]).zip us).lookup z).isNone=true:=UL.mp (kf hl) z (Sr _ SN);rw[D];have N:YV t5 ((qs++[z]).zip us) ([z].zip [E])=(qs++[z]).zip us:=if_neg J;rw[N,Tp];exact congrArg pure (nh (pre:=[]) hl nd (λn _=>rfl))
 .obtain⟨k,w,L⟩:=rL (us:=us) h1 h2 h3 h4 m (by rw[hl,SI];exact Ug _ _);have hz:(qs++[z]).zip us=qs.zip us:=yA hl;refine .of_defaults h5 i u w ((L (some #[E]) [E] F ?_).trans ?_)
  .rw[j,hz];exact kf hl
  .have Z:(us++[E]).length=(qs++[z]).length:=by rw[SI,SI,hl];rfl
   have h:(qs++[z]).zip (us++[E])=qs.zip us++[(z,E)]:=by rw[List.zip_append hl.symm];rfl
   rw[D,hz];have N:YV t5 (qs.zip us) ([z].zip [E])=qs.zip us++[(z,E)]:=if_pos (by rw[AM nz];rfl);rw[N,<-h,Tp];exact congrArg pure (nh (pre:=[]) Z nd (λn _=>rfl))
mutual
noncomputable def BY(K:So):Nat->Value->A->Bool
 |0,_,_=>false
 |n+1,v,a=>match v,a with
  | .none,.non=>true
  | .bool b,.bl c=>b==c
  | .int i _,.int j=>i==j
  | .str x _,.str y=>x==y
  | .ref p,.tup as=>(match K.lookup p with
   |some ⟨.type "tuple",none,.seq its _,_⟩=>U5 its.size 1000&&wZ K n its.toList as
   | _=>false)
  |_,_=>false
noncomputable def wZ(K:So):Nat->List Value->List A->Bool
 |0,_,_=>false
 |_+1,[],[]=>true
 |n+1,v::vs,a::as=>BY K n v a&&wZ K n vs as
 |_+1,_,_=>false
end
mutual
theorem qP{P:Program}{w:World}{K:So}{mg:Str->Option Value}:∀{n:Nat}{v:Value}{a:A},BY K n v a=true->∃x,RelV x v/\∀G,RA ⟨K,mg,P,w⟩ G x a
 |0,v,a,h=>by cases h
 |n+1,v,a,h=>by
  unfold BY at h;split at h
  .exact⟨.non,rfl,λ_=>.non⟩
  .rw[beq_iff_eq] at h;subst h;exact⟨.bl _,rfl,λ_=>.bl _⟩
  .rw[beq_iff_eq] at h;subst h;exact⟨.int _,⟨_,rfl⟩,λ_=>.int _⟩
  .rw[beq_iff_eq] at h;subst h;exact⟨.str _,⟨_,rfl⟩,λ_=>.str _⟩
  .split at h
   .rename_i its ep sl e;rw[Sn] at h;obtain⟨xs,h1,h2⟩:=uf (P:=P) (w:=w) (mg:=mg) h.2;refine⟨.ref _,rfl,λG=>.tup (.inr ⟨_,its,_,e,⟨rfl,rfl⟩,rfl,?_,h1⟩) (h2 G)⟩;have:=TN h.1;have:=kA;lia
   .cases h
  .cases h
theorem uf{P:Program}{w:World}{K:So}{mg:Str->Option Value}:∀{n:Nat}{vs:List Value}{as:List A},wZ K n vs as=true->∃xs,Vals xs vs/\∀G,bR ⟨K,mg,P,w⟩ G xs as
 |0,vs,as,h=>by cases h
 |_+1,[],[],h=>⟨[],.nil,λ_=>.nil⟩
 |n+1,v::vs,a::as,h=>by rw[wZ,Sn] at h;obtain⟨x,h1,h2⟩:=qP (P:=P) (w:=w) (mg:=mg) h.1;obtain⟨xs,h3,h4⟩:=uf (P:=P) (w:=w) (mg:=mg) h.2;exact⟨x::xs,.cons h1 h3,λG=>.cons (h2 G) (h4 G)⟩
 |_+1,[],_::_,h=>by cases h
 |_+1,_::_,[],h=>by cases h
end
noncomputable def gV(K:So)(x:Str):Option Value:=match WG K mainGlobals x with
 |some (some v)=>some v
 |_=>none
variable{h:Heap}
theorem vN(X:K.In h)(G:h.Ns mainGlobals mg){v:Value}(e:gV K x=some v):mg x=some v:=by
 unfold gV at e;split at e
 .rename_i q;cases e;exact PySem.W.mg_of X G q
 .cases e
def MG(K:So)(p:Str×A):Bool:=match gV K p.1 with
 |some v=>BY K 20 v p.2
 |none=>false
noncomputable def qY(K:So)(C:Addr):Bool:=UP K C Str.empty&&U6 K C&&VM K C&&Tz K (.ref C) "__setattr__" == some (some (.builtin "object.__setattr__"))
theorem qk{C:Addr}(h:qY K C=true):lQ K C:=by unfold qY at h;simp only[Sn,beq_iff_eq] at h;obtain⟨⟨⟨h1,h2⟩,h3⟩,h4⟩:=h;exact⟨h1,h2,h3,h4⟩
def MS(K:So)(p:Str×List Str):Bool:=match gV K p.1 with
 |some (.ref C)=>qY K C&&p.2.all λf=>Tz K (.ref C) f==some none
 |_=>false
def Hg(tb:Tb)(K:So):Bool:=tb.fns.isEmpty&&tb.cst.all (MG K)&&Du.all (λx=>WG K mainGlobals x==some none)&&tb.fld.all (MS K)&&tb.ini.isEmpty&&tb.mts.isEmpty
variable{tb:Tb}
theorem Iq(X:K.In h)(G:h.Ns mainGlobals mg)(e:Hg tb K=true):Gd tb 1 P w K mg base:=by
 unfold Hg at e;simp only[Sn,Uy,Tf,beq_iff_eq] at e;obtain⟨⟨⟨⟨⟨F,j⟩,D⟩,Y⟩,E⟩,b⟩:=e;refine⟨λx f q=>(by rw[F] at q;cases q),λx a q=>?_,λx q=>PySem.W.mg_none_of X G (D x q),λf c C q hm=>?_,λc f q=>(by rw[E] at q;cases q),λm c f q=>(by rw[b] at q;cases q)⟩
 .have:=j _ (dW q);unfold MG at this;split at this
  .rename_i v J;obtain⟨y,U,H⟩:=qP (P:=P) (w:=w) (mg:=mg) this;exact⟨y,v,vN X G J,U,H⟩
  .cases this
 .obtain⟨p,l,o⟩:=Ta.mp (VB.mp q);obtain⟨L,r⟩:=Uk.mp l;have t:=Y p L;subst o;unfold MS at t;split at t
  .rename_i I J;have:=vN X G J;rw[hm] at this;cases this;rw[Sn,Tf] at t;have:=t.2 f (VB.mp r);exact⟨qk t.1,by rw[beq_iff_eq] at this;exact this⟩
  .cases t
def uw(d:DI):Bool:=(dP d.st).posonlyargs.isEmpty&&(dP d.st).kwonlyargs.isEmpty&&(dP d.st).vararg.isNone&&(dP d.st).kwarg.isNone&&(dP d.st).args.map (·.arg)==d.N.take d.n
def Kg(K:So)(dV:Value)(a:A):Bool:=match dV with
 | .ref td=>match K.lookup td with
  | some ⟨_,_,.seq its _,_⟩=>(match its.toList with
   |[v]=>BY K 20 v a
   | _=>false)
  |_=>false
 |_=>false
def xD(K:So)(dV:Value):List A->Bool
 |[]=>match dV with
  | .none=>true
  |_=>false
 |[a]=>Kg K dV a
 |_=>false
variable{d:DI}
theorem KZ{qual:Str}{f:Addr}(h:uw d=true)(u:iF d=true)(F:qW K d.name qual d.st f fd dV)(hd:xD K dV d.df=true):oO P w K mg fd (d.N.take d.n) d.df:=by
 unfold uw at h;simp only[Sn,Uy,TC,beq_iff_eq] at h;obtain⟨⟨⟨⟨h1,h2⟩,h3⟩,h4⟩,h5⟩:=h;obtain⟨S,hl⟩:=i9 u;have nd:=S.nd.sublist (UH d.n d.N);obtain⟨p1,i⟩:fd.params=dP d.st/\fd.defaults=dV:=by obtain⟨oc,od,kV,doc,pm,an,cdv,ct,osl,e,_⟩:=F.ex;rw[e];exact⟨rfl,rfl⟩
 rw[<-p1] at h1 h2 h3 h4 h5;clear F p1 S hl u;cases e:d.df with
 |nil=>
  rw[e] at hd;have hd:dV=.none:=by cases dV<;>first|rfl|cases hd
  subst hd
  .intro j b;refine⟨[],[],Binds.all λus L=>ui h1 h2 h3 h4 i h5 nd L,.nil,λ_=>?_⟩;rw[X1];exact .nil
 |cons a as=>
  cases as with
  |cons _ _=>rw[e] at hd;cases hd
  |nil=>
   rw[e] at hd
   replace hd:Kg K dV a=true:=hd
   unfold Kg at hd;split at hd
   .rename_i m;split at hd
    .rename_i x y its ep sl A;split at hd
     .rename_i v J;obtain⟨o,Y,r⟩:=qP (P:=P) (w:=w) (mg:=mg) hd;have hi:its=#[v]:=by rw[<-Xr,J]
      subst hi;have E:∀(s:Shared)(us:List Value),K.In s.heap->((us.length=(d.N.take d.n).length->BindsTo s _ ⟨us,[]⟩ ((d.N.take d.n).zip us))/\(us.length+1=(d.N.take d.n).length->BindsTo s _ ⟨us,[]⟩ ((d.N.take d.n).zip (us++[v])))):=λs us X=>by
       rcases W7 (d.N.take d.n) with z|⟨qs,c,z⟩
       .rw[z] at h5 ⊢;refine⟨λhl=>?_,λhl=>by cases hl⟩;cases us with
        |cons _ _=>cases hl
        |nil=>obtain⟨k,Q,l⟩:=rL (us:=[]) h1 h2 h3 h4 h5 (SK 0);exact .of_defaults i (X _ _ A) rfl Q (l (some #[v]) [] rfl rfl)
       .rw[W8] at z;rw[z] at h5 nd ⊢;have:=z7 (s:=s) (us:=us) h1 h2 h3 h4 i (X _ _ A) rfl h5 nd;exact⟨this.1,λq=>this.2 (by simpa using q)⟩
      intro j b;rcases Nat.le_one_iff_eq_zero_or_eq_one.mp b with rfl|rfl
      .exact⟨[v],[o],λs us X L=>(E s us X).2 (by simpa using L),.cons Y .nil,λG=>.cons (r G) .nil⟩
      .exact⟨[],[],λs us X L=>by rw[Tp] at L ⊢;exact(E s us X).1 L,.nil,λG=>.nil⟩
     .cases hd
    .cases hd
   .cases hd
def wj:Tb->List DI->List (Option Ms)
 |_,[]=>[]
 |tb,d::ds=>uK tb d::wj (tb.add d) ds
def wU:Tb->List DI->Tb
 |tb,[]=>tb
 |tb,d::ds=>wU (tb.add d) ds
def jL(K:So)(mg:Str->Option Value)(d:DI)(f:Addr):Prop:=match d.cl with
 |none=>mg d.name=some (.ref f)
 |some c=>∃C,mg c=some (.ref C)/\lQ K C/\Meth K C d.name f/\(d.name=("__init__" : Str)->Mk K C f)
section
variable{P:Program}{w:World}{K:So}{mg:Str->Option Value}{base:Heap}
theorem Gd.up{k:Nat}(G:Gd tb j P w K mg base)(h:j<=k):Gd tb k P w K mg base:=⟨λx f e=>by
 obtain⟨a,fd,ps,F,r⟩:=G.fn x f e;exact⟨a,fd,ps,F.mono h,r⟩,G.cs,G.bl,G.fl,λc f e=>by
 obtain⟨C,a,fd,ps,i,hi,r⟩:=G.im c f e;exact⟨C,a,fd,ps,i,SW hi h,r⟩,λm c f e=>by
 obtain⟨C,a,fd,ps,F,r⟩:=G.mt m c f e;exact⟨C,a,fd,ps,F.mono h,r⟩⟩
theorem Gd.add{tb:Tb}{k:Nat}(G:Gd tb k P w K mg base){d:DI}{f:Addr}{fd:FuncData}{dV:Value}(m:jL K mg d f)(F:qW K d.name d.qual d.st f fd dV)(hd:xD K dV d.df=true)(u:iF d=true)(hp:uw d=true)
  (h:uK tb d=some d.m):Gd (tb.add d) (k+2) P w K mg base:=by
 have G2:=G.up (show k<=k+2 by lia);have X:=Hr G F u h;have E:oO P w K mg fd (d.N.take d.n) d.df:=KZ hp u F hd;unfold Tb.add;unfold jL at m;split
 .rename_i hc;rw[hc] at m;refine⟨λx fi e=>?_,G2.cs,G2.bl,G2.fl,G2.im,G2.mt⟩
  .have e:((d.name,d.fi)::tb.fns).lookup x=some fi:=e;rw[SX] at e;cases z:x==d.name with
   |true=>rw[z] at e;cases e;rw[beq_iff_eq] at z;subst z;exact⟨f,fd,_,X.mono (Vc _),m,F.kp,E⟩
   |false=>rw[z] at e;exact G2.fn x fi e
 .rename_i c hc;rw[hc] at m;obtain⟨C,O,p,a,b⟩:=m;split
  .rename_i z;rw[beq_iff_eq] at z;refine⟨G2.fn,G2.cs,G2.bl,G2.fl,λx fi e=>?_,G2.mt⟩;have e:((c,d.fi)::tb.ini).lookup x=some fi:=e;rw[SX] at e;cases y:x==c with
   |true=>rw[y] at e;cases e;rw[beq_iff_eq] at y;subst y;exact⟨C,f,fd,_,k+1,SK _,X,O,b z,E⟩
   |false=>rw[y] at e;exact G2.im x fi e
  .refine⟨G2.fn,G2.cs,G2.bl,G2.fl,G2.im,λx y fi e=>?_⟩;rcases SO.mp e with e|e
   .cases e;exact⟨C,f,fd,_,X.mono (Vc _),O,p,a,E⟩
   .exact G2.mt x y fi e
theorem Gd.all:∀{ds:List DI}{tb:Tb}{k:Nat},Gd tb k P w K mg base->(∀d∈ds,∃f fd dV,jL K mg d f/\qW K d.name d.qual d.st f fd dV/\xD K dV d.df=true)->ds.all (λd=>iF d&&uw d)=true->wj tb ds=ds.map (λd=>some d.m)->Gd (wU tb ds) (k+2*ds.length) P w K mg base
 |[],tb,k,G,_,_,_=>G
 |d::ds,tb,k,G,hf,hs,ht=>by rw[S2,Sn,Sn] at hs;obtain⟨t,U⟩:=List.cons.inj ht;obtain⟨f,fd,dV,m,F,hd⟩:=hf d SN;have:=Gd.all (G.add m F hd hs.1.1 hs.1.2 t) (λe R=>hf e (SE _ R)) hs.2 U;rw[SF,show k+2*(ds.length+1)=k+2+2*ds.length by lia];exact this
end
noncomputable abbrev B6:=Str×Str×Arguments×FuncBody×Scope×Addr×List (Str×Addr)×Addr×Bool
def MH(K:So)(d:DI):Option Addr:=match d.cl with
 |none=>match gV K d.name with
  |some (.ref f)=>some f
  |_=>none
 |some c=>match gV K c with
  |some (.ref C)=>match Tz K (.ref C) d.name with
   |some (some (.ref f))=>some f
   |_=>none
  |_=>none
def RG(K:So)(d:DI)(f:Addr):Bool:=match d.cl with
 |none=>true
 |some c=>match gV K c with
  |some (.ref C)=>qY K C&&VL K (.ref f)&&(!(d.name==("__init__" : Str)) || (V8 K C&&TV K (.ref C)))
  |_=>false
def IK(K:So)(d:DI):Option B6:=match MH K d with
 |some f=>match K.lookup f with
  |some ⟨_,_,.func x,_⟩=>some (x.name,x.qualname,x.params,x.body,x.scope,x.globals,x.closure,x.builtins,Vt K x.code d.qual&&TV K (.ref f)&&xD K x.defaults d.df&&RG K d f)
  |_=>none
 |none=>none
def Mb(d:DI):Option B6:=some (d.name,d.qual,dP d.st,.stmts (fU d.st),bp d.st,mainGlobals,[],builtinsNs,true)
theorem FV(X:K.In h)(G:h.Ns mainGlobals mg)(e:IK K d=Mb d):∃f fd dV,jL K mg d f/\qW K d.name d.qual d.st f fd dV/\xD K dV d.df=true:=by
 unfold IK Mb at e;split at e
 .rename_i f V;split at e
  .rename_i v Z x Q A;obtain⟨b1,b2,H,Y,k,B,L,T,U,p,o,q,r,a,b⟩:=x;simp only[Y2,Prod.mk.injEq] at e;obtain⟨rfl,rfl,rfl,rfl,rfl,rfl,rfl,rfl,i⟩:=e;simp only[Sn] at i;obtain⟨⟨⟨g,R⟩,S⟩,I⟩:=i;refine⟨f,_,_,?_,⟨⟨_,_,_,_,_,_,_,_,_,rfl,A,g⟩,R⟩,S⟩;unfold jL;unfold MH at V;unfold RG at I;split
   .rename_i hc;rw[hc] at V;simp only at V;split at V
    .rename_i m J;cases V;exact vN X G J
    .cases V
   .rename_i c hc;rw[hc] at V I;simp only at V I;split at V
    .rename_i C J;rw[J] at I;simp only[Sn,TR,S7,beq_eq_false_iff_ne] at I;split at V
     .rename_i m E;cases V;refine⟨C,vN X G J,qk I.1.1,⟨E,I.1.2,R⟩,λz=>?_⟩;rcases I.2 with y|y
      .exact absurd z y
      .rw[z] at E;exact⟨y.1,E,I.1.2,y.2⟩
     .cases V
    .cases V
  .cases e
 .cases e
def Mr(ds:List DI)(q:So->Bool)(K:So):List (Option B6)×Bool:=(ds.map (IK K),q K)
def Mn(ds:List DI):List (Option B6)×Bool:=(ds.map Mb,true)
def hk(ds:List DI)(q:So->Bool):XJ where
 α:=List (Option B6)×Bool
 obs:=λs=>Mr ds q (W.jf s.heap)
 val:=λ_=>Mn ds
 says:=λ_ h=>∃K:So,Mr ds q K=Mn ds/\K.In h
 of:=λ_ s e=>⟨W.jf s.heap,e,W.n8 _⟩
 keeps:=λ_ _ _ ⟨K,e,i⟩ k=>⟨K,e,i.keeps k⟩
variable{ds:List DI}
theorem Fp{q:So->Bool}(X:K.In h)(G:h.Ns mainGlobals mg)(e:Mr ds q K=Mn ds):q K=true/\∀d∈ds,∃f fd dV,jL K mg d f/\qW K d.name d.qual d.st f fd dV/\xD K dV d.df=true:=by obtain⟨F,j⟩:=Prod.mk.inj e;exact⟨j,λd hd=>FV X G (List.map_eq_map_iff.mp F d hd)⟩
theorem A7{l:Xl}{q:Program}{loose:List Str}{XP:(Str->Option Value)->Heap->Prop}{d:DefRec}{di:DI}(hn:l.most=some 63)(I:d.params.defaults=[])(g:d.name = "law")
  (B:(ds++[di]).all (λd=>iF d&&uw d)=true)(ht:wj tb ds=ds.map (λd=>some d.m))(hl:uK (wU tb ds) di=some di.m)(r:di.name = "law")(b:di.cl=none)(v:di.df=[])(C:di.N.take di.n=[x])(y:cQ (2+2*ds.length) callerA)
  (hm:∀ns:List Int,ns.length<=63->∃Z,di.M [.fr (.lst (ns.map A.int))]=some (.rt (.fr (.bl true)),Z)):
  XB q loose XP (hk (ds++[di]) (Hg tb)).says l.row.toRowW d [] (λf vs=>Xe f vs):=by
 refine W.xH (CX:=GA) (l:=l) (n:=63) (k:=2+2*ds.length) (x:=x) (sp:=Br) hn (by decide) I y (λw mg D h Y G o=>?_) (λ_ _ _ _ _ z=>z) (λ_ _ a ns hl _ p=>⟨a,ns,rfl,p,hl,λ_=>rfl⟩);obtain⟨K,e,c⟩:=Y;obtain⟨F,j⟩:=Fp c G e;refine⟨K,c,?_⟩;rw[List.all_append,Sn] at B;obtain⟨f,fd,dV,O,Q,E⟩:=j di (Sr _ SN);rw[v] at E;have E:dV=.none:=by cases dV<;>first|rfl|cases E
 subst E;unfold jL at O;rw[g] at o;rw[b] at O;simp only at O;rw[r,o] at O;cases O;have X:=Tf.mp B.2 di SN;rw[Sn] at X;have i:di.n=1:=by have:=(i9 X.1).2;rw[C] at this;exact this.symm
 refine⟨fd,λs u=>?_,λbase _ _=>?_⟩
 .obtain⟨oc,od,kV,doc,pm,an,cdv,ct,osl,rfl,U,t⟩:=Q.ex;obtain⟨S,L⟩:=i9 X.1;have hp:=X.2;unfold uw at hp;simp only[Sn,Uy,TC,beq_iff_eq] at hp;obtain⟨⟨⟨⟨h1,h2⟩,h3⟩,h4⟩,h5⟩:=hp;have:=ui (fd:=VO di.name di.qual (dP di.st) (fU di.st) (bp di.st) .none kV doc pm an cdv ct) (us:=[u]) h1 h2 h3 h4 rfl h5 (S.nd.sublist (UH _ _)) (by rw[C];rfl);rw[C] at this;exact .of_eq this
 .have T:=Gd.all (Iq (P:=l.prog) (w:=w) (base:=base) c G F) (λd hd=>j d (Sv _ hd)) B.1 ht;have H:=Hr T Q X.1 hl;rw[C,i,show 1+2*ds.length+1=2+2*ds.length by lia] at H;exact Lo H hm
end M
set_option maxHeartbeats 4000000
namespace W
open PySem L2 M
noncomputable def top(i:Nat):Stmt:=PySem.Challenge.pw_fitwhatever_k16_parts_moved.main.body.getD i (.Pass ⟨0,0,0,0⟩)
def topC(i j:Nat):Stmt:=match top i with
 | .ClassDef _ _ _ b _ _ _ _ _ _ _=>b.getD j (.Pass ⟨0,0,0,0⟩)
 |s=>s
abbrev mix(m n:Mi Rr):Mi Rr:=aD (bS jb bZ) m n
abbrev aG(i:Int):Mi Rr:=mC (.int i)
abbrev qO(b:Bool):A->A->Option Rr:=bS (bS (gb b) (eS b)) (kE b)
abbrev aV(f:Ms)(m:Mi (List Rr)):Mi Rr:=bQ f [] m
abbrev GG(t:Mi Bool):Ms:=f9 t (bc (mC (.bl false))) br
abbrev cF(a:Mi Rr):Mi (List Rr):=bx a dz
abbrev bJ(a b:Mi Rr):Mi (List Rr):=bx a (cF b)
abbrev fQ(a b c:Mi Rr):Mi (List Rr):=bx a (bJ b c)
abbrev lH(a b c d:Mi Rr):Mi (List Rr):=bx a (fQ b c d)
def lV:Ms:=av (aK 2 (aG 0)) (av (f9 (ao (aD vc (aa 1) (cb gc (aa 0)))) (aK 2 (mix (aa 0) (aa 1))) br) (bc (cS (fQ (cb Fu (aD Mo (cb qZ (aa 2)) (aD nN (aG 10) (aG 18)))) (aa 2) (aD d5 (aG 17) (aa 1))))))
def lP:Ms:=bf 1 lV
def lX:Ms:=av (f9 (ao (aD gG (mix (aa 0) (aG 0)) (aG 1))) (av (aK 2 (aD j9 (mix (aa 0) (aG 1)) (aa 1))) (av (m8 0 (aG 1) (aD l9 (mix (aa 0) (aG 1)) (aa 1))) (bc (aa 2)))) br) (av (aK 3 (aD bt (mix (aa 0) (aG 2)) (aG 1))) (av (m8 0 (aG 2) (aa 3)) (av (aK 4 (aD j9 (aD d5 (aD bt (aD bt (mix (aa 0) (aG 1)) (aD d5 (aD d5 (aG 7919) (aa 3)) (aa 3))) (aa 3)) (aG 48271)) (aG 2305843009213693951))) (bc (aD j9 (aD l9 (aD j9 (aD bt (aD d5 (aa 4) (aG 1442695040888963407)) (aG 4321)) (aG 2305843009213693921)) (aG 64)) (aa 1))))))
def az:Ms:=bf 3 lX
def l4:Ms:=av (aK 2 (mC (.str "abcdefghijklmnopqrstuvwxyz"))) (av (aK 3 (Dm kK (mC (.str "")) (bu 1 (eI (aD bt (aG 1) (aV az (bJ (aa 0) (aG 8))))) (aH 4) bj (mix (aa 2) (aV az (bJ (aa 0) (aG 26))))))) (av (iy AL (ao (aD (bS (qO false) (fP false)) (aa 3) (aa 1))) (aK 3 (aD bt (MD (aa 3) j5 (oA (d0 nY (aG 1)))) (mix (aa 2) (aD j9 (aD bt (Dm sR (aa 2) (mix (aa 3) (d0 nY (aG 1)))) (aG 1)) (aG 26)))))) (bc (aa 3))))
def aQ:Ms:=bf 2 l4
def jr:Ms:=av (iy AL (ao (aD jc (aa 1) (aG 0))) (zF 0 1 (bJ (aa 1) (aD j9 (aa 0) (aa 1))))) (bc (cb qZ (aa 0)))
def jx:Ms:=bf 0 jr
def ng:Ms:=av (aK 2 (aV jx (bJ (ai 0) (ai 1)))) (bc (bC (bJ (aD l9 (aa 0) (aa 2)) (aD l9 (aa 1) (aa 2)))))
def fN:Ms:=bf 1 ng
def jo:Ms:=av (aK 1 (aV az (bJ (aa 0) (aG 8)))) (av (f9 (ao (aD gG (aa 1) (aG 7))) (bc (aV fN (bJ (aD vx (aV az (bJ (aa 0) (kT (aD bt (aD d5 (aG 2) (aD nN (aG 10) (aG 9))) (aG 1))))) (aD nN (aG 10) (aG 9))) (kT (aD bt (aG 1) (aV az (bJ (aa 0) (aD nN (aG 10) (aG 8))))))))) br) (av (f9 (ao (aD IA (aa 1) (aG 4))) (bc (aV fN (bJ (aD vx (aV az (bJ (aa 0) (aG 201))) (aG 100)) (kT (aD bt (aG 1) (aV az (bJ (aa 0) (aG 6)))))))) br) (bc (bC (bJ (aD vx (aV az (bJ (aa 0) (aG 9))) (aG 4)) (aG 1))))))
def bw:Ms:=bf 1 jo
def oR:Ms:=bc (aV fN (bJ (kT (aD bt (aD d5 (mix (aa 0) (aG 0)) (mix (aa 1) (aG 1))) (aD d5 (mix (aa 1) (aG 0)) (mix (aa 0) (aG 1))))) (aD d5 (mix (aa 0) (aG 1)) (mix (aa 1) (aG 1)))))
def fo:Ms:=bf 0 oR
def kC:Ms:=av (aK 2 (cS dz)) (av (aK 3 (cS dz)) (av (dh (eI (aV az (bJ (aa 0) (aG 5)))) (aH 4) (f9 (ao (aD vc (cb gc (aa 2)) (aa 1))) (av (aK 5 (bQ (jq 1 aQ) [] (bJ (aa 0) (aa 2)))) (av (bA (dQ 2 (bI 2 (aa 5)))) (av (aK 6 (aV bw (cF (aa 0)))) (av (aK 7 (aV bw (cF (aa 0)))) (av (aK 8 (cS dz)) (av (dh (eI (mix (cS (lH (aG 0) (aG 0) (aG 1) (aG 2))) (aV az (bJ (aa 0) (aG 4))))) (aH 9) (f9 (ao (aD vc (cb gc (aa 2)) (aa 1))) (av (bA (dQ 2 (bI 2 (bQ (jq 1 aQ) [] (bJ (aa 0) (aa 2)))))) (av (aK 10 (aV bw (cF (aa 0)))) (av (aK 11 (mix (cS (fQ (mC (.str "fixed")) (mC (.str "big")) (mC (.str "small")))) (aV az (bJ (aa 0) (aG 3))))) (bA (dQ 8 (bI 8 (bC (fQ (mix (aa 2) (d0 nY (aG 1))) (bC (bJ (cb qZ (mix (aa 10) (aG 0))) (mix (aa 10) (aG 1)))) (aa 11))))))))) br)) (bA (dQ 3 (bI 3 (bC (lH (aa 5) (aa 6) (aV fo (bJ (ai 6) (bC (bJ (cb qZ (mix (aa 7) (aG 0))) (mix (aa 7) (aG 1)))))) (cb hE (aa 8))))))))))))) br)) (bc (bC (bJ (aa 3) (aa 2))))))
def eO:Ms:=bf 10 kC
def nB:Ms:=av (aK 2 (cS dz)) (av (dh (bF (cb (ph bL bT) (aa 1))) (aH 3) (av (aK 4 (aV az (bJ (aa 0) (aG 6)))) (av (aK 5 (mix (cS (bx (bC (bJ (aG 0) (aG 1))) (bx (bC (bJ (aG 0) (aG 1))) (lH (bC (bJ (aG 1) (aG 1))) (bC (bJ (d0 nY (aG 1)) (aG 1))) (bC (bJ (aG 2) (aG 1))) (bC (bJ (aG 0) (aG 1))))))) (aa 4))) (av (f9 (ao (aD gG (aa 4) (aG 5))) (aK 5 (aV bw (cF (aa 0)))) br) (f9 (ao (aD jc (mix (aa 5) (aG 0)) (aG 0))) (bA (dQ 2 (bI 2 (bC (bJ (aa 3) (aa 5)))))) br))))) (bc (bC (bJ (aV bw (cF (aa 0))) (cb hE (aa 2))))))
def fL:Ms:=bf 4 nB
def kH:Ms:=av (aK 3 (cS dz)) (av (dh (eI (aa 2)) (aH 4) (av (aK 5 (aV aQ (bJ (aa 0) (kT (aD bt (bg (dy 1 3 (aH 8) bj (mix (aa 8) (aG 0))) (bu 1 (bF (aa 3)) (aH 8) bj (mix (aa 8) (aG 0)))) (cS (cF (mC (.str "frame"))))))))) (av (aK 6 (mix (mC (.str "xy")) (aV az (bJ (aa 0) (aG 2))))) (av (aK 7 (aD bt (cS (bJ (mC .non) (mC .non))) (bg (dy 1 3 (aH 8) (ao (aD gG (mix (aa 8) (aG 1)) (aa 6))) (mix (aa 8) (aG 0))) (bu 1 (bF (aa 3)) (aH 8) (ao (aD gG (mix (aa 8) (aG 1)) (aa 6))) (mix (aa 8) (aG 0)))))) (bA (dQ 3 (bI 3 (bC (lH (aa 5) (aa 6) (mix (aa 7) (aV az (bJ (aa 0) (cb gc (aa 7))))) (aV fL (bJ (aa 0) (ai 1)))))))))))) (bc (aa 3)))
def eR:Ms:=bf 5 kH
def hV:Ms:=av (GG (su (gZ (ao (cb (cG Ty.str) (aa 0)))) (gZ (ao (gT Oi Oi (aG 1) (cb gc (aa 0)) (aa 2)))))) (bc (cb (eJ λbs=>UM bs id) (bu 1 (bF (aa 0)) (aH 3) bj (aD (bS (qO false) (fP false)) (aa 3) (aa 1)))))
def eD:Ms:=bf 0 hV
def qp:Ms:=bc (aV eD (fQ (ai 0) (mC (.str "abcdefghijklmnopqrstuvwxyz0123456789.")) (aG 30)))
def pY:Ms:=bf 0 qp
def iD:Ms:=av (aK 1 qr) (dh (bF (aa 0)) (aH 2) (av (f9 (gZ (ao (aV pY (cF (ai 2))))) fz br) (av (f9 (ao (aD (bS (qO false) (fP false)) (aa 2) (aa 1))) fz br) (kg 1 (aa 2) (mC (.bl true))))))
def fJ:Ms:=bf 2 iD
def qc:Ms:=bc (aD vc (aD d5 (mix (aa 0) (aG 0)) (mix (aa 1) (aG 1))) (aD d5 (mix (aa 1) (aG 0)) (mix (aa 0) (aG 1))))
def kR:Ms:=bf 0 qc
def gA:Ms:=av (iy AL (ao (aD jc (aa 1) (aG 0))) (av (aK 2 (aD j9 (aa 0) (aa 1))) (av (aK 0 (aa 1)) (aK 1 (aa 2))))) (bc (aa 0))
def dH:Ms:=bf 1 gA
def nE:Ms:=bc (ip (cb (cG Ty.int) (aa 0)) (jw (cb (cG Ty.bool) (aa 0))))
def jP:Ms:=bf 0 nE
def lY:Ms:=av (GG (su (gZ (ao (cb (cG Ty.tuple) (aa 0)))) (ao (aD jc (cb gc (aa 0)) (aG 2))))) (av (GG (su (gZ (ao (aV jP (cF (mix (aa 0) (aG 0)))))) (su (gZ (ao (aV jP (cF (mix (aa 0) (aG 1)))))) (ao (aD vc (mix (aa 0) (aG 1)) (aG 1)))))) (bc (aD gG (aV dH (bJ (mix (aa 0) (aG 0)) (mix (aa 0) (aG 1)))) (aG 1))))
def fW:Ms:=bf 0 lY
def ig:Ms:=av (f9 (su (gZ (ao (aV fW (cF (ai 0))))) (gZ (ao (aV fW (cF (ai 1)))))) fz br) (f9 (ao (aV kR (bJ (ai 1) (ai 0)))) fz br)
def ie:Ms:=bf 0 ig
def i4:Ms:=av (f9 (su (gZ (ao (aV fW (cF (mix (aa 0) (aG 1)))))) (ao (aV kR (bJ (mix (aa 0) (aG 1)) (mC (.tup [.int 0,.int 1])))))) fz br) (f9 (ao (aD (bS (qO true) (fP true)) (mix (aa 0) (aG 2)) (mC (.tup [.str "fixed",.str "big",.str "small"])))) fz br)
def iN:Ms:=bf 0 i4
def j6:Ms:=bc (aD bt (cS (cF (d0 (aT ["Size", "Part"] "name") (aa 0)))) (bu 1 (bF (d0 (aT ["Size"] "shifts") (aa 0))) (aH 1) bj (mix (aa 1) (aG 0))))
def cf:Ms:=bf 0 j6
def ju:Ms:=av (aK 1 (cS dz)) (av (dh (bF (d0 (aT ["Stock"] "kept") (aa 0))) (aH 2) (bA (dQ 1 (mF 1 (aV cf (cF (bO "Size" "names" (ai 2)))))))) (bc (aa 1)))
def bM:Ms:=bf 2 ju
def lK:Ms:=av (gD ["Size", "Part"] 0 "name" (aa 1)) (av (gD ["Size"] 0 "least" (aa 2)) (av (gD ["Size"] 0 "most" (aa 3)) (av (gD ["Size"] 0 "shifts" (Eu (ao (aD (xM false) (aa 4) (mC .non))) (bC dz) (cb hE (bu 1 (bF (aa 4)) (aH 6) bj (bC (fQ (mix (aa 6) (aG 0)) (mix (aa 6) (aG 1)) (mix (aa 6) (aG 2)))))))) (av (bA (aV ie (bJ (ai 2) (ai 3)))) (av (dh (bF (d0 (aT ["Size"] "shifts") (aa 0))) (aH 5) (bA (aV iN (cF (ai 5))))) (bA (aV fJ (cF (kT (bg (aV bM (cF (bO "Stock" "names" (aa 0)))) (aV cf (cF (bO "Size" "names" (aa 0))))))))))))))
def cH:Ms:=bf 1 lK
def fb:Ms:=bc (hW "Size" cH [] (lH (d0 (aT ["Size", "Part"] "name") (aa 0)) (ai 1) (ai 2) (d0 (aT ["Size"] "shifts") (aa 0))))
def fK:Ms:=bf 0 fb
def jt:Ms:=bc (aV fK (fQ (ai 0) (d0 (aT ["Size"] "least") (aa 0)) (d0 (aT ["Size"] "most") (aa 0))))
def cW:Ms:=bf 0 jt
def j8:Ms:=av (gD ["Stock"] 0 "kept" (bu 1 (bF (aa 1)) (aH 2) bj (aV cW (cF (ai 2))))) (bA (aV fJ (cF (kT (bg (aV bM (cF (bO "Stock" "names" (aa 0)))) (aV cf (cF (bO "Size" "names" (aa 0)))))))))
def eP:Ms:=bf 0 j8
def pM:Ms:=bc (aV eD (fQ (ai 0) (mC (.str "abcdefghijklmnopqrstuvwxyz")) (aG 8)))
def gu:Ms:=bf 0 pM
def l6:Ms:=av (f9 (gZ (ao (aV gu (cF (ai 1))))) fz br) (av (gD ["Size", "Part"] 0 "name" (aa 1)) (av (gD ["Part"] 0 "own_stock" (hW "Stock" eP [] (cF (ai 2)))) (av (wx ["Part"] 0 "put_faces") (dh (bF (bg (aV bM (cF (bO "Stock" "names" (bg (cp ["Part"] 0 "own_stock") (d0 (aT ["Part"] "own_stock") (aa 0)))))) (aV cf (cF (bO "Size" "names" (bg (cp ["Part"] 0 "own_stock") (d0 (aT ["Part"] "own_stock") (aa 0)))))))) (aH 3) (f9 (gZ (ao (aV gu (cF (ai 3))))) fz br)))))
def dU:Ms:=bf 1 l6
def fH:Ms:=av (f9 (ao (aD (bS (qO true) (fP true)) (aa 1) (mC (.tup [.str "x",.str "y"])))) fz br) (av (aK 3 (bg (aV bM (cF (bO "Stock" "names" (bg (cp ["Part"] 0 "own_stock") (d0 (aT ["Part"] "own_stock") (aa 0)))))) (aV cf (cF (bO "Size" "names" (bg (cp ["Part"] 0 "own_stock") (d0 (aT ["Part"] "own_stock") (aa 0)))))))) (dh (bF (mix (aa 2) (aG 1))) (dj 2 (aJ (aH 4) (aJ (aH 5) dA))) (f9 (ao (aD (bS (qO true) (fP true)) (aa 4) (aa 3))) fz br)))
def aN:Ms:=bf 3 fH
def iP:Ms:=av (aK 2 (aV dH (bJ (ai 0) (ai 1)))) (bc (bC (bJ (aD l9 (aa 0) (aa 2)) (aD l9 (aa 1) (aa 2)))))
def iG:Ms:=bf 1 iP
def C9:Ms:=bc (aV iG (bJ (kT (aD bt (aD d5 (mix (aa 0) (aG 0)) (mix (aa 1) (aG 1))) (aD d5 (mix (aa 1) (aG 0)) (mix (aa 0) (aG 1))))) (aD d5 (mix (aa 0) (aG 1)) (mix (aa 1) (aG 1)))))
def u7:Ms:=bf 0 C9
def sM:Ms:=av (aK 2 qr) (av (dh (bF (aa 1)) (dj 2 (aJ (aH 3) (aJ (aH 4) dA))) (kg 2 (aa 3) (aV u7 (bJ (kT (uj (aa 2) (aa 3) (mC (.tup [.int 0,.int 1])))) (ai 4))))) (bc (bC (bJ (aa 0) (cb hE (bu 1 (bF (cb (ph bL bT) (aa 2))) (aH 5) (ao (aD jc (mix (aa 2) (aa 5)) (mC (.tup [.int 0,.int 1])))) (bC (bJ (aa 5) (mix (aa 2) (aa 5))))))))))
def mZ:Ms:=bf 3 sM
def m9:Ms:=bc (aV mZ (bJ (aV u7 (bJ (mix (aa 0) (aG 0)) (mix (aa 1) (aG 0)))) (kT (aD bt (mix (aa 0) (aG 1)) (mix (aa 1) (aG 1))))))
def dI:Ms:=bf 0 m9
def fC:Ms:=av (dh (bF (d0 (aT ["Part"] "put_faces") (aa 0))) (dj 3 (aJ (aH 3) (aJ (aH 4) (aJ (aH 5) dA)))) (f9 (rS (ao (aD gG (aa 3) (aa 1))) (ao (aD gG (aa 4) (aa 2)))) (bc (aa 5)) br)) fz
def aR:Ms:=bf 3 fC
def ik:Ms:=av (f9 (su (gZ (ao (aV gu (cF (ai 1))))) (ao (aD gG (aa 1) (mC (.str "frame"))))) fz br) (av (f9 (nP 0 (ao (aD (bS (qO false) (fP false)) (aa 1) (bu 1 (bF (bg (cp ["Part"] 0 "put_faces") (d0 (aT ["Part"] "put_faces") (aa 0)))) (aH 6) bj (mix (aa 6) (aG 0)))))) fz br) (av (bA (bg (aV aN (fQ (aY "Part" "refuse_move" 0) (ai 2) (ai 4))) (bg (bQ (du 0 aN) [] (fQ (aY "Part" "refuse_move" 0) (ai 2) (ai 4))) (aV aN (fQ (bO "Part" "refuse_move" (aa 0)) (ai 2) (ai 4)))))) (av (aK 5 (Eu (ao (aD (xM false) (aa 3) (mC .non))) (aa 4) (aV dI (bJ (kT (bg (aV aR (fQ (aY "Part" "start_place" 0) (ai 3) (ai 2))) (bg (bQ (du 0 aR) [] (fQ (aY "Part" "start_place" 0) (ai 3) (ai 2))) (aV aR (fQ (bO "Part" "start_place" (aa 0)) (ai 3) (ai 2)))))) (ai 4))))) (bA (tM ["Part"] 0 "put_faces" [1,2,5])))))
def aM:Ms:=bf 1 ik
def lO:Ms:=av (GP (aa 0) (dj 3 (aJ (aH 1) (aJ (aH 2) (aJ (aH 3) dA))))) (av (aK 4 (hW "Part" dU [] (bJ (ai 1) (kT (bu 4 (bF (aa 2)) (dj 4 (aJ (aH 9) (aJ (aH 10) (aJ (aH 11) (aJ (aH 12) dA))))) bj (hW "Size" cH [] (lH (ai 9) (ai 10) (ai 11) (ai 12)))))))) (av (dh (bF (aa 3)) (dj 4 (aJ (aH 5) (aJ (aH 6) (aJ (aH 7) (aJ (aH 8) dA))))) (bA (bg (aV aM (bx (aY "Part" "put_face" 4) (lH (ai 5) (ai 6) (ai 7) (ai 8)))) (bg (bQ (du 0 aM) [] (bx (aY "Part" "put_face" 4) (lH (ai 5) (ai 6) (ai 7) (ai 8)))) (aV aM (bx (bO "Part" "put_face" (ai 4)) (lH (ai 5) (ai 6) (ai 7) (ai 8)))))))) (bc (aa 4))))
def lZ:Ms:=bf 8 lO
def lF:Ms:=av (aK 3 (cb (ph kW jH) (mix (aa 0) (aG 1)))) (av (dh (bF (mix (aa 1) (aG 1))) (dj 2 (aJ (aH 4) (aJ (aH 5) dA))) (kg 3 (aa 4) (aV fo (bJ (kT (uj (aa 3) (aa 4) (bC (bJ (aG 0) (aG 1))))) (bC (bJ (aD d5 (aa 2) (mix (aa 5) (aG 0))) (mix (aa 5) (aG 1)))))))) (av (aK 6 (cb hE (bu 1 (bF (cb (ph bL bT) (aa 3))) (aH 7) (ao (aD jc (mix (mix (aa 3) (aa 7)) (aG 0)) (aG 0))) (bC (bJ (aa 7) (mix (aa 3) (aa 7))))))) (bc (bC (bJ (aV fo (bJ (mix (aa 0) (aG 0)) (bC (bJ (aD d5 (aa 2) (mix (mix (aa 1) (aG 0)) (aG 0))) (mix (mix (aa 1) (aG 0)) (aG 1)))))) (aa 6))))))
def ck:Ms:=bf 4 lF
def jz:Ms:=av (aK 1 qr) (av (aK 2 (cS dz)) (av (dh (bF (aa 0)) (dj 4 (aJ (aH 3) (aJ (aH 4) (aJ (aH 5) (aJ (aH 6) dA))))) (av (aK 7 (aa 6)) (av (f9 (ao (aD (xM true) (aa 5) (mC .non))) (aK 7 (aV ck (fQ (mix (aa 1) (aa 5)) (ai 6) (aG 1)))) br) (av (kg 1 (aa 3) (aa 7)) (bA (dQ 2 (bI 2 (bC (fQ (aa 3) (aa 4) (aa 7)))))))))) (bc (aa 2))))
def dN:Ms:=bf 7 jz
def jy:Ms:=bc (bu 1 (bF (d0 (aT ["Stock"] "kept") (aa 0))) (aH 1) bj (aV cW (cF (ai 1))))
def cX:Ms:=bf 0 jy
def p9:Ms:=av (aK 3 (hW "Part" dU [] (bJ (ai 0) (kT (bg (aV cX (cF (aY "Stock" "sizes" 1))) (bg (bQ (du 0 cX) [] (cF (aY "Stock" "sizes" 1))) (aV cX (cF (bO "Stock" "sizes" (ai 1)))))))))) (av (dh (bF (aa 2)) (dj 3 (aJ (aH 4) (aJ (aH 5) (aJ (aH 6) dA)))) (bA (bg (aV aM (bx (aY "Part" "put_face" 3) (lH (ai 4) (ai 5) (mC .non) (ai 6)))) (bg (bQ (du 0 aM) [] (bx (aY "Part" "put_face" 3) (lH (ai 4) (ai 5) (mC .non) (ai 6)))) (aV aM (bx (bO "Part" "put_face" (ai 3)) (lH (ai 4) (ai 5) (mC .non) (ai 6)))))))) (bc (aa 3)))
def pJ:Ms:=bf 4 p9
def jZ:Ms:=av (bA (bg (aV aN (fQ (aY "Part" "refuse_move" 0) (ai 1) (ai 2))) (bg (bQ (du 0 aN) [] (fQ (aY "Part" "refuse_move" 0) (ai 1) (ai 2))) (aV aN (fQ (bO "Part" "refuse_move" (aa 0)) (ai 1) (ai 2)))))) (av (aK 3 (kS 0 (bu 3 (bF (bg (cp ["Part"] 0 "put_faces") (d0 (aT ["Part"] "put_faces") (aa 0)))) (dj 3 (aJ (aH 4) (aJ (aH 5) (aJ (aH 6) dA)))) bj (bC (fQ (aa 4) (aa 5) (Eu (ao (aD gG (aa 5) (aa 1))) (aV dI (bJ (ai 6) (ai 2))) (aa 6))))))) (bc (aV pJ (fQ (bg (cp ["Size", "Part"] 0 "name") (d0 (aT ["Size", "Part"] "name") (aa 0))) (bg (cp ["Part"] 0 "own_stock") (d0 (aT ["Part"] "own_stock") (aa 0))) (ai 3)))))
def bE:Ms:=bf 1 jZ
def kq:Ms:=av (aK 4 (cS dz)) (av (dh (bF (aa 0)) (dj 3 (aJ (aH 5) (aJ (aH 6) (aJ (aH 7) dA)))) (av (f9 (ao (aD gG (aa 6) (aa 1))) (aK 7 (aV ck (fQ (ai 7) (ai 2) (ai 3)))) br) (bA (dQ 4 (bI 4 (bC (fQ (aa 5) (aa 6) (aa 7)))))))) (bc (aa 4)))
def g8:Ms:=bf 4 kq
def kJ:Ms:=bc (cb zu (d0 (aT ["Part"] "put_faces") (aa 0)))
def ba:Ms:=bf 0 kJ
def gw:Ms:=av (dh (eI (aG 2)) (aH 4) (av (GG (su (ao (aD jc (aV ba (cF (bO "Part" "faces" (kT (bg (aV bE (fQ (aY "Part" "moved" 0) (ai 2) (ai 3))) (bg (bQ (du 0 bE) [] (fQ (aY "Part" "moved" 0) (ai 2) (ai 3))) (aV bE (fQ (bO "Part" "moved" (ai 0)) (ai 2) (ai 3))))))))) (aV g8 (lH (ai 1) (ai 2) (ai 3) (aG 1))))) (ao (aD jc (bg (aV ba (cF (aY "Part" "faces" 0))) (bg (bQ (du 0 ba) [] (cF (aY "Part" "faces" 0))) (aV ba (cF (bO "Part" "faces" (ai 0)))))) (aa 1))))) (aK 2 (mix (uY "x" "y" "y" "x") (aa 2))))) (bc (mC (.bl true)))
def dB:Ms:=bf 1 gw
def jA:Ms:=bc (bu 1 (bF (aV cX (cF (bO "Stock" "sizes" (ai 0))))) (aH 1) bj (bC (lH (d0 (aT ["Size", "Part"] "name") (aa 1)) (d0 (aT ["Size"] "least") (aa 1)) (d0 (aT ["Size"] "most") (aa 1)) (d0 (aT ["Size"] "shifts") (aa 1)))))
def jE:Ms:=bf 0 jA
def iO:Ms:=A9
def iM:Ms:=bf 0 iO
def iE:Ms:=av (f9 (ao (cb (cG Ty.tuple) (aa 0))) (bc (cb (eJ λbs=>UM bs id) (bu 1 (bF (aa 0)) (aH 1) bj (aV iM (cF (ai 1)))))) br) (bc (rp (cb (cG Ty.str) (aa 0)) (ip (cb (cG Ty.int) (aa 0)) (jw (cb (cG Ty.bool) (aa 0))))))
def nk:Ms:=bf 0 iE
def iS:Ms:=av (f9 (ao (cb (cG Ty.tuple) (aa 0))) (bc (cb (eJ λbs=>UM bs id) (bu 1 (bF (aa 0)) (aH 1) bj (aV nk (cF (ai 1)))))) br) (bc (rp (cb (cG Ty.str) (aa 0)) (ip (cb (cG Ty.int) (aa 0)) (jw (cb (cG Ty.bool) (aa 0))))))
def m5:Ms:=bf 0 iS
def iR:Ms:=av (f9 (ao (cb (cG Ty.tuple) (aa 0))) (bc (cb (eJ λbs=>UM bs id) (bu 1 (bF (aa 0)) (aH 1) bj (aV m5 (cF (ai 1)))))) br) (bc (rp (cb (cG Ty.str) (aa 0)) (ip (cb (cG Ty.int) (aa 0)) (jw (cb (cG Ty.bool) (aa 0))))))
def oo:Ms:=bf 0 iR
def i5:Ms:=av (f9 (ao (cb (cG Ty.tuple) (aa 0))) (bc (cb (eJ λbs=>UM bs id) (bu 1 (bF (aa 0)) (aH 1) bj (aV oo (cF (ai 1)))))) br) (bc (rp (cb (cG Ty.str) (aa 0)) (ip (cb (cG Ty.int) (aa 0)) (jw (cb (cG Ty.bool) (aa 0))))))
def nG:Ms:=bf 0 i5
def iJ:Ms:=av (f9 (ao (cb (cG Ty.tuple) (aa 0))) (bc (cb (eJ λbs=>UM bs id) (bu 1 (bF (aa 0)) (aH 1) bj (aV nG (cF (ai 1)))))) br) (bc (rp (cb (cG Ty.str) (aa 0)) (ip (cb (cG Ty.int) (aa 0)) (jw (cb (cG Ty.bool) (aa 0))))))
def oB:Ms:=bf 0 iJ
def iW:Ms:=av (f9 (ao (cb (cG Ty.tuple) (aa 0))) (bc (cb (eJ λbs=>UM bs id) (bu 1 (bF (aa 0)) (aH 1) bj (aV oB (cF (ai 1)))))) br) (bc (rp (cb (cG Ty.str) (aa 0)) (ip (cb (cG Ty.int) (aa 0)) (jw (cb (cG Ty.bool) (aa 0))))))
def cK:Ms:=bf 0 iW
def i7:Ms:=bc (ip (cb (cG Ty.list) (aa 0)) (ip (aD gG (aa 0) (aa 1)) (cb (eJ λbs=>UM bs id) (bu 1 (bF (aa 0)) (aH 2) bj (aV cK (cF (ai 2)))))))
def dk:Ms:=bf 0 i7
def kO:Ms:=bc (bg (cp ["Part"] 0 "own_stock") (d0 (aT ["Part"] "own_stock") (aa 0)))
def cR:Ms:=bf 0 kO
abbrev Hc(i:Nat):Mi Rr:=bg (aV ba (cF (aY "Part" "faces" i))) (bg (bQ (du 0 ba) [] (cF (aY "Part" "faces" i))) (aV ba (cF (bO "Part" "faces" (ai i)))))
abbrev RU(i:Nat):Mi Rr:=bg (aV cR (cF (aY "Part" "stock" i))) (bg (bQ (du 0 cR) [] (cF (aY "Part" "stock" i))) (aV cR (cF (bO "Part" "stock" (ai i)))))
abbrev Py(i:Nat)(m:Mi (List Rr)):Mi Rr:=bg (aV aM (bx (aY "Part" "put_face" i) m)) (bg (bQ (du 0 aM) [] (bx (aY "Part" "put_face" i) m)) (aV aM (bx (bO "Part" "put_face" (ai i)) m)))
abbrev PX(i:Nat)(m n:Mi Rr):Mi Rr:=bg (aV bE (fQ (aY "Part" "moved" i) m n)) (bg (bQ (du 0 bE) [] (fQ (aY "Part" "moved" i) m n)) (aV bE (fQ (bO "Part" "moved" (ai i)) m n)))
def P1:Ms:=av (bA (Py 14 (lH (ai 10) (ai 12) (mC .non) (ai 13)))) (av (aK 17 (cS (cF (bC (fQ (aa 10) (aa 12) (aa 13)))))) (av (aK 18 (aD bt (bu 1 (bF (aa 15)) (aH 22) (ao (aD gG (mix (aa 22) (aG 1)) (aa 12))) (aa 22)) (aa 17))) (av (aK 19 (mix (aa 18) (aV az (bJ (aa 2) (cb gc (aa 18)))))) (av (aK 20 (aV aQ (bJ (aa 2) (kT (aD bt (aa 9) (cS (cF (aa 10)))))))) (av (bA (Py 14 (lH (ai 20) (ai 12) (mix (aa 19) (aG 0)) (ai 13)))) (av (bA (dQ 17 (bI 17 (bC (fQ (aa 20) (aa 12) (aV ck (fQ (mix (aa 19) (aG 2)) (ai 13) (aG 1)))))))) (av (GG (su (ao (aD jc (Hc 7) (aa 8))) (su (ao (aD jc (Hc 16) (aa 8))) (ao (aD jc (Hc 14) (aD bt (aa 15) (aa 17))))))) (av (bA (Py 7 (lH (ai 10) (ai 12) (mC .non) (ai 13)))) (av (aK 21 (aV dB (lH (ai 7) (kT (aD bt (aa 8) (cS (cF (bC (fQ (aa 10) (aa 12) (aa 13))))))) (ai 12) (ai 13)))) (av (GG (su (gZ (ao (aa 21))) (gZ (ao (aV dB (lH (ai 14) (kT (aD bt (aa 15) (aa 17))) (ai 12) (ai 13))))))) (av (aK 7 (PX 16 (ai 12) (ai 13))) (av (aK 8 (aa 15)) (GG (ao (aD jc (Hc 7) (aa 8))))))))))))))))
def P5:Ms:=av (aK 12 (mix (mC (.str "xy")) (aV az (bJ (aa 2) (aG 2))))) (av (aK 13 (aV fL (bJ (aa 2) (ai 5)))) (av (aK 14 (PX 7 (ai 12) (ai 13))) (av (aK 15 (aV g8 (lH (ai 8) (ai 12) (ai 13) (aG 1)))) (av (GG (su (ao (aD jc (bg (cp ["Size", "Part"] 14 "name") (d0 (aT ["Size", "Part"] "name") (aa 14))) (aa 3))) (su (ao (aD jc (aV jE (cF (kT (RU 14)))) (aa 4))) (gZ (ao (aV dk (bJ (kT (Hc 14)) (ai 15)))))))) (av (aK 16 (PX 14 (ai 12) (aV ck (fQ (bC (bJ (bC (bJ (aG 0) (aG 1))) (bC dz))) (ai 13) (d0 nY (aG 1)))))) (av (GG (su (ao (aD jc (Hc 16) (aa 8))) (ao (aD jc (Hc 14) (aa 15))))) P1))))))
def P9:Ms:=av (aK 2 (aV lP (bJ (ai 0) (ai 1)))) (av (aK 3 (aV aQ (bJ (aa 2) (kT (cS dz))))) (av (GP (aV eO (bJ (aa 2) (aG 12))) (dj 2 (aJ (aH 4) (aJ (aH 5) dA)))) (av (aK 6 (aV eR (fQ (aa 2) (ai 5) (kT (aD bt (aG 1) (aV az (bJ (aa 2) (aG 7)))))))) (av (aK 7 (aV lZ (cF (bC (fQ (aa 3) (aa 4) (aa 6)))))) (av (aK 8 (aV dN (cF (ai 6)))) (av (aK 9 (aD bt (bu 1 (bF (aa 6)) (aH 22) bj (mix (aa 22) (aG 0))) (cS (cF (mC (.str "frame")))))) (av (aK 10 (aV aQ (bJ (aa 2) (ai 9)))) (dh (eI (aV az (bJ (aa 2) (aG 6)))) (aH 11) P5))))))))
def Hk:Ms:=av (dh (eI (HB F6 (aG 1) (HB Em (cb gc (aa 0)) (aG 8)))) (aH 1) P9) (bc (mC (.bl true)))
def HW:Ms:=bf 21 Hk
noncomputable def IH:Tb:={ fns:=[],cst:=[("ZERO",(.tup [(.int 0),(.int 1)])),("NAME_SIGNS",(.str "abcdefghijklmnopqrstuvwxyz0123456789.")),("NAME_LENGTH",(.int 30)),("WAYS",(.tup [(.str "fixed"),(.str "big"),(.str "small")])),("SMALL_LETTERS",(.str "abcdefghijklmnopqrstuvwxyz")),("WORD_LENGTH",(.int 8)),("AXES",(.tup [(.str "x"),(.str "y")])),("FRAME",(.str "frame"))],exs:=["NoSize", "NoPart", "NoFace"],kit:=[],exm:=[],fld:=[("Size",["name", "least", "most", "shifts"]),("Stock",["kept"]),("Part",["name", "own_stock", "put_faces"])],ini:=[],mts:=[] }
def DV:List DI:=[
 ⟨none, "_law_well",top 49,["_law_script", "_law_k", "_law_cell"],2,[],[false,false],[],[],lV,[],false,false⟩,
 ⟨none, "_law_take",top 50,["_law_well_here", "_law_many", "_law_digit", "_law_turn", "_law_number_here"],2,[],[true,false],[],[],lX,[],false,false⟩,
 ⟨none, "_law_word",top 55,["_law_well_here", "_law_taken", "_law_letters", "_law_word_here"],2,[],[true,false],[],[],l4,[],false,false⟩,
 ⟨none, "_law_common",top 51,["_law_one", "_law_other"],2,[],[false,false],[],[],jr,[],false,false⟩,
 ⟨none, "_law_num",top 52,["_law_top", "_law_bottom", "_law_by"],2,[],[false,false],[],[],ng,[],false,false⟩,
 ⟨none, "_law_number",top 54,["_law_well_here", "_law_way"],1,[],[true],[],[],jo,[],false,false⟩,
 ⟨none, "_law_add",top 53,["_law_one", "_law_other"],2,[],[false,false],[],[],oR,[],false,false⟩,
 ⟨none, "_law_sizes",top 56,["_law_well_here", "_law_most", "_law_names", "_law_sizes_here", "_law_k", "_law_name", "_law_least", "_law_wide", "_law_shifts", "_law_j", "_law_allow", "_law_way"],2,[],[true,false],[],["_law_names"],kC,[],false,false⟩,
 ⟨none, "_law_sum",top 57,["_law_well_here", "_law_names", "_law_pairs", "_law_name", "_law_way", "_law_factor"],2,[],[true,false],[],[],nB,[],false,false⟩,
 ⟨none, "_law_faces",top 59,["_law_well_here", "_law_names", "_law_many", "_law_faces_here", "_law_k", "_law_name", "_law_axis", "_law_some"],3,[],[true,false,false],[],["_law_faces_here"],kH,[],false,false⟩,
 ⟨none, "is_written_in",top 21,["text", "signs", "most"],3,[],[false,false,false],[],[],hV,[],false,false⟩,
 ⟨none, "is_name",top 22,["text"],1,[],[false],[],[],qp,[],false,false⟩,
 ⟨none, "refuse_names",top 31,["names", "seen", "name"],1,["seen"],[false],[],[],iD,[],false,false⟩,
 ⟨none, "is_less",top 17,["a", "b"],2,[],[false,false],[],[],qc,[],false,false⟩,
 ⟨none, "common_divisor",top 11,["a", "b", "rest"],2,[],[false,false],[],[],gA,[],false,false⟩,
 ⟨none, "is_whole",top 10,["value"],1,[],[false],[],[],nE,[],false,false⟩,
 ⟨none, "is_number",top 13,["value"],1,[],[false],[],[],lY,[],false,false⟩,
 ⟨none, "refuse_bounds",top 29,["least", "most"],2,[],[false,false],[],[],ig,[],false,false⟩,
 ⟨none, "refuse_shift",top 30,["shift"],1,[],[false],[],[],i4,[],false,false⟩,
 ⟨some "Size", "names",topC 28 1,["self"],1,[],[false],[],[],j6,[],false,false⟩,
 ⟨some "Stock", "names",topC 39 2,["self", "names", "size"],1,[],[false],[],[],ju,[],false,false⟩,
 ⟨some "Size", "__init__",topC 28 0,["self", "name", "least", "most", "shifts", "shift"],5,[],[true,false,false,false,false],[.non],[],lK,[],false,false⟩,
 ⟨none, "size_with_bounds",top 32,["size", "least", "most"],3,[],[false,false,false],[],[],fb,[],false,false⟩,
 ⟨none, "size_copied",top 33,["size"],1,[],[false],[],[],jt,[],false,false⟩,
 ⟨some "Stock", "__init__",topC 39 0,["self", "sizes"],2,[],[true,false],[],[],j8,[],false,false⟩,
 ⟨none, "is_word",top 45,["text"],1,[],[false],[],[],pM,[],false,false⟩,
 ⟨some "Part", "__init__",topC 47 0,["self", "name", "sizes", "word"],3,[],[true,false,false],[],["*nob", "put_faces"],l6,[],false,false⟩,
 ⟨some "Part", "refuse_move",topC 47 3,["self", "axis", "by", "names", "name", "factor"],3,[],[false,false,false],[],["*nob"],fH,[],false,false⟩,
 ⟨none, "lowest_terms",top 12,["top", "bottom", "divisor"],2,[],[false,false],[],[],iP,[],false,false⟩,
 ⟨none, "plus",top 14,["a", "b"],2,[],[false,false],[],[],C9,[],false,false⟩,
 ⟨none, "sum_of",top 23,["number", "pairs", "factors", "name", "factor"],2,["factors"],[false,false],[],[],sM,[],false,false⟩,
 ⟨none, "sum_plus",top 24,["a", "b"],2,[],[false,false],[],[],m9,[],false,false⟩,
 ⟨some "Part", "start_place",topC 47 4,["self", "start", "axis", "name", "own_axis", "place"],3,[],[false,false,false],[],[],fC,[],false,false⟩,
 ⟨some "Part", "put_face",topC 47 2,["self", "name", "axis", "start", "add", "place"],5,[],[false,false,false,false,false],[],["*nob", "put_faces"],ik,[],false,false⟩,
 ⟨none, "_law_made",top 64,["_law_spec", "_law_name", "_law_sizes_here", "_law_faces_here", "_law_part", "_law_face", "_law_axis", "_law_start", "_law_add_here"],1,[],[false],[],["*nob"],lO,[],false,false⟩,
 ⟨none, "_law_plus",top 58,["_law_one", "_law_other", "_law_sign", "_law_factors", "_law_name", "_law_factor", "_law_pairs"],3,["_law_factors"],[false,false,false],[],[],lF,[],false,false⟩,
 ⟨none, "_law_placed",top 60,["_law_faces_here", "_law_placed_here", "_law_told", "_law_name", "_law_axis", "_law_start", "_law_add_here", "_law_place"],1,["_law_placed_here"],[false],[],[],jz,[],false,false⟩,
 ⟨some "Stock", "sizes",topC 39 1,["self"],1,[],[false],[],[],jy,[],false,false⟩,
 ⟨none, "part_of",top 46,["name", "stock", "faces", "part", "face", "axis", "place"],3,[],[false,false,false],[],["*nob"],p9,[],false,false⟩,
 ⟨some "Part", "moved",topC 47 7,["self", "axis", "by", "faces"],3,[],[false,false,false],[],["*nob", "put_faces"],jZ,[],false,false⟩,
 ⟨none, "_law_moved",top 65,["_law_due", "_law_axis", "_law_by", "_law_sign", "_law_found", "_law_name", "_law_other", "_law_place"],4,[],[false,false,false,false],[],[],kq,[],false,false⟩,
 ⟨some "Part", "faces",topC 47 5,["self"],1,[],[false],[],[],kJ,[],false,false⟩,
 ⟨none, "_law_once_more",top 66,["_law_part", "_law_due", "_law_axis", "_law_by", "_law_turn"],4,[],[false,false,false,false],[],["*nob"],gw,[],false,false⟩,
 ⟨none, "_law_fields",top 63,["_law_stock"],1,[],[false],[],[],jA,[],false,false⟩,
 ⟨none, "_law_plain",top 61,["_law_thing"],1,[],[false],[],[],iO,[],false,true⟩,
 ⟨none, "_law_plain",top 61,["_law_thing"],1,[],[false],[],[],iE,[],false,false⟩,
 ⟨none, "_law_plain",top 61,["_law_thing"],1,[],[false],[],[],iS,[],false,false⟩,
 ⟨none, "_law_plain",top 61,["_law_thing"],1,[],[false],[],[],iR,[],false,false⟩,
 ⟨none, "_law_plain",top 61,["_law_thing"],1,[],[false],[],[],i5,[],false,false⟩,
 ⟨none, "_law_plain",top 61,["_law_thing"],1,[],[false],[],[],iJ,[],false,false⟩,
 ⟨none, "_law_plain",top 61,["_law_thing"],1,[],[false],[],[],iW,[],false,false⟩,
 ⟨none, "_law_is_list",top 62,["_law_found", "_law_due"],2,[],[false,false],[],[],i7,[],false,false⟩,
 ⟨some "Part", "stock",topC 47 1,["self"],1,[],[false],[],["*nob"],kO,[],false,false⟩]
def o8:DI:=⟨none, "law",top 67,["_law_script", "_law_k", "_law_well_here", "_law_name", "_law_sizes_here", "_law_names", "_law_faces_here", "_law_part", "_law_due", "_law_names_there", "_law_free", "_law_turn", "_law_axis", "_law_by", "_law_made_here", "_law_told", "_law_back", "_law_more", "_law_some", "_law_start", "_law_late", "_law_good"],1,[],[false],[],["*nob"],Hk,[],false,false⟩
theorem Kv:wj IH DV=DV.map (λd=>some d.m):=by kernel_rfl
theorem K7:uK (wU IH DV) o8=some o8.m:=by kernel_rfl
theorem JD:(DV++[o8]).all (λd=>iF d&&uw d)=true:=by decide +kernel
end W
section
open PySem PySem.W PyProof.Rows L2
set_option maxRecDepth 100000 in
theorem W.hl:LeftO PySem.Challenge.rw_fitwhatever_k16_parts_moved.row.prog (W.NK PySem.Challenge.pw_fitwhatever_k16_parts_moved) (W.xb PySem.Challenge.pw_fitwhatever_k16_parts_moved) (λs=>xlAt (W.NK PySem.Challenge.pw_fitwhatever_k16_parts_moved) [] s&&recOk PySem.Challenge.rw_fitwhatever_k16_parts_moved.row.records s) (Hook.obs (M.hk (W.DV++[W.o8]) (M.Hg W.IH))) (Hook.val (M.hk (W.DV++[W.o8]) (M.Hg W.IH))) 20000:=W.z8 λw=>by kernel_rfl
set_option maxRecDepth 100000 in
set_option maxHeartbeats 0 in
theorem W.fin(LT:∀ns:List Int,ns.length<=63->∃Z,W.o8.M [.fr (.lst (ns.map M.A.int))]=some (.rt (.fr (.bl true)),Z)):PySem.Challenge.rw_fitwhatever_k16_parts_moved.Holds:=by
 w_on
 refine holds_law (by decide +kernel) λh=>?_
 refine holds_open (q:=W.NK PySem.Challenge.pw_fitwhatever_k16_parts_moved) (loose:=W.xb PySem.Challenge.pw_fitwhatever_k16_parts_moved) (Xt:=λs=>xlAt (W.NK PySem.Challenge.pw_fitwhatever_k16_parts_moved) [] s&&recOk (RowW.records _) s) (XP:=XL (W.NK PySem.Challenge.pw_fitwhatever_k16_parts_moved) []) (Yf:=Hook.obs (M.hk (W.DV++[W.o8]) (M.Hg W.IH))) (Ya:=Hook.val (M.hk (W.DV++[W.o8]) (M.Hg W.IH))) (YP:=Hook.says (M.hk (W.DV++[W.o8]) (M.Hg W.IH))) (N:=20000) W.hl (Hook.of _) (Hook.keeps _) (λs e=>xl_of s (Xa.mp e).1) XL.keeps (by rfl) (by rfl) (by rfl) (λs e=>recFacts_of (Xa.mp e).2) (by rfl) h (by decide +kernel) ⟨rfl,rfl,rfl,rfl,rfl,by decide +kernel⟩ ?hw ?hc
 case hw=>w_witness2
 case hc=>exact M.A7 rfl rfl rfl W.JD W.Kv W.K7 rfl rfl rfl rfl ⟨rfl,by decide,by decide⟩ LT
end
set_option maxHeartbeats 1000000
set_option exponentiation.threshold 100000
namespace W
open PySem L2 M
inductive X2{α β:Type}(p:α->β->Prop):Prop|mk(a:α)(b:β)(h:p a b)
inductive X3{α β γ:Type}(p:α->β->γ->Prop):Prop|mk(a:α)(b:β)(c:γ)(h:p a b c)
inductive X5{α β γ δ ε:Type}(p:α->β->γ->δ->ε->Prop):Prop|mk(a:α)(b:β)(c:γ)(d:δ)(e:ε)(h:p a b c d e)
inductive N3(a b c:Prop):Prop|mk(x:a)(y:b)(z:c)
inductive N4(a b c d:Prop):Prop|mk(x:a)(y:b)(z:c)(w:d)
inductive N6(a b c d e f:Prop):Prop|mk(x:a)(y:b)(z:c)(w:d)(u:e)(v:f)
variable{Z:List Sl}
theorem bU{x:Rr}{xs:List A}{i:Int}{a:A}(h:res Z x=some (.lst xs)\/res Z x=some (.tup xs))(e:jd xs i=some a):gq (bS jb bZ) x (.fr (.int i)) Z=some (.ok (.fr a),Z):=by unfold gq;rcases h with h|h<;>rw[h]<;>simp only[res,bS,jb,e]
variable{U:List Sl}{Q:Fl->List Sl->Prop}{s:Sl}
theorem Wp.sr{m n:Ms}(h:m Z=some (.rt s,U))(q:Q (.rt s) U):Wp (av m n) Z Q:=⟨_,_,by unfold av;rw[h],q⟩
theorem ou{t:Mi Bool}{m n:Ms}{r:Option (Fl×List Sl)}(h:t Z=some (.ok true,U))(k:m U=r):f9 t m n Z=r:=sk h k
theorem cY{t:Mi Bool}{m n:Ms}{r:Option (Fl×List Sl)}(h:t Z=some (.ok false,U))(k:n U=r):f9 t m n Z=r:=sk h k
theorem uQ(i j:Int)(Z:List Sl):gq gG (.fr (.int i)) (.fr (.int j)) Z=some (.ok (.fr (.bl (decide (i=j)))),Z):=by simp only[gq,res,gG,rT]
theorem fD{m n:Ms}{r:Option (Fl×List Sl)}(h:m Z=some (.nx,U))(k:n U=r):av m n Z=r:=by unfold av;rw[h];exact k
variable{i:Nat}{m:Mi Rr}{Z':List Sl}{r:Rr}
theorem JU{x:Rr}(h0:Ke Z i=true)(h:m Z=some (.ok x,U))(k:QH i x U=some (.ok r,Z')):dQ i (mF i m) Z=some (.ok r,Z'):=by exact(if_pos h0).trans (bk h k)
theorem Km{a:Sl}(h:wA r Z=some (a,U))(k:U[i]?=some s)(hn:np s=true)(e:U.set i a=Z'):Ee i r Z=some (.nx,Z'):=by rw[O7 h k hn,e]
variable{G:Mg}{e:Mi Rr}
theorem bY{n:Nat}{H:Mi (List A)}{t:Mi Bool}{as:List A}(h:H Z=some (.ok as,U))(k:hY n G t e as U=some (.ok r,Z')):bu n H G t e Z=some (.ok r,Z'):=bk h k
theorem aP{a:Sl}(h:m Z=some (.ok r,U))(h1:wA r U=some (a,U))(k:U[i]?=some s)(hn:np s=true)(e:U.set i a=Z'):aK i m Z=some (.nx,Z'):=vA h (Km h1 k hn e)
theorem gi{x:Rr}{a:A}{xs:List A}(h0:Ke Z i=true)(h:m Z=some (.ok x,U))(k:bz x U=some (a,U))(l:aF U i=some (.lst xs))(hl:xs.length<=16000000)(e:setAt U i (.lst (xs++[a]))=Z'):bA (dQ i (bI i m)) Z=some (.nx,Z'):=by refine dM (r:=.fr .non) ((if_pos h0).trans (bk h ?_));rw[k];dsimp only;rw[l];dsimp only;rw[if_pos hl,e]
theorem fu{o:Option (Except Str Rr×List Sl)}{f:A->A->Option Rr}{x y:Rr}{a b:A}(h1:res Z x=some a)(h2:res Z y=some b)(k:f a b=some r):gq f x y Z=some (.ok r,Z):=by unfold gq;rw[h1,h2];dsimp only;rw[k]
variable{j:Int}
theorem kX{i:Int}{b:Bool}(h:decide (i=j)=b)(Z:List Sl):gq jc (.fr (.int i)) (.fr (.int j)) Z=some (.ok (.fr (.bl (!b))),Z):=by rw[<-h];simp only[gq,res,jc,rT]
theorem wo{i:Int}{b:Bool}(h:decide (i=j)=b)(Z:List Sl):gq gG (.fr (.int i)) (.fr (.int j)) Z=some (.ok (.fr (.bl b)),Z):=by rw[<-h];exact uQ i j Z
theorem jM{i:Int}(h:j≠0)(Z:List Sl):gq j9 (.fr (.int i)) (.fr (.int j)) Z=some (.ok (.fr (.int (i.fmod j))),Z):=fu (o:=none) rfl rfl (if_pos (by simpa using h))
theorem rQ{i:Int}(h:j≠0)(f:fits 9000 j=true)(Z:List Sl):gq l9 (.fr (.int i)) (.fr (.int j)) Z=some (.ok (.fr (.int (i.fdiv j))),Z):=fu (o:=none) rfl rfl (if_pos (by rw[f];simpa using h))
theorem vT{i:Int}(h:fits 20000 i=true)(k:fits 20000 j=true)(Z:List Sl):gq d5 (.fr (.int i)) (.fr (.int j)) Z=some (.ok (.fr (.int (i*j))),Z):=by have e:vO (.int i) (.int j)=some (.fr (.int (i*j))):=if_pos (by rw[h,k];rfl);refine fu (o:=none) rfl rfl ?_;unfold d5 bS;rw[e]
theorem ft{n m:Nat}{i:Int}(h:L2.Bd n i)(k:n<=m):fits m i=true:=fV h k
theorem dg{f:A->Option Rr}{x:Rr}{a:A}(h:res Z x=some a)(k:f a=some r):Qd f x Z=some (.ok r,Z):=by unfold Qd;rw[h];dsimp only;rw[k]
theorem cD{x:Rr}{as:List A}(h:m Z=some (.ok x,U))(k:Qt x U=some (.ok as,Z')):bF m Z=some (.ok as,Z'):=bk h k
theorem Hw{n:Nat}{t:Mi Bool}{b:Ms}{r:Option (Fl×List Sl)}(h:fZ t b n Z=r):iy n t b Z=r:=h
variable{ms:Mi (List Rr)}
theorem Lg{j:Nat}{rs:List Rr}{r:Option (Fl×List Sl)}(h:ms Z=some (.ok rs,U))(k:DR i j rs U=r):zF i j ms Z=r:=sk h k
variable{mk:Mi Rr}{S:List Sl}
theorem HJ{rk:Rr}{q:Option (Fl×List Sl)}(h:m Z=some (.ok r,S))(l:Ke S i=true)(hk:mk S=some (.ok rk,U))(k:R6 i r rk U=q):m8 i mk m Z=q:=sk h ((if_pos l).trans (sk hk k))
theorem AZ{x y:Int}(d:L2.Bd 9000 y):Val jx [.int x,.int y] (.int (Tn x y)):=by
 obtain⟨O,h1,q,rfl,N⟩:=lD (t:=ao (aD jc (aa 1) (aG 0))) (b:=zF 0 1 (bJ (aa 1) (aD j9 (aa 0) (aa 1)))) (n:=AL)
  (P:=λk Z=>X2 λp q=>N3 (Z=[.fr (.int p),.fr (.int q)]) (k=q.natAbs) (Tn p q=Tn x y))
  (Q:=λZ=>∃p,Z=[.fr (.int p),.fr (.int 0)]/\Tn p 0=Tn x y) (by
   rintro k Z ⟨p,q,rfl,rfl,h1⟩;by_cases z:q=0
   .subst z;exact .inl ⟨_,aC (aj rfl rfl (kX rfl _)),p,rfl,h1⟩
   .exact .inr ⟨_,[.fr (.int q),.fr (.int (p.fmod q))],_,aC (aj rfl rfl (kX (decide_eq_false z) _)),.inl (Lg (ag rfl (ag (aj rfl rfl (jM z _)) rfl)) rfl),tL p z,q,p.fmod q,rfl,rfl,by rw[oH,h1]⟩) ⟨x,y,rfl,rfl,rfl⟩ (uX (SH d (TJ (by decide) (by decide))))
 have e:(if q<0 then -q else q)=(Tn x y:Int):=by rw[<-N,Xq];split<;>lia
 exact Val.of (Wp.df (Wp.st (Hw h1) (Wp.en (aO (bq rfl (dg (r:=.fr (.int (Tn x y))) rfl (by rw[<-e];rfl))) rfl) rfl)))
theorem zP{t b:Int}(h:0<b):jK t b=(t.fdiv (Tn t b),b.fdiv (Tn t b)):=by rw[<-DC (by lia:b≠0)];unfold KA;rw[if_neg (by lia)]
theorem zD{t b:Int}(h:0<b)(d:L2.Bd 9000 b):Val fN [.int t,.int b] (nm (jK t b)):=by
 rw[zP h];have h1:Tn t b<=b.natAbs:=Int.gcd_le_natAbs_right _ (by lia);have h0:(Tn t b:Int)≠0:=by simpa using λz:Tn t b=0=>(by lia:b≠0) (Int.gcd_eq_zero_iff.mp z).2
 have f:fits 9000 (Tn t b:Int)=true:=fV (show L2.Bd 9000 (Tn t b:Int) from UE (by simpa using h1) d) (SK _);exact Val.of (Wp.df (Wp.st (aP (ah rfl (aL (AZ d) _)) rfl rfl rfl rfl) (Wp.en (aO (bD (ag (aj rfl rfl (rQ h0 f _)) (ag (aj rfl rfl (rQ h0 f _)) rfl)) rfl) rfl) rfl)))
def Wl(n:Int)(o:LO):Prop:=X3 λ(f c t:Int)=>N4 (o=.lst [.int f,.int c,.int t]) (f=0\/f=1) (f=0->c.natAbs<10^18) (0<=t/\t<=n)
variable{o:LO}
theorem Wl.mono{n m:Int}(h:Wl n o)(k:n<=m):Wl m o:=by obtain⟨f,c,t,h1,h2,h3,h4,h5⟩:=h;exact⟨f,c,t,h1,h2,h3,h4,by lia⟩
theorem Dr{i:Int}(h:i.natAbs<2^64):fits 20000 i=true:=fV h (by decide)
theorem nO{n:Int}{m:Int}(w:Wl n o)(hn:n<2^40)(P:0<m)(O:m<2^64):X2 λr o'=>N4 (eG az o [.int m] (.fr (.int r)) o') (0<=r) (r<m) (Wl (n+1) o'):=by
 suffices ∃s o',eG az o [.int m] s o'/\∃r,N4 (s=.fr (.int r)) (0<=r) (r<m) (Wl (n+1) o') by obtain⟨s,o',v,r,rfl,h1,h2,h3⟩:=this;exact⟨r,o',v,h1,h2,h3⟩
 obtain⟨f,c,t,rfl,hf,hc,x,C⟩:=w
 have h:m≠0:=by lia
 refine eG.of (Wp.df ?_)
 have tt:∀b,decide (f=1)=b->∀Z,ao (aD gG (mix (aa 0) (aG 0)) (aG 1)) (.pv (.lst [.int f,.int c,.int t])::Z)=some (.ok b,.pv (.lst [.int f,.int c,.int t])::Z):=λb d Z=>aC (aj (aj rfl rfl (bU (.inl rfl) rfl)) rfl (wo d _))
 rcases hf with rfl|rfl
 .have hc:=hc rfl
  have b1:L2.Bd 128 (7919*(t+1)*(t+1)):=L2.Bd.mul (show (7919*(t+1)).natAbs<2^64 by lia) (show (t+1).natAbs<2^64 by lia)
  have b2:L2.Bd 130 (c+7919*(t+1)*(t+1)+(t+1)):=((L2.Bd.add (show c.natAbs<2^128 by lia) b1).add (show (t+1).natAbs<2^128 by lia)).mono (by decide)
  have F:∀i:Int,(i.fmod 2305843009213693951).natAbs<2^64:=λi=>by have G:=XO i (b:=2305843009213693951) (by decide);have R:=Int.emod_lt_of_pos i (b:=2305843009213693951) (by decide);rw[WI _ (by decide)];lia
  refine Wp.st (cY (tt false rfl _) rfl) ?_
  refine Wp.st (aP (aj (aj rfl rfl (bU (.inl rfl) rfl)) rfl rfl) rfl rfl rfl rfl) ?_
  refine Wp.st (HJ rfl rfl rfl rfl) ?_
  refine Wp.st (aP (aj (aj (aj (aj (aj rfl rfl (bU (.inl rfl) rfl)) (aj (aj rfl rfl (vT (Dr (by decide)) (Dr (by lia)) _)) rfl (vT (Dr (by lia)) (Dr (by lia)) _)) rfl) rfl rfl) rfl (vT (ft b2 (by decide)) (Dr (by decide)) _)) rfl (jM (by decide) _)) rfl rfl rfl rfl) ?_
  exact Wp.en (aO (aj (aj (aj (aj (aj rfl rfl (vT (Dr (F _)) (Dr (by decide)) _)) rfl rfl) rfl (jM (by decide) _)) rfl (rQ (by decide) (fV (show (64:Int).natAbs<2^64 by decide) (by decide)) _)) rfl (jM h _)) rfl) ⟨_,_,_,rfl,rfl,_,rfl,UQ _ P,VZ _ P,0,c,t+1,rfl,.inl rfl,λ_=>hc,by lia,by lia⟩
 .have Y:∀Z,mix (aa 0) (aG 1) (.pv (.lst [.int 1,.int c,.int t])::Z)=some (.ok (.fr (.int c)),.pv (.lst [.int 1,.int c,.int t])::Z):=λZ=>aj rfl rfl (bU (.inl rfl) rfl)
  exact Wp.sr (ou (tt true rfl _) (fD (aP (aj (Y _) rfl (jM h _)) rfl rfl rfl rfl) <| fD (HJ (aj (Y _) rfl (rQ h (fV (show m.natAbs<2^64 by lia) (by decide)) _)) rfl rfl rfl) (aO rfl rfl))) ⟨_,.lst [.int 1,.int (c.fdiv m),.int t],_,rfl,rfl,_,rfl,UQ c P,VZ c P,1,c.fdiv m,t,rfl,.inr rfl,λz=>by lia,x,by lia⟩
variable{o':LO}
theorem BL{f:Ms}{as:List A}(h:eG f o as s o')(y:mU s=some r):∀Z,fh f [] (.rf 0::as.map Rr.fr) (.pv o::Z)=some (.ok r,.pv o'::Z):=λZ=>cg h y rfl
theorem tk{n:Int}(m:Int)(w:Wl n o)(hn:n<2^40)(P:0<m)(O:m<2^64):X2 λr o'=>N4 (∀Z,fh az [] [.rf 0,.fr (.int m)] (.pv o::Z)=some (.ok (.fr (.int r)),.pv o'::Z)) (0<=r) (r<m) (Wl (n+1) o'):=by obtain⟨r,o',h,h1,h2,h3⟩:=nO w hn P O;exact⟨r,o',BL h rfl,h1,h2,h3⟩
theorem pw(k v:Int)(h:0<=k/\k<=1000000/\(10:Int).natAbs<2^64)(e:(10:Int)^k.toNat=v)(Z:List Sl):aD nN (aG 10) (mC (.int k)) Z=some (.ok (.fr (.int v)),Z):=
 aj rfl rfl (fu (o:=none) rfl rfl (by rw[<-e];exact if_pos h))
theorem LQ(ns:List Int)(k:Int)(I:0<=k)(w:k<=1000):∃o,eE lP [.lst (ns.map A.int),.int k] o/\Wl 17000 o:=by
 have V:∀c:Int,Wl 17000 (.lst [.int (if decide (1000000000000000000<=(if c<0 then -c else c))=true then 1 else 0),.int c,.int (17*k)]):=λc=>by
  refine⟨_,c,17*k,rfl,?_,λz=>?_,by lia,by lia⟩
  .generalize decide (1000000000000000000<=(if c<0 then -c else c))=d;cases d
   .exact .inl rfl
   .exact .inr rfl
  .by_cases h:1000000000000000000<=(if c<0 then -c else c)
   .simp[h] at z
   .split at h<;>lia
 have fin:∀c:Int,Wp (bc (cS (fQ (cb Fu (aD Mo (cb qZ (aa 2)) (aD nN (aG 10) (aG 18)))) (aa 2) (aD d5 (aG 17) (aa 1))))) [.fr (.lst (ns.map A.int)),.fr (.int k),.fr (.int c)] λg _=>g=.rt (.lv (.lst [.int (if decide (1000000000000000000<=(if c<0 then -c else c))=true then 1 else 0),.int c,.int (17*k)])):=λc=>Wp.en (aO (d9 (ag (bq (aj rfl (pw 18 1000000000000000000 (by decide) (by decide) _) rfl) rfl) (ag rfl (ag (aj rfl rfl (vT (Dr (by decide)) (Dr (by lia)) _)) rfl))) rfl) rfl) rfl
 have tt:∀b,decide (k<((ns.map A.int).length:Int))=b->ao (aD vc (aa 1) (cb gc (aa 0))) [.fr (.lst (ns.map A.int)),.fr (.int k),.fr (.int 0)]=some (.ok b,[.fr (.lst (ns.map A.int)),.fr (.int k),.fr (.int 0)]):=by rintro b rfl;rfl
 by_cases hk:k<((ns.map A.int).length:Int)
 .obtain⟨j,rfl⟩:∃j:Nat,k=j:=⟨k.toNat,by lia⟩
  have U:j<ns.length:=by rw[Ss] at hk;lia
  exact⟨_,eE.of (Wp.df (Wp.st rfl (Wp.st (ou (tt true (decide_eq_true hk)) (aP (aj rfl rfl (bU (.inl rfl) (gL (by rw[SV,SU U];rfl)))) rfl rfl rfl rfl)) (Wp.mono (fin ns[j]) λf _ e=>by rw[e])))),V ns[j]⟩
 .exact⟨_,eE.of (Wp.df (Wp.st rfl (Wp.st (cY (tt false (decide_eq_false hk)) rfl) (Wp.mono (fin 0) λf _ e=>by rw[e])))),V 0⟩
theorem AG{x:Sl}{t:Sl}(hi:S.length=i)(w:∀o,x≠Sl.pv o):put i t (S++[x])=some (S++[t]):=by
 subst hi;unfold put;rw[S6 (SK _),Yp];simp only[List.getElem?_cons_zero];have e:(S++[x]).set S.length t=S++[t]:=by rw[Vz _ _ (SK _),Yp];rfl
 cases x with
 |pv o=>exact absurd rfl (w o)
 |un=>simp only[e]
 |fr a=>simp only[e]
 |lv o=>simp only[e]
variable{T:Type}
theorem cB{ts:List T}(k g:T->A)(hi:S.length=i)(hl:ts.length<=100000)(h:∀t∈ts,∃r,e (S++[.fr (k t)])=some (.ok r,S++[.fr (k t)])/\bz r (S++[.fr (k t)])=some (g t,S++[.fr (k t)])):
  hY 1 (aH i) bj e (ts.map k) S=some (.ok (.nw (.lst (ts.map g))),S):=by
 obtain⟨ys,O,h1,x,rfl,_,rfl⟩:=gC (G:=aH i) (t:=bj) (as:=ts.map k)
  (λj acc Z=>∃x:Sl,N3 (Z=S++[x]) (∀o,x≠Sl.pv o) (acc=(ts.take j).map g)) ⟨.un,rfl,(λo z=>by cases z),rfl⟩ (by
   rintro j q acc Z Q ⟨x,rfl,w,rfl⟩;rw[SV] at Q;cases X:ts[j]? with
   |none=>rw[X] at Q;cases Q
   | some t=>rw[X] at Q;cases Q;obtain⟨r,f,L⟩:=h t (SY X);refine⟨S++[Sl.fr (k t)],(show put i (.fr (k t)) (S++[x])=some (S++[.fr (k t)]) from AG hi w),.inl ⟨_,r,_,g t,_,rfl,f,L,.fr (k t),rfl,(λo z=>by cases z),?_⟩⟩;rw[Ut,X,SJ];rfl)
 unfold hY;rw[if_pos (by rw[Ss];exact hl)];have F:S++S0 1 Sl.un=S++[.un]:=rfl;rw[F,h1];simp
theorem Qg(x:Int):Ok (x,1):=⟨by show (0:Int)<1;decide,by show Tn x 1=1;simp⟩
theorem QV{x y:Int}(h:m Z=some (.ok (.fr (.int x)),U)):bC (bJ m (mC (.int y))) Z=some (.ok (.fr (nm (x,y))),U):=bD (ag h rfl) rfl
theorem Im{i:Int}(hi:i.natAbs<2^64)(b:j.natAbs<2^64)(Z:List Sl):gq d5 (.fr (.int i)) (.fr (.int j)) Z=some (.ok (.fr (.int (i*j))),Z):=by have F:fits 20000 i=true:=fV hi (by decide);have R:fits 20000 j=true:=fV b (by decide);simp only[gq,res,d5,bS,Dv,M.oV,F,R,Bool.and_self,if_true]
theorem Pl{i:Int}(h:i.natAbs<2^64):NB 64 (i,1):=⟨Qg i,h,by show (1:Int).natAbs<2^64;decide⟩
theorem tw{n:Int}{k v:Int}(w:Wl n o)(hn:n<2^38)(h:0<=k/\k<=1000000/\(10:Int).natAbs<2^64)(e:(10:Int)^k.toNat=v)(t:0<=v)(i:v<2^60):X2 λu o'=>N4 (0<=u) (u<2*v+1) (Wl (n+1) o') (∀Z,aD vx (aV az (bJ (aa 0) (kT (aD bt (aD d5 (aG 2) (aD nN (aG 10) (mC (.int k)))) (aG 1))))) (aD nN (aG 10) (mC (.int k))) (.pv o::Z)=some (.ok (.fr (.int (u-v))),.pv o'::Z)):=by obtain⟨u,o',c,a,b,q⟩:=tk (2*v+1) w (by lia) (by lia) (by lia);exact⟨u,o',a,b,q,λZ=>aj (ah (ag rfl (ag (cZ (aj (aj rfl (pw k v h e _) (Im (by decide) (by lia) _)) rfl rfl) rfl) rfl)) (c _)) (pw k v h e _) rfl⟩
theorem Np{i:Int}(b:Bool)(d:decide (i=j)=b)(h:Z[1]?=some (.fr (.int i))):ao (aD gG (aa 1) (mC (.int j))) Z=some (.ok b,Z):=by rw[<-d];exact aC (aj (by rw[OA,h]) rfl (uQ _ _ _))
theorem Ax{t b:Int}(h:0<b)(d:b.natAbs<2^64)(Z:List Sl):fh fN [] [.fr (.int t),.fr (.int b)] Z=some (.ok (.fr (nm (jK t b))),Z):=aL (zD h (show b.natAbs<2^9000 from SH d (TJ (by decide) (by decide)))) Z
abbrev G2(i j:Nat):Mg:=dj 2 (aJ (aH i) (aJ (aH j) dA))
theorem qD{t:Mi Bool}{ts:List T}(k g:T->A)(c:T->Bool)(hi:S.length=i)(hl:ts.length<=100000)(h:∀x∈ts,t (S++[.fr (k x)])=some (.ok (c x),S++[.fr (k x)])/\(c x=true->∃r,e (S++[.fr (k x)])=some (.ok r,S++[.fr (k x)])/\bz r (S++[.fr (k x)])=some (g x,S++[.fr (k x)]))):
  hY 1 (aH i) t e (ts.map k) S=some (.ok (.nw (.lst ((ts.filter c).map g))),S):=by
 obtain⟨ys,O,h1,x,rfl,_,rfl⟩:=gC (G:=aH i) (as:=ts.map k)
  (λj acc Z=>∃x:Sl,N3 (Z=S++[x]) (∀o,x≠Sl.pv o) (acc=((ts.take j).filter c).map g)) ⟨.un,rfl,(λo z=>by cases z),rfl⟩ (by
   rintro j q acc Z Q ⟨x,rfl,C,rfl⟩;rw[SV] at Q;cases X:ts[j]? with
   |none=>rw[X] at Q;cases Q
   |some y=>
    rw[X] at Q;cases Q;obtain⟨w,L⟩:=h y (SY X);refine⟨S++[Sl.fr (k y)],(show put i (.fr (k y)) (S++[x])=some (S++[.fr (k y)]) from AG hi C),?_⟩;rw[Ut,X,List.filter_append];cases K:c y with
    |true=>obtain⟨r,P,d⟩:=L K;rw[K] at w;exact .inl ⟨_,r,_,g y,_,w,P,d,.fr (k y),rfl,(λo z=>by cases z),by simp[K]⟩
    | false=>rw[K] at w;exact .inr ⟨_,w,.fr (k y),rfl,(λo z=>by cases z),by simp[K]⟩)
 unfold hY;rw[if_pos (by rw[Ss];exact hl)];have F:S++S0 1 Sl.un=S++[.un]:=rfl;rw[F,h1];simp
theorem iA{n:Int}(w:Wl n o)(hn:n<2^37):X2 λx o'=>N3 (eG bw o [] (.fr (nm x)) o') (NB 64 x) (Wl (n+3) o'):=by
 obtain⟨r,Y,g,q,b1,m⟩:=tk 8 w (by lia) (by decide) (by decide)
 suffices ∃s o',eG bw o [] s o'/\∃x,N3 (s=.fr (nm x)) (NB 64 x) (Wl (n+3) o') by obtain⟨s,o',v,x,rfl,h1,h2⟩:=this;exact⟨x,o',v,h1,h2⟩
 refine eG.of (Wp.df ?_);refine Wp.st (vA (ah rfl (g _)) rfl) ?_;by_cases b:r=7
 .obtain⟨u,o2,Z,b2,F,j⟩:=tw (k:=9) (v:=1000000000) m (by lia) (by decide) (by decide) (by decide) (by decide);obtain⟨d,E,h,G,H,Q⟩:=tk 100000000 F (by lia) (by decide) (by decide);exact Wp.sr (ou (Np true (decide_eq_true b) rfl) (aO (ah (ag (j _) (ag (cZ (aj rfl (ah (ag rfl (ag (pw 8 100000000 (by decide) (by decide) _) rfl)) (h _)) rfl) rfl) rfl)) (Ax (by lia) (by lia) _)) rfl)) ⟨_,_,_,rfl,rfl,_,rfl,.jK (by lia) (show (u-1000000000).natAbs<2^64 by lia) (show (1+d).natAbs<2^64 by lia),Q.mono (by lia)⟩
 refine Wp.st (cY (Np false (decide_eq_false b) rfl) rfl) ?_;by_cases h3:r > 4
 .obtain⟨u,o2,J,Z,b2,F⟩:=tk 201 m (by lia) (by decide) (by decide);obtain⟨d,E,h,G,H,Q⟩:=tk 6 F (by lia) (by decide) (by decide);have tt:ao (aD IA (aa 1) (aG 4)) [.pv Y,.fr (.int r)]=some (.ok true,[.pv Y,.fr (.int r)]):=by rw[<-decide_eq_true h3];rfl
  exact Wp.sr (ou tt (aO (ah (ag (aj (ah rfl (J _)) rfl rfl) (ag (cZ (aj rfl (ah rfl (h _)) rfl) rfl) rfl)) (Ax (by lia) (by lia) _)) rfl)) ⟨_,_,_,rfl,rfl,_,rfl,.jK (by lia) (show (u-100).natAbs<2^64 by lia) (show (1+d).natAbs<2^64 by lia),Q.mono (by lia)⟩
 have tt:ao (aD IA (aa 1) (aG 4)) [.pv Y,.fr (.int r)]=some (.ok false,[.pv Y,.fr (.int r)]):=by rw[<-decide_eq_false h3];rfl
 obtain⟨u,o2,J,Z,b2,F⟩:=tk 9 m (by lia) (by decide) (by decide);exact Wp.st (cY tt rfl) (Wp.en (aO (QV (aj (ah rfl (J _)) rfl rfl)) rfl) ⟨_,_,_,rfl,rfl,_,rfl,Pl (by lia),F.mono (by lia)⟩)
theorem jS{as:List A}(h:m Z=some (.ok r,U))(k:sT r U=some (.ok as,Z')):eI m Z=some (.ok as,Z'):=bk h k
variable{z:Str}{c:Nat}
theorem uG{x:Rr}{i:Int}(h:res Z x=some (.str z))(l:z.length<=100000)(e:jd z.cps.toList i=some c):gq (bS jb bZ) x (.fr (.int i)) Z=some (.ok (.fr (.str ⟨#[c]⟩)),Z):=by have k:jb (.str z) (.int i)=some (.fr (.str ⟨#[c]⟩)):=(if_pos l).trans (by rw[e]);refine fu (o:=none) h rfl ?_;unfold bS;rw[k]
theorem H9{F:Str->A->Option Rr}{mo:Mi Rr}{y:Rr}{a:A}(h:mo Z=some (.ok (.fr (.str z)),S))(k:m S=some (.ok y,U))(e:res U y=some a)(f:F z a=some r):Dm F mo m Z=some (.ok r,U):=by refine bk h (bk k ?_);rw[e];dsimp only;rw[f]
theorem Nt{ml mh:Mi (Option Int)}{x:Rr}{lo hi:Option Int}(h:m Z=some (.ok x,Z))(l:ml Z=some (.ok lo,Z))(u:mh Z=some (.ok hi,Z))(e:res Z x=some (.str z))(hz:z.length<=100000):MD m ml mh Z=some (.ok (.fr (.str (T4 z lo hi))),Z):=by have k:Rb (.str z) lo hi=some (.fr (.str (T4 z lo hi))):=if_pos hz;refine bk h (bk l (bk u ?_));rw[e];dsimp only;rw[k]
theorem Fs{i:Int}(h:m Z=some (.ok (.fr (.int i)),Z)):oA m Z=some (.ok (some i),Z):=by unfold oA aW;rw[h];rfl
theorem GR{x y:Str}(h:x.length+y.length<=100000)(Z:List Sl):gq bt (.fr (.str x)) (.fr (.str y)) Z=some (.ok (.fr (.str (x++y))),Z):=by have k:xk (.str x) (.str y)=some (.fr (.str (x++y))):=if_pos h;refine fu (o:=none) rfl rfl ?_;unfold bt bS;rw[show we (.str x) (.str y)=none from rfl];dsimp only;rw[k]
theorem xY(ss:List Str):(TH ⟨#[]⟩ ss).cps.toList=ss.flatMap (λs=>s.cps.toList):=by
 unfold TH;cases ss with
 |nil=>rfl
 |cons a r=>
  show (r.foldl (λacc p=>acc++#[]++p.cps) a.cps).toList=_;rw[V3];have:∀(acc:Array Nat),(r.foldl (λacc p=>acc++#[]++p.cps) acc).toList=acc.toList++r.flatMap (λs=>s.cps.toList):=by
   induction r with
   |nil=>intro acc;simp
   |cons p r l=>intro acc;rw[XG,l];simp
  exact this _
theorem hJ(x:Str):x.length=x.cps.toList.length:=by rw[Tv];rfl
noncomputable abbrev oY:Str:= "abcdefghijklmnopqrstuvwxyz"
theorem Ht:oY.cps.toList.length=26:=by decide +kernel
theorem Ck:(oY.length<=100000)=True:=by simp only[eq_iff_iff,iff_true];decide +kernel
theorem Kk{r:Int}(h0:0<=r)(h1:r<26):∃c,jd oY.cps.toList r=some c:=by
 obtain⟨j,rfl⟩:∃j:Nat,r=j:=⟨r.toNat,by lia⟩
 have b:j<oY.cps.toList.length:=by rw[Ht];lia
 exact⟨_,gL (SU b)⟩
variable{α:Type}
theorem wc{l:List α}{r:Int}{c:α}(h0:0<=r)(h:jd l r=some c):c∈l:=by
 unfold jd at h;cases e:L2.p8 l.length r with
 |none=>rw[e] at h;cases h
 |some j=>rw[e] at h;exact SY h
variable{b:Nat}
theorem z5{x:Str}{a:Nat}(o:a<=b)(d:b<=x.length):(T4 x (some (a:Int)) (some (b:Int))).cps.toList=(x.cps.toList.drop a).take (b-a):=by
 have e:=StrLaws.sliced_plain x o d;have j:=StrLaws.strSliceIndices_plain o d;unfold T4;by_cases hl:(To (some (a:Int)) (some (b:Int)) 1 x.length).length=x.length
 .rw[if_pos (by simpa using hl)];rw[j,Ss,V2] at hl;have h0:a=0:=by lia
  have h1:b=x.length:=by lia
  subst h0 h1;rw[Wz,WY (by rw[Tv];exact SK _)]
 .rw[if_neg (by simpa using hl)];show List.filterMap _ _=_;exact e
theorem Dk{x:Str}(h:b<=x.length):(T4 x none (some (b:Int))).cps.toList=x.cps.toList.take b:=by
 have e:T4 x none (some (b:Int))=T4 x (some ((0:Nat):Int)) (some (b:Int)):=by
  unfold T4;have:To none (some (b:Int)) 1 x.length=To (some ((0:Nat):Int)) (some (b:Int)) 1 x.length:=by
   unfold To;have:max (0:Int) (min 0 (x.length:Int))=0:=by lia
   simp[this]
  rw[this]
 rw[e,z5 (TM _) h,Wz,W6]
theorem vX(neg:Bool)(x:Str)(ss:List Str):gb neg (.str x) (.lst (ss.map A.str))=some (.fr (.bl (if neg then !decide (x∈ss) else decide (x∈ss)))):=by
 have e:Mu (tD (.str x)) ((ss.map A.str).map tD)=decide (x∈ss):=by
  unfold Mu;rw[Tj,List.any_map,Vv,TZ,decide_eq_true_eq];constructor
  .rintro⟨y,T,h⟩;have h:(y==x)=true:=h;rw[<-(beq_iff_eq.mp h)];exact T
  .exact λh=>⟨x,h,show (x==x)=true from beq_self_eq_true x⟩
 have f:(pB (.str x)&&(ss.map A.str).all pB)=true:=by rw[Sn,Tf];refine⟨rfl,λa ha=>?_⟩;obtain⟨y,_,rfl⟩:=Ta.mp ha;rfl
 show Mp neg (.str x) (ss.map A.str)=_;unfold Mp;rw[if_pos f,e]
def qw(k:Nat):Nat:=oY.cps.toList.getD (k%26) 0
theorem BB(k:Nat):jd oY.cps.toList ((k%26:Nat):Int)=some (qw k):=by
 have h:k%26<oY.cps.toList.length:=by rw[Ht];exact Y3 _ (by decide)
 rw[gL (SU h)];unfold qw;rw[TL,SU h];rfl
theorem Ij:∀k:Fin 26,Jo oY ⟨#[qw k.val]⟩=some k.val:=by decide +kernel
theorem sf(k:Nat):Jo oY ⟨#[qw k]⟩=some (k%26):=by
 have:=Ij ⟨k%26,Y3 _ (by decide)⟩;have e:qw (k%26)=qw k:=by unfold qw;rw[Nat.mod_mod]
 rw[e] at this;exact this
theorem EG(k:Nat):qw k∈oY.cps.toList:=wc (Int.natCast_nonneg _) (BB k)
theorem GD:∀c∈oY.cps.toList,∃k:Nat,k<26/\c=qw k:=by decide +kernel
theorem Gi{j:Nat}(h:qw i=qw j):i%26=j%26:=by have h1:=sf i;rw[h,sf j] at h1;exact(SM h1).symm
structure Wd(w:Str):Prop where
 l1:1<=w.cps.toList.length
 l8:w.cps.toList.length<=8
 ab:∀c∈w.cps.toList,c∈oY.cps.toList
def kI(p:List Nat)(k:Nat):Str:=⟨(p++[qw k]).toArray⟩
theorem eQ(p:List Nat)(k:Nat):(kI p k).cps.toList=p++[qw k]:=rfl
theorem Ay(p:List Nat)(k:Nat):T4 (kI p k) none (some (-1))=⟨p.toArray⟩:=by
 have hl:(kI p k).length=p.length+1:=by rw[hJ,eQ];simp
 have e:T4 (kI p k) none (some (-1))=T4 (kI p k) none (some ((p.length:Nat):Int)):=by
  unfold T4;have:To none (some (-1)) 1 (kI p k).length=To none (some ((p.length:Nat):Int)) 1 (kI p k).length:=by rw[hl];unfold To;dsimp only;rw[if_pos (by decide:(-1:Int)<0),if_neg (by lia:¬ ((p.length:Nat):Int)<0),show (-1:Int)+((p.length+1:Nat):Int)=((p.length:Nat):Int) by lia]
  rw[this]
 rw[e];have h2:=Dk (x:=kI p k) (b:=p.length) (by rw[hl];lia);rw[eQ,Wy] at h2;cases h3:T4 (kI p k) none (some ((p.length:Nat):Int)) with
 |mk c=>rw[h3] at h2;have h2:c.toList=p:=h2;rw[<-h2]
theorem Lu(b:Bool)(x:Str)(ss:List Str)(Z:List Sl):gq (bS (qO b) (fP b)) (.fr (.str x)) (.fr (.lst (ss.map A.str))) Z=some (.ok (.fr (.bl (if b then !decide (x∈ss) else decide (x∈ss)))),Z):=by refine fu (o:=none) rfl rfl ?_;unfold qO bS;rw[vX]
theorem rq{α:Type}[DecidableEq α]:∀{xs ys:List α},xs.Nodup->(∀x∈xs,x∈ys)->xs.length<=ys.length
 |[],_,_,_=>TM _
 |x::xs,ys,nd,h=>by obtain⟨C,S⟩:=S8.mp nd;have w:=h x (.head _);have l:=rq (ys:=ys.erase x) S λu f=>(List.mem_erase_of_ne λz=>C (by rw[<-z];exact f)).mpr (h u (SE _ f));rw[List.length_erase_of_mem w] at l;have:=List.length_pos_of_mem w;rw[SF];lia
abbrev Rn:Ms:=aK 3 (Dm kK (mC (.str "")) (bu 1 (eI (aD bt (aG 1) (aV az (bJ (aa 0) (aG 8))))) (aH 4) bj (mix (aa 2) (aV az (bJ (aa 0) (aG 26))))))
abbrev PJ:Mi Bool:=ao (aD (bS (qO false) (fP false)) (aa 3) (aa 1))
abbrev PL:Ms:=aK 3 (aD bt (MD (aa 3) j5 (oA (d0 nY (aG 1)))) (mix (aa 2) (aD j9 (aD bt (Dm sR (aa 2) (mix (aa 3) (d0 nY (aG 1)))) (aG 1)) (aG 26))))
abbrev R1:Ms:=av Rn (av (iy AL PJ PL) (bc (aa 3)))
abbrev oX(o:LO)(T:A)(x4:Sl):List Sl:=[.pv o,.fr T,.fr (.str oY),x4]
theorem Ga:aQ=bf 2 (av (aK 2 (mC (.str oY))) R1):=rfl
variable{x4:Sl}
theorem IL{n:Int}{T:A}(w:Wl n o)(hn:n<2^38)(h4:np x4=true):X2 λ(B:Str)(o':LO)=>N3 (Rn (oX o T x4)=some (.nx,oX o' T (.fr (.str B)))) (Wd B) (Wl (n+9) o'):=by
 obtain⟨r,Y,g,L,b1,H⟩:=tk 8 w (by lia) (by decide) (by decide);obtain⟨m,hm⟩:∃m:Nat,1+r=m:=⟨(1+r).toNat,by lia⟩
 obtain⟨ys,O,hc,cs,X,F,⟨j,b⟩,D,K⟩:=gC (G:=aH 4) (t:=bj) (e:=mix (aa 2) (aV az (bJ (aa 0) (aG 26)))) (as:=fS 0 m) (Z:=oX Y T x4++[.un])
  (λi acc Z=>X2 λ(cs:List Nat)(X:LO)=>N4 (acc=(cs.map λc=>(⟨#[c]⟩:Str)).map A.str) (cs.length=i/\∀c∈cs,c∈oY.cps.toList) (∃x,Z=oX X T x4++[x]/\∀q,x≠Sl.pv q) (Wl (n+1+i) X))
  ⟨[],Y,rfl,⟨rfl,λc hc=>nomatch hc⟩,⟨.un,rfl,λq z=>by cases z⟩,H.mono (by simp)⟩ (by
   rintro i a acc Z ha ⟨cs,X,rfl,⟨v,b⟩,⟨x,rfl,C⟩,K⟩;obtain⟨hi,-⟩:=ly ha;obtain⟨u,k,p,Q,S,N⟩:=tk 26 K (by lia) (by decide) (by decide);obtain⟨ch,E⟩:=Kk Q S;refine⟨oX X T x4++[.fr a],?_,.inl ⟨_,.fr (.str ⟨#[ch]⟩),oX k T x4++[.fr a],.str ⟨#[ch]⟩,_,rfl,?_,rfl,cs++[ch],k,?_,?_,⟨.fr a,rfl,λq z=>by cases z⟩,N.mono (by lia)⟩⟩
   .cases x with
    |pv q=>exact absurd rfl (C q)
    |_=>rfl
   .exact aj rfl (ah rfl (p _)) (uG rfl (of_eq_true Ck) E)
   .rw[SJ,SJ];rfl
   .refine⟨by rw[SI,v];rfl,λc hc=>?_⟩;rcases Su.mp hc with h|h
    .exact b c h
    .rw[Sx.mp h];exact wc Q E)
 obtain⟨x,D,_⟩:=D;subst F D;rw[gN] at j K;have fl:(cs.map λc=>(⟨#[c]⟩:Str)).flatMap (λs=>s.cps.toList)=cs:=by
  clear hc j b;rw[List.flatMap_map];induction cs with
  |nil=>rfl
  |cons c cs l=>rw[V3];simp
 have gl:=xY (cs.map λc=>(⟨#[c]⟩:Str));rw[fl] at gl;refine⟨TH ⟨#[]⟩ (cs.map λc=>(⟨#[c]⟩:Str)),X,?_,⟨by rw[gl];lia,by rw[gl];lia,by rw[gl];exact b⟩,K.mono (by lia)⟩;have U:jl (cs.map λc=>(⟨#[c]⟩:Str))=m:=by unfold jl;rw[Tj];have:(YZ∘λc=>(⟨#[c]⟩:Str))=λ_=>1:=rfl;rw[this,List.map_const',List.sum_replicate_nat,j,Xf]
 have d:kK "" (.lst ((cs.map λc=>(⟨#[c]⟩:Str)).map A.str))=some (.fr (.str (TH ⟨#[]⟩ (cs.map λc=>(⟨#[c]⟩:Str))))):=by show kK ⟨#[]⟩ _=_;unfold kK;simp only[tf];rw[if_pos (by rw[U];show m+_*0<=100000;lia)]
 have R:∀Z,sT (.fr (.int (1+r))) Z=some (.ok (fS 0 m),Z):=λZ=>by unfold sT;dsimp only [res];rw[if_pos (by lia),hm,XC]
 have y:hY 1 (aH 4) bj (mix (aa 2) (aV az (bJ (aa 0) (aG 26)))) (fS 0 m) (oX Y T x4)=some (.ok (.nw (.lst ((cs.map λc=>(⟨#[c]⟩:Str)).map A.str))),oX X T x4):=by unfold hY;rw[if_pos (by rw[gN];lia)];show (match cT (aH 4) bj (mix (aa 2) (aV az (bJ (aa 0) (aG 26)))) (fS 0 m) [] (oX Y T x4++[.un]) with|some (ys,O)=>some ((Uj (Rr.nw (.lst ys)):Except Str Rr),O.take 4)|none=>none)=_;rw[hc];rfl
 exact aP (H9 rfl (bY (jS (aj rfl (ah rfl (g _)) rfl) (R _)) y) rfl d) rfl rfl h4 rfl
variable{B:Str}
theorem Cy(h:Wd B):∃p k,B=kI p k/\p.length<=7/\∀c∈p,c∈oY.cps.toList:=by
 rcases W7 B.cps.toList with z|⟨p,c,z⟩
 .have:=h.l1;rw[z] at this;exact absurd this (by decide)
 .rw[W8] at z;obtain⟨k,_,rfl⟩:=GD c (h.ab c (by rw[z];simp));refine⟨p,k,?_,?_,λc hc=>h.ab c (by rw[z];simp[hc])⟩
  .cases B with
   |mk b=>exact congrArg Str.mk (by rw[<-z])
  .have:=h.l8;rw[z] at this;simp at this;lia
variable{p:List Nat}{k:Nat}
theorem Q5(h:p.length<=7)(hp:∀c∈p,c∈oY.cps.toList):Wd (kI p k):=⟨by rw[eQ];simp,by rw[eQ];simp;lia,λc hc=>by
 rw[eQ] at hc;rcases Su.mp hc with z|z
 .exact hp c z
 .rw[Sx.mp z];exact EG k⟩
theorem Ey{j:Nat}(h:kI p i=kI p j):i%26=j%26:=by
 have:p++[qw i]=p++[qw j]:=by rw[<-eQ,<-eQ,h]
 have:=List.append_cancel_left this;injection this with h _;exact Gi h
theorem w_next{T:A}(hp:p.length<=7):PL (oX o T (.fr (.str (kI p k))))=some (.nx,oX o T (.fr (.str (kI p (k+1))))):=by
 have hl:(kI p k).length<=100000:=by rw[hJ,eQ];simp;lia
 have h:jd (kI p k).cps.toList (-1)=some (qw k):=by rw[eQ];exact sC _ _
 have fx:sR oY (.str ⟨#[qw k]⟩)=some (.fr (.int ((k%26:Nat):Int))):=by unfold sR;dsimp only;rw[sf]
 have x:(((k%26:Nat):Int)+1).fmod 26=(((k+1)%26:Nat):Int):=by rw[WI _ (by decide)];lia
 have a:(⟨p.toArray⟩:Str)++⟨#[qw (k+1)]⟩=kI p (k+1):=by
  show Str.mk (p.toArray++#[qw (k+1)])=_;unfold kI
  congr 1
  simp
 have X:gq (bS jb bZ) (.fr (.str oY)) (.fr (.int ((((k%26:Nat):Int)+1).fmod 26))) (oX o T (.fr (.str (kI p k))))=some (.ok (.fr (.str ⟨#[qw (k+1)]⟩)),oX o T (.fr (.str (kI p k)))):=uG rfl (of_eq_true Ck) (by rw[x];exact BB (k+1));have sl:=Nt (m:=aa 3) (ml:=j5) (mh:=oA (d0 nY (aG 1))) (Z:=oX o T (.fr (.str (kI p k)))) (z:=kI p k) (lo:=none) (hi:=some (-1)) rfl rfl (Fs rfl) rfl hl;rw[Ay] at sl;refine aP (U:=oX o T (.fr (.str (kI p k)))) (r:=.fr (.str (kI p (k+1)))) (aj sl (aj rfl (aj (aj (H9 rfl (aj rfl rfl (uG rfl hl h)) rfl fx) rfl rfl) rfl (jM (by decide) _)) X) ?_) rfl rfl rfl rfl;rw[<-a];exact GR (by show p.toArray.size+1<=_;simp;lia) _
theorem Jm{ss:List Str}(h:Wd B)(u:ss.length<=20):∃z,N3 (iy AL PJ PL (oX o (.lst (ss.map A.str)) (.fr (.str B)))=some (.nx,oX o (.lst (ss.map A.str)) (.fr (.str z)))) (Wd z) (z∉ss):=by
 obtain⟨p,k,rfl,hp,r⟩:=Cy h;have tt:∀(z:Str)(b:Bool),decide (z∈ss)=b->PJ (oX o (.lst (ss.map A.str)) (.fr (.str z)))=some (.ok b,oX o (.lst (ss.map A.str)) (.fr (.str z))):=by rintro z b rfl;exact aC (aj rfl rfl (Lu false z ss _))
 obtain⟨O,h1,z,rfl,hz,hn⟩:=lD (t:=PJ) (b:=PL) (n:=AL)
  (P:=λm Z=>∃j,N4 (m=27-j) (j<=26) (Z=oX o (.lst (ss.map A.str)) (.fr (.str (kI p (k+j))))) (∀i,i<j->kI p (k+i)∈ss))
  (Q:=λZ=>∃z,N3 (Z=oX o (.lst (ss.map A.str)) (.fr (.str z))) (Wd z) (z∉ss)) (by
   rintro m Z ⟨j,rfl,U,rfl,R⟩;by_cases X:kI p (k+j)∈ss
   .have c:j<26:=by
     rcases Nat.lt_or_ge j 26 with z|z
     .exact z
     .have nd:((T9 26).map λi=>kI p (k+i)).Nodup:=by unfold List.Nodup;rw[T7];refine Yq (λ{a b} ha d E e=>?_) List.pairwise_lt_range;have:=Ey e;have:=UG.mp ha;have:=UG.mp d;lia
      have:=rq (ys:=ss) nd λx w=>by obtain⟨i,hi,rfl⟩:=Ta.mp w;exact R i (by have:=UG.mp hi;lia)
      rw[Ss,V2] at this;lia
    refine .inr ⟨_,_,27-(j+1),tt _ true (decide_eq_true X),.inl (w_next hp),by lia,j+1,rfl,by lia,rfl,λi hi=>?_⟩;by_cases e:i=j
    .rw[e];exact X
    .exact R i (by lia)
   .exact .inl ⟨_,tt _ false (decide_eq_false X),_,rfl,Q5 hp r,X⟩) ⟨0,rfl,by decide,rfl,λi hi=>absurd hi (Nat.not_lt_zero _)⟩ (uX (show 27<2^9500 from SH (by decide:27<2^5) (TJ (by decide) (by decide))))
 exact⟨z,h1,hz,hn⟩
theorem n9{n:Int}{ss:List Str}(w:Wl n o)(hn:n<2^37)(u:ss.length<=20):X2 λ(z:Str)(o':LO)=>N4 (∃Z,aQ [.pv o,.fr (.lst (ss.map A.str))]=some (.rt (.fr (.str z)),.pv o'::.fr (.lst (ss.map A.str))::Z)) (Wd z) (z∉ss) (Wl (n+11) o'):=by
 obtain⟨B,E,s1,a,Q⟩:=IL (T:=.lst (ss.map A.str)) (x4:=.un) w (by lia) rfl;obtain⟨z,s2,hz,x⟩:=Jm (o:=E) a u
 suffices Wp aQ [.pv o,.fr (.lst (ss.map A.str))] λf Z=>f=.rt (.fr (.str z))/\∃O,Z=.pv E::.fr (.lst (ss.map A.str))::O by obtain⟨f,Z,e,rfl,O,rfl⟩:=this;exact⟨z,E,⟨O,e⟩,hz,x,Q.mono (by lia)⟩
 rw[Ga];exact Wp.df (Wp.st (U:=oX o (.lst (ss.map A.str)) .un) rfl (Wp.st s1 (Wp.st s2 (Wp.en (aO rfl rfl) ⟨rfl,_,rfl⟩))))
theorem zd{t:Mi Bool}{n:Mi Rr}(h:t Z=some (.ok true,U))(k:m U=some (.ok r,Z')):Eu t m n Z=some (.ok r,Z'):=bk h k
theorem rF{t:Mi Bool}{n:Mi Rr}(h:t Z=some (.ok false,U))(k:n U=some (.ok r,Z')):Eu t m n Z=some (.ok r,Z'):=bk h k
theorem MY{x y:Int}(h:y≠0)(d:L2.Bd 9000 y):Val dH [.int x,.int y] (.int (cd x y)):=by
 obtain⟨O,h1,q,r,rfl⟩:=lD (t:=ao (aD jc (aa 1) (mC (A.int 0)))) (b:=av (aK 2 (aD j9 (aa 0) (aa 1))) (av (aK 0 (aa 1)) (aK 1 (aa 2)))) (n:=AL)
  (P:=λk Z=>∃p q r,Z=[.fr (.int p),.fr (.int q),r]/\k=q.natAbs/\np r=true/\(q=0->p=cd x y)/\(q≠0->cd p q=cd x y))
  (Q:=λZ=>∃q r,Z=[.fr (.int (cd x y)),q,r]) (by
   rintro k Z ⟨p,q,r,rfl,rfl,g,h1,h2⟩;by_cases z:q=0
   .exact .inl ⟨_,aC (aj rfl rfl (kX (b:=true) (decide_eq_true z) _)),_,_,by rw[<-h1 z]⟩
   .exact .inr ⟨_,[.fr (.int q),.fr (.int (p.fmod q)),.fr (.int (p.fmod q))],_,aC (aj rfl rfl (kX (b:=false) (decide_eq_false z) _)),.inl (fD (aP (aj rfl rfl (jM z _)) rfl rfl g rfl) <| fD (aP rfl rfl rfl rfl rfl) (aP rfl rfl rfl rfl rfl)),tL p z,q,p.fmod q,_,rfl,rfl,rfl,λe=>by rw[<-h2 z];exact El z e,λe=>by rw[Gz z e];exact h2 z⟩) (k:=y.natAbs) (Z:=[.fr (.int x),.fr (.int y),.un]) ⟨x,y,.un,rfl,rfl,rfl,λe=>absurd e h,λ_=>rfl⟩ (uX (SH d (TJ (by decide) (by decide))))
 exact Val.of (Wp.df (Wp.st (Hw h1) (Wp.en (aO rfl rfl) rfl)))
theorem Nu{t b:Int}(h:b≠0)(G:L2.Bd 9000 b):Val iG [.int t,.int b] (nm (jK t b)):=by
 have k:=aL (MY (x:=t) h G);have hc:=wF (x:=t) h;have f:fits 9000 (cd t b)=true:=fV (show L2.Bd 9000 (cd t b) from UE (NF h) G) (SK _);have d:∀(u:Int)(Z:List Sl),gq l9 (.fr (.int u)) (.fr (.int (cd t b))) Z=some (.ok (.fr (.int (u.fdiv (cd t b)))),Z):=λu Z=>by unfold gq;simp only[res,LJ,M.oV,f,bne_iff_ne,ne_eq,hc,not_false_eq_true,UY,decide_true,if_true]
 exact Val.of (Wp.df (Wp.st (U:=[.fr (.int t),.fr (.int b),.fr (.int (cd t b))]) (vA (ah rfl (k _)) rfl) (Wp.en (aO (bD (ag (aj rfl rfl (d _ _)) (ag (aj rfl rfl (d _ _)) rfl)) rfl) rfl) rfl)))
variable{x y:Num}
theorem wm{n m:Nat}(w:NB n x)(T:NB m y)(h:n+m<=8999):Val u7 [nm x,nm y] (nm (bX x y)):=
 Val.of (Wp.df (Wp.en (aO (ah (ag (cZ (aj (aj rfl rfl (vT (ft w.b1 (by lia)) (ft T.b2 (by lia)) _)) (aj rfl rfl (vT (ft T.b1 (by lia)) (ft w.b2 (by lia)) _)) rfl) rfl) (ag (aj rfl rfl (vT (ft w.b2 (by lia)) (ft T.b2 (by lia)) _)) rfl)) (aL (Nu (t:=x.1*y.2+y.1*x.2) (b:=x.2*y.2) (Vy w.nz T.nz) ((w.b2.mul T.b2).mono (by lia))) _)) rfl) rfl))
theorem qV{n m:Nat}(w:NB n x)(T:NB m y)(h:n+m<=8999):Val fo [nm x,nm y] (nm (bX x y)):=
 Val.of (Wp.df (Wp.en (aO (ah (ag (cZ (aj (aj rfl rfl (vT (ft w.b1 (by lia)) (ft T.b2 (by lia)) _)) (aj rfl rfl (vT (ft T.b1 (by lia)) (ft w.b2 (by lia)) _)) rfl) rfl) (ag (aj rfl rfl (vT (ft w.b2 (by lia)) (ft T.b2 (by lia)) _)) rfl)) (aL (zD (t:=x.1*y.2+y.1*x.2) (b:=x.2*y.2) (Int.mul_pos w.ok.1 T.ok.1) ((w.b2.mul T.b2).mono (by lia))) _)) rfl) rfl))
theorem wM{n m:Nat}(w:NB n x)(T:NB m y)(h:n<=20000)(h':m<=20000):Val kR [nm x,nm y] (.bl (De x y)):=
 Val.of (Wp.df (Wp.en (aO (aj (aj rfl rfl (vT (ft w.b1 h) (ft T.b2 h') _)) (aj rfl rfl (vT (ft T.b1 h') (ft w.b2 h) _)) rfl) rfl) rfl))
theorem mS(i:Int):Val jP [.int i] (.bl true):=⟨[.fr (.int i)],rfl⟩
theorem iZ{n:Nat}(w:NB n x)(hn:n<=9000):Val fW [nm x] (.bl true):=by
 have P:=MY (x:=x.1) (y:=x.2) w.nz (w.b2.mono hn);have F:cd x.1 x.2=1:=by unfold cd;rw[if_neg (by have:=w.ok.1;lia),w.ok.2];rfl
 rw[F] at P;have z:ao (aD vc (aD (bS jb bZ) (aa 0) (mC (.int 1))) (mC (.int 1))) [.fr (nm x)]=some (.ok false,[.fr (nm x)]):=by rw[<-decide_eq_false (show ¬ x.2<1 by have:=w.ok.1;lia)];rfl
 exact Val.of (Wp.df (Wp.st (cY (dr (c5 (b:=true) rfl) (aC (aj rfl rfl (kX (b:=true) rfl _)))) rfl) (Wp.st (cY (dr (c5 (b:=true) (aC (ah rfl (aL (mS x.1) _)))) (dr (c5 (b:=true) (aC (ah rfl (aL (mS x.2) _)))) z)) rfl) (Wp.en (aO (aj (ah rfl (aL P _)) rfl (wo rfl _)) rfl) rfl))))
theorem AY{n:Nat}(w:NB n x)(T:NB n y)(hn:n<=4000)(h:De y x=false):Val ie [nm x,nm y] .non:=by have k:=wM T w (by lia) (by lia);rw[h] at k;exact Val.of (Wp.df (Wp.st (cY (dr (c5 (b:=true) (aC (ah rfl (aL (iZ w (by lia)) _)))) (c5 (b:=true) (aC (ah rfl (aL (iZ T (by lia)) _))))) rfl) (Wp.en (cY (aC (ah rfl (aL k _))) rfl) rfl)))
structure Sf where
 s:Str
 r:Num
 w:Str
def jm(f:Sf):A:=.tup [.str f.s,nm f.r,.str f.w]
def zR(w:Str):Prop:=w = "fixed" \/ w = "big" \/ w = "small"
structure Dj(n:Nat)(f:Sf):Prop where
 nb:NB n f.r
 nn:De f.r (0,1)=false
 wy:zR f.w
theorem OI:NB 60 (0,1):=NB.zero
noncomputable def Kz(w:Str):Bool:=("fixed" : Str)==w || (("big" : Str)==w || (("small" : Str)==w || false))
theorem Fe(w:Str):gb true (.str w) (.tup [.str "fixed",.str "big",.str "small"])=some (.fr (.bl (!Kz w))):=rfl
variable{w:Str}
theorem DG(h:zR w):Kz w=true:=by unfold Kz;rcases h with rfl|rfl|rfl<;>simp
theorem FJ{f:Sf}{n:Nat}(h:Dj n f)(h0:60<=n)(hn:n<=4000):Val iN [jm f] .non:=by
 have k:=wM h.nb (OI.mono h0) (by lia) (by lia);rw[h.nn] at k;have w:gb true (.str f.w) (.tup [.str "fixed",.str "big",.str "small"])=some (.fr (.bl false)):=by rw[Fe,DG h.wy];rfl
 exact Val.of (Wp.df (Wp.st (cY (dr (c5 (b:=true) (aC (ah rfl (aL (iZ h.nb (by lia)) _)))) (aC (ah rfl (aL k _)))) rfl) (Wp.en (cY (aC (aj rfl rfl (fu (o:=none) rfl rfl (by unfold qO bS;rw[w])))) rfl) rfl)))
noncomputable def FY:Str:= "abcdefghijklmnopqrstuvwxyz0123456789."
structure zG(z:Str):Prop where
 lo:1<=z.length
 hi:z.length<=30
 sg:∀c∈z.cps.toList,c∈FY.cps.toList
theorem Fn:∀c∈FY.cps.toList,pH ⟨#[c]⟩ FY=true:=by decide +kernel
theorem qo{α:Type}(f:α->Bool):∀l:List α,fY (l.map λx=>A.bl (f x))=some (l.map f)
 |[]=>rfl
 |x::l=>by rw[SR,fY,qo f l];rfl
theorem BM{p q:Int->Int->Bool}{ma mb h:Mi Rr}{i k:Int}(ha:ma Z=some (.ok (.fr (.int i)),Z))(d:mb Z=some (.ok (.fr (.int j)),Z))(hc:h Z=some (.ok (.fr (.int k)),Z))(h1:p i j=true)(h2:q j k=true):gT p q ma mb h Z=some (.ok (.fr (.bl true)),Z):=by refine bk ha (bk d ?_);dsimp only [res];rw[h1];exact bk hc (by dsimp only [res];rw[h2])
theorem qi{x:Str}{m:Int}(h1:1<=z.length)(h2:(z.length:Int)<=m)(hm:m<=30)(sg:∀c∈z.cps.toList,pH ⟨#[c]⟩ x=true)(hl:∀c∈z.cps.toList,kE false (.str ⟨#[c]⟩) (.str x)=some (.fr (.bl (pH ⟨#[c]⟩ x)))):Val eD [.str z,.str x,.int m] (.bl true):=by
 have k:=cB (i:=3) (ts:=z.cps.toList) (e:=aD (bS (qO false) (fP false)) (aa 3) (aa 1)) (S:=[.fr (.str z),.fr (.str x),.fr (.int m)]) (λc=>.str ⟨#[c]⟩) (λc=>.bl true) rfl (by rw[<-hJ];lia) (by intro c hc;refine⟨.fr (.bl true),aj rfl rfl (fu (o:=none) rfl rfl ?_),rfl⟩;unfold qO bS;rw[show gb false (.str ⟨#[c]⟩) (.str x)=none from rfl,show eS false (.str ⟨#[c]⟩) (.str x)=none from rfl];dsimp only;rw[hl c hc,sg c hc])
 have Y:eJ (λbs=>UM bs id) (.lst (z.cps.toList.map λc=>A.bl true))=some (.fr (.bl true)):=by unfold eJ;dsimp only;rw[qo];dsimp only;rw[V1,Tf.mpr λc hc=>(show (id∘λ_=>true) c=true from rfl)]
 have l:∀Z,cb gc (aa 0) (.fr (.str z)::Z)=some (.ok (.fr (.int z.length)),.fr (.str z)::Z):=λZ=>bq rfl (dg (a:=.str z) rfl (if_pos (by lia)));exact Val.of (Wp.df (Wp.st (cY (dr (c5 (b:=true) rfl) (c5 (b:=true) (aC (BM rfl (l _) rfl (decide_eq_true (by lia)) (decide_eq_true (by lia)))))) rfl) (Wp.en (aO (bq (bY (cD rfl rfl) k) (dg rfl Y)) rfl) rfl)))
theorem Nn:∀c∈oY.cps.toList,pH ⟨#[c]⟩ oY=true:=by decide +kernel
theorem yy(hz:zG z):Val pY [.str z] (.bl true):=
 Val.of (Wp.df (Wp.en (aO (ah rfl (aL (qi hz.lo (by have:=hz.hi;lia) (by decide) (λc hc=>Fn c (hz.sg c hc)) (λc hc=>rfl)) _)) rfl) rfl))
theorem k8(hz:Wd z):Val gu [.str z] (.bl true):=
 Val.of (Wp.df (Wp.en (aO (ah rfl (aL (qi (by rw[hJ];exact hz.l1) (by have:=hz.l8;rw[hJ];lia) (by decide) (λc hc=>Nn c (hz.ab c hc)) (λc hc=>rfl)) _)) rfl) rfl))
theorem Wd.nm(h:Wd z):zG z:=⟨by rw[hJ];exact h.l1,by have:=h.l8;rw[hJ];lia,λc hc=>(show ∀c∈oY.cps.toList,c∈FY.cps.toList by decide +kernel) c (h.ab c hc)⟩
noncomputable def gr(ss:List Str):List (Key×A):=ss.map λz=>(.inr z,.bl true)
theorem BX(ss:List Str)(z:Str)(h:z∉ss):gy (gr ss) (.inr z)=none:=by
 unfold gy gr;rw[Xn.mpr]
 .rfl
 .intro x w;obtain⟨y,T,rfl⟩:=Ta.mp w;simp only[decide_eq_true_eq];intro e;cases e;exact h T
theorem AF(ss:List Str)(z:Str)(h:z∉ss):iQ (gr ss) (.inr z) (.bl true)=gr (ss++[z]):=by
 unfold iQ;rw[if_neg]
 .unfold gr;rw[SJ];rfl
 .intro e;rw[TZ] at e;obtain⟨x,w,e⟩:=e;unfold gr at w;obtain⟨y,T,rfl⟩:=Ta.mp w;rw[decide_eq_true_eq] at e;cases e;exact h T
theorem mQ{ss:List Str}(h:∀z∈ss,zG z)(nd:ss.Nodup)(hl:ss.length<=1000):Val fJ [.lst (ss.map A.str)] .non:=by
 refine Val.of (Wp.df (Wp.st (U:=[.fr (.lst (ss.map A.str)),.lv (.dic []),.un]) rfl ?_));refine Wp.fr (as:=ss.map A.str) (λi Z=>∃x,Z=[.fr (.lst (ss.map A.str)),.lv (.dic (gr (ss.take i))),x]/\np x=true) rfl ⟨_,rfl,rfl⟩ ?_ (λZ _=>rfl);rintro i a Z ha ⟨x,rfl,w⟩;rw[SV] at ha;cases X:ss[i]? with
 |none=>rw[X] at ha;cases ha
 |some z=>
  rw[X] at ha;cases ha;have hi:=(Sy.mp X).1;have es:ss.take (i+1)=ss.take i++[z]:=by rw[Ut,X];rfl
  have hn:z∉ss.take i:=λhz=>by have:(ss.take (i+1)).Nodup:=nd.sublist (UH _ _);rw[es] at this;exact(SQ.mp this).2.2 z hz z (.head _) rfl
  have g:=BX _ _ hn;refine⟨[.fr (.lst (ss.map A.str)),.lv (.dic (gr (ss.take i))),.fr (.str z)],by cases x<;>first|(cases w;done)|rfl,?_⟩;refine Wp.st (cY (c5 (b:=true) (aC (ah rfl (aL (yy (h z (SY X))) _)))) rfl) (Wp.st (cY (aC (aj rfl rfl (fu (o:=none) (a:=.str z) (b:=.dic (gr (ss.take i))) (r:=.fr (.bl false)) rfl rfl (by show some (Rr.fr (A.bl (gy (gr (ss.take i)) (.inr z)).isSome))=_;rw[g];rfl)))) rfl) (Wp.en (f:=.nx) (U:=[.fr (.lst (ss.map A.str)),.lv (.dic (gr (ss.take (i+1)))),.fr (.str z)]) ?_ ⟨.inl rfl,_,rfl,rfl⟩));refine(mD (rk:=.fr (.str z)) (r:=.fr (.bl true)) rfl rfl rfl (Fi (kvs:=gr (ss.take i)) rfl rfl rfl rfl (by unfold gr;rw[Ss,Tw];lia))).trans ?_;rw[AF _ _ hn,<-es];rfl
structure Sz where
 n:Str
 l:Num
 m:Num
 f:List Sf
def yf(z:Sz):List (Str×A):=[("name",.str z.n),("least",nm z.l),("most",nm z.m),("shifts",.tup (z.f.map jm))]
def eA(z:Sz):A:=.obj "Size" (yf z)
def lg(z:Sz):A:=.tup [.str z.n,nm z.l,nm z.m,.tup (z.f.map jm)]
noncomputable def cy(z:Sz):List Str:=z.n::z.f.map Sf.s
structure rn(b:Nat)(z:Sz):Prop where
 lb:NB b z.l
 mb:NB b z.m
 le:De z.m z.l=false
 fs:∀f∈z.f,Dj b f
 ns:∀s∈cy z,zG s
 nd:(cy z).Nodup
 ln:z.f.length<=50
theorem kj(z:Sz):aT ["Size", "Part"] "name" (eA z)=some (.fr (.str z.n)):=by unfold aT eA yf;simp only;rw[if_pos (by decide +kernel)];rfl
theorem qv(z:Sz):aT ["Size"] "least" (eA z)=some (.fr (nm z.l)):=by unfold aT eA yf;simp only;rw[if_pos (by decide +kernel)];rfl
theorem uk(z:Sz):aT ["Size"] "most" (eA z)=some (.fr (nm z.m)):=by unfold aT eA yf;simp only;rw[if_pos (by decide +kernel)];rfl
theorem fc(z:Sz):aT ["Size"] "shifts" (eA z)=some (.fr (.tup (z.f.map jm))):=by unfold aT eA yf;simp only;rw[if_pos (by decide +kernel)];rfl
theorem nW{z:Sz}(h:z.f.length<=50)(s0:Sl):hY 1 (aH 1) bj (aD (bS jb bZ) (aa 1) (mC (.int 0))) (z.f.map jm) [s0]=some (.ok (.nw (.lst ((z.f.map Sf.s).map A.str))),[s0]):=by rw[Tj];exact cB (T:=Sf) (i:=1) (ts:=z.f) (S:=[s0]) jm (λf=>.str f.s) rfl (by lia) λf _=>⟨.fr (.str f.s),rfl,rfl⟩
theorem zv{xs ys:List A}(h:xs.length+ys.length<=100000)(Z:List Sl):gq bt (.nw (.lst xs)) (.nw (.lst ys)) Z=some (.ok (.nw (.lst (xs++ys))),Z):=fu (o:=none) (a:=.lst xs) (b:=.lst ys) rfl rfl (if_pos h)
variable{s0:Sl}
theorem Pw{z:Sz}(h:z.f.length<=50)(u:s0=.fr (eA z)\/s0=.pv (.obj "Size" (yf z))):∃Z,cf [s0]=some (.rt (.lv (.lst ((cy z).map A.str))),s0::Z):=by
 have l:[A.str z.n].length+((z.f.map Sf.s).map A.str).length<=100000:=by rw[Ss,Ss,Up];lia
 suffices Wp cf [s0] λg Z=>g=.rt (.lv (.lst ((cy z).map A.str)))/\Z=[s0] by obtain⟨_,_,e,rfl,rfl⟩:=this;exact⟨_,e⟩
 rcases u with rfl|rfl
 .exact Wp.df (Wp.en (aO (aj (d9 (ag (bq rfl (dg rfl (kj z))) rfl) rfl) (bY (cD (bq rfl (dg rfl (fc z))) rfl) (nW h _)) (zv l _)) rfl) ⟨rfl,rfl⟩)
 .exact Wp.df (Wp.en (aO (aj (d9 (ag (bq rfl (dg rfl (kj z))) rfl) rfl) (bY (cD (bq rfl (dg rfl (fc z))) rfl) (nW h _)) (zv l _)) rfl) ⟨rfl,rfl⟩)
theorem yE{z:Sz}(h:z.f.length<=50):eE cf [eA z] (.lst ((cy z).map A.str)):=let ⟨_,e⟩:=Pw h (.inl rfl);⟨_,e⟩
def OD(sh:A)(f:List Sf):Prop:=(sh=.non/\f=[])\/sh=.lst (f.map jm)\/sh=.tup (f.map jm)
theorem LV{sh:A}{f:List Sf}(h:f.length<=50)(u:OD sh f)(x v Z G m:Sl):Eu (ao (aD (xM false) (aa 4) (mC .non))) (bC dz) (cb hE (bu 1 (bF (aa 4)) (aH 6) bj (bC (bx (aD (bS jb bZ) (aa 6) (mC (.int 0))) (bx (aD (bS jb bZ) (aa 6) (mC (.int 1))) (bx (aD (bS jb bZ) (aa 6) (mC (.int 2))) dz)))))) [x,v,Z,G,.fr sh,m]=some (.ok (.fr (.tup (f.map jm))),[x,v,Z,G,.fr sh,m]):=by
 have k:=cB (T:=Sf) (i:=6) (ts:=f) (e:=bC (bx (aD (bS jb bZ) (aa 6) (mC (.int 0))) (bx (aD (bS jb bZ) (aa 6) (mC (.int 1))) (bx (aD (bS jb bZ) (aa 6) (mC (.int 2))) dz)))) (S:=[x,v,Z,G,.fr sh,m]) jm jm rfl (by lia) λg _=>⟨.fr (jm g),rfl,rfl⟩
 rcases u with ⟨rfl,rfl⟩|rfl|rfl
 .rfl
 .exact rF rfl (bq (bY rfl k) rfl)
 .exact rF rfl (bq (bY rfl k) rfl)
theorem R4(a:A)(Z G Y m:Sl):gD ["Size", "Part"] 0 "name" (aa 1) [.pv (.obj "Size" []),.fr a,Z,G,Y,m]=some (.nx,[.pv (.obj "Size" [("name",a)]),.fr a,Z,G,Y,m]):=by rfl
theorem Sg(a b:A)(G Y m:Sl):gD ["Size"] 0 "least" (aa 2) [.pv (.obj "Size" [("name",a)]),.fr a,.fr b,G,Y,m]=some (.nx,[.pv (.obj "Size" [("name",a),("least",b)]),.fr a,.fr b,G,Y,m]):=by rfl
theorem RX(a b c:A)(Y m:Sl):gD ["Size"] 0 "most" (aa 3) [.pv (.obj "Size" [("name",a),("least",b)]),.fr a,.fr b,.fr c,Y,m]=some (.nx,[.pv (.obj "Size" [("name",a),("least",b),("most",c)]),.fr a,.fr b,.fr c,Y,m]):=by rfl
theorem R7(a b c d:A)(Y o:Sl)(m:Mi Rr)(h:m [.pv (.obj "Size" [("name",a),("least",b),("most",c)]),.fr a,.fr b,.fr c,Y,o]=some (.ok (.fr d),[.pv (.obj "Size" [("name",a),("least",b),("most",c)]),.fr a,.fr b,.fr c,Y,o])):gD ["Size"] 0 "shifts" m [.pv (.obj "Size" [("name",a),("least",b),("most",c)]),.fr a,.fr b,.fr c,Y,o]=some (.nx,[.pv (.obj "Size" [("name",a),("least",b),("most",c),("shifts",d)]),.fr a,.fr b,.fr c,Y,o]):=by exact sk h rfl
theorem Rt{f:Ms}{T:List Sl}(h:f [.pv o]=some (.rt s,.pv o'::T))(y:mU s=some r)(Z:List Sl):fh f [] [.rf 0] (.pv o::Z)=some (.ok r,.pv o'::Z):=BL (as:=[]) ⟨T,h⟩ y Z
theorem D9{f:Ms}{as:List A}(h:Val f as .non)(e:ms Z=some (.ok (as.map Rr.fr),U)):bA (bQ f [] ms) Z=some (.nx,U):=dM (ah e (aL h _))
abbrev Oc(z:Sz)(sh:A)(x5:Sl):List Sl:=[.pv (.obj "Size" (yf z)),.fr (.str z.n),.fr (nm z.l),.fr (nm z.m),.fr sh,x5]
theorem Jx{z:Sz}(h:rn b z)(S:60<=b)(b1:b<=4000){sh:A}(u:OD sh z.f):∃x5,cH [.pv (.obj "Size" []),.fr (.str z.n),.fr (nm z.l),.fr (nm z.m),.fr sh]=some (.rt (.fr .non),Oc z sh x5):=by
 obtain⟨r,x⟩:=Pw h.ln (.inr rfl)
 suffices Wp cH [.pv (.obj "Size" []),.fr (.str z.n),.fr (nm z.l),.fr (nm z.m),.fr sh] λg Z=>g=.rt (.fr .non)/\∃x5,Z=Oc z sh x5 by obtain⟨_,_,e,rfl,x5,rfl⟩:=this;exact⟨x5,e⟩
 refine Wp.df (Wp.st (R4 ..) (Wp.st (Sg ..) (Wp.st (RX ..) (Wp.st (U:=Oc z sh .un) (R7 _ _ _ _ _ _ _ (LV h.ln u _ _ _ _ _)) (Wp.st (D9 (AY h.lb h.mb b1 h.le) rfl) (Wp.sq (Wp.PK (z.f.map jm) (λZ=>∃x5,Z=Oc z sh x5/\np x5=true) (cD (bq rfl (dg rfl (fc z))) rfl) ⟨_,rfl,rfl⟩ ?_ ?_)))))))
 .rintro a ha Z ⟨x5,rfl,w⟩;obtain⟨f,hf,rfl⟩:=Ta.mp ha;exact⟨Oc z sh (.fr (jm f)),by cases x5<;>first|(cases w;done)|rfl,Wp.en (D9 (FJ (h.fs f hf) S b1) rfl) ⟨.inl rfl,_,rfl,rfl⟩⟩
 .rintro Z ⟨x5,rfl,w⟩;exact⟨rfl,Wp.en (D9 (mQ h.ns h.nd (by have:=h.ln;unfold cy;rw[SF,Ss];lia)) (ag (cZ (cz rfl (ah rfl (Rt x rfl _))) rfl) rfl)) ⟨rfl,x5,rfl⟩⟩
theorem Jr{cn:Str}{f:Ms}{das as:List A}{o2:LO}{Y:List Sl}(h:f (.pv (.obj cn [])::(as++das).map Sl.fr)=some (.rt (.fr .non),.pv o2::Y))(Z:List Sl):tu cn f das (as.map Rr.fr) Z=some (.ok (.nw o2),Z):=by unfold tu;rw[<-SJ,kh];simp only[rP,h];rw[j7 _ _ _ _ (by rw[cA,Ss])]
theorem BH{z:Sz}(h:rn b z)(S:60<=b)(b1:b<=4000)(Z:List Sl):tu "Size" cH [] [.fr (.str z.n),.fr (nm z.l),.fr (nm z.m),.fr (.tup (z.f.map jm))] Z=some (.ok (.nw (.obj "Size" (yf z))),Z):=by obtain⟨x5,hi⟩:=Jx h S b1 (sh:=.tup (z.f.map jm)) (.inr (.inr rfl));exact Jr (as:=[.str z.n,nm z.l,nm z.m,.tup (z.f.map jm)]) hi Z
theorem sN{z:Sz}(h:rn b z)(S:60<=b)(b1:b<=4000):eE cW [eA z] (.obj "Size" (yf z)):=by have k:eE fK [eA z,nm z.l,nm z.m] (.obj "Size" (yf z)):=eE.of (Wp.df (Wp.en (aO (kG (ag (bq rfl (dg rfl (kj z))) (ag rfl (ag rfl (ag (bq rfl (dg rfl (fc z))) rfl)))) (BH h S b1 _)) rfl) rfl));exact eE.of (Wp.df (Wp.en (aO (ah (ag rfl (ag (bq rfl (dg rfl (qv z))) (ag (bq rfl (dg rfl (uk z))) rfl))) (cj k _)) rfl) rfl))
def L8(zs:List Sz):List (Str×A):=[("kept",.lst (zs.map eA))]
def pf(zs:List Sz):A:=.obj "Stock" (L8 zs)
structure iH(b:Nat)(zs:List Sz):Prop where
 sz:∀z∈zs,rn b z
 ln:(zs.flatMap cy).length<=60
theorem mV:∀zs:List Sz,zs.length<=(zs.flatMap cy).length
 |[]=>by simp
 |z::zs=>by
  have:=mV zs;have hl:(cy z).length=z.f.length+1:=by unfold cy;simp
  rw[V3,SI,SF,hl];lia
variable{zs:List Sz}
theorem iH.len(h:iH b zs):zs.length<=60:=SW (mV zs) h.ln
theorem iH.ns{b:Nat}{zs:List Sz}(h:iH b zs):∀x∈zs.flatMap cy,zG x:=λx w=>by obtain⟨z,hz,w⟩:=List.mem_flatMap.mp w;exact(h.sz z hz).ns x w
theorem t9(zs:List Sz):aT ["Stock"] "kept" (pf zs)=some (.fr (.lst (zs.map eA))):=by unfold aT pf L8;simp only;rw[if_pos (by decide +kernel)];rfl
theorem Pk(h:iH b zs)(u:s0=.fr (pf zs)\/s0=.pv (.obj "Stock" (L8 zs))):∃Z,bM [s0]=some (.rt (.lv (.lst ((zs.flatMap cy).map A.str))),s0::Z):=by
 have hk:∀Z,bF (d0 (aT ["Stock"] "kept") (aa 0)) (s0::Z)=some (.ok (zs.map eA),s0::Z):=λZ=>by rcases u with rfl|rfl<;>exact cD (bq rfl (dg rfl (t9 zs))) rfl
 suffices Wp bM [s0] λg Z=>g=.rt (.lv (.lst ((zs.flatMap cy).map A.str)))/\∃U,Z=s0::U by obtain⟨_,_,e,rfl,_,rfl⟩:=this;exact⟨_,e⟩
 refine Wp.df (Wp.st (U:=[s0,.lv (.lst []),.un]) rfl (Wp.sq (Wp.fr (as:=zs.map eA) (λi Z=>∃x,Z=[s0,.lv (.lst (((zs.take i).flatMap cy).map A.str)),x]/\np x=true) (hk _) ⟨_,rfl,rfl⟩ ?_ ?_)))
 .rintro i a Z ha ⟨x,rfl,w⟩;rw[SV] at ha;cases X:zs[i]? with
  |none=>rw[X] at ha;cases ha
  |some z=>
   rw[X] at ha;cases ha;have e:((zs.take (i+1)).flatMap cy).map A.str=((zs.take i).flatMap cy).map A.str++(cy z).map A.str:=by rw[Ut,X];simp
   have m:(((zs.take i).flatMap cy).map A.str).length+((cy z).map A.str).length<=100000:=by have q:=congrArg (λl=>(l.flatMap cy).length) (Ur (i+1) zs);have E:=congrArg U0 e;simp only[Xg,SI,Ss] at q E ⊢;have:=h.ln;lia
   refine⟨[s0,.lv (.lst (((zs.take i).flatMap cy).map A.str)),.fr (eA z)],by cases x<;>first|(cases w;done)|rfl,Wp.en (f:=.nx) (U:=[s0,.lv (.lst (((zs.take (i+1)).flatMap cy).map A.str)),.fr (eA z)]) ?_ ⟨.inl rfl,_,rfl,rfl⟩⟩;rw[e];exact dM (r:=.fr .non) (JU rfl (ah (ag (gW rfl rfl) rfl) (cj (yE (h.sz z (SY X)).ln) _)) (if_pos m))
 .rintro Z ⟨x,rfl,_⟩;rw[Ss,S9];exact⟨rfl,Wp.en (f:=.rt (.lv (.lst ((zs.flatMap cy).map A.str)))) rfl ⟨rfl,_,rfl⟩⟩
theorem Ac(h:iH b zs):eE bM [pf zs] (.lst ((zs.flatMap cy).map A.str)):=let ⟨_,e⟩:=Pk h (.inl rfl);⟨_,e⟩
theorem Q4(h:iH b zs)(nd:(zs.flatMap cy).Nodup)(n:60<=b)(b1:b<=4000):eP [.pv (.obj "Stock" []),.fr (.lst (zs.map eA))]=some (.rt (.fr .non),[.pv (.obj "Stock" (L8 zs)),.fr (.lst (zs.map eA))]):=by
 obtain⟨r,x⟩:=Pk h (.inr rfl);have y:=h.len
 suffices Wp eP [.pv (.obj "Stock" []),.fr (.lst (zs.map eA))] λg Z=>g=.rt (.fr .non)/\Z=[.pv (.obj "Stock" (L8 zs)),.fr (.lst (zs.map eA))] by obtain⟨_,_,e,rfl,rfl⟩:=this;exact e
 have k:=cB (T:=Sz) (i:=2) (ts:=zs) (e:=aV cW (cF (ai 2))) (S:=[.pv (.obj "Stock" []),.fr (.lst (zs.map eA))]) eA eA rfl (by lia) λz hz=>⟨.nw (.obj "Size" (yf z)),ah rfl (cj (sN (h.sz z hz) n b1) _),rfl⟩
 exact Wp.df (Wp.st (U:=[.pv (.obj "Stock" (L8 zs)),.fr (.lst (zs.map eA))]) (sk (bY (cD rfl rfl) k) rfl) (Wp.en (D9 (mQ h.ns nd (by have:=h.ln;lia)) (ag (cZ (cq (ah rfl (Rt x rfl _))) rfl) rfl)) ⟨rfl,rfl⟩))
def yZ(nm:Str)(zs:List Sz):List (Str×A):=[("name",.str nm),("own_stock",pf zs)]
abbrev hU(nm:Str)(zs:List Sz)(fs:List A):LO:=.nob "Part" (yZ nm zs) [("put_faces",fs)]
theorem M5(h:iH b zs)(nd:(zs.flatMap cy).Nodup)(S:60<=b)(b1:b<=4000)(s0 s1 r:Sl):
  hW "Stock" eP [] (cF (ai 2)) [s0,s1,.fr (.lst (zs.map eA)),r]=some (.ok (.nw (.obj "Stock" (L8 zs))),[s0,s1,.fr (.lst (zs.map eA)),r]):=
 kG (rs:=[.fr (.lst (zs.map eA))]) rfl (Jr (as:=[.lst (zs.map eA)]) (das:=[]) (Q4 h nd S b1) _)
theorem vq(nm:Str)(zs:List Sz)(fs:List A)(h:s0=.pv (hU nm zs fs)\/s0=.lv (hU nm zs fs))(Z:List Sl)(n:Mi Rr):bg (cp ["Part"] 0 "own_stock") n (s0::Z)=some (.ok (.fr (pf zs)),s0::Z):=by
 refine cq ?_;have e:((yZ nm zs).lookup ("own_stock" : Str))=some (pf zs):=rfl;have c:(["Part"]:List Str).contains "Part" = true:=by decide +kernel
 rcases h with rfl|rfl
 .show (if (["Part"]:List Str).contains "Part" then (match (yZ nm zs).lookup ("own_stock" : Str) with|some a=>some ((Uj (Rr.fr a):Except Str Rr),_)|none=>none) else none)=_;rw[if_pos c,e]
 .show (if (["Part"]:List Str).contains "Part" then (match (yZ nm zs).lookup ("own_stock" : Str) with|some a=>some ((Uj (Rr.fr a):Except Str Rr),_)|none=>none) else none)=_;rw[if_pos c,e]
theorem A2(h:iH b zs)(e:m Z=some (.ok (.fr (pf zs)),U))(n:Mi Rr):bg (aV bM (cF (bO "Stock" "names" m))) n Z=some (.ok (.nw (.lst ((zs.flatMap cy).map A.str))),U):=
 cq (ah (ag (gW e rfl) rfl) (cj (Ac h) _))
theorem Mc{nm:Str}(hn:Wd nm)(h:iH b zs)(nd:(zs.flatMap cy).Nodup)(r:∀z∈zs.flatMap cy,Wd z)(S:60<=b)(b1:b<=4000):
  ∃Z,dU [.pv (.obj "Part" []),.fr (.str nm),.fr (.lst (zs.map eA))]=some (.rt (.fr .non),.pv (hU nm zs [])::.fr (.str nm)::.fr (.lst (zs.map eA))::Z):=by
 suffices Wp dU [.pv (.obj "Part" []),.fr (.str nm),.fr (.lst (zs.map eA))] λg Z=>g=.rt (.fr .non)/\∃U,Z=.pv (hU nm zs [])::.fr (.str nm)::.fr (.lst (zs.map eA))::U by obtain⟨_,_,e,rfl,_,rfl⟩:=this;exact⟨_,e⟩
 have y:=h.ln
 refine Wp.df (Wp.st (U:=[.pv (.obj "Part" []),.fr (.str nm),.fr (.lst (zs.map eA)),.un]) (cY (c5 (b:=true) (aC (ah rfl (aL (k8 hn) _)))) rfl) ?_)
 refine Wp.st (U:=[.pv (.obj "Part" [("name",.str nm)]),.fr (.str nm),.fr (.lst (zs.map eA)),.un]) rfl ?_
 refine Wp.st (U:=[.pv (.obj "Part" (yZ nm zs)),.fr (.str nm),.fr (.lst (zs.map eA)),.un]) (sk (M5 h nd S b1 _ _ _) rfl) ?_
 refine Wp.st (U:=[.pv (hU nm zs []),.fr (.str nm),.fr (.lst (zs.map eA)),.un]) rfl ?_
 refine Wp.PK ((zs.flatMap cy).map A.str) (λZ=>∃x,Z=[.pv (hU nm zs []),.fr (.str nm),.fr (.lst (zs.map eA)),x]/\np x=true) (cD (A2 h (vq nm zs [] (.inl rfl) _ _) _) rfl) ⟨_,rfl,rfl⟩ ?_ ?_
 .rintro a ha Z ⟨x,rfl,w⟩
  obtain⟨z,hz,rfl⟩:=Ta.mp ha
  exact⟨[.pv (hU nm zs []),.fr (.str nm),.fr (.lst (zs.map eA)),.fr (.str z)],by cases x<;>first|(cases w;done)|rfl,Wp.en (cY (c5 (b:=true) (aC (ah rfl (aL (k8 (r z hz)) _)))) rfl) ⟨.inl rfl,_,rfl,rfl⟩⟩
 .rintro Z ⟨x,rfl,_⟩
  exact⟨rfl,_,rfl⟩
def iT(p:Str×Num):A:=.tup [.str p.1,nm p.2]
noncomputable def aU(ks:List Str)(g:Str->A):List (Key×A):=ks.map λn=>(Tu n,g n)
theorem iI(ks:List Str)(g:Str->A)(n:Str):gy (aU ks g) (.inr n)=if n∈ks then some (g n) else none:=by
 unfold gy aU;induction ks with
 |nil=>simp
 |cons k ks l=>
  rw[SR,Ts];by_cases c:k=n
  .subst c;simp
  .have E:decide ((Tu k:Key)=Tu n)=false:=decide_eq_false λz=>c (Vq z);have J:¬ n=k:=λz=>c z.symm;simp only[E];rw[l];simp[J]
theorem EU(ks:List Str)(g:Str->A)(n:Str):((aU ks g).any λH=>decide (H.1=Tu n))=decide (n∈ks):=by
 unfold aU;induction ks with
 |nil=>simp
 |cons k ks l=>
  rw[SR,Um,l];by_cases c:k=n
  .subst c;simp
  .have E:decide ((Tu k:Key)=Tu n)=false:=decide_eq_false λz=>c (Vq z);have J:¬ n=k:=λz=>c z.symm;simp only[E,XY,SO,J,false_or]
theorem mR(ks:List Str)(g:Str->A)(n:Str)(a:A):iQ (aU ks g) (.inr n) a=aU (if n∈ks then ks else ks++[n]) (λm=>if m=n then a else g m):=by
 unfold iQ;rw[EU];by_cases c:n∈ks
 .rw[if_pos (decide_eq_true c),if_pos c];unfold aU;rw[Tj];refine Uc λm _=>?_;show (if (Tu m:Key)=Tu n then (Tu m,a) else (Tu m,g m))=(Tu m,if m=n then a else g m);by_cases z:m=n
  .subst z;simp
  .rw[if_neg (λe=>z (Vq e)),if_neg z]
 .rw[if_neg (by simpa using c),if_neg c];unfold aU;rw[SJ]
  congr 1
  .refine Uc λm hm=>?_;show (Tu m,g m)=(Tu m,if m=n then a else g m);rw[if_neg λe:m=n=>c (by rw[<-e];exact hm)]
  .simp
theorem lS(ks:List Str)(g:Str->A):strKeys (aU ks g)=some ks:=by
 unfold aU;induction ks with
 |nil=>rfl
 |cons k ks l=>rw[SR,strKeys,l]
theorem kZ(ks:List Str)(g:Str->A):(aU ks g).length=ks.length:=by unfold aU;rw[Ss]
variable{ks:List Str}
theorem iB{g g':Str->A}(h:∀n∈ks,g n=g' n):aU ks g=aU ks g':=Uc λn hn=>by rw[h n hn]
variable{ps:List Pr}
theorem mw{n:Str}(h:∀p∈ps,p.1≠n):cc ps n=(0,1):=by revert h;refine snoc_ind (M:=λps:List Pr=>(∀p∈ps,p.1≠n)->cc ps n=(0,1)) (λ_=>rfl) (λl a s h=>?_) ps;rw[fA,if_neg (h a (by simp)),s λp hp=>h p (Sv _ hp)]
theorem take_snoc{l:List α}{a:α}(h:l[i]?=some a):l.take (i+1)=l.take i++[a]:=by rw[Ut,h];rfl
theorem uc(ps:List Pr)(i:Nat)(n:Str):cnt (ps.take i) n<=cnt ps n:=YW (UH _ _)
def nz(ps:List Pr)(n:Str):Bool:=!decide (cc ps n=(0,1))
def gk(ps:List Pr)(ss:List Str):List Pr:=(ss.filter (nz ps)).map λn=>(n,cc ps n)
theorem rising{ss:List Str}(h:ss.Pairwise (λa b=>uo a b=true))(nd:ss.Nodup):ss.Pairwise um:=
 h.imp₂ (λa b h1 h2=>⟨by rw[nU,decide_eq_true_eq] at h1;exact h1,h2⟩) nd
theorem tJ(nd:ks.Nodup)(hk:∀n,n∈ks↔∃p∈ps,p.1=n):Canon ps (gk ps (bP ks)):=by
 have y:=rising (nV ks) ((bV ks).nodup_iff.mpr nd);refine⟨T7.mpr (y.sublist List.filter_sublist),λp=>?_⟩;unfold gk;rw[Ta];constructor
 .rintro⟨n,hn,rfl⟩;have:=(Uk.mp hn).2;exact⟨rfl,by simpa[nz] using this⟩
 .rintro⟨e,h⟩;refine⟨p.1,Uk.mpr ⟨(bV ks).mem_iff.mpr ((hk p.1).mpr ?_),by unfold nz;rw[<-e,decide_eq_false h];rfl⟩,Wu rfl e.symm⟩;by_cases c:∃q∈ps,q.1=p.1
  .exact c
  .exact absurd (e.trans (mw λq j z=>c ⟨q,j,z⟩)) h
def au(x:Num)(L:List Pr):A:=.tup [nm x,.tup (L.map iT)]
abbrev M7(x:Num)(ps:List Pr)(K:List (Key×A))(x3 x4:Sl):List Sl:=[.fr (nm x),.fr (.tup (ps.map iT)),.lv (.dic K),x3,x4]
variable{x3:Sl}
theorem RZ{a b c:Sl}(p:Pr)(h3:np x3=true)(h4:np x4=true):G2 3 4 (iT p) [a,b,c,x3,x4]=some [a,b,c,.fr (.str p.1),.fr (nm p.2)]:=by cases x3<;>first|(cases h3;done)|(cases x4<;>first|(cases h4;done)|rfl)
theorem wJ{H q:Mi Rr}{d k:Rr}{K:List (Key×A)}{x:Str}{v:Num}(h1:H Z=some (.ok d,Z))(h2:res Z d=some (.dic K))(h3:mk Z=some (.ok k,Z))(h4:res Z k=some (.str x))(h5:q Z=some (.ok (.fr (nm (0,1))),Z))(t:gy K (.inr x)=some (nm v)\/gy K (.inr x)=none/\v=(0,1)):uj H mk q Z=some (.ok (.fr (nm v)),Z):=by
 refine bk h1 ?_;rw[h2];refine bk h3 (bk h5 ?_);rw[h2,h4];dsimp only [iu];rcases t with e|⟨e,rfl⟩
 .rw[e]
 .rw[e];rfl
theorem Dd(nb:∀p∈ps,NB b p.2)(cn:∀n,cnt ps n<=c)(C:(b+1)*c+1<=4000)(G:b<=4000)(hl:ps.length<=60):
  ∃L,Val mZ [nm x,.tup (ps.map iT)] (au x L)/\Canon ps L/\L.length<=ps.length:=by
 suffices Wp mZ ([nm x,.tup (ps.map iT)].map Sl.fr) λg _=>∃L,g=.rt (.fr (au x L))/\Canon ps L/\L.length<=ps.length by obtain⟨_,_,e,L,rfl,h⟩:=this;exact⟨L,⟨_,e⟩,h⟩
 refine Wp.df (Wp.st rfl ?_)
 refine Wp.sq (Wp.fr (λi Z=>∃(ks:List Str)(x3 x4:Sl),Z=M7 x ps (aU ks λn=>nm (cc (ps.take i) n)) x3 x4/\ks.Nodup/\(∀n,n∈ks↔∃p∈ps.take i,p.1=n)/\ks.length<=i/\np x3=true/\np x4=true) rfl ⟨[],_,_,rfl,.nil,by simp,by simp,rfl,rfl⟩ ?_ ?_)
 .rintro i a Z ha ⟨ks,x3,x4,rfl,nd,hk,q,h3,h4⟩
  rw[SV] at ha
  cases hp:ps[i]? with
  |none=>rw[hp] at ha;cases ha
  |some p=>
   rw[hp] at ha;cases ha;obtain⟨n,y⟩:=p;have K:=SY hp;have E:=nb _ K;have Q:NB ((b+1)*c+1) (cc (ps.take i) n):=(vG (λp hp=>nb p (VF hp)) n).mono (by have:=VU (b+1) (SW (uc ps i n) (cn n));lia);have H:i<ps.length:=(Sy.mp hp).1;have F:cc (ps.take (i+1)) n=bX (cc (ps.take i) n) y:=by rw[take_snoc hp,fA,if_pos rfl]
   have j:∀m,m≠n->cc (ps.take (i+1)) m=cc (ps.take i) m:=λm hm=>by rw[take_snoc hp,fA,if_neg (λz=>hm z.symm)]
   have kp:=aL (wm Q E (by lia));have o:gy (aU ks λn=>nm (cc (ps.take i) n)) (.inr n)=some (nm (cc (ps.take i) n))\/gy (aU ks λn=>nm (cc (ps.take i) n)) (.inr n)=none/\cc (ps.take i) n=(0,1):=by
    rw[iI];by_cases z:n∈ks
    .rw[if_pos z];exact .inl rfl
    .rw[if_neg z];exact .inr ⟨rfl,mw λp hp e=>z ((hk n).mpr ⟨p,hp,e⟩)⟩
   have v:iQ (aU ks λn=>nm (cc (ps.take i) n)) (.inr n) (nm (bX (cc (ps.take i) n) y))=aU (if n∈ks then ks else ks++[n]) λm=>nm (cc (ps.take (i+1)) m):=by
    rw[mR];refine iB λm _=>?_;by_cases z:m=n
    .rw[if_pos z,z,F]
    .rw[if_neg z,j m z]
   refine⟨_,RZ (n,y) h3 h4,Wp.en (U:=M7 x ps (aU (if n∈ks then ks else ks++[n]) λm=>nm (cc (ps.take (i+1)) m)) (.fr (.str n)) (.fr (nm y))) ?_ ⟨.inl rfl,_,_,_,rfl,?_,?_,?_,rfl,rfl⟩⟩
   .refine(mD (ah (ag (cZ (wJ rfl rfl rfl rfl rfl o) rfl) rfl) (kp _)) rfl rfl (Fi rfl rfl rfl rfl (by rw[kZ];lia))).trans ?_;rw[v];rfl
   .split
    .exact nd
    .rename_i z;exact SQ.mpr ⟨nd,S8.mpr ⟨by simp,.nil⟩,λa ha b G e=>by rw[Sx.mp G] at e;exact z (e▸ha)⟩
   .intro m;rw[take_snoc hp];by_cases z:n∈ks
    .rw[if_pos z,hk m];constructor
     .rintro⟨p,h1,h2⟩;exact⟨p,Sv _ h1,h2⟩
     .rintro⟨p,h1,h2⟩;rcases Su.mp h1 with h|h
      .exact⟨p,h,h2⟩
      .rw[Sx.mp h] at h2;exact h2▸(hk n).mp z
    .rw[if_neg z,Su,hk m];constructor
     .rintro(⟨p,h1,h2⟩|h)
      .exact⟨p,Sv _ h1,h2⟩
      .exact⟨(n,y),Sr _ (Sx.mpr rfl),(Sx.mp h).symm⟩
     .rintro⟨p,h1,h2⟩;rcases Su.mp h1 with h|h
      .exact .inl ⟨p,h,h2⟩
      .rw[Sx.mp h] at h2;exact .inr (Sx.mpr h2.symm)
   .split
    .lia
    .rw[SI];simp;lia
 .rintro O ⟨ks,x3,x4,rfl,nd,hk,q,h3,h4⟩
  rw[Ss,S9] at hk ⊢
  rw[Ss] at q
  have sl:(bP ks).length<=60:=by rw[(bV _).length_eq];lia
  have X:∀s∈bP ks,gy (aU ks λn=>nm (cc ps n)) (.inr s)=some (nm (cc ps s)):=λs u=>by rw[iI,if_pos ((bV ks).mem_iff.mp u)]
  have B:∀s∈bP ks,∀{d:Rr}{Z:List Sl},res Z d=some (.dic (aU ks λn=>nm (cc ps n)))->gq (bS jb bZ) d (.fr (.str s)) Z=some (.ok (.fr (nm (cc ps s))),Z):=λs u d Z h=>by
   unfold gq;rw[h];show (match bS jb bZ (.dic (aU ks λn=>nm (cc ps n))) (.str s) with|some r=>some ((.ok r:Except Str Rr),Z)|none=>none)=_;have:bS jb bZ (.dic (aU ks λn=>nm (cc ps n))) (.str s)=some (.fr (nm (cc ps s))):=by unfold bS jb bZ;dsimp only [iu];rw[X s u]
   rw[this]
  have k:=qD (S:=M7 x ps (aU ks λn=>nm (cc ps n)) x3 x4) (t:=ao (aD jc (mix (aa 2) (aa 5)) (mC (.tup [.int 0,.int 1])))) (e:=bC (bJ (aa 5) (mix (aa 2) (aa 5))))
   A.str (λs=>iT (s,cc ps s)) (nz ps) rfl (by lia:(bP ks).length<=100000) (λs u=>⟨aC (aj (aj rfl rfl (B s u rfl)) rfl (by show gq jc (.fr (nm (cc ps s))) (.fr (nm (0,1))) _=_;simp only[gq,res,jc,IP,nz])),λ_=>⟨.fr (iT (s,cc ps s)),bD (ag rfl (ag (aj rfl rfl (B s u rfl)) rfl)) rfl,rfl⟩⟩)
  have j:((bP ks).filter (nz ps)).map (λs=>iT (s,cc ps s))=(gk ps (bP ks)).map iT:=by unfold gk;rw[Tj];rfl
  rw[j] at k
  have sq:bF (cb (ph bL bT) (aa 2)) (M7 x ps (aU ks λn=>nm (cc ps n)) x3 x4)=some (.ok ((bP ks).map A.str),M7 x ps (aU ks λn=>nm (cc ps n)) x3 x4):=by
   have F:ph bL bT (.dic (aU ks λn=>nm (cc ps n)))=some (.nw (.lst ((bP ks).map A.str))):=by unfold ph bL bT;dsimp only;rw[lS];dsimp only;rw[if_pos (by lia)]
   exact cD (bq rfl (dg rfl F)) rfl
  refine⟨rfl,Wp.en (aO (bD (ag rfl (ag (bq (bY sq k) rfl) rfl)) rfl) rfl) ⟨gk ps (bP ks),rfl,tJ nd hk,?_⟩⟩
  unfold gk
  rw[Ss]
  exact SW (UU _ _) (by rw[(bV _).length_eq];lia)
structure Sm(b l:Nat)(ss:List Str)(x:Num)(L:List Pr):Prop where
 x:NB b x
 rise:L.Pairwise (λa b=>um a.1 b.1)
 nb:∀p∈L,NB b p.2
 nz:∀p∈L,p.2≠(0,1)
 len:L.length<=l
 xc:∀p∈L,p.1∈ss
variable{l:Nat}{L:List Pr}
theorem Sm.Oe{ss:List Str}(h:Sm b l ss x L):∀p∈L,Ok p.2:=λp hp=>(h.nb p hp).ok
theorem fE(r:L.Pairwise (λa b=>um a.1 b.1))(h:∀p∈L,Ok p.2)(z:∀p∈L,p.2≠(0,1)):Canon L L:=by
 obtain⟨k,G⟩:=lu r;refine⟨r,λp=>⟨λhp=>⟨?_,z p hp⟩,λ⟨e,n⟩=>?_⟩⟩
 .exact lW (h p hp) (hG h _) (by rw[gS h,k p hp])
 .by_cases c:∃q∈L,q.1=p.1
  .obtain⟨q,j,J⟩:=c;have:q.2=p.2:=by rw[e];exact lW (h q j) (hG h _) (by rw[gS h,<-J,k q j])
   rw[show p=q from Wu J.symm this.symm];exact j
  .refine absurd ?_ n;rw[e];exact lW (hG h _) gM (by rw[gS h,ji];exact G _ λq j z=>c ⟨q,j,z⟩)
theorem vF(o:∀p∈ps,Ok p.2)(h:Canon ps L)(n:Str):fR L n=fR ps n:=by
 obtain⟨k,G⟩:=lu h.rise;by_cases c:∃q∈L,q.1=n
 .obtain⟨q,j,rfl⟩:=c;rw[k q j,((h.mem q).mp j).1,gS o]
 .rw[G n λp hp e=>c ⟨p,hp,e⟩];by_cases z:cc ps n=(0,1)
  .rw[<-gS o,z,ji]
  .exact absurd ⟨(n,cc ps n),(h.mem (n,cc ps n)).mpr ⟨rfl,z⟩,rfl⟩ c
theorem qM(L M:List Pr)(n:Str):cnt (L++M) n=cnt L n+cnt M n:=Xk
theorem Nr(L M:List Pr)(hl:L.length+M.length<=100)(Z:List Sl):gq bt (.fr (.tup (L.map iT))) (.fr (.tup (M.map iT))) Z=some (.ok (.fr (.tup ((L++M).map iT))),Z):=by
 have e:tI (.tup (L.map iT)) (.tup (M.map iT))=some (.fr (.tup ((L++M).map iT))):=by unfold tI;dsimp only;rw[if_pos (by rw[Ss,Ss];lia),SJ]
 unfold gq bt bS;dsimp only [res];rw[show we (.tup (L.map iT)) (.tup (M.map iT))=none from rfl,show xk (.tup (L.map iT)) (.tup (M.map iT))=none from rfl];dsimp only;rw[e]
structure Tt(k:Nat)(ss:List Str)(ps:List Pr)(x:Num)(L:List Pr):Prop where
 cn:Canon ps L
 nb:∀p∈ps,NB 64 p.2
 ct:∀n,cnt ps n<=k
 nx:NB (65*k+1) x
 nm:∀p∈ps,p.1∈ss
theorem Tt.PQ{ss:List Str}(h:Tt k ss ps x L)(p:Pr)(hp:p∈L):NB (65*k+1) p.2:=by rw[((h.cn.mem p).mp hp).1];exact(vG h.nb p.1).mono (by have:=VU (64+1) (h.ct p.1);lia)
theorem Tt.Ml{ss:List Str}(h:Tt k ss ps x L)(p:Pr)(hp:p∈L):p.1∈ss:=by
 obtain⟨e,n⟩:=(h.cn.mem p).mp hp;by_cases z:∃q∈ps,q.1=p.1
 .obtain⟨q,j,J⟩:=z;rw[<-J];exact h.nm q j
 .exact absurd (e.trans (mw λq j J=>z ⟨q,j,J⟩)) n
theorem gz{ss:List Str}(r:L.Pairwise (λa b=>um a.1 b.1))(h:∀p∈L,p.1∈ss):L.length<=ss.length:=by
 have nd:(L.map (·.1)).Nodup:=T7.mpr (r.imp λh e=>h.2 e);have:=rq nd (ys:=ss) λx w=>by obtain⟨p,hp,rfl⟩:=Ta.mp w;exact h p hp
 rwa[Ss] at this
variable{N:List Pr}
theorem Tt.next{ss:List Str}{M:List Pr}(h:Tt k ss ps x L)(g:Sm 64 12 ss y M)(c:Canon (L++M) N):Tt (k+1) ss (ps++M) (bX x y) N:=by
 have K:∀p∈L,Ok p.2:=λp hp=>(h.PQ p hp).ok;have o:∀p∈ps,Ok p.2:=λp hp=>(h.nb p hp).ok;have a:∀p∈L++M,Ok p.2:=λp hp=>(Su.mp hp).elim (K p) (g.Oe p);have i:∀p∈ps++M,Ok p.2:=λp hp=>(Su.mp hp).elim (o p) (g.Oe p);have u:∀n,cc (L++M) n=cc (ps++M) n:=λn=>lW (hG a n) (hG i n) (by rw[gS a,gS i,dS,dS,vF o h.cn]);exact⟨⟨c.rise,λp=>by rw[c.mem,u]⟩,λp hp=>(Su.mp hp).elim (h.nb p) (g.nb p),λn=>by rw[qM];have:=h.ct n;have:=fG g.rise n;lia,
  (h.nx.IY g.x).mono (by lia),λp hp=>(Su.mp hp).elim (h.nm p) (g.xc p)⟩
theorem Gr{ss:List Str}{M:List Pr}(h:Tt k ss ps x L)(g:Sm 64 12 ss y M)(hk:k<=16)(m:ss.length<=12):∃N,Val dI [au x L,au y M] (au (bX x y) N)/\Canon (L++M) N/\Tt (k+1) ss (ps++M) (bX x y) N:=by
 have l1:=gz h.cn.rise h.Ml;have Q:=gz g.rise g.xc;obtain⟨N,v,c,-⟩:=Dd (x:=bX x y) (ps:=L++M) (b:=1041) (c:=2) (λp hp=>(Su.mp hp).elim (λq=>(h.PQ p q).mono (by lia)) λq=>(g.nb p q).mono (by lia))
  (λn=>by rw[qM];have:=fG h.cn.rise n;have:=fG g.rise n;lia) (by lia) (by lia) (by rw[SI];lia)
 refine⟨N,?_,c,h.next g c⟩;have w:=aL (wm h.nx g.x (by lia));have l:=aL v;have ea:=Nr L M (by lia);exact Val.of (Wp.df (Wp.en (aO (ah (ag (ah (ag (aj rfl rfl rfl) (ag (aj rfl rfl rfl) rfl)) (w _)) (ag (cZ (aj (aj rfl rfl rfl) (aj rfl rfl rfl) (ea _)) rfl) rfl)) (l _)) rfl) rfl))
structure Fa where
 n:Str
 ax:Str
 x:Num
 L:List Pr
def aZ(f:Fa):A:=.tup [.str f.n,.str f.ax,au f.x f.L]
abbrev G3(i j k:Nat):Mg:=dj 3 (aJ (aH i) (aJ (aH j) (aJ (aH k) dA)))
theorem A6(b:Bool){x:Str}{ss:List Str}{y:Rr}(h:res Z y=some (.lst (ss.map A.str))):gq (bS (qO b) (fP b)) (.fr (.str x)) y Z=some (.ok (.fr (.bl (if b then !decide (x∈ss) else decide (x∈ss)))),Z):=by refine fu (o:=none) rfl h ?_;unfold qO bS;rw[vX]
theorem jF(x y:Str)(Z:List Sl):gq gG (.fr (.str x)) (.fr (.str y)) Z=some (.ok (.fr (.bl (decide (x=y)))),Z):=by refine fu (o:=none) rfl rfl ?_;unfold gG si;simp only[toD];rw[if_pos (by simp[D.depth])];simp[D.eq,VA]
def QU(x:Num):A:=nm x
def gO(ax:Str):Prop:=ax = "x" \/ ax = "y"
theorem Aq(nm:Str)(zs:List Sz)(fs:List A):cR [.pv (hU nm zs fs)]=some (.rt (.fr (pf zs)),[.pv (hU nm zs fs)]):=by obtain⟨_,_,e,rfl,rfl⟩:Wp cR [.pv (hU nm zs fs)] λg Z=>g=.rt (.fr (pf zs))/\Z=[.pv (hU nm zs fs)]:=Wp.df (Wp.en (aO (vq nm zs fs (.inl rfl) _ _) rfl) ⟨rfl,rfl⟩);exact e
theorem Je(nm:Str)(zs:List Sz)(as:List A):aT ["Part"] "own_stock" (hU nm zs as).a=some (.fr (pf zs)):=by show (if (["Part"]:List Str).contains "Part" then (match (yZ nm zs++[(("put_faces" : Str),A.lst as)]).lookup ("own_stock" : Str) with|some a=>some (Rr.fr a)|none=>none) else none)=_;rw[if_pos (by decide +kernel)];rfl
theorem wQ{nm:Str}{fs:List A}(u:s0=.pv (hU nm zs fs)\/s0=.fr (hU nm zs fs).a)(Z:List Sl):bg (cp ["Part"] 0 "own_stock") (d0 (aT ["Part"] "own_stock") (aa 0)) (s0::Z)=some (.ok (.fr (pf zs)),s0::Z):=by
 rcases u with rfl|rfl
 .exact vq nm zs fs (.inl rfl) _ _
 .exact cz rfl (bq rfl (dg rfl (Je nm zs fs)))
abbrev Mh(s0:Sl)(ax:Str)(x:Num)(M:List Pr)(x3 x4 x5:Sl):List Sl:=[s0,.fr (.str ax),.fr (au x M),x3,x4,x5]
variable{ax:Str}
theorem oE{nm:Str}{fs:List A}{M:List Pr}(u:s0=.pv (hU nm zs fs)\/s0=.fr (hU nm zs fs).a)(h:iH b zs)(ha:gO ax)(hm:∀p∈M,p.1∈zs.flatMap cy)(hl:M.length<=1000):∃Z,aN [s0,.fr (.str ax),.fr (au x M)]=some (.rt (.fr .non),s0::.fr (.str ax)::.fr (au x M)::Z):=by
 suffices Wp aN [s0,.fr (.str ax),.fr (au x M)] λg Z=>g=.rt (.fr .non)/\∃U,Z=s0::.fr (.str ax)::.fr (au x M)::U by obtain⟨_,_,e,rfl,U,rfl⟩:=this;exact⟨_,e⟩
 have ta:gb true (.str ax) (.tup [.str "x",.str "y"])=some (.fr (.bl false)):=by rcases ha with rfl|rfl<;>rfl
 refine Wp.df (Wp.st (U:=Mh s0 ax x M .un .un .un) (cY (aC (aj rfl rfl (fu (o:=none) rfl rfl (by unfold qO bS;rw[ta])))) rfl) ?_)
 refine Wp.st (U:=Mh s0 ax x M (.lv (.lst ((zs.flatMap cy).map A.str))) .un .un) (aP (A2 h (wQ u _) _) rfl rfl rfl rfl) ?_
 refine Wp.PK (M.map iT) (λZ=>∃x4 x5,Z=Mh s0 ax x M (.lv (.lst ((zs.flatMap cy).map A.str))) x4 x5/\np x4=true/\np x5=true) (cD (aj rfl rfl (bU (.inr rfl) rfl)) rfl) ⟨_,_,rfl,rfl,rfl⟩ ?_ ?_
 .rintro a c Z ⟨x4,x5,rfl,h4,h5⟩
  obtain⟨p,hp,rfl⟩:=Ta.mp c
  have tt:ao (aD (bS (qO true) (fP true)) (aa 4) (aa 3)) (Mh s0 ax x M (.lv (.lst ((zs.flatMap cy).map A.str))) (.fr (.str p.1)) (.fr (W.QU p.2)))=some (.ok false,Mh s0 ax x M (.lv (.lst ((zs.flatMap cy).map A.str))) (.fr (.str p.1)) (.fr (W.QU p.2))):=by have k:=A6 true (x:=p.1) (ss:=zs.flatMap cy) (y:=.rf 3) (Z:=Mh s0 ax x M (.lv (.lst ((zs.flatMap cy).map A.str))) (.fr (.str p.1)) (.fr (W.QU p.2))) rfl;rw[decide_eq_true (hm p hp)] at k;exact aC (aj rfl rfl k)
  exact⟨_,by cases x4<;>first|(cases h4;done)|(cases x5<;>first|(cases h5;done)|rfl),Wp.en (cY tt rfl) ⟨.inl rfl,_,_,rfl,rfl,rfl⟩⟩
 .rintro Z ⟨x4,x5,rfl,_⟩
  exact⟨rfl,_,rfl⟩
theorem yk{nm:Str}{fs:List A}{M:List Pr}(h:iH b zs)(ha:gO ax)(hm:∀p∈M,p.1∈zs.flatMap cy)(hl:M.length<=1000):∃Z,aN [.pv (hU nm zs fs),.fr (.str ax),.fr (au x M)]=some (.rt (.fr .non),.pv (hU nm zs fs)::.fr (.str ax)::.fr (au x M)::Z):=oE (.inl rfl) h ha hm hl
abbrev Qq:Ms:=f9 (rS (ao (aD gG (aa 3) (aa 1))) (ao (aD gG (aa 4) (aa 2)))) (bc (aa 5)) br
theorem rK(nm:Str)(zs:List Sz)(as:List A):aT ["Part"] "put_faces" (hU nm zs as).a=some (.fr (.lst as)):=by show (if (["Part"]:List Str).contains "Part" then (match (yZ nm zs++[(("put_faces" : Str),A.lst as)]).lookup ("put_faces" : Str) with|some a=>some (Rr.fr a)|none=>none) else none)=_;rw[if_pos (by decide +kernel)];rfl
noncomputable def mr(st ax:Str)(f:Fa):Bool:=decide (f.n=st)&&decide (f.ax=ax)
theorem wO{st ax:Str}{s0:Sl}:∀(fs:List Fa){f:Fa},fs.find? (mr st ax)=some f->∀x3 x4 x5,np x3=true->np x4=true->np x5=true->∃Z,forL (G3 3 4 5) Qq (fs.map aZ) [s0,.fr (.str st),.fr (.str ax),x3,x4,x5]=some (.rt (.fr (au f.x f.L)),s0::.fr (.str st)::.fr (.str ax)::Z)
 |[],_,h,_,_,_,_,_,_=>nomatch h
 |g::fs,f,h,x3,x4,x5,h3,h4,h5=>by
  have H:G3 3 4 5 (aZ g) [s0,.fr (.str st),.fr (.str ax),x3,x4,x5]=some [s0,.fr (.str st),.fr (.str ax),.fr (.str g.n),.fr (.str g.ax),.fr (au g.x g.L)]:=by cases x3<;>first|(cases h3;done)|(cases x4<;>first|(cases h4;done)|(cases x5<;>first|(cases h5;done)|rfl))
  rw[Ts] at h;have t:∀b,decide (g.n=st)=b->ao (aD gG (aa 3) (aa 1)) [s0,.fr (.str st),.fr (.str ax),.fr (.str g.n),.fr (.str g.ax),.fr (au g.x g.L)]=some (.ok b,[s0,.fr (.str st),.fr (.str ax),.fr (.str g.n),.fr (.str g.ax),.fr (au g.x g.L)]):=by rintro b rfl;exact aC (aj rfl rfl (jF _ _ _))
  have w:∀b,decide (g.ax=ax)=b->ao (aD gG (aa 4) (aa 2)) [s0,.fr (.str st),.fr (.str ax),.fr (.str g.n),.fr (.str g.ax),.fr (au g.x g.L)]=some (.ok b,[s0,.fr (.str st),.fr (.str ax),.fr (.str g.n),.fr (.str g.ax),.fr (au g.x g.L)]):=by rintro b rfl;exact aC (aj rfl rfl (jF _ _ _))
  have r:∀b,mr st ax g=b->rS (ao (aD gG (aa 3) (aa 1))) (ao (aD gG (aa 4) (aa 2))) [s0,.fr (.str st),.fr (.str ax),.fr (.str g.n),.fr (.str g.ax),.fr (au g.x g.L)]=some (.ok b,[s0,.fr (.str st),.fr (.str ax),.fr (.str g.n),.fr (.str g.ax),.fr (au g.x g.L)]):=by
   rintro b rfl;unfold mr;by_cases c:g.n=st
   .rw[decide_eq_true c,X0];exact Fc (t true (decide_eq_true c)) (w _ rfl)
   .rw[decide_eq_false c,VE];exact Dy (t false (decide_eq_false c))
  rw[SR,forL];rw[H];cases e:mr st ax g with
  |true=>rw[e] at h;cases h;have:Qq [s0,.fr (.str st),.fr (.str ax),.fr (.str g.n),.fr (.str g.ax),.fr (au g.x g.L)]=some (.rt (.fr (au g.x g.L)),[s0,.fr (.str st),.fr (.str ax),.fr (.str g.n),.fr (.str g.ax),.fr (au g.x g.L)]):=ou (r true e) rfl;dsimp only;rw[this];exact⟨_,rfl⟩
  |false=>rw[e] at h;have:Qq [s0,.fr (.str st),.fr (.str ax),.fr (.str g.n),.fr (.str g.ax),.fr (au g.x g.L)]=some (.nx,[s0,.fr (.str st),.fr (.str ax),.fr (.str g.n),.fr (.str g.ax),.fr (au g.x g.L)]):=cY (r false e) rfl;dsimp only;rw[this];exact wO fs h _ _ _ rfl rfl rfl
variable{f:Fa}
theorem CW{nm:Str}{fs:List Fa}{st:Str}(h:fs.find? (mr st ax)=some f):∃Z,aR [.fr (hU nm zs (fs.map aZ)).a,.fr (.str st),.fr (.str ax)]=some (.rt (.fr (au f.x f.L)),.fr (hU nm zs (fs.map aZ)).a::.fr (.str st)::.fr (.str ax)::Z):=by
 obtain⟨Z,e⟩:=wO (s0:=.fr (hU nm zs (fs.map aZ)).a) fs h .un .un .un rfl rfl rfl;refine⟨Z,?_⟩;obtain⟨_,_,j,rfl,rfl⟩:Wp aR [.fr (hU nm zs (fs.map aZ)).a,.fr (.str st),.fr (.str ax)] λg Z'=>g=.rt (.fr (au f.x f.L))/\Z'=.fr (hU nm zs (fs.map aZ)).a::.fr (.str st)::.fr (.str ax)::Z:=by refine Wp.df (Wp.sr (s:=.fr (au f.x f.L)) ?_ ⟨rfl,rfl⟩);rw[Hm,cD (bq rfl (dg rfl (rK nm zs (fs.map aZ)))) rfl];exact e
 exact j
theorem zt:∀L:List Pr,oW (L.map iT)=true
 |[]=>by simp[oW]
 |p::L=>by rw[SR,oW,zt L];simp[iT,nm,pl,oW]
theorem qU(x:Num)(L:List Pr):pl (au x L)=true:=by unfold au;rw[pl,oW,oW,oW,pl,zt L];simp[nm,pl,oW]
theorem uC:∀fs:List Fa,oW (fs.map aZ)=true
 |[]=>by simp[oW]
 |f::fs=>by rw[SR,oW,uC fs];unfold aZ;rw[pl,oW,oW,oW,oW,qU];simp[pl]
theorem zo{nm:Str}{fs:List Fa}{st:Str}(h:fs.find? (mr st ax)=some f)(Z:List Sl):fh (du 0 aR) [] [.rf 0,.fr (.str st),.fr (.str ax)] (.pv (hU nm zs (fs.map aZ))::Z)=some (.ok (.fr (au f.x f.L)),.pv (hU nm zs (fs.map aZ))::Z):=by
 obtain⟨U,e⟩:=CW (nm:=nm) (zs:=zs) h;have hl:du 0 aR [.pv (hU nm zs (fs.map aZ)),.fr (.str st),.fr (.str ax)]=some (.rt (.fr (au f.x f.L)),[.pv (hU nm zs (fs.map aZ)),.un,.un]):=by
  show (match aR [.fr (hU nm zs (fs.map aZ)).a,.fr (.str st),.fr (.str ax)] with
   |some (.rt s,T)=>if mW (ay 3 T)[0]?&&(s::ay 3 T).all p6 then some (Fl.rt s,(ay 3 T).set 0 (.pv (hU nm zs (fs.map aZ)))) else none
   |some (.ex x,T)=>if mW (ay 3 T)[0]?&&(ay 3 T).all p6 then some (.ex x,(ay 3 T).set 0 (.pv (hU nm zs (fs.map aZ)))) else none
   | _=>none)=_
  rw[e];show (if (true&&(pl (au f.x f.L)&&true))=true then _ else _)=_;rw[qU];rfl
 show (match du 0 aR [.pv (hU nm zs (fs.map aZ)),.fr (.str st),.fr (.str ax)] with
  |some (.rt s,T)=>match mU s,putL (.pv (hU nm zs (fs.map aZ))::Z) [.rf 0,.fr (.str st),.fr (.str ax)] (ay 3 T) (.un::Z) with
   |some r,some O=>some ((Uj r:Except Str Rr),O)
   |_,_=>none
  |some (.ex x,T)=>match putL (.pv (hU nm zs (fs.map aZ))::Z) [.rf 0,.fr (.str st),.fr (.str ax)] (ay 3 T) (.un::Z) with
   |some O=>some (.error x,O)
   |none=>none
  | _=>none)=_
 rw[hl];rfl
abbrev cC(nm:Str)(zs:List Sz)(fs:List Fa):LO:=hU nm zs (fs.map aZ)
theorem sQ(nm:Str)(zs:List Sz)(fs:List Fa)(hl:fs.length<=1000):ba [.fr (cC nm zs fs).a]=some (.rt (.lv (.lst (fs.map aZ))),[.fr (cC nm zs fs).a]):=by obtain⟨_,_,e,rfl,rfl⟩:Wp ba [.fr (cC nm zs fs).a] λg Z=>g=.rt (.lv (.lst (fs.map aZ)))/\Z=[.fr (cC nm zs fs).a]:=Wp.df (Wp.en (aO (r:=.nw (.lst (fs.map aZ))) (bq (bq rfl (dg rfl (rK nm zs (fs.map aZ)))) rfl) rfl) ⟨rfl,rfl⟩);exact e
abbrev xn(nm:Str)(zs:List Sz)(fs:List Fa)(n ax:Str)(st s:A)(x5:Sl):List Sl:=[.pv (cC nm zs fs),.fr (.str n),.fr (.str ax),.fr st,.fr s,x5]
variable{x5:Sl}
theorem OK{n:Str}(hn:Wd n)(hf:n ≠ "frame"){nm:Str}{fs:List Fa}{st s:A}:su (gZ (ao (aV gu (cF (ai 1))))) (ao (aD gG (aa 1) (mC (.str "frame")))) (xn nm zs fs n ax st s x5)=some (.ok false,xn nm zs fs n ax st s x5):=by refine dr (c5 (b:=true) (aC (ah rfl (aL (k8 hn) _)))) ?_;have k:=jF n "frame" (xn nm zs fs n ax st s x5);rw[decide_eq_false hf] at k;exact aC (aj rfl rfl k)
theorem OC{n:Str}{fs:List Fa}(hf:n∉fs.map Fa.n)(hl:fs.length<=1000){nm:Str}{st:A}{M:List Pr}(u:pl st=true):nP 0 (ao (aD (bS (qO false) (fP false)) (aa 1) (bu 1 (bF (bg (cp ["Part"] 0 "put_faces") (d0 (aT ["Part"] "put_faces") (aa 0)))) (aH 6) bj (mix (aa 6) (aG 0))))) (xn nm zs fs n ax st (au x M) .un)=some (.ok false,xn nm zs fs n ax st (au x M) .un):=by
 have e:ao (aD (bS (qO false) (fP false)) (aa 1) (bu 1 (bF (bg (cp ["Part"] 0 "put_faces") (d0 (aT ["Part"] "put_faces") (aa 0)))) (aH 6) bj (mix (aa 6) (aG 0)))) [.fr (cC nm zs fs).a,.fr (.str n),.fr (.str ax),.fr st,.fr (au x M),.un]=some (.ok false,[.fr (cC nm zs fs).a,.fr (.str n),.fr (.str ax),.fr st,.fr (au x M),.un]):=by have k:=A6 false (x:=n) (ss:=fs.map Fa.n) (y:=.nw (.lst (fs.map λf=>A.str f.n))) (Z:=[.fr (cC nm zs fs).a,.fr (.str n),.fr (.str ax),.fr st,.fr (au x M),.un]) (by rw[Tj];rfl);rw[decide_eq_false hf] at k;refine aC (aj rfl (bY (cD (cz rfl (bq rfl (dg rfl (rK nm zs (fs.map aZ))))) rfl) (cB (T:=Fa) (i:=6) (ts:=fs) (S:=[.fr (cC nm zs fs).a,.fr (.str n),.fr (.str ax),.fr st,.fr (au x M),.un]) aZ (λf=>.str f.n) rfl (by lia) λf _=>⟨.fr (.str f.n),rfl,rfl⟩)) k)
 show (match ao _ [.fr (cC nm zs fs).a,.fr (.str n),.fr (.str ax),.fr st,.fr (au x M),.un] with
  |some (.ok b,U)=>if kb U[0]?&&(U.set 0 .un).all p6 then some ((Uj b:Except Str Bool),U.set 0 (.pv (cC nm zs fs))) else none
  | _=>none)=_
 rw[e];show (if (true&&(true&&(true&&(true&&(pl st&&(pl (au x M)&&true))))))=true then _ else _)=_;rw[u,qU];rfl
theorem NU{nm:Str}{fs:List Fa}{n:Str}{st:A}{M:List Pr}(h:iH b zs)(ha:gO ax)(hm:∀p∈M,p.1∈zs.flatMap cy)(hl:M.length<=1000)(P:Mi Rr):bA (bg (aV aN (fQ (aY "Part" "refuse_move" 0) (ai 2) (ai 4))) P) (xn nm zs fs n ax st (au x M) x5)=some (.nx,xn nm zs fs n ax st (au x M) x5):=by obtain⟨Z,k⟩:=yk (nm:=nm) (fs:=fs.map aZ) (x:=x) h ha hm hl;exact dM (r:=.fr .non) (cq (ah (rs:=[.rf 0,.fr (.str ax),.fr (au x M)]) rfl (BL (as:=[.str ax,au x M]) ⟨_,k⟩ rfl _)))
theorem K6{nm:Str}{fs:List Fa}{n:Str}{st s:A}(hl:fs.length<=1000):bA (tM ["Part"] 0 "put_faces" [1,2,5]) (xn nm zs fs n ax st s (.fr (au y N)))=some (.nx,xn nm zs (fs++[⟨n,ax,y,N⟩]) n ax st s (.fr (au y N))):=by
 refine dM (r:=.fr .non) ?_;show _=some (_,[Sl.pv (hU nm zs ((fs++[Fa.mk n ax y N]).map aZ)),_,_,_,_,_]);rw[SJ];show (if ((["Part"]:List Str).contains "Part" && ((yZ nm zs).lookup ("put_faces" : Str)).isNone&&U5 3 900)=true then (if (fs.map aZ).length<=100000 then some ((Uj (Rr.fr .non):Except Str Rr),([.pv (hU nm zs (fs.map aZ++[.tup [.str n,.str ax,au y N]])),.fr (.str n),.fr (.str ax),.fr st,.fr s,.fr (au y N)]:List Sl)) else none) else none)=_;rw[if_pos (by have e:((yZ nm zs).lookup ("put_faces" : Str)).isNone=true:=rfl;rw[e];decide +kernel),if_pos (by rw[Ss];lia)]
 rfl
inductive Jz(fs:List Fa)(ax:Str)(x:Num)(M:List Pr):A->Num->List Pr->Prop
 |here:Jz fs ax x M .non x M
 |by' {st:Str} {f:Fa} {y:Num} {N:List Pr} (h:fs.find? (mr st ax)=some f) (k:Val dI [au f.x f.L,au x M] (au y N)):Jz fs ax x M (.str st) y N
theorem Jz.pl{fs:List Fa}{ax:Str}{x y:Num}{M N:List Pr}{st:A}(h:Jz fs ax x M st y N):pl st=true:=by cases h<;>simp[_root_.M.pl]
theorem rj{nm:Str}{fs:List Fa}{n:Str}{st:A}{M:List Pr}(hn:Wd n)(hf:n ≠ "frame")(c:n∉fs.map Fa.n)(hl:fs.length<=1000)(h:iH b zs)(ha:gO ax)(hm:∀p∈M,p.1∈zs.flatMap cy)(o:M.length<=1000)(hp:Jz fs ax x M st y N):
  eG aM (cC nm zs fs) [.str n,.str ax,st,au x M] (.fr .non) (cC nm zs (fs++[⟨n,ax,y,N⟩])):=by
 suffices Wp aM [.pv (cC nm zs fs),.fr (.str n),.fr (.str ax),.fr st,.fr (au x M)] λg Z=>g=.rt (.fr .non)/\Z=xn nm zs (fs++[⟨n,ax,y,N⟩]) n ax st (au x M) (.fr (au y N)) by obtain⟨_,_,e,rfl,rfl⟩:=this;exact⟨_,e⟩
 refine Wp.df (Wp.st (U:=xn nm zs fs n ax st (au x M) .un) (cY (OK hn hf) rfl) (Wp.st (cY (OC c hl hp.pl) rfl) (Wp.st (NU h ha hm o _) (Wp.st (U:=xn nm zs fs n ax st (au x M) (.fr (au y N))) ?_ (Wp.en (f:=.nx) (K6 hl) ⟨rfl,rfl⟩)))))
 cases hp with
 |here=>exact aP (i:=5) (a:=.fr (au x _)) (s:=.un) (U:=xn nm zs fs n ax .non (au x _) .un) (zd (U:=xn nm zs fs n ax .non (au x _) .un) rfl rfl) rfl rfl rfl rfl
 |by' h k=>exact aP (rF rfl (ah (ag (cZ (cz rfl (cq (ah (rs:=[.rf 0,.fr (.str _),.fr (.str ax)]) rfl (zo h _)))) rfl) rfl) (aL k _))) rfl rfl rfl rfl
theorem Qf{i:Int}(h:Ok (i,j))(hi:i.natAbs<2^64)(b:j.natAbs<2^64):NB 64 (i,j):=⟨h,hi,b⟩
abbrev L6:List A:=[nm (0,1),nm (0,1),nm (1,1),nm (-1,1),nm (2,1),nm (0,1)]
theorem R3:∀r:Nat,r<6->∃q:Num,jd L6 (r:Int)=some (nm q)/\NB 64 q:=by
 intro r y;have z:NB 64 (0,1):=OI.mono (by decide)
 match r,y with
 |0,_=>exact⟨(0,1),rfl,z⟩
 |1,_=>exact⟨(0,1),rfl,z⟩
 |2,_=>exact⟨(1,1),rfl,Qf ⟨by decide,by decide⟩ (by decide) (by decide)⟩
 |3,_=>exact⟨(-1,1),rfl,Qf ⟨by decide,by decide⟩ (by decide) (by decide)⟩
 |4,_=>exact⟨(2,1),rfl,Qf ⟨by decide,by decide⟩ (by decide) (by decide)⟩
 |5,_=>exact⟨(0,1),rfl,z⟩
abbrev CD(o:LO)(ns:List Str)(F:List Pr)(x3 x4 x5:Sl):List Sl:=[.pv o,.fr (.lst (ns.map A.str)),.lv (.lst (F.map iT)),x3,x4,x5]
theorem A3{n:Int}{ns:List Str}(w:Wl n o)(hn:n<2^36)(nd:ns.Nodup)(hl:ns.length<=12):X3 λx F o'=>N3 (eG fL o [.lst (ns.map A.str)] (.fr (au x F)) o') (Sm 64 12 ns x F) (Wl (n+60) o'):=by
 suffices ∃s o',eG fL o [.lst (ns.map A.str)] s o'/\X2 λx F=>N3 (s=.fr (au x F)) (Sm 64 12 ns x F) (Wl (n+60) o') by obtain⟨s,o',v,x,F,rfl,h1,h2⟩:=this;exact⟨x,F,o',v,h1,h2⟩
 have sl:(bP ns).length=ns.length:=(bV ns).length_eq
 have sq:bF (cb (ph bL bT) (aa 1)) (CD o ns [] .un .un .un)=some (.ok ((bP ns).map A.str),CD o ns [] .un .un .un):=by
  have B:ph bL bT (.lst (ns.map A.str))=some (.nw (.lst ((bP ns).map A.str))):=by unfold ph bL;dsimp only;rw[tf];dsimp only;rw[if_pos (by lia)]
  exact cD (bq rfl (dg rfl B)) rfl
 refine eG.of (Wp.df (Wp.st rfl ?_))
 refine Wp.sq (Wp.fr (λi Z=>X5 λo' F x3 x4 x5=>N6 (Z=CD o' ns F x3 x4 x5) (Wl (n+4*i) o') ((F.map (·.1)).Sublist ((bP ns).take i)) (∀p∈F,NB 64 p.2/\p.2.1≠0) (np x3=true) (np x4=true/\np x5=true)) sq ⟨o,[],.un,.un,.un,rfl,w.mono (by lia),.slnil,(λp hp=>by cases hp),rfl,rfl,rfl⟩ ?_ ?_)
 .rintro i a Z ha ⟨o',F,x3,x4,x5,rfl,I,u,hp,h3,h4,h5⟩
  rw[SV] at ha
  cases X:(bP ns)[i]? with
  |none=>rw[X] at ha;cases ha
  |some s=>
   rw[X] at ha;cases ha;have hi:=(Sy.mp X).1;have B:(bP ns).take (i+1)=(bP ns).take i++[s]:=by rw[Ut,X];rfl
   have fl:F.length<=12:=by have:=u.length_le;rw[Ss,Tw] at this;lia
   obtain⟨r,Y,E,L,b1,m⟩:=tk 6 I (by lia) (by decide) (by decide);obtain⟨r,rfl⟩:∃k:Nat,r=k:=⟨r.toNat,by lia⟩
   obtain⟨q,eq,S⟩:=R3 r (by lia);refine⟨CD o' ns F (.fr (.str s)) x4 x5,by cases x3<;>first|(cases h3;done)|rfl,?_⟩;refine Wp.st (aP (ah rfl (E _)) rfl rfl h4 rfl) ?_;refine Wp.st (aP (aj rfl rfl (bU (.inl rfl) eq)) rfl rfl h5 rfl) ?_;have fin:∀o2 q,NB 64 q->Wl (n+4*(i+1:Nat)) o2->Wp (f9 (ao (aD jc (mix (aa 5) (aG 0)) (aG 0))) (bA (dQ 2 (bI 2 (bC (bJ (aa 3) (aa 5)))))) br) (CD o2 ns F (.fr (.str s)) (.fr (.int r)) (.fr (nm q))) λf Z'=>(f=.nx\/f=.ct)/\X5 λo' F x3 x4 x5=>N6 (Z'=CD o' ns F x3 x4 x5) (Wl (n+4*(i+1:Nat)) o') ((F.map (·.1)).Sublist ((bP ns).take (i+1))) (∀p∈F,NB 64 p.2/\p.2.1≠0) (np x3=true) (np x4=true/\np x5=true):=by
    intro o2 q S c;have t:ao (aD jc (mix (aa 5) (aG 0)) (aG 0)) (CD o2 ns F (.fr (.str s)) (.fr (.int r)) (.fr (nm q)))=some (.ok (!decide (q.1=0)),CD o2 ns F (.fr (.str s)) (.fr (.int r)) (.fr (nm q))):=aC (aj (aj rfl rfl (bU (.inr rfl) rfl)) rfl (by simp only[gq,res,jc,rT]));by_cases h0:q.1=0
    .rw[decide_eq_true h0] at t;exact Wp.en (cY t rfl) ⟨.inl rfl,_,F,_,_,_,rfl,c,by rw[B];exact u.trans (List.sublist_append_left _ _),hp,rfl,rfl,rfl⟩
    .rw[decide_eq_false h0] at t;refine Wp.en (ou t (gi rfl rfl rfl rfl (by rw[Ss];lia) rfl)) ⟨.inl rfl,_,F++[(s,q)],_,_,_,by unfold CD;rw[SJ];rfl,c,?_,λp U=>?_,rfl,rfl,rfl⟩
     .rw[B,SJ];exact u.append (Ue _)
     .rcases Su.mp U with z|z
      .exact hp p z
      .rw[Sx.mp z];exact⟨S,h0⟩
   have g:∀b,decide ((r:Int)=5)=b->ao (aD gG (aa 4) (aG 5)) (CD Y ns F (.fr (.str s)) (.fr (.int r)) (.fr (nm q)))=some (.ok b,CD Y ns F (.fr (.str s)) (.fr (.int r)) (.fr (nm q))):=by rintro b rfl;exact aC (aj rfl rfl (uQ _ _ _))
   by_cases h8:(r:Int)=5
   .obtain⟨C,o2,K,R,c⟩:=iA m (by lia);exact Wp.st (ou (g true (decide_eq_true h8)) (aP (ah rfl (BL K rfl _)) rfl rfl rfl rfl)) (fin o2 C R (c.mono (by lia)))
   .exact Wp.st (cY (g false (decide_eq_false h8)) rfl) (fin Y q S (m.mono (by lia)))
 .rintro O ⟨o',F,x3,x4,x5,rfl,I,u,hp,h3,h4,h5⟩
  rw[Ss] at I u
  rw[S9] at u
  obtain⟨x,o2,K,R,c⟩:=iA I (by lia)
  have fi:∀p∈F,p.1∈ns:=λp hp=>(bV ns).mem_iff.mp (u.subset (Ud hp))
  have r:F.Pairwise (λa b=>um a.1 b.1):=T7.mp ((rising (nV ns) (((bV ns).nodup_iff).mpr nd)).sublist u)
  refine⟨rfl,Wp.en (aO (bD (ag (ah rfl (BL K rfl _)) (ag (bq rfl rfl) rfl)) rfl) rfl) ⟨_,o2,_,rfl,rfl,x,F,rfl,⟨R,r,λp h=>(hp p h).1,λp h e=>(hp p h).2 (by rw[e]),SW (gz r fi) hl,fi⟩,c.mono (by lia)⟩⟩
theorem Ci{n:Int}{ss:List Str}(w:Wl n o)(hn:n<2^37)(u:ss.length<=20):X2 λ(z:Str)(o':LO)=>N4 (∀x1 Z,fh (jq 1 aQ) [] [.rf 0,.rf 2] (.pv o::x1::.lv (.lst (ss.map A.str))::Z)=some (.ok (.fr (.str z)),.pv o'::x1::.lv (.lst (ss.map A.str))::Z)) (Wd z) (z∉ss) (Wl (n+11) o'):=by
 obtain⟨z,o',⟨U,e⟩,hz,Y,q⟩:=n9 w hn u;refine⟨z,o',λx1 Z=>?_,hz,Y,q⟩;have lo:Mf o'=true:=by obtain⟨f,c,t,rfl,-⟩:=q;simp[Mf,Me,lf]
 have hl:jq 1 aQ [.pv o,.pv (.lst (ss.map A.str))]=some (.rt (.fr (.str z)),[.pv o',.pv (.lst (ss.map A.str))]):=by
  show (match aQ [.pv o,.fr (.lst (ss.map A.str))] with
   |some (.rt s,T)=>if mW (ay 2 T)[1]?&&(s::ay 2 T).all Mq then some (Fl.rt s,(ay 2 T).set 1 (.pv (.lst (ss.map A.str)))) else none
   |some (.ex x,T)=>if mW (ay 2 T)[1]?&&(ay 2 T).all Mq then some (.ex x,(ay 2 T).set 1 (.pv (.lst (ss.map A.str)))) else none
   | _=>none)=_
  rw[e];show (if (true&&(lf (.str z)&&(Mf o'&&true)))=true then _ else _)=_;rw[lo];rfl
 show (match jq 1 aQ [.pv o,.pv (.lst (ss.map A.str))] with
  |some (.rt s,T)=>match mU s,putL (.pv o::x1::.lv (.lst (ss.map A.str))::Z) [.rf 0,.rf 2] (ay 2 T) (.un::x1::.un::Z) with
   |some r,some O=>some ((Uj r:Except Str Rr),O)
   |_,_=>none
  |some (.ex x,T)=>match putL (.pv o::x1::.lv (.lst (ss.map A.str))::Z) [.rf 0,.rf 2] (ay 2 T) (.un::x1::.un::Z) with
   |some O=>some (.error x,O)
   |none=>none
  | _=>none)=_
 rw[hl];rfl
theorem CM(h:0<=x.1):De x (0,1)=false:=by unfold De;apply decide_eq_false;show ¬ (x.1*1<0*x.2);lia
theorem D4(w:Ok x)(T:Ok y)(h:0<=y.1):De (bX x y) x=false:=by
 cases e:De (bX x y) x with
 |false=>rfl
 |true=>exfalso;have h1:=(wW (vC w T) w).mp e;have h2:=CM h;rw[n4 w T] at h1;have h3:De y (0,1)=true:=(wW T gM).mpr (by rw[ji];grind);rw[h2] at h3;cases h3
noncomputable def qT(x:Num):Num:=(if x.1<0 then -x.1 else x.1,x.2)
theorem zQ(x:Num):0<=(qT x).1:=by show 0<=(if x.1<0 then -x.1 else x.1);split<;>lia
theorem NB.qT{b:Nat}{x:Num}(h:NB b x):NB b (qT x):=by
 unfold W.qT;split
 .exact h.neg
 .exact h
theorem Sd:∀r:Nat,r<3->∃w:Str,jd [A.str "fixed",.str "big",.str "small"] (r:Int)=some (.str w)/\zR w:=by
 intro r y
 match r,y with
 |0,_=>exact⟨"fixed",rfl,.inl rfl⟩
 |1,_=>exact⟨"big",rfl,.inr (.inl rfl)⟩
 |2,_=>exact⟨"small",rfl,.inr (.inr rfl)⟩
theorem Se:∀r:Nat,r<4->∃t:Nat,jd [A.int 0,.int 0,.int 1,.int 2] (r:Int)=some (.int (t:Int))/\t<=6:=by
 intro r y
 match r,y with
 |0,_=>exact⟨0,rfl,by decide⟩
 |1,_=>exact⟨0,rfl,by decide⟩
 |2,_=>exact⟨1,rfl,by decide⟩
 |3,_=>exact⟨2,rfl,by decide⟩
structure Zn(ss:List Str):Prop where
 nd:ss.Nodup
 wd:∀z∈ss,Wd z
 ln:ss.length<=12
theorem Zn.next{ss:List Str}(h:Zn ss)(hz:Wd z)(hn:z∉ss)(hl:ss.length<12):Zn (ss++[z]):=by
 refine⟨SQ.mpr ⟨h.nd,by simp,λa ha b d e=>?_⟩,λx w=>?_,by simp;lia⟩
 .rw[Sx.mp d] at e;exact hn (e▸ha)
 .rcases Su.mp w with k|k
  .exact h.wd x k
  .rw[Sx.mp k];exact hz
abbrev zS(o:LO)(ss:List Str)(zs:List Sz)(x4 x5 x6 x7 x8 x9 x10 x11:Sl):List Sl:=[.pv o,.fr (.int 12),.lv (.lst (ss.map A.str)),.lv (.lst (zs.map lg)),x4,x5,x6,x7,x8,x9,x10,x11]
abbrev RF:Ms:=f9 (ao (aD vc (cb gc (aa 2)) (aa 1))) (av (bA (dQ 2 (bI 2 (bQ (jq 1 aQ) [] (bJ (aa 0) (aa 2)))))) (av (aK 10 (aV bw (cF (aa 0)))) (av (aK 11 (mix (cS (fQ (mC (.str "fixed")) (mC (.str "big")) (mC (.str "small")))) (aV az (bJ (aa 0) (aG 3))))) (bA (dQ 8 (bI 8 (bC (fQ (mix (aa 2) (d0 nY (aG 1))) (bC (bJ (cb qZ (mix (aa 10) (aG 0))) (mix (aa 10) (aG 1)))) (aa 11))))))))) br
variable{x6 x7 x8 x9 x10 x11:Sl}
theorem Gs{ss:List Str}(b:Bool)(h:decide (ss.length<12)=b):ao (aD vc (cb gc (aa 2)) (aa 1)) (zS o ss zs x4 x5 x6 x7 x8 x9 x10 x11)=some (.ok b,zS o ss zs x4 x5 x6 x7 x8 x9 x10 x11):=by
 have e:ao (aD vc (cb gc (aa 2)) (aa 1)) (zS o ss zs x4 x5 x6 x7 x8 x9 x10 x11)=some (.ok (decide (((ss.map A.str).length:Int)<12)),zS o ss zs x4 x5 x6 x7 x8 x9 x10 x11):=rfl;rw[e,<-h,Ss]
 congr 3
 simp;lia
theorem Et{n:Int}{ss l:List Str}{Z:Str}{fs:List Sf}(w:Wl n o)(hn:n<2^36)(d:Zn ss)(R:ss=l++Z::fs.map Sf.s)(hf:∀f∈fs,Dj 130 f)(i:np x10=true)(h11:np x11=true):
  X5 λ(h:List Sf)(m:List Str)(o':LO)(c K:Sl)=>N6 (RF (zS o ss zs x4 x5 x6 x7 (.lv (.lst (fs.map jm))) x9 x10 x11)=some (.nx,zS o' m zs x4 x5 x6 x7 (.lv (.lst (h.map jm))) x9 c K)) (Zn m) (m=l++Z::h.map Sf.s) (∀f∈h,Dj 130 f) (Wl (n+20) o') (np c=true/\np K=true):=by
 by_cases hl:ss.length<12
 .obtain⟨z,Y,g,hz,b,H⟩:=Ci (ss:=ss) w (by lia) (by lia);obtain⟨x,o2,B,nx,F⟩:=iA H (by lia);obtain⟨r,E,p,G,S,Q⟩:=tk 3 F (by lia) (by decide) (by decide);obtain⟨j,rfl⟩:∃j:Nat,r=j:=⟨r.toNat,by lia⟩
  obtain⟨wy,D,u⟩:=Sd j (by lia);have fl:fs.length<=12:=by have:=congrArg U0 R;simp at this;lia
  have J:(fs++[(⟨z,qT x,wy⟩:Sf)]).map jm=fs.map jm++[jm ⟨z,qT x,wy⟩]:=SJ;have q:(ss++[z]).map A.str=ss.map A.str++[.str z]:=SJ;have v:jd ((ss++[z]).map A.str) (-1)=some (.str z):=by rw[q];exact sC _ _
  refine⟨fs++[⟨z,qT x,wy⟩],ss++[z],E,.fr (nm x),.fr (.str wy),ou (Gs true (decide_eq_true hl)) ?_,d.next hz b hl,by rw[R];simp,λf X=>?_,Q.mono (by lia),rfl,rfl⟩
  .refine fD (U:=zS Y (ss++[z]) zs x4 x5 x6 x7 (.lv (.lst (fs.map jm))) x9 x10 x11) (gi (a:=.str z) (xs:=ss.map A.str) rfl (ah rfl (g _ _)) rfl rfl (by rw[Ss];lia) (by rw[<-q];rfl)) ?_;refine fD (U:=zS o2 (ss++[z]) zs x4 x5 x6 x7 (.lv (.lst (fs.map jm))) x9 (.fr (nm x)) x11) (aP (ah rfl (BL B rfl _)) rfl rfl i rfl) ?_;refine fD (U:=zS E (ss++[z]) zs x4 x5 x6 x7 (.lv (.lst (fs.map jm))) x9 (.fr (nm x)) (.fr (.str wy))) (aP (aj (d9 rfl rfl) (ah rfl (p _)) (bU (.inl rfl) D)) rfl rfl h11 rfl) ?_;exact gi (a:=jm ⟨z,qT x,wy⟩) (xs:=fs.map jm) rfl (bD (ag (aj rfl rfl (bU (.inl rfl) v)) (ag (bD (ag (bq (aj rfl rfl (bU (.inr rfl) rfl)) rfl) (ag (aj rfl rfl (bU (.inr rfl) rfl)) rfl)) rfl) rfl)) rfl) rfl rfl (by rw[Ss];lia) (by rw[J];rfl)
  .rcases Su.mp X with k|k
   .exact hf f k
   .rw[Sx.mp k];exact⟨nx.qT.mono (by decide),CM (zQ x),u⟩
 .exact⟨fs,ss,o,x10,x11,cY (Gs false (decide_eq_false hl)) rfl,d,R,hf,w.mono (by lia),i,h11⟩
theorem yV{t:Nat}(h:t<=100)(Z:List Sl):sT (.fr (.int (t:Int))) Z=some (.ok (fS 0 t),Z):=by unfold sT;dsimp only [res];rw[if_pos (by lia),XC]
abbrev RD:Ms:=f9 (ao (aD vc (cb gc (aa 2)) (aa 1))) (av (aK 5 (bQ (jq 1 aQ) [] (bJ (aa 0) (aa 2)))) (av (bA (dQ 2 (bI 2 (aa 5)))) (av (aK 6 (aV bw (cF (aa 0)))) (av (aK 7 (aV bw (cF (aa 0)))) (av (aK 8 (cS dz)) (av (dh (eI (mix (cS (lH (aG 0) (aG 0) (aG 1) (aG 2))) (aV az (bJ (aa 0) (aG 4))))) (aH 9) RF) (bA (dQ 3 (bI 3 (bC (lH (aa 5) (aa 6) (aV fo (bJ (ai 6) (bC (bJ (cb qZ (mix (aa 7) (aG 0))) (mix (aa 7) (aG 1)))))) (cb hE (aa 8)))))))))))) ) br
theorem Bn:eO=bf 10 (av (aK 2 (cS dz)) (av (aK 3 (cS dz)) (av (dh (eI (aV az (bJ (aa 0) (aG 5)))) (aH 4) RD) (bc (bC (bJ (aa 3) (aa 2))))))):=rfl
def Rp(n:Int)(Z:List Sl):Prop:=X5 λ(o:LO)(zs:List Sz)(x4 x5 x6:Sl)=>X5 λ(x7 x8 x9 x10 x11:Sl)=>N6 (Z=zS o (zs.flatMap cy) zs x4 x5 x6 x7 x8 x9 x10 x11) (Zn (zs.flatMap cy)) (∀z∈zs,rn 130 z) (Wl n o) (np x4=true/\np x5=true/\np x6=true/\np x7=true) (np x8=true/\np x9=true/\np x10=true/\np x11=true)
theorem Dz{n:Int}(w:Wl n o)(hn:n<2^35)(d:Zn (zs.flatMap cy))(hz:∀z∈zs,rn 130 z)(h4:np x4=true)(h5:np x5=true)(S:np x6=true)(T:np x7=true)(h8:np x8=true)(P:np x9=true)(K:np x10=true)(h11:np x11=true):
  Wp RD (zS o (zs.flatMap cy) zs x4 x5 x6 x7 x8 x9 x10 x11) λf Z=>(f=.nx\/f=.ct)/\Rp (n+200) Z:=by
 by_cases hl:(zs.flatMap cy).length<12
 .generalize b:zs.flatMap cy=ss at d hl ⊢;obtain⟨z,O,J,C,g,u⟩:=Ci (ss:=ss) w (by lia) (by lia);obtain⟨x,o2,D,nx,F⟩:=iA u (by lia);obtain⟨y,R,l,E,w3⟩:=iA F (by lia);obtain⟨r,o4,c4,a4,b4,w4⟩:=tk 4 w3 (by lia) (by decide) (by decide);obtain⟨j,rfl⟩:∃j:Nat,r=j:=⟨r.toNat,by lia⟩
  obtain⟨t,e4,ht⟩:=Se j (by lia);have zl:zs.length<=12:=by have:=mV zs;rw[b] at this;lia
  have e6:(ss++[z]).map A.str=ss.map A.str++[.str z]:=SJ;refine Wp.ft (Gs true (decide_eq_true hl)) ?_;refine Wp.st (U:=zS O ss zs x4 (.fr (.str z)) x6 x7 x8 x9 x10 x11) (aP (ah rfl (J _ _)) rfl rfl h5 rfl) ?_;refine Wp.st (U:=zS O (ss++[z]) zs x4 (.fr (.str z)) x6 x7 x8 x9 x10 x11) (gi (a:=.str z) (xs:=ss.map A.str) rfl rfl rfl rfl (by rw[Ss];lia) (by rw[<-e6];rfl)) ?_;refine Wp.st (U:=zS o2 (ss++[z]) zs x4 (.fr (.str z)) (.fr (nm x)) x7 x8 x9 x10 x11) (aP (ah rfl (BL D rfl _)) rfl rfl S rfl) ?_;refine Wp.st (U:=zS R (ss++[z]) zs x4 (.fr (.str z)) (.fr (nm x)) (.fr (nm y)) x8 x9 x10 x11) (aP (ah rfl (BL l rfl _)) rfl rfl T rfl) ?_;refine Wp.st (U:=zS R (ss++[z]) zs x4 (.fr (.str z)) (.fr (nm x)) (.fr (nm y)) (.lv (.lst [])) x9 x10 x11) (aP (d9 rfl rfl) rfl rfl h8 rfl) ?_;refine Wp.sq (Wp.fr (as:=fS 0 t) (λi Z=>X5 λ(fs:List Sf)(m:List Str)(o':LO)(x9 x10:Sl)=>∃x11:Sl,N6 (Z=zS o' m zs x4 (.fr (.str z)) (.fr (nm x)) (.fr (nm y)) (.lv (.lst (fs.map jm))) x9 x10 x11) (Zn m) (m=ss++z::fs.map Sf.s) (∀f∈fs,Dj 130 f) (Wl (n+20+20*i) o') (np x9=true/\np x10=true/\np x11=true)) (jS (aj (d9 rfl rfl) (ah rfl (c4 _)) (bU (.inl rfl) e4)) (yV (by lia) _)) ⟨[],_,o4,x9,x10,x11,rfl,d.next C g hl,rfl,(λf hf=>by cases hf),w4.mono (by lia),P,K,h11⟩ ?_ ?_)
  .rintro i a Z ha ⟨fs,m,o',Q,X,B,rfl,d',v,H,I,p,h,c⟩;have hi:i<6:=by have:=(ly ha).1;lia
   obtain⟨N,Y,o2,z10,z11,e,d2,q2,f2,F,G,L⟩:=Et (zs:=zs) (x4:=x4) (x5:=.fr (.str z)) (x6:=.fr (nm x)) (x7:=.fr (nm y)) (x9:=.fr a) I (by lia) d' v H h c;exact⟨_,by cases Q<;>first|(cases p;done)|rfl,Wp.en e ⟨.inl rfl,N,Y,o2,_,_,_,rfl,d2,q2,f2,F.mono (by lia),rfl,G,L⟩⟩
  .rintro Z ⟨fs,m,o',Q,X,B,rfl,d',v,H,I,p,h,c⟩;rw[gN] at I;have fl:fs.length<=12:=by have k1:=congrArg U0 v;have k2:=d'.ln;simp at k1;lia
   have e5:(zs++[(⟨z,x,bX x (qT y),fs⟩:Sz)]).map lg=zs.map lg++[lg ⟨z,x,bX x (qT y),fs⟩]:=SJ;have V:(zs++[(⟨z,x,bX x (qT y),fs⟩:Sz)]).flatMap cy=m:=by rw[Xg,b,v];simp[cy]
   have zn:cy ⟨z,x,bX x (qT y),fs⟩=z::fs.map Sf.s:=rfl;refine⟨rfl,Wp.en (f:=.nx) (U:=zS o' m (zs++[(⟨z,x,bX x (qT y),fs⟩:Sz)]) x4 (.fr (.str z)) (.fr (nm x)) (.fr (nm y)) (.lv (.lst (fs.map jm))) Q X B) ?_ ⟨.inl rfl,o',zs++[⟨z,x,bX x (qT y),fs⟩],_,_,_,_,_,_,_,_,by rw[V],by rw[V];exact d',λq hq=>?_,I.mono (by lia),⟨h4,rfl,rfl,rfl⟩,rfl,p,h,c⟩⟩
   .exact gi (a:=lg ⟨z,x,bX x (qT y),fs⟩) (xs:=zs.map lg) rfl (bD (ag rfl (ag rfl (ag (ah (ag rfl (ag (bD (ag (bq (aj rfl rfl (bU (.inr rfl) rfl)) rfl) (ag (aj rfl rfl (bU (.inr rfl) rfl)) rfl)) rfl) rfl)) (aL (qV nx E.qT (by decide)) _)) (ag (bq rfl rfl) rfl)))) rfl) rfl rfl (by rw[Ss];lia) (by rw[<-e5];rfl)
   .rcases Su.mp hq with k|k
    .exact hz q k
    .rw[Sx.mp k];have nd:=d'.nd;rw[v] at nd;exact⟨nx.mono (by decide),(nx.IY E.qT).mono (by decide),D4 nx.ok E.qT.ok (zQ y),H,λs hs=>(d'.wd s (by rw[v];exact Sr _ hs)).nm,(SQ.mp nd).2.1,by show fs.length<=50;lia⟩
 .exact Wp.en (cY (Gs false (decide_eq_false hl)) rfl) ⟨.inl rfl,o,zs,_,_,_,_,_,_,_,_,rfl,d,hz,w.mono (by lia),⟨h4,h5,S,T⟩,h8,P,K,h11⟩
theorem AO{n:Int}(w:Wl n o)(hn:n<2^34):X2 λ(zs:List Sz)(o':LO)=>N4 (eG eO o [.int 12] (.fr (.tup [.lst (zs.map lg),.lst ((zs.flatMap cy).map A.str)])) o') (Zn (zs.flatMap cy)) (∀z∈zs,rn 130 z) (Wl (n+2000) o'):=by
 suffices ∃s o',eG eO o [.int 12] s o'/\∃zs:List Sz,N4 (s=.fr (.tup [.lst (zs.map lg),.lst ((zs.flatMap cy).map A.str)])) (Zn (zs.flatMap cy)) (∀z∈zs,rn 130 z) (Wl (n+2000) o') by obtain⟨s,o',v,zs,rfl,h1,h2,h3⟩:=this;exact⟨zs,o',v,h1,h2,h3⟩
 obtain⟨r,Y,g,L,b1,m⟩:=tk 5 w (by lia) (by decide) (by decide)
 obtain⟨t,rfl⟩:∃j:Nat,r=j:=⟨r.toNat,by lia⟩
 rw[Bn]
 refine eG.of (Wp.df (Wp.st (U:=[.pv o,.fr (.int 12),.lv (.lst []),.un,.un,.un,.un,.un,.un,.un,.un,.un]) rfl (Wp.st (U:=zS o [] [] .un .un .un .un .un .un .un .un) rfl ?_)))
 refine Wp.sq (Wp.fr (as:=fS 0 t) (λi Z=>Rp (n+1+200*i) Z) (jS (ah rfl (g _)) (yV (by lia) _)) ⟨Y,[],.un,.un,.un,.un,.un,.un,.un,.un,rfl,⟨List.nodup_nil,(λz hz=>by cases hz),by decide⟩,(λz hz=>by cases hz),m.mono (by lia),⟨rfl,rfl,rfl,rfl⟩,rfl,rfl,rfl,rfl⟩ ?_ ?_)
 .rintro i a Z ha ⟨o',zs,x4,x5,x6,x7,x8,x9,x10,x11,rfl,d,hz,q,⟨h4,h5,S,b⟩,h8,P,K,h11⟩
  have hi:i<7:=by have:=(ly ha).1;lia
  refine⟨zS o' (zs.flatMap cy) zs (.fr a) x5 x6 x7 x8 x9 x10 x11,by cases x4<;>first|(cases h4;done)|rfl,Wp.mono (Dz q (by lia) d hz rfl h5 S b h8 P K h11) λf U ⟨e,k⟩=>⟨e,?_⟩⟩
  have J:n+1+200*(i:Int)+200=n+1+200*((i+1:Nat):Int):=by lia
  rw[J] at k
  exact k
 .rintro Z ⟨o',zs,x4,x5,x6,x7,x8,x9,x10,x11,rfl,d,hz,q,-,-⟩
  rw[gN] at q
  exact⟨rfl,Wp.en (aO (bD rfl rfl) rfl) ⟨_,o',_,rfl,rfl,zs,rfl,d,hz,q.mono (by lia)⟩⟩
structure Dc(ks:List Str)(ps:List Pr):Prop where
 nd:ks.Nodup
 mem:∀n,n∈ks↔∃p∈ps,p.1=n
theorem Dc.get(h:Dc ks ps)(n:Str):gy (aU ks λn=>nm (cc ps n)) (.inr n)=some (nm (cc ps n))\/gy (aU ks λn=>nm (cc ps n)) (.inr n)=none/\cc ps n=(0,1):=by
 rw[iI];by_cases z:n∈ks
 .rw[if_pos z];exact .inl rfl
 .rw[if_neg z];exact .inr ⟨rfl,mw λp hp e=>z ((h.mem n).mpr ⟨p,hp,e⟩)⟩
theorem Dc.put(h:Dc ks ps)(n:Str)(y:Num):∃x,iQ (aU ks λn=>nm (cc ps n)) (.inr n) (nm (bX (cc ps n) y))=aU x (λm=>nm (cc (ps++[(n,y)]) m))/\Dc x (ps++[(n,y)]):=by
 refine⟨if n∈ks then ks else ks++[n],?_,?_,λm=>?_⟩
 .rw[mR];refine iB λm _=>?_;rw[fA];by_cases z:m=n
  .rw[if_pos z,z,if_pos rfl]
  .rw[if_neg z,if_neg λe=>z e.symm]
 .split
  .exact h.nd
  .rename_i z;exact SQ.mpr ⟨h.nd,S8.mpr ⟨by simp,.nil⟩,λa ha b d e=>by rw[Sx.mp d] at e;exact z (e▸ha)⟩
 .by_cases z:n∈ks
  .rw[if_pos z,h.mem m];constructor
   .rintro⟨p,h1,h2⟩;exact⟨p,Sv _ h1,h2⟩
   .rintro⟨p,h1,h2⟩;rcases Su.mp h1 with q|q
    .exact⟨p,q,h2⟩
    .rw[Sx.mp q] at h2;exact h2▸(h.mem n).mp z
  .rw[if_neg z,Su,h.mem m];constructor
   .rintro(⟨p,h1,h2⟩|q)
    .exact⟨p,Sv _ h1,h2⟩
    .exact⟨(n,y),Sr _ (Sx.mpr rfl),(Sx.mp q).symm⟩
   .rintro⟨p,h1,h2⟩;rcases Su.mp h1 with q|q
    .exact .inl ⟨p,q,h2⟩
    .rw[Sx.mp q] at h2;exact .inr (Sx.mpr h2.symm)
theorem Dc.len{ss:List Str}(h:Dc ks ps)(u:∀p∈ps,p.1∈ss):ks.length<=ss.length:=rq h.nd λn hn=>by obtain⟨p,hp,rfl⟩:=(h.mem n).mp hn;exact u p hp
theorem Ql(h:Ok x):decide (x.1=0)=decide (x=(0,1)):=by
 by_cases z:x=(0,1)
 .subst z;rfl
 .rw[decide_eq_false z];refine decide_eq_false λe=>z ?_;exact lW h gM (by rw[ji];unfold nv;rw[e];simp)
theorem ya(L:List Pr):eu (L.map iT)=some (L.map λp=>(Tu p.1,nm p.2)):=by
 induction L with
 |nil=>rfl
 |cons p L l=>rw[SR,SR,iT,eu,l];rfl
theorem n5:∀(X acc:List (Key×A)),((acc++X).map (·.1)).Nodup->iY acc X=acc++X
 |[],acc,_=>by simp[iY]
 |(y,a)::X,acc,h=>by
  have e:iQ acc y a=acc++[(y,a)]:=by unfold iQ;rw[if_neg];rw[TZ];rintro⟨H,h1,h2⟩;rw[SJ,SQ] at h;exact h.2.2 H.1 (Ud h1) y (by simp) (of_decide_eq_true h2)
  show iY (iQ acc y a) X=_;rw[e,n5 X (acc++[(y,a)]) (by simpa using h)];simp
theorem yW(h:ks.Nodup):(ks.map (Tu:Str->Key)).Nodup:=T7.mpr (h.imp λn e=>n (Vq e))
theorem names_nodup(r:L.Pairwise (λa b=>um a.1 b.1)):(L.map V4).Nodup:=T7.mpr (r.imp λh=>h.2)
theorem Ea(r:L.Pairwise (λa b=>um a.1 b.1))(ok:∀p∈L,Ok p.2)(hz:∀p∈L,p.2≠(0,1))(hl:L.length<=900):ph kW jH (.tup (L.map iT))=some (.nw (.dic (aU (L.map V4) λn=>nm (cc L n)))):=by
 have c:=fE r ok hz;have e:(L.map λp=>((Tu p.1:Key),nm p.2))=aU (L.map V4) λn=>nm (cc L n):=by unfold aU;rw[Tj];refine Uc λp hp=>?_;show (Tu p.1,nm p.2)=(Tu p.1,nm (cc L p.1));rw[<-((c.mem p).mp hp).1]
 unfold ph kW jH;simp only;rw[if_pos (by rw[Ss];lia),ya];simp only;rw[n5 _ [] (by rw[UB,e];unfold aU;rw[Tj];exact yW (names_nodup r)),UB,e]
noncomputable def sg(s:Int)(x:Num):Num:=(s*x.1,x.2)
def sO(s:Int)(p:Pr):Pr:=(p.1,sg s p.2)
theorem N9{s i:Int}{n:Nat}(u:s=1\/s = -1)(h:L2.Bd n i)(hn:n<=20000)(Z:List Sl):gq d5 (.fr (.int s)) (.fr (.int i)) Z=some (.ok (.fr (.int (s*i))),Z):=
 vT (Dr (show s.natAbs<2^64 by rcases u with rfl|rfl<;>decide)) (ft h hn) Z
open Classical in
noncomputable def cN(P:List Pr):List Pr:=if h:∃N,Canon P N then h.choose else []
theorem Aa{P:List Pr}(c:Canon P N):N=cN P:=by unfold cN;rw[dif_pos ⟨N,c⟩];exact c.eq (Exists.choose_spec (⟨N,c⟩:∃N,Canon P N))
theorem fq{ss:List Str}{M:List Pr}(h:Tt k ss ps x L)(g:Sm 64 12 ss y M)(hk:k<=16)(m:ss.length<=12):Val dI [au x L,au y M] (au (bX x y) (cN (L++M)))/\Tt (k+1) ss (ps++M) (bX x y) (cN (L++M)):=by obtain⟨N,v,c,t⟩:=Gr h g hk m;rw[<-Aa c];exact⟨v,t⟩
abbrev Ks(s:Int)(x y:Num)(L M:List Pr)(K:List (Key×A))(x4 x5 x6:Sl):List Sl:=[.fr (au x L),.fr (au y M),.fr (.int s),.lv (.dic K),x4,x5,x6]
theorem Sa{a b c d f:Sl}(p:Pr)(h4:np x4=true)(h5:np x5=true):dj 2 (aJ (aH 4) (aJ (aH 5) dA)) (iT p) [a,b,c,d,x4,x5,f]=some [a,b,c,d,.fr (.str p.1),.fr (nm p.2),f]:=by cases x4<;>first|(cases h4;done)|(cases x5<;>first|(cases h5;done)|rfl)
theorem tT{ss:List Str}{M o:List Pr}{s:Int}{E:Num}(u:s=1\/s = -1)(J:sg s y=E)(T:M.map (sO s)=o)(h:Tt k ss ps x L)(I:Sm 64 12 ss y M)(g:Sm 64 12 ss E o)(hk:k<=16)(f:ss.length<=12):Val ck [au x L,au y M,.int s] (au (bX x E) (cN (L++o))):=by
 have l1:=gz h.cn.rise h.Ml;have l2:=gz g.rise g.xc;have B:∀i,∀p∈L++o.take i,NB 1041 p.2:=λi p hp=>(Su.mp hp).elim (λq=>(h.PQ p q).mono (by lia)) λq=>(g.nb p (VF q)).mono (by lia)
 suffices Wp ck ([au x L,au y M,.int s].map Sl.fr) λg _=>∃N,g=.rt (.fr (au (bX x E) N))/\Canon (L++o) N by obtain⟨_,_,e,N,rfl,c⟩:=this;rw[<-Aa c];exact⟨_,e⟩
 refine Wp.df (Wp.st (U:=Ks s x y L M (aU (L.map V4) λn=>nm (cc L n)) .un .un .un) (aP (bq (aj rfl rfl (bU (.inr rfl) rfl)) (dg rfl (Ea h.cn.rise (λp hp=>(h.PQ p hp).ok) (λp hp=>((h.cn.mem p).mp hp).2) (by lia)))) rfl rfl rfl rfl) ?_);refine Wp.sq (Wp.fr (as:=M.map iT) (λi Z=>∃ns K X,Z=Ks s x y L M (aU ns λn=>nm (cc (L++o.take i) n)) K X .un/\Dc ns (L++o.take i)/\np K=true/\np X=true) (cD (aj rfl rfl (bU (.inr rfl) rfl)) rfl) ⟨L.map V4,.un,.un,by rw[UN,Tp],by rw[UN,Tp];exact⟨names_nodup h.cn.rise,λn=>by simp⟩,rfl,rfl⟩ ?_ ?_)
 .rintro i a Z ha ⟨ns,K,X,rfl,hd,h4,h5⟩;rw[SV] at ha;cases Q:M[i]? with
  |none=>rw[Q] at ha;cases ha
  |some p=>
   rw[Q] at ha;cases ha;obtain⟨n,z⟩:=p;have C:=SY Q;have v:o[i]?=some (n,sg s z):=by rw[<-T,SV,Q];rfl
   have H:=SY v;have V:NB 3000 (cc (L++o.take i) n):=(vG (B i) n).mono (by
    have c1:=fG h.cn.rise n;have c2:=fG g.rise n;have c3:=uc o i n;rw[qM];have:cnt L n+cnt (o.take i) n<=2:=by lia
    have:=VU (1041+1) this;lia)
   have nz:=g.nb _ H;have kp:=aL (qV V nz (by lia));obtain⟨Y,D,G⟩:=hd.put n (sg s z);have es:L++o.take (i+1)=L++o.take i++[(n,sg s z)]:=by rw[take_snoc v,Sw]
   have ln:ns.length<=12:=SW (hd.len (ss:=ss) λp hp=>(Su.mp hp).elim (h.Ml p) λq=>g.xc p (VF q)) f;refine⟨_,Sa (n,z) h4 h5,Wp.en (U:=Ks s x y L M (aU Y λm=>nm (cc (L++o.take (i+1)) m)) (.fr (.str n)) (.fr (nm z)) .un) ?_ ⟨.inl rfl,_,_,_,rfl,by rw[es];exact G,rfl,rfl⟩⟩;refine(mD (ah (ag (cZ (wJ rfl rfl rfl rfl (bD rfl rfl) (hd.get n)) rfl) (ag (bD (ag (aj rfl (aj rfl rfl (bU (.inr rfl) rfl)) (N9 u (I.nb _ C).b1 (by decide) _)) (ag (aj rfl rfl (bU (.inr rfl) rfl)) rfl)) rfl) rfl)) (kp _)) rfl rfl (Fi rfl rfl rfl rfl (by rw[kZ];lia))).trans ?_;rw[D,es];rfl
 .rintro O ⟨ns,K,X,rfl,hd,h4,h5⟩;have l:o.length=M.length:=by rw[<-T,Ss]
  have b:=B o.length;rw[Ss,<-l,S9] at hd ⊢;rw[S9] at b;generalize ep:L++o=P at hd b ⊢;have ln:ns.length<=12:=SW (hd.len (ss:=ss) λp hp=>(Su.mp (ep▸hp)).elim (h.Ml p) (g.xc p)) f;have sl:(bP ns).length<=12:=by rw[(bV _).length_eq];lia
  have R:∀s∈bP ns,∀{d:Rr}{Z:List Sl},res Z d=some (.dic (aU ns λn=>nm (cc P n)))->gq (bS jb bZ) d (.fr (.str s)) Z=some (.ok (.fr (nm (cc P s))),Z):=λs u d Z h=>by
   unfold gq;rw[h];show (match bS jb bZ (.dic (aU ns λn=>nm (cc P n))) (.str s) with|some r=>some ((.ok r:Except Str Rr),Z)|none=>none)=_;have:bS jb bZ (.dic (aU ns λn=>nm (cc P n))) (.str s)=some (.fr (nm (cc P s))):=by unfold bS jb bZ;dsimp only [iu];rw[iI,if_pos ((bV ns).mem_iff.mp u)]
   rw[this]
  have k:=qD (S:=Ks s x y L M (aU ns λn=>nm (cc P n)) K X .un) (t:=ao (aD jc (mix (mix (aa 3) (aa 7)) (aG 0)) (aG 0))) (e:=bC (bJ (aa 7) (mix (aa 3) (aa 7))))
   A.str (λs=>iT (s,cc P s)) (nz P) rfl (by lia:(bP ns).length<=100000) (λs u=>⟨aC (aj (aj (aj rfl rfl (R s u rfl)) rfl (bU (.inr rfl) rfl)) rfl (by unfold nz;rw[<-Ql (hG (λp hp=>(b p hp).ok) s)];exact kX rfl _)),λ_=>⟨.fr (iT (s,cc P s)),bD (ag rfl (ag (aj rfl rfl (R s u rfl)) rfl)) rfl,rfl⟩⟩)
  have j:((bP ns).filter (nz P)).map (λs=>iT (s,cc P s))=(gk P (bP ns)).map iT:=by unfold gk;rw[Tj];rfl
  rw[j] at k;have sq:bF (cb (ph bL bT) (aa 3)) (Ks s x y L M (aU ns λn=>nm (cc P n)) K X .un)=some (.ok ((bP ns).map A.str),Ks s x y L M (aU ns λn=>nm (cc P n)) K X .un):=by
   have F:ph bL bT (.dic (aU ns λn=>nm (cc P n)))=some (.nw (.lst ((bP ns).map A.str))):=by unfold ph bL bT;dsimp only;rw[lS];dsimp only;rw[if_pos (by lia)]
   exact cD (bq rfl (dg rfl F)) rfl
  have w:=aL (qV h.nx g.x (by lia));subst J;exact⟨rfl,Wp.st (U:=Ks s x y L M (aU ns λn=>nm (cc P n)) K X (.fr (.tup ((gk P (bP ns)).map iT)))) (aP (bq (bY sq k) rfl) rfl rfl rfl rfl) (Wp.en (aO (bD (ag (ah (ag (aj rfl rfl (bU (.inr rfl) rfl)) (ag (bD (ag (aj rfl (aj (aj rfl rfl (bU (.inr rfl) rfl)) rfl (bU (.inr rfl) rfl)) (N9 u I.x.b1 (by decide) _)) (ag (aj (aj rfl rfl (bU (.inr rfl) rfl)) rfl (bU (.inr rfl) rfl)) rfl)) rfl) rfl)) (w _)) rfl) rfl) rfl) ⟨gk P (bP ns),rfl,tJ hd.nd hd.mem⟩)⟩
theorem RE(x:Num):sg 1 x=x:=by unfold sg;rw[Xh]
theorem QW(M:List Pr):M.map (sO 1)=M:=by
 have:sO 1=id:=by funext p;unfold sO;rw[RE];rfl
 rw[this,Wh]
theorem qS{ss:List Str}{M:List Pr}(h:Tt k ss ps x L)(g:Sm 64 12 ss y M)(hk:k<=16)(m:ss.length<=12):Val ck [au x L,au y M,.int 1] (au (bX x y) (cN (L++M))):=tT (.inl rfl) (RE y) (QW M) h g g hk m
abbrev rD(f:Ms):Ms:=bf 0 (av (f9 (ao (cb (cG Ty.tuple) (aa 0))) (bc (cb (eJ λbs=>UM bs id) (bu 1 (bF (aa 0)) (aH 1) bj (aV f (cF (ai 1)))))) br) (bc (rp (cb (cG Ty.str) (aa 0)) (ip (cb (cG Ty.int) (aa 0)) (jw (cb (cG Ty.bool) (aa 0)))))))
theorem Kr(f:Ms)(s:Str):Val (rD f) [.str s] (.bl true):=⟨_,rfl⟩
theorem NJ(f:Ms)(i:Int):Val (rD f) [.int i] (.bl true):=⟨_,rfl⟩
theorem HC(ts:List T):eJ (λbs=>UM bs id) (.lst (ts.map λ_=>A.bl true))=some (.fr (.bl true)):=by
 have e:fY (ts.map λ_=>A.bl true)=some (ts.map λ_=>true):=by
  induction ts with
  |nil=>rfl
  |cons t ts l=>rw[SR,fY,l];rfl
 unfold eJ;dsimp only;rw[e];dsimp only;rw[V1,Tf.mpr λc hc=>(show (id∘λ_=>true) c=true from rfl)]
theorem zg{f:Ms}{xs:List A}(h:∀a∈xs,Val f [a] (.bl true))(hl:xs.length<=1000):Val (rD f) [.tup xs] (.bl true):=by
 have k:=cB (T:=A) (i:=1) (ts:=xs) (e:=aV f (cF (ai 1))) (S:=[.fr (.tup xs)]) id (λ_=>.bl true) rfl (by lia) λa ha=>⟨.fr (.bl true),ah rfl (aL (h a ha) _),rfl⟩
 rw[Wh] at k;exact Val.of (Wp.df (Wp.sr (ou (aC rfl) (aO (bq (bY rfl k) (dg rfl (HC xs))) rfl)) rfl))
theorem Hl(f:Ms)(x:Num):Val (rD (rD f)) [nm x] (.bl true):=zg (xs:=[.int x.1,.int x.2]) (λa ha=>by
 rcases SO.mp ha with rfl|ha
 .exact NJ _ _
 .rw[Sx.mp ha];exact NJ _ _) (by simp)
theorem MX(f:Ms)(p:Pr):Val (rD (rD (rD f))) [iT p] (.bl true):=zg (xs:=[.str p.1,nm p.2]) (λa ha=>by
 rcases SO.mp ha with rfl|ha
 .exact Kr _ _
 .rw[Sx.mp ha];exact Hl _ _) (by simp)
theorem Pt(f:Ms)(x:Num)(L:List Pr)(hl:L.length<=1000):Val (rD (rD (rD (rD (rD f))))) [au x L] (.bl true):=zg (xs:=[nm x,.tup (L.map iT)]) (λa ha=>by
 rcases SO.mp ha with rfl|ha
 .exact Hl _ _
 .rw[Sx.mp ha];exact zg (λa ha=>by obtain⟨p,_,rfl⟩:=Ta.mp ha;exact MX _ p) (by rw[Ss];exact hl)) (by simp)
theorem zB:cK=rD (rD (rD (rD (rD (rD iM))))):=rfl
theorem ND(x:Fa)(hl:x.L.length<=1000):Val cK [aZ x] (.bl true):=by
 rw[zB];exact zg (xs:=[.str x.n,.str x.ax,au x.x x.L]) (λa ha=>by
  rcases SO.mp ha with rfl|ha
  .exact Kr _ _
  rcases SO.mp ha with rfl|ha
  .exact Kr _ _
  .rw[Sx.mp ha];exact Pt _ _ _ hl) (by simp)
theorem xG{xs:List A}{s0 s1:A}(h0:s0=.lst xs)(h1:s1=.lst xs)(R:si (.lst xs) (.lst xs)=some true)(h:∀a∈xs,Val cK [a] (.bl true))(hl:xs.length<=1000):dk [.fr s0,.fr s1]=some (.rt (.fr (.bl true)),[.fr s0,.fr s1]):=by
 subst h0 h1;have k:=cB (T:=A) (i:=2) (ts:=xs) (e:=aV cK (cF (ai 2))) (S:=[.fr (.lst xs),.fr (.lst xs)]) id (λ_=>.bl true) rfl (by lia) λa ha=>⟨.fr (.bl true),ah rfl (aL (h a ha) _),rfl⟩
 rw[Wh] at k;obtain⟨_,_,e,rfl,rfl⟩:Wp dk [.fr (.lst xs),.fr (.lst xs)] λg Z=>g=.rt (.fr (.bl true))/\Z=[.fr (.lst xs),.fr (.lst xs)]:=by refine Wp.df (Wp.en (aO (r:=.fr (.bl true)) (U:=[.fr (.lst xs),.fr (.lst xs)]) ?_ rfl) ⟨rfl,rfl⟩);refine bk (aC (b:=true) rfl) ?_;refine bk (aC (b:=true) (aj rfl rfl (fu (o:=none) rfl rfl (r:=.fr (.bl true)) (by unfold gG;rw[R])))) ?_;exact bq (bY rfl k) (dg rfl (HC xs))
 exact e
theorem tK(h:iH b zs)(n:60<=b)(b1:b<=4000):eE cX [pf zs] (.lst (zs.map eA)):=by
 have hl:=h.len;have k:=cB (T:=Sz) (i:=1) (ts:=zs) (e:=aV cW (cF (ai 1))) (S:=[.fr (pf zs)]) eA eA rfl (by lia) λz hz=>⟨.nw (.obj "Size" (yf z)),ah rfl (cj (sN (h.sz z hz) n b1) _),rfl⟩
 exact eE.of (Wp.df (Wp.en (aO (bY (cD (bq rfl (dg rfl (t9 zs))) rfl) k) rfl) rfl))
theorem CI(h:iH b zs)(n:60<=b)(b1:b<=4000):eE jE [pf zs] (.lst (zs.map lg)):=by
 have hl:=h.len;have k:=cB (T:=Sz) (i:=1) (ts:=zs) (e:=bC (lH (d0 (aT ["Size", "Part"] "name") (aa 1)) (d0 (aT ["Size"] "least") (aa 1)) (d0 (aT ["Size"] "most") (aa 1)) (d0 (aT ["Size"] "shifts") (aa 1)))) (S:=[.fr (pf zs)]) eA lg rfl (by lia) λz hz=>⟨.fr (lg z),bD (ag (bq rfl (dg rfl (kj z))) (ag (bq rfl (dg rfl (qv z))) (ag (bq rfl (dg rfl (uk z))) (ag (bq rfl (dg rfl (fc z))) rfl)))) rfl,rfl⟩
 exact eE.of (Wp.df (Wp.en (aO (bY (cD (ah (ag (gW rfl rfl) rfl) (cj (tK h n b1) _)) rfl) k) rfl) rfl))
variable{P:List Sl->Prop}
theorem Ag{t:Mi Bool}{xs:List A}{c:A->Bool}{f:A->A}(x:∀Z,P Z->aF Z i=some (.lst xs))
  (h:∀a,a∈xs->∀Z,P Z->∃U,G a Z=some U/\∃Z',t U=some (.ok (c a),Z')/\(c a=false->P Z')/\(c a=true->∃r F,e Z'=some (.ok r,F)/\∃T,bz r F=some (f a,T)/\P T)):
  ∀(n j:Nat)(acc:List A)(Z:List Sl),P Z->xs.length<=j+n->j<=xs.length->∃O,dZ i G t e (n+1) j acc Z=some (acc++((xs.drop j).filter c).map f,O)/\P O:=by
 intro n;induction n with
 |zero=>
  intro j acc Z hp h1 h2;have b:j=xs.length:=by lia
  subst b;refine⟨Z,?_,hp⟩;unfold dZ;rw[x Z hp];simp
 |succ n l=>
  intro j acc Z hp h1 h2;by_cases b:j=xs.length
  .subst b;refine⟨Z,?_,hp⟩;unfold dZ;rw[x Z hp];simp
  .have hl:j<xs.length:=by lia
   obtain⟨U,d,Z',R,k,gt⟩:=h xs[j] (TY hl) Z hp;cases hc:c xs[j] with
   |true=>obtain⟨r,F,S,T,I,o⟩:=gt hc;obtain⟨O,w,L⟩:=l (j+1) (acc++[f xs[j]]) T o (by lia) (by lia);refine⟨O,?_,L⟩;rw[hc] at R;unfold dZ;rw[x Z hp];simp only[SU hl,d,R,S,I];rw[w,Ti hl,XD,if_pos hc,SR,Sw];rfl
   |false=>obtain⟨O,w,L⟩:=l (j+1) acc Z' (k hc) (by lia) (by lia);refine⟨O,?_,L⟩;rw[hc] at R;unfold dZ;rw[x Z hp];simp only[SU hl,d,R];rw[w,Ti hl,XD,hc];rfl
theorem AK{m:Nat}{t:Mi Bool}{xs:List A}{c:A->Bool}{f:A->A}(n:∀Z,P Z->aF Z i=some (.lst xs))(hl:xs.length<=100000)
  (h:∀a,a∈xs->∀Z,P Z->∃U,G a Z=some U/\∃Z',t U=some (.ok (c a),Z')/\(c a=false->P Z')/\(c a=true->∃r F,e Z'=some (.ok r,F)/\∃T,bz r F=some (f a,T)/\P T))(hp:P (Z++S0 m .un)):
  ∃O,dy m i G t e Z=some (.ok (.nw (.lst ((xs.filter c).map f))),O.take Z.length)/\P O:=by
 obtain⟨O,w,L⟩:=Ag n h 100000 0 [] _ hp (by lia) (by lia);refine⟨O,?_,L⟩;unfold dy;rw[w];simp
structure Rw where
 n:Str
 ax:Str
 st:Option Str
 x:Num
 L:List Pr
noncomputable def sY:Option Str->A
 |none=>.non
 |some s=>.str s
def jU(r:Rw):A:=.tup [.str r.n,.str r.ax,sY r.st,au r.x r.L]
structure Mm(ss:List Str)(pre:List Rw)(r:Rw):Prop where
 wd:Wd r.n
 nf:r.n ≠ "frame"
 nw:r.n∉pre.map Rw.n
 ax:gO r.ax
 st:∀s,r.st=some s->∃q∈pre,q.n=s/\q.ax=r.ax
 sm:Sm 64 12 ss r.x r.L
abbrev oU(o:LO)(ss:List Str)(k:Int)(rs:List Rw)(x4 x5 x6 x7:Sl):List Sl:=[.pv o,.fr (.lst (ss.map A.str)),.fr (.int k),.lv (.lst (rs.map jU)),x4,x5,x6,x7]
variable{rs:List Rw}
theorem Cm{ss:List Str}{k:Int}(hl:rs.length<=100)(p:Mi Rr):bg (dy 1 3 (aH 8) bj (mix (aa 8) (aG 0))) p (oU o ss k rs x4 x5 x6 x7)=some (.ok (.nw (.lst ((rs.map Rw.n).map A.str))),oU o ss k rs x4 x5 x6 x7):=by
 obtain⟨O,e,x,rfl,_⟩:=yM (m:=1) (i:=3) (G:=aH 8) (t:=bj) (e:=mix (aa 8) (aG 0)) (xs:=rs.map jU) (Z:=oU o ss k rs x4 x5 x6 x7) (f:=λa=>match a with | .tup (b::_)=>b|_=>.non) (P:=λZ=>∃x,Z=oU o ss k rs x4 x5 x6 x7++[x]/\np x=true) (λZ ⟨x,e,_⟩=>by rw[e];rfl) (by rw[Ss];lia) (by rintro a ha Z ⟨x,rfl,w⟩;obtain⟨r,y,rfl⟩:=Ta.mp ha;exact⟨oU o ss k rs x4 x5 x6 x7++[.fr (jU r)],by cases x<;>first|(cases w;done)|rfl,_,rfl,.fr (.str r.n),_,aj rfl rfl (bU (.inr rfl) rfl),_,rfl,_,rfl,rfl⟩) ⟨.un,rfl,rfl⟩
 refine cq (e.trans ?_);rw[Tj,Tj];rfl
theorem Fg{ss:List Str}{k:Int}(hl:rs.length<=100)(p:Mi Rr):bg (dy 1 3 (aH 8) (ao (aD gG (mix (aa 8) (aG 1)) (aa 6))) (mix (aa 8) (aG 0))) p (oU o ss k rs x4 x5 (.fr (.str ax)) x7)=some (.ok (.nw (.lst (((rs.filter λr=>decide (r.ax=ax)).map Rw.n).map A.str))),oU o ss k rs x4 x5 (.fr (.str ax)) x7):=by
 obtain⟨O,e,x,rfl,_⟩:=AK (m:=1) (i:=3) (G:=aH 8) (t:=ao (aD gG (mix (aa 8) (aG 1)) (aa 6))) (e:=mix (aa 8) (aG 0)) (xs:=rs.map jU) (Z:=oU o ss k rs x4 x5 (.fr (.str ax)) x7) (c:=λa=>match a with | .tup (_::.str b::_)=>decide (b=ax)|_=>false) (f:=λa=>match a with | .tup (b::_)=>b|_=>.non) (P:=λZ=>∃x,Z=oU o ss k rs x4 x5 (.fr (.str ax)) x7++[x]/\np x=true) (λZ ⟨x,e,_⟩=>by rw[e];rfl) (by rw[Ss];lia) (by rintro a ha Z ⟨x,rfl,w⟩;obtain⟨r,y,rfl⟩:=Ta.mp ha;exact⟨oU o ss k rs x4 x5 (.fr (.str ax)) x7++[.fr (jU r)],by cases x<;>first|(cases w;done)|rfl,_,aC (aj (aj rfl rfl (bU (.inr rfl) rfl)) rfl (jF _ _ _)),λ_=>⟨_,rfl,rfl⟩,λ_=>⟨.fr (.str r.n),_,aj rfl rfl (bU (.inr rfl) rfl),_,rfl,_,rfl,rfl⟩⟩) ⟨.un,rfl,rfl⟩
 refine cq (e.trans ?_);rw[List.filter_map,Tj,Tj];rfl
theorem DF{n:Int}{ss:List Str}(w:Wl n o)(hn:n<2^37)(u:ss.length<=20):X2 λ(z:Str)(o':LO)=>N4 (∀Z,fh aQ [] [.rf 0,.fr (.lst (ss.map A.str))] (.pv o::Z)=some (.ok (.fr (.str z)),.pv o'::Z)) (Wd z) (z∉ss) (Wl (n+11) o'):=by obtain⟨z,o',⟨U,e⟩,h1,h2,h3⟩:=n9 w hn u;exact⟨z,o',BL (as:=[.lst (ss.map A.str)]) ⟨_,e⟩ rfl,h1,h2,h3⟩
theorem Ox{qs:List Rw}{r:Int}(h0:0<=r)(h1:r<((2+qs.length:Nat):Int)):∃st:Option Str,jd (A.non::A.non::(qs.map Rw.n).map A.str) r=some (sY st)/\∀s,st=some s->∃q∈qs,q.n=s:=by
 obtain⟨j,rfl⟩:∃j:Nat,r=j:=⟨r.toNat,by lia⟩
 match j with
 |0=>exact⟨none,gL rfl,λs e=>by cases e⟩
 |1=>exact⟨none,gL rfl,λs e=>by cases e⟩
 |j+2=>
  have b:j<qs.length:=by lia
  refine⟨some qs[j].n,gL ?_,λs e=>⟨qs[j],TY b,by cases e;rfl⟩⟩;show ((qs.map Rw.n).map A.str)[j]?=_;rw[SV,SV,SU b];rfl
abbrev Ri:Ms:=av (aK 5 (aV aQ (bJ (aa 0) (kT (aD bt (bg (dy 1 3 (aH 8) bj (mix (aa 8) (aG 0))) (bu 1 (bF (aa 3)) (aH 8) bj (mix (aa 8) (aG 0)))) (cS (cF (mC (.str "frame"))))))))) (av (aK 6 (mix (mC (.str "xy")) (aV az (bJ (aa 0) (aG 2))))) (av (aK 7 (aD bt (cS (bJ (mC .non) (mC .non))) (bg (dy 1 3 (aH 8) (ao (aD gG (mix (aa 8) (aG 1)) (aa 6))) (mix (aa 8) (aG 0))) (bu 1 (bF (aa 3)) (aH 8) (ao (aD gG (mix (aa 8) (aG 1)) (aa 6))) (mix (aa 8) (aG 0)))))) (bA (dQ 3 (bI 3 (bC (lH (aa 5) (aa 6) (mix (aa 7) (aV az (bJ (aa 0) (cb gc (aa 7))))) (aV fL (bJ (aa 0) (ai 1))))))))))
theorem Ai:eR=bf 5 (av (aK 3 (cS dz)) (av (dh (eI (aa 2)) (aH 4) Ri) (bc (aa 3)))):=rfl
theorem DU{n:Int}{ss:List Str}{k:Int}(w:Wl n o)(hn:n<2^35)(nd:ss.Nodup)(u:ss.length<=12)(hl:rs.length<=10)(h5:np x5=true)(m:np x6=true)(b:np x7=true):
  X5 λ(r:Rw)(o':LO)(C v E:Sl)=>N4 (Ri (oU o ss k rs x4 x5 x6 x7)=some (.nx,oU o' ss k (rs++[r]) x4 C v E)) (Mm ss rs r) (Wl (n+80) o') (np C=true/\np v=true/\np E=true):=by
 obtain⟨z,Y,J,hz,g,H⟩:=DF (ss:=rs.map Rw.n++[("frame" : Str)]) w (by lia) (by simp;lia);obtain⟨G,o2,Q,D,b2,F⟩:=tk 2 H (by lia) (by decide) (by decide);obtain⟨ax,c,K⟩:∃ax,gO ax/\∀Z,gq (bS jb bZ) (.fr (.str "xy")) (.fr (.int G)) Z=some (.ok (.fr (.str ax)),Z):=by
  have:G=0\/G=1:=by lia
  rcases this with rfl|rfl
  .exact⟨"x",.inl rfl,λZ=>rfl⟩
  .exact⟨"y",.inr rfl,λZ=>rfl⟩
 generalize j:(rs.filter λr=>decide (r.ax=ax))=qs;have t:qs.length<=10:=by rw[<-j];exact SW (UU _ _) hl
 obtain⟨l,d,p,N,S,T⟩:=tk ((2+qs.length:Nat):Int) F (by lia) (by lia) (by lia);obtain⟨st,X,B⟩:=Ox (qs:=qs) N S;obtain⟨x,L,O,P,sm,y⟩:=A3 T (by lia) nd u;have ea:gq bt (.nw (.lst ((rs.map Rw.n).map A.str))) (.nw (.lst [.str "frame"])) (oU o ss k rs x4 x5 x6 x7)=some (.ok (.nw (.lst ((rs.map Rw.n++[("frame" : Str)]).map A.str))),oU o ss k rs x4 x5 x6 x7):=by rw[SJ];exact zv (by simp;lia) _
 have f:∀Z,gq bt (.nw (.lst [.non,.non])) (.nw (.lst ((qs.map Rw.n).map A.str))) Z=some (.ok (.nw (.lst (A.non::A.non::(qs.map Rw.n).map A.str))),Z):=λZ=>zv (by simp;lia) _;have I:(rs++[(⟨z,ax,st,x,L⟩:Rw)]).map jU=rs.map jU++[jU ⟨z,ax,st,x,L⟩]:=SJ;have V:((A.non::A.non::(qs.map Rw.n).map A.str).length:Int)=((2+qs.length:Nat):Int):=by simp;lia
 refine⟨⟨z,ax,st,x,L⟩,O,.fr (.str z),.fr (.str ax),.lv (.lst (A.non::A.non::(qs.map Rw.n).map A.str)),?_,⟨hz,λe=>g (Sr _ (Sx.mpr e)),λe=>g (Sv _ e),c,λs e=>?_,sm⟩,y.mono (by lia),rfl,rfl,rfl⟩
 .refine fD (U:=oU Y ss k rs x4 (.fr (.str z)) x6 x7) (aP (ah (ag rfl (ag (cZ (aj (Cm (by lia) _) (d9 rfl rfl) ea) rfl) rfl)) (J _)) rfl rfl h5 rfl) ?_;refine fD (U:=oU o2 ss k rs x4 (.fr (.str z)) (.fr (.str ax)) x7) (aP (aj rfl (ah rfl (Q _)) (K _)) rfl rfl m rfl) ?_;have es:=Fg (o:=o2) (ss:=ss) (k:=k) (rs:=rs) (x4:=x4) (x5:=.fr (.str z)) (x7:=x7) (ax:=ax) (by lia) (bu 1 (bF (aa 3)) (aH 8) (ao (aD gG (mix (aa 8) (aG 1)) (aa 6))) (mix (aa 8) (aG 0)));rw[j] at es;refine fD (U:=oU o2 ss k rs x4 (.fr (.str z)) (.fr (.str ax)) (.lv (.lst (A.non::A.non::(qs.map Rw.n).map A.str)))) (aP (aj (d9 rfl rfl) es (f _)) rfl rfl b rfl) ?_;have i:∀o',cb gc (aa 7) (oU o' ss k rs x4 (.fr (.str z)) (.fr (.str ax)) (.lv (.lst (A.non::A.non::(qs.map Rw.n).map A.str))))=some (.ok (.fr (.int ((2+qs.length:Nat):Int))),oU o' ss k rs x4 (.fr (.str z)) (.fr (.str ax)) (.lv (.lst (A.non::A.non::(qs.map Rw.n).map A.str)))):=λo'=>by rw[<-V];rfl
  exact gi (a:=jU ⟨z,ax,st,x,L⟩) (xs:=rs.map jU) rfl (bD (ag rfl (ag rfl (ag (aj rfl (ah (ag rfl (ag (i _) rfl)) (p _)) (bU (.inl rfl) X)) (ag (ah rfl (BL (as:=[.lst (ss.map A.str)]) P rfl _)) rfl)))) rfl) rfl rfl (by rw[Ss];lia) (by rw[<-I];rfl)
 .obtain⟨q,h,R⟩:=B s e;rw[<-j,Uk] at h;exact⟨q,h.1,R,of_decide_eq_true h.2⟩
inductive DZ(ss:List Str):List Rw->Prop
 |nil:DZ ss []
 |snoc{rs:List Rw}{r:Rw}(h:DZ ss rs)(k:Mm ss rs r):DZ ss (rs++[r])
theorem zV{n:Int}{ss:List Str}(w:Wl n o)(hn:n<2^34)(nd:ss.Nodup)(u:ss.length<=12)(hk:k<=9):X2 λ(rs:List Rw)(o':LO)=>N4 (eG eR o [.lst (ss.map A.str),.int k] (.lv (.lst (rs.map jU))) o') (DZ ss rs) (rs.length=k) (Wl (n+800) o'):=by
 suffices ∃s o',eG eR o [.lst (ss.map A.str),.int k] s o'/\∃rs:List Rw,N4 (s=.lv (.lst (rs.map jU))) (DZ ss rs) (rs.length=k) (Wl (n+800) o') by obtain⟨s,o',v,rs,rfl,h1,h2,h3⟩:=this;exact⟨rs,o',v,h1,h2,h3⟩
 rw[Ai]
 refine eG.of (Wp.df (Wp.st (U:=oU o ss k [] .un .un .un .un) rfl ?_))
 refine Wp.sq (Wp.fr (as:=fS 0 k) (λi Z=>X5 λ(o':LO)(rs:List Rw)(x4 x5 x6:Sl)=>∃x7,N6 (Z=oU o' ss k rs x4 x5 x6 x7) (DZ ss rs) (rs.length=i) (Wl (n+80*i) o') (np x4=true) (np x5=true/\np x6=true/\np x7=true)) (jS rfl (yV (by lia) _)) ⟨o,[],.un,.un,.un,.un,rfl,.nil,rfl,w.mono (by lia),rfl,rfl,rfl,rfl⟩ ?_ ?_)
 .rintro i a Z ha ⟨o',rs,x4,x5,x6,x7,rfl,y,hl,q,h4,h5,m,b⟩
  have hi:i<9:=by have:=(ly ha).1;lia
  obtain⟨r,o2,X,K,E,e,L,F,h,x,c⟩:=DU (k:=k) (rs:=rs) (x4:=.fr a) q (by lia) nd u (by lia) h5 m b
  exact⟨oU o' ss k rs (.fr a) x5 x6 x7,by cases x4<;>first|(cases h4;done)|rfl,Wp.en e ⟨.inl rfl,o2,rs++[r],_,_,_,_,rfl,.snoc y L,by simp;lia,F.mono (by lia),rfl,h,x,c⟩⟩
 .rintro Z ⟨o',rs,x4,x5,x6,x7,rfl,y,hl,q,-,-⟩
  rw[gN] at q hl
  exact⟨rfl,Wp.en (aO rfl rfl) ⟨_,o',_,rfl,rfl,rs,rfl,y,hl,q.mono (by lia)⟩⟩
inductive Pd(ss:List Str):List Rw->List Fa->Prop
 |nil:Pd ss [] []
 |snoc{rs:List Rw}{fs:List Fa}{r:Rw}{f:Fa}(h:Pd ss rs fs)(k:Mm ss rs r)(en:f.n=r.n)(ea:f.ax=r.ax)(ht:∃j ps,j<=fs.length+1/\Tt j ss ps f.x f.L)(hp:Jz fs r.ax r.x r.L (sY r.st) f.x f.L):Pd ss (rs++[r]) (fs++[f])
theorem Pd.len{ss:List Str}{fs:List Fa}(h:Pd ss rs fs):fs.length=rs.length:=by
 induction h with
 |nil=>rfl
 |snoc h k en ea ht hp l=>simp[l]
theorem Pd.ns{ss:List Str}{fs:List Fa}(h:Pd ss rs fs):fs.map Fa.n=rs.map Rw.n:=by
 induction h with
 |nil=>rfl
 |snoc h k en ea ht hp l=>rw[SJ,SJ,l];simp[en]
theorem Pd.nd{ss:List Str}{fs:List Fa}(h:Pd ss rs fs):(rs.map Rw.n).Nodup:=by
 induction h with
 |nil=>exact .nil
 |snoc h k en ea ht hp l=>rw[SJ];exact SQ.mpr ⟨l,by simp,λa ha b d e=>k.nw (by rw[Ui,Sx] at d;rw[<-d,<-e];exact ha)⟩
theorem Pd.tt{ss:List Str}{fs:List Fa}(h:Pd ss rs fs):∀f∈fs,∃j ps,j<=fs.length/\Tt j ss ps f.x f.L:=by
 induction h with
 |nil=>exact λf hf=>by cases hf
 |snoc h k en ea ht hp l=>
  intro g N;rcases Su.mp N with z|z
  .obtain⟨j,ps,h1,h2⟩:=l g z;exact⟨j,ps,by simp;lia,h2⟩
  .rw[Sx.mp z];obtain⟨j,ps,h1,h2⟩:=ht;exact⟨j,ps,by simpa using h1,h2⟩
theorem Pd.at{ss:List Str}{fs:List Fa}(h:Pd ss rs fs):∀q∈rs,∃f∈fs,f.n=q.n/\f.ax=q.ax:=by
 induction h with
 |nil=>exact λf hf=>by cases hf
 |snoc h k en ea ht hp l=>
  intro q j;rcases Su.mp j with z|z
  .obtain⟨f,h1,h2⟩:=l q z;exact⟨f,Sv _ h1,h2⟩
  .rw[Sx.mp z];exact⟨_,Sr _ (by simp),en,ea⟩
theorem uv:∀{fs:List Fa}{f:Fa},(fs.map Fa.n).Nodup->f∈fs->fs.find? (mr f.n f.ax)=some f
 |g::fs,f,nd,hf=>by
  rw[Ts];rw[SR,S8] at nd;rcases SO.mp hf with rfl|hf
  .rw[show mr f.n f.ax f=true by simp[mr]]
  .have:mr f.n f.ax g=false:=by unfold mr;rw[decide_eq_false λe=>nd.1 (by rw[e];exact Ud hf)];rfl
   rw[this];exact uv nd.2 hf
theorem DZ.at{ss:List Str}{rs:List Rw}(h:DZ ss rs):∀{i:Nat}{r:Rw},rs[i]?=some r->Mm ss (rs.take i) r:=by
 induction h with
 |nil=>exact λe=>by simp at e
 |snoc h k l=>
  rename_i rs n;intro i r e;have hi:=(Sy.mp e).1;rw[SI,Up] at hi;by_cases z:i<rs.length
  .rw[Th z] at e;rw[S5 (by lia)];exact l e
  .have:i=rs.length:=by lia
   subst this;rw[S6 (by lia)] at e;simp at e;subst e;rw[S5 (by lia),S9];exact k
def Dn(fs:List Fa)(n:Str):A:=match fs.find? (λf=>decide (f.n=n)) with
 |some f=>au f.x f.L
 |none=>.non
theorem zX{fs:List Fa}(h:f.n∉fs.map Fa.n)(m:Str):Dn (fs++[f]) m=if m=f.n then au f.x f.L else Dn fs m:=by
 unfold Dn;rw[List.find?_append];by_cases z:m=f.n
 .rw[if_pos z];have:fs.find? (λg=>decide (g.n=m))=none:=Xn.mpr λg N e=>h (by rw[<-z,<-of_decide_eq_true e];exact Ud N);rw[this];simp[z]
 .rw[if_neg z];have:([f].find? λg=>decide (g.n=m))=none:=by simp;exact λe=>z e.symm
  rw[this,Option.or_none]
theorem Ba:∀{fs:List Fa}{f:Fa},(fs.map Fa.n).Nodup->f∈fs->Dn fs f.n=au f.x f.L
 |g::fs,f,nd,hf=>by
  unfold Dn;rw[Ts];rw[SR,S8] at nd;rcases SO.mp hf with rfl|hf
  .simp
  .rw[decide_eq_false λe=>nd.1 (by rw[e];exact Ud hf)];exact Ba nd.2 hf
abbrev Dq(rs:List Rw)(fs:List Fa)(x3 x4 x5 x6 x7:Sl):List Sl:=[.fr (.lst (rs.map jU)),.lv (.dic (aU (fs.map Fa.n) (Dn fs))),.lv (.lst (fs.map aZ)),x3,x4,x5,x6,x7]
abbrev G4(i j k l:Nat):Mg:=dj 4 (aJ (aH i) (aJ (aH j) (aJ (aH k) (aJ (aH l) dA))))
abbrev Ru:Ms:=av (aK 7 (aa 6)) (av (f9 (ao (aD (xM true) (aa 5) (mC .non))) (aK 7 (aV ck (fQ (mix (aa 1) (aa 5)) (ai 6) (aG 1)))) br) (av (kg 1 (aa 3) (aa 7)) (bA (dQ 2 (bI 2 (bC (fQ (aa 3) (aa 4) (aa 7))))))))
theorem yt:dN=bf 7 (av (aK 1 qr) (av (aK 2 (cS dz)) (av (dh (bF (aa 0)) (G4 3 4 5 6) Ru) (bc (aa 2))))):=rfl
theorem GQ{ss:List Str}{rs0:List Rw}{fs:List Fa}{r:Rw}(h:Pd ss rs fs)(k:Mm ss rs r)(hl:rs.length<=9)(S:ss.length<=12)(b:np x7=true):
  ∃f,Ru (Dq rs0 fs (.fr (.str r.n)) (.fr (.str r.ax)) (.fr (sY r.st)) (.fr (au r.x r.L)) x7)=some (.nx,Dq rs0 (fs++[f]) (.fr (.str r.n)) (.fr (.str r.ax)) (.fr (sY r.st)) (.fr (au r.x r.L)) (.fr (au f.x f.L)))/\Pd ss (rs++[r]) (fs++[f]):=by
 have fl:fs.length<=9:=by rw[h.len];exact hl
 have nw:r.n∉fs.map Fa.n:=by rw[h.ns];exact k.nw
 have nd:(fs.map Fa.n).Nodup:=by rw[h.ns];exact h.nd
 have fin:∀f:Fa,f.n=r.n->f.ax=r.ax->av (kg 1 (aa 3) (aa 7)) (bA (dQ 2 (bI 2 (bC (fQ (aa 3) (aa 4) (aa 7)))))) (Dq rs0 fs (.fr (.str r.n)) (.fr (.str r.ax)) (.fr (sY r.st)) (.fr (au r.x r.L)) (.fr (au f.x f.L)))=some (.nx,Dq rs0 (fs++[f]) (.fr (.str r.n)) (.fr (.str r.ax)) (.fr (sY r.st)) (.fr (au r.x r.L)) (.fr (au f.x f.L))):=by
  intro f en ea;have D:iQ (aU (fs.map Fa.n) (Dn fs)) (.inr r.n) (au f.x f.L)=aU ((fs++[f]).map Fa.n) (Dn (fs++[f])):=by rw[mR,if_neg nw,SJ,Ui,en];refine iB λm _=>?_;rw[zX (by rw[en];exact nw),en]
  have J:(fs++[f]).map aZ=fs.map aZ++[.tup [.str r.n,.str r.ax,au f.x f.L]]:=by rw[SJ,<-en,<-ea];rfl
  refine fD (U:=[.fr (.lst (rs0.map jU)),.lv (.dic (aU ((fs++[f]).map Fa.n) (Dn (fs++[f])))),.lv (.lst (fs.map aZ)),.fr (.str r.n),.fr (.str r.ax),.fr (sY r.st),.fr (au r.x r.L),.fr (au f.x f.L)]) ?_ ?_
  .refine(mD (r:=.fr (au f.x f.L)) rfl rfl rfl (Fi rfl rfl rfl rfl (by rw[kZ,Ss];lia))).trans ?_;rw[D];rfl
  .exact gi (a:=.tup [.str r.n,.str r.ax,au f.x f.L]) (xs:=fs.map aZ) rfl (bD rfl rfl) rfl rfl (by rw[Ss];lia) (by rw[<-J];rfl)
 cases B:r.st with
 |none=>refine⟨⟨r.n,r.ax,r.x,r.L⟩,?_,.snoc h k rfl rfl ⟨1,r.L,by lia,⟨fE k.sm.rise k.sm.Oe k.sm.nz,k.sm.nb,λn=>fG k.sm.rise n,k.sm.x.mono (by decide),k.sm.xc⟩⟩ (by rw[B];exact .here)⟩;have:=fin ⟨r.n,r.ax,r.x,r.L⟩ rfl rfl;rw[B] at this;refine fD (U:=Dq rs0 fs (.fr (.str r.n)) (.fr (.str r.ax)) (.fr (sY none)) (.fr (au r.x r.L)) (.fr (au r.x r.L))) (aP rfl rfl rfl b rfl) (fD (cY (aC rfl) rfl) this)
 |some s=>
  obtain⟨q,Q,A,i⟩:=k.st s B;obtain⟨g,E,Z,ga⟩:=h.at q Q;obtain⟨j,ps,C,ht⟩:=h.tt g E;have v:=qS ht k.sm (by lia) S;obtain⟨c,t⟩:=fq ht k.sm (by lia) S;generalize cN (g.L++r.L)=N at v c t;have fd:=uv nd E;rw[Z,ga,A,i] at fd;refine⟨⟨r.n,r.ax,bX g.x r.x,N⟩,?_,.snoc h k rfl rfl ⟨j+1,_,by lia,t⟩ (by rw[B];exact .by' fd c)⟩;have fi:=fin ⟨r.n,r.ax,bX g.x r.x,N⟩ rfl rfl;rw[B] at fi;have R:bS jb bZ (.dic (aU (fs.map Fa.n) (Dn fs))) (.str s)=some (.fr (au g.x g.L)):=by unfold bS jb bZ;dsimp only [iu];rw[iI,if_pos (by rw[<-A,<-Z];exact Ud E),<-A,<-Z,Ba nd E]
  refine fD (U:=Dq rs0 fs (.fr (.str r.n)) (.fr (.str r.ax)) (.fr (sY (some s))) (.fr (au r.x r.L)) (.fr (au r.x r.L))) (aP rfl rfl rfl b rfl) (fD (U:=Dq rs0 fs (.fr (.str r.n)) (.fr (.str r.ax)) (.fr (sY (some s))) (.fr (au r.x r.L)) (.fr (au (bX g.x r.x) N))) (ou (aC rfl) (aP (ah (ag (aj rfl rfl (fu (o:=none) rfl rfl ?_)) rfl) (aL v _)) rfl rfl rfl rfl)) fi);exact R
theorem zh{ss:List Str}(h:DZ ss rs)(hl:rs.length<=9)(m:ss.length<=12):∃fs,eE dN [.lst (rs.map jU)] (.lst (fs.map aZ))/\Pd ss rs fs:=by
 suffices Wp dN [.fr (.lst (rs.map jU))] λg _=>∃fs,g=.rt (.lv (.lst (fs.map aZ)))/\Pd ss rs fs by obtain⟨_,_,e,fs,rfl,hp⟩:=this;exact⟨fs,⟨_,e⟩,hp⟩
 rw[yt]
 refine Wp.df (Wp.st (U:=[.fr (.lst (rs.map jU)),.lv (.dic []),.un,.un,.un,.un,.un,.un]) rfl (Wp.st (U:=Dq rs [] .un .un .un .un .un) rfl ?_))
 refine Wp.sq (Wp.fr (as:=rs.map jU) (λi Z=>X5 λ(fs:List Fa)(x3 x4 x5 x6:Sl)=>∃x7,N4 (Z=Dq rs fs x3 x4 x5 x6 x7) (Pd ss (rs.take i) fs) (np x3=true/\np x4=true) (np x5=true/\np x6=true/\np x7=true)) (cD rfl rfl) ⟨[],.un,.un,.un,.un,.un,rfl,by rw[UN];exact .nil,⟨rfl,rfl⟩,rfl,rfl,rfl⟩ ?_ ?_)
 .rintro i a Z ha ⟨fs,x3,x4,x5,x6,x7,rfl,hp,⟨h3,h4⟩,h5,A,b⟩
  rw[SV] at ha
  cases X:rs[i]? with
  |none=>rw[X] at ha;cases ha
  |some r=>rw[X] at ha;cases ha;obtain⟨f,e,D⟩:=GQ (rs0:=rs) hp (h.at X) (by rw[Tw];lia) m b;rw[<-take_snoc X] at D;refine⟨Dq rs fs (.fr (.str r.n)) (.fr (.str r.ax)) (.fr (sY r.st)) (.fr (au r.x r.L)) x7,?_,Wp.en e ⟨.inl rfl,fs++[f],_,_,_,_,_,rfl,D,⟨rfl,rfl⟩,rfl,rfl,rfl⟩⟩;cases x3<;>first|(cases h3;done)|(cases x4<;>first|(cases h4;done)|(cases x5<;>first|(cases h5;done)|(cases x6<;>first|(cases A;done)|rfl)))
 .rintro Z ⟨fs,x3,x4,x5,x6,x7,rfl,hp,-,-⟩
  rw[Ss,S9] at hp
  exact⟨rfl,Wp.en (aO rfl rfl) ⟨fs,rfl,hp⟩⟩
theorem Ap(x:Num):nv (sg (-1) x) =-nv x:=by show WE (-1*x.1) x.2 =-WE x.1 x.2;rw[Rat.neg_divInt,YX,Xh]
theorem G6(h:NB b x):NB b (sg (-1) x):=by have k:=h.neg;unfold sg;rw[YX,Xh];exact k
theorem Sm.neg{ss:List Str}{M:List Pr}(g:Sm 64 12 ss y M):Sm 64 12 ss (sg (-1) y) (M.map (sO (-1))):=by
 refine⟨G6 g.x,T7.mpr g.rise,λp hp=>?_,λp hp=>?_,by rw[Ss];exact g.len,λp hp=>?_⟩
 .obtain⟨q,j,rfl⟩:=Ta.mp hp;exact G6 (g.nb q j)
 .obtain⟨q,j,rfl⟩:=Ta.mp hp;intro e;have F:-1*q.2.1=0:=congrArg V4 e;have J:q.2.2=1:=congrArg Prod.snd e;exact g.nz q j (Wu (by show q.2.1=0;lia) J)
 .obtain⟨q,j,rfl⟩:=Ta.mp hp;exact g.xc q j
theorem tU(n:Str):∀M:List Pr,fR (M.map (sO (-1))) n =-fR M n
 |[]=>by show (0:Rat) =-0;grind
 |p::M=>by
  show (if p.1=n then nv (sg (-1) p.2) else 0)+fR (M.map (sO (-1))) n =-((if p.1=n then nv p.2 else 0)+fR M n);rw[tU n M,Ap];by_cases e:p.1=n
  .rw[if_pos e,if_pos e];grind
  .rw[if_neg e,if_neg e];grind
def mv(ax:Str)(y:Num)(M:List Pr)(f:Fa):Fa:=if f.ax=ax then ⟨f.n,f.ax,bX f.x y,cN (f.L++M)⟩ else f
def Ft(k:Nat)(ss:List Str)(f:Fa):Prop:=∃j ps,j<=k/\Tt j ss ps f.x f.L
theorem Ft.up{ss:List Str}(h:Ft k ss f)(e:k<=l):Ft l ss f:=by obtain⟨j,ps,h1,h2⟩:=h;exact⟨j,ps,by lia,h2⟩
theorem OJ(ax:Str)(y:Num)(M:List Pr)(f:Fa):(mv ax y M f).n=f.n:=by unfold mv;split<;>rfl
theorem O8(ax:Str)(y:Num)(M:List Pr)(f:Fa):(mv ax y M f).ax=f.ax:=by unfold mv;split<;>rfl
section
variable{k:Nat}{ss:List Str}{f:Fa}{y:Num}{M:List Pr}{ax:Str}
theorem Ft.mv(h:Ft k ss f)(g:Sm 64 12 ss y M)(hk:k<=16)(m:ss.length<=12):Ft (k+1) ss (mv ax y M f):=by
 obtain⟨j,ps,h1,t⟩:=h;unfold W.mv;split
 .exact⟨j+1,_,by lia,(fq t g (by lia) m).2⟩
 .exact⟨j,ps,by lia,t⟩
theorem E9(h:Ft k ss f)(g:Sm 64 12 ss y M)(hk:k<=15)(m:ss.length<=12):mv ax (sg (-1) y) (M.map (sO (-1))) (mv ax y M f)=f:=by
 obtain⟨j,ps,h1,t⟩:=h;by_cases e:f.ax=ax
 .have C:=(fq t g (by lia) m).2;have w:=(fq C g.neg (by lia) m).2;have F:mv ax y M f=⟨f.n,f.ax,bX f.x y,cN (f.L++M)⟩:=if_pos e;rw[F];have J:mv ax (sg (-1) y) (M.map (sO (-1))) ⟨f.n,f.ax,bX f.x y,cN (f.L++M)⟩=⟨f.n,f.ax,bX (bX f.x y) (sg (-1) y),cN (cN (f.L++M)++M.map (sO (-1)))⟩:=if_pos e;rw[J];have i:bX (bX f.x y) (sg (-1) y)=f.x:=lW w.nx.ok t.nx.ok (by rw[n4 C.nx.ok g.neg.x.ok,n4 t.nx.ok g.x.ok,Ap];grind);have o:∀p∈ps,Ok p.2:=λp hp=>(t.nb p hp).ok;have a:∀p∈ps++M++M.map (sO (-1)),Ok p.2:=λp hp=>(w.nb p hp).ok;have u:∀n,cc (ps++M++M.map (sO (-1))) n=cc ps n:=λn=>lW (hG a n) (hG o n) (by rw[gS a,gS o,dS,dS,tU];grind);have K:cN (cN (f.L++M)++M.map (sO (-1)))=f.L:=qJ w.cn.rise t.cn.rise λp=>by rw[w.cn.mem,t.cn.mem,u]
  rw[i,K]
 .have F:mv ax y M f=f:=if_neg e;rw[F];exact if_neg e
end
structure so(fs:List Fa):Prop where
 wd:∀f∈fs,N3 (Wd f.n) (f.n ≠ "frame") (gO f.ax)
 nd:(fs.map Fa.n).Nodup
 ln:fs.length<=20
theorem B9(ax:Str)(y:Num)(M:List Pr)(fs:List Fa):(fs.map (mv ax y M)).map Fa.n=fs.map Fa.n:=by rw[Tj];exact Uc λf _=>OJ ax y M f
theorem so.mv{fs:List Fa}(h:so fs)(ax:Str)(y:Num)(M:List Pr):so (fs.map (mv ax y M)):=by refine⟨λg N=>?_,by rw[B9];exact h.nd,by rw[Ss];exact h.ln⟩;obtain⟨f,hf,rfl⟩:=Ta.mp N;rw[OJ,O8];exact h.wd f hf
def oT(k:Nat)(ss:List Str)(fs:List Fa):Prop:=∀f∈fs,Ft k ss f
theorem oT.mv{k:Nat}{ss:List Str}{fs:List Fa}{y:Num}{M:List Pr}(h:oT k ss fs)(g:Sm 64 12 ss y M)(hk:k<=16)(m:ss.length<=12)(ax:Str):oT (k+1) ss (fs.map (mv ax y M)):=λf hf=>by obtain⟨q,j,rfl⟩:=Ta.mp hf;exact(h q j).mv g hk m
theorem Au{ss:List Str}{fs:List Fa}{M:List Pr}(h:oT k ss fs)(g:Sm 64 12 ss y M)(hk:k<=15)(m:ss.length<=12)(ax:Str):(fs.map (mv ax y M)).map (mv ax (sg (-1) y) (M.map (sO (-1))))=fs:=by
 rw[Tj]
 conv=>rhs;rw[<-Wh fs]
 exact Uc λf hf=>E9 (h f hf) g hk m
theorem Ft.xc{ss:List Str}(h:Ft k ss f):∀p∈f.L,p.1∈ss:=by obtain⟨j,ps,_,t⟩:=h;exact t.Ml
theorem Ft.len{ss:List Str}(h:Ft k ss f):f.L.length<=ss.length:=by obtain⟨j,ps,_,t⟩:=h;exact gz t.cn.rise t.Ml
theorem Ny{fs:List Fa}(nd:(fs.map Fa.n).Nodup)(e:fs[i]?=some f):f.n∉(fs.take i).map Fa.n:=by
 obtain⟨hi,e⟩:=Sy.mp e;have q:fs=fs.take i++f::fs.drop (i+1):=by rw[<-e,<-Ti hi,Ur]
 rw[q,SJ,SR] at nd;intro z;exact(SQ.mp nd).2.2 _ z _ (SN) rfl
structure PO(nm:Str)(zs:List Sz):Prop where
 wd:Wd nm
 st:iH 130 zs
 nd:(zs.flatMap cy).Nodup
 ws:∀z∈zs.flatMap cy,Wd z
 ln:(zs.flatMap cy).length<=12
theorem Ah{nm:Str}(P:PO nm zs)(Z:List Sl):tu "Part" dU [] [.fr (.str nm),.fr (.lst (zs.map eA))] Z=some (.ok (.nw (cC nm zs [])),Z):=by obtain⟨U,e⟩:=Mc P.wd P.st P.nd P.ws (by decide) (by decide);exact Jr (as:=[.str nm,.lst (zs.map eA)]) (das:=[]) e Z
abbrev P7(nm:Str)(zs:List Sz)(fs gs:List Fa)(x4 x5 x6:Sl):List Sl:=[.fr (.str nm),.fr (pf zs),.fr (.lst (fs.map aZ)),.lv (cC nm zs gs),x4,x5,x6]
theorem CA{nm:Str}{fs:List Fa}(P:PO nm zs)(F:so fs)(T:oT k (zs.flatMap cy) fs):eE pJ [.str nm,pf zs,.lst (fs.map aZ)] (cC nm zs fs):=by
 have fl:=F.ln;refine eE.of (Wp.df (Wp.st (U:=P7 nm zs fs [] .un .un .un) (aP (kG (rs:=[.fr (.str nm),.fr (.lst (zs.map eA))]) (ag rfl (ag (cZ (cz rfl (cz rfl (ah (ag (gW rfl rfl) rfl) (cj (tK P.st (by decide) (by decide)) _)))) rfl) rfl)) (Ah P _)) rfl rfl rfl rfl) ?_));refine Wp.sq (Wp.fr (as:=fs.map aZ) (λi Z=>X3 λ(x4 x5 x6:Sl)=>N4 (Z=P7 nm zs fs (fs.take i) x4 x5 x6) (np x4=true) (np x5=true) (np x6=true)) (cD rfl rfl) ⟨.un,.un,.un,by rw[UN],rfl,rfl,rfl⟩ ?_ ?_)
 .rintro i a Z ha ⟨x4,x5,x6,rfl,h4,h5,m⟩;rw[SV] at ha;cases X:fs[i]? with
  |none=>rw[X] at ha;cases ha
  |some f=>rw[X] at ha;cases ha;have hf:=SY X;obtain⟨H,c,Q⟩:=F.wd f hf;have v:=rj (nm:=nm) (fs:=fs.take i) (n:=f.n) (ax:=f.ax) H c (Ny F.nd X) (by rw[Tw];lia) P.st Q (T f hf).xc (SW (T f hf).len (SW P.ln (by decide))) (.here (x:=f.x));have j:fs.take i++[⟨f.n,f.ax,f.x,f.L⟩]=fs.take (i+1):=(take_snoc X).symm;rw[j] at v;refine⟨P7 nm zs fs (fs.take i) (.fr (.str f.n)) (.fr (.str f.ax)) (.fr (au f.x f.L)),by cases x4<;>first|(cases h4;done)|(cases x5<;>first|(cases h5;done)|(cases x6<;>first|(cases m;done)|rfl)),Wp.en (U:=P7 nm zs fs (fs.take (i+1)) (.fr (.str f.n)) (.fr (.str f.ax)) (.fr (au f.x f.L))) (dM (r:=.fr .non) (cq (ah (rs:=[.rf 3,.fr (.str f.n),.fr (.str f.ax),.fr .non,.fr (au f.x f.L)]) rfl ((cg (as:=[.str f.n,.str f.ax,.non,au f.x f.L]) (i:=3) v rfl rfl).trans rfl)))) ⟨.inl rfl,_,_,_,rfl,rfl,rfl,rfl⟩⟩
 .rintro Z ⟨x4,x5,x6,rfl,-,-,-⟩;rw[Ss,S9];exact⟨rfl,Wp.en (aO rfl rfl) rfl⟩
abbrev PD:Mi Rr:=bC (fQ (aa 4) (aa 5) (Eu (ao (aD gG (aa 5) (aa 1))) (aV dI (bJ (ai 6) (ai 2))) (aa 6)))
abbrev tG(s0:Sl)(ax:Str)(y:Num)(M:List Pr)(x3:Sl):List Sl:=[s0,.fr (.str ax),.fr (au y M),x3]
theorem JN{ss:List Str}{M:List Pr}(h:Ft k ss f)(g:Sm 64 12 ss y M)(hk:k<=16)(m:ss.length<=12):PD (tG s0 ax y M .un++[.fr (.str f.n),.fr (.str f.ax),.fr (au f.x f.L)])=some (.ok (.fr (aZ (mv ax y M f))),tG s0 ax y M .un++[.fr (.str f.n),.fr (.str f.ax),.fr (au f.x f.L)]):=by
 obtain⟨j,ps,h1,t⟩:=h;have q:=jF f.ax ax (tG s0 ax y M .un++[.fr (.str f.n),.fr (.str f.ax),.fr (au f.x f.L)]);by_cases e:f.ax=ax
 .have F:mv ax y M f=⟨f.n,f.ax,bX f.x y,cN (f.L++M)⟩:=if_pos e;rw[decide_eq_true e] at q;rw[F];exact bD (ag rfl (ag rfl (ag (zd (aC (aj rfl rfl q)) (ah rfl (aL (fq t g (by lia) m).1 _))) rfl))) rfl
 .have F:mv ax y M f=f:=if_neg e;rw[decide_eq_false e] at q;rw[F];exact bD (ag rfl (ag rfl (ag (rF (aC (aj rfl rfl q)) rfl) rfl))) rfl
theorem Fm{ss:List Str}{fs:List Fa}{M:List Pr}(T:oT k ss fs)(g:Sm 64 12 ss y M)(hk:k<=16)(m:ss.length<=12)(hl:fs.length<=20):hY 3 (G3 4 5 6) bj PD (fs.map aZ) (tG s0 ax y M .un)=some (.ok (.nw (.lst ((fs.map (mv ax y M)).map aZ))),tG s0 ax y M .un):=by
 obtain⟨ys,O,e,x4,x5,x6,rfl,d,rfl⟩:=gC (G:=G3 4 5 6) (t:=bj) (e:=PD) (as:=fs.map aZ)
  (λj acc Z=>X3 λ(x4 x5 x6:Sl)=>N3 (Z=tG s0 ax y M .un++[x4,x5,x6]) (np x4=true/\np x5=true/\np x6=true) (acc=((fs.take j).map (mv ax y M)).map aZ)) (Z:=tG s0 ax y M .un++[.un,.un,.un]) ⟨.un,.un,.un,rfl,⟨rfl,rfl,rfl⟩,rfl⟩ (by
   rintro i a acc Z ha ⟨x4,x5,x6,rfl,⟨h4,h5,A⟩,rfl⟩;rw[SV] at ha;cases X:fs[i]? with
   |none=>rw[X] at ha;cases ha
   | some f=>rw[X] at ha;cases ha;exact⟨tG s0 ax y M .un++[.fr (.str f.n),.fr (.str f.ax),.fr (au f.x f.L)],by cases x4<;>first|(cases h4;done)|(cases x5<;>first|(cases h5;done)|(cases x6<;>first|(cases A;done)|rfl)),.inl ⟨_,.fr (aZ (mv ax y M f)),_,aZ (mv ax y M f),_,rfl,JN (T f (SY X)) g hk m,rfl,_,_,_,rfl,⟨rfl,rfl,rfl⟩,by rw[take_snoc X,SJ,SJ];rfl⟩⟩)
 rw[Ss,S9] at e;unfold hY;rw[if_pos (by rw[Ss];lia)];show (match cT _ _ _ (fs.map aZ) [] (tG s0 ax y M .un++[.un,.un,.un]) with|some (ys,O)=>some ((Uj (Rr.nw (.lst ys)):Except Str Rr),O.take 4)|none=>none)=_;rw[e];rfl
abbrev Qy:Mi Rr:=bu 3 (bF (bg (cp ["Part"] 0 "put_faces") (d0 (aT ["Part"] "put_faces") (aa 0)))) (G3 4 5 6) bj PD
theorem EI{ss:List Str}{nm:Str}{fs:List Fa}{M:List Pr}(u:s0=.pv (cC nm zs fs)\/s0=.fr (cC nm zs fs).a)(T:oT k ss fs)(g:Sm 64 12 ss y M)(hk:k<=16)(m:ss.length<=12)(hl:fs.length<=20):kS 0 Qy (tG s0 ax y M .un)=some (.ok (.nw (.lst ((fs.map (mv ax y M)).map aZ))),tG s0 ax y M .un):=by
 have e:Qy (tG (.fr (cC nm zs fs).a) ax y M .un)=some (.ok (.nw (.lst ((fs.map (mv ax y M)).map aZ))),tG (.fr (cC nm zs fs).a) ax y M .un):=bY (cD (cz rfl (bq rfl (dg rfl (rK nm zs (fs.map aZ))))) rfl) (Fm T g hk m hl);rcases u with rfl|rfl
 .show (match Qy (tG (.fr (cC nm zs fs).a) ax y M .un) with
   |some (.ok r,U)=>if kb U[0]?&&(U.set 0 .un).all p6&&Pz r then some ((Uj r:Except Str Rr),U.set 0 (.pv (cC nm zs fs))) else none
   | _=>none)=_
  rw[e];show (if ((true&&(true&&(true&&(pl (au y M)&&(true&&true)))))&&oW ((fs.map (mv ax y M)).map aZ))=true then _ else _)=_;rw[qU,uC];rfl
 .exact e
theorem Ja{nm:Str}{fs:List A}(u:s0=.pv (hU nm zs fs)\/s0=.fr (hU nm zs fs).a)(Z:List Sl):bg (cp ["Size", "Part"] 0 "name") (d0 (aT ["Size", "Part"] "name") (aa 0)) (s0::Z)=some (.ok (.fr (.str nm)),s0::Z):=by
 have c:(["Size", "Part"]:List Str).contains "Part" = true:=by decide +kernel
 rcases u with rfl|rfl
 .refine cq ?_;show (if (["Size", "Part"]:List Str).contains "Part" then (match (yZ nm zs).lookup ("name" : Str) with|some a=>some ((Uj (Rr.fr a):Except Str Rr),_)|none=>none) else none)=_;rw[if_pos c];rfl
 .refine cz rfl (bq rfl (dg rfl ?_));show (if (["Size", "Part"]:List Str).contains "Part" then (match (yZ nm zs++[(("put_faces" : Str),A.lst fs)]).lookup ("name" : Str) with|some a=>some (Rr.fr a)|none=>none) else none)=_;rw[if_pos c];rfl
theorem wN{nm:Str}{fs:List Fa}{M:List Pr}(u:s0=.pv (cC nm zs fs)\/s0=.fr (cC nm zs fs).a)(P:PO nm zs)(F:so fs)(T:oT k (zs.flatMap cy) fs)(g:Sm 64 12 (zs.flatMap cy) y M)(ha:gO ax)(hk:k<=16):
  ∃Z,bE [s0,.fr (.str ax),.fr (au y M)]=some (.rt (.lv (cC nm zs (fs.map (mv ax y M)))),s0::Z):=by
 suffices Wp bE [s0,.fr (.str ax),.fr (au y M)] λq Z=>q=.rt (.lv (cC nm zs (fs.map (mv ax y M))))/\∃U,Z=s0::U by obtain⟨_,_,e,rfl,U,rfl⟩:=this;exact⟨_,e⟩
 obtain⟨Y,h⟩:=oE (x:=y) u P.st ha g.xc (SW g.len (by decide))
 refine Wp.df (Wp.st (U:=tG s0 ax y M .un) ?_ (Wp.st (U:=tG s0 ax y M (.lv (.lst ((fs.map (mv ax y M)).map aZ)))) (aP (EI u T g hk P.ln F.ln) rfl rfl rfl rfl) (Wp.en (aO (U:=tG s0 ax y M (.fr (.lst ((fs.map (mv ax y M)).map aZ)))) (ah (rs:=[.fr (.str nm),.fr (pf zs),.fr (.lst ((fs.map (mv ax y M)).map aZ))]) (ag (Ja u _) (ag (wQ u _) rfl)) (cj (CA P (F.mv ax y M) (T.mv g hk P.ln ax)) _)) rfl) ⟨rfl,_,rfl⟩)))
 rcases u with rfl|rfl
 .exact dM (r:=.fr .non) (cq (ah (rs:=[.rf 0,.fr (.str ax),.fr (au y M)]) rfl (BL (as:=[.str ax,au y M]) ⟨_,h⟩ rfl _)))
 .exact dM (r:=.fr .non) (cz rfl (cz rfl (ah (rs:=[.fr (cC nm zs fs).a,.fr (.str ax),.fr (au y M)]) rfl (aL (as:=[(cC nm zs fs).a,.str ax,au y M]) ⟨_,h⟩ _))))
theorem Dt.up{m n:Nat}{a:A}(h:Dt m a)(k:m<=n):Dt n a:=by obtain⟨d,h1,h2⟩:=h;exact⟨d,h1,by lia⟩
theorem J2(x:Num)(L:List Pr):Dt 5 (au x L):=Dt.tup (.cons (Dt.nm x) (.cons (Dt.tup (xf.of λa ha=>by obtain⟨p,_,rfl⟩:=Ta.mp ha;exact Dt.tup (.cons (.str _) (.cons (Dt.nm _) .nil)))) .nil))
theorem O2(f:Fa):Dt 38 (aZ f):=Dt.tup (n:=37) (.cons (Dt.up (m:=5) (.str _) (by decide)) (.cons (Dt.up (m:=5) (.str _) (by decide)) (.cons (Dt.up (J2 f.x f.L) (by decide)) .nil)))
theorem gQ(fs:List Fa):si (.lst (fs.map aZ)) (.lst (fs.map aZ))=some true:=nD (Dt.lst (n:=39) (xf.of λa ha=>by obtain⟨f,_,rfl⟩:=Ta.mp ha;exact Dt.up (O2 f) (by decide)))
theorem M6(f:Sf):Dt 20 (jm f):=Dt.tup (n:=19) (.cons (Dt.up (m:=5) (.str _) (by decide)) (.cons (Dt.up (m:=5) (Dt.nm _) (by decide)) (.cons (Dt.up (m:=5) (.str _) (by decide)) .nil)))
theorem Ot(z:Sz):Dt 38 (lg z):=by
 have k:Dt 21 (.tup (z.f.map jm)):=Dt.tup (n:=20) (xf.of λa ha=>by obtain⟨f,_,rfl⟩:=Ta.mp ha;exact M6 f)
 exact Dt.tup (n:=37) (.cons (Dt.up (m:=5) (.str _) (by decide)) (.cons (Dt.up (m:=5) (Dt.nm _) (by decide)) (.cons (Dt.up (m:=5) (Dt.nm _) (by decide)) (.cons (Dt.up k (by decide)) .nil))))
theorem LF(zs:List Sz):si (.lst (zs.map lg)) (.lst (zs.map lg))=some true:=nD (Dt.lst (n:=39) (xf.of λa ha=>by obtain⟨z,_,rfl⟩:=Ta.mp ha;exact Dt.up (Ot z) (by decide)))
theorem DK{nm:Str}{fs:List Fa}(hl:fs.length<=1000):eG (du 0 ba) (cC nm zs fs) [] (.lv (.lst (fs.map aZ))) (cC nm zs fs):=by
 refine⟨[],?_⟩;show (match ba [.fr (cC nm zs fs).a] with
  |some (.rt s,T)=>if mW (ay 1 T)[0]?&&(s::ay 1 T).all p6 then some (Fl.rt s,(ay 1 T).set 0 (.pv (cC nm zs fs))) else none
  |some (.ex x,T)=>if mW (ay 1 T)[0]?&&(ay 1 T).all p6 then some (.ex x,(ay 1 T).set 0 (.pv (cC nm zs fs))) else none
  | _=>none)=_
 rw[sQ nm zs fs hl];show (if (true&&(oW (fs.map aZ)&&true))=true then _ else _)=_;rw[uC];rfl
theorem FR(nm:Str)(zs:List Sz)(fs:List Fa):eG cR (cC nm zs fs) [] (.fr (pf zs)) (cC nm zs fs):=⟨_,Aq nm zs (fs.map aZ)⟩
theorem Pd.step{ss:List Str}{ps:List Fa}(h:Pd ss rs ps):∀{i:Nat}{r:Rw},rs[i]?=some r->∃f,N6 (ps.take (i+1)=ps.take i++[f]) (Pd ss (rs.take i) (ps.take i)) (Mm ss (rs.take i) r) (f.n=r.n) (f.ax=r.ax) (Jz (ps.take i) r.ax r.x r.L (sY r.st) f.x f.L):=by
 induction h with
 |nil=>exact λe=>by simp at e
 |snoc h k en ea ht hp l=>
  rename_i rs fs X D;have hl:=h.len;intro i r e;have hi:=(Sy.mp e).1;rw[SI,Up] at hi;by_cases z:i<rs.length
  .rw[Th z] at e;obtain⟨f,h1,h2,h3,h4,h5,m⟩:=l e;refine⟨f,?_,?_,?_,h4,h5,?_⟩
   .rw[S5 (by lia),S5 (by lia)];exact h1
   .rw[S5 (by lia),S5 (by lia)];exact h2
   .rw[S5 (by lia)];exact h3
   .rw[S5 (by lia)];exact m
  .have:i=rs.length:=by lia
   subst this;rw[S6 (by lia)] at e;simp at e;subst e;have t:(fs++[D]).take rs.length=fs:=by rw[S5 (by lia),<-hl,S9]
   have w:(rs++[X]).take rs.length=rs:=by rw[S5 (by lia),S9]
   have I:(fs++[D]).take (rs.length+1)=fs++[D]:=WY (by simp;lia);refine⟨D,?_,?_,?_,en,ea,?_⟩
   .rw[t,I]
   .rw[t,w];exact h
   .rw[w];exact k
   .rw[t];exact hp
abbrev Ef(fs gs:List Fa)(ax:Str)(y:Num)(M:List Pr)(x5 x6 x7:Sl):List Sl:=[.fr (.lst (fs.map aZ)),.fr (.str ax),.fr (au y M),.fr (.int 1),.lv (.lst (gs.map aZ)),x5,x6,x7]
theorem sS{ss:List Str}{fs:List Fa}{M:List Pr}(T:oT k ss fs)(g:Sm 64 12 ss y M)(hk:k<=16)(m:ss.length<=12)(hl:fs.length<=20):eE g8 [.lst (fs.map aZ),.str ax,au y M,.int 1] (.lst ((fs.map (mv ax y M)).map aZ)):=by
 refine eE.of (Wp.df (Wp.st (U:=Ef fs [] ax y M .un .un .un) rfl ?_));refine Wp.sq (Wp.fr (as:=fs.map aZ) (λi Z=>X3 λ(x5 x6 x7:Sl)=>N4 (Z=Ef fs ((fs.take i).map (mv ax y M)) ax y M x5 x6 x7) (np x5=true) (np x6=true) (np x7=true)) (cD rfl rfl) ⟨.un,.un,.un,by rw[UN];rfl,rfl,rfl,rfl⟩ ?_ ?_)
 .rintro i a Z ha ⟨x5,x6,x7,rfl,h5,A,b⟩;rw[SV] at ha;cases X:fs[i]? with
  |none=>rw[X] at ha;cases ha
  |some f=>
   rw[X] at ha;cases ha;obtain⟨j,ps,h1,t⟩:=T f (SY X);have J:((fs.take (i+1)).map (mv ax y M)).map aZ=((fs.take i).map (mv ax y M)).map aZ++[aZ (mv ax y M f)]:=by rw[take_snoc X,SJ,SJ];rfl
   have r:(((fs.take i).map (mv ax y M)).map aZ).length<=16000000:=by rw[Ss,Ss,Tw];lia
   refine⟨Ef fs ((fs.take i).map (mv ax y M)) ax y M (.fr (.str f.n)) (.fr (.str f.ax)) (.fr (au f.x f.L)),by cases x5<;>first|(cases h5;done)|(cases x6<;>first|(cases A;done)|(cases x7<;>first|(cases b;done)|rfl)),?_⟩;have q:=jF f.ax ax (Ef fs ((fs.take i).map (mv ax y M)) ax y M (.fr (.str f.n)) (.fr (.str f.ax)) (.fr (au f.x f.L)));by_cases e:f.ax=ax
   .have F:mv ax y M f=⟨f.n,f.ax,bX f.x y,cN (f.L++M)⟩:=if_pos e;rw[decide_eq_true e] at q;rw[F] at J;exact Wp.st (U:=Ef fs ((fs.take i).map (mv ax y M)) ax y M (.fr (.str f.n)) (.fr (.str f.ax)) (.fr (au (bX f.x y) (cN (f.L++M))))) (ou (aC (aj rfl rfl q)) (aP (ah rfl (aL (qS t g (by lia) m) _)) rfl rfl rfl rfl)) (Wp.en (U:=Ef fs ((fs.take (i+1)).map (mv ax y M)) ax y M (.fr (.str f.n)) (.fr (.str f.ax)) (.fr (au (bX f.x y) (cN (f.L++M))))) (gi rfl (bD rfl rfl) rfl rfl r (by unfold Ef;rw[J];rfl)) ⟨.inl rfl,_,_,_,rfl,rfl,rfl,rfl⟩)
   .have F:mv ax y M f=f:=if_neg e;rw[decide_eq_false e] at q;rw[F] at J;exact Wp.st (cY (aC (aj rfl rfl q)) rfl) (Wp.en (U:=Ef fs ((fs.take (i+1)).map (mv ax y M)) ax y M (.fr (.str f.n)) (.fr (.str f.ax)) (.fr (au f.x f.L))) (gi rfl (bD rfl rfl) rfl rfl r (by unfold Ef;rw[J];rfl)) ⟨.inl rfl,_,_,_,rfl,rfl,rfl,rfl⟩)
 .rintro Z ⟨x5,x6,x7,rfl,-,-,-⟩;rw[Ss,S9];exact⟨rfl,Wp.en (aO rfl rfl) rfl⟩
theorem tQ{nm:Str}{fs:List Fa}(hl:fs.length<=1000):eE ba [(cC nm zs fs).a] (.lst (fs.map aZ)):=⟨_,sQ nm zs fs hl⟩
theorem jv{a b:A}{x y:Rr}(h:si a b=some true)(h1:res Z x=some a)(h2:res Z y=some b):gq jc x y Z=some (.ok (.fr (.bl false)),Z):=fu (o:=none) h1 h2 (by unfold jc;rw[h];rfl)
abbrev QM(p:A)(fs:List Fa)(ax:Str)(y:Num)(M:List Pr)(x4:Sl):List Sl:=[.fr p,.fr (.lst (fs.map aZ)),.fr (.str ax),.fr (au y M),x4]
theorem Bl{nm:Str}{fs:List Fa}{M:List Pr}(P:PO nm zs)(F:so fs)(T:oT k (zs.flatMap cy) fs)(g:Sm 64 12 (zs.flatMap cy) y M)(ha:gO ax)(hk:k<=16):Val dB [(cC nm zs fs).a,.lst (fs.map aZ),.str ax,au y M] (.bl true):=by
 have fl:=F.ln;refine Val.of (Wp.df (Wp.sq (Wp.PK (fS 0 2) (λZ=>X2 λ(ax:Str)(x4:Sl)=>N3 (Z=QM (cC nm zs fs).a fs ax y M x4) (gO ax) (np x4=true)) (jS rfl (yV (t:=2) (by decide) _)) ⟨ax,.un,rfl,ha,rfl⟩ ?_ ?_)))
 .rintro a-Z ⟨ax,x4,rfl,ha,h4⟩;refine⟨QM (cC nm zs fs).a fs ax y M (.fr a),by cases x4<;>first|(cases h4;done)|rfl,?_⟩;obtain⟨i,em⟩:=wN (.inr rfl) P F T g ha hk;have r:eE bE [(cC nm zs fs).a,.str ax,au y M] (cC nm zs (fs.map (mv ax y M))):=⟨_,em⟩
  obtain⟨x,h,D⟩:∃x,gO x/\∀Z,gq (bS jb bZ) (.nw (.dic (iY [] [(.inr "x",.str "y"),(.inr "y",.str "x")]))) (.fr (.str ax)) Z=some (.ok (.fr (.str x)),Z):=by
   rcases ha with rfl|rfl
   .exact⟨"y",.inr rfl,λZ=>rfl⟩
   .exact⟨"x",.inl rfl,λZ=>rfl⟩
  refine Wp.st (U:=QM (cC nm zs fs).a fs ax y M (.fr a)) (cY (dr (aC (aj (ah (rs:=[.fr (cC nm zs (fs.map (mv ax y M))).a]) (ag (gW (cZ (cz rfl (cz rfl (ah (ag (gW rfl rfl) rfl) (cj r _)))) rfl) rfl) rfl) (cj (tQ (by rw[Ss];lia)) _)) (ah rfl (cj (sS T g hk P.ln F.ln) _)) (jv (gQ (fs.map (mv ax y M))) rfl rfl))) (aC (aj (cz rfl (cz rfl (ah (rs:=[.fr (cC nm zs fs).a]) (ag (gW rfl rfl) rfl) (cj (tQ (by lia)) _)))) rfl (jv (gQ fs) rfl rfl)))) rfl) ?_;exact Wp.en (aP (aj rfl rfl (D _)) rfl rfl rfl rfl) ⟨.inl rfl,x,_,rfl,h,rfl⟩
 .rintro Z ⟨ax,x4,rfl,-,-⟩;exact⟨rfl,Wp.en (aO rfl rfl) rfl⟩
theorem D2(h:∀z∈zs,rn b z)(S:60<=b)(b1:b<=4000)(hl:zs.length<=60){x v E Q Y o k r A:Sl}:hY 4 (G4 9 10 11 12) bj (hW "Size" cH [] (lH (ai 9) (ai 10) (ai 11) (ai 12))) (zs.map lg) [x,v,E,Q,Y,o,k,r,A]=some (.ok (.nw (.lst (zs.map eA))),[x,v,E,Q,Y,o,k,r,A]):=by
 obtain⟨ys,O,e,q,U,H,c,rfl,g,rfl⟩:=gC (G:=G4 9 10 11 12) (t:=bj) (e:=hW "Size" cH [] (lH (ai 9) (ai 10) (ai 11) (ai 12))) (as:=zs.map lg)
  (λj acc Z=>∃q U H c:Sl,N3 (Z=[x,v,E,Q,Y,o,k,r,A,q,U,H,c]) (np q=true/\np U=true/\np H=true/\np c=true) (acc=(zs.take j).map eA)) (Z:=[x,v,E,Q,Y,o,k,r,A,.un,.un,.un,.un]) ⟨.un,.un,.un,.un,rfl,⟨rfl,rfl,rfl,rfl⟩,rfl⟩ (by
   rintro i a acc Z ha ⟨q,U,H,c,rfl,⟨d,R,B,I⟩,rfl⟩;rw[SV] at ha;cases X:zs[i]? with
   |none=>rw[X] at ha;cases ha
   | some z=>rw[X] at ha;cases ha;refine⟨[x,v,E,Q,Y,o,k,r,A,.fr (.str z.n),.fr (nm z.l),.fr (nm z.m),.fr (.tup (z.f.map jm))],?_,.inl ⟨_,.nw (.obj "Size" (yf z)),_,eA z,_,rfl,kG (rs:=[.fr (.str z.n),.fr (nm z.l),.fr (nm z.m),.fr (.tup (z.f.map jm))]) rfl (BH (h z (SY X)) S b1 _),rfl,_,_,_,_,rfl,⟨rfl,rfl,rfl,rfl⟩,by rw[take_snoc X,SJ];rfl⟩⟩;cases q<;>first|(cases d;done)|(cases U<;>first|(cases R;done)|(cases H<;>first|(cases B;done)|(cases c<;>first|(cases I;done)|rfl))))
 rw[Ss,S9] at e;unfold hY;rw[if_pos (by rw[Ss];lia)];show (match cT _ _ _ (zs.map lg) [] [x,v,E,Q,Y,o,k,r,A,.un,.un,.un,.un] with|some (ys,O)=>some ((Uj (Rr.nw (.lst ys)):Except Str Rr),O.take 9)|none=>none)=_;rw[e];rfl
abbrev QL(w:Str)(zs:List Sz)(rs:List Rw):A:=.tup [.str w,.lst (zs.map lg),.lst (rs.map jU)]
abbrev Nl(w:Str)(zs:List Sz)(rs:List Rw)(x4 x5 x6 x7 x8:Sl):List Sl:=[.fr (QL w zs rs),.fr (.str w),.fr (.lst (zs.map lg)),.fr (.lst (rs.map jU)),x4,x5,x6,x7,x8]
theorem JX{ps:List Fa}(P:PO w zs)(hp:Pd (zs.flatMap cy) rs ps)(o:rs.length<=9):eE lZ [QL w zs rs] (cC w zs ps):=by
 have hl:=hp.len;refine eE.of (Wp.df (Wp.st (U:=Nl w zs rs .un .un .un .un .un) rfl (Wp.st (U:=Nl w zs rs (.lv (cC w zs [])) .un .un .un .un) (aP (kG (rs:=[.fr (.str w),.fr (.lst (zs.map eA))]) (ag rfl (ag (cZ (bY (cD rfl rfl) (D2 P.st.sz (by decide) (by decide) P.st.len)) rfl) rfl)) (Ah P _)) rfl rfl rfl rfl) ?_)));refine Wp.sq (Wp.fr (as:=rs.map jU) (λi Z=>X5 λ(x5 x6 x7 x8:Sl)(gs:List Fa)=>N4 (Z=Nl w zs rs (.lv (cC w zs gs)) x5 x6 x7 x8) (gs=ps.take i) (np x5=true/\np x6=true) (np x7=true/\np x8=true)) (cD rfl rfl) ⟨.un,.un,.un,.un,[],rfl,by rw[UN],⟨rfl,rfl⟩,rfl,rfl⟩ ?_ ?_)
 .rintro i a Z ha ⟨x5,x6,x7,x8,gs,rfl,rfl,⟨h5,m⟩,b,h8⟩;rw[SV] at ha;cases X:rs[i]? with
  |none=>rw[X] at ha;cases ha
  |some r=>
   rw[X] at ha;cases ha;obtain⟨f,h1,h2,k,en,ea,hc⟩:=hp.step X;have hi:=(Sy.mp X).1;have h:f=⟨r.n,r.ax,f.x,f.L⟩:=by rw[<-en,<-ea]
   have v:=rj (nm:=w) (n:=r.n) (ax:=r.ax) k.wd k.nf (by rw[h2.ns];exact k.nw) (by rw[Tw];lia) P.st k.ax k.sm.xc (SW k.sm.len (by decide)) hc;rw[<-h,<-h1] at v;exact⟨Nl w zs rs (.lv (cC w zs (ps.take i))) (.fr (.str r.n)) (.fr (.str r.ax)) (.fr (sY r.st)) (.fr (au r.x r.L)),by cases x5<;>first|(cases h5;done)|(cases x6<;>first|(cases m;done)|(cases x7<;>first|(cases b;done)|(cases x8<;>first|(cases h8;done)|rfl))),Wp.en (U:=Nl w zs rs (.lv (cC w zs (ps.take (i+1)))) (.fr (.str r.n)) (.fr (.str r.ax)) (.fr (sY r.st)) (.fr (au r.x r.L))) (dM (r:=.fr .non) (cq (ah (rs:=[.rf 4,.fr (.str r.n),.fr (.str r.ax),.fr (sY r.st),.fr (au r.x r.L)]) rfl ((cg (as:=[.str r.n,.str r.ax,sY r.st,au r.x r.L]) (i:=4) v rfl rfl).trans rfl)))) ⟨.inl rfl,_,_,_,_,_,rfl,rfl,⟨rfl,rfl⟩,rfl,rfl⟩⟩
 .rintro Z ⟨x5,x6,x7,x8,gs,rfl,rfl,-,-⟩;rw[Ss,<-hl,S9];exact⟨rfl,Wp.en (aO rfl rfl) rfl⟩
theorem Pd.R5{ss:List Str}{fs:List Fa}(h:Pd ss rs fs):∀f∈fs,N3 (Wd f.n) (f.n ≠ "frame") (gO f.ax):=by
 induction h with
 |nil=>exact λf hf=>by cases hf
 |snoc h k en ea ht hp l=>
  intro q j;rcases Su.mp j with z|z
  .exact l q z
  .rw[Sx.mp z,en,ea];exact⟨k.wd,k.nf,k.ax⟩
structure Tc where
 sc:A
 x1:Sl
 x6:Sl
 x11:Sl
 w:Str
 zs:List Sz
 ns:List Str
 fr:Str
abbrev Tc.ss(c:Tc):List Str:=c.zs.flatMap cy
abbrev tS(c:Tc)(o:LO)(x7 x8 x12 x13 x14 x15 x16 x17 x18 x19 x20 x21:Sl):List Sl:=[.fr c.sc,c.x1,.lv o,.fr (.str c.w),.fr (.lst (c.zs.map lg)),.fr (.lst ((c.zs.flatMap cy).map A.str)),c.x6,x7,x8,.fr (.lst (c.ns.map A.str)),.fr (.str c.fr),c.x11,x12,x13,x14,x15,x16,x17,x18,x19,x20,x21]
abbrev c0(c:Tc)(fs:List Fa):Sl:=.lv (cC c.w c.zs fs)
abbrev fT(fs:List Fa):Sl:=.fr (.lst (fs.map aZ))
theorem m6{nm:Str}{fs:List Fa}(h0:aV ba (cF (aY "Part" "faces" i)) Z=none)(y:aY "Part" "faces" i Z=some (.ok (.rf i),Z))(h:aF Z i=some (cC nm zs fs))(u:setAt Z i (cC nm zs fs)=Z)(hl:fs.length<=1000):Hc i Z=some (.ok (.nw (.lst (fs.map aZ))),Z):=
 cz h0 (cq (ah (ag y rfl) ((cg (as:=[]) (i:=i) (DK hl) rfl h).trans (by rw[u]))))
theorem FC{nm:Str}{fs:List Fa}{M:List Pr}(P:PO nm zs)(F:so fs)(T:oT k (zs.flatMap cy) fs)(g:Sm 64 12 (zs.flatMap cy) y M)(ha:gO ax)(hk:k<=16):eG bE (cC nm zs fs) [.str ax,au y M] (.lv (cC nm zs (fs.map (mv ax y M)))) (cC nm zs fs):=by obtain⟨Z,e⟩:=wN (.inl rfl) P F T g ha hk;exact⟨_,e⟩
theorem Bv{nm:Str}{fs:List Fa}{M:List Pr}{n:Mi Rr}(P:PO nm zs)(F:so fs)(T:oT k (zs.flatMap cy) fs)(g:Sm 64 12 (zs.flatMap cy) y M)(ha:gO ax)(hk:k<=16)(A:fQ (aY "Part" "moved" i) m n Z=some (.ok [.rf i,.fr (.str ax),.fr (au y M)],U))(h:aF U i=some (cC nm zs fs))(u:setAt U i (cC nm zs fs)=U):PX i m n Z=some (.ok (.nw (cC nm zs (fs.map (mv ax y M)))),U):=
 cq (ah A ((cg (as:=[.str ax,au y M]) (i:=i) (FC P F T g ha hk) rfl h).trans (by rw[u])))
theorem CN{as:List A}{m:Mi (List Rr)}(v:eG aM o as (.fr .non) o')(y:bx (aY "Part" "put_face" i) m Z=some (.ok (.rf i::as.map Rr.fr),U))(h:aF U i=some o)(u:setAt U i o'=Z'):bA (Py i m) Z=some (.nx,Z'):=
 dM (cq (ah y ((cg v rfl h).trans (by rw[u]))))
theorem zK{ss:List Str}{M:List Pr}(g:Sm 64 12 ss y M)(m:ss.length<=12):Val ck [au (0,1) [],au y M,.int (-1)] (au (sg (-1) y) (M.map (sO (-1)))):=by
 have t:Tt 0 ss [] (0,1) []:=⟨fE .nil (λp hp=>by cases hp) (λp hp=>by cases hp),(λp hp=>by cases hp),λn=>SK _,⟨gM,(show (0:Int).natAbs<2^1 by decide),(show (1:Int).natAbs<2^1 by decide)⟩,λp hp=>by cases hp⟩
 have v:=tT (s:=-1) (.inr rfl) rfl rfl t g g.neg (by decide) m;have F:bX (0,1) (sg (-1) y)=sg (-1) y:=lW (vC gM g.neg.x.ok) g.neg.x.ok (by rw[n4 gM g.neg.x.ok,ji];grind);have j:cN ([]++M.map (sO (-1)))=M.map (sO (-1)):=(Aa (fE g.neg.rise g.neg.Oe g.neg.nz)).symm;rw[F,j] at v;exact v
theorem Ir{nm:Str}{fs:List Fa}(m:Mi Rr)(h:aF Z i=some (cC nm zs fs)):bg (cp ["Size", "Part"] i "name") m Z=some (.ok (.fr (.str nm)),Z):=by refine cq ?_;unfold cp;rw[h];show (if (["Size", "Part"]:List Str).contains "Part" then (match (yZ nm zs).lookup ("name" : Str) with|some a=>some ((Uj (Rr.fr a):Except Str Rr),_)|none=>none) else none)=_;rw[if_pos (by decide +kernel)];rfl
theorem eq_str(s:Str):si (.str s) (.str s)=some true:=nD (Dt.up (m:=5) (.str s) (by decide))
section
variable{c:Tc}{o:LO}{fs:List Fa}{k:Nat}{n:Int}{x8 x12 x13 x14 x15 x16 x17 x18 x19 x20 x21:Sl}
theorem DJ(P:PO c.w c.zs)(F:so fs)(T:oT k c.ss fs)(hk:k<=12)(w:Wl n o)(hn:n<2^30)(h8:x8=.lv (.lst (fs.map aZ))\/x8=fT fs)(z:np x12=true)(K:np x13=true)(v:np x14=true)(S:np x15=true)(B:np x16=true)
  (q:∀(ax:Str)(y:Num)(M:List Pr)(o':LO),gO ax->Sm 64 12 c.ss y M->Wl (n+61) o'->Wp P1 (tS c o' (c0 c fs) (fT fs) (.fr (.str ax)) (.fr (au y M)) (c0 c (fs.map (mv ax y M))) (fT (fs.map (mv ax y M))) (c0 c fs) x17 x18 x19 x20 x21) Q):
  Wp P5 (tS c o (c0 c fs) x8 x12 x13 x14 x15 x16 x17 x18 x19 x20 x21) Q:=by
 have fl:=F.ln;obtain⟨r,Y,E,e,b1,m⟩:=nO w (by lia) (show (0:Int)<2 by decide) (by decide);obtain⟨ax,x,C⟩:∃ax,gO ax/\∀Z,gq (bS jb bZ) (.fr (.str "xy")) (.fr (.int r)) Z=some (.ok (.fr (.str ax)),Z):=by
  have:r=0\/r=1:=by lia
  rcases this with rfl|rfl
  .exact⟨"x",.inl rfl,λZ=>rfl⟩
  .exact⟨"y",.inr rfl,λZ=>rfl⟩
 obtain⟨y,M,o2,D,g,H⟩:=A3 m (by lia) P.nd P.ln;have p:=T.mv g (by lia) P.ln ax;have N:=F.mv ax y M;have G:∀f∈fs.map (mv ax y M),f.L.length<=1000:=λf hf=>SW (p f hf).len (SW P.ln (by decide));have h:(fs.map (mv ax y M)).length<=1000:=by rw[Ss];lia
 have X:=Au T g (by lia) P.ln ax;have O:Val dk [.lst ((fs.map (mv ax y M)).map aZ),.lst ((fs.map (mv ax y M)).map aZ)] (.bl true):=⟨_,xG rfl rfl (gQ _) (λa ha=>by obtain⟨f,hf,rfl⟩:=Ta.mp ha;exact ND f (G f hf)) (by rw[Ss];exact h)⟩
 unfold P5;refine Wp.st (U:=tS c Y (c0 c fs) x8 (.fr (.str ax)) x13 x14 x15 x16 x17 x18 x19 x20 x21) (aP (aj rfl (ah (rs:=[.rf 2,.fr (.int 2)]) rfl ((cg (as:=[.int 2]) (i:=2) E rfl rfl).trans rfl)) (C _)) rfl rfl z rfl) ?_;refine Wp.st (U:=tS c o2 (c0 c fs) x8 (.fr (.str ax)) (.fr (au y M)) x14 x15 x16 x17 x18 x19 x20 x21) (aP (ah (rs:=[.rf 2,.fr (.lst (c.ss.map A.str))]) rfl ((cg (as:=[.lst (c.ss.map A.str)]) (i:=2) D rfl rfl).trans rfl)) rfl rfl K rfl) ?_;refine Wp.st (U:=tS c o2 (c0 c fs) x8 (.fr (.str ax)) (.fr (au y M)) (c0 c (fs.map (mv ax y M))) x15 x16 x17 x18 x19 x20 x21) (aP (Bv P F T g x (by lia) rfl rfl rfl) rfl rfl v rfl) ?_;refine Wp.st (U:=tS c o2 (c0 c fs) (fT fs) (.fr (.str ax)) (.fr (au y M)) (c0 c (fs.map (mv ax y M))) (.lv (.lst ((fs.map (mv ax y M)).map aZ))) x16 x17 x18 x19 x20 x21) (aP (U:=tS c o2 (c0 c fs) (fT fs) (.fr (.str ax)) (.fr (au y M)) (c0 c (fs.map (mv ax y M))) x15 x16 x17 x18 x19 x20 x21) (ah (rs:=[.fr (.lst (fs.map aZ)),.fr (.str ax),.fr (au y M),.fr (.int 1)]) (by rcases h8 with rfl|rfl<;>rfl) (cj (sS T g (by lia) P.ln fl) _)) rfl rfl S rfl) ?_;refine Wp.st (U:=tS c o2 (c0 c fs) (fT fs) (.fr (.str ax)) (.fr (au y M)) (c0 c (fs.map (mv ax y M))) (fT (fs.map (mv ax y M))) x16 x17 x18 x19 x20 x21) (cY (dr (aC (aj (Ir _ rfl) rfl (jv (eq_str c.w) rfl rfl))) (dr (aC (aj (ah (rs:=[.fr (pf c.zs)]) (ag (cZ (cq (ah (rs:=[.rf 14]) rfl ((cg (as:=[]) (i:=14) (FR c.w c.zs _) rfl rfl).trans rfl))) rfl) rfl) (cj (CI P.st (by decide) (by decide)) _)) rfl (jv (LF c.zs) rfl rfl))) (c5 (b:=true) (aC (ah (rs:=[.fr (.lst ((fs.map (mv ax y M)).map aZ)),.fr (.lst ((fs.map (mv ax y M)).map aZ))]) (ag (cZ (m6 rfl rfl rfl rfl h) rfl) rfl) (aL O _)))))) rfl) ?_;refine Wp.st (U:=tS c o2 (c0 c fs) (fT fs) (.fr (.str ax)) (.fr (au y M)) (c0 c (fs.map (mv ax y M))) (fT (fs.map (mv ax y M))) (c0 c fs) x17 x18 x19 x20 x21) (aP (r:=.nw (cC c.w c.zs fs)) ((Bv P N p g.neg x (by lia) (ag rfl (ag rfl (ag (ah (rs:=[.fr (au (0,1) []),.fr (au y M),.fr (.int (-1))]) rfl (aL (zK g P.ln) _)) rfl))) rfl rfl).trans (by rw[X])) rfl rfl B rfl) ?_;refine Wp.st (cY (dr (aC (aj (m6 rfl rfl rfl rfl (by lia)) rfl (jv (gQ fs) rfl rfl))) (aC (aj (m6 rfl rfl rfl rfl h) rfl (jv (gQ (fs.map (mv ax y M))) rfl rfl)))) rfl) ?_;exact q ax y M o2 x g (H.mono (by lia))
end
theorem so.snoc{fs:List Fa}(h:so fs)(hl:fs.length<20)(w:N3 (Wd f.n) (f.n ≠ "frame") (gO f.ax))(hn:f.n∉fs.map Fa.n):so (fs++[f]):=by
 refine⟨λq j=>?_,?_,by simp;lia⟩
 .rcases Su.mp j with z|z
  .exact h.wd q z
  .rw[Sx.mp z];exact w
 .rw[SJ];exact SQ.mpr ⟨h.nd,by simp,λa ha b d e=>hn (by rw[Ui,Sx] at d;rw[<-d,<-e];exact ha)⟩
theorem oT.snoc{ss:List Str}{fs:List Fa}(h:oT k ss fs)(t:Ft l ss f)(e:k<=l):oT l ss (fs++[f]):=λq j=>by
 rcases Su.mp j with z|z
 .exact(h q z).up e
 .rw[Sx.mp z];exact t
theorem Sm.ft{ss:List Str}{M:List Pr}(g:Sm 64 12 ss y M)(nm ax:Str):Ft 1 ss ⟨nm,ax,y,M⟩:=⟨1,M,SK _,fE g.rise g.Oe g.nz,g.nb,λn=>fG g.rise n,g.x.mono (by decide),g.xc⟩
variable{gs:List Fa}
theorem E2{x y:Rr}{fs:List Fa}(h1:res Z x=some (.lst (fs.map aZ)))(h2:res Z y=some (.lst (gs.map aZ)))(hl:fs.length+gs.length<=1000):gq bt x y Z=some (.ok (.nw (.lst ((fs++gs).map aZ))),Z):=by rw[SJ];exact fu (o:=none) h1 h2 (if_pos (by rw[Ss,Ss];lia))
theorem OU{x y:Rr}{fs u:List Fa}(e:u=fs++gs)(h1:res Z x=some (.lst (fs.map aZ)))(h2:res Z y=some (.lst (gs.map aZ)))(hl:fs.length+gs.length<=1000):gq bt x y Z=some (.ok (.nw (.lst (u.map aZ))),Z):=by subst e;exact E2 h1 h2 hl
theorem Nx{fs:List Fa}{r:Int}(h0:0<=r)(h1:r<(fs.length:Int)):∃f∈fs,jd (fs.map aZ) r=some (aZ f):=by
 obtain⟨j,rfl⟩:∃j:Nat,r=j:=⟨r.toNat,by lia⟩
 have b:j<fs.length:=by lia
 exact⟨fs[j],TY b,gL (by rw[SV,SU b];rfl)⟩
section
variable{c:Tc}{o:LO}{fs gs:List Fa}{k:Nat}{n:Int}{ax:Str}{y:Num}{M:List Pr}{x17 x18 x19 x20 x21:Sl}
theorem Gf(P:PO c.w c.zs)(F:so fs)(T:oT k c.ss fs)(hk:k<=12)(w:Wl n o)(hn:n<2^30)(K:gO ax)(g:Sm 64 12 c.ss y M)(O:fs.map (mv ax y M)=gs)(fl:fs.length<=7)(hN:∀s∈fs.map Fa.n,s∈c.ns)(hf:("frame" : Str)∈c.ns)(nl:c.ns.length<=8)(fw:Wd c.fr)(fn:c.fr∉c.ns)(h17:np x17=true)(h18:np x18=true)(h19:np x19=true)(h20:np x20=true)(h21:np x21=true)
  (q:∀(o':LO)(V p E H Y G:Sl),Wl (n+12) o'->[V,p,E,H,Y,G].all np=true->Q .nx (tS c o' (c0 c gs) (fT gs) (.fr (.str ax)) (.fr (au y M)) V (fT gs) (c0 c fs) p E H Y G)):
  Wp P1 (tS c o (c0 c fs) (fT fs) (.fr (.str ax)) (.fr (au y M)) (c0 c gs) (fT gs) (c0 c fs) x17 x18 x19 x20 x21) Q:=by
 have gl:gs.length<=7:=by rw[<-O,Ss];exact fl
 have gn:gs.map Fa.n=fs.map Fa.n:=by rw[<-O];exact B9 ax y M fs
 have FG:so gs:=O▸F.mv ax y M;have TG:oT (k+1) c.ss gs:=O▸T.mv g (by lia) P.ln ax;have B:c.fr∉fs.map Fa.n:=λe=>fn (hN _ e);have ff:c.fr ≠ "frame" := λe=>fn (e▸hf);have lM:M.length<=1000:=SW g.len (by decide);generalize X:(⟨c.fr,ax,y,M⟩:Fa)=g1;have t1:Ft 1 c.ss g1:=X▸g.ft c.fr ax;have w1:N3 (Wd g1.n) (g1.n ≠ "frame") (gO g1.ax):=by rw[<-X];exact⟨fw,ff,K⟩
 have n1:g1.n=c.fr:=by rw[<-X]
 have a1:aZ g1=.tup [.str c.fr,.str ax,au y M]:=by rw[<-X];rfl
 have F1:so (gs++[g1]):=FG.snoc (by lia) w1 (by rw[gn,n1];exact B);have T1:oT (k+1) c.ss (gs++[g1]):=TG.snoc (t1.up (by lia)) (SK _);have vp:∀C:List Fa,C.length<=7->c.fr∉C.map Fa.n->eG aM (cC c.w c.zs C) [.str c.fr,.str ax,.non,au y M] (.fr .non) (cC c.w c.zs (C++[g1])):=λC hl hm=>by have v:=rj (nm:=c.w) (fs:=C) (n:=c.fr) (ax:=ax) fw ff hm (by lia) P.st K g.xc lM (.here (x:=y));rw[X] at v;exact v
 generalize es:(gs.filter λf=>decide (f.ax=ax))++[g1]=sm;have sl:sm.length<=8:=by rw[<-es,SI];have:=UU (λf:Fa=>decide (f.ax=ax)) gs;simp;lia
 have s0:0<sm.length:=by rw[<-es];simp
 obtain⟨r,o1,v1,r0,r1,wl1⟩:=nO (m:=(sm.length:Int)) w (by lia) (by lia) (by lia);obtain⟨f,I,ef⟩:=Nx r0 r1;have hf2:f∈gs++[g1]/\f.ax=ax:=by
  rw[<-es] at I;rcases Su.mp I with z|z
  .have z:=Uk.mp z;exact⟨Sv _ z.1,of_decide_eq_true z.2⟩
  .rw[Sx.mp z];exact⟨Sr _ (Sx.mpr rfl),by rw[<-X]⟩
 obtain⟨fm,fa⟩:=hf2;obtain⟨j,ps,hj,t⟩:=T1 f fm;obtain⟨z,o2,⟨_,v2⟩,hz,R,wl2⟩:=n9 (ss:=c.ns++[c.fr]) wl1 (by lia) (by rw[SI,Up];lia);have zn:z∉(gs++[g1]).map Fa.n:=by rw[SJ,gn,Ui,n1];intro e;refine R ((Su.mp e).elim (λe=>Sv _ (hN _ e)) λe=>Sr _ e)
 have zf:z ≠ "frame" := λe=>R (Sv _ (e▸hf));have fd:=uv F1.nd fm;rw[fa] at fd;have D:=rj (nm:=c.w) (fs:=gs++[g1]) (n:=z) (ax:=ax) hz zf zn (by have:=F1.ln;lia) P.st K g.xc lM (.by' fd (fq t g (by lia) P.ln).1);have vl:=qS t g (by lia) P.ln;have l:Ft (k+2) c.ss ⟨z,ax,bX f.x y,cN (f.L++M)⟩:=⟨j+1,_,by lia,(fq t g (by lia) P.ln).2⟩
 have J:so (gs++[g1]++[⟨z,ax,bX f.x y,cN (f.L++M)⟩]):=F1.snoc (by simp;lia) ⟨hz,zf,K⟩ zn;have d:=T1.snoc l (by lia);generalize bX f.x y=u at D vl l J d;generalize cN (f.L++M)=N at D vl l J d;generalize e2:(⟨z,ax,u,N⟩:Fa)=g2 at D l J d;have a2:aZ g2=.tup [.str z,.str ax,au u N]:=by rw[<-e2];rfl
 have ec:∀S:List Sl,S.length=22->S[12]?=some (.fr (.str ax))->S[15]?=some (fT gs)->bu 1 (bF (aa 15)) (aH 22) (ao (aD gG (mix (aa 22) (aG 1)) (aa 12))) (aa 22) S=some (.ok (.nw (.lst ((gs.filter λf=>decide (f.ax=ax)).map aZ))),S):=λS h0 h12 h15=>by
  match S,h0 with
  |[y0,y1,y2,y3,y4,y5,y6,y7,y8,y9,y10,y11,y12,y13,y14,y15,y16,p,E,H,Y,G],_=>cases h12;cases h15;exact bY (cD rfl rfl) (qD (T:=Fa) aZ aZ (λf=>decide (f.ax=ax)) rfl (by lia) λf _=>⟨aC (aj (aj rfl rfl (bU (.inr rfl) rfl)) rfl (jF _ _ _)),λ_=>⟨.fr (aZ f),rfl,rfl⟩⟩)
 unfold P1;refine Wp.st (U:=tS c o (c0 c fs) (fT fs) (.fr (.str ax)) (.fr (au y M)) (c0 c (gs++[g1])) (fT gs) (c0 c fs) x17 x18 x19 x20 x21) (CN (vp gs gl (by rw[gn];exact B)) rfl rfl rfl) ?_;refine Wp.st (U:=tS c o (c0 c fs) (fT fs) (.fr (.str ax)) (.fr (au y M)) (c0 c (gs++[g1])) (fT gs) (c0 c fs) (.lv (.lst ([g1].map aZ))) x18 x19 x20 x21) (by rw[Ui,a1];exact aP (d9 (ag (bD rfl rfl) rfl) rfl) rfl rfl h17 rfl) ?_;refine Wp.st (U:=tS c o (c0 c fs) (fT fs) (.fr (.str ax)) (.fr (au y M)) (c0 c (gs++[g1])) (fT gs) (c0 c fs) (.lv (.lst ([g1].map aZ))) (.lv (.lst (sm.map aZ))) x19 x20 x21) (by rw[<-es];exact aP (aj (ec _ rfl rfl rfl) rfl (E2 rfl rfl (by have:=UU (λf:Fa=>decide (f.ax=ax)) gs;simp;lia))) rfl rfl h18 rfl) ?_;have el:∀x19 x20 x21,cb gc (aa 18) (tS c o (c0 c fs) (fT fs) (.fr (.str ax)) (.fr (au y M)) (c0 c (gs++[g1])) (fT gs) (c0 c fs) (.lv (.lst ([g1].map aZ))) (.lv (.lst (sm.map aZ))) x19 x20 x21)=some (.ok (.fr (.int (sm.length:Int))),tS c o (c0 c fs) (fT fs) (.fr (.str ax)) (.fr (au y M)) (c0 c (gs++[g1])) (fT gs) (c0 c fs) (.lv (.lst ([g1].map aZ))) (.lv (.lst (sm.map aZ))) x19 x20 x21):=λ_ _ _=>by
  have e:(sm.length:Int)=((sm.map aZ).length:Int):=by rw[Ss]
  rw[e];rfl
 refine Wp.st (U:=tS c o1 (c0 c fs) (fT fs) (.fr (.str ax)) (.fr (au y M)) (c0 c (gs++[g1])) (fT gs) (c0 c fs) (.lv (.lst ([g1].map aZ))) (.lv (.lst (sm.map aZ))) (.fr (aZ f)) x20 x21) (aP (aj rfl (ah (rs:=[.rf 2,.fr (.int (sm.length:Int))]) (ag rfl (ag (el _ _ _) rfl)) ((cg (as:=[.int (sm.length:Int)]) (i:=2) v1 rfl rfl).trans rfl)) (bU (.inl rfl) ef)) rfl rfl h19 rfl) ?_;refine Wp.st (U:=tS c o2 (c0 c fs) (fT fs) (.fr (.str ax)) (.fr (au y M)) (c0 c (gs++[g1])) (fT gs) (c0 c fs) (.lv (.lst ([g1].map aZ))) (.lv (.lst (sm.map aZ))) (.fr (aZ f)) (.fr (.str z)) x21) (aP (ah (rs:=[.rf 2,.fr (.lst ((c.ns++[c.fr]).map A.str))]) (ag rfl (ag (cZ (x:=.nw (.lst ((c.ns++[c.fr]).map A.str))) (aj rfl (d9 rfl rfl) (by rw[SJ];exact fu (o:=none) (a:=.lst (c.ns.map A.str)) (b:=.lst [.str c.fr]) rfl rfl (if_pos (by rw[Ss];show c.ns.length+1<=_;lia)))) rfl) rfl)) ((cg (as:=[.lst ((c.ns++[c.fr]).map A.str)]) (i:=2) ⟨_,v2⟩ rfl rfl).trans rfl)) rfl rfl h20 rfl) ?_;refine Wp.st (U:=tS c o2 (c0 c fs) (fT fs) (.fr (.str ax)) (.fr (au y M)) (c0 c (gs++[g1]++[g2])) (fT gs) (c0 c fs) (.lv (.lst ([g1].map aZ))) (.lv (.lst (sm.map aZ))) (.fr (aZ f)) (.fr (.str z)) x21) (CN D rfl rfl rfl) ?_;refine Wp.st (U:=tS c o2 (c0 c fs) (fT fs) (.fr (.str ax)) (.fr (au y M)) (c0 c (gs++[g1]++[g2])) (fT gs) (c0 c fs) (.lv (.lst ([g1,g2].map aZ))) (.lv (.lst (sm.map aZ))) (.fr (aZ f)) (.fr (.str z)) x21) (gi rfl (bD (ag rfl (ag rfl (ag (ah (rs:=[.fr (au f.x f.L),.fr (au y M),.fr (.int 1)]) rfl (aL vl _)) rfl))) rfl) rfl rfl (by rw[Ss];show 1<=16000000;decide) (by rw[<-a2];rfl)) ?_;have ae:gs++[g1]++[g2]=gs++[g1,g2]:=by rw[Sw];rfl
 refine Wp.st (U:=tS c o2 (c0 c fs) (fT fs) (.fr (.str ax)) (.fr (au y M)) (c0 c (gs++[g1]++[g2])) (fT gs) (c0 c fs) (.lv (.lst ([g1,g2].map aZ))) (.lv (.lst (sm.map aZ))) (.fr (aZ f)) (.fr (.str z)) x21) (cY (dr (aC (aj (m6 rfl rfl rfl rfl (by lia)) rfl (jv (gQ fs) rfl rfl))) (dr (aC (aj (m6 rfl rfl rfl rfl (by lia)) rfl (jv (gQ fs) rfl rfl))) (aC (aj (m6 rfl rfl rfl rfl (by have:=J.ln;lia)) (aj rfl rfl (E2 (gs:=[g1,g2]) rfl rfl (by simp;lia))) (jv (by rw[ae];exact gQ _) rfl rfl))))) rfl) ?_;refine Wp.st (U:=tS c o2 (c0 c (fs++[g1])) (fT fs) (.fr (.str ax)) (.fr (au y M)) (c0 c (gs++[g1]++[g2])) (fT gs) (c0 c fs) (.lv (.lst ([g1,g2].map aZ))) (.lv (.lst (sm.map aZ))) (.fr (aZ f)) (.fr (.str z)) x21) (CN (vp fs fl B) rfl rfl rfl) ?_;have F3:so (fs++[g1]):=F.snoc (by lia) w1 (by rw[n1];exact B);have T3:oT (k+1) c.ss (fs++[g1]):=T.snoc (t1.up (by lia)) (by lia);refine Wp.st (U:=tS c o2 (.fr (cC c.w c.zs (fs++[g1])).a) (fT fs) (.fr (.str ax)) (.fr (au y M)) (c0 c (gs++[g1]++[g2])) (fT gs) (c0 c fs) (.lv (.lst ([g1,g2].map aZ))) (.lv (.lst (sm.map aZ))) (.fr (aZ f)) (.fr (.str z)) (.fr (.bl true))) (aP (ah (rs:=[.fr (cC c.w c.zs (fs++[g1])).a,.fr (.lst ((fs++[g1]).map aZ)),.fr (.str ax),.fr (au y M)]) (ag rfl (ag (cZ (aj rfl (d9 (ag (bD rfl rfl) rfl) rfl) (E2 (gs:=[g1]) rfl (by rw[Ui,a1];rfl) (by simp;lia))) rfl) rfl)) (aL (Bl P F3 T3 g K (by lia)) _)) rfl rfl h21 rfl) ?_;refine Wp.st (U:=tS c o2 (.fr (cC c.w c.zs (fs++[g1])).a) (fT fs) (.fr (.str ax)) (.fr (au y M)) (.fr (cC c.w c.zs (gs++[g1]++[g2])).a) (fT gs) (c0 c fs) (.lv (.lst ([g1,g2].map aZ))) (.lv (.lst (sm.map aZ))) (.fr (aZ f)) (.fr (.str z)) (.fr (.bl true))) (cY (dr (c5 (b:=true) (aC rfl)) (c5 (b:=true) (aC (ah (rs:=[.fr (cC c.w c.zs (gs++[g1]++[g2])).a,.fr (.lst ((gs++[g1]++[g2]).map aZ)),.fr (.str ax),.fr (au y M)]) (ag rfl (ag (cZ (x:=.nw (.lst ((gs++[g1]++[g2]).map aZ))) (aj rfl rfl (OU ae rfl rfl (by simp;lia))) rfl) rfl)) (aL (Bl P J d g K (by lia)) _))))) rfl) ?_;have em:=λZ hr h C=>Bv (Z:=Z) (U:=Z) (i:=16) (m:=ai 12) (n:=ai 13) P F T g K (by lia) hr h C;rw[O] at em;refine Wp.st (U:=tS c o2 (c0 c gs) (fT fs) (.fr (.str ax)) (.fr (au y M)) (.fr (cC c.w c.zs (gs++[g1]++[g2])).a) (fT gs) (c0 c fs) (.lv (.lst ([g1,g2].map aZ))) (.lv (.lst (sm.map aZ))) (.fr (aZ f)) (.fr (.str z)) (.fr (.bl true))) (aP (em _ rfl rfl rfl) rfl rfl rfl rfl) ?_;refine Wp.st (U:=tS c o2 (c0 c gs) (fT gs) (.fr (.str ax)) (.fr (au y M)) (.fr (cC c.w c.zs (gs++[g1]++[g2])).a) (fT gs) (c0 c fs) (.lv (.lst ([g1,g2].map aZ))) (.lv (.lst (sm.map aZ))) (.fr (aZ f)) (.fr (.str z)) (.fr (.bl true))) (aP rfl rfl rfl rfl rfl) ?_;exact Wp.en (cY (aC (aj (m6 rfl rfl rfl rfl (by lia)) rfl (jv (gQ gs) rfl rfl))) rfl) (q _ _ _ _ _ _ _ (wl2.mono (by lia)) rfl)
end
inductive MI(c:Tc)(n:Int)(k:Nat):List Sl->Prop
 |mk(o:LO)(fs:List Fa)(x11 x8 x12 x13 x14 x15 x16 x17 x18 x19 x20 x21:Sl)(W:Wl n o)(F:so fs)(T:oT k c.ss fs)(fl:fs.length<=7)(hN:∀s∈fs.map Fa.n,s∈c.ns)(h8:x8=.lv (.lst (fs.map aZ))\/x8=fT fs)(h11:np x11=true)(hp:[x12,x13,x14,x15,x16,x17,x18,x19,x20,x21].all np=true):MI c n k (tS { c with x11:=x11 } o (c0 c fs) x8 x12 x13 x14 x15 x16 x17 x18 x19 x20 x21)
theorem FW{c:Tc}{n:Int}{j:Nat}(P:PO c.w c.zs)(hk:k<=7)(J:j<=5)(hn:n<2^29)(hf:("frame" : Str)∈c.ns)(nl:c.ns.length<=8)(G:Wd c.fr)(fn:c.fr∉c.ns)(h:eI (aV az (bJ (aa 2) (aG 6))) Z=some (.ok (fS 0 j),U))(hi:MI c n k U):Wp (dh (eI (aV az (bJ (aa 2) (aG 6)))) (aH 11) P5) Z λf Z=>f=.nx/\MI c (n+80*j) (k+j) Z:=by refine Wp.fr (as:=fS 0 j) (λi Z=>MI c (n+80*i) (k+i) Z) h (by simpa using hi) ?_ (λZ e=>⟨rfl,by rw[gN] at e;exact e⟩);rintro i a Z ha ⟨o,fs,x11,x8,x12,x13,x14,x15,x16,x17,x18,x19,x20,x21,W,F,T,fl,hN,h8,h11,hp⟩;obtain⟨hi,rfl⟩:=ly ha;simp only[S2,Uh,Sn,and_true] at hp;obtain⟨z,K,v,S,B,r,x,A,q,C⟩:=hp;refine⟨tS { c with x11:=.fr (.int i) } o (c0 c fs) x8 x12 x13 x14 x15 x16 x17 x18 x19 x20 x21,by cases x11<;>first|(cases h11;done)|rfl,?_⟩;refine DJ (c:={ c with x11:=.fr (.int i) }) P F T (by lia) W (by lia) h8 z K v S B ?_;intro ax y M o' Q g I;refine Gf (c:={ c with x11:=.fr (.int i) }) P F T (by lia) I (by lia) Q g rfl fl hN hf nl G fn r x A q C ?_;intro o2 V L X O m R s D;simp only[S2,Uh,Sn,and_true] at D;obtain⟨p,E,H,N,b,Y⟩:=D;refine⟨.inl rfl,.mk o2 (fs.map (mv ax y M)) _ _ _ _ _ _ _ _ _ _ _ _ (s.mono (by lia)) (F.mv ax y M) (T.mv g (by lia) P.ln ax) (by rw[Ss];exact fl) (by rw[B9];exact hN) (.inr rfl) rfl ?_⟩;simp only[S2,Uh,p,E,H,N,b,Y];rfl
abbrev za(sc:A)(x1 x2 x3 x4 x5 x6 x7 x8 x9 x10 x11 x12 x13 x14 x15 x16 x17 x18 x19 x20 x21:Sl):List Sl:=[.fr sc,x1,x2,x3,x4,x5,x6,x7,x8,x9,x10,x11,x12,x13,x14,x15,x16,x17,x18,x19,x20,x21]
inductive LI(sc:A):List Sl->Prop
 |mk(x1 x2 x3 x4 x5 x6 x7 x8 x9 x10 x11 x12 x13 x14 x15 x16 x17 x18 x19 x20 x21:Sl)(h1:np x1=true)(h:[x2,x3,x4,x5,x6,x7,x8,x9,x10,x11,x12,x13,x14,x15,x16,x17,x18,x19,x20,x21].all np=true):LI sc (za sc x1 x2 x3 x4 x5 x6 x7 x8 x9 x10 x11 x12 x13 x14 x15 x16 x17 x18 x19 x20 x21)
theorem EO{ns:List Int}{i:Int}(b:0<=i)(X:i<=1000){x2 x12 x13 x14 x15 x16 x17 x18 x19 x20 x21:Sl}(h:[x2,x3,x4,x5,x6,x7,x8,x9,x10,x11,x12,x13,x14,x15,x16,x17,x18,x19,x20,x21].all np=true):
  Wp P9 (za (.lst (ns.map A.int)) (.fr (.int i)) x2 x3 x4 x5 x6 x7 x8 x9 x10 x11 x12 x13 x14 x15 x16 x17 x18 x19 x20 x21) λf Z=>f=.nx/\LI (.lst (ns.map A.int)) Z:=by
 simp only[S2,Uh,Sn,and_true] at h;obtain⟨h2,h3,h4,h5,Y,G,h8,L,E,h11,z,K,v,S,B,a,x,g,q,C⟩:=h;obtain⟨o,H,u⟩:=LQ ns i b X;obtain⟨w,o2,⟨_,D⟩,l,-,F⟩:=n9 (ss:=[]) u (by decide) (by decide);obtain⟨zs,R,e,Q,O,y⟩:=AO F (by decide);have P:PO w zs:=⟨l,⟨O,SW Q.ln (by decide)⟩,Q.nd,Q.wd,Q.ln⟩
 obtain⟨r,o4,V,a4,b4,I⟩:=nO y (by decide) (show (0:Int)<7 by decide) (by decide);obtain⟨j,rfl⟩:∃j:Nat,r=j:=⟨r.toNat,by lia⟩
 obtain⟨rs,p,J,d,hl,w5⟩:=zV (k:=1+j) I (by decide) Q.nd Q.ln (by lia);obtain⟨ps,v6,hp⟩:=zh d (by lia) Q.ln;have pl:=hp.len;have v7:=JX P hp (by lia);obtain⟨f,o6,⟨_,v8⟩,fw,fn,w6⟩:=n9 (ss:=rs.map Rw.n++[("frame" : Str)]) w5 (by decide) (by rw[SI,Ss];show rs.length+1<=20;lia);obtain⟨t,N,v9,a9,b9,w7⟩:=nO w6 (by decide) (show (0:Int)<6 by decide) (by decide);obtain⟨m,rfl⟩:∃m:Nat,t=m:=⟨t.toNat,by lia⟩
 generalize hsc:A.lst (ns.map A.int)=sc at H ⊢;unfold P9;refine Wp.st (U:=za sc (.fr (.int i)) (.lv o) x3 x4 x5 x6 x7 x8 x9 x10 x11 x12 x13 x14 x15 x16 x17 x18 x19 x20 x21) (aP (ah rfl (cj H _)) rfl rfl h2 rfl) ?_;refine Wp.st (U:=za sc (.fr (.int i)) (.lv o2) (.fr (.str w)) x4 x5 x6 x7 x8 x9 x10 x11 x12 x13 x14 x15 x16 x17 x18 x19 x20 x21) (aP (ah (rs:=[.rf 2,.fr (.lst [])]) rfl ((cg (as:=[.lst []]) (i:=2) ⟨_,D⟩ rfl rfl).trans rfl)) rfl rfl h3 rfl) ?_;refine Wp.st (U:=za sc (.fr (.int i)) (.lv R) (.fr (.str w)) (.fr (.lst (zs.map lg))) (.fr (.lst ((zs.flatMap cy).map A.str))) x6 x7 x8 x9 x10 x11 x12 x13 x14 x15 x16 x17 x18 x19 x20 x21) (sk (ah (rs:=[.rf 2,.fr (.int 12)]) rfl ((cg (as:=[.int 12]) (i:=2) e rfl rfl).trans rfl)) (by cases x4<;>first|(cases h4;done)|(cases x5<;>first|(cases h5;done)|rfl))) ?_;refine Wp.st (U:=za sc (.fr (.int i)) (.lv p) (.fr (.str w)) (.fr (.lst (zs.map lg))) (.fr (.lst ((zs.flatMap cy).map A.str))) (.lv (.lst (rs.map jU))) x7 x8 x9 x10 x11 x12 x13 x14 x15 x16 x17 x18 x19 x20 x21) (aP (ah (rs:=[.rf 2,.fr (.lst ((zs.flatMap cy).map A.str)),.fr (.int ((1+j:Nat):Int))]) (ag rfl (ag rfl (ag (cZ (aj rfl (ah (rs:=[.rf 2,.fr (.int 7)]) rfl ((cg (as:=[.int 7]) (i:=2) V rfl rfl).trans rfl)) rfl) rfl) rfl))) ((cg (as:=[.lst ((zs.flatMap cy).map A.str),.int ((1+j:Nat):Int)]) (i:=2) J rfl rfl).trans rfl)) rfl rfl Y rfl) ?_;refine Wp.st (U:=za sc (.fr (.int i)) (.lv p) (.fr (.str w)) (.fr (.lst (zs.map lg))) (.fr (.lst ((zs.flatMap cy).map A.str))) (.fr (.lst (rs.map jU))) (.lv (cC w zs ps)) x8 x9 x10 x11 x12 x13 x14 x15 x16 x17 x18 x19 x20 x21) (aP (ah (rs:=[.fr (QL w zs rs)]) (ag (bD rfl rfl) rfl) (cj v7 _)) rfl rfl G rfl) ?_;refine Wp.st (U:=za sc (.fr (.int i)) (.lv p) (.fr (.str w)) (.fr (.lst (zs.map lg))) (.fr (.lst ((zs.flatMap cy).map A.str))) (.fr (.lst (rs.map jU))) (.lv (cC w zs ps)) (.lv (.lst (ps.map aZ))) x9 x10 x11 x12 x13 x14 x15 x16 x17 x18 x19 x20 x21) (aP (ah rfl (cj v6 _)) rfl rfl h8 rfl) ?_;refine Wp.st (U:=za sc (.fr (.int i)) (.lv p) (.fr (.str w)) (.fr (.lst (zs.map lg))) (.fr (.lst ((zs.flatMap cy).map A.str))) (.fr (.lst (rs.map jU))) (.lv (cC w zs ps)) (.lv (.lst (ps.map aZ))) (.lv (.lst ((rs.map Rw.n++[("frame" : Str)]).map A.str))) x10 x11 x12 x13 x14 x15 x16 x17 x18 x19 x20 x21) (aP (r:=.nw (.lst ((rs.map Rw.n++[("frame" : Str)]).map A.str))) (aj (bY (cD rfl rfl) (cB (T:=Rw) (i:=22) (ts:=rs) jU (λr=>.str r.n) rfl (by lia) λr _=>⟨.fr (.str r.n),rfl,rfl⟩)) (d9 rfl rfl) (by rw[SJ,Tj];exact zv (by rw[Ss];show rs.length+1<=_;lia) _)) rfl rfl L rfl) ?_;refine Wp.st (U:=za sc (.fr (.int i)) (.lv o6) (.fr (.str w)) (.fr (.lst (zs.map lg))) (.fr (.lst ((zs.flatMap cy).map A.str))) (.fr (.lst (rs.map jU))) (.lv (cC w zs ps)) (.lv (.lst (ps.map aZ))) (.fr (.lst ((rs.map Rw.n++[("frame" : Str)]).map A.str))) (.fr (.str f)) x11 x12 x13 x14 x15 x16 x17 x18 x19 x20 x21) (aP (ah (rs:=[.rf 2,.fr (.lst ((rs.map Rw.n++[("frame" : Str)]).map A.str))]) rfl ((cg (as:=[.lst ((rs.map Rw.n++[("frame" : Str)]).map A.str)]) (i:=2) ⟨_,v8⟩ rfl rfl).trans rfl)) rfl rfl E rfl) ?_;refine(FW (c:=⟨sc,.fr (.int i),.fr (.lst (rs.map jU)),x11,w,zs,rs.map Rw.n++[("frame" : Str)],f⟩) (k:=ps.length) (j:=m) (U:=za sc (.fr (.int i)) (.lv N) (.fr (.str w)) (.fr (.lst (zs.map lg))) (.fr (.lst ((zs.flatMap cy).map A.str))) (.fr (.lst (rs.map jU))) (.lv (cC w zs ps)) (.lv (.lst (ps.map aZ))) (.fr (.lst ((rs.map Rw.n++[("frame" : Str)]).map A.str))) (.fr (.str f)) x11 x12 x13 x14 x15 x16 x17 x18 x19 x20 x21) P (by lia) (by lia) (n:=50000) (by decide) (Sr _ (Sx.mpr rfl)) (by rw[SI,Ss];show rs.length+1<=8;lia) fw fn (jS (ah (rs:=[.rf 2,.fr (.int 6)]) rfl ((cg (as:=[.int 6]) (i:=2) v9 rfl rfl).trans rfl)) (yV (by lia) _)) (MI.mk (c:=⟨sc,.fr (.int i),.fr (.lst (rs.map jU)),x11,w,zs,rs.map Rw.n++[("frame" : Str)],f⟩) (k:=ps.length) (n:=50000) N ps x11 _ x12 x13 x14 x15 x16 x17 x18 x19 x20 x21 (w7.mono (by decide)) ⟨hp.R5,by rw[hp.ns];exact hp.nd,by lia⟩ (show oT ps.length (zs.flatMap cy) ps from hp.tt) (by lia) (λs hs=>Sv _ (by rw[<-hp.ns];exact hs)) (.inl rfl) h11 ?_)).mono ?_
 .simp only[S2,Uh,z,K,v,S,B,a,x,g,q,C];rfl
 .rintro f Z ⟨rfl,o,fs,x11,x8,x12,x13,x14,x15,x16,x17,x18,x19,x20,x21,-,-,-,-,-,h8,h11,hp⟩;simp only[S2,Uh,Sn,and_true] at hp;obtain⟨z,K,v,S,B,a,x,g,q,C⟩:=hp;have e8:np x8=true:=by rcases h8 with rfl|rfl<;>rfl
  refine⟨rfl,.mk _ _ _ _ _ _ _ _ _ _ _ _ _ _ _ _ _ _ _ _ _ rfl ?_⟩;simp only[S2,Uh,e8,h11,z,K,v,S,B,a,x,g,q,C];rfl
theorem law_true:∀ns:List Int,ns.length<=63->∃Z,o8.M [.fr (.lst (ns.map A.int))]=some (.rt (.fr (.bl true)),Z):=by
 intro ns I;show ∃Z,HW [.fr (.lst (ns.map A.int))]=some (.rt (.fr (.bl true)),Z);obtain⟨t,L,b,w⟩:∃t:Int,N3 (∀Z,HB F6 (aG 1) (HB Em (cb gc (aa 0)) (aG 8)) (.fr (.lst (ns.map A.int))::Z)=some (.ok (.fr (.int t)),.fr (.lst (ns.map A.int))::Z)) (1<=t) (t<=8):=by
  refine⟨if (if (8:Int)<((ns.map A.int).length:Int) then 8 else ((ns.map A.int).length:Int)) > 1 then (if (8:Int)<((ns.map A.int).length:Int) then 8 else ((ns.map A.int).length:Int)) else 1,λZ=>?_,?_,?_⟩
  .rfl
  ·(repeat' split)<;>lia
  ·(repeat' split)<;>lia
 obtain⟨m,rfl⟩:∃m:Nat,t=m:=⟨t.toNat,by lia⟩
 suffices Wp HW [.fr (.lst (ns.map A.int))] λg _=>g=.rt (.fr (.bl true)) by obtain⟨f,Z,e,rfl⟩:=this;exact⟨Z,e⟩
 refine Wp.df (Wp.sq (Wp.fr (as:=fS 0 m) (λ_ Z=>LI (.lst (ns.map A.int)) Z) (jS (L _) (yV (by lia) _)) (.mk .un .un .un .un .un .un .un .un .un .un .un .un .un .un .un .un .un .un .un .un .un rfl rfl) ?_ ?_))
 .rintro i a Z ha ⟨U,q,z,v,X,B,C,Q,N,c,K,k,h,o,r,x,p,E,H,Y,G,d,g⟩;obtain⟨hi,rfl⟩:=ly ha;exact⟨za (.lst (ns.map A.int)) (.fr (.int i)) q z v X B C Q N c K k h o r x p E H Y G,by cases U<;>first|(cases d;done)|rfl,(EO (by lia) (by lia) g).mono λf Z e=>⟨.inl e.1,e.2⟩⟩
 .rintro Z -;exact⟨rfl,Wp.en (aO rfl rfl) rfl⟩
end W
set_option maxHeartbeats 4000000
theorem PySem.Challenge.cw_fitwhatever_k16_parts_moved_holds : PySem.Challenge.rw_fitwhatever_k16_parts_moved.Holds :=
 W.fin W.law_true
#print axioms PySem.Challenge.cw_fitwhatever_k16_parts_moved_holds
