import PyProof.Rows.All
import Wide.All
import OpenK.AllK
import Wide.FinOn
import Lean
import PyProof.EqAt
import PyProof.EqKinds
import PyProof.TupleCall
import PySem.Challenge.RW_fitwhatever_k05_sums_reckoned
set_option Elab.async false
set_option linter.all false
set_option maxRecDepth 100000
abbrev NDb (x:PySem.Str):Prop:=(x == ("__debug__" : PySem.Str)) = false
abbrev NCd (x:PySem.Str):Prop:=(x == ("__classdict__" : PySem.Str)) = false
namespace L2
open PySem PySem.Spec PyProof.Rows
abbrev Key:=Sum Int Str
def xg:Key → Value → Bool
 | .inl k,v=>Value.isInt k v
 | .inr x,v=>Value.isStrOf x v
def Pj (w:World):Key → Int
 | .inl k=>hashInt k
 | .inr x=>hashStr w x
theorem dh:∀ {k:Key} {v:Value},xg k v = true → (∃ i t,k = Sum.inl i ∧ v = Value.int i t) ∨ (∃ x t,k = Sum.inr x ∧ v = Value.str x t)
 | .inl i,v,h=>by
  obtain ⟨t,e⟩:=Value.isInt_shape (k:=i) (v:=v) h
  exact .inl ⟨i,t,rfl,e⟩
 | .inr x,v,h=>by
  obtain ⟨t,e⟩:=Value.isStrOf_shape (x:=x) (v:=v) h
  exact .inr ⟨x,t,rfl,e⟩
theorem Fn (i:Int) (t:Tok):xg (.inl i) (.int i t) = true:=by simp [xg,Value.isInt]
theorem Fj (x:Str) (t:Tok):xg (.inr x) (.str x t) = true:=by simp [xg,Value.isStrOf]
theorem ML (a b:Int):decide ((Sum.inl a:Key) = Sum.inl b) = (a == b):=by
 by_cases e:a = b
 ·subst e; simp
 ·have h:¬ (Sum.inl a:Key) = Sum.inl b:=fun q=>e (Sum.inl.inj q)
  rw [decide_eq_false h]
  exact (beq_eq_false_iff_ne.mpr e).symm
theorem ME (a b:Str):decide ((Sum.inr a:Key) = Sum.inr b) = decide (a = b):=by
 by_cases e:a = b
 ·subst e; simp
 ·have h:¬ (Sum.inr a:Key) = Sum.inr b:=fun q=>e (Sum.inr.inj q)
  rw [decide_eq_false h,decide_eq_false e]
theorem LV (a:Int) (b:Str):decide ((Sum.inl a:Key) = Sum.inr b) = false:=decide_eq_false (fun q=>nomatch q)
theorem Ly (a:Str) (b:Int):decide ((Sum.inr a:Key) = Sum.inl b) = false:=decide_eq_false (fun q=>nomatch q)
def bN (prog:Program) (w:World):PySem.KeyKind prog w Key where
 is:=xg
 hash:=Pj w
 inj:=fun v a b ha hb=>by
  rcases dh ha with ⟨i,t,rfl,rfl⟩ | ⟨x,t,rfl,rfl⟩
  ·rcases dh hb with ⟨j,u,rfl,e⟩ | ⟨y,u,rfl,e⟩
   ·injection e with e1 _; rw [e1]
   ·exact nomatch e
  ·rcases dh hb with ⟨j,u,rfl,e⟩ | ⟨y,u,rfl,e⟩
   ·exact nomatch e
   ·injection e with e1 _; rw [e1]
 byValue:=fun k v h=>by
  rcases dh h with ⟨i,t,rfl,rfl⟩ | ⟨x,t,rfl,rfl⟩ <;> rfl
 pyHash:=fun hv h=>by
  rcases dh hv with ⟨i,t,rfl,rfl⟩ | ⟨x,t,rfl,rfl⟩
  ·exact wpAny_pyHash_int h
  ·exact wpAny_pyHash_str h
 eqBool:=fun hu hv h=>by
  rcases dh hu with ⟨i,t,rfl,rfl⟩ | ⟨x,t,rfl,rfl⟩
  ·rcases dh hv with ⟨j,u,rfl,rfl⟩ | ⟨y,u,rfl,rfl⟩
   ·rw [ML] at h; exact wpAny_eqBool_int h
   ·rw [LV] at h; exact SeqAt.EqAt.int_str i t y u _ _ _ _ h
  ·rcases dh hv with ⟨j,u,rfl,rfl⟩ | ⟨y,u,rfl,rfl⟩
   ·rw [Ly] at h; exact SeqAt.EqAt.str_int x t j u _ _ _ _ h
   ·rw [ME] at h; exact wpAny_eqBool_str h
 «strs»:=fun k x t v h=>by
  rcases dh h with ⟨i,u,rfl,e⟩ | ⟨y,u,rfl,e⟩
  ·exact nomatch e
  ·injection e with e1 _
   subst e1
   cases v <;> rfl
theorem Cr (prog:Program) (w:World) (i:Int) (t:Tok):(bN prog w).is (.inl i) (.int i t) = true:=Fn i t
theorem B1 (prog:Program) (w:World) (x:Str) (t:Tok):(bN prog w).is (.inr x) (.str x t) = true:=Fj x t
end L2
namespace L2
open PySem PySem.Spec PyProof.Rows
inductive V where
 | non | bl (b:Bool) | int (i:Int) | str (x:Str) | byt (b:Array UInt8) | flt (b:UInt64) | ref (a:Addr) | ty (n:String)
 deriving DecidableEq
def RelV:V → Value → Prop
 | .non,u=>u = Value.none
 | .bl b,u=>u = Value.bool b
 | .int i,u=>∃ t,u = Value.int i t
 | .str x,u=>∃ t,u = Value.str x t
 | .byt b,u=>∃ t,u = Value.bytes b t
 | .flt b,u=>∃ t,u = Value.float b t
 | .ref a,u=>u = Value.ref a
 | .ty n,u=>u = Value.type n
abbrev Vals:List V → List Value → Prop:=Paired RelV
theorem Vals.length {xs:List V} {us:List Value} (r:Vals xs us):xs.length = us.length:=Paired.length r
theorem Vals.get:∀ {xs:List V} {us:List Value} {i:Nat} {x:V},Vals xs us → xs[i]? = some x → ∃ u,us[i]? = some u ∧ RelV x u
 | _,_,_,_,.nil,e=>by simp at e
 | _,_,0,_,.cons r _,e=>by simp at e; subst e; exact ⟨_,rfl,r⟩
 | _,_,i + 1,x,.cons _ t,e=>by
  obtain ⟨u,h1,h2⟩:=Vals.get (i:=i) (x:=x) t (by simpa using e)
  exact ⟨u,by simpa using h1,h2⟩
theorem Vals.set {x:V} {u:Value} (r:RelV x u):∀ {xs:List V} {us:List Value} (i:Nat),Vals xs us → Vals (xs.set i x) (us.set i u)
 | _,_,_,.nil=>.nil
 | _,_,0,.cons _ t=>.cons r t
 | _,_,i + 1,.cons q t=>.cons q (Vals.set r i t)
theorem Vals.append:∀ {xs ys:List V} {us ws:List Value},Vals xs us → Vals ys ws → Vals (xs ++ ys) (us ++ ws)
 | _,_,_,_,.nil,s=>s
 | _,_,_,_,.cons r t,s=>.cons r (Vals.append t s)
theorem Vals.take:∀ {xs:List V} {us:List Value} (n:Nat),Vals xs us → Vals (xs.take n) (us.take n)
 | _,_,0,_=>.nil
 | _,_,_ + 1,.nil=>.nil
 | _,_,n + 1,.cons r t=>.cons r (Vals.take n t)
theorem Vals.drop:∀ {xs:List V} {us:List Value} (n:Nat),Vals xs us → Vals (xs.drop n) (us.drop n)
 | _,_,0,r=>r
 | _,_,_ + 1,.nil=>.nil
 | _,_,n + 1,.cons _ t=>Vals.drop n t
theorem Vals.none_of:∀ {xs:List V} {us:List Value} {i:Nat},Vals xs us → xs[i]? = none → us[i]? = none:=fun {xs us i} r e=>by
 have h1:=r.length
 have h2:xs.length ≤ i:=List.getElem?_eq_none_iff.mp e
 exact List.getElem?_eq_none_iff.mpr (by omega)
def oI:Option V → Option Value → Prop
 | some v,some u=>RelV v u
 | none,none=>True
 | _,_=>False
def KV {κ:Type}:List (κ × V) → List (κ × Value) → Prop:=Paired fun (p:κ × V) (q:κ × Value)=>p.1 = q.1 ∧ RelV p.2 q.2
def kV:Key → V
 | .inl i=>.int i
 | .inr x=>.str x
inductive HO where
  | lst (xs:List V)
  | tup (xs:List V)
  | dK (kvs:List (Key × V)) | dT (kvs:List (List Key × V))
  | set (S:Int → Bool) (n:Nat)
  | ins (C dx:Addr) (fs:List (Str × V))
  | own (x:Addr)
  | xd (fs:List (Str × V))
  | met (f x:Addr)
  | rng (lo hi:Int)
  | frz (o:Obj) (u:HO)
  | tbl (ps:Array Value)
  | ext (φ:Heap → Prop)
abbrev Hp:=Addr → Option HO
def upd (H:Hp) (a:Addr) (o:HO):Hp:=fun b=>if b = a then some o else H b
theorem cR {H:Hp} {a:Addr} {o:HO}:upd H a o a = some o:=by unfold upd; rw [if_pos rfl]
theorem aR {H:Hp} {a b:Addr} {o:HO} (h:b ≠ a):upd H a o b = H b:=by unfold upd; rw [if_neg h]
theorem NA {H:Hp} {a b:Addr} {o u:HO} (h:H a = some o) (h':H b = some u) (d:o ≠ u):a ≠ b:=by
 intro e; subst e; rw [h] at h'; exact d (Option.some.inj h')
theorem bu {H:Hp} {a b:Addr} {o:HO} (h:H a = some o) (h':H b = none):a ≠ b:=by
 intro e; subst e; rw [h] at h'; cases h'
section
variable (P:Program) (w:World)
def kF (h:Heap) (a:Addr) (items:Array Value):Prop:=∃ o,h.get? a = some o ∧ o.cls = .type "tuple" ∧ ∃ n,o.data = .seq items n ∧ o.dict = none
theorem kF.t {h:Heap} {a:Addr} {items:Array Value} (x:kF h a items):IsTup h a items:=let ⟨o,e,c,n,d,_⟩:=x; ⟨o,e,c,n,d⟩
theorem kF.new (h:Heap) (items:Array Value):kF (h.push { cls:=.type "tuple",data:=.seq items }) h.objs.size items:=⟨_,Heap.get?_push_size _ rfl,rfl,_,rfl,rfl⟩
def cN (H:Hp) (h:Heap) (a:Addr):HO → Prop
 | .lst xs=>xs.length ≤ sizeLine ∧ ∃ (its:List Value) (n:Nat),Vals xs its ∧ h.get? a = some { cls:=.type "list",data:=.seq its.toArray n }
 | .tup xs=>xs.length ≤ sizeLine ∧ ∃ its:List Value,Vals xs its ∧ kF h a its.toArray
 | .dK kvs=>kvs.length ≤ sizeLine ∧ (a == sysModules) = false ∧ ∃ vs,KV kvs vs ∧ h.DictOf (bN P w) a vs
 | .dT kvs=>kvs.length ≤ sizeLine ∧ (a == sysModules) = false ∧ ∃ xs:List (List Key × Addr × Value),
   Paired (fun (p:List Key × V) (q:List Key × Addr × Value)=>p.1 = q.1 ∧ H q.2.1 = some (.tup (p.1.map kV)) ∧ RelV p.2 q.2.2) kvs xs ∧
   ∃ o es ep,h.get? a = some o ∧ o.ExactDict ∧ o.data = .dict es ep ∧ es.toList = xs.map (entryOfKey (tupleKind (bN P w))) ∧ (xs.map (·.1)).Nodup
 | .set S n=>h.SetOf (intKind P w) a S n
 | .ins C dx fs=>H dx = some (.own a) ∧ fs.length ≤ 1000 ∧ dx ≠ a ∧ h.get? a = some (PySem.W.instObj C dx) ∧
   ∃ mA,h.Ns1 dx mA ∧ (∀ f,oI (fs.lookup f) (mA f)) ∧ PySem.Within mA (fs.map (·.1))
 | .own _=>∃ o,h.get? a = some o
 | .xd fs=>∃ mA,h.Ns1 a mA ∧ ∀ f,oI (fs.lookup f) (mA f)
 | .rng lo hi=>∃ t u v,h.get? a = some { cls:=.type "range",data:=.fields #[.int lo t,.int hi u,.int 1 v] }
 | .frz o u=>h.get? a = some o ∧ cN H h a u
 | .tbl ps=>h.get? a = some { cls:=.none,data:=.fields ps }
 | .met f x=>h.get? a = some (PySem.W.methodObj (.ref f) (.ref x))
 | .ext φ=>φ h ∧ (∃ o,h.get? a = some o) ∧ ∀ h1 h2:Heap,φ h1 → (∀ o,h1.get? a = some o → h2.get? a = some o) → φ h2
def HOk (H:Hp) (h:Heap):Prop:=∀ a o,H a = some o → cN P w H h a o
end
section
variable {P:Program} {w:World} {H H':Hp} {h h':Heap} {a:Addr} {o:HO}
theorem cN.lt (x:cN P w H h a o):a < h.objs.size:=by
 cases o with
 | lst xs=>obtain ⟨_,_,_,_,e⟩:=x; exact Heap.lt_size e
 | tup xs=>obtain ⟨_,_,_,p⟩:=x; exact p.t.lt
 | dK kvs=>obtain ⟨_,_,_,_,o,_,_,e,_⟩:=x; exact Heap.lt_size e
 | dT kvs=>obtain ⟨_,_,_,_,o,_,_,e,_⟩:=x; exact Heap.lt_size e
 | set S n=>obtain ⟨o,_,_,_,e,_⟩:=x; exact Heap.lt_size e
 | ins C dx fs=>obtain ⟨_,_,_,e,_⟩:=x; exact Heap.lt_size e
 | own y=>obtain ⟨_,e⟩:=x; exact Heap.lt_size e
 | xd fs=>obtain ⟨_,⟨_,_,_,e,_⟩,_⟩:=x; exact Heap.lt_size e
 | rng lo hi=>obtain ⟨_,_,_,e⟩:=x; exact Heap.lt_size e
 | frz ob u=>obtain ⟨e,_⟩:=x; exact Heap.lt_size e
 | tbl ps=>exact Heap.lt_size (show h.get? a = some _ from x)
 | met f y=>exact Heap.lt_size (show h.get? a = some _ from x)
 | ext φ=>obtain ⟨_,⟨_,e⟩,_⟩:=x; exact Heap.lt_size e
theorem Paired.L9 {α β:Type} {F G:α → β → Prop}:∀ {l₁:List α} {l₂:List β},Paired F l₁ l₂ → (∀ a b,F a b → G a b) → Paired G l₁ l₂
 | _,_,.nil,_=>.nil
 | _,_,.cons r t,f=>.cons (f _ _ r) (Paired.L9 t f)
theorem cN.vU (x:cN P w H h a o) (k:∀ b u,(b = a ∨ H b = some (.own a)) → h.get? b = some u → h'.get? b = some u)
  (ho:∀ b,H b = some (.own a) → H' b = some (.own a)) (ht:∀ b xs,H b = some (.tup xs) → H' b = some (.tup xs)):cN P w H' h' a o:=by
 induction o with
 | lst xs=>obtain ⟨z,its,n,r,e⟩:=x; exact ⟨z,its,n,r,k _ _ (.inl rfl) e⟩
 | tup xs=>obtain ⟨z,its,r,ob,e,c⟩:=x; exact ⟨z,its,r,ob,k _ _ (.inl rfl) e,c⟩
 | dK kvs=>obtain ⟨z,y,vs,r,ob,es,ep,e,c⟩:=x; exact ⟨z,y,vs,r,ob,es,ep,k _ _ (.inl rfl) e,c⟩
 | dT kvs =>
  obtain ⟨z,y,xs,r,ob,es,ep,e,c⟩:=x
  exact ⟨z,y,xs,Paired.L9 r fun p q z=>⟨z.1,ht _ _ z.2.1,z.2.2⟩,ob,es,ep,k _ _ (.inl rfl) e,c⟩
 | set S n=>obtain ⟨ob,es,ep,t,e,c⟩:=x; exact ⟨ob,es,ep,t,k _ _ (.inl rfl) e,c⟩
 | ins C dx fs =>
  obtain ⟨d,z,ne,e,mA,⟨od,es,ep,e2,c⟩,r⟩:=x
  exact ⟨ho _ d,z,ne,k _ _ (.inl rfl) e,mA,⟨od,es,ep,k _ _ (.inr d) e2,c⟩,r⟩
 | own y=>obtain ⟨ob,e⟩:=x; exact ⟨ob,k _ _ (.inl rfl) e⟩
 | xd fs=>obtain ⟨mA,⟨od,es,ep,e,c⟩,r⟩:=x; exact ⟨mA,⟨od,es,ep,k _ _ (.inl rfl) e,c⟩,r⟩
 | rng lo hi=>obtain ⟨t,u,v,e⟩:=x; exact ⟨t,u,v,k _ _ (.inl rfl) e⟩
 | frz ob u ih=>obtain ⟨e,q⟩:=x; exact ⟨k _ _ (.inl rfl) e,ih q⟩
 | tbl ps =>
  have e:h.get? a = some { cls:=.none,data:=.fields ps }:=x
  show h'.get? a = some { cls:=.none,data:=.fields ps }
  exact k a _ (.inl rfl) e
 | met f y =>
  have e:h.get? a = some (PySem.W.methodObj (.ref f) (.ref y)):=x
  show h'.get? a = some (PySem.W.methodObj (.ref f) (.ref y))
  exact k a _ (.inl rfl) e
 | ext φ=>obtain ⟨p,⟨o,e⟩,st⟩:=x; exact ⟨st _ _ p fun o q=>k _ _ (.inl rfl) q,⟨o,k _ _ (.inl rfl) e⟩,st⟩
theorem HOk.lt (x:HOk P w H h) (e:H a = some o):a < h.objs.size:=(x a o e).lt
theorem HOk.fresh (x:HOk P w H h) (e:h.objs.size ≤ a):H a = none:=by
 cases q:H a with
 | none=>rfl
 | some u=>exact absurd (Nat.lt_of_lt_of_le (x.lt q) e) (Nat.lt_irrefl _)
theorem HOk.kept (x:HOk P w H h) (k:∀ b u,h.get? b = some u → h'.get? b = some u):HOk P w H h':=fun a o e =>
 (x a o e).vU (fun b u _ q=>k b u q) (fun _ q=>q) fun _ _ q=>q
theorem HOk.laid (x:HOk P w H h) (k:∀ b u,h.get? b = some u → h'.get? b = some u) (hp:h.objs.size ≤ a) (new:cN P w (upd H a o) h' a o):HOk P w (upd H a o) h':=fun b u e=>by
 have hn:=x.fresh hp
 by_cases hb:b = a
 ·subst hb; rw [cR] at e; cases e; exact new
 ·rw [aR hb] at e
  exact (x b u e).vU (fun c v _ q=>k c v q) (fun c q=>by rw [aR (bu q hn)]; exact q) fun c xs q=>by rw [aR (bu q hn)]; exact q
end
def Rd (H:Hp) (a:Addr) (u:HO):Prop:=H a = some u ∨ ∃ o,H a = some (.frz o u)
theorem Rd.ok {P:Program} {w:World} {H:Hp} {h:Heap} {a:Addr} {u:HO} (r:Rd H a u) (x:HOk P w H h):cN P w H h a u:=by
 rcases r with r | ⟨o,r⟩
 ·exact x a u r
 ·obtain ⟨_,q⟩:=x a _ r
  exact q
def Mut:Option HO → Prop
 | some (.lst _)=>True
 | some (.dK _)=>True
 | some (.dT _)=>True
 | some (.set _ _)=>True
 | some (.ins _ _ _)=>True
 | some (.ext _)=>True
 | _=>False
section
variable {P:Program} {w:World} {H:Hp} {h h':Heap} {x e:Addr} {o':HO}
theorem HOk.write (ok:HOk P w H h) (mu:Mut (H x)) (he:e = x ∨ H e = some (.own x)) (k:∀ b u,b ≠ e → h.get? b = some u → h'.get? b = some u) (heo:∃ u,h'.get? e = some u)
  (new:cN P w (upd H x o') h' x o'):HOk P w (upd H x o') h':=fun b u q=>by
 have nown:∀ c y,H c = some (.own y) → c ≠ x:=fun c y r z=>by subst z; rw [r] at mu; exact mu
 have ntup:∀ c xs,H c = some (.tup xs) → c ≠ x:=fun c xs r z=>by subst z; rw [r] at mu; exact mu
 by_cases hb:b = x
 ·subst hb; rw [cR] at q; cases q; exact new
 ·rw [aR hb] at q
  by_cases hbe:b = e
  ·have q':H b = some (.own x):=by
    rcases he with z | z
    ·exact absurd (hbe.trans z) hb
    ·rw [hbe]; exact z
   rw [q] at q'; cases q'
   obtain ⟨v,hv⟩:=heo
   exact ⟨v,by rw [hbe]; exact hv⟩
  ·refine (ok b u q).vU (fun c v hc r=>k c v ?_ r) (fun c r=>by rw [aR (nown c b r)]; exact r) fun c xs r=>by rw [aR (ntup c xs r)]; exact r
   rcases hc with rfl | hc
   ·exact hbe
   ·rintro rfl
    rcases he with z | z
    ·exact nown c b hc z
    ·rw [hc] at z; cases z; exact hb rfl
end
structure Un (fs ex:List Addr) (H H':Hp) (h h':Heap):Prop where
 keep:∀ b o,h.get? b = some o → H b = none → b ∉ fs → b ∉ ex → h'.get? b = some o
 slot:∀ b o,h.get? b = some o → H b = none → b ∈ fs → b ∉ ex → ∃ sl,h'.get? b = some { o with slots:=sl }
 free:∀ b o,h.get? b = some o → H b = none → b ∉ ex → H' b = none
 there:∀ b o,h.get? b = some o → b ∉ ex → ∃ o',h'.get? b = some o'
 tups:∀ b xs,H b = some (.tup xs) → H' b = some (.tup xs)
 frzs:∀ b o u,H b = some (.frz o u) → H' b = some (.frz o u)
 tbls:∀ b ps,H b = some (.tbl ps) → ∃ more,H' b = some (.tbl (ps ++ more))
section
variable {fs fs' ex ex':List Addr} {H H1 H2:Hp} {h h1 h2 h':Heap} {a x e:Addr} {o:HO}
theorem Un.any (u:Un fs ex H H1 h h1) {b:Addr} {ob:Obj} (q:h.get? b = some ob) (n:H b = none) (hx:b ∉ ex):∃ sl,h1.get? b = some { ob with slots:=sl }:=by
 by_cases hb:b ∈ fs
 ·exact u.slot b ob q n hb hx
 ·exact ⟨ob.slots,u.keep b ob q n hb hx⟩
theorem Un.kept (k:∀ b u,h.get? b = some u → h'.get? b = some u):Un fs ex H H h h' :=
 ⟨fun b ob q _ _ _=>k b ob q,fun b ob q _ _ _=>⟨ob.slots,k b ob q⟩,fun _ _ _ n _=>n,fun b ob q _=>⟨ob,k b ob q⟩,fun _ _ q=>q,fun _ _ _ q=>q,fun _ ps q=>⟨#[],by rw [q]; simp⟩⟩
theorem Un.refl:Un fs ex H H h h:=Un.kept fun _ _ q=>q
theorem Un.laid (k:∀ b u,h.get? b = some u → h'.get? b = some u) (hp:h.objs.size ≤ a) (hn:H a = none):Un fs ex H (upd H a o) h h' where
 keep:=fun b u q _ _ _=>k b u q
 slot:=fun b u q _ _ _=>⟨u.slots,k b u q⟩
 free:=fun b u q n _=>by rw [aR (Nat.ne_of_lt (Nat.lt_of_lt_of_le (Heap.lt_size q) hp))]; exact n
 there:=fun b u q _=>⟨u,k b u q⟩
 tups:=fun b xs q=>by rw [aR (bu q hn)]; exact q
 frzs:=fun b u xs q=>by rw [aR (bu q hn)]; exact q
 tbls:=fun b ps q=>⟨#[],by rw [aR (bu q hn),q]; simp⟩
theorem Un.write (mu:Mut (H x)) (he:e = x ∨ H e = some (.own x)) (k:∀ b u,b ≠ e → h.get? b = some u → h'.get? b = some u) (heo:∃ u,h'.get? e = some u):Un fs ex H (upd H x o) h h':=by
 have hx:∀ b,H b = none → b ≠ x:=fun b n z=>by subst z; rw [n] at mu; exact mu
 have hb:∀ b,H b = none → b ≠ e:=fun b n z=>by
  subst z
  rcases he with r | r
  ·exact hx b n r
  ·rw [n] at r; cases r
 have hm:∀ b u,H b = some u → ¬ Mut (some u) → b ≠ x:=fun b u q nm z=>by subst z; rw [q] at mu; exact nm mu
 refine ⟨fun b u q n _ _=>k b u (hb b n) q,fun b u q n _ _=>⟨u.slots,k b u (hb b n) q⟩,fun b u q n _=>by rw [aR (hx b n)]; exact n,fun b u q _=>?_,
  fun b xs q=>by rw [aR (hm b _ q fun z=>z)]; exact q,fun b u xs q=>by rw [aR (hm b _ q fun z=>z)]; exact q,fun b ps q=>⟨#[],by rw [aR (hm b _ q fun z=>z),q]; simp⟩⟩
 by_cases hbe:b = e
 ·subst hbe; exact heo
 ·exact ⟨u,k b u hbe q⟩
end
def trk (h:Heap) (H:Hp):List Addr:=(List.range h.objs.size).filter fun a=>(H a).isSome
def AD (h:Heap) (H:Hp):Heap:=PySem.W.hideAll h (trk h H)
theorem EU (h:Heap) (H:Hp):(AD h H).objs.size = h.objs.size:=PySem.W.hideAll_size _ _
theorem G2 {h:Heap} {H:Hp} {b:Addr} {o:Obj} (e:h.get? b = some o) (n:H b = none):(AD h H).get? b = some o :=
 PySem.W.hideAll_get _ e fun hm=>by
  have q:(H b).isSome = true:=(List.mem_filter.mp hm).2
  rw [n] at q; simp at q
theorem J2 {h:Heap} {H:Hp} {b:Addr} {o:Obj} (e:(AD h H).get? b = some o):h.get? b = some o ∧ H b = none:=by
 have e':h.get? b = some o:=PySem.W.of_hideAll (trk h H) e
 refine ⟨e',?_⟩
 cases q:H b with
 | none=>rfl
 | some x =>
  have hm:b ∈ trk h H:=List.mem_filter.mpr ⟨List.mem_range.mpr (Heap.lt_size e'),by simp [q]⟩
  have z:(AD h H).get? b = none:=PySem.W.hideAll_none (trk h H) hm
  rw [z] at e; cases e
def JL (g h:Heap) (L:Addr):List (Addr × Obj):=(List.range h.objs.size).filterMap fun a=>if a = L ∨ (g.get? a).isSome = true then none else (h.get? a).map fun o=>(a,o)
def rest (g h:Heap) (L d:Addr):List (Addr × Obj):=(JL g h L).filter fun p=>decide (p.1 ≠ d)
end L2
namespace L2
open PySem PySem.Spec PyProof.Rows
structure Mod (K:PySem.W.Frag) (mg:Str → Option Value) (base:Heap):Prop where
 kin:K.In base
 glob:base.Ns mainGlobals mg
 blt:∃ mb,base.Ns builtinsNs mb ∧ ∀ x:Str,x ≠ "__name__" → mb x = bootBuiltins x
 nolimit:base.NoLimit
structure Cx where
 prog:Program
 w:World
 K:PySem.W.Frag
 mg:Str → Option Value
 base:Heap
 A:Around
 N:List Str
 s₀:Shared
 H₀:Hp
 env:Env
 outer:List Env
 stack:List Env
 ex:List Addr
 fn:Str → Bool
 calm:Bool
 pn:List (Addr × Obj)
 xe:Value → Shared → Prop
def frs (l:List Env):List Addr:=l.filterMap (·.frame)
abbrev Cx.fs (X:Cx):List Addr:=frs X.outer
def Vis (sc:Scope) (x:Str):Prop:=sc.names.lookup x = some .local ∨ sc.names.lookup x = some .cell ∨ sc.names.lookup x = some .free
def Loc (sc:Scope) (x:Str):Prop:=sc.names.lookup x = some .local ∨ sc.names.lookup x = some .cell
def Look (env:Env) (h:Heap) (m:Str → Option Value) (x:Str) (u:Value):Prop :=
 (env.kindOf x = some .local ∧ m x = some u) ∨ ((env.kindOf x = some .cell ∨ env.kindOf x = some .free) ∧ ∃ c,env.cells.lookup x = some c ∧ h.IsCell c (some u))
structure Cx.Ok (X:Cx):Prop where
 mod:Mod X.K X.mg X.base
 kind:X.env.scope.kind = .function
 glob:X.env.globals = mainGlobals
 blt:X.env.builtins = builtinsNs
 above:X.s₀.heap.objs.size ≤ X.env.locals
 inj:∀ x y c,X.env.cells.lookup x = some c → X.env.cells.lookup y = some c → x = y
 has:∀ x,(X.env.kindOf x = some .cell ∨ X.env.kindOf x = some .free) → ∃ c,X.env.cells.lookup x = some c
 cab:∀ x c,X.fn x = true → X.env.cells.lookup x = some c → X.s₀.heap.objs.size ≤ c
 hd:X.calm = true → X.A.handled = none
 frames:X.A.frames = some X.stack
 stk:X.stack = X.outer ∨ (X.stack = X.env :: X.outer ∧ X.env.frame = some X.env.locals)
 exf:∀ b ∈ X.ex,b ≠ X.env.locals ∧ ∀ x c,X.env.cells.lookup x = some c → c ≠ b
 bs:∀ b o,X.base.get? b = some o → X.s₀.heap.get? b = some o ∧ X.H₀ b = none
 bsz:X.base.objs.size ≤ X.s₀.heap.objs.size
 noex:∀ b o,X.base.get? b = some o → b ∉ X.ex
 exfs:∀ b ∈ X.ex,b ∉ X.fs
 vB:X.s₀.heap.FunFrames X.base X.outer
 frf:∀ b ∈ X.fs,X.H₀ b = none
structure Inv (X:Cx) (pins:List (Addr × Obj)) (σ:List (Option V)) (H:Hp) (s:Shared):Prop where
 ok:X.Ok
 os:s.os = X.s₀.os
 bare:AllBare s.gens
 base:Un X.fs X.ex X.H₀ H X.s₀.heap s.heap
 loc:∃ m,s.heap.Ns X.env.locals m ∧ ∀ (i:Nat) (x:Str) (v:V),X.N[i]? = some x → σ[i]? = some (some v) → Vis X.env.scope x → ∃ u,RelV v u ∧ Look X.env s.heap m x u
 cell:∀ x c,X.env.cells.lookup x = some c → ∃ v,s.heap.IsCell c v
 free:H X.env.locals = none
 freeC:∀ x c,X.env.cells.lookup x = some c → H c = none
 pin:∀ p ∈ X.pn ++ pins,s.heap.get? p.1 = some p.2 ∧ H p.1 = none ∧ p.1 ≠ X.env.locals ∧ p.1 ∉ X.fs ∧ ∀ v,p.2.data ≠ .cell v
 hok:HOk X.prog X.w H s.heap
 len:σ.length = X.N.length
section
variable {X:Cx} {pins:List (Addr × Obj)} {σ:List (Option V)} {H H':Hp} {s:Shared} {h':Heap}
theorem Cx.Ok.Px (ok:X.Ok) {b:Addr} {o:Obj} (e:X.base.get? b = some o):b ∉ X.fs:=fun hb=>by
 have:=(ok.vB.mem hb).1
 rw [e] at this; cases this
theorem Inv.bs (I:Inv X pins σ H s):∀ b o,X.base.get? b = some o → s.heap.get? b = some o ∧ H b = none:=fun b o e =>
 ⟨I.base.keep b o (I.ok.bs b o e).1 (I.ok.bs b o e).2 (I.ok.Px e) (I.ok.noex b o e),I.base.free b o (I.ok.bs b o e).1 (I.ok.bs b o e).2 (I.ok.noex b o e)⟩
theorem Inv.bk (I:Inv X pins σ H s):∀ b o,X.base.get? b = some o → s.heap.get? b = some o:=fun b o e=>(I.bs b o e).1
theorem Inv.mod (I:Inv X pins σ H s):Mod X.K X.mg X.base:=I.ok.mod
theorem Inv.kIn (I:Inv X pins σ H s):X.K.In s.heap:=I.ok.mod.kin.keeps I.bk
theorem Inv.lt (I:Inv X pins σ H s):X.env.locals < s.heap.objs.size:=let ⟨_,hn,_⟩:=I.loc; hn.lt
theorem Inv.sz (I:Inv X pins σ H s):X.s₀.heap.objs.size ≤ s.heap.objs.size:=Nat.le_trans I.ok.above (Nat.le_of_lt I.lt)
theorem Inv.OS (I:Inv X pins σ H s) {a:Addr} (h:s.heap.objs.size ≤ a):a ∉ X.fs:=fun hb=>by
 obtain ⟨_,o,ho,_⟩:=I.ok.vB.mem hb
 exact absurd (Nat.lt_of_lt_of_le (Heap.lt_size ho) (Nat.le_trans I.sz h)) (Nat.lt_irrefl _)
theorem Inv.cne (I:Inv X pins σ H s):∀ x c,X.env.cells.lookup x = some c → c ≠ X.env.locals:=fun x c e z=>by
 obtain ⟨v,o,ho,hd⟩:=I.cell x c e
 obtain ⟨m,⟨o',es,ep,ho',hd',_⟩,_⟩:=I.loc
 rw [z,ho'] at ho; cases ho; rw [hd'] at hd; cases hd
theorem Inv.vB (I:Inv X pins σ H s):s.heap.FunFrames X.base X.outer:=by
 have all:∀ (l:List Env),(∀ b ∈ frs l,b ∈ X.fs) → X.s₀.heap.FunFrames X.base l → s.heap.FunFrames X.base l:=by
  intro l
  induction l with
  | nil=>intro _ _; trivial
  | cons env r ih =>
   intro hs hl
   obtain ⟨hk,⟨L,o,hf,hn,ho,hd⟩,hr⟩:=hl
   have hL:L ∈ X.fs:=hs L (by unfold frs; rw [List.filterMap_cons,hf]; exact List.mem_cons_self)
   obtain ⟨sl,e⟩:=I.base.slot L o ho (I.ok.frf L hL) hL fun z=>I.ok.exfs L z hL
   exact ⟨hk,⟨L,_,hf,hn,e,hd⟩,ih (fun b hb=>hs b (by unfold frs; rw [List.filterMap_cons,hf]; exact List.mem_cons_of_mem _ hb)) hr⟩
 exact all X.outer (fun _ hb=>hb) I.ok.vB
theorem Inv.stack (I:Inv X pins σ H s):s.heap.FunFrames X.base X.stack:=by
 rcases I.ok.stk with e | ⟨e,hf⟩
 ·rw [e]; exact I.vB
 ·rw [e]
  obtain ⟨m,hn,_⟩:=I.loc
  refine .cons (by rw [I.ok.kind]; decide) hf hn ?_ I.vB
  exact Heap.get?_none_of_le (Nat.le_trans I.ok.bsz I.ok.above)
theorem Inv.uN (I:Inv X pins σ H s):∀ b ∈ frs X.stack,b ∈ X.env.locals :: X.fs:=fun b hb=>by
 rcases I.ok.stk with e | ⟨e,hf⟩
 ·rw [e] at hb; exact List.mem_cons_of_mem _ hb
 ·rw [e] at hb
  unfold frs at hb
  rw [List.filterMap_cons,hf] at hb
  exact hb
theorem Inv.zH (I:Inv X pins σ H s):∀ b ∈ frs X.stack,H b = none:=fun b hb=>by
 rcases List.mem_cons.mp (I.uN b hb) with e | hb
 ·rw [e]; exact I.free
 ·obtain ⟨_,o,ho,_⟩:=I.ok.vB.mem hb
  exact I.base.free b o ho (I.ok.frf b hb) fun z=>I.ok.exfs b z hb
theorem Inv.step {g':Array GenState} {t':Nat} {d':Drawn} {ch:List Addr} (I:Inv X pins σ H s)
  (hch:∀ b ∈ ch,(b ∈ X.ex ∨ X.s₀.heap.objs.size ≤ b) ∧ b ≠ X.env.locals ∧ (∀ x c,X.env.cells.lookup x = some c → c ≠ b) ∧ ∀ p ∈ X.pn ++ pins,p.1 ≠ b)
  (keep:∀ b o,b ≠ X.env.locals → b ∉ X.fs → b ∉ ch → s.heap.get? b = some o → H b = none → h'.get? b = some o)
  (slot:∀ b o,b ≠ X.env.locals → b ∈ X.fs → b ∉ ch → s.heap.get? b = some o → H b = none → ∃ sl,h'.get? b = some { o with slots:=sl }) (free:∀ b o,b ∉ ch → s.heap.get? b = some o → H b = none → H' b = none)
  (there:∀ b o,b ∉ ch → s.heap.get? b = some o → ∃ o',h'.get? b = some o')
  (tups:∀ b xs,H b = some (.tup xs) → H' b = some (.tup xs)) (frzs:∀ b o u,H b = some (.frz o u) → H' b = some (.frz o u)) (tbls:∀ b ps,H b = some (.tbl ps) → ∃ more,H' b = some (.tbl (ps ++ more)))
  (ns:∀ m,s.heap.Ns X.env.locals m → h'.Ns X.env.locals m) (hok:HOk X.prog X.w H' h') (hg:AllBare g') :
  Inv X pins σ H' { s with heap:=h',gens:=g',drawn:=d',toks:=t' }:=by
 have neL:∀ b o,X.s₀.heap.get? b = some o → b ≠ X.env.locals:=fun b o e=>Nat.ne_of_lt (Nat.lt_of_lt_of_le (Heap.lt_size e) I.ok.above)
 have neC:∀ b o,X.s₀.heap.get? b = some o → b ∉ X.ex → b ∉ ch:=fun b o e hx hb=>by
  rcases (hch b hb).1 with z | z
  ·exact hx z
  ·exact absurd (Nat.lt_of_lt_of_le (Heap.lt_size e) z) (Nat.lt_irrefl _)
 have cellK:∀ x c,X.env.cells.lookup x = some c → ∀ v,s.heap.IsCell c v → h'.IsCell c v:=fun x c e v ⟨o,ho,hd⟩=>by
  have nch:c ∉ ch:=fun z=>(hch c z).2.2.1 x c e rfl
  by_cases hc:c ∈ X.fs
  ·obtain ⟨sl,q⟩:=slot c o (I.cne x c e) hc nch ho (I.freeC x c e)
   exact ⟨_,q,hd⟩
  ·exact ⟨o,keep c o (I.cne x c e) hc nch ho (I.freeC x c e),hd⟩
 refine ⟨I.ok,I.os,hg,⟨fun b o e n hb hx=>?_,fun b o e n hb hx=>?_,fun b o e n hx=>?_,fun b o e hx=>?_,fun b xs e=>tups b xs (I.base.tups b xs e),fun b o xs e=>frzs b o xs (I.base.frzs b o xs e),fun b ps e=>?_⟩,?_,fun x c e=>?_,?_,fun x c e=>?_,fun p hp=>?_,hok,I.len⟩
 ·exact keep b o (neL b o e) hb (neC b o e hx) (I.base.keep b o e n hb hx) (I.base.free b o e n hx)
 ·obtain ⟨sl,e1⟩:=I.base.slot b o e n hb hx
  obtain ⟨sl',e2⟩:=slot b _ (neL b o e) hb (neC b o e hx) e1 (I.base.free b o e n hx)
  exact ⟨sl',e2⟩
 ·obtain ⟨o',e1⟩:=I.base.there b o e hx
  exact free b o' (neC b o e hx) e1 (I.base.free b o e n hx)
 ·obtain ⟨o',e1⟩:=I.base.there b o e hx
  exact there b o' (neC b o e hx) e1
 ·obtain ⟨m1,e1⟩:=I.base.tbls b ps e
  obtain ⟨m2,e2⟩:=tbls b _ e1
  exact ⟨m1 ++ m2,by rw [e2,Array.append_assoc]⟩
 ·obtain ⟨m,hn,hl⟩:=I.loc
  refine ⟨m,ns m hn,fun i x v e1 e2 e3=>?_⟩
  obtain ⟨u,r,l⟩:=hl i x v e1 e2 e3
  refine ⟨u,r,?_⟩
  rcases l with l | ⟨k,c,e,z⟩
  ·exact .inl l
  ·exact .inr ⟨k,c,e,cellK x c e _ z⟩
 ·obtain ⟨v,z⟩:=I.cell x c e
  exact ⟨v,cellK x c e v z⟩
 ·obtain ⟨m,⟨o,_,_,ho,_⟩,_⟩:=I.loc
  exact free _ o (fun z=>(hch _ z).2.1 rfl) ho I.free
 ·obtain ⟨v,o,ho,hd⟩:=I.cell x c e
  exact free c o (fun z=>(hch c z).2.2.1 x c e rfl) ho (I.freeC x c e)
 ·obtain ⟨e,n,ne,nf,d⟩:=I.pin p hp
  have nch:p.1 ∉ ch:=fun z=>(hch p.1 z).2.2.2 p hp rfl
  exact ⟨keep p.1 p.2 ne nf nch e n,free p.1 p.2 nch e n,ne,nf,d⟩
theorem Inv.un {t':Nat} (I:Inv X pins σ H s) (u:Un X.fs [] H H' s.heap h') (hok:HOk X.prog X.w H' h'):Inv X pins σ H' { s with heap:=h',toks:=t' }:=by
 obtain ⟨m,⟨o,es,ep,ho,r⟩,_⟩:=id I.loc
 obtain ⟨sl,hL⟩:=u.any ho I.free (by simp)
 exact I.step (g':=s.gens) (d':=s.drawn) (ch:=[]) (fun _ z=>nomatch z) (fun b o _ hb _ e n=>u.keep b o e n hb (by simp)) (fun b o _ hb _ e n=>u.slot b o e n hb (by simp)) (fun b o _ e n=>u.free b o e n (by simp)) (fun b o _ e=>u.there b o e (by simp)) u.tups u.frzs u.tbls (fun m' hm=>by
  obtain ⟨o',es',ep',ho',r'⟩:=hm
  rw [ho] at ho'; cases ho'
  exact ⟨_,es',ep',hL,r'⟩) hok I.bare
theorem Inv.call {g':Array GenState} {t':Nat} {d':Drawn} {ch:List Addr} (I:Inv X pins σ H s) (u:Un (frs X.stack) ch H H' s.heap h') (hok:HOk X.prog X.w H' h') (hg:AllBare g')
  (hch:∀ b ∈ ch,(b ∈ X.ex ∨ X.s₀.heap.objs.size ≤ b) ∧ b ≠ X.env.locals ∧ (∀ x c,X.env.cells.lookup x = some c → c ≠ b) ∧ ∀ p ∈ X.pn ++ pins,p.1 ≠ b) :
  Inv X pins σ H' { s with heap:=h',gens:=g',drawn:=d',toks:=t' }:=by
 obtain ⟨m,⟨o,es,ep,ho,r⟩,_⟩:=id I.loc
 obtain ⟨sl,hL⟩:=u.any ho I.free fun z=>(hch _ z).2.1 rfl
 exact I.step (ch:=ch) hch (fun b o hL hb hc e n=>u.keep b o e n (fun z=>(List.mem_cons.mp (I.uN b z)).elim hL hb) hc) (fun b o _ _ hc e n=>u.any e n hc) (fun b o hc e n=>u.free b o e n hc) (fun b o hc e=>u.there b o e hc) u.tups u.frzs u.tbls (fun m' hm=>by
  obtain ⟨o',es',ep',ho',r'⟩:=hm
  rw [ho] at ho'; cases ho'
  exact ⟨_,es',ep',hL,r'⟩) hok hg
theorem Inv.turned {t':Nat} {it:Addr} (I:Inv X pins σ H s) (k:∀ b o,b ≠ it → s.heap.get? b = some o → h'.get? b = some o) (hn:H it = none) (hL:it ≠ X.env.locals)
  (h1:it ∈ X.ex ∨ X.s₀.heap.objs.size ≤ it) (h2:∀ x c,X.env.cells.lookup x = some c → c ≠ it) (h3:∀ p ∈ X.pn ++ pins,p.1 ≠ it):Inv X pins σ H { s with heap:=h',toks:=t' }:=by
 have nit:∀ b u,H b = some u → b ≠ it:=fun b u e z=>by rw [z,hn] at e; cases e
 refine I.step (g':=s.gens) (d':=s.drawn) (ch:=[it]) (fun b hb=>?_) (fun b o _ _ hc e _=>k b o (fun z=>hc (by simp [z])) e) (fun b o _ _ hc e _=>⟨o.slots,k b o (fun z=>hc (by simp [z])) e⟩) (fun _ _ _ _ n=>n)
  (fun b o hc e=>⟨o,k b o (fun z=>hc (by simp [z])) e⟩) (fun _ _ e=>e) (fun _ _ _ e=>e) (fun b ps e=>⟨#[],by rw [e]; simp⟩) (fun m hm=>?_) (fun b u e=>?_) I.bare
 ·have e:b = it:=by simpa using hb
  subst e
  exact ⟨h1,hL,h2,h3⟩
 ·obtain ⟨o,es,ep,ho,r⟩:=hm
  exact ⟨o,es,ep,k _ o (Ne.symm hL) ho,r⟩
 ·refine (I.hok b u e).vU (fun c v hc q=>k c v ?_ q) (fun _ q=>q) fun _ _ q=>q
  rcases hc with z | z
  ·rw [z]; exact nit b u e
  ·exact nit c _ z
theorem Inv.tok (I:Inv X pins σ H s) (t:Nat):Inv X pins σ H { s with toks:=t }:=I.un (h':=s.heap) (t':=t) Un.refl I.hok
theorem Inv.kept {t':Nat} (I:Inv X pins σ H s) (k:∀ b u,s.heap.get? b = some u → h'.get? b = some u):Inv X pins σ H { s with heap:=h',toks:=t' }:=I.un (Un.kept k) (I.hok.kept k)
theorem Inv.laid {a:Addr} {o:HO} {t':Nat} (I:Inv X pins σ H s) (k:∀ b u,s.heap.get? b = some u → h'.get? b = some u) (hp:s.heap.objs.size ≤ a) (new:cN X.prog X.w (upd H a o) h' a o) :
  Inv X pins σ (upd H a o) { s with heap:=h',toks:=t' }:=I.un (Un.laid k hp (I.hok.fresh hp)) (I.hok.laid k hp new)
theorem Inv.write {x e:Addr} {o:HO} {t':Nat} (I:Inv X pins σ H s) (mu:Mut (H x)) (he:e = x ∨ H e = some (.own x)) (k:∀ b u,b ≠ e → s.heap.get? b = some u → h'.get? b = some u) (heo:∃ u,h'.get? e = some u)
  (new:cN X.prog X.w (upd H x o) h' x o):Inv X pins σ (upd H x o) { s with heap:=h',toks:=t' }:=I.un (Un.write mu he k heo) (I.hok.write mu he k heo new)
theorem Inv.zO {pins':List (Addr × Obj)} (I:Inv X pins σ H s) (h:∀ p ∈ pins',s.heap.get? p.1 = some p.2 ∧ H p.1 = none ∧ p.1 ≠ X.env.locals ∧ p.1 ∉ X.fs ∧ ∀ v,p.2.data ≠ .cell v):Inv X pins' σ H s :=
 ⟨I.ok,I.os,I.bare,I.base,I.loc,I.cell,I.free,I.freeC,fun p hp=>(List.mem_append.mp hp).elim (fun z=>I.pin p (List.mem_append_left _ z)) (h p),I.hok,I.len⟩
theorem wW {N:List Str} (hN:N.Nodup) {i j:Nat} {x:Str} (a:N[i]? = some x) (b:N[j]? = some x):i = j:=by
 obtain ⟨h1,e1⟩:=List.getElem?_eq_some_iff.mp a
 obtain ⟨h2,e2⟩:=List.getElem?_eq_some_iff.mp b
 exact (List.getElem_inj hN).mp (e1.trans e2.symm)
theorem yL {M:Model} {A:Around} {E:Value → Shared → Prop} {i:Nat} {x:Str} {v:V} {u:Value} {Q:Unit → Shared → Prop} (I:Inv X pins σ H s) (hN:X.N.Nodup) (hi:X.N[i]? = some x) (hx:Loc X.env.scope x) (r:RelV v u)
  (h:∀ s',Inv X pins (σ.set i (some v)) H s' → (∃ a,Heap.SameBut a s.heap s'.heap ∧ (a = X.env.locals ∨ X.env.cells.lookup x = some a)) → Q () s') (hf:X.fn x = true ∨ X.env.scope.names.lookup x = some .local:=by first | exact .inl rfl | exact .inr rfl | assumption):wpAny M A (storeName X.env x u) Q E s:=by
 obtain ⟨m,hn,hl⟩:=id I.loc
 have hcls:(X.env.scope.kind == .class || (X.env.scope.kind == .module && X.env.locals != X.env.globals)) = false:=by rw [I.ok.kind]; rfl
 have hiσ:i < σ.length:=by rw [I.len]; exact (List.getElem?_eq_some_iff.mp hi).1
 have cne:=I.cne
 have tracked:∀ {a:Addr} {h':Heap},(∃ o,s.heap.get? a = some o ∧ H a = none) → Heap.SameBut a s.heap h' → HOk X.prog X.w H h':=fun {a h'} ha hs b ob e=>by
  obtain ⟨_,_,hfree⟩:=ha
  refine (I.hok b ob e).vU (fun c w' hc q=>(hs.2 c ?_).trans q) (fun _ q=>q) fun _ _ q=>q
  rintro rfl
  rcases hc with rfl | hc
  ·rw [hfree] at e; cases e
  ·rw [hfree] at hc; cases hc
 rcases hx with hk | hk
 ·refine wpAny_storeName_local hk hn (fun h' hn' hs=>?_) hcls
  obtain ⟨oL,_,_,hoL,_⟩:=id hn
  refine h _ ⟨I.ok,I.os,I.bare,⟨fun b o e n hb hx=>?_,fun b o e n hb hx=>?_,I.base.free,fun b o e hx=>?_,I.base.tups,I.base.frzs,I.base.tbls⟩,⟨_,hn',fun j y v' e1 e2 e3=>?_⟩,fun y c e=>?_,I.free,I.freeC,fun p hp=>?_,tracked ⟨oL,hoL,I.free⟩ hs,by simpa using I.len⟩ ⟨_,hs,.inl rfl⟩
  ·exact (hs.2 b (Nat.ne_of_lt (Nat.lt_of_lt_of_le (Heap.lt_size e) I.ok.above))).trans (I.base.keep b o e n hb hx)
  ·obtain ⟨sl,e1⟩:=I.base.slot b o e n hb hx
   exact ⟨sl,(hs.2 b (Nat.ne_of_lt (Nat.lt_of_lt_of_le (Heap.lt_size e) I.ok.above))).trans e1⟩
  ·obtain ⟨o',e1⟩:=I.base.there b o e hx
   exact ⟨o',(hs.2 b (Nat.ne_of_lt (Nat.lt_of_lt_of_le (Heap.lt_size e) I.ok.above))).trans e1⟩
  ·by_cases hj:j = i
   ·subst hj
    rw [hi] at e1; cases e1
    rw [List.getElem?_set_self hiσ] at e2
    cases e2
    exact ⟨u,r,.inl ⟨hk,by simp⟩⟩
   ·rw [List.getElem?_set_ne (Ne.symm hj)] at e2
    obtain ⟨u',r',q⟩:=hl j y v' e1 e2 e3
    refine ⟨u',r',?_⟩
    rcases q with ⟨k,e⟩ | ⟨k,c,e,z⟩
    ·refine .inl ⟨k,?_⟩
     have:y ≠ x:=fun e=>hj (wW hN e1 (e ▸ hi))
     simp [this,e]
    ·exact .inr ⟨k,c,e,z.sameBut hs (cne y c e)⟩
  ·obtain ⟨w',z⟩:=I.cell y c e
   exact ⟨w',z.sameBut hs (cne y c e)⟩
  ·obtain ⟨e,n,ne,nf,d⟩:=I.pin p hp
   exact ⟨(hs.2 p.1 ne).trans e,n,ne,nf,d⟩
 ·have hfn:X.fn x = true:=by
   rcases hf with z | z
   ·exact z
   ·rw [z] at hk; cases hk
  obtain ⟨c,hc⟩:=I.ok.has x (.inl hk)
  obtain ⟨w',z⟩:=I.cell x c hc
  refine wpAny_storeName_cell I.ok.kind hk hc z (fun h' hc' hs=>?_)
  obtain ⟨oc,hoc,hocd⟩:=id z
  refine h { s with heap:=h' } ⟨I.ok,I.os,I.bare,⟨fun b o e n hb hx=>?_,fun b o e n hb hx=>?_,I.base.free,fun b o e hx=>?_,I.base.tups,I.base.frzs,I.base.tbls⟩,⟨m,hn.sameBut hs (Ne.symm (cne x c hc)),fun j y v' e1 e2 e3=>?_⟩,fun y c' e=>?_,I.free,I.freeC,fun p hp=>?_,tracked ⟨oc,hoc,I.freeC x c hc⟩ hs,by simpa using I.len⟩ ⟨c,hs,.inr hc⟩
  ·exact (hs.2 b (Nat.ne_of_lt (Nat.lt_of_lt_of_le (Heap.lt_size e) (I.ok.cab x c hfn hc)))).trans (I.base.keep b o e n hb hx)
  ·obtain ⟨sl,e1⟩:=I.base.slot b o e n hb hx
   exact ⟨sl,(hs.2 b (Nat.ne_of_lt (Nat.lt_of_lt_of_le (Heap.lt_size e) (I.ok.cab x c hfn hc)))).trans e1⟩
  ·obtain ⟨o',e1⟩:=I.base.there b o e hx
   exact ⟨o',(hs.2 b (Nat.ne_of_lt (Nat.lt_of_lt_of_le (Heap.lt_size e) (I.ok.cab x c hfn hc)))).trans e1⟩
  ·by_cases hj:j = i
   ·subst hj
    rw [hi] at e1; cases e1
    rw [List.getElem?_set_self hiσ] at e2
    cases e2
    exact ⟨u,r,.inr ⟨.inl hk,c,hc,hc'⟩⟩
   ·rw [List.getElem?_set_ne (Ne.symm hj)] at e2
    obtain ⟨u',r',q⟩:=hl j y v' e1 e2 e3
    refine ⟨u',r',?_⟩
    rcases q with q | ⟨k,c',e,z'⟩
    ·exact .inl q
    ·refine .inr ⟨k,c',e,z'.sameBut hs ?_⟩
     rintro rfl
     exact hj (wW hN e1 (I.ok.inj _ _ _ e hc ▸ hi))
  ·by_cases hcc:c' = c
   ·subst hcc; exact ⟨_,hc'⟩
   ·obtain ⟨w2,z2⟩:=I.cell y c' e
    exact ⟨w2,z2.sameBut hs hcc⟩
  ·obtain ⟨e,n,ne,nf,d⟩:=I.pin p hp
   refine ⟨(hs.2 p.1 ?_).trans e,n,ne,nf,d⟩
   intro q
   rw [q,hoc] at e
   have q':oc = p.2:=Option.some.inj e
   exact d w' (by rw [← q']; exact hocd)
theorem m4 {M:Model} {A:Around} {E:Value → Shared → Prop} {i:Nat} {x:Str} {v:V} {u:Value} {Q:Unit → Shared → Prop} (I:Inv X pins σ H s) (hN:X.N.Nodup) (hi:X.N[i]? = some x) (hx:Loc X.env.scope x) (r:RelV v u)
  (h:∀ s',Inv X pins (σ.set i (some v)) H s' → Q () s') (hf:X.fn x = true ∨ X.env.scope.names.lookup x = some .local:=by first | exact .inl rfl | exact .inr rfl | assumption):wpAny M A (storeName X.env x u) Q E s :=
 yL I hN hi hx r (fun s' I' _=>h s' I') hf
theorem Inv.KH {s':Shared} {ch:List Addr} (I:Inv X pins σ H s) (ho:s'.os = s.os) (u:Un (frs X.stack) ch H H' s.heap s'.heap) (hok:HOk X.prog X.w H' s'.heap) (hg:AllBare s'.gens)
  (hch:∀ b ∈ ch,(b ∈ X.ex ∨ X.s₀.heap.objs.size ≤ b) ∧ b ≠ X.env.locals ∧ (∀ x c,X.env.cells.lookup x = some c → c ≠ b) ∧ ∀ p ∈ X.pn ++ pins,p.1 ≠ b):Inv X pins σ H' s':=by
 obtain ⟨h',g',d',t',o'⟩:=s'
 have e:o' = s.os:=ho
 subst e
 exact I.call (g':=g') (t':=t') (d':=d') u hok hg hch
end
abbrev XK:=Value → Option Addr → Hp → Prop
abbrev St:=List (Option V)
abbrev VK:=V → Hp → Prop
abbrev TE:=St → Hp → VK → Prop
abbrev TT:=St → Hp → (Bool → Hp → Prop) → Prop
abbrev TA:=St → Hp → (List V → Hp → Prop) → Prop
structure Ends where
 nx:St → Hp → Prop
 rt:VK
 bk:St → Hp → Prop:=fun _ _=>False
 ct:St → Hp → Prop:=fun _ _=>False
abbrev TS:=Ends → St → Hp → Prop
def EP (X:Cx) (pins:List (Addr × Obj)) (σ:St) (Q:VK) (u:Value) (s':Shared):Prop:=∃ v H',Inv X pins σ H' s' ∧ RelV v u ∧ Q v H'
def TP (X:Cx) (pins:List (Addr × Obj)) (σ:St) (Q:Bool → Hp → Prop) (b:Bool) (s':Shared):Prop:=∃ H',Inv X pins σ H' s' ∧ Q b H'
def AP (X:Cx) (pins:List (Addr × Obj)) (σ:St) (Q:List V → Hp → Prop) (us:List Value) (s':Shared):Prop:=∃ vs H',Inv X pins σ H' s' ∧ Vals vs us ∧ Q vs H'
def SP (X:Cx) (pins:List (Addr × Obj)) (D:Ends) (f:Flow) (s':Shared):Prop :=
 match f with
 | .next=>∃ σ' H',Inv X pins σ' H' s' ∧ D.nx σ' H'
 | .brk=>∃ σ' H',Inv X pins σ' H' s' ∧ D.bk σ' H'
 | .cont=>∃ σ' H',Inv X pins σ' H' s' ∧ D.ct σ' H'
 | .ret u=>∃ v σ' H',Inv X pins σ' H' s' ∧ RelV v u ∧ D.rt v H'
def PE (X:Cx) (e:Expr) (t:TE):Prop :=
 ∀ (pins:List (Addr × Obj)) (s:Shared) (σ:St) (H:Hp) (Q:VK),Inv X pins σ H s → t σ H Q → wpAny (model X.prog X.w) X.A (eval e X.env) (EP X pins σ Q) X.xe s
def PT (X:Cx) (e:Expr) (t:TT):Prop :=
 ∀ (pins:List (Addr × Obj)) (s:Shared) (σ:St) (H:Hp) (Q:Bool → Hp → Prop),Inv X pins σ H s → t σ H Q → wpAny (model X.prog X.w) X.A (isTrue e X.env (eval e X.env)) (TP X pins σ Q) X.xe s
def PW (X:Cx) (e:Expr) (t:TT):Prop :=
 ∀ (whole:Sem Value) (pins:List (Addr × Obj)) (s:Shared) (σ:St) (H:Hp) (Q:Bool → Hp → Prop),Inv X pins σ H s → t σ H Q → wpAny (model X.prog X.w) X.A (isTrue e X.env whole) (TP X pins σ Q) X.xe s
theorem PW.pt {X:Cx} {e:Expr} {t:TT} (h:PW X e t):PT X e t:=h _
def PA (X:Cx) (es:List Expr) (t:TA):Prop :=
 ∀ (pos:Pos) (pins:List (Addr × Obj)) (s:Shared) (σ:St) (H:Hp) (Q:List V → Hp → Prop),Inv X pins σ H s → t σ H Q → wpAny (model X.prog X.w) X.A (spliced (backTo pos (starEach es X.env))) (AP X pins σ Q) X.xe s
def PS (X:Cx) (st:Stmt) (t:TS):Prop :=
 ∀ (pins:List (Addr × Obj)) (s:Shared) (σ:St) (H:Hp) (D:Ends),Inv X pins σ H s → t D σ H → wpAny (model X.prog X.w) X.A (exec st X.env) (SP X pins D) X.xe s
def PSs (X:Cx) (st:List Stmt) (t:TS):Prop :=
 ∀ (pins:List (Addr × Obj)) (s:Shared) (σ:St) (H:Hp) (D:Ends),Inv X pins σ H s → t D σ H → wpAny (model X.prog X.w) X.A (execs st X.env) (SP X pins D) X.xe s
theorem thn {α:Type} {t:Sem α} {Q Q':α → Shared → Prop} {M:Model} {A:Around} {E:Value → Shared → Prop} {s:Shared} (h:wpAny M A t Q E s) (hQ:∀ a s,Q a s → Q' a s):wpAny M A t Q' E s:=wpAny_mono h hQ fun _ _ x=>x
end L2
namespace L2
open PySem PySem.Spec PyProof.Rows
section
variable {X:Cx}
theorem bin {a b:Expr} {ta tb:TE} (ha:PE X a ta) (hb:PE X b tb) {pins:List (Addr × Obj)} {s:Shared} {σ:St} {H:Hp} {R:V → V → Hp → Prop} (I:Inv X pins σ H s) (h:ta σ H fun x H1=>tb σ H1 fun y H2=>R x y H2)
  {α:Type} {Q:α → Shared → Prop} {f:Value → Value → Sem α}
  (hf:∀ v u s2 x y H2,Inv X pins σ H2 s2 → RelV x v → RelV y u → R x y H2 → wpAny (model X.prog X.w) X.A (f v u) Q X.xe s2) :
  wpAny (model X.prog X.w) X.A (eval a X.env) (fun v s₁=>wpAny (model X.prog X.w) X.A (eval b X.env) (fun u s₂=>wpAny (model X.prog X.w) X.A (f v u) Q X.xe s₂) X.xe s₁) X.xe s:=by
 refine thn (ha pins s σ H _ I h) fun v s1 ⟨x,H1,I1,r1,q1⟩=>?_
 refine thn (hb pins s1 σ H1 _ I1 q1) fun u s2 ⟨y,H2,I2,r2,q2⟩=>?_
 exact hf v u s2 x y H2 I2 r1 r2 q2
def Ob (i:Nat):TE:=fun σ H Q=>∃ v,σ[i]? = some (some v) ∧ Q v H
def tC (v:V):TE:=fun _ H Q=>Q v H
theorem sJ {i:Nat} {x:Str} {pos:Pos} (hN:X.N[i]? = some x) (hv:Vis X.env.scope x) (hd:NDb x:=by decide) (hcd:NCd x:=by decide):PE X (.Name x pos) (Ob i):=by
 intro pins s σ H Q I h
 obtain ⟨v,e,h⟩:=h
 obtain ⟨m,hn,hl⟩:=I.loc
 obtain ⟨u,r,l⟩:=hl i x v hN e hv
 have fin:EP X pins σ Q u s:=⟨v,H,I,r,h⟩
 rcases l with ⟨hk,hm⟩ | ⟨hk,c,hc,hcell⟩
 ·exact wpAny_Name (wpAny_loadName_local I.ok.kind hk hn hm fin) hd
 ·rcases hk with hk | hk
  ·exact wpAny_Name (wpAny_loadName_cell I.ok.kind hk hc hcell fin) hd
  ·exact wpAny_Name (wpAny_loadName_free I.ok.kind hk hc hcell fin hcd) hd
theorem M7 {i j pos}:PE X (.Constant (.int i) j pos) (tC (.int i)):=fun _ _ _ H _ I h=>wpAny_Constant_int ⟨.int i,H,I.tok _,⟨_,rfl⟩,h⟩
theorem OP {b j pos}:PE X (.Constant (.bool b) j pos) (tC (.bl b)):=fun _ _ _ H _ I h=>Constant_bool ⟨.bl b,H,I,rfl,h⟩
theorem Lk {j pos}:PE X (.Constant .none j pos) (tC .non):=fun _ _ _ H _ I h=>Constant_none ⟨.non,H,I,rfl,h⟩
theorem FU {x j pos}:PE X (.Constant (.str x) j pos) (tC (.str x)):=fun _ _ _ H _ I h=>Calls.Constant_str ⟨.str x,H,I.tok _,⟨_,rfl⟩,h⟩
def Gl (X:Cx) (x:Str):Prop:=X.env.kindOf x = some .globalImplicit
theorem sX {E:Value → Shared → Prop} {pins:List (Addr × Obj)} {s:Shared} {σ:St} {H:Hp} {x:Str} {u:Value} {pos:Pos} {Q:Value → Shared → Prop} (I:Inv X pins σ H s) (hg:Gl X x) (hm:X.mg x = some u) (h:Q u s)
  (hd:NDb x:=by decide):wpAny (model X.prog X.w) X.A (eval (.Name x pos) X.env) Q E s :=
 Calls.Name_function_global I.ok.kind hg (Calls.loadGlobal_global (by rw [I.ok.glob]; exact I.mod.glob.keeps I.bk) hm h) hd
theorem wq {E:Value → Shared → Prop} {pins:List (Addr × Obj)} {s:Shared} {σ:St} {H:Hp} {x:Str} {u:Value} {pos:Pos} {Q:Value → Shared → Prop} (I:Inv X pins σ H s) (hg:Gl X x) (hm:X.mg x = none) (hv:bootBuiltins x = some u) (h:Q u s)
  (hn:x ≠ "__name__" := by decide) (hd:NDb x:=by decide):wpAny (model X.prog X.w) X.A (eval (.Name x pos) X.env) Q E s:=by
 obtain ⟨mb,h1,h2⟩:=I.mod.blt
 exact Calls.Name_function_global I.ok.kind hg (Calls.loadGlobal_builtin (by rw [I.ok.glob]; exact I.mod.glob.keeps I.bk) hm (by rw [I.ok.blt]; exact h1.keeps I.bk) ((h2 x hn).trans hv) h) hd
theorem EG {x:Str} {v:V} {u:Value} {pos:Pos} (hg:Gl X x) (hm:X.mg x = some u) (r:RelV v u) (hd:NDb x:=by decide):PE X (.Name x pos) (tC v) :=
 fun _ _ _ H _ I h=>sX I hg hm ⟨v,H,I,r,h⟩ hd
theorem En {x:Str} {v:V} {u:Value} {pos:Pos} (hg:Gl X x) (hm:X.mg x = none) (hv:bootBuiltins x = some u) (r:RelV v u) (hn:x ≠ "__name__" := by decide) (hd:NDb x:=by decide):PE X (.Name x pos) (tC v) :=
 fun _ _ _ H _ I h=>wq I hg hm hv ⟨v,H,I,r,h⟩ hn hd
variable {a b:Expr} {ta tb:TE} {pos:Pos}
def PC (X:Cx) (op:CmpOp) (a b:Expr) (t:TE):Prop :=
 ∀ (pins:List (Addr × Obj)) (s:Shared) (σ:St) (H:Hp) (Q:VK),Inv X pins σ H s → t σ H Q →
  wpAny (model X.prog X.w) X.A (eval a X.env) (fun v s₁=>wpAny (model X.prog X.w) X.A (eval b X.env) (fun u s₂=>wpAny (model X.prog X.w) X.A (compareOp op v u) (EP X pins σ Q) X.xe s₂) X.xe s₁) X.xe s
def tB (t:TE):TT:=fun σ H Q=>t σ H fun x H1=>∃ c,x = .bl c ∧ Q c H1
theorem Gr {op:CmpOp} {t:TE} (h:PC X op a b t) (h1:behindInMarks op b = false:=by first | exact nobehind _ (by decide) (by decide) | rfl):PT X (.Compare a [op] [b] pos) (tB t):=by
 intro pins s σ H Q I hw
 refine wpAny_isTrue_Compare1 (thn (h pins s σ H _ I hw) fun v s1 h1=>thn h1 fun u s2 h2=>thn h2 fun c s3 ⟨x,H1,I1,r1,q1⟩=>?_) h1
 obtain ⟨d,rfl,q⟩:=q1
 cases r1
 exact wpAny_truthy_bool ⟨H1,I1,q⟩
theorem Nr {e:Expr} {t:TE} (h:PE X e t) (he:∀ whole,isTrue e X.env whole = (do let v ← whole; standAt e.pos; holding [v] (truthy v)):=by intro _; rfl):PT X e (tB t):=by
 intro pins s σ H Q I hw
 refine isTrue_plain (thn (h pins s σ H _ I hw) fun v s1 ⟨x,H1,I1,r1,q1⟩=>?_) (he _)
 obtain ⟨d,rfl,q⟩:=q1
 cases r1
 exact wpAny_truthy_bool ⟨H1,I1,q⟩
variable {tA tB':TT} {rest:List Expr}
def tOr (t u:TT):TT:=fun σ H Q=>t σ H fun c H1=>if c = true then Q true H1 else u σ H1 Q
def Pw (t:TT):TT:=fun σ H Q=>t σ H fun c H1=>Q (!c) H1
theorem Nc (ha:PT X a tA):PW X (.BoolOp .Or [a] pos) tA:=by
 intro wh pins s σ H Q I h
 refine isTrue_or (thn (ha pins s σ H Q I h) fun c s1 e=>?_)
 cases c with
 | false=>exact isTrue_or_nil e
 | true=>exact e
theorem OX (ha:PT X a tA) (hb:PW X (.BoolOp .Or (b :: rest) pos) tB'):PW X (.BoolOp .Or (a :: b :: rest) pos) (tOr tA tB'):=by
 intro wh pins s σ H Q I h
 refine isTrue_or (thn (ha pins s σ H _ I h) fun c s1 ⟨H1,I1,q1⟩=>?_)
 cases c with
 | true=>exact ⟨H1,I1,q1⟩
 | false=>exact hb wh pins s1 σ H1 Q I1 q1
theorem LG (ha:PT X a tA):PT X (.UnaryOp .Not a pos) (Pw tA):=by
 intro pins s σ H Q I h
 exact isTrue_not (ha pins s σ H (fun c H1=>Q (!c) H1) I h)
def OY (ta tb:TE):TE:=fun σ H Q=>ta σ H fun x H1=>∃ c,x = .bl c ∧ if c = true then tb σ H1 Q else Q (.bl false) H1
def ND (ta:TE):TE:=fun σ H Q=>ta σ H fun x H1=>∃ c,x = .bl c ∧ Q (.bl (!c)) H1
theorem Me {op} {t:TE} (h:PE X a t):PE X (.BoolOp op [a] pos) t:=fun pins s σ H Q I hw=>BoolOp_one (h pins s σ H Q I hw)
theorem MB (ha:PE X a ta) (hb:PE X (.BoolOp .And (b :: rest) pos) tb):PE X (.BoolOp .And (a :: b :: rest) pos) (OY ta tb):=by
 intro pins s σ H Q I h
 refine BoolOp_and (thn (ha pins s σ H _ I h) fun v s1 ⟨x,H1,I1,r1,q1⟩=>?_)
 obtain ⟨c,rfl,q1⟩:=q1
 cases r1
 refine wpAny_truthy_bool ?_
 cases c with
 | true=>exact hb pins s1 σ H1 Q I1 q1
 | false=>exact ⟨.bl false,H1,I1,rfl,q1⟩
theorem Mp (ha:PE X a ta):PE X (.UnaryOp .Not a pos) (ND ta):=by
 intro pins s σ H Q I h
 refine UnaryOp_ (thn (ha pins s σ H _ I h) fun v s1 ⟨x,H1,I1,r1,q1⟩=>?_)
 obtain ⟨c,rfl,q1⟩:=q1
 cases r1
 exact not_of (wpAny_truthy_bool ⟨.bl (!c),H1,I1,rfl,q1⟩)
end
end L2
namespace L2
open PySem PySem.Spec PyProof.Rows
def SqL (K:PySem.W.Frag) (H:Hp) (a:Addr) (xs:List V):Prop :=
 Rd H a (.lst xs) ∨
  ∃ (o:Obj) (its:Array Value) (n:Nat),K.lookup a = some o ∧ o.cls = .type "list" ∧ o.dict = none ∧ o.data = .seq its n ∧ its.size ≤ sizeLine ∧ Vals xs its.toList
def SqT (K:PySem.W.Frag) (H:Hp) (a:Addr) (xs:List V):Prop :=
 Rd H a (.tup xs) ∨
  ∃ (o:Obj) (its:Array Value) (n:Nat),K.lookup a = some o ∧ (o.cls = .type "tuple" ∧ o.dict = none) ∧ o.data = .seq its n ∧ its.size ≤ sizeLine ∧ Vals xs its.toList
def PR:Value → Option V
 | .none=>some .non
 | .bool b=>some (.bl b)
 | .int i _=>some (.int i)
 | .str x _=>some (.str x)
 | .bytes b _=>some (.byt b)
 | .float b _=>some (.flt b)
 | .ref a=>some (.ref a)
 | .type n=>some (.ty n)
 | _=>none
theorem RelV.abs {x:V} {u:Value} (r:RelV x u):PR u = some x:=by
 cases x with
 | non=>cases r; rfl
 | bl _=>cases r; rfl
 | int _=>obtain ⟨t,rfl⟩:=r; rfl
 | str _=>obtain ⟨t,rfl⟩:=r; rfl
 | byt _=>obtain ⟨t,rfl⟩:=r; rfl
 | flt _=>obtain ⟨t,rfl⟩:=r; rfl
 | ref _=>cases r; rfl
 | ty _=>cases r; rfl
theorem RelV.inj {x y:V} {u:Value} (r:RelV x u) (q:RelV y u):x = y:=Option.some.inj (r.abs.symm.trans q.abs)
theorem Vals.inj:∀ {xs ys:List V} {us:List Value},Vals xs us → Vals ys us → xs = ys
 | _,_,_,.nil,.nil=>rfl
 | _,_,_,.cons r t,.cons r' t'=>by rw [r.inj r',Vals.inj t t']
section
variable {X:Cx} {pins:List (Addr × Obj)} {σ:St} {H:Hp} {s:Shared} {a:Addr} {xs ys:List V}
theorem Inv.list (I:Inv X pins σ H s) (h:SqL X.K H a xs):∃ its:List Value,Vals xs its ∧ PlainL s.heap a its.toArray ∧ xs.length ≤ sizeLine:=by
 rcases h with h | ⟨o,its,n,hk,hc,hd,hs,hz,r⟩
 ·obtain ⟨z,its,n,r,e⟩:=h.ok I.hok
  exact ⟨its,r,⟨_,n,e,rfl,rfl,rfl⟩,z⟩
 ·refine ⟨its.toList,r,⟨o,n,I.kIn a o hk,hc,hd,by simpa using hs⟩,?_⟩
  have e:=r.length
  simp only [Array.length_toList] at e
  omega
theorem Inv.tuple (I:Inv X pins σ H s) (h:SqT X.K H a xs):∃ its:List Value,Vals xs its ∧ IsTup s.heap a its.toArray ∧ xs.length ≤ sizeLine:=by
 rcases h with h | ⟨o,its,n,hk,hc,hs,hz,r⟩
 ·obtain ⟨z,its,r,p⟩:=h.ok I.hok
  exact ⟨its,r,p.t,z⟩
 ·refine ⟨its.toList,r,⟨o,I.kIn a o hk,hc.1,n,by simpa using hs⟩,?_⟩
  have e:=r.length
  simp only [Array.length_toList] at e
  omega
theorem Inv.Nu (I:Inv X pins σ H s) (h:SqT X.K H a xs):∃ its:List Value,Vals xs its ∧ kF s.heap a its.toArray ∧ xs.length ≤ sizeLine:=by
 rcases h with h | ⟨o,its,n,hk,hc,hs,hz,r⟩
 ·obtain ⟨z,its,r,p⟩:=h.ok I.hok
  exact ⟨its,r,p,z⟩
 ·refine ⟨its.toList,r,⟨o,I.kIn a o hk,hc.1,n,by simpa using hs,hc.2⟩,?_⟩
  have e:=r.length
  simp only [Array.length_toList] at e
  omega
theorem Inv.Bo (I:Inv X pins σ H s) (h:SqL X.K H a xs) (h':SqL X.K H a ys):xs = ys:=by
 obtain ⟨its,r,⟨o,n,e,_,_,d⟩,_⟩:=I.list h
 obtain ⟨its',r',⟨o',n',e',_,_,d'⟩,_⟩:=I.list h'
 rw [e] at e'; cases e'
 rw [d] at d'
 injection d' with d1 _
 have:its = its':=by simpa using congrArg Array.toList d1
 subst this
 exact r.inj r'
theorem Inv.qA (I:Inv X pins σ H s) (h:SqT X.K H a xs) (h':SqT X.K H a ys):xs = ys:=by
 obtain ⟨its,r,⟨o,e,_,n,d⟩,_⟩:=I.tuple h
 obtain ⟨its',r',⟨o',e',_,n',d'⟩,_⟩:=I.tuple h'
 rw [e] at e'; cases e'
 rw [d] at d'
 injection d' with d1 _
 have:its = its':=by simpa using congrArg Array.toList d1
 subst this
 exact r.inj r'
end
abbrev Cx.zV (X:Cx) (E:Value → Shared → Prop):Cx:={ X with xe:=E }
abbrev Cx.nox (X:Cx):Cx:=X.zV fun _ _=>False
theorem Cx.Ok.zV {X:Cx} (ok:X.Ok) (E:Value → Shared → Prop):(X.zV E).Ok :=
 ⟨ok.mod,ok.kind,ok.glob,ok.blt,ok.above,ok.inj,ok.has,ok.cab,ok.hd,ok.frames,ok.stk,ok.exf,ok.bs,ok.bsz,ok.noex,ok.exfs,ok.vB,ok.frf⟩
theorem Cx.Ok.A7 {X:Cx} {E:Value → Shared → Prop} (ok:(X.zV E).Ok):X.Ok :=
 ⟨ok.mod,ok.kind,ok.glob,ok.blt,ok.above,ok.inj,ok.has,ok.cab,ok.hd,ok.frames,ok.stk,ok.exf,ok.bs,ok.bsz,ok.noex,ok.exfs,ok.vB,ok.frf⟩
section
variable {X:Cx} {pins:List (Addr × Obj)} {σ:St} {H:Hp} {s:Shared} {E:Value → Shared → Prop}
theorem Inv.zV (I:Inv X pins σ H s) (E:Value → Shared → Prop):Inv (X.zV E) pins σ H s:=⟨I.ok.zV E,I.os,I.bare,I.base,I.loc,I.cell,I.free,I.freeC,I.pin,I.hok,I.len⟩
theorem Inv.A7 (I:Inv (X.zV E) pins σ H s):Inv X pins σ H s:=⟨I.ok.A7,I.os,I.bare,I.base,I.loc,I.cell,I.free,I.freeC,I.pin,I.hok,I.len⟩
end
section
variable {X:Cx} {st:Stmt} {rest:List Stmt} {t u:TS} {e:Expr} {te:TE} {pos:Pos}
def NV:TS:=fun D σ H=>D.nx σ H
def PD (t u:TS):TS:=fun D σ H=>t { D with nx:=u D } σ H
theorem HQ:PSs X [] NV:=fun _ _ σ H _ I h=>wpAny_execs_nil ⟨σ,H,I,h⟩
theorem HD (h1:PS X st t) (h2:PSs X rest u):PSs X (st :: rest) (PD t u):=by
 intro pins s σ H D I h
 refine wpAny_execs_cons (thn (h1 pins s σ H { D with nx:=u D } I h) fun f s1 q=>?_)
 cases f with
 | next =>
  obtain ⟨σ',H',I',q⟩:=q
  exact h2 pins s1 σ' H' D I' q
 | ret v=>exact q
 | brk=>exact q
 | cont=>exact q
theorem HW (h1:PS X st t):PSs X [st] t:=by
 intro pins s σ H D I h
 refine wpAny_execs_cons (thn (h1 pins s σ H D I h) fun f s1 q=>?_)
 cases f with
 | next=>exact wpAny_execs_nil q
 | ret v=>exact q
 | brk=>exact q
 | cont=>exact q
theorem Inv.quiet {pins:List (Addr × Obj)} {σ:St} {H:Hp} {s:Shared} (I:Inv X pins σ H s):interactive X.env = false:=by simp [interactive,I.ok.kind]
def NX (te:TE):TS:=fun D σ H=>te σ H fun _ H1=>D.nx σ H1
theorem IQ (he:PE X e te) (hs:swapsWith e none pos.line X.env = pure false:=by rfl):PS X (.Expr e pos) (NX te):=by
 intro pins s σ H D I h
 exact wpAny_Expr_any (thn (he pins s σ H _ I h) fun v s1 ⟨x,H1,I1,r1,q1⟩=>⟨σ,H1,I1,q1⟩) I.quiet hs
def Pk (te:TE):TS:=fun D σ H=>te σ H D.rt
theorem Mq (he:PE X e te):PS X (.Return (some e) pos) (Pk te):=by
 intro pins s σ H D I h
 exact wpAny_Return_some (thn (he pins s σ H _ I h) fun v s1 ⟨x,H1,I1,r1,q1⟩=>⟨x,σ,H1,I1,r1,q1⟩)
def Pe (c:TT) (t u:TS):TS:=fun D σ H=>c σ H fun b H1=>if b = true then t D σ H1 else u D σ H1
theorem NS {c:Expr} {a b:List Stmt} {tc:TT} (hc:PT X c tc) (ha:PSs X a t) (hb:PSs X b u):PS X (.If c a b pos) (Pe tc t u):=by
 intro pins s σ H D I h
 refine wpAny_If (thn (hc pins s σ H _ I h) fun d s1 ⟨H1,I1,q1⟩=>?_)
 cases d with
 | true=>exact ha pins s1 σ H1 D I1 q1
 | false=>exact hb pins s1 σ H1 D I1 q1
end
abbrev TG:=V → St → Hp → (St → Hp → Prop) → Prop
abbrev TGs:=List V → St → Hp → (St → Hp → Prop) → Prop
def PG (X:Cx) (target:Expr) (t:TG):Prop :=
 ∀ (pins:List (Addr × Obj)) (s:Shared) (σ:St) (H:Hp) (v:V) (u:Value) (Q:St → Hp → Prop),Inv X pins σ H s → RelV v u → t v σ H Q →
  wpAny (model X.prog X.w) X.A (assign target X.env u) (fun _ s'=>∃ σ' H',Inv X pins σ' H' s' ∧ Q σ' H') X.xe s
def PGs (X:Cx) (ts:List Expr) (t:TGs):Prop :=
 ∀ (pins:List (Addr × Obj)) (s:Shared) (σ:St) (H:Hp) (vs:List V) (us:List Value) (Q:St → Hp → Prop),Inv X pins σ H s → Vals vs us → t vs σ H Q →
  wpAny (model X.prog X.w) X.A (assignInOrder ((assignEach ts X.env).map (·.2)) us) (fun _ s'=>∃ σ' H',Inv X pins σ' H' s' ∧ Q σ' H') X.xe s
abbrev LQ:=V → V → V → Hp → (Hp → Prop) → Prop
def Nz (X:Cx) (t:LQ):Prop :=
 ∀ (pins:List (Addr × Obj)) (s:Shared) (σ:St) (H:Hp) (o i v:V) (ov iv u:Value) (Q:Hp → Prop),Inv X pins σ H s → RelV o ov → RelV i iv → RelV v u → t o i v H Q →
  wpAny (model X.prog X.w) X.A (setItem ov iv u) (fun _ s'=>∃ H',Inv X pins σ H' s' ∧ Q H') X.xe s
section
variable {X:Cx} {pos:Pos}
def FH (i:Nat):TG:=fun v σ H Q=>Q (σ.set i (some v)) H
theorem IF {i:Nat} {x:Str} (hN:X.N.Nodup) (hi:X.N[i]? = some x) (hx:Loc X.env.scope x) (hf:X.fn x = true ∨ X.env.scope.names.lookup x = some .local:=by first | exact .inl rfl | exact .inr rfl | assumption):PG X (.Name x pos) (FH i):=by
 intro pins s σ H v u Q I r h
 exact wpAny_assign_Name (m4 I hN hi hx r (fun s' I'=>⟨_,H,I',h⟩) hf)
def Pt:TGs:=fun vs σ H Q=>vs = [] ∧ Q σ H
def Kg (t:TG) (u:TGs):TGs:=fun vs σ H Q=>∃ v r,vs = v :: r ∧ t v σ H fun σ' H'=>u r σ' H' Q
theorem IP:PGs X [] Pt:=by
 intro pins s σ H vs us Q I r h
 obtain ⟨e,h⟩:=h
 subst e
 cases r
 exact assignInOrder_nil ⟨σ,H,I,h⟩
theorem bg {e:Expr} {es:List Expr} {t:TG} {u:TGs} (h1:PG X e t) (h2:PGs X es u)
  (hs:(assignEach (e :: es) X.env).map (·.2) = assign e X.env :: (assignEach es X.env).map (·.2):=by rfl):PGs X (e :: es) (Kg t u):=by
 intro pins s σ H vs us Q I r h
 obtain ⟨v,vr,e1,h⟩:=h
 subst e1
 cases r with
 | cons r rr =>
  rw [hs]
  refine assignInOrder_cons (thn (h1 pins s σ H _ _ _ I r h) fun _ s1 ⟨σ1,H1,I1,q1⟩=>?_)
  exact h2 pins s1 σ1 H1 _ _ Q I1 rr q1
def PK (K:PySem.W.Frag) (n:Nat) (t:TGs):TG:=fun v σ H Q=>∃ a xs,v = .ref a ∧ SqT K H a xs ∧ xs.length = n ∧ t xs σ H Q
theorem Lw {es:List Expr} {k:Nat} {t:TGs} {n:Nat} (hc:X.calm = true) (h:PGs X es t)
  (hn:(assignEach es X.env).length = n:=by rfl) (hst:(assignEach es X.env).findIdx? (·.1) = none:=by rfl):PG X (.Tuple es k pos) (PK X.K n t):=by
 intro pins s σ H v u Q I r hw
 obtain ⟨a,xs,e1,hq,hl,hw⟩:=hw
 subst e1
 cases r
 obtain ⟨its,rv,ht,hz⟩:=I.tuple hq
 refine assign_Tuple_tuple (I.ok.hd hc) ht (by simp [hn,← hl,rv.length]) hst fun h' hx=>?_
 have I1:Inv X pins σ H { s with heap:=h' }:=I.kept (t':=s.toks) fun b o e=>hx b o (Nat.ne_of_lt (Heap.lt_size e)) e
 exact h pins _ σ H xs _ Q I1 (by simpa using rv) hw
def NW (to ti:TE) (t:LQ):TG:=fun v σ H Q=>to σ H fun o H1=>ti σ H1 fun i H2=>t o i v H2 fun H3=>Q σ H3
theorem GF {o i:Expr} {to ti:TE} {t:LQ} (ho:PE X o to) (hi:PE X i ti) (hs:Nz X t)
  (ha:∀ v,assign (.Subscript o i pos) X.env v = (do
   let ov ← holding [v] (eval o X.env)
   let iv ← holding [v,ov] (eval i X.env)
   standAt pos
   holding [v,ov,iv] (setItem ov iv v)
   release [v,ov,iv] []):=by intro _; rfl):PG X (.Subscript o i pos) (NW to ti t):=by
 intro pins s σ H v u Q I r h
 rw [ha]
 refine wpAny_bind (wpAny_holding (thn (ho pins s σ H _ I h) fun ov s1 ⟨x,H1,I1,r1,q1⟩=>?_))
 refine wpAny_bind (wpAny_holding (thn (hi pins s1 σ H1 _ I1 q1) fun iv s2 ⟨y,H2,I2,r2,q2⟩=>?_))
 refine wpAny_bind (wpAny_standAt (wpAny_bind (wpAny_holding (thn (hs pins s2 σ H2 x y v ov iv u _ I2 r1 r2 r q2) fun _ s3 ⟨H3,I3,q3⟩=>?_))))
 exact wpAny_release ⟨σ,H3,I3,q3⟩
def Ir (te:TE) (g:TG):TS:=fun D σ H=>te σ H fun x H1=>g x σ H1 D.nx
theorem G1 {tg e:Expr} {te:TE} {g:TG} (he:PE X e te) (hg:PG X tg g) (hs:swapsWithSole [tg] e pos.line X.env = pure false:=by rfl) (hw:swappedStores [tg] e X.env = pure none:=by rfl)
  (h1:(assignEach [tg] X.env).map (·.2) = [assign tg X.env]:=by rfl):PS X (.Assign [tg] e pos) (Ir te g):=by
 intro pins s σ H D I h
 refine wpAny_Assign_stores (thn (he pins s σ H _ I h) fun v s1 ⟨x,H1,I1,r1,q1⟩=>?_) hs hw
 rw [h1]
 exact thn (hg pins s1 σ H1 x v _ I1 r1 q1) fun _ s2 q=>q
theorem LL {i:Nat} {x:Str} {e:Expr} {te:TE} {pos':Pos} (hN:X.N.Nodup) (hi:X.N[i]? = some x) (hx:Loc X.env.scope x) (he:PE X e te) (hs:swapsWith e (some (.Name x pos')) pos.line X.env = pure false:=by rfl) (hf:X.fn x = true ∨ X.env.scope.names.lookup x = some .local:=by first | exact .inl rfl | exact .inr rfl | assumption) :
  PS X (.Assign [.Name x pos'] e pos) (Ir te (FH i)):=by
 intro pins s σ H D I h
 refine wpAny_Assign_Name (thn (he pins s σ H _ I h) fun v s1 ⟨y,H1,I1,r1,q1⟩=>?_) hs
 exact m4 I1 hN hi hx r1 (fun s2 I2=>⟨_,H1,I2,q1⟩) hf
def Oz (i j:Nat) (ta:TA):TS:=fun D σ H=>ta σ H fun vs H1=>∃ v w,vs = [v,w] ∧ D.nx ((σ.set i (some v)).set j (some w)) H1
theorem Ml {i j:Nat} {x y:Str} {a b:Expr} {ta:TA} {px py pt:Pos} {kt k2 pt2} (hc:X.calm = true) (hN:X.N.Nodup) (hi:X.N[i]? = some x) (hj:X.N[j]? = some y) (hij:i ≠ j)
  (hx:X.env.scope.names.lookup x = some .local) (hy:X.env.scope.names.lookup y = some .local) (ha:PA X [a,b] ta)
  (hw:swappedStores [.Tuple [.Name x px,.Name y py] kt pt] (.Tuple [a,b] k2 pt2) X.env = pure (some [x,y]))
  (hs:swapsWithSole [.Tuple [.Name x px,.Name y py] kt pt] (.Tuple [a,b] k2 pt2) pos.line X.env = pure false:=by rfl) :
  PS X (.Assign [.Tuple [.Name x px,.Name y py] kt pt] (.Tuple [a,b] k2 pt2) pos) (Oz i j ta):=by
 intro pins s σ H D I h
 rw [exec_Assign_arm]
 refine wpAny_bind (wpAny_standAt ?_)
 rw [hs]
 refine wpAny_bind (wpAny_pure ?_)
 rw [if_neg (by decide)]
 refine wpAny_bind (Tuple_ (thn (ha _ pins s σ H _ I h) fun us s1 ⟨vs,H1,I1,r1,q1⟩=>?_))
 obtain ⟨v,w,e1,q1⟩:=q1
 subst e1
 obtain ⟨u1,u2,rfl,rv,rw'⟩:∃ u1 u2,us = [u1,u2] ∧ RelV v u1 ∧ RelV w u2:=by
  cases r1 with
  | cons p q =>
   cases q with
   | cons p' q' =>
    cases q'
    exact ⟨_,_,rfl,p,p'⟩
 refine wpAny_newObj_type ?_ (by show 2 ≤ sizeLine; decide)
 have I2:Inv X pins σ H1 { s1 with heap:=s1.heap.push { cls:=.type "tuple",data:=.seq [u1,u2].toArray } }:=I1.kept (t':=s1.toks) fun b o e=>Heap.get?_push_of_some _ e
 rw [hw]
 refine wpAny_bind (wpAny_pure ?_)
 show wpAny (model X.prog X.w) X.A (do rule "assign.swapped-stores"; let items ← unpackItems (.ref s1.heap.objs.size) 2 none; assignInOrder [fun v=>bindName X.env y v,fun v=>bindName X.env x v] items.reverse; pure Flow.next) _ _ _
 refine wpAny_bind (wpAny_rule (wpAny_bind (unpackItems_tuple (items:=#[u1,u2]) (I.ok.hd hc) (IsTup.new s1.heap _) fun h' hx'=>?_)))
 have I3:=I2.kept (h':=h') (t':=s1.toks) fun b o e=>hx' b o (Nat.ne_of_lt (Heap.lt_size e)) e
 show wpAny _ _ (assignInOrder [fun v=>bindName X.env y v,fun v=>bindName X.env x v] [u2,u1] >>= fun _=>pure Flow.next) _ _ _
 refine wpAny_bind (assignInOrder_cons (wpAny_bindName (m4 I3 hN hj (.inl hy) rw' (fun s2 I4=>?_) (.inr hy))))
 refine assignInOrder_cons (wpAny_bindName (m4 I4 hN hi (.inl hx) rv (fun s3 I5=>assignInOrder_nil (wpAny_pure ?_)) (.inr hx)))
 rw [List.set_comm _ _ (Ne.symm hij)] at I5
 exact ⟨_,H1,I5,q1⟩
end
section
variable {X:Cx} {pos:Pos}
def Ll (c:TT) (tb:TS):TS:=fun D σ H=>∃ W:Nat → St → Hp → Prop,(∃ m,W m σ H) ∧ ∀ m σ H,W m σ H →
 c σ H fun b H1=>if b = true then ∃ N:St → Hp → Prop,(∀ σ' H',N σ' H' → ∃ m',m' < m ∧ W m' σ' H') ∧ tb { D with nx:=N,ct:=N,bk:=D.nx } σ H1 else D.nx σ H1
theorem Gh {c:Expr} {body:List Stmt} {tc:TT} {tb:TS} (hp:PassesOwn (model X.prog X.w) X.A X.env X.xe) (hc:PT X c tc) (hb:PSs X body tb):PS X (.While c body [] pos) (Ll tc tb):=by
 intro pins s σ H D I h
 obtain ⟨W,⟨m0,w0⟩,turn⟩:=h
 refine wpAny_While (codeAny_whileLoop (fun n s'=>∃ σ' H',Inv X pins σ' H' s' ∧ W n σ' H') ?_ m0 ⟨σ,H,I,w0⟩)
 rintro n s1 ⟨σ1,H1,I1,w1⟩
 refine wpAny_passesOwn hp (thn (hc pins s1 σ1 H1 _ I1 (turn n σ1 H1 w1)) fun b s2 ⟨H2,I2,q2⟩=>?_)
 cases b with
 | true =>
  obtain ⟨N,hN,q2⟩:=q2
  rw [if_pos rfl]
  refine wpAny_passesOwn hp (thn (hb pins s2 σ1 H2 _ I2 q2) fun f s3 q3=>?_)
  cases f with
  | next =>
   obtain ⟨σ3,H3,I3,n3⟩:=q3
   obtain ⟨m',hm,w3⟩:=hN σ3 H3 n3
   exact ⟨m',hm,σ3,H3,I3,w3⟩
  | cont =>
   obtain ⟨σ3,H3,I3,n3⟩:=q3
   obtain ⟨m',hm,w3⟩:=hN σ3 H3 n3
   exact ⟨m',hm,σ3,H3,I3,w3⟩
  | brk=>exact q3
  | ret v=>exact q3
 | false =>
  rw [if_neg Bool.false_ne_true]
  exact wpAny_execs_nil ⟨σ1,H2,I2,q2⟩
end
structure It where
 go:Nat → Hp → Prop
 yld:Nat → Hp → V → Hp → Prop
 stop:Nat → Hp → Prop
def yu (X:Cx) (pins:List (Addr × Obj)) (H:Hp) (b:Addr):Prop :=
 H b = none ∧ b ≠ X.env.locals ∧ b ∉ X.fs ∧ (b ∈ X.ex ∨ X.s₀.heap.objs.size ≤ b) ∧ (∀ x c,X.env.cells.lookup x = some c → c ≠ b) ∧ ∀ p ∈ X.pn ++ pins,p.1 ≠ b
theorem Inv.JD {X:Cx} {pins:List (Addr × Obj)} {σ:St} {H H':Hp} {s:Shared} {b:Addr} (I:Inv X pins σ H s) (hb:s.heap.objs.size ≤ b) (hn:H' b = none):yu X pins H' b:=by
 refine ⟨hn,Nat.ne_of_gt (Nat.lt_of_lt_of_le I.lt hb),I.OS hb,.inr (Nat.le_trans I.sz hb),fun x c e z=>?_,fun p hp z=>?_⟩
 ·obtain ⟨v,q⟩:=I.cell x c e
  exact absurd (Nat.lt_of_lt_of_le q.lt (by rw [z]; exact hb)) (Nat.lt_irrefl _)
 ·exact absurd (Nat.lt_of_lt_of_le (Heap.lt_size (I.pin p hp).1) (by rw [z]; exact hb)) (Nat.lt_irrefl _)
structure Turn (P:Program) (w:World) (K:PySem.W.Frag) (tg:Expr) (J:It) (fp:List Addr) (it:Addr) (tn:Nat → Heap → Prop):Prop where
 mem:it ∈ fp
 obj:∀ i h,tn i h → ∀ b ∈ fp,∃ o,h.get? b = some o ∧ ∀ v,o.data ≠ .cell v
 keep:∀ i h h',tn i h → (∀ b ∈ fp,∀ o,h.get? b = some o → h'.get? b = some o) → tn i h'
 item:∀ (X:Cx),X.prog = P → X.w = w → X.K = K → X.calm = true → ∀ (i:Nat) (pins:List (Addr × Obj)) (s:Shared) (σ:St) (H:Hp) (E:Value → Shared → Prop),Inv X pins σ H s → (∀ b ∈ fp,yu X pins H b) → tn i s.heap → J.go i H →
  wpAny (model P w) X.A (pyNext (.ref it)) (fun r s1=>∃ u,r = some u ∧
   wpAny (model P w) X.A (letOwnedTupleGo tg (.ref it) u) (fun _ s2=>∃ x H',Inv X pins σ H' s2 ∧ RelV x u ∧ J.yld i H x H' ∧ tn (i + 1) s2.heap ∧ ∀ b ∈ fp,H' b = none) E s1) E s
 done:∀ (X:Cx),X.prog = P → X.w = w → X.K = K → X.calm = true → ∀ (i:Nat) (pins:List (Addr × Obj)) (s:Shared) (σ:St) (H:Hp) (E:Value → Shared → Prop),Inv X pins σ H s → (∀ b ∈ fp,yu X pins H b) → tn i s.heap → J.stop i H →
  wpAny (model P w) X.A (pyNext (.ref it)) (fun r s1=>r = none ∧ Inv X pins σ H s1) E s
 self:∀ (A:Around) (i:Nat) (s:Shared) (Q:Value → Shared → Prop) (E:Value → Shared → Prop),tn i s.heap → Q (.ref it) s → wpAny (model P w) A (pyIter (.ref it)) Q E s
abbrev TI:=St → Hp → (It → Hp → Prop) → Prop
def PIE (X:Cx) (pins:List (Addr × Obj)) (σ:St) (tg:Expr) (R:It → Hp → Prop) (itv:Value) (s2:Shared):Prop :=
 ∃ (it:Addr) (fp:List Addr) (tn:Nat → Heap → Prop) (J:It) (H':Hp),itv = .ref it ∧ Inv X pins σ H' s2 ∧ Turn X.prog X.w X.K tg J fp it tn ∧ tn 0 s2.heap ∧ (∀ b ∈ fp,yu X pins H' b) ∧ R J H'
def PI (X:Cx) (tg iter:Expr) (wi:TI):Prop :=
 ∀ (pins:List (Addr × Obj)) (s:Shared) (σ:St) (H:Hp) (R:It → Hp → Prop),Inv X pins σ H s → wi σ H R →
  wpAny (model X.prog X.w) X.A (eval iter X.env) (fun v s1=>wpAny (model X.prog X.w) X.A (pyIter v) (PIE X pins σ tg R) X.xe s1) X.xe s
theorem Hs {M:Model} {A:Around} {E:Value → Shared → Prop} {s:Shared} {tg:Expr} {it:Addr} {u:Value} {o:Obj} {n:String} {vs:Array Value} {Q:Unit → Shared → Prop} (ho:s.heap.get? it = some o) (hc:o.cls = .type n) (hd:o.data = .fields vs)
    (hn:["enumerate", "zip", "dict_itemiterator", "dict_reverseitemiterator", "odict_iterator", "itertools.zip_longest", "itertools.pairwise"].contains n = false) (hQ:Q () s):wpAny M A (letOwnedTupleGo tg (.ref it) u) Q E s:=by
  unfold letOwnedTupleGo
  cases tg <;> first
    | exact wpAny_pure hQ
    | (cases u <;> first
        | exact wpAny_pure hQ
        | (refine wpAny_bind (wpAny_load ho ?_)
           rw [hc,hd]
           show wpAny M A (if (["enumerate", "zip", "dict_itemiterator", "dict_reverseitemiterator", "odict_iterator", "itertools.zip_longest", "itertools.pairwise"].contains n && vs[0]? == some (rawInt _)) = true then _ else _) Q E s
           rw [if_neg (by intro h; rw [hn,Bool.false_and] at h; cases h)]
           exact wpAny_pure hQ))
def Itl (K:PySem.W.Frag) (a:Addr):It :=
 ⟨fun i H=>∃ xs x,SqL K H a xs ∧ xs[i]? = some x,fun i H x H'=>H' = H ∧ ∀ xs,SqL K H a xs → xs[i]? = some x,fun i H=>∃ xs,SqL K H a xs ∧ xs.length ≤ i⟩
def Itt (K:PySem.W.Frag) (a:Addr):It :=
 ⟨fun i H=>∃ xs x,SqT K H a xs ∧ xs[i]? = some x,fun i H x H'=>H' = H ∧ ∀ xs,SqT K H a xs → xs[i]? = some x,fun i H=>∃ xs,SqT K H a xs ∧ xs.length ≤ i⟩
def Itr (lo:Int) (n:Nat):It:=⟨fun i _=>i < n,fun i H x H'=>H' = H ∧ x = .int (lo + i),fun i _=>n ≤ i⟩
theorem EO {P:Program} {w:World} {K:PySem.W.Frag} {tg:Expr} (a it:Addr):Turn P w K tg (Itl K a) [it] it (fun i h=>h.IsListIter it a i) where
 mem:=by simp
 obj:=fun i h st b hb=>by
  have e:b = it:=by simpa using hb
  subst e
  obtain ⟨o,e,c,d⟩:=st
  exact ⟨o,e,fun v z=>by rw [d] at z; cases z⟩
 keep:=fun i h h' st k=>st.at fun o e=>k it (by simp) o e
 item:=by
  intro X hP hw hK hc i pins s σ H E I hf st hg
  subst hP hw hK
  obtain ⟨xs,x,hq,hx⟩:=hg
  obtain ⟨its,rv,p,hz⟩:=I.list hq
  obtain ⟨u,hu,ru⟩:=rv.get hx
  obtain ⟨f0,f1,f2,f3,f4,f5⟩:=hf it (by simp)
  refine wpAny_pyNext_list_item st p.isList (x:=u) (by simpa using hu) fun h' st' sb=>?_
  have I1:Inv X pins σ H { s with heap:=h' }:=I.turned (t':=s.toks) (fun b o hb e=>(sb.2 b hb).trans e) f0 f1 f3 f4 f5
  obtain ⟨o,e,c,d⟩:=id st'
  exact ⟨u,rfl,Hs (s:={ s with heap:=h' }) e c d (by decide) ⟨x,H,I1,ru,⟨rfl,fun ys hy=>by rw [I.Bo hy hq]; exact hx⟩,st',fun b hb=>(hf b hb).1⟩⟩
 done:=by
  intro X hP hw hK hc i pins s σ H E I hf st hg
  subst hP hw hK
  obtain ⟨xs,hq,hx⟩:=hg
  obtain ⟨its,rv,p,hz⟩:=I.list hq
  obtain ⟨f0,f1,f2,f3,f4,f5⟩:=hf it (by simp)
  have hl:=rv.length
  exact wpAny_pyNext_list_end (I.ok.hd hc) st p.isList (by simp; omega) fun h' eb=>⟨rfl,I.turned (t':=s.toks) (fun b o hb e=>eb b o hb e) f0 f1 f3 f4 f5⟩
 self:=fun _ _ _ _ _ st h=>wpAny_pyIter_listiter st h
theorem Dr {P:Program} {w:World} {K:PySem.W.Frag} {tg:Expr} (a it:Addr):Turn P w K tg (Itt K a) [it] it (fun i h=>h.IsTupleIter it a i) where
 mem:=by simp
 obj:=fun i h st b hb=>by
  have e:b = it:=by simpa using hb
  subst e
  obtain ⟨o,e,c,d⟩:=st
  exact ⟨o,e,fun v z=>by rw [d] at z; cases z⟩
 keep:=fun i h h' st k=>st.at fun o e=>k it (by simp) o e
 item:=by
  intro X hP hw hK hc i pins s σ H E I hf st hg
  subst hP hw hK
  obtain ⟨xs,x,hq,hx⟩:=hg
  obtain ⟨its,rv,p,hz⟩:=I.tuple hq
  obtain ⟨u,hu,ru⟩:=rv.get hx
  obtain ⟨f0,f1,f2,f3,f4,f5⟩:=hf it (by simp)
  refine wpAny_pyNext_tuple_item st (show s.heap.IsTuple a its.toArray from p) (x:=u) (by simpa using hu) fun h' st' sb=>?_
  have I1:Inv X pins σ H { s with heap:=h' }:=I.turned (t':=s.toks) (fun b o hb e=>(sb.2 b hb).trans e) f0 f1 f3 f4 f5
  obtain ⟨o,e,c,d⟩:=id st'
  exact ⟨u,rfl,Hs (s:={ s with heap:=h' }) e c d (by decide) ⟨x,H,I1,ru,⟨rfl,fun ys hy=>by rw [I.qA hy hq]; exact hx⟩,st',fun b hb=>(hf b hb).1⟩⟩
 done:=by
  intro X hP hw hK hc i pins s σ H E I hf st hg
  subst hP hw hK
  obtain ⟨xs,hq,hx⟩:=hg
  obtain ⟨its,rv,p,hz⟩:=I.tuple hq
  obtain ⟨f0,f1,f2,f3,f4,f5⟩:=hf it (by simp)
  have hl:=rv.length
  exact wpAny_pyNext_tuple_end (I.ok.hd hc) st (show s.heap.IsTuple a its.toArray from p) (by simp; omega) fun h' eb=>⟨rfl,I.turned (t':=s.toks) (fun b o hb e=>eb b o hb e) f0 f1 f3 f4 f5⟩
 self:=fun _ _ _ _ _ st h=>wpAny_pyIter_tupleiter st h
theorem C5 {P:Program} {w:World} {K:PySem.W.Frag} {tg:Expr} (it:Addr) (lo:Int) (n:Nat):Turn P w K tg (Itr lo n) [it] it (fun i h=>IsRangeIter h it (lo + (i:Nat) * 1) ((n:Int) - (i:Nat)) 1) where
 mem:=by simp
 obj:=fun i h st b hb=>by
  have e:b = it:=by simpa using hb
  subst e
  exact ⟨_,st,fun v z=>by
   have z':Data.fields _ = Data.cell v:=z
   cases z'⟩
 keep:=fun i h h' st k=>k it (by simp) _ st
 item:=by
  intro X hP hw hK hc i pins s σ H E I hf st hg
  subst hP hw hK
  obtain ⟨f0,f1,f2,f3,f4,f5⟩:=hf it (by simp)
  have W:=Walks.range (prog:=X.prog) (w:=X.w) (I.ok.hd hc) it lo 1 n
  refine W.item i s _ _ hg st fun v h' tk hv st' kk=>?_
  obtain ⟨t,rfl⟩:=hv
  have I1:Inv X pins σ H { s with heap:=h',toks:=tk }:=I.turned (fun b o hb e=>kk b o (by simpa using hb) e) f0 f1 f3 f4 f5
  refine ⟨_,rfl,Hs (s:={ s with heap:=h',toks:=tk }) (n := "range_iterator") st' rfl rfl (by decide) ⟨.int (lo + i),H,I1,⟨t,?_⟩,⟨rfl,rfl⟩,st',fun b hb=>(hf b hb).1⟩⟩
  rw [Int.mul_one]
 done:=by
  intro X hP hw hK hc i pins s σ H E I hf st hg
  subst hP hw hK
  obtain ⟨f0,f1,f2,f3,f4,f5⟩:=hf it (by simp)
  exact wpAny_pyNext_range_end (I.ok.hd hc) st (by have:n ≤ i:=hg; omega) fun h' eb=>⟨rfl,I.turned (t':=s.toks) (fun b o hb e=>eb b o hb e) f0 f1 f3 f4 f5⟩
 self:=fun _ _ _ _ _ st h=>wpAny_pyIter_rangeiter st h
end L2
namespace L2
open PySem PySem.Spec PyProof.Rows
section
variable {X:Cx} {tg:Expr}
theorem GQ {pins:List (Addr × Obj)} {σ:St} {H:Hp} {s:Shared} {R:It → Hp → Prop} {E:Value → Shared → Prop} {lo hi:Int} {t u v:Tok} {tk:Nat} (I:Inv X pins σ H s) (h1:-(2 ^ 62) ≤ lo) (h2:lo < 2 ^ 62) (h3:-(2 ^ 62) ≤ hi) (h4:hi < 2 ^ 62)
  (q:R (Itr lo (hi - lo).toNat) H):wpAny (model X.prog X.w) X.A (pyIter (.ref s.heap.objs.size)) (PIE X pins σ tg R) E { s with heap:=s.heap.push { cls:=.type "range",data:=.fields #[.int lo t,.int hi u,.int 1 v] },toks:=tk }:=by
 refine wpAny_pyIter_range (IsRange.new ..) (small_one h1 h2 h3 h4) ?_
 have I1:Inv X pins σ H { s with heap:=s.heap.push { cls:=.type "range",data:=.fields #[.int lo t,.int hi u,.int 1 v] },toks:=tk }:=I.kept fun b o e=>Heap.get?_push_of_some _ e
 refine ⟨(s.heap.push { cls:=.type "range",data:=.fields #[.int lo t,.int hi u,.int 1 v] }).objs.size,[(s.heap.push { cls:=.type "range",data:=.fields #[.int lo t,.int hi u,.int 1 v] }).objs.size],_,_,H,rfl,
  I1.kept (t':=tk) fun b o e=>Heap.get?_push_of_some _ e,C5 _ lo (hi - lo).toNat,?_,fun b hb=>?_,q⟩
 ·have e1:lo + ((0:Nat):Int) * 1 = lo:=by simp
  have e2:(((hi - lo).toNat:Nat):Int) - ((0:Nat):Int) = Builtin.Range.rangeSize lo hi 1:=by rw [rangeSize_one]; split <;> omega
  show IsRangeIter _ _ (lo + ((0:Nat):Int) * 1) ((((hi - lo).toNat:Nat):Int) - ((0:Nat):Int)) 1
  rw [e1,e2]
  exact Heap.get?_push_size _ rfl
 ·have e:b = (s.heap.push { cls:=.type "range",data:=.fields #[.int lo t,.int hi u,.int 1 v] }).objs.size:=by simpa using hb
  subst e
  exact I1.JD (Nat.le_refl _) (I1.hok.fresh (Nat.le_refl _))
def OH (ta:TA):TI:=fun σ H R=>ta σ H fun vs H1=>∃ j:Int,vs = [.int j] ∧ -(2 ^ 62) ≤ j ∧ j < 2 ^ 62 ∧ R (Itr 0 j.toNat) H1
theorem EL {a:Expr} {ta:TA} {p pos:Pos} (hg:Gl X "range") (hm:X.mg "range" = none) (ha:PA X [a] ta) (hs:starEach [a] X.env = [(false,eval a X.env)]:=by rfl):PI X tg (.Call (.Name "range" p) [a] [] pos) (OH ta):=by
 intro pins s σ H R I h
 refine Call_ (wq I hg hm boot_range (PyProof.Rows.callWith_type1 (thn (ha pos pins s σ H _ I h) fun us s1 ⟨vs,H1,I1,r1,q1⟩=>?_) hs rfl))
 obtain ⟨j,e,q1,q2,q⟩:=q1
 subst e
 cases r1 with
 | cons r rr =>
  cases rr
  obtain ⟨t,rfl⟩:=r
  exact call_range_1 (GQ I1 (by omega) (by omega) q1 q2 (by simpa using q))
def PM (wi:TI) (g:TG) (tb:TS):TS:=fun D σ H=>wi σ H fun J H1=>∃ W:Nat → Nat → St → Hp → Prop,(∃ m,W 0 m σ H1) ∧ ∀ i m σ H,W i m σ H →
 (J.stop i H ∧ D.nx σ H) ∨ (J.go i H ∧ ∃ N:St → Hp → Prop,(∀ σ' H',N σ' H' → ∃ m',m' < m ∧ W (i + 1) m' σ' H') ∧ ∀ x H',J.yld i H x H' → g x σ H' fun σ2 H2=>tb { D with nx:=N,ct:=N,bk:=D.nx } σ2 H2)
def wA (fp:List Addr) (h:Heap):List (Addr × Obj):=fp.filterMap fun b=>(h.get? b).map fun o=>(b,o)
theorem og {fp:List Addr} {h:Heap} {b:Addr} {o:Obj} (hb:b ∈ fp) (e:h.get? b = some o):(b,o) ∈ wA fp h:=List.mem_filterMap.mpr ⟨b,hb,by rw [e]; rfl⟩
theorem Fe {fp:List Addr} {h:Heap} {p:Addr × Obj} (hp:p ∈ wA fp h):p.1 ∈ fp ∧ h.get? p.1 = some p.2:=by
 obtain ⟨b,hb,e⟩:=List.mem_filterMap.mp hp
 cases q:h.get? b with
 | none=>rw [q] at e; cases e
 | some o =>
  rw [q] at e
  have e':(b,o) = p:=Option.some.inj e
  subst e'
  exact ⟨hb,q⟩
theorem Inv.pinned {pins:List (Addr × Obj)} {σ:St} {H:Hp} {s:Shared} {fp:List Addr} (I:Inv X pins σ H s) (hf:∀ b ∈ fp,yu X pins H b) (ho:∀ b ∈ fp,∃ o,s.heap.get? b = some o ∧ ∀ v,o.data ≠ .cell v):Inv X (pins ++ wA fp s.heap) σ H s :=
 I.zO fun p hp=>(List.mem_append.mp hp).elim (fun z=>I.pin p (List.mem_append_right _ z)) fun z=>by
  obtain ⟨hb,e⟩:=Fe z
  obtain ⟨f0,f1,f2,_⟩:=hf p.1 hb
  obtain ⟨o,e',d⟩:=ho p.1 hb
  rw [e] at e'; cases e'
  exact ⟨e,f0,f1,f2,d⟩
theorem Inv.jU {pins pl:List (Addr × Obj)} {σ:St} {H:Hp} {s:Shared} (I:Inv X (pins ++ pl) σ H s):Inv X pins σ H s:=I.zO fun p hp=>I.pin p (List.mem_append_right _ (List.mem_append_left _ hp))
theorem Md {iter:Expr} {body:List Stmt} {wi:TI} {g:TG} {tb:TS} {pos:Pos} (hp:PassesOwn (model X.prog X.w) X.A X.env X.xe) (hc:X.calm = true) (hi:PI X tg iter wi) (hg:PG X tg g) (hb:PSs X body tb)
  (hs:∀ x,foldedSetIterable iter X.env x = pure x:=by intro _; rfl):PS X (.For tg iter body [] pos) (PM wi g tb):=by
 intro pins s σ H D I h
 refine wpAny_For (thn (hi pins s σ H _ I h) fun v s1 h1=>thn h1 fun itv s2 h2=>?_) hs
 obtain ⟨it,fp,tn,J,H2,e,I2,T,st2,f2,W,⟨m0,w0⟩,turn⟩:=h2
 subst e
 have stat:∀ {H':Hp},(∀ b ∈ fp,H' b = none) → ∀ b ∈ fp,yu X pins H' b:=fun hn b hb=>⟨hn b hb,(f2 b hb).2⟩
 refine codeAny_forLoop_any (fun n s'=>∃ i σ' H',Inv X pins σ' H' s' ∧ tn i s'.heap ∧ (∀ b ∈ fp,H' b = none) ∧ W i n σ' H') ?_ m0 ⟨0,σ,H2,I2,st2,fun b hb=>(f2 b hb).1,w0⟩
 rintro n s3 ⟨i,σ3,H3,I3,st3,fr3,w3⟩
 rcases turn i n σ3 H3 w3 with ⟨stop,qn⟩ | ⟨go,N,hN,step⟩
 ·refine wpAny_passesOwn hp (thn (T.done X rfl rfl rfl hc i pins s3 σ3 H3 X.xe I3 (stat fr3) st3 stop) fun r s4 ⟨hr,I4⟩=>?_)
  subst hr
  exact wpAny_execs_nil ⟨σ3,H3,I4,qn⟩
 ·refine wpAny_passesOwn hp (thn (T.item X rfl rfl rfl hc i pins s3 σ3 H3 X.xe I3 (stat fr3) st3 go) fun r s4 ⟨u,hr,h4⟩=>?_)
  subst hr
  refine wpAny_passesOwn hp (thn h4 fun _ s5 ⟨x,H5,I5,r5,y5,st5,fr5⟩=>?_)
  have I5':=I5.pinned (stat fr5) (T.obj _ _ st5)
  refine wpAny_passesOwn hp (thn (hg _ s5 σ3 H5 x u _ I5' r5 (step x H5 y5)) fun _ s6 ⟨σ6,H6,I6,q6⟩=>?_)
  refine wpAny_passesOwn hp (thn (hb _ s6 σ6 H6 _ I6 q6) fun f s7 q7=>?_)
  have again:∀ {σ7:St} {H7:Hp},Inv X (pins ++ wA fp s5.heap) σ7 H7 s7 → N σ7 H7 → ∃ m,m < n ∧ ∃ i σ' H',Inv X pins σ' H' s7 ∧ tn i s7.heap ∧ (∀ b ∈ fp,H' b = none) ∧ W i m σ' H':=fun {σ7 H7} I7 n7=>by
   obtain ⟨m',hm,w7⟩:=hN σ7 H7 n7
   refine ⟨m',hm,i + 1,σ7,H7,I7.jU,T.keep _ _ _ st5 fun b hb o e=>(I7.pin (b,o) (List.mem_append_right _ (List.mem_append_right _ (og hb e)))).1,fun b hb=>?_,w7⟩
   obtain ⟨o,e,d⟩:=T.obj _ _ st5 b hb
   exact (I7.pin (b,o) (List.mem_append_right _ (List.mem_append_right _ (og hb e)))).2.1
  cases f with
  | next=>obtain ⟨σ7,H7,I7,n7⟩:=q7; exact again I7 n7
  | cont=>obtain ⟨σ7,H7,I7,n7⟩:=q7; exact again I7 n7
  | brk=>obtain ⟨σ7,H7,I7,q7⟩:=q7; exact ⟨σ7,H7,I7.jU,q7⟩
  | ret v=>obtain ⟨x7,σ7,H7,I7,r7,q7⟩:=q7; exact ⟨x7,σ7,H7,I7.jU,r7,q7⟩
end
end L2
namespace L2
open PySem PySem.Spec PyProof.Rows
abbrev R2:=V → V → Hp → VK → Prop
def OpR (X:Cx) (f:Value → Value → Sem Value) (r:R2):Prop :=
 ∀ (pins:List (Addr × Obj)) (s:Shared) (σ:St) (H:Hp) (x y:V) (v u:Value) (Q:VK),Inv X pins σ H s → RelV x v → RelV y u → r x y H Q →
  wpAny (model X.prog X.w) X.A (f v u) (EP X pins σ Q) X.xe s
def UnR (X:Cx) (f:Value → Sem Value) (r:V → Hp → VK → Prop):Prop :=
 ∀ (pins:List (Addr × Obj)) (s:Shared) (σ:St) (H:Hp) (x:V) (v:Value) (Q:VK),Inv X pins σ H s → RelV x v → r x H Q →
  wpAny (model X.prog X.w) X.A (f v) (EP X pins σ Q) X.xe s
def dO (X:Cx) (f:Value) (r:List V → Hp → VK → Prop):Prop :=
 ∀ (pins:List (Addr × Obj)) (s:Shared) (σ:St) (H:Hp) (xs:List V) (us:List Value) (Q:VK),Inv X pins σ H s → Vals xs us → r xs H Q →
  wpAny (model X.prog X.w) X.A (call f us) (EP X pins σ Q) X.xe s
def tOp (r:R2) (ta tb:TE):TE:=fun σ H Q=>ta σ H fun x H1=>tb σ H1 fun y H2=>r x y H2 Q
def tUn (r:V → Hp → VK → Prop) (ta:TE):TE:=fun σ H Q=>ta σ H fun x H1=>r x H1 Q
def rI (C:Int → Int → Prop) (g:Int → Int → V):R2:=fun x y H Q=>∃ i j,x = .int i ∧ y = .int j ∧ C i j ∧ Q (g i j) H
def rI0 (g:Int → Int → V):R2:=fun x y H Q=>∃ i j,x = .int i ∧ y = .int j ∧ Q (g i j) H
def rU (g:Int → V):V → Hp → VK → Prop:=fun x H Q=>∃ i,x = .int i ∧ Q (g i) H
section
variable {X:Cx} {a b c:Expr} {ta tb tc:TE} {pos:Pos}
theorem LY (ha:PE X a ta) (hb:PE X b tb) {pins:List (Addr × Obj)} {s:Shared} {σ:St} {H:Hp} {R:V → V → Hp → Prop} (I:Inv X pins σ H s)
  (h:ta σ H fun x H1=>tb σ H1 fun y H2=>R x y H2) {Q:Value → Shared → Prop} {f:Value → Value → Sem Value}
  (hf:∀ v u s2 x y H2,Inv X pins σ H2 s2 → RelV x v → RelV y u → R x y H2 → wpAny (model X.prog X.w) X.A (f v u) Q X.xe s2) :
  wpAny (model X.prog X.w) X.A (eval a X.env) (fun v s₁=>wpAny (model X.prog X.w) X.A (eval b X.env) (fun u s₂=>wpAny (model X.prog X.w) X.A (f v u) Q X.xe s₂) X.xe s₁) X.xe s:=by
 refine thn (ha pins s σ H _ I h) fun v s1 ⟨x,H1,I1,r1,q1⟩=>?_
 refine thn (hb pins s1 σ H1 _ I1 q1) fun u s2 ⟨y,H2,I2,r2,q2⟩=>?_
 exact hf v u s2 x y H2 I2 r1 r2 q2
theorem OQ {op:Operator} {r:R2} (ho:OpR X (binaryOp op) r) (ha:PE X a ta) (hb:PE X b tb):PE X (.BinOp a op b pos) (tOp r ta tb):=by
 intro pins s σ H Q I h
 exact wpAny_BinOp (LY ha hb I h fun v u s2 x y H2 I2 rx ry q=>ho pins s2 σ H2 x y v u Q I2 rx ry q)
theorem NZ {op:UnaryOp} {r:V → Hp → VK → Prop} (ho:UnR X (unaryOp op) r) (ha:PE X a ta):PE X (.UnaryOp op a pos) (tUn r ta):=by
 intro pins s σ H Q I h
 exact UnaryOp_ (thn (ha pins s σ H _ I h) fun v s1 ⟨x,H1,I1,r1,q1⟩=>ho pins s1 σ H1 x v Q I1 r1 q1)
theorem opI {f:Value → Value → Sem Value} {C:Int → Int → Prop} {g:Int → Int → Int}
  (rule:∀ (i j:Int) (t u:Tok) (s:Shared) (Q:Value → Shared → Prop) (E:Value → Shared → Prop),C i j → Q (.int (g i j) s.toks) { s with toks:=s.toks + 1 } → wpAny (model X.prog X.w) X.A (f (.int i t) (.int j u)) Q E s) :
  OpR X f (rI C fun i j=>.int (g i j)):=by
 intro pins s σ H x y v u Q I rx ry h
 obtain ⟨i,j,rfl,rfl,hc,q⟩:=h
 obtain ⟨t,rfl⟩:=rx
 obtain ⟨t',rfl⟩:=ry
 exact rule i j t t' s _ _ hc ⟨.int (g i j),H,I.tok _,⟨_,rfl⟩,q⟩
theorem Oj {f:Value → Value → Sem Value} {g:Int → Int → Int}
  (rule:∀ (i j:Int) (t u:Tok) (s:Shared) (Q:Value → Shared → Prop) (E:Value → Shared → Prop),Q (.int (g i j) s.toks) { s with toks:=s.toks + 1 } → wpAny (model X.prog X.w) X.A (f (.int i t) (.int j u)) Q E s) :
  OpR X f (rI0 fun i j=>.int (g i j)):=by
 intro pins s σ H x y v u Q I rx ry h
 obtain ⟨i,j,rfl,rfl,q⟩:=h
 obtain ⟨t,rfl⟩:=rx
 obtain ⟨t',rfl⟩:=ry
 exact rule i j t t' s _ _ ⟨.int (g i j),H,I.tok _,⟨_,rfl⟩,q⟩
theorem MA {f:Value → Value → Sem Value} {g:Int → Int → Bool}
  (rule:∀ (i j:Int) (t u:Tok) (s:Shared) (Q:Value → Shared → Prop) (E:Value → Shared → Prop),Q (.bool (g i j)) s → wpAny (model X.prog X.w) X.A (f (.int i t) (.int j u)) Q E s) :
  OpR X f (rI0 fun i j=>.bl (g i j)):=by
 intro pins s σ H x y v u Q I rx ry h
 obtain ⟨i,j,rfl,rfl,q⟩:=h
 obtain ⟨t,rfl⟩:=rx
 obtain ⟨t',rfl⟩:=ry
 exact rule i j t t' s _ _ ⟨.bl (g i j),H,I,rfl,q⟩
def OM (i j:Int):Prop:=0 ≤ j ∧ j ≤ 1000000 ∧ i.natAbs < 2 ^ 64
theorem Li:OpR X (binaryOp .Add) (rI0 fun i j=>.int (i + j)):=Oj fun _ _ _ _ _ _ _ q=>add_int q
theorem Lj:OpR X (binaryOp .Sub) (rI0 fun i j=>.int (i - j)):=Oj fun _ _ _ _ _ _ _ q=>sub_int q
theorem Ii:OpR X (binaryOp .Mod) (rI (fun _ j=>j ≠ 0) fun i j=>.int (i.fmod j)):=opI fun _ _ _ _ _ _ _ hc q=>mod_int' hc q
theorem MW:OpR X (binaryOp .Pow) (rI OM fun i j=>.int (i ^ j.toNat)):=opI fun _ _ _ _ _ _ _ hc q=>pow_int_small hc.1 hc.2.1 hc.2.2 q
theorem unI {f:Value → Sem Value} {g:Int → Int}
  (rule:∀ (i:Int) (t:Tok) (s:Shared) (Q:Value → Shared → Prop) (E:Value → Shared → Prop),Q (.int (g i) s.toks) { s with toks:=s.toks + 1 } → wpAny (model X.prog X.w) X.A (f (.int i t)) Q E s) :
  UnR X f (rU fun i=>.int (g i)):=by
 intro pins s σ H x v Q I rx h
 obtain ⟨i,rfl,q⟩:=h
 obtain ⟨t,rfl⟩:=rx
 exact rule i t s _ _ ⟨.int (g i),H,I.tok _,⟨_,rfl⟩,q⟩
theorem MV:UnR X (unaryOp .USub) (rU fun i=>.int (-i)):=unI fun _ _ _ _ _ q=>neg_int q
end
section
variable {X:Cx} {a b c:Expr} {ta tb tc:TE} {pos:Pos}
theorem OJ:OpR X (compareOp .Lt) (rI0 fun i j=>.bl (decide (i < j))):=MA fun _ _ _ _ _ _ _ q=>lt_int q
theorem KZ:OpR X (compareOp .Gt) (rI0 fun i j=>.bl (decide (j < i))):=MA fun _ _ _ _ _ _ _ q=>gt_int q
theorem OC:OpR X (compareOp .GtE) (rI0 fun i j=>.bl (decide (j ≤ i))):=MA fun _ _ _ _ _ _ _ q=>ge_int q
theorem pK (b:Expr) {op:CmpOp} (h:op ≠ .In:=by decide) (h2:op ≠ .NotIn:=by decide):behindInMarks op b = false:=by
 have e1:(op == CmpOp.In) = false:=by cases op <;> first | rfl | exact absurd rfl h
 have e2:(op == CmpOp.NotIn) = false:=by cases op <;> first | rfl | exact absurd rfl h2
 cases b <;> simp [behindInMarks,e1,e2]
theorem Ib {op:CmpOp} {r:R2} (ho:OpR X (compareOp op) r) (ha:PE X a ta) (hb:PE X b tb) (hm:behindInMarks op b = false):PE X (.Compare a [op] [b] pos) (tOp r ta tb):=by
 intro pins s σ H Q I h
 exact wpAny_Compare1 (LY ha hb I h fun v u s2 x y H2 I2 rx ry q=>ho pins s2 σ H2 x y v u Q I2 rx ry q) hm
def OL (t:TE):TT:=fun σ H Q=>t σ H fun x H'=>∃ k,x = .bl k ∧ Q k H'
theorem IL {op:CmpOp} {r:R2} (ho:OpR X (compareOp op) r) (ha:PE X a ta) (hb:PE X b tb) (hm:behindInMarks op b = false):PT X (.Compare a [op] [b] pos) (OL (tOp r ta tb)):=by
 intro pins s σ H Q I h
 refine wpAny_isTrue_Compare1 (thn (ha pins s σ H _ I h) fun v s1 ⟨x,H1,I1,r1,q1⟩=>thn (hb pins s1 σ H1 _ I1 q1) fun u s2 ⟨y,H2,I2,r2,q2⟩ =>
  thn (ho pins s2 σ H2 x y v u _ I2 r1 r2 q2) fun c s3 ⟨z,H3,I3,r3,k,e,q3⟩=>?_) hm
 subst e
 cases r3
 exact wpAny_truthy_bool ⟨H3,I3,q3⟩
theorem wo:(sizeLine:Nat) < 2 ^ 63:=by rw [sizeLine_eq]; decide
theorem CM:OpR X (binaryOp .Add) (fun x y H Q=>∃ i j,x = .str i ∧ y = .str j ∧ i.length + j.length ≤ sizeLine ∧ Q (.str (i ++ j)) H):=by
 intro pins s σ H x y v u Q I rx ry h
 obtain ⟨i,j,rfl,rfl,hz,q⟩:=h
 obtain ⟨t,rfl⟩:=rx
 obtain ⟨t',rfl⟩:=ry
 exact add_str (fun t' tk=>⟨.str (i ++ j),H,I.tok _,⟨_,rfl⟩,q⟩) hz
theorem vals1 {x:V} {us:List Value} (r:Vals [x] us):∃ u,us = [u] ∧ RelV x u:=by
 cases r with
 | cons r1 r2=>cases r2; exact ⟨_,rfl,r1⟩
theorem vals2 {x y:V} {us:List Value} (r:Vals [x,y] us):∃ u w',us = [u,w'] ∧ RelV x u ∧ RelV y w':=by
 cases r with
 | cons r1 r2 =>
  cases r2 with
  | cons r3 r4=>cases r4; exact ⟨_,_,rfl,r1,r3⟩
theorem Bg:dO X (.builtin "abs") (fun xs H Q=>∃ i,xs = [.int i] ∧ Q (.int (if i < 0 then -i else i)) H):=by
 intro pins s σ H xs us Q I r h
 obtain ⟨i,rfl,q⟩:=h
 obtain ⟨u,rfl,t,rfl⟩:=vals1 r
 exact call_abs_int fun u tk=>⟨.int (if i < 0 then -i else i),H,I.tok _,⟨_,rfl⟩,q⟩
theorem Fs (hc:X.calm = true):dO X (.builtin "max") (fun xs H Q=>∃ i j,xs = [.int i,.int j] ∧ Q (.int (if j > i then j else i)) H):=by
 intro pins s σ H xs us Q I r h
 obtain ⟨i,j,rfl,q⟩:=h
 obtain ⟨u,w',rfl,⟨t,rfl⟩,⟨t',rfl⟩⟩:=vals2 r
 refine max_two_ints (I.ok.hd hc) fun h' tk k=>⟨_,H,I.kept k,?_,q⟩
 by_cases hj:j > i
 ·rw [if_pos hj,if_pos hj]; exact ⟨_,rfl⟩
 ·rw [if_neg hj,if_neg hj]; exact ⟨_,rfl⟩
theorem EI (hc:X.calm = true):dO X (.builtin "min") (fun xs H Q=>∃ i j,xs = [.int i,.int j] ∧ Q (.int (if j < i then j else i)) H):=by
 intro pins s σ H xs us Q I r h
 obtain ⟨i,j,rfl,q⟩:=h
 obtain ⟨u,w',rfl,⟨t,rfl⟩,⟨t',rfl⟩⟩:=vals2 r
 refine min_two_ints (I.ok.hd hc) fun h' tk k=>⟨_,H,I.kept k,?_,q⟩
 by_cases hj:j < i
 ·rw [if_pos hj,if_pos hj]; exact ⟨_,rfl⟩
 ·rw [if_neg hj,if_neg hj]; exact ⟨_,rfl⟩
theorem uH:dO X (.type "int") (fun xs H Q=>(∃ i,xs = [.int i] ∧ Q (.int i) H) ∨ ∃ k,xs = [.bl k] ∧ Q (.int (if k then 1 else 0)) H):=by
 intro pins s σ H xs us Q I r h
 rcases h with ⟨i,rfl,q⟩ | ⟨k,rfl,q⟩
 ·obtain ⟨u,rfl,t,rfl⟩:=vals1 r
  exact call_int_int ⟨.int i,H,I,⟨_,rfl⟩,q⟩
 ·obtain ⟨u,rfl,r1⟩:=vals1 r
  cases r1
  exact call_int_bool ⟨.int (if k then 1 else 0),H,I.tok _,⟨_,rfl⟩,q⟩
def OA (K:PySem.W.Frag) (x:V) (H:Hp) (n:Nat):Prop :=
 match x with
 | .str y=>y.length ≤ sizeLine ∧ n = y.length
 | .byt y=>y.size ≤ sizeLine ∧ n = y.size
 | .ref p=>(∃ xs,SqL K H p xs ∧ n = xs.length) ∨ ∃ xs,SqT K H p xs ∧ n = xs.length
 | _=>False
theorem iE:dO X (.builtin "len") (fun xs H Q=>∃ x n,xs = [x] ∧ OA X.K x H n ∧ Q (.int n) H):=by
 intro pins s σ H xs us Q I r h
 obtain ⟨x,n,rfl,e,q⟩:=h
 obtain ⟨u,rfl,rx⟩:=vals1 r
 have hl:=wo
 have hs:sizeLine = 16777216:=sizeLine_eq
 cases x with
 | str y =>
  obtain ⟨t,rfl⟩:=rx
  obtain ⟨hy,e'⟩:y.length ≤ sizeLine ∧ n = y.length:=e
  subst e'
  exact len_str (by omega) ⟨.int _,H,I.tok _,⟨_,rfl⟩,q⟩
 | byt y =>
  obtain ⟨t,rfl⟩:=rx
  obtain ⟨hy,e'⟩:y.size ≤ sizeLine ∧ n = y.size:=e
  subst e'
  exact PySem.W.len_bytes (by omega) ⟨.int _,H,I.tok _,⟨_,rfl⟩,q⟩
 | ref p =>
  cases rx
  have e':(∃ xs,SqL X.K H p xs ∧ n = xs.length) ∨ ∃ xs,SqT X.K H p xs ∧ n = xs.length:=e
  rcases e' with ⟨xs,hx,e'⟩ | ⟨xs,hx,e'⟩
  ·subst e'
   obtain ⟨its,r',pl,hz⟩:=I.list hx
   have hlen:=r'.length
   exact Calls.call_len_list pl.isList (by simp only [List.size_toArray]; omega) ⟨.int xs.length,H,I.tok _,⟨_,by simp only [List.size_toArray]; rw [hlen]⟩,q⟩
  ·subst e'
   obtain ⟨its,r',pl,hz⟩:=I.tuple hx
   have hlen:=r'.length
   exact len_tuple pl (by simp only [List.size_toArray]; omega) ⟨.int xs.length,H,I.tok _,⟨_,by simp only [List.size_toArray]; rw [hlen]⟩,q⟩
 | _=>exact (show False from e).elim
end
end L2
namespace L2
open PySem PySem.Spec PyProof.Rows
structure MD (h:Heap) (x dx C:Addr) (mA:Str → Option Value):Prop where
 obj:h.get? x = some (PySem.W.instObj C dx)
 ns:h.Ns1 dx mA
 ne:dx ≠ x
theorem E7 {h:Heap} {dx:Addr} {mA:Str → Option Value} (n:h.Ns1 dx mA):∃ od,h.get? dx = some od ∧ ∀ name,PySem.W.lookIn name od = some (mA name):=by
 obtain ⟨o,es,ep,ho,hd,hk,_,hm⟩:=n
 refine ⟨o,ho,fun name=>?_⟩
 have e:=hm name
 unfold nsFind findBy at e
 rw [← Array.find?_toList] at e
 unfold PySem.W.lookIn
 rw [hd]
 dsimp only
 split
 ·rename_i y q
  rw [q] at e
  exact congrArg some e
 ·rename_i q
  rw [q] at e
  have a:es.toList.any (·.refKey) = false:=by
   rw [List.any_eq_false]
   intro y hy
   obtain ⟨z,t,hkey⟩:=hk y (Array.mem_toList_iff.mp hy)
   simp [DictEntry.refKey,hkey]
  have a':¬ es.toList.any (·.refKey) = true:=by rw [a]; exact Bool.false_ne_true
  rw [if_neg a']
  exact congrArg some e
theorem MD.look {h:Heap} {x dx C:Addr} {mA:Str → Option Value} (I:MD h x dx C mA):∃ od,PySem.W.InstAt h x (PySem.W.instObj C dx) C (some od) ∧ ∀ name,PySem.W.lookIn name od = some (mA name) :=
 let ⟨od,ho,hl⟩:=E7 I.ns
 ⟨od,⟨I.obj,rfl,rfl,ho⟩,hl⟩
theorem oI.some_of {v:V} {o:Option Value} (r:oI (some v) o):∃ u,o = some u ∧ RelV v u:=by
 cases o with
 | none=>exact (show False from r).elim
 | some u=>exact ⟨u,rfl,r⟩
theorem oI.none_of {o:Option Value} (r:oI none o):o = none:=by
 cases o with
 | none=>rfl
 | some u=>exact (show False from r).elim
section
variable {P:Program} {w:World} {H H':Hp} {h h':Heap} {a C dx:Addr} {fs fs':List (Str × V)}
theorem JQ (hok:HOk P w H h) (e:H a = some (.ins C dx fs)):∃ mA,MD h a dx C mA ∧ (∀ f,oI (fs.lookup f) (mA f)) ∧ PySem.Within mA (fs.map (·.1)) ∧ fs.length ≤ 1000 ∧ H dx = some (.own a):=by
 obtain ⟨d,z,ne,ob,mA,n,r,q⟩:=(show cN P w H h a (.ins C dx fs) from hok a _ e)
 exact ⟨mA,⟨ob,n,ne⟩,r,q,z,d⟩
end
structure Cls (K:PySem.W.Frag) (C:Addr):Prop where
 pg:PySem.W.plainGet K C Str.empty = true
 hd:PySem.W.hasDictIn K C = true
 po:PySem.W.plainOver K C = true
 sa:PySem.W.findIn K (.ref C) "__setattr__" = some (some (.builtin "object.__setattr__"))
theorem Cls.get {K:PySem.W.Frag} {C:Addr} (c:Cls K C) (f:Str):PySem.W.plainGet K C f = true:=c.pg
section
variable {X:Cx} {pins:List (Addr × Obj)} {σ:St} {H:Hp} {s:Shared} {A:Around} {E:Value → Shared → Prop} {Q:Value → Shared → Prop} {c:Value} {b:Bool}
inductive vT (K:PySem.W.Frag) (H:Hp):V → Value → Prop where
 | non:vT K H .non (.type "NoneType")
 | bl (x:Bool):vT K H (.bl x) (.type "bool")
 | int (i:Int):vT K H (.int i) (.type "int")
 | str (x:Str):vT K H (.str x) (.type "str")
 | flt (x:UInt64):vT K H (.flt x) (.type "float")
 | lst {a:Addr} {xs:List V} (e:H a = some (.lst xs)):vT K H (.ref a) (.type "list")
 | frz {a:Addr} {o:Obj} {xs:List V} (e:H a = some (.frz o (.lst xs))):vT K H (.ref a) (.type "list")
 | tup {a:Addr} {xs:List V} (e:H a = some (.tup xs)):vT K H (.ref a) (.type "tuple")
 | dK {a:Addr} {kvs:List (Key × V)} (e:H a = some (.dK kvs)):vT K H (.ref a) (.type "dict")
 | dT {a:Addr} {kvs:List (List Key × V)} (e:H a = some (.dT kvs)):vT K H (.ref a) (.type "dict")
 | ins {a C dx:Addr} {fs:List (Str × V)} (e:H a = some (.ins C dx fs)) (cl:Cls K C) (ha:PySem.W.findIn K (.ref C) "__class__" = some (some (.builtin "object.__class__")))
   (hn:PySem.W.specialIn K (.builtin "object.__class__") "__get__" = some (some (.builtin "getset_descriptor.__get__"))) (htk:PySem.W.takesIn K (.builtin "object.__class__") = some true)
   (hm:PySem.W.mroIn K C (.type "object") = some true):vT K H (.ref a) (.ref C)
end
end L2
namespace L2
open PySem PySem.Spec PyProof.Rows
structure kH (k:Nat) (A:Around):Prop where
 hd:A.handled = none
 dp:A.depth + 3 * k + 5 < recursionLimit
 un:A.units + 16 * k + 200 < cLine
theorem kH.mono {j k:Nat} {A:Around} (r:kH k A) (h:j ≤ k):kH j A:=⟨r.hd,by have:=r.dp; omega,by have:=r.un; omega⟩
theorem kH.deeper {k:Nat} {A:Around} (r:kH (k + 1) A) (env:Env):kH k (A.deeper env) :=
 ⟨r.hd,by have:=r.dp; show A.depth + 1 + 3 * k + 5 < _; omega,by have:=r.un; show A.units + 3 + 16 * k + 200 < _; omega⟩
theorem kH.depth {k:Nat} {A:Around} (r:kH k A):A.depth < recursionLimit:=by have:=r.dp; omega
theorem kH.units {k:Nat} {A:Around} (r:kH k A):A.units + 64 < cLine:=by have:=r.un; omega
def Od:TA:=fun _ H Q=>Q [] H
def KD (ta:TE) (tr:TA):TA:=fun σ H Q=>ta σ H fun x H1=>tr σ H1 fun xs H2=>Q (x :: xs) H2
section
variable {X:Cx} {e:Expr} {es:List Expr} {te:TE} {t:TA} {pos:Pos}
theorem mn:PA X [] Od:=fun _ _ _ _ H Q I h=>Calls.spliced_nil ⟨[],H,I,.nil,h⟩
theorem fk (ha:PE X e te) (hr:PA X es t) (hs:starEach (e :: es) X.env = (false,eval e X.env) :: starEach es X.env:=by rfl):PA X (e :: es) (KD te t):=by
 intro pos pins s σ H Q I h
 rw [hs]
 show wpAny _ _ (spliced ((false,eval e X.env) :: backTo pos (starEach es X.env))) _ _ s
 refine Calls.spliced_cons (thn (ha pins s σ H _ I h) fun u s1 ⟨x,H1,I1,r1,q1⟩=>?_)
 exact thn (hr pos pins s1 σ H1 _ I1 q1) fun us s2 ⟨xs,H2,I2,r2,q2⟩=>⟨x :: xs,H2,I2,.cons r1 r2,q2⟩
def Pm (t:TA):TE:=fun σ H Q=>t σ H fun xs H1=>xs.length ≤ sizeLine ∧ ∀ p,H1 p = none → Q (.ref p) (upd H1 p (.tup xs))
def Pq (t:TA):TE:=fun σ H Q=>t σ H fun xs H1=>xs.length ≤ sizeLine ∧ ∀ p,H1 p = none → Q (.ref p) (upd H1 p (.lst xs))
theorem MQ {x1} (h:PA X es t):PE X (.Tuple es x1 pos) (Pm t):=by
 intro pins s σ H Q I hq
 refine wpAny_Tuple_spliced (thn (h pos pins s σ H _ I hq) fun us s1 ⟨xs,H1,I1,r,z,q⟩=>⟨by rw [← r.length]; exact z,?_⟩)
 have hf:H1 s1.heap.objs.size = none:=I1.hok.fresh (Nat.le_refl _)
 refine ⟨.ref s1.heap.objs.size,upd H1 s1.heap.objs.size (.tup xs),I1.laid (t':=s1.toks) (fun b u e=>Heap.get?_push_of_some _ e) (Nat.le_refl _) ?_,rfl,q _ hf⟩
 exact ⟨z,us,r,⟨_,Heap.get?_push_size _ rfl,rfl,_,rfl,rfl⟩⟩
theorem L7 (h:PA X es t):PE X (.List es pos) (Pq t):=by
 intro pins s σ H Q I hq
 refine wpAny_List_spliced (thn (h pos pins s σ H _ I hq) fun us s1 ⟨xs,H1,I1,r,z,q⟩=>⟨by rw [← r.length]; exact z,?_⟩)
 have hf:H1 s1.heap.objs.size = none:=I1.hok.fresh (Nat.le_refl _)
 refine ⟨.ref s1.heap.objs.size,upd H1 s1.heap.objs.size (.lst xs),I1.laid (t':=s1.toks) (fun b u e=>Heap.get?_push_of_some _ e) (Nat.le_refl _) ?_,rfl,q _ hf⟩
 exact ⟨z,us,0,r,Heap.get?_push_size _ rfl⟩
end
abbrev Sp:=List V → Hp → VK → XK → Prop
abbrev CXT:=List Env → Hp → Shared → XK → Value → Shared → Prop
structure HY (P:Program) (w:World) (K:PySem.W.Frag) (mg:Str → Option Value) (base:Heap) (A:Around) (outer:List Env) (s:Shared) (H:Hp):Prop where
 frames:A.frames = some outer
 mod:Mod K mg base
 bs:∀ b o,base.get? b = some o → s.heap.get? b = some o ∧ H b = none
 bsz:base.objs.size ≤ s.heap.objs.size
 vB:s.heap.FunFrames base outer
 frf:∀ b ∈ frs outer,H b = none
 hok:HOk P w H s.heap
 bare:AllBare s.gens
def CE (outer:List Env) (P:Program) (w:World) (H:Hp) (s:Shared) (Q:VK) (u:Value) (s':Shared):Prop :=
 ∃ v H',s'.os = s.os ∧ AllBare s'.gens ∧ Un (frs outer) [] H H' s.heap s'.heap ∧ HOk P w H' s'.heap ∧ RelV v u ∧ Q v H'
def CR (CX:CXT) (outer:List Env) (P:Program) (w:World) (H:Hp) (s:Shared) (Q:VK) (E:XK) (r:Result) (s':Shared):Prop :=
 match r with
 | .ok (.ret u)=>CE outer P w H s Q u s'
 | .ok _=>False
 | .error e=>CX outer H s E e s'
structure dw (P:Program) (w:World) (K:PySem.W.Frag) (mg:Str → Option Value) (base:Heap) (CX:CXT) (k:Nat) (f:Addr) (fd:FuncData) (ps:List Str) (sp:Sp):Prop where
 len:∀ vs H Q E,sp vs H Q E → vs.length = ps.length
 run:∀ (A:Around) (outer:List Env) (s:Shared) (H:Hp) (args:Args) (us:List Value) (vs:List V) (Q:VK) (E:XK),kH k A → HY P w K mg base A outer s H → BindsTo s fd args (ps.zip us) → Vals vs us → sp vs H Q E →
  codeAny (model P w) A (.call (.ref f) args) (CR CX outer P w H s Q E) s
theorem dw.imp {P:Program} {w:World} {K:PySem.W.Frag} {mg:Str → Option Value} {base:Heap} {CX:CXT} {k:Nat} {f:Addr} {fd:FuncData} {ps:List Str} {sp sp':Sp} (F:dw P w K mg base CX k f fd ps sp)
  (h:∀ vs H Q E,sp' vs H Q E → sp vs H Q E):dw P w K mg base CX k f fd ps sp' :=
 ⟨fun vs H Q E q=>F.len vs H Q E (h _ _ _ _ q),fun A outer s H args us vs Q E hr he hb hv hs=>F.run A outer s H args us vs Q E hr he hb hv (h _ _ _ _ hs)⟩
section
variable {X:Cx} {pins:List (Addr × Obj)} {σ:St} {H:Hp} {s s':Shared}
theorem Inv.OD (I:Inv X pins σ H s):HY X.prog X.w X.K X.mg X.base X.A X.stack s H :=
 ⟨I.ok.frames,I.ok.mod,I.bs,Nat.le_trans I.ok.bsz I.sz,I.stack,I.zH,I.hok,I.bare⟩
theorem Inv.after {Q:VK} {u:Value} (I:Inv X pins σ H s) (h:CE X.stack X.prog X.w H s Q u s'):EP X pins σ Q u s':=by
 obtain ⟨v,H',os,bare,un,hok,r,q⟩:=h
 obtain ⟨hh,g,d,t,os'⟩:=s'
 obtain rfl:os' = s.os:=os
 exact ⟨v,H',I.call (h':=hh) (g':=g) (d':=d) (t':=t) (ch:=[]) un hok bare (fun b z=>absurd z (by simp)),r,q⟩
end
def Om (sp:Sp) (dvs:List V) (E:XK) (t:TA):TE:=fun σ H Q=>t σ H fun vs H1=>sp (vs ++ dvs) H1 Q E
def Binds (K:PySem.W.Frag) (fd:FuncData) (ps:List Str) (ds:List Value):Prop :=
 ∀ (s:Shared) (us:List Value),K.In s.heap → (us ++ ds).length = ps.length → BindsTo s fd ⟨us,[]⟩ (ps.zip (us ++ ds))
theorem Binds.all {K:PySem.W.Frag} {fd:FuncData} {ps:List Str} (h:∀ us:List Value,us.length = ps.length → bindArgs fd ⟨us,[]⟩ = pure (ps.zip us)):Binds K fd ps []:=fun s us _ hl=>by
 rw [List.append_nil] at hl ⊢
 exact .of_eq (h us hl)
def Passes (CX:CXT) (X:Cx) (E:XK):Prop:=∀ (pins:List (Addr × Obj)) (σ:St) (H:Hp) (s:Shared) (e:Value) (s':Shared),Inv X pins σ H s → CX X.stack H s E e s' → X.xe e s'
section
variable {X:Cx} {CX:CXT} {k:Nat} {f C:Addr} {fd:FuncData} {ps:List Str} {sp:Sp} {dvs:List V} {ds:List Value} {E:XK} {x m:Str} {p pos apos:Pos} {e o:Expr} {es:List Expr} {ta:TE} {t:TA}
theorem Lz {pins:List (Addr × Obj)} {σ:St} {H:Hp} {s:Shared} {Q:VK} {us:List Value} {vs:List V} (F:dw X.prog X.w X.K X.mg X.base CX k f fd ps sp) (hr:kH k X.A) (hb:Binds X.K fd ps ds) (hd:Vals dvs ds) (hx:Passes CX X E)
  (I:Inv X pins σ H s) (r:Vals vs us) (h:sp (vs ++ dvs) H Q E):wpAny (model X.prog X.w) X.A (call (.ref f) us) (EP X pins σ Q) X.xe s:=by
 have r2:Vals (vs ++ dvs) (us ++ ds):=r.append hd
 have hl:(us ++ ds).length = ps.length:=by rw [← r2.length]; exact F.len _ _ _ _ h
 refine wpAny_call (codeAny_mono (F.run X.A X.stack s H ⟨us,[]⟩ (us ++ ds) (vs ++ dvs) Q E hr I.OD (hb s us I.kIn hl) r2 h) fun r s' hq=>?_)
 cases r with
 | error e=>exact hx pins σ H s e s' I hq
 | ok fl =>
  cases fl with
  | ret u=>exact I.after hq
  | next=>exact False.elim hq
  | brk=>exact False.elim hq
  | cont=>exact False.elim hq
theorem Jq (F:dw X.prog X.w X.K X.mg X.base CX k f fd ps sp) (hr:kH k X.A) (hg:Gl X x) (hm:X.mg x = some (.ref f)) (hk:PySem.W.keepIn X.K (.ref f) = true) (hb:Binds X.K fd ps ds) (hd:Vals dvs ds) (hx:Passes CX X E)
  (ha:PA X (e :: es) t) (hdb:NDb x:=by decide) (he:starEach (e :: es) X.env = (false,eval e X.env) :: starEach es X.env:=by rfl) (hpl:(backTo pos (starEach es X.env)).any (·.1) = false:=by rfl) :
  PE X (.Call (.Name x p) (e :: es) [] pos) (Om sp dvs E t):=by
 intro pins s σ H Q I h
 refine wpAny_Call_Name_kw (sX I hg hm ?_ hdb)
 refine PySem.W.callWith_K (h₀:=X.base) I.ok.mod.kin hk (thn (ha pos pins s σ H _ I h) fun us s1 ⟨vs,H1,I1,r,q⟩=>⟨I1.kIn,?_⟩) he hpl
 exact Lz F hr hb hd hx I1 r q
end
structure bC (N P:List Str) (sc:Scope):Prop where
 kind:sc.kind = .function
 co:sc.isCoroutine = false
 gen:sc.isGenerator = false
 nd:N.Nodup
 pre:N.take P.length = P
 par:∀ x ∈ P,sc.names.lookup x = some .local ∨ sc.names.lookup x = some .cell
 nofree:∀ y ∈ sc.names,y.2 ≠ .free
theorem yW {kindOf:Str → Option NameKind} {x:Str}:∀ {binds:List (Str × Value)} {m:Str → Option Value},(∀ v,(x,v) ∉ binds) → bindL kindOf binds m x = m x
 | [],_,_=>rfl
 | (n,v) :: r,m,h=>by
  unfold bindL
  rw [yW fun w hw=>h w (List.mem_cons_of_mem _ hw)]
  split
  ·have:x ≠ n:=by rintro rfl; exact h v List.mem_cons_self
   simp [this]
  ·rfl
theorem yJ {kindOf:Str → Option NameKind} {x:Str}:∀ {binds:List (Str × Value)} {m:Str → Option Value},(∀ v,(x,v) ∉ binds) → bindC kindOf binds m x = m x
 | [],_,_=>rfl
 | (n,v) :: r,m,h=>by
  unfold bindC
  rw [yJ fun w hw=>h w (List.mem_cons_of_mem _ hw)]
  split
  ·rfl
  ·have:x ≠ n:=by rintro rfl; exact h v List.mem_cons_self
   simp [this]
theorem zo {kindOf:Str → Option NameKind} {x:Str} {v:Value}:∀ {P:List Str} {vs:List Value} {i:Nat} {m:Str → Option Value},P.Nodup → P[i]? = some x → vs[i]? = some v → kindOf x = some .local →
  bindL kindOf (P.zip vs) m x = some v
 | [],_,_,_,_,h,_,_=>by simp at h
 | _ :: _,[],_,_,_,_,h,_=>by simp at h
 | p :: P,w :: vs,0,m,nd,h1,h2,hk=>by
  simp at h1 h2; subst h1; subst h2
  show bindL kindOf ((p,w) :: P.zip vs) m p = _
  unfold bindL
  rw [yW fun v hv=>(List.nodup_cons.mp nd).1 (List.of_mem_zip hv).1,if_pos hk]
  simp
 | p :: P,w :: vs,i + 1,m,nd,h1,h2,hk=>by
  show bindL kindOf ((p,w) :: P.zip vs) m x = _
  unfold bindL
  exact zo (i:=i) (List.nodup_cons.mp nd).2 (by simpa using h1) (by simpa using h2) hk
theorem zt {kindOf:Str → Option NameKind} {x:Str} {v:Value}:∀ {P:List Str} {vs:List Value} {i:Nat} {m:Str → Option Value},P.Nodup → P[i]? = some x → vs[i]? = some v → kindOf x ≠ some .local →
  bindC kindOf (P.zip vs) m x = some v
 | [],_,_,_,_,h,_,_=>by simp at h
 | _ :: _,[],_,_,_,_,h,_=>by simp at h
 | p :: P,w :: vs,0,m,nd,h1,h2,hk=>by
  simp at h1 h2; subst h1; subst h2
  show bindC kindOf ((p,w) :: P.zip vs) m p = _
  unfold bindC
  rw [yJ fun v hv=>(List.nodup_cons.mp nd).1 (List.of_mem_zip hv).1,if_neg hk]
  simp
 | p :: P,w :: vs,i + 1,m,nd,h1,h2,hk=>by
  show bindC kindOf ((p,w) :: P.zip vs) m x = _
  unfold bindC
  exact zt (i:=i) (List.nodup_cons.mp nd).2 (by simpa using h1) (by simpa using h2) hk
def start (N:List Str) (vs:List V):St:=vs.map some ++ List.replicate (N.length - vs.length) none
def Bx (CX:CXT) (P:Program) (w:World) (K:PySem.W.Frag) (mg:Str → Option Value) (base:Heap) (N:List Str) (qual:Str) (scope:Scope) (f:Addr) (cd:Value) (A:Around) (outer:List Env) (s:Shared) (H:Hp) (E:XK):Cx where
 prog:=P
 w:=w
 K:=K
 mg:=mg
 base:=base
 A:=A.deeper (envOfC qual scope s.heap.objs.size f cd)
 N:=N
 s₀:=s
 H₀:=H
 env:=envOfC qual scope s.heap.objs.size f cd
 outer:=outer
 stack:=envOfC qual scope s.heap.objs.size f cd :: outer
 ex:=[]
 calm:=true
 fn:=fun _=>true
 pn:=[]
 xe:=fun e s'=>wpAny (model P w) (A.deeper (envOfC qual scope s.heap.objs.size f cd)) (leaving (envOfC qual scope s.heap.objs.size f cd) e) (fun _ s''=>CX outer H s E e s'') (fun e' s''=>CX outer H s E e' s'') s'
theorem Cj {sc:Scope} {n:Nat} {x:Str} (h:sc.names.lookup x = some .cell):∃ c,(cellsFrom n sc.names []).lookup x = some c:=by
 have q:=PySem.W.cellsFrom_some sc.names n [] (.inl h)
 exact Option.isSome_iff_exists.mp q
theorem ER {CX:CXT} {P:Program} {w:World} {K:PySem.W.Frag} {mg:Str → Option Value} {base:Heap} {N ps:List Str} {qual:Str} {scope:Scope} {f:Addr} {cd:Value} {A:Around} {outer:List Env} {s s1:Shared} {H:Hp} {E:XK} {us:List Value} {vs:List V}
  (S:bC N ps scope) (hd:A.handled = none) (e0:HY P w K mg base A outer s H) (hl:vs.length = ps.length) (r:Vals vs us)
  (x:InCallC s s.heap.objs.size (bindL (envOfC qual scope s.heap.objs.size f cd).kindOf (ps.zip us) fun _=>none) (cellsFrom (s.heap.objs.size + 1) scope.names []) (bindC (envOfC qual scope s.heap.objs.size f cd).kindOf (ps.zip us) fun _=>none) s1) :
  Inv (Bx CX P w K mg base N qual scope f cd A outer s H E) [] (start N vs) H s1:=by
 have hpl:ps.length ≤ N.length:=by have:=congrArg List.length S.pre; rw [List.length_take] at this; omega
 obtain ⟨h1,tk,rfl,hk⟩:=x.done
 have noA:∀ b:Addr,b ∉ (Bx CX P w K mg base N qual scope f cd A outer s H E).ex:=fun b z=>absurd (show b ∈ ([]:List Addr) from z) (by simp)
 refine ⟨⟨e0.mod,S.kind,rfl,rfl,Nat.le_refl _,fun y z c h1 h2=>?_,fun y hy=>?_,fun y c _ h=>?_,fun _=>hd,Around.frames_deeper e0.frames,.inr ⟨rfl,rfl⟩,fun b z=>absurd z (noA b),e0.bs,e0.bsz,fun b _ _=>noA b,fun b z=>absurd z (noA b),e0.vB,e0.frf⟩,
  rfl,e0.bare,Un.kept hk,⟨_,x.toInCall.ns,fun i y v h1 h2 h3=>?_⟩,fun y c h=>⟨_,x.cell y c h⟩,e0.hok.fresh (Nat.le_refl _),fun y c h=>?_,fun p hp=>absurd (show p ∈ ([]:List (Addr × Obj)) from hp) (by simp),e0.hok.kept hk,?_⟩
 ·exact name_of_addr x.apart (PySem.mem_of_lookup h1) (PySem.mem_of_lookup h2)
 ·have hy:scope.names.lookup y = some .cell ∨ scope.names.lookup y = some .free:=hy
  rcases hy with hy | hy
  ·exact Cj hy
  ·exact absurd rfl (S.nofree _ (PySem.mem_of_lookup hy))
 ·exact Nat.le_of_lt (x.above y c (PySem.mem_of_lookup h))
 ·have hi:i < vs.length:=by
   unfold start at h2
   by_cases hi:i < vs.length
   ·exact hi
   ·rw [List.getElem?_append_right (by simpa using hi)] at h2
    rw [List.getElem?_replicate] at h2
    split at h2 <;> cases h2
  have ha:vs[i]? = some v:=by
   unfold start at h2
   rw [List.getElem?_append_left (by simpa using hi),List.getElem?_map] at h2
   cases e:vs[i]? with
   | none=>rw [e] at h2; cases h2
   | some a=>rw [e] at h2; cases h2; rfl
  obtain ⟨u,hu,rv⟩:=r.get ha
  have hp:ps[i]? = some y:=by
   rw [← S.pre,List.getElem?_take_of_lt (by omega)]; exact h1
  have ndP:ps.Nodup:=by rw [← S.pre]; exact S.nd.sublist (List.take_sublist _ _)
  refine ⟨u,rv,?_⟩
  rcases S.par y (List.mem_of_getElem? hp) with k | k
  ·exact .inl ⟨k,zo ndP hp hu k⟩
  ·obtain ⟨c,e⟩:=Cj (n:=s.heap.objs.size + 1) k
   refine .inr ⟨.inl k,c,e,?_⟩
   have q:=x.cell y c e
   rw [zt ndP hp hu (by show scope.names.lookup y ≠ _; rw [k]; decide)] at q
   exact q
 ·exact e0.hok.fresh (Nat.le_of_lt (x.above y c (PySem.mem_of_lookup h)))
 ·unfold start
  show _ = N.length
  rw [List.length_append,List.length_map,List.length_replicate]
  omega
theorem NM {CX:CXT} {P:Program} {w:World} {K:PySem.W.Frag} {mg:Str → Option Value} {base:Heap} {k:Nat} {f:Addr} {name qual:Str} {params:Arguments} {body:List Stmt} {scope:Scope} {dV kV doc pm cdv ct oc:Value} {an od:Option Addr}
  {osl:Array (Option Value)} {N ps:List Str} {sp:Sp} (lk:K.lookup f = some ⟨oc,od,.func (PySem.W.fnOf name qual params body scope dV kV doc pm an cdv ct),osl⟩) (hcd:PySem.W.codeIn K cdv qual = true) (S:bC N ps scope)
  (len:∀ vs H Q E,sp vs H Q E → vs.length = ps.length)
  (hbody:∀ (A:Around) (outer:List Env) (s:Shared) (H:Hp) (vs:List V) (Q:VK) (E:XK),kH k (A.deeper (envOfC qual scope s.heap.objs.size f cdv)) → sp vs H Q E →
   ∃ t,PSs (Bx CX P w K mg base N qual scope f cdv A outer s H E) body t ∧ t { nx:=fun _ H'=>Q .non H',rt:=Q } (start N vs) H) :
  dw P w K mg base CX (k + 1) f (PySem.W.fnOf name qual params body scope dV kV doc pm an cdv ct) ps sp:=by
 refine ⟨len,fun A outer s H args us vs Q E hr e0 hb r hsp=>?_⟩
 have hl:=len _ _ _ _ hsp
 have KX:K.In s.heap:=e0.mod.kin.keeps fun b o e=>(e0.bs b o e).1
 have lim:s.heap.NoLimit:=e0.mod.nolimit.keeps fun b o e=>(e0.bs b o e).1
 have hkind:∀ y ∈ ps.zip us,scope.names.lookup y.1 = some .local ∨ (scope.names.lookup y.1 = some .cell ∧ ((cellsFrom (s.heap.objs.size + 1) scope.names []).lookup y.1).isSome = true):=fun ⟨n,v⟩ hy=>by
  rcases S.par n (List.of_mem_zip hy).1 with q | q
  ·exact .inl q
  ·exact .inr ⟨q,PySem.W.cellsFrom_some _ _ _ (.inl q)⟩
 refine codeAny_call_function hr.depth (KX _ _ lk) rfl S.co S.gen rfl (PySem.W.codeRec_of KX hcd) (hb _ _ _ _ ?_)
 refine wpAny_newFunctionEnv_cells S.kind hkind fun env he s1 x=>?_
 subst he
 refine ⟨lim.keeps x.toInCall.keep,codeAny_func ?_⟩
 obtain ⟨t,ht,hq⟩:=hbody A outer s H vs Q E (hr.deeper _) hsp
 have I:Inv (Bx CX P w K mg base N qual scope f cdv A outer s H E) [] (start N vs) H s1:=ER S hr.hd e0 hl r x
 refine wpAny_mono (ht [] s1 (start N vs) H _ I hq) (fun fl s' hs=>?_) fun e s' hs=>hs
 have fin:∀ {σ':St} {H':Hp} {v:V} {u:Value},Inv (Bx CX P w K mg base N qual scope f cdv A outer s H E) [] σ' H' s' → RelV v u → Q v H' → CE outer P w H s Q u s' :=
  fun {σ' H' v u} J rv q=>⟨v,H',J.os,J.bare,J.base,J.hok,rv,q⟩
 cases fl with
 | ret u =>
  obtain ⟨v,σ',H',J,rv,q⟩:=hs
  exact fin J rv q
 | next =>
  obtain ⟨σ',H',J,q⟩:=hs
  exact fin (v:=V.non) (u:=Value.none) J rfl q
 | brk =>
  obtain ⟨_,_,_,q⟩:=hs
  exact False.elim q
 | cont =>
  obtain ⟨_,_,_,q⟩:=hs
  exact False.elim q
end L2
namespace L2
open PySem PySem.Spec PyProof.Rows
section
variable {X:Cx} {x:Str} {p pos:Pos} {e:Expr} {es:List Expr} {t:TA} {id T:String} {r:List V → Hp → VK → Prop}
def tCB (r:List V → Hp → VK → Prop) (t:TA):TE:=fun σ H Q=>t σ H fun vs H1=>r vs H1 Q
theorem tT (hc:dO X (.builtin id) r) (hg:Gl X x) (hm:X.mg x = none) (hv:bootBuiltins x = some (.builtin id)) (ha:PA X (e :: es) t) (hn:x ≠ "__name__" := by decide) (hdb:NDb x:=by decide)
  (he:starEach (e :: es) X.env = (false,eval e X.env) :: starEach es X.env:=by rfl) (hpl:(backTo pos (starEach es X.env)).any (·.1) = false:=by rfl):PE X (.Call (.Name x p) (e :: es) [] pos) (tCB r t):=by
 intro pins s σ H Q I h
 refine wpAny_Call_Name_kw (wq I hg hm hv ?_ hn hdb)
 exact PyProof.Rows.callWith_builtin1 (thn (ha pos pins s σ H _ I h) fun us s1 ⟨vs,H1,I1,r1,q1⟩=>hc pins s1 σ H1 vs us Q I1 r1 q1) he hpl
theorem ES (hc:dO X (.type T) r) (hg:Gl X x) (hm:X.mg x = none) (hv:bootBuiltins x = some (.type T)) (ha:PA X (e :: es) t) (hn:x ≠ "__name__" := by decide) (hdb:NDb x:=by decide)
  (he:starEach (e :: es) X.env = (false,eval e X.env) :: starEach es X.env:=by rfl) (hpl:(backTo pos (starEach es X.env)).any (·.1) = false:=by rfl):PE X (.Call (.Name x p) (e :: es) [] pos) (tCB r t):=by
 intro pins s σ H Q I h
 refine wpAny_Call_Name_kw (wq I hg hm hv ?_ hn hdb)
 exact PyProof.Rows.callWith_type1 (thn (ha pos pins s σ H _ I h) fun us s1 ⟨vs,H1,I1,r1,q1⟩=>hc pins s1 σ H1 vs us Q I1 r1 q1) he hpl
end
end L2
namespace HT
open PySem PyProof.Rows
section
variable {prog:Program} {w:World} {A:Around} {E:Value → Shared → Prop} {s:Shared}
theorem JM {t b:Addr} {vs ws:List Value} {Q:Value → Shared → Prop} (ht:IsTup s.heap t vs.toArray) (hb:IsTup s.heap b ws.toArray) (hv:vs ≠ [])
  (h1:ws = [] → Q (.ref t) s) (h2:ws ≠ [] → Q (.ref s.heap.objs.size) { s with heap:=s.heap.push { cls:=.type "tuple",data:=.seq (vs ++ ws).toArray } })
  (hsz:vs.length + ws.length ≤ sizeLine):wpAny (model prog w) A (binaryOp .Add (.ref t) (.ref b)) Q E s:=by
 obtain ⟨⟨cls,dd,data,sl⟩,ho,hc,n,hd⟩:=id ht
 obtain ⟨⟨cls2,dd2,data2,sl2⟩,ho2,hc2,n2,hd2⟩:=id hb
 simp only at hc hd hc2 hd2
 subst hc hd hc2 hd2
 have e:vs.toArray ++ ws.toArray = (vs ++ ws).toArray:=by simp
 by_cases hw:ws = []
 ·exact concat_meets ⟨_,ho,rfl⟩ ⟨_,ho2,rfl⟩ noFill_tuple_add seq_tuple_add PySem.F.slot_tuple_add PySem.F.entry_tuple_add (PySem.F.args_tuple_add_2 _ _)
   (tuple_addW1 t b vs.toArray ws.toArray n n2 dd dd2 sl sl2 (by simpa using hv) (by simp [hw])) ⟨ho,ho2,h1 hw⟩
 ·refine concat_meets ⟨_,ho,rfl⟩ ⟨_,ho2,rfl⟩ noFill_tuple_add seq_tuple_add PySem.F.slot_tuple_add PySem.F.entry_tuple_add (PySem.F.args_tuple_add_2 _ _)
   (tuple_addW2 t b vs.toArray ws.toArray n n2 dd dd2 sl sl2 (by simpa using hv) (by simpa using hw) (by rw [List.size_toArray,List.size_toArray]; exact hsz)) ⟨ho,ho2,?_⟩
  rw [e]
  exact h2 hw
def sIx (n d:Nat):Option Int → Nat
 | none=>d
 | some v=>if v < 0 then (v + (n:Int)).toNat else min v.toNat n
theorem HU (n d k:Nat):sIx n d (some (k:Int)) = min k n:=by
 show (if (k:Int) < 0 then ((k:Int) + (n:Int)).toNat else min (k:Int).toNat n) = min k n
 rw [if_neg (by omega),Int.toNat_natCast]
theorem Lh (n d:Nat) (hd:d ≤ n) (o:Option Int):sIx n d o ≤ n:=by
 cases o with
 | none=>exact hd
 | some v =>
  show (if v < 0 then (v + (n:Int)).toNat else min v.toNat n) ≤ n
  by_cases hv:v < 0
  ·rw [if_pos hv]; omega
  ·rw [if_neg hv]; exact Nat.min_le_right _ _
theorem Eu (v:Int) (n d:Nat):(if v < 0 then max (v + (n:Int)) 0 else min v (n:Int)) = ((sIx n d (some v):Nat):Int):=by
 show (if v < 0 then max (v + (n:Int)) 0 else min v (n:Int)) = (((if v < 0 then (v + (n:Int)).toNat else min v.toNat n):Nat):Int)
 by_cases hv:v < 0
 ·simp only [if_pos hv]; omega
 ·simp only [if_neg hv]; omega
theorem Dd (lo hi:Option Int) (n:Nat):Builtin.Slice.sliceAdjust lo hi 1 (n:Int) = (((sIx n 0 lo:Nat):Int),((sIx n n hi:Nat):Int)):=by
 have h1:¬ ((1:Int) < 0):=by omega
 unfold Builtin.Slice.sliceAdjust
 simp only [h1,if_false]
 refine Prod.ext ?_ ?_
 ·cases lo with
  | none=>rfl
  | some v=>exact Eu v n 0
 ·cases hi with
  | none=>rfl
  | some v=>exact Eu v n n
theorem Cz (i j:Nat):Builtin.Slice.slicePlaces (i:Int) (j:Int) 1 = j - i:=by
 unfold Builtin.Slice.slicePlaces
 have h1:(1:Int) > 0:=by omega
 simp only [h1,if_true,Int.ediv_one]
 split <;> omega
theorem wJ {v:Value} {o:Option Int} {Q:Option Int → Shared → Prop} (p:IsPart v o) (h:Q o s):wpAny (model prog w) A (Builtin.Slice.slicePartIndex v) Q E s:=by
 cases p with
 | none=>exact slicePart_none h
 | int i t=>exact slicePart_int h
theorem uW {sl:Addr} {vl vu:Value} {lo hi:Option Int} {n:Nat} {Q:Int × Int × Nat → Shared → Prop} (hs:s.heap.IsSliceOf sl vl vu .none) (pl:IsPart vl lo) (pu:IsPart vu hi)
  (h:Q (((sIx n 0 lo:Nat):Int),1,sIx n n hi - sIx n 0 lo) s):wpAny (model prog w) A (Builtin.Slice.sliceApplied (.ref sl) (pure (n:Int))) Q E s:=by
 obtain ⟨os,hos,hcs,hds⟩:=id hs
 unfold Builtin.Slice.sliceApplied Builtin.Slice.sliceFields
 refine wpAny_bind (wpAny_bind (wpAny_field hos hds (x:=vl) rfl (wpAny_bind (wpAny_field hos hds (x:=vu) rfl (wpAny_bind (wpAny_field hos hds (x:=.none) rfl (wpAny_pure ?_)))))))
 refine wpAny_bind (slicePart_none ?_)
 show wpAny _ _ (if ((1:Int) == 0) = true then _ else _) _ _ s
 rw [if_neg (by decide)]
 refine wpAny_bind (wJ pl (wpAny_bind (wJ pu (wpAny_bind (wpAny_pure ?_)))))
 show wpAny _ _ (match Builtin.Slice.sliceAdjust lo hi 1 (n:Int) with | (lo,hi)=>pure (lo,(1:Int),Builtin.Slice.slicePlaces lo hi 1)) _ _ s
 rw [Dd lo hi n]
 show wpAny _ _ (pure (((sIx n 0 lo:Nat):Int),(1:Int),Builtin.Slice.slicePlaces ((sIx n 0 lo:Nat):Int) ((sIx n n hi:Nat):Int) 1)) _ _ s
 rw [Cz]
 exact wpAny_pure h
theorem GR (xs:Array Value) (i k:Nat):((List.range k).filterMap fun (m:Nat)=>xs[((i:Int) + (m:Int) * 1).toNat]?).toArray = ((xs.toList.drop i).take k).toArray:=by
 have e:(fun (m:Nat)=>xs[((i:Int) + (m:Int) * 1).toNat]?) = fun m=>xs[i + m]?:=by
  funext m
  have:((i:Int) + (m:Int) * 1).toNat = i + m:=by omega
  rw [this]
 rw [e]
 have:=pick_run xs i k
 rw [List.filterMap_map] at this
 have e2:((fun x=>xs[x]?) ∘ fun x=>i + x) = fun m=>xs[i + m]?:=rfl
 rw [e2] at this
 rw [this]
theorem ue {t sl:Addr} {items:Array Value} {vl vu:Value} {lo hi:Option Int} {Q:Value → Shared → Prop} (ht:IsTup s.heap t items) (hs:s.heap.IsSliceOf sl vl vu .none) (pl:IsPart vl lo) (pu:IsPart vu hi)
  (hw:¬ (sIx items.size 0 lo = 0 ∧ sIx items.size items.size hi = items.size))
  (h:Q (.ref s.heap.objs.size) { s with heap:=s.heap.push { cls:=.type "tuple",data:=.seq ((items.toList.drop (sIx items.size 0 lo)).take (sIx items.size items.size hi - sIx items.size 0 lo)).toArray } })
  (hsz:items.size ≤ sizeLine):wpAny (model prog w) A (getItem (.ref t) (.ref sl)) Q E s:=by
 have htake:sizeOk (.seq ((items.toList.drop (sIx items.size 0 lo)).take (sIx items.size items.size hi - sIx items.size 0 lo)).toArray):=by
  show ((items.toList.drop (sIx items.size 0 lo)).take (sIx items.size items.size hi - sIx items.size 0 lo)).toArray.size ≤ sizeLine
  rw [List.size_toArray,List.length_take,List.length_drop,Array.length_toList]
  omega
 have hj:sIx items.size items.size hi ≤ items.size:=Lh _ _ (Nat.le_refl _) hi
 obtain ⟨os,hos,hcs,hds⟩:=id hs
 have hTs:s.TypeIs (.ref sl) "slice" := ⟨os,hos,hcs⟩
 unfold getItem
 try with_reducible refine wpAny_holding ?_
 first | refine wpAny_bind (wpAny_pure ?_) | skip
 refine wpAny_bind (wpAny_sequenceKey ht.typeIs (by decide) ?_)
 refine wpAny_bind (wpAny_callSpecial?_slot (name:=Str.ofString "__getitem__") ht.typeIs PyProof.Rows.slot_tuple_getitem
  (wpAny_call_entry PyProof.Rows.slot_tuple_getitem ht.typeIs entry_tuple_getitem ?_ (args_tuple_getitem _ _)))
 show wpAny _ _ (Builtin.Tuple.tupleItemsOf (.ref t) >>= _) _ _ s
 refine wpAny_bind (tupleItemsOf_ ht ?_)
 refine wpAny_bind (wpAny_typeOf hTs ?_)
 rw [if_pos (by decide)]
 refine wpAny_bind (uW hs pl pu ?_)
 have hno:¬ ((((sIx items.size 0 lo:Nat):Int) == 0 && (1:Int) == 1 && (sIx items.size items.size hi - sIx items.size 0 lo) == items.size) = true):=by
  intro q
  rw [Bool.and_eq_true,Bool.and_eq_true] at q
  have q1:((sIx items.size 0 lo:Nat):Int) = 0:=eq_of_beq q.1.1
  have q2:sIx items.size items.size hi - sIx items.size 0 lo = items.size:=eq_of_beq q.2
  exact hw ⟨by omega,by omega⟩
 show wpAny _ _ (if (((sIx items.size 0 lo:Nat):Int) == 0 && (1:Int) == 1 && (sIx items.size items.size hi - sIx items.size 0 lo) == items.size) = true then _ else _) _ _ s
 rw [if_neg hno,GR]
 first
  | exact wpAny_bind (m:=Builtin.Tuple.tupleExact _) (wpAny_newObj_type (wpAny_pure ⟨_,rfl,wpAny_pure h⟩) htake)
  | exact wpAny_bind (m:=Builtin.Tuple.tupleExact _) (wpAny_newObj_type (wpAny_bind (wpAny_pure (wpAny_pure ⟨_,rfl,wpAny_pure h⟩))) htake)
  | exact wpAny_bind (wpAny_bind (m:=Builtin.Tuple.tupleExact _) (wpAny_newObj_type (wpAny_pure (wpAny_pure ⟨_,rfl,wpAny_pure h⟩)) htake))
  | exact wpAny_bind (wpAny_bind (m:=Builtin.Tuple.tupleExact _) (wpAny_newObj_type (wpAny_pure ⟨_,rfl,wpAny_pure h⟩) htake))
end
end HT
namespace L2
open PySem PySem.Spec PyProof.Rows
abbrev TO:=St → Hp → (Option Int → Hp → Prop) → Prop
def PO (X:Cx) (e:Option Expr) (t:TO):Prop :=
 ∀ (pins:List (Addr × Obj)) (s:Shared) (σ:St) (H:Hp) (Q:Option Int → Hp → Prop),Inv X pins σ H s → t σ H Q →
  wpAny (model X.prog X.w) X.A (evalPart e X.env) (fun u s'=>∃ o H',Inv X pins σ H' s' ∧ IsPart u o ∧ Q o H') X.xe s
def Jm:TO:=fun _ H Q=>Q none H
def OB (t:TE):TO:=fun σ H Q=>t σ H fun x H1=>∃ i,x = .int i ∧ Q (some i) H1
section
variable {X:Cx} {e:Expr} {te:TE} {lo hi:Option Expr} {tl th:TO} {pos p2:Pos}
theorem IM:PO X none Jm:=by
 intro pins s σ H Q I h
 rw [evalPart_none]
 exact wpAny_pure ⟨none,H,I,.none,h⟩
theorem Jd (h:PE X e te):PO X (some e) (OB te):=by
 intro pins s σ H Q I hw
 rw [evalPart_some]
 refine thn (h pins s σ H _ I hw) fun u s1 ⟨x,H1,I1,r1,q1⟩=>?_
 obtain ⟨i,rfl,q⟩:=q1
 obtain ⟨t,rfl⟩:=r1
 exact ⟨some i,H1,I1,.int i t,q⟩
def SlR (X:Cx) (r:V → Option Int → Option Int → Hp → VK → Prop):Prop :=
 ∀ (pins:List (Addr × Obj)) (s:Shared) (σ:St) (H:Hp) (x:V) (v vl vu:Value) (lo hi:Option Int) (sl:Addr) (Q:VK),Inv X pins σ H s → RelV x v → s.heap.IsSliceOf sl vl vu .none → IsPart vl lo → IsPart vu hi → r x lo hi H Q →
  ∃ T id,typeLookup (.type T) "__getitem__" = pure (some (.builtin id)) ∧ s.TypeIs v T ∧ wpAny (model X.prog X.w) X.A (getItem v (.ref sl)) (EP X pins σ Q) X.xe s
theorem SlR.or {r r':V → Option Int → Option Int → Hp → VK → Prop} (h:SlR X r) (h':SlR X r'):SlR X (fun x lo hi H Q=>r x lo hi H Q ∨ r' x lo hi H Q):=by
 intro pins s σ H x v vl vu lo hi sl Q I rx hs pl pu q
 rcases q with q | q
 ·exact h pins s σ H x v vl vu lo hi sl Q I rx hs pl pu q
 ·exact h' pins s σ H x v vl vu lo hi sl Q I rx hs pl pu q
def tSl (r:V → Option Int → Option Int → Hp → VK → Prop) (te:TE) (tl th:TO):TE:=fun σ H Q=>te σ H fun x H1=>tl σ H1 fun l H2=>th σ H2 fun u H3=>r x l u H3 Q
theorem Hq {r:V → Option Int → Option Int → Hp → VK → Prop} (hr:SlR X r) (he:PE X e te) (hl:PO X lo tl) (hu:PO X hi th):PE X (.Subscript e (.Slice lo hi none p2) pos) (tSl r te tl th):=by
 intro pins s σ H Q I h
 refine Subscript_ (thn (he pins s σ H _ I h) fun v s1 ⟨x,H1,I1,r1,q1⟩=>?_)
 refine wpAny_Slice (thn (hl pins s1 σ H1 _ I1 q1) fun vl s2 ⟨l,H2,I2,pl,q2⟩=>thn (hu pins s2 σ H2 _ I2 q2) fun vu s3 ⟨u,H3,I3,pu,q3⟩=>?_)
 rw [evalPart_none]
 refine wpAny_pure ?_
 have I4:Inv X pins σ H3 { s3 with heap:=s3.heap.push { cls:=.type "slice",data:=.fields #[vl,vu,.none] } }:=I3.kept (t':=s3.toks) fun b ob q=>Heap.get?_push_of_some _ q
 obtain ⟨T,id,hT,ht,hg⟩:=hr pins { s3 with heap:=s3.heap.push { cls:=.type "slice",data:=.fields #[vl,vu,.none] } } σ H3 x v vl vu l u s3.heap.objs.size Q I4 r1 (Heap.IsSliceOf.new ..) pl pu q3
 show wpAny (model X.prog X.w) X.A (subscriptTail e (.Slice lo hi none p2) v (.ref s3.heap.objs.size)) (EP X pins σ Q) X.xe { s3 with heap:=s3.heap.push { cls:=.type "slice",data:=.fields #[vl,vu,.none] } }
 exact tail_any (ops:=[.ref s3.heap.objs.size,v]) ht hT hg (by with_unfolding_all rfl)
def zv (xs:List V) (lo hi:Option Int):List V:=(xs.drop (HT.sIx xs.length 0 lo)).take (HT.sIx xs.length xs.length hi - HT.sIx xs.length 0 lo)
theorem vC (xs:List V) (lo hi:Option Int):(zv xs lo hi).length ≤ xs.length:=by
 unfold zv
 rw [List.length_take,List.length_drop]
 omega
def PB (K:PySem.W.Frag):V → Option Int → Option Int → Hp → VK → Prop:=fun x lo hi H Q=>∃ a xs,x = .ref a ∧ SqT K H a xs ∧
 ¬ (HT.sIx xs.length 0 lo = 0 ∧ HT.sIx xs.length xs.length hi = xs.length) ∧ ∀ p,H p = none → Q (.ref p) (upd H p (.tup (zv xs lo hi)))
theorem Lg:SlR X (PB X.K):=by
 intro pins s σ H x v vl vu lo hi sl Q I rx hs pl pu h
 obtain ⟨a,xs,rfl,hx,hw,q⟩:=h
 cases rx
 obtain ⟨its,r,ht,hz⟩:=I.tuple hx
 have hlen:its.toArray.size = xs.length:=by rw [List.size_toArray]; exact r.length.symm
 refine ⟨"tuple",_,PyProof.Rows.slot_tuple_getitem.lookup,ht.typeIs,?_⟩
 refine HT.ue ht hs pl pu (by rw [hlen]; exact hw) ?_ (by rw [hlen]; exact hz)
 rw [hlen]
 refine ⟨.ref s.heap.objs.size,_,I.laid (t':=s.toks) (o:=.tup (zv xs lo hi)) (fun b ob q=>Heap.get?_push_of_some _ q) (Nat.le_refl _) ?_,rfl,q _ (I.hok.fresh (Nat.le_refl _))⟩
 exact ⟨Nat.le_trans (vC xs lo hi) hz,_,(r.drop (HT.sIx xs.length 0 lo)).take (HT.sIx xs.length xs.length hi - HT.sIx xs.length 0 lo),kF.new _ _⟩
def Ow (K:PySem.W.Frag):R2:=fun x y H Q=>∃ a b xs ys,x = .ref a ∧ y = .ref b ∧ SqT K H a xs ∧ SqT K H b ys ∧ xs ≠ [] ∧ xs.length + ys.length ≤ sizeLine ∧
 (ys = [] → Q (.ref a) H) ∧ (ys ≠ [] → ∀ p,H p = none → Q (.ref p) (upd H p (.tup (xs ++ ys))))
theorem Vals.A5 {xs:List V} {us:List Value} (r:Vals xs us):us = [] ↔ xs = []:=by
 cases r with
 | nil=>simp
 | cons _ _=>simp
theorem Jr:OpR X (binaryOp .Add) (Ow X.K):=by
 intro pins s σ H x y v u Q I rx ry h
 obtain ⟨a,b,xs,ys,rfl,rfl,ha,hb,hx,hz,q1,q2⟩:=h
 cases rx
 cases ry
 obtain ⟨its,r1,p1,_⟩:=I.tuple ha
 obtain ⟨its2,r2,p2,_⟩:=I.tuple hb
 refine HT.JM p1 p2 (fun z=>hx (r1.A5.mp z)) (fun z=>⟨.ref a,H,I,rfl,q1 (r2.A5.mp z)⟩) (fun z=>?_) (by rw [← r1.length,← r2.length]; exact hz)
 refine ⟨.ref s.heap.objs.size,_,I.laid (t':=s.toks) (o:=.tup (xs ++ ys)) (fun b ob q=>Heap.get?_push_of_some _ q) (Nat.le_refl _) ?_,rfl,q2 (fun w=>z (r2.A5.mpr w)) _ (I.hok.fresh (Nat.le_refl _))⟩
 exact ⟨by rw [List.length_append]; exact hz,_,r1.append r2,kF.new _ _⟩
end
end L2
namespace L2
open PySem PySem.Spec PyProof.Rows
def ixN (n:Nat) (i:Int):Option Nat:=if 0 ≤ i then (if i < n then some i.toNat else none) else if -(n:Int) ≤ i then some (i + n).toNat else none
def atI {α:Type} (xs:List α) (i:Int):Option α:=(ixN xs.length i).bind fun j=>xs[j]?
theorem DX {n:Nat} {i:Int} {j:Nat} (h:ixN n i = some j):seqIndex? i n = some j ∧ j < n ∧ -(n:Int) ≤ i ∧ i < n:=by
 unfold ixN at h
 by_cases h0:0 ≤ i
 ·rw [if_pos h0] at h
  by_cases h1:i < n
  ·rw [if_pos h1] at h
   have e:i.toNat = j:=Option.some.inj h
   exact ⟨by rw [seqIndex_of h0 h1,e],by omega,by omega,h1⟩
  ·rw [if_neg h1] at h; cases h
 ·rw [if_neg h0] at h
  by_cases h1:-(n:Int) ≤ i
  ·rw [if_pos h1] at h
   have e:(i + n).toNat = j:=Option.some.inj h
   exact ⟨by rw [seqIndex_neg (by omega) h1,e],by omega,h1,by omega⟩
  ·rw [if_neg h1] at h; cases h
theorem AB {α:Type} {xs:List α} {i:Int} {v:α} (h:atI xs i = some v):∃ j,seqIndex? i xs.length = some j ∧ xs[j]? = some v ∧ j < xs.length ∧ -(xs.length:Int) ≤ i ∧ i < xs.length:=by
 unfold atI at h
 cases e:ixN xs.length i with
 | none=>rw [e] at h; cases h
 | some j =>
  rw [e] at h
  obtain ⟨h1,h2,h3,h4⟩:=DX e
  exact ⟨j,h1,h,h2,h3,h4⟩
theorem AU {α:Type} {xs:List α} {j:Nat} {v:α} (h:xs[j]? = some v):atI xs (j:Int) = some v:=by
 have hj:j < xs.length:=(List.getElem?_eq_some_iff.mp h).1
 have e:ixN xs.length (j:Int) = some j:=by
  unfold ixN
  rw [if_pos (by omega),if_pos (by omega)]; simp
 unfold atI; rw [e]; exact h
def zP (b:Expr):Prop:=∀ o i,subscripted b false o i = operate [o,i] (getItem o i)
def IxR (X:Cx) (r:R2):Prop :=
 ∀ (value slice:Expr) (pins:List (Addr × Obj)) (s:Shared) (σ:St) (H:Hp) (x y:V) (v u:Value) (Q:VK),Inv X pins σ H s → RelV x v → RelV y u → r x y H Q →
  subscripted slice false v u = operate [v,u] (getItem v u) → wpAny (model X.prog X.w) X.A (subscriptTail value slice v u) (EP X pins σ Q) X.xe s
def MtR (X:Cx) (id:String) (r:V → List V → Hp → VK → Prop):Prop :=
 ∀ (pins:List (Addr × Obj)) (s:Shared) (σ:St) (H:Hp) (x:V) (xs:List V) (v:Value) (us:List Value) (Q:VK),Inv X pins σ H s → RelV x v → Vals xs us → r x xs H Q →
  wpAny (model X.prog X.w) X.A (call (.builtin id) (v :: us)) (EP X pins σ Q) X.xe s
section
variable {X:Cx} {a b:Expr} {ta tb:TE} {pos:Pos}
theorem IxR.or {r r':R2} (h:IxR X r) (h':IxR X r'):IxR X (fun x y H Q=>r x y H Q ∨ r' x y H Q):=by
 intro value slice pins s σ H x y v u Q I rx ry q hs
 rcases q with q | q
 ·exact h value slice pins s σ H x y v u Q I rx ry q hs
 ·exact h' value slice pins s σ H x y v u Q I rx ry q hs
theorem OV {r:R2} (hr:IxR X r) (ha:PE X a ta) (hb:PE X b tb) (hs:zP b):PE X (.Subscript a b pos) (tOp r ta tb):=by
 intro pins s σ H Q I h
 exact Subscript_ (LY ha hb I h fun v u s2 x y H2 I2 rx ry q=>hr a b pins s2 σ H2 x y v u Q I2 rx ry q (hs _ _))
def OU (K:PySem.W.Frag):R2:=fun x y H Q=>∃ p xs i v,x = .ref p ∧ y = .int i ∧ SqL K H p xs ∧ atI xs i = some v ∧ Q v H
def N5 (K:PySem.W.Frag):R2:=fun x y H Q=>∃ p xs i v,x = .ref p ∧ y = .int i ∧ SqT K H p xs ∧ atI xs i = some v ∧ Q v H
def O1:R2:=fun x y H Q=>∃ z i c,x = .str z ∧ y = .int i ∧ z.length ≤ sizeLine ∧ atI z.cps.toList i = some c ∧ Q (.str ⟨#[c]⟩) H
theorem Kc:IxR X (OU X.K):=by
 intro value slice pins s σ H x y v u Q I rx ry h hs
 obtain ⟨p,xs,i,z,rfl,rfl,hq,he,q⟩:=h
 cases rx
 obtain ⟨t,rfl⟩:=ry
 obtain ⟨its,r,pl,hz⟩:=I.list hq
 obtain ⟨j,h1,h2,h3,h4,h5⟩:=AB he
 obtain ⟨w,ew,rw'⟩:=r.get h2
 have hl:=r.length
 have hn:=wo
 have fin:EP X pins σ Q w s:=⟨z,H,I,rw',q⟩
 by_cases h0:0 ≤ i
 ·have hj:i.toNat = j:=by
   rw [seqIndex_of h0 h5] at h1
   exact Option.some.inj h1
  exact item_listR pl.isList h0 (by omega) (by rw [hj]; simpa using ew) fin hs
 ·have hj:(i + (its.toArray.size:Int)).toNat = j:=by
   rw [seqIndex_neg (by omega) h4] at h1
   rw [List.size_toArray,← hl]
   exact Option.some.inj h1
  exact subscriptTail_builtinR (x:=w) pl.isList.typeIs slot_list_getitem.lookup
   (wpAny_getItem_list_neg (Q:=fun r s'=>r = w ∧ EP X pins σ Q r s') pl.isList (by omega) (by rw [List.size_toArray] <;> omega) (by omega) (by rw [hj]; simpa using ew) ⟨rfl,fin⟩) hs
theorem LB:IxR X (N5 X.K):=by
 intro value slice pins s σ H x y v u Q I rx ry h hs
 obtain ⟨p,xs,i,z,rfl,rfl,hq,he,q⟩:=h
 cases rx
 obtain ⟨t,rfl⟩:=ry
 obtain ⟨its,r,pl,hz⟩:=I.tuple hq
 obtain ⟨j,h1,h2,h3,h4,h5⟩:=AB he
 obtain ⟨w,ew,rw'⟩:=r.get h2
 have hl:=r.length
 have hn:=wo
 have fin:EP X pins σ Q w s:=⟨z,H,I,rw',q⟩
 exact subscriptTail_builtinR (x:=w) pl.typeIs slot_tuple_getitem.lookup
  (getItem_tuple (j:=j) (Q:=fun r s'=>r = w ∧ EP X pins σ Q r s') pl (by omega) (by omega) (by rw [List.size_toArray,← hl]; exact h1) (by simpa using ew) ⟨rfl,fin⟩) hs
theorem MN:IxR X O1:=by
 intro value slice pins s σ H x y v u Q I rx ry h hs
 obtain ⟨z,i,c,rfl,rfl,hz,he,q⟩:=h
 obtain ⟨t,rfl⟩:=rx
 obtain ⟨t',rfl⟩:=ry
 obtain ⟨j,h1,h2,h3,h4,h5⟩:=AB he
 have hl:z.cps.toList.length = z.length:=by simp [Str.length]
 rw [hl] at h1 h4 h5
 have hn:=wo
 exact tail_any (typeIs_str s z t) slot_str_getitem.lookup (getItem_str (c:=c) (by
  have e1:decide (i < -(2 ^ 63:Int)) = false:=decide_eq_false (by omega)
  have e2:decide (i ≥ 2 ^ 63) = false:=decide_eq_false (by omega)
  rw [e1,e2,Bool.or_false]) (by rw [h1]; simpa using h2) ⟨.str ⟨#[c]⟩,H,I.tok _,⟨_,rfl⟩,q⟩) hs
def rIx (K:PySem.W.Frag):R2:=fun x y H Q=>OU K x y H Q ∨ N5 K x y H Q ∨ O1 x y H Q
theorem MZ:IxR X (rIx X.K):=Kc.or (LB.or MN)
theorem Dy (its:List Value) (n j:Nat) (u:Value):Obj.mapSeq (·.setIfInBounds j u) { cls:=.type "list",data:=.seq its.toArray n } = { cls:=.type "list",data:=.seq (its.set j u).toArray n }:=by
 simp [Obj.mapSeq]
theorem Inv.lst {pins:List (Addr × Obj)} {σ:St} {H:Hp} {s:Shared} {p:Addr} {xs:List V} (I:Inv X pins σ H s) (h:H p = some (.lst xs)) :
  ∃ (its:List Value) (n:Nat),Vals xs its ∧ s.heap.get? p = some { cls:=.type "list",data:=.seq its.toArray n } ∧ xs.length ≤ sizeLine:=by
 obtain ⟨z,its,n,r,e⟩:=I.hok p _ h
 exact ⟨its,n,r,e,z⟩
theorem Inv.My {pins:List (Addr × Obj)} {σ:St} {H:Hp} {s:Shared} {p:Addr} {xs ys:List V} {its its':List Value} {n n':Nat} {f:Obj → Obj} (I:Inv X pins σ H s) (h:H p = some (.lst xs))
  (ho:s.heap.get? p = some { cls:=.type "list",data:=.seq its.toArray n }) (hf:f { cls:=.type "list",data:=.seq its.toArray n } = { cls:=.type "list",data:=.seq its'.toArray n' }) (r:Vals ys its') (hz:ys.length ≤ sizeLine) (t:Nat) :
  Inv X pins σ (upd H p (.lst ys)) { s with heap:=s.heap.update p f,toks:=t }:=by
 have e:(s.heap.update p f).get? p = some { cls:=.type "list",data:=.seq its'.toArray n' }:=by
  rw [Heap.get?_update_self f ho (by rw [hf] <;> rfl),hf]
 refine I.write (x:=p) (e:=p) (by rw [h]; trivial) (.inl rfl) (fun b u hb q=>(Heap.get?_update_other _ _ (Ne.symm hb)).trans q) ⟨_,e⟩ ?_
 exact ⟨hz,its',n',r,e⟩
def Ku:V → V → V → Hp → (Hp → Prop) → Prop:=fun o i v H Q=>∃ p xs k j,o = .ref p ∧ i = .int k ∧ H p = some (.lst xs) ∧ ixN xs.length k = some j ∧ Q (upd H p (.lst (xs.set j v)))
theorem set_list:Nz X Ku:=by
 intro pins s σ H o i v ov iv u Q I ro ri rv h
 obtain ⟨p,xs,k,j,rfl,rfl,hp,hj,q⟩:=h
 cases ro
 obtain ⟨t,rfl⟩:=ri
 obtain ⟨its,n,r,ho,hz⟩:=I.lst hp
 obtain ⟨h1,h2,h3,h4⟩:=DX hj
 have hl:=r.length
 have hn:=wo
 have I':Inv X pins σ (upd H p (.lst (xs.set j v))) { s with heap:=s.heap.update p (Obj.mapSeq (·.setIfInBounds j u)) } :=
  I.My hp ho (Dy its n j u) (r.set rv j) (by rw [List.length_set]; exact hz) s.toks
 by_cases h0:0 ≤ k
 ·have hk:k.toNat = j:=by
   rw [seqIndex_of h0 h4] at h1
   exact Option.some.inj h1
  exact PySem.W.ki_setAt ho h0 (by omega) (by rw [List.size_toArray,← hl]; exact h4) (by rw [hk]; exact ⟨_,I',q⟩)
 ·have hk:(k + (its.toArray.size:Int)).toNat = j:=by
   rw [seqIndex_neg (by omega) h3] at h1
   rw [List.size_toArray,← hl]
   exact Option.some.inj h1
  exact PySem.W.ki_setBack ho (by omega) (by rw [List.size_toArray,← hl]; exact h3) (by omega) (by rw [hk]; exact ⟨_,I',q⟩)
theorem Bb (lo hi:Option Int) (n:Nat):(sliceBounds lo hi none n).1 = ((HT.sIx n 0 lo:Nat):Int) ∧ (sliceBounds lo hi none n).2.1 = ((HT.sIx n n hi:Nat):Int) ∧ (sliceBounds lo hi none n).2.2 = 1:=by
 refine ⟨?_,?_,rfl⟩
 ·cases lo with
  | none=>simp [sliceBounds,HT.sIx]
  | some i =>
   simp only [sliceBounds,HT.sIx,Option.getD_none,show (1:Int) > 0 by decide,if_true]
   by_cases h:i < 0
   ·simp only [h,if_true] <;> omega
   ·simp only [h,if_false] <;> omega
 ·cases hi with
  | none=>simp [sliceBounds,HT.sIx]
  | some i =>
   simp only [sliceBounds,HT.sIx,Option.getD_none,show (1:Int) > 0 by decide,if_true]
   by_cases h:i < 0
   ·simp only [h,if_true] <;> omega
   ·simp only [h,if_false] <;> omega
theorem yb (its:List Value) (lo hi:Option Int):slicePick its.toArray lo hi none = ((its.drop (HT.sIx its.length 0 lo)).take (HT.sIx its.length its.length hi - HT.sIx its.length 0 lo)).toArray:=by
 obtain ⟨h1,h2,h3⟩:=Bb lo hi its.toArray.size
 unfold slicePick
 rw [h1,h2,h3]
 simp only [sliceRange_one,pick_run,List.size_toArray] <;> rfl
def PQ (K:PySem.W.Frag):V → Option Int → Option Int → Hp → VK → Prop:=fun x lo hi H Q=>∃ a xs,x = .ref a ∧ SqL K H a xs ∧ ∀ p,H p = none → Q (.ref p) (upd H p (.lst (zv xs lo hi)))
theorem Ka:SlR X (PQ X.K):=by
 intro pins s σ H x v vl vu lo hi sl Q I rx hs pl pu h
 obtain ⟨a,xs,rfl,hx,q⟩:=h
 cases rx
 obtain ⟨its,r,ht,hz⟩:=I.list hx
 have hlen:=r.length
 refine ⟨"list",_,slot_list_getitem.lookup,ht.isList.typeIs,?_⟩
 refine wpAny_getItem_list_slice ht.isList hs pl pu .none (by simp) ?_ (by rw [List.size_toArray] <;> omega)
 rw [yb,← hlen]
 refine ⟨.ref s.heap.objs.size,_,I.laid (t':=s.toks) (o:=.lst (zv xs lo hi)) (fun b ob q=>Heap.get?_push_of_some _ q) (Nat.le_refl _) ?_,rfl,q _ (I.hok.fresh (Nat.le_refl _))⟩
 exact ⟨Nat.le_trans (vC xs lo hi) hz,_,0,(r.drop (HT.sIx xs.length 0 lo)).take (HT.sIx xs.length xs.length hi - HT.sIx xs.length 0 lo),Heap.get?_push_size _ rfl⟩
def qo:V → Bool
 | .non=>true
 | .bl _=>true
 | .int _=>true
 | .str _=>true
 | _=>false
def eqV:V → V → Bool
 | .non,.non=>true
 | .bl a,.bl b=>a == b
 | .bl a,.int b=>(if a then 1 else 0) == b
 | .int a,.bl b=>a == (if b then 1 else 0)
 | .int a,.int b=>a == b
 | .str a,.str b=>a == b
 | _,_=>false
theorem fV {A:Around} {s:Shared} {y x:V} {u v:Value} (ry:RelV y u) (rx:RelV x v) (fy:qo y = true) (fx:qo x = true):SeqAt.EqAt A s u v (eqV y x):=by
 cases y with
 | non =>
  cases ry
  cases x with
  | non=>cases rx; exact SeqAt.EqAt.same _
  | bl b=>cases rx; exact SeqAt.EqAt.none_bool b
  | int b=>obtain ⟨t,rfl⟩:=rx; exact SeqAt.EqAt.none_int b t
  | str b=>obtain ⟨t,rfl⟩:=rx; exact SeqAt.EqAt.none_str b t
  | _=>exact absurd (show false = true from fx) Bool.false_ne_true
 | bl a =>
  cases ry
  cases x with
  | non=>cases rx; exact SeqAt.EqAt.bool_none a
  | bl b=>cases rx; exact SeqAt.EqAt.bool_bool a b
  | int b=>obtain ⟨t,rfl⟩:=rx; exact SeqAt.EqAt.bool_int a b t
  | str b=>obtain ⟨t,rfl⟩:=rx; exact SeqAt.EqAt.bool_str a b t
  | _=>exact absurd (show false = true from fx) Bool.false_ne_true
 | int a =>
  obtain ⟨t',rfl⟩:=ry
  cases x with
  | non=>cases rx; exact SeqAt.EqAt.int_none a t'
  | bl b=>cases rx; exact SeqAt.EqAt.int_bool a t' b
  | int b=>obtain ⟨t,rfl⟩:=rx; exact SeqAt.EqAt.int_int a t' b t
  | str b=>obtain ⟨t,rfl⟩:=rx; exact SeqAt.EqAt.int_str a t' b t
  | _=>exact absurd (show false = true from fx) Bool.false_ne_true
 | str a =>
  obtain ⟨t',rfl⟩:=ry
  cases x with
  | non=>cases rx; exact SeqAt.EqAt.str_none a t'
  | bl b=>cases rx; exact SeqAt.EqAt.str_bool a t' b
  | int b=>obtain ⟨t,rfl⟩:=rx; exact SeqAt.EqAt.str_int a t' b t
  | str b=>obtain ⟨t,rfl⟩:=rx; exact SeqAt.EqAt.str_str a t' b t
  | _=>exact absurd (show false = true from fx) Bool.false_ne_true
 | _=>exact absurd (show false = true from fy) Bool.false_ne_true
def eqU (x:V) (u:Value):Bool:=match u with
 | .none=>eqV .non x
 | .bool b=>eqV (.bl b) x
 | .int i _=>eqV (.int i) x
 | .str z _=>eqV (.str z) x
 | _=>false
theorem FW {x y:V} {u:Value} (r:RelV y u) (f:qo y = true):eqU x u = eqV y x:=by
 cases y with
 | non=>cases r; rfl
 | bl b=>cases r; rfl
 | int i=>obtain ⟨t,rfl⟩:=r; rfl
 | str z=>obtain ⟨t,rfl⟩:=r; rfl
 | _=>exact absurd (show false = true from f) Bool.false_ne_true
theorem um {x:V}:∀ {xs:List V} {us:List Value},Vals xs us → xs.all qo = true → us.any (eqU x) = xs.any fun y=>eqV y x
 | _,_,.nil,_=>rfl
 | y :: xs,u :: us,.cons r t,f=>by
  rw [List.all_cons,Bool.and_eq_true] at f
  rw [List.any_cons,List.any_cons,FW r f.1,um t f.2]
theorem oS {A:Around} {s:Shared} {x:V} {v:Value} (rx:RelV x v) (fx:qo x = true):∀ {xs:List V} {us:List Value},Vals xs us → xs.all qo = true → ∀ u ∈ us,SeqAt.EqAt A s u v (eqU x u)
 | _,_,.nil,_=>fun u hu=>by cases hu
 | y :: xs,u :: us,.cons r t,f=>fun u' hu=>by
  rw [List.all_cons,Bool.and_eq_true] at f
  rcases List.mem_cons.mp hu with rfl | hu
  ·rw [FW r f.1]; exact fV r rx f.1 fx
  ·exact oS rx fx t f.2 u' hu
def inV (x:V) (xs:List V):Bool:=xs.any fun y=>eqV y x
def rIn (K:PySem.W.Frag) (neg:Bool):R2:=fun x y H Q=>∃ p xs,y = .ref p ∧ (SqL K H p xs ∨ SqT K H p xs) ∧ qo x = true ∧ xs.all qo = true ∧ Q (.bl (if neg then !inV x xs else inV x xs)) H
theorem E4:OpR X (compareOp .In) (rIn X.K false):=by
 intro pins s σ H x y v u Q I rx ry h
 obtain ⟨p,xs,rfl,hq,fx,fs,q⟩:=h
 cases ry
 rcases hq with hq | hq
 ·obtain ⟨its,r,pl,hz⟩:=I.list hq
  refine SeqAt.in_listAt (eqU x) pl.isList (fun w hw=>oS rx fx r fs w (by simpa using hw)) ⟨.bl _,H,I,rfl,?_⟩
  rw [show its.toArray.any (eqU x) = its.any (eqU x) by simp,um r fs]
  exact q
 ·obtain ⟨its,r,pl,hz⟩:=I.tuple hq
  refine SeqAt.in_tupleAt (eqU x) pl (fun w hw=>oS rx fx r fs w (by simpa using hw)) ⟨.bl _,H,I,rfl,?_⟩
  rw [show its.toArray.any (eqU x) = its.any (eqU x) by simp,um r fs]
  exact q
theorem zI:OpR X (compareOp .NotIn) (rIn X.K true):=by
 intro pins s σ H x y v u Q I rx ry h
 obtain ⟨p,xs,rfl,hq,fx,fs,q⟩:=h
 cases ry
 rcases hq with hq | hq
 ·obtain ⟨its,r,pl,hz⟩:=I.list hq
  refine SeqAt.notIn_listAt (eqU x) pl.isList (fun w hw=>oS rx fx r fs w (by simpa using hw)) ⟨.bl _,H,I,rfl,?_⟩
  rw [show its.toArray.any (eqU x) = its.any (eqU x) by simp,um r fs]
  exact q
 ·obtain ⟨its,r,pl,hz⟩:=I.tuple hq
  refine SeqAt.notIn_tupleAt (eqU x) pl (fun w hw=>oS rx fx r fs w (by simpa using hw)) ⟨.bl _,H,I,rfl,?_⟩
  rw [show its.toArray.any (eqU x) = its.any (eqU x) by simp,um r fs]
  exact q
theorem zC:dO X (.type "list") (fun xs H Q=>∃ p ys,xs = [.ref p] ∧ (SqL X.K H p ys ∨ SqT X.K H p ys) ∧ ∀ l,H l = none → Q (.ref l) (upd H l (.lst ys))):=by
 intro pins s σ H xs us Q I r h
 obtain ⟨p,ys,rfl,hq,q⟩:=h
 obtain ⟨u,rfl,rx⟩:=vals1 r
 cases rx
 have fin:∀ (its:List Value),Vals ys its → ys.length ≤ sizeLine → ∀ (h':Heap) (c':Nat),(∀ b o',s.heap.get? b = some o' → h'.get? b = some o') →
   h'.get? s.heap.objs.size = some { cls:=.type "list",dict:=none,data:=.seq its.toArray c',slots:=#[] } → EP X pins σ Q (.ref s.heap.objs.size) { s with heap:=h' }:=fun its r' hz h' c' kp e =>
  ⟨.ref s.heap.objs.size,_,I.laid (t':=s.toks) kp (Nat.le_refl _) (show cN X.prog X.w _ h' _ (.lst ys) from ⟨hz,its,c',r',e⟩),rfl,q _ (I.hok.fresh (Nat.le_refl _))⟩
 rcases hq with hq | hq
 ·obtain ⟨its,r',pl,hz⟩:=I.list hq
  have hlen:=r'.length
  obtain ⟨o,ho,hc,n,hd⟩:=pl.isList
  exact call_list_seq p (.inl rfl) ho hc hd (fun h' c' kp e=>fin its r' hz h' c' kp e) (by simp only [List.size_toArray] <;> omega)
 ·obtain ⟨its,r',pl,hz⟩:=I.tuple hq
  have hlen:=r'.length
  obtain ⟨o,ho,hc,n,hd⟩:=pl
  exact call_list_seq p (.inr rfl) ho hc hd (fun h' c' kp e=>fin its r' hz h' c' kp e) (by simp only [List.size_toArray] <;> omega)
theorem gI:dO X (.type "tuple") (fun xs H Q=>∃ p ys,xs = [.ref p] ∧ ((SqL X.K H p ys ∧ ∀ l,H l = none → Q (.ref l) (upd H l (.tup ys))) ∨ (SqT X.K H p ys ∧ Q (.ref p) H))):=by
 intro pins s σ H xs us Q I r h
 obtain ⟨p,ys,rfl,h⟩:=h
 obtain ⟨u,rfl,rx⟩:=vals1 r
 cases rx
 rcases h with ⟨hq,q⟩ | ⟨hq,q⟩
 ·obtain ⟨its,r',pl,hz⟩:=I.list hq
  have hlen:=r'.length
  refine call_tuple_list pl.isList (fun h' kp=>?_) (by simp only [List.size_toArray] <;> omega)
  have I1:Inv X pins σ H { s with heap:=h' }:=I.kept (t':=s.toks) kp
  have I2:Inv X pins σ (upd H h'.objs.size (.tup ys)) { s with heap:=h'.push { cls:=.type "tuple",data:=.seq its.toArray } } :=
   I1.laid (t':=s.toks) (fun b o e=>Heap.get?_push_of_some _ e) (Nat.le_refl _) (show cN X.prog X.w _ _ _ (.tup ys) from ⟨hz,its,r',kF.new _ _⟩)
  exact ⟨.ref h'.objs.size,_,I2,rfl,q _ (I1.hok.fresh (Nat.le_refl _))⟩
 ·obtain ⟨its,r',pl,hz⟩:=I.tuple hq
  exact call_tuple_same pl ⟨.ref p,H,I,rfl,q⟩
def tyV (K:PySem.W.Frag) (T:String) (x:V) (H:Hp):Prop:=match x with
 | .str _=>T = "str"
 | .int _=>T = "int"
 | .ref p=>(T = "list" ∧ ∃ xs,SqL K H p xs) ∨ (T = "tuple" ∧ ∃ o,K.lookup p = some o ∧ o.cls = .type "tuple" ∧ o.dict = none) ∨
   (T = "dict" ∧ ((∃ kvs,H p = some (.dK kvs)) ∨ ∃ kvs,H p = some (.dT kvs))) ∨ (T = "set" ∧ ∃ S n,H p = some (.set S n))
 | _=>False
theorem Mu {pins:List (Addr × Obj)} {σ:St} {H:Hp} {s:Shared} {T:String} {x:V} {v:Value} (I:Inv X pins σ H s) (r:RelV x v) (ty:tyV X.K T x H) :
  s.TypeIs v T ∧ ∀ a,v = .ref a → ∃ ob,s.heap.get? a = some ob ∧ ob.dict = none:=by
 cases x with
 | str z =>
  obtain ⟨t,rfl⟩:=r
  cases (show T = "str" from ty)
  exact ⟨typeIs_str s z t,fun _ e=>nomatch e⟩
 | int i =>
  obtain ⟨t,rfl⟩:=r
  cases (show T = "int" from ty)
  exact ⟨typeIs_int s i t,fun _ e=>nomatch e⟩
 | ref p =>
  cases r
  rcases ty with ⟨rfl,xs,hq⟩ | ⟨rfl,o,hk,hc,hd⟩ | ⟨rfl,hk⟩ | ⟨rfl,S,n,hk⟩
  ·obtain ⟨its,_,pl,_⟩:=I.list hq
   refine ⟨pl.isList.typeIs,fun a e=>?_⟩
   cases e
   obtain ⟨o,n,e,c,hd,_⟩:=pl
   exact ⟨o,e,hd⟩
  ·refine ⟨⟨o,I.kIn p o hk,hc⟩,fun a e=>?_⟩
   cases e
   exact ⟨o,I.kIn _ o hk,hd⟩
  ·have z:∃ o,s.heap.get? p = some o ∧ o.ExactDict:=by
    rcases hk with ⟨kvs,hk⟩ | ⟨kvs,hk⟩
    ·obtain ⟨_,_,_,_,o,_,_,e,ex,_⟩:=I.hok p _ hk
     exact ⟨o,e,ex⟩
    ·obtain ⟨_,_,_,_,o,_,_,e,ex,_⟩:=I.hok p _ hk
     exact ⟨o,e,ex⟩
   obtain ⟨o,e,ex⟩:=z
   refine ⟨⟨o,e,ex.1⟩,fun a e2=>?_⟩
   cases e2
   exact ⟨o,e,ex.2.1⟩
  ·obtain ⟨o,_,_,_,e,ex,_⟩:=I.hok p _ hk
   refine ⟨⟨o,e,ex.1⟩,fun a e2=>?_⟩
   cases e2
   exact ⟨o,e,ex.2.1⟩
 | _=>exact False.elim ty
def tBM (K:PySem.W.Frag) (T:String) (r:V → List V → Hp → VK → Prop) (to:TE) (t:TA):TE:=fun σ H Q=>to σ H fun x H1=>tyV K T x H1 ∧ t σ H1 fun xs H2=>r x xs H2 Q
variable {o e:Expr} {es:List Expr} {to:TE} {t:TA} {name:Str} {apos cpos:Pos} {T id:String} {r:V → List V → Hp → VK → Prop}
theorem KU (pa:PlainAttrs T) (slot:Slot T name id) (hty:typeOf (.builtin id) = pure (.type "method_descriptor")) (hm:MtR X id r) (ho:PE X o to) (ha:PA X (e :: es) t)
  (hbase:attributeBase o name X.env (eval o X.env) = eval o X.env:=by rfl)
  (hfew:((backTo cpos (starEach (e :: es) X.env)).all (fun x=>!x.1) && (backToKw cpos (keywordEach [] X.env)).all (fun x=>x.1.isSome)
   && decide ((e :: es).length + ([]:List Keyword).length + (if ([]:List Keyword).isEmpty then 0 else 1) < 30)) = true:=by rfl)
  (hline:(apos.endLine == cpos.line) = true:=by rfl) (hs:starEach (e :: es) X.env = (false,eval e X.env) :: starEach es X.env:=by rfl) (hplain:(backTo cpos (starEach es X.env)).any (·.1) = false:=by rfl) :
  PE X (.Call (.Attribute o name apos) (e :: es) [] cpos) (tBM X.K T r to t):=by
 intro pins s σ H Q I h
 refine wpAny_Call_method_late hbase hfew hline rfl (thn (ho pins s σ H _ I h) fun v s1 ⟨x,H1,I1,r1,ty,q1⟩=>?_)
 obtain ⟨h1,h2⟩:=Mu I1 r1 ty
 refine ⟨T,id,pa,slot,hty,h1,h2,?_⟩
 have hA:=ha cpos pins s1 σ H1 _ I1 q1
 rw [hs] at hA ⊢
 refine Calls.callWith_builtin (by show (false || (backTo cpos (starEach es X.env)).any (·.1)) = false; rw [hplain] <;> rfl) (Calls.evalArgs_plain ?_)
 exact thn hA fun us s2 ⟨vs,H2,I2,r2,q2⟩=>hm pins s2 σ H2 x vs v us Q I2 r1 r2 q2
end
end L2
namespace L2
open PySem PySem.Spec PyProof.Rows
def MtM (X:Cx) (id:String) (r:V → List V → Hp → VK → Prop):Prop :=
 ∀ (pins:List (Addr × Obj)) (s:Shared) (σ:St) (H:Hp) (x:V) (xs:List V) (v:Value) (us:List Value) (Q:VK),Inv X pins σ H s → RelV x v → Vals xs us → r x xs H Q →
  wpAny (model X.prog X.w) X.A (call (.builtin id) (v :: us)) (EP X pins σ Q) X.xe s
theorem Vals.one:∀ {x:V} {us:List Value},Vals [x] us → ∃ u,us = [u] ∧ RelV x u
 | _,_,.cons r .nil=>⟨_,rfl,r⟩
theorem Vals.two:∀ {x y:V} {us:List Value},Vals [x,y] us → ∃ u v,us = [u,v] ∧ RelV x u ∧ RelV y v
 | _,_,_,.cons r (.cons q .nil)=>⟨_,_,rfl,r,q⟩
section
variable {X:Cx} {pins:List (Addr × Obj)} {σ:St} {H:Hp} {s:Shared} {l b:Addr} {xs ys zs:List V}
theorem Inv.Pc {its its':List Value} {n:Nat} {f:Array Value → Array Value} {t':Nat} (I:Inv X pins σ H s) (hH:H l = some (.lst xs))
  (e:s.heap.get? l = some { cls:=.type "list",data:=.seq its.toArray n }) (hf:f its.toArray = its'.toArray) (hv:Vals ys its') (hz:ys.length ≤ sizeLine) :
  Inv X pins σ (upd H l (.lst ys)) { s with heap:=s.heap.update l (Obj.mapSeq f),toks:=t' }:=by
 have q:=PySem.IsL.update e f
 rw [hf] at q
 refine I.write (x:=l) (e:=l) (by rw [hH]; exact trivial) (.inl rfl) (fun b' u hb hu=>(Heap.get?_update_other s.heap (Obj.mapSeq f) (Ne.symm hb)).trans hu) ⟨_,q⟩ ?_
 exact ⟨hz,its',_,hv,q⟩
theorem Inv.fresh (I:Inv X pins σ H s):H s.heap.objs.size = none:=I.hok.fresh (Nat.le_refl _)
theorem Inv.Py (I:Inv X pins σ H s) (hH:H l = some (.lst xs)):xs.length ≤ sizeLine ∧ ∃ (its:List Value) (n:Nat),Vals xs its ∧ xs.length = its.length ∧ s.heap.get? l = some { cls:=.type "list",data:=.seq its.toArray n }:=by
 obtain ⟨z,its,n,r,e⟩:=I.hok l _ hH
 exact ⟨z,its,n,r,r.length,e⟩
end
section
variable {X:Cx}
def Ia:V → List V → Hp → VK → Prop:=fun x vs H Q=>∃ l xs y,x = .ref l ∧ vs = [y] ∧ H l = some (.lst xs) ∧ xs.length < sizeLine ∧ Q .non (upd H l (.lst (xs ++ [y])))
theorem Fq:MtM X "list.append" Ia:=by
 intro pins s σ H x vs v us Q I rx rv h
 obtain ⟨l,xs,y,rfl,rfl,hH,hz,q⟩:=h
 cases rx
 obtain ⟨u,rfl,ru⟩:=rv.one
 obtain ⟨z,its,n,r,hl,e⟩:=I.Py hH
 refine call_meets F.slot_list_append ⟨_,e,rfl⟩ F.entry_list_append (F.args_list_append_2 _ _) (PySem.list_append l its.toArray n u (by rw [List.size_toArray]; omega)) ⟨e,?_⟩
 refine ⟨.non,_,I.Pc (its':=its ++ [u]) hH e (by simp) (r.append (.cons ru .nil)) ?_,rfl,q⟩
 rw [List.length_append,List.length_singleton]
 omega
end
section
variable {prog:Program} {w:World} {A:Around} {E:Value → Shared → Prop} {s:Shared}
set_option maxRecDepth 100000 in
end
end L2
namespace L2
open PySem PySem.Spec PyProof.Rows
section
variable {κ:Type} [DecidableEq κ]
def oi (kvs:List (κ × V)) (k:κ):Option V:=(kvs.find? fun kv=>decide (kv.1 = k)).map (·.2)
def putK (kvs:List (κ × V)) (k:κ) (v:V):List (κ × V) :=
 if (kvs.any fun kv=>decide (kv.1 = k)) = true then kvs.map (fun kv=>if kv.1 = k then (kv.1,v) else kv) else kvs ++ [(k,v)]
def oR (kvs:List (κ × V)) (k:κ):List (κ × V):=kvs.filter fun kv=>decide (kv.1 ≠ k)
theorem xQ {p:κ × V} {r:List (κ × V)} {k:κ} (e:p.1 = k):oi (p :: r) k = some p.2:=by simp [oi,List.find?_cons,e]
theorem xa {p:κ × V} {r:List (κ × V)} {k:κ} (e:¬ p.1 = k):oi (p :: r) k = oi r k:=by simp [oi,List.find?_cons,e]
theorem B7 (k:κ):∀ kvs:List (κ × V),(kvs.any fun kv=>decide (kv.1 = k)) = (oi kvs k).isSome
 | []=>rfl
 | p :: r=>by
  rw [List.any_cons]
  by_cases e:p.1 = k
  ·simp only [xQ e,decide_eq_true e,Bool.true_or,Option.isSome_some]
  ·rw [xa e,decide_eq_false e,Bool.false_or]; exact B7 k r
theorem pR (kvs:List (κ × V)) (k:κ) (v:V):(putK kvs k v).length ≤ kvs.length + 1:=by
 unfold putK
 split
 ·rw [List.length_map]; omega
 ·rw [List.length_append,List.length_cons,List.length_nil]; omega
theorem oI.kg {o:Option V} {u:Option Value} (r:oI o u):o.isSome = u.isSome:=by
 cases o with
 | none=>cases u with
  | none=>rfl
  | some _=>exact (show False from r).elim
 | some _=>cases u with
  | none=>exact (show False from r).elim
  | some _=>rfl
theorem oI.getD {o:Option V} {u:Option Value} {d:V} {d':Value} (r:oI o u) (rd:RelV d d'):RelV (o.getD d) (u.getD d'):=by
 cases o with
 | none=>cases u with
  | none=>exact rd
  | some _=>exact (show False from r).elim
 | some _=>cases u with
  | none=>exact (show False from r).elim
  | some _=>exact r
theorem KV.val {kvs:List (κ × V)} {vs:List (κ × Value)} (r:KV kvs vs) (k:κ):oI (oi kvs k) (valueAt vs k):=by
 unfold KV at r
 induction r with
 | nil=>exact True.intro
 | @cons p q ps qs h t ih =>
  obtain ⟨h1,h2⟩:=h
  by_cases e:p.1 = k
  ·have e':q.1 = k:=h1.symm.trans e
   have b:valueAt (q :: qs) k = some q.2:=by simp [valueAt,List.find?_cons,e']
   rw [xQ e,b]; exact h2
  ·have e':¬ q.1 = k:=fun z=>e (h1.trans z)
   have b:valueAt (q :: qs) k = valueAt qs k:=by simp [valueAt,List.find?_cons,e']
   rw [xa e,b]; exact ih
theorem KV.any {kvs:List (κ × V)} {vs:List (κ × Value)} (r:KV kvs vs) (k:κ):(kvs.any fun kv=>decide (kv.1 = k)) = vs.any fun kv=>decide (kv.1 = k):=by
 unfold KV at r
 induction r with
 | nil=>rfl
 | cons h t ih=>rw [List.any_cons,List.any_cons,ih,h.1]
theorem KV.M8 {kvs:List (κ × V)} {vs:List (κ × Value)} (r:KV kvs vs) (k:κ) {y:V} {u:Value} (ry:RelV y u) :
  KV (kvs.map fun kv=>if kv.1 = k then (kv.1,y) else kv) (vs.map fun kv=>if kv.1 = k then (kv.1,u) else kv):=by
 unfold KV at r ⊢
 induction r with
 | nil=>exact .nil
 | @cons p q ps qs h t ih =>
  rw [List.map_cons,List.map_cons]
  refine .cons ?_ ih
  obtain ⟨h1,h2⟩:=h
  by_cases e:p.1 = k
  ·rw [if_pos e,if_pos (h1.symm.trans e)]; exact ⟨h1,ry⟩
  ·rw [if_neg e,if_neg (fun z=>e (h1.trans z))]; exact ⟨h1,h2⟩
theorem KV.put {kvs:List (κ × V)} {vs:List (κ × Value)} (r:KV kvs vs) (k:κ) {y:V} {u:Value} (ry:RelV y u):KV (putK kvs k y) (stored vs k u):=by
 unfold putK stored
 rw [r.any k]
 by_cases e:(vs.any fun kv=>decide (kv.1 = k)) = true
 ·rw [if_pos e,if_pos e]; exact r.M8 k ry
 ·rw [if_neg e,if_neg e]; exact Paired.snoc r ⟨rfl,ry⟩
theorem KV.drop {kvs:List (κ × V)} {vs:List (κ × Value)} (r:KV kvs vs) (k:κ):KV (oR kvs k) (without vs k):=by
 unfold KV at r ⊢
 unfold oR without
 induction r with
 | nil=>exact .nil
 | @cons p q ps qs h t ih =>
  obtain ⟨h1,h2⟩:=h
  rw [List.filter_cons,List.filter_cons]
  by_cases e:p.1 = k
  ·have a:¬ decide (p.1 ≠ k) = true:=by simp [e]
   have b:¬ decide (q.1 ≠ k) = true:=by simp [h1.symm.trans e]
   rw [if_neg a,if_neg b]; exact ih
  ·have e':¬ q.1 = k:=fun z=>e (h1.trans z)
   have a:decide (p.1 ≠ k) = true:=by simp [e]
   have b:decide (q.1 ≠ k) = true:=by simp [e']
   rw [if_pos a,if_pos b]; exact .cons ⟨h1,h2⟩ ih
theorem KV.keys {kvs:List (κ × V)} {vs:List (κ × Value)} (r:KV kvs vs):kvs.map (·.1) = vs.map (·.1):=by
 unfold KV at r
 induction r with
 | nil=>rfl
 | cons h t ih=>rw [List.map_cons,List.map_cons,ih,h.1]
theorem KV.length {kvs:List (κ × V)} {vs:List (κ × Value)} (r:KV kvs vs):kvs.length = vs.length:=Paired.length r
theorem BY (kvs:List (κ × V)) (k:κ):(oR kvs k).length ≤ kvs.length:=List.length_filter_le _ _
end
theorem rL {P:Program} {w:World} {k:Key} {u:Value} (r:RelV (kV k) u):(bN P w).is k u = true:=by
 cases k with
 | inl i=>obtain ⟨t,e⟩:=(show ∃ t,u = Value.int i t from r); subst e; exact Cr P w i t
 | inr x=>obtain ⟨t,e⟩:=(show ∃ t,u = Value.str x t from r); subst e; exact B1 P w x t
theorem yU {P:Program} {w:World}:∀ {ks:List Key} {us:List Value},Vals (ks.map kV) us → ItemsAre (bN P w) ks us
 | [],_,r=>by rw [List.map_nil] at r; cases r; exact .nil
 | k :: ks,_,r=>by
  rw [List.map_cons] at r
  cases r with
  | cons h t=>exact .cons (rL h) (yU t)
abbrev KT (H:Hp):List (List Key × V) → List (List Key × Addr × Value) → Prop:=Paired fun p q=>p.1 = q.1 ∧ H q.2.1 = some (.tup (p.1.map kV)) ∧ RelV p.2 q.2.2
theorem KT.val {H:Hp} {kvs:List (List Key × V)} {xs:List (List Key × Addr × Value)} (r:KT H kvs xs) (k:List Key):oI (oi kvs k) ((atKey xs k).map (·.2)):=by
 induction r with
 | nil=>exact True.intro
 | @cons p q ps qs h t ih =>
  obtain ⟨h1,_,h2⟩:=h
  by_cases e:p.1 = k
  ·have e':q.1 = k:=h1.symm.trans e
   have b:atKey (q :: qs) k = some q.2:=by simp [atKey,List.find?_cons,e']
   rw [xQ e,b]; exact h2
  ·have e':¬ q.1 = k:=fun z=>e (h1.trans z)
   have b:atKey (q :: qs) k = atKey qs k:=by simp [atKey,List.find?_cons,e']
   rw [xa e,b]; exact ih
theorem KT.M8 {H:Hp} {kvs:List (List Key × V)} {xs:List (List Key × Addr × Value)} (r:KT H kvs xs) (k:List Key) {y:V} {u:Value} (ry:RelV y u) :
  KT H (kvs.map fun kv=>if kv.1 = k then (kv.1,y) else kv) (xs.map (putAt k u)):=by
 induction r with
 | nil=>exact .nil
 | @cons p q ps qs h t ih =>
  rw [List.map_cons,List.map_cons]
  refine .cons ?_ ih
  obtain ⟨h1,h2,h3⟩:=h
  unfold putAt
  by_cases e:p.1 = k
  ·rw [if_pos e,if_pos (h1.symm.trans e)]; exact ⟨h1,h2,ry⟩
  ·rw [if_neg e,if_neg (fun z=>e (h1.trans z))]; exact ⟨h1,h2,h3⟩
theorem KT.put {H:Hp} {kvs:List (List Key × V)} {xs:List (List Key × Addr × Value)} (r:KT H kvs xs) (k:List Key) {b:Addr} {y:V} {u:Value} (hb:H b = some (.tup (k.map kV))) (ry:RelV y u) :
  KT H (putK kvs k y) (storedH xs k b u):=by
 have e:(kvs.any fun kv=>decide (kv.1 = k)) = (atKey xs k).isSome:=by
  rw [B7,(r.val k).kg,Option.isSome_map]
 unfold putK storedH
 rw [e]
 by_cases q:(atKey xs k).isSome = true
 ·rw [if_pos q,if_pos q]; exact r.M8 k ry
 ·rw [if_neg q,if_neg q]; exact Paired.snoc r ⟨rfl,hb,ry⟩
theorem KT.keeps {H H':Hp} {kvs:List (List Key × V)} {xs:List (List Key × Addr × Value)} (r:KT H kvs xs) (ht:∀ b ys,H b = some (.tup ys) → H' b = some (.tup ys)):KT H' kvs xs :=
 Paired.L9 r fun _ _ z=>⟨z.1,ht _ _ z.2.1,z.2.2⟩
section
variable {P:Program} {w:World} {H:Hp} {h:Heap} {a:Addr}
theorem Ki {u:HO} (ok:HOk P w H h) (e:Rd H a u):cN P w H h a u:=e.ok ok
theorem kO {kvs:List (Key × V)} (ok:HOk P w H h) (e:Rd H a (.dK kvs)):kvs.length ≤ sizeLine ∧ (a == sysModules) = false ∧ ∃ vs,KV kvs vs ∧ h.DictOf (bN P w) a vs :=
 show cN P w H h a (.dK kvs) from Ki ok e
theorem Bl {kvs:List (Key × V)} (ok:HOk P w H h) (e:H a = some (.dK kvs)):kvs.length ≤ sizeLine ∧ (a == sysModules) = false ∧ ∃ vs,KV kvs vs ∧ h.DictOf (bN P w) a vs:=kO ok (.inl e)
theorem uz {ks:List Key} (ok:HOk P w H h) (e:H a = some (.tup (ks.map kV))):(tupleKind (bN P w)).is h ks a:=by
 obtain ⟨_,its,r,o,h1,h2,n,h3,_⟩:=(show cN P w H h a (.tup (ks.map kV)) from ok a _ e)
 exact ⟨o,its.toArray,n,h1,h2,h3,by simpa using yU r⟩
theorem xA {kvs:List (List Key × V)} (ok:HOk P w H h) (e:Rd H a (.dT kvs)):kvs.length ≤ sizeLine ∧ (a == sysModules) = false ∧
  ∃ xs,KT H kvs xs ∧ h.DictOfH (tupleKind (bN P w)) a xs:=by
 obtain ⟨z,y,xs,r,o,es,ep,h1,h2,h3,h4,h5⟩:=(show cN P w H h a (.dT kvs) from Ki ok e)
 refine ⟨z,y,xs,r,o,es,ep,h1,h2,h3,h4,fun x hx=>?_,h5⟩
 have all:∀ {l:List (List Key × V)} {m:List (List Key × Addr × Value)},KT H l m → ∀ x ∈ m,(tupleKind (bN P w)).is h x.1 x.2.1:=by
  intro l m q
  induction q with
  | nil=>intro x hx; exact nomatch hx
  | @cons p q ps qs hq t ih =>
   intro x hx
   rcases List.mem_cons.mp hx with e | hx
   ·subst e
    exact uz ok (by rw [← hq.1]; exact hq.2.1)
   ·exact ih x hx
 exact all r x hx
theorem OT {kvs:List (List Key × V)} (ok:HOk P w H h) (e:H a = some (.dT kvs)):kvs.length ≤ sizeLine ∧ (a == sysModules) = false ∧
  ∃ xs,KT H kvs xs ∧ h.DictOfH (tupleKind (bN P w)) a xs:=xA ok (.inl e)
end
def rX (H:Hp) (a:Addr) (y:V) (r:Option V):Prop :=
 (∃ kvs k,Rd H a (.dK kvs) ∧ y = kV k ∧ r = oi kvs k) ∨ ∃ kvs k b,Rd H a (.dT kvs) ∧ y = .ref b ∧ H b = some (.tup (k.map kV)) ∧ r = oi kvs k
def OE (H:Hp) (a:Addr) (y v:V) (H':Hp):Prop :=
 (∃ kvs k,H a = some (.dK kvs) ∧ y = kV k ∧ kvs.length < sizeLine ∧ H' = upd H a (.dK (putK kvs k v))) ∨
 ∃ kvs k b,H a = some (.dT kvs) ∧ y = .ref b ∧ H b = some (.tup (k.map kV)) ∧ kvs.length < sizeLine ∧ H' = upd H a (.dT (putK kvs k v))
section
variable {X:Cx} {pins:List (Addr × Obj)} {σ:St} {H:Hp} {s:Shared} {a:Addr} {y v:V} {u r:Value} {o:Option V} {A:Around} {E:Value → Shared → Prop}
theorem Inv.big (I:Inv X pins σ H s):sysModules < s.heap.objs.size:=by
 have h:mainGlobals < s.heap.objs.size:=(I.mod.glob.keeps I.bk).lt
 exact Nat.lt_trans (by decide) h
theorem Fh {Q:Value → Shared → Prop} (hu:A.units + 1 < cLine) (I:Inv X pins σ H s) (g:rX H a y (some v)) (ry:RelV y u) (h:∀ w' s',Inv X pins σ H s' → RelV v w' → Q w' s') :
  wpAny (model X.prog X.w) A (getItem (.ref a) u) Q E s:=by
 rcases g with ⟨kvs,k,e,ey,l⟩ | ⟨kvs,k,b,e,ey,eb,l⟩
 ·subst ey
  obtain ⟨z,hd,vs,rel,dd⟩:=kO I.hok e
  obtain ⟨w',hw,rw'⟩:=oI.some_of (v:=v) (o:=valueAt vs k) (by rw [l]; exact rel.val k)
  exact wpAny_getItem_of (rL ry) dd.mapOf hw (h w' _ (I.tok _) rw')
 ·subst ey
  cases (show u = Value.ref b from ry)
  obtain ⟨z,hd,xs,rel,dd⟩:=xA I.hok e
  obtain ⟨w',hw,rw'⟩:=oI.some_of (v:=v) (o:=(atKey xs k).map (·.2)) (by rw [l]; exact rel.val k)
  obtain ⟨p,hp,hp2⟩:=Option.map_eq_some_iff.mp hw
  refine wpAny_getItem_heap (tupleKind_room_in1 hu) (uz I.hok eb) dd hp ?_
  rw [hp2]
  exact h w' _ (I.tok _) rw'
theorem PN {Q:Value → Shared → Prop} (hu:A.units + 1 < cLine) (I:Inv X pins σ H s) (g:rX H a y o) (ry:RelV y u) (h:∀ s',Inv X pins σ H s' → Q (.bool o.isSome) s') :
  wpAny (model X.prog X.w) A (compareOp .In u (.ref a)) Q E s:=by
 rcases g with ⟨kvs,k,e,ey,l⟩ | ⟨kvs,k,b,e,ey,eb,l⟩
 ·subst ey
  obtain ⟨z,hd,vs,rel,dd⟩:=kO I.hok e
  refine wpAny_in_of (rL ry) hd dd.mapOf ?_
  rw [← (rel.val k).kg,← l]
  exact h _ (I.tok _)
 ·subst ey
  cases (show u = Value.ref b from ry)
  obtain ⟨z,hd,xs,rel,dd⟩:=xA I.hok e
  refine wpAny_in_heap (tupleKind_room_in1 hu) (uz I.hok eb) hd dd ?_
  have q:=(rel.val k).kg
  rw [Option.isSome_map] at q
  rw [← q,← l]
  exact h _ (I.tok _)
theorem HS {Q:Value → Shared → Prop} (hu:A.units + 1 < cLine) (I:Inv X pins σ H s) (g:rX H a y o) (ry:RelV y u) (h:∀ s',Inv X pins σ H s' → Q (.bool (!o.isSome)) s') :
  wpAny (model X.prog X.w) A (compareOp .NotIn u (.ref a)) Q E s:=by
 rcases g with ⟨kvs,k,e,ey,l⟩ | ⟨kvs,k,b,e,ey,eb,l⟩
 ·subst ey
  obtain ⟨z,hd,vs,rel,dd⟩:=kO I.hok e
  refine wpAny_notIn_of (rL ry) hd dd.mapOf ?_
  rw [← (rel.val k).kg,← l]
  exact h _ (I.tok _)
 ·subst ey
  cases (show u = Value.ref b from ry)
  obtain ⟨z,hd,xs,rel,dd⟩:=xA I.hok e
  refine wpAny_notIn_heap (tupleKind_room_in1 hu) (uz I.hok eb) hd dd ?_
  have q:=(rel.val k).kg
  rw [Option.isSome_map] at q
  rw [← q,← l]
  exact h _ (I.tok _)
theorem tf {h':Heap} {t':Nat} {ob:HO} (I:Inv X pins σ H s) (mu:Mut (H a)) (hs:Heap.SameBut a s.heap h') (he:∃ q,h'.get? a = some q) (new:cN X.prog X.w (upd H a ob) h' a ob) :
  Inv X pins σ (upd H a ob) { s with heap:=h',toks:=t' } :=
 I.write (x:=a) (e:=a) mu (.inl rfl) (fun b q hb z=>(hs.2 b hb).trans z) he new
theorem vk {P:Program} {w:World} {H':Hp} {h':Heap} {kvs:List (Key × V)} {vs:List (Key × Value)} (z:kvs.length ≤ sizeLine) (hd:(a == sysModules) = false) (rel:KV kvs vs) (dd:h'.DictOf (bN P w) a vs) :
  cN P w H' h' a (.dK kvs):=⟨z,hd,vs,rel,dd⟩
theorem Ft {H':Hp} {Q:Unit → Shared → Prop} (hu:A.units + 1 < cLine) (I:Inv X pins σ H s) (g:OE H a y v H') (ry:RelV y u) (rv:RelV v r) (h:∀ s',Inv X pins σ H' s' → Q () s') :
  wpAny (model X.prog X.w) A (setItem (.ref a) u r) Q E s:=by
 rcases g with ⟨kvs,k,e,ey,l,eH⟩ | ⟨kvs,k,b,e,ey,eb,l,eH⟩
 ·subst ey eH
  obtain ⟨z,hd,vs,rel,dd⟩:=Bl I.hok e
  have hz:vs.length ≤ sizeLine:=by rw [← rel.length]; exact z
  have hl:(putK kvs k v).length ≤ sizeLine:=by have:=pR kvs k v; omega
  refine wpAny_setItem_pairs (hsz:=hz) (rL ry) dd fun h' dd' hs=>h _ ?_
  have he:∃ q,h'.get? a = some q:=let ⟨q,_,_,hq,_⟩:=dd'; ⟨q,hq⟩
  exact tf I (by rw [e]; exact True.intro) hs he (vk hl hd (rel.put k rv) dd')
 ·subst ey eH
  cases (show u = Value.ref b from ry)
  obtain ⟨z,hd,xs,rel,dd⟩:=OT I.hok e
  have hz:xs.length ≤ sizeLine:=by rw [← Paired.length rel]; exact z
  have hl:(putK kvs k v).length ≤ sizeLine:=by have:=pR kvs k v; omega
  refine wpAny_setItem_heap (hsz:=hz) (tupleKind_room_in1 hu) (uz I.hok eb) dd fun h' dd' hs=>h _ ?_
  obtain ⟨q,es,ep,hq,h2,h3,h4,_,h5⟩:=dd'
  refine tf I (by rw [e]; exact True.intro) hs ⟨q,hq⟩ ⟨hl,hd,_,(rel.put k eb rv).keeps fun c ys ec=>?_,q,es,ep,hq,h2,h3,h4,h5⟩
  rw [aR (NA ec e (fun z=>nomatch z))]
  exact ec
end
section
variable {X:Cx} {pins:List (Addr × Obj)} {σ:St} {H:Hp} {s:Shared} {a:Addr} {kvs:List (Key × V)} {k:Key} {u:Value} {A:Around} {E:Value → Shared → Prop}
theorem Nv {Q:Unit → Shared → Prop} (I:Inv X pins σ H s) (e:H a = some (.dK kvs)) (ry:RelV (kV k) u) (l:(oi kvs k).isSome = true) (h:∀ s',Inv X pins σ (upd H a (.dK (oR kvs k))) s' → Q () s') :
  wpAny (model X.prog X.w) A (delItem (.ref a) u) Q E s:=by
 obtain ⟨z,hd,vs,rel,dd⟩:=Bl I.hok e
 refine wpAny_delItem_slot dd.typeIs (by decide) PySem.F.slot_dict_delitem
  (call_meetsIn PySem.F.slot_dict_delitem dd.typeIs PySem.F.entry_dict_delitem (PySem.F.args_dict_delitem_2 _ _) (meets_dict_delitem_pairs (bN X.prog X.w) a (rL ry)) ⟨vs,dd,by rw [← rel.length]; exact z,by rw [← (rel.val k).kg]; exact l,fun h' dd' hs=>h _ ?_⟩)
 have he:∃ q,h'.get? a = some q:=let ⟨q,_,_,hq,_⟩:=dd'; ⟨q,hq⟩
 exact tf I (by rw [e]; exact True.intro) hs he (vk (Nat.le_trans (BY kvs k) z) hd (rel.drop k) dd')
theorem OI {v:V} {more:List Value} {Q:Value → Shared → Prop} (I:Inv X pins σ H s) (e:H a = some (.dK kvs)) (ry:RelV (kV k) u) (l:oi kvs k = some v) (hm:more = [] ∨ ∃ x,more = [x])
  (h:∀ w' s',Inv X pins σ (upd H a (.dK (oR kvs k))) s' → RelV v w' → Q w' s'):wpAny (model X.prog X.w) A (call (.builtin "dict.pop") (.ref a :: u :: more)) Q E s:=by
 obtain ⟨z,hd,vs,rel,dd⟩:=Bl I.hok e
 obtain ⟨w',hw,rw'⟩:=oI.some_of (v:=v) (o:=valueAt vs k) (by rw [← l]; exact rel.val k)
 have hp:(keyPart u).isSome = true:=by
  cases k with
  | inl i=>obtain ⟨t,q⟩:=(show ∃ t,u = Value.int i t from ry); subst q; rfl
  | inr x=>obtain ⟨t,q⟩:=(show ∃ t,u = Value.str x t from ry); subst q; rfl
 have ha:argsOk "dict.pop" ⟨.ref a :: u :: more,[]⟩:=by
  rcases hm with q | ⟨x,q⟩
  ·subst q; exact PySem.F.args_dict_pop_2 _ _
  ·subst q; exact PySem.F.args_dict_pop_3 _ _ _
 refine call_meetsIn PySem.F.slot_dict_pop dd.typeIs PySem.F.entry_dict_pop ha (meets_dict_pop_there (bN X.prog X.w) a (rL ry) more hm hp)
  ⟨vs,w',dd,by rw [← rel.length]; exact z,hw,fun h' dd' hs=>h w' _ ?_ rw'⟩
 have he:∃ q,h'.get? a = some q:=let ⟨q,_,_,hq,_⟩:=dd'; ⟨q,hq⟩
 exact tf I (by rw [e]; exact True.intro) hs he (vk (Nat.le_trans (BY kvs k) z) hd (rel.drop k) dd')
end
def HR (i:Expr):Prop:=∀ ov iv,subscripted i false ov iv = operate [ov,iv] (getItem ov iv)
theorem IW {prog:Program} {w:World} {A:Around} {E:Value → Shared → Prop} {s:Shared} {env:Env} {value slice:Expr} {pos:Pos} {T id:String} {Q:Value → Shared → Prop}
  (hl:typeLookup (.type T) "__getitem__" = pure (some (.builtin id))) (hs:HR slice)
  (h:wpAny (model prog w) A (eval value env) (fun o s₁=>wpAny (model prog w) A (eval slice env) (fun i s₂=>s₂.TypeIs o T ∧ wpAny (model prog w) A (getItem o i) Q E s₂) E s₁) E s) :
  wpAny (model prog w) A (eval (.Subscript value slice pos) env) Q E s:=by
 refine Subscript_ (wpAny_mono h (fun o s₁ h₁=>wpAny_mono h₁ (fun i s₂ h₂=>?_) fun _ _ x=>x) fun _ _ x=>x)
 obtain ⟨hT,h₂⟩:=h₂
 unfold subscriptTail
 refine wpAny_bind ?_
 rw [getitemInPython_of_ne hT.not_modules]
 refine wpAny_bind (wpAny_specialOf hT hl ?_)
 have fin:wpAny (model prog w) A (subscripted slice false o i) (fun r s₃=>wpAny (model prog w) A (letTemporaryGo value o r >>= fun _=>pure r) Q E s₃) E s₂:=by
  rw [hs o i]
  exact wpAny_operating (wpAny_mono h₂ (fun r s₃ h₃=>wpAny_bind (wpAny_letTemporaryGo (wpAny_pure h₃))) fun _ _ x=>x)
 first
  | exact wpAny_pure (wpAny_bind fin)
  | exact wpAny_bind (wpAny_pure (wpAny_bind fin))
  | exact wpAny_bind fin
theorem BP {X:Cx} {pins:List (Addr × Obj)} {σ:St} {H:Hp} {s:Shared} {a:Addr} {y:V} {o:Option V} (I:Inv X pins σ H s) (g:rX H a y o):s.TypeIs (.ref a) "dict" := by
 rcases g with ⟨kvs,k,e,_,_⟩ | ⟨kvs,k,b,e,_,_,_⟩
 ·obtain ⟨_,_,vs,_,dd⟩:=kO I.hok e
  exact dd.typeIs
 ·obtain ⟨_,_,xs,_,dd⟩:=xA I.hok e
  exact dd.typeIs
def OW (td ty:TE):TE:=fun σ H Q=>td σ H fun x H1=>ty σ H1 fun y H2=>∃ a v,x = .ref a ∧ rX H2 a y (some v) ∧ Q v H2
def Pl (ty td:TE):TE:=fun σ H Q=>ty σ H fun y H1=>td σ H1 fun x H2=>∃ a o,x = .ref a ∧ rX H2 a y o ∧ Q (.bl o.isSome) H2
def Jk (ty td:TE):TE:=fun σ H Q=>ty σ H fun y H1=>td σ H1 fun x H2=>∃ a o,x = .ref a ∧ rX H2 a y o ∧ Q (.bl (!o.isSome)) H2
def Ov (td ty tv:TE):TS:=fun D σ H=>tv σ H fun v H1=>td σ H1 fun x H2=>ty σ H2 fun y H3=>∃ a H4,x = .ref a ∧ OE H3 a y v H4 ∧ D.nx σ H4
section
variable {X:Cx} {o i e value:Expr} {pos pos' tpos:Pos} {td ty tv:TE}
theorem Jh (hu:X.A.units + 1 < cLine) (ho:PE X o td) (hi:PE X i ty) (hs:HR i):PE X (.Subscript o i pos) (OW td ty):=by
 intro pins s σ H Q I h
 refine IW PySem.F.slot_dict_getitem.lookup hs (thn (ho pins s σ H _ I h) fun u s1 ⟨x,H1,I1,rx,q1⟩=>thn (hi pins s1 σ H1 _ I1 q1) fun iv s2 ⟨y,H2,I2,ry,a,v,ex,g,q2⟩=>?_)
 subst ex
 obtain rfl:u = Value.ref a:=rx
 exact ⟨BP I2 g,Fh hu I2 g ry fun w' s3 I3 rw'=>⟨v,H2,I3,rw',q2⟩⟩
theorem Lm (hu:X.A.units + 1 < cLine) (hi:PE X i ty) (ho:PE X o td):PC X .In i o (Pl ty td):=by
 intro pins s σ H Q I h
 refine thn (hi pins s σ H _ I h) fun iv s1 ⟨y,H1,I1,ry,q1⟩=>thn (ho pins s1 σ H1 _ I1 q1) fun u s2 ⟨x,H2,I2,rx,a,ov,ex,g,q2⟩=>?_
 subst ex
 obtain rfl:u = Value.ref a:=rx
 exact PN hu I2 g ry fun s3 I3=>⟨.bl ov.isSome,H2,I3,rfl,q2⟩
theorem EV (hu:X.A.units + 1 < cLine) (hi:PE X i ty) (ho:PE X o td):PC X .NotIn i o (Jk ty td):=by
 intro pins s σ H Q I h
 refine thn (hi pins s σ H _ I h) fun iv s1 ⟨y,H1,I1,ry,q1⟩=>thn (ho pins s1 σ H1 _ I1 q1) fun u s2 ⟨x,H2,I2,rx,a,ov,ex,g,q2⟩=>?_
 subst ex
 obtain rfl:u = Value.ref a:=rx
 exact HS hu I2 g ry fun s3 I3=>⟨.bl (!ov.isSome),H2,I3,rfl,q2⟩
theorem J8 (hu:X.A.units + 1 < cLine) (ho:PE X o td) (hi:PE X i ty) (hv:PE X value tv) (hs:swapsWith value (some (.Subscript o i pos')) pos.line X.env = pure false) :
  PS X (.Assign [.Subscript o i pos'] value pos) (Ov td ty tv):=by
 intro pins s σ H D I h
 refine wpAny_Assign_Subscript (thn (hv pins s σ H _ I h) fun r s1 ⟨v,H1,I1,rv,q1⟩=>thn (ho pins s1 σ H1 _ I1 q1) fun u s2 ⟨x,H2,I2,rx,q2⟩=>thn (hi pins s2 σ H2 _ I2 q2) fun iv s3 ⟨y,H3,I3,ry,a,H4,ex,g,q3⟩=>?_) hs
 subst ex
 obtain rfl:u = Value.ref a:=rx
 exact Ft hu I3 g ry rv fun s4 I4=>⟨σ,H4,I4,q3⟩
end
theorem BF {P:Program} {w:World} {H:Hp} (h:Heap) (hb:sysModules < h.objs.size):cN P w H (h.push { cls:=.type "dict",data:=.dict #[] }) h.objs.size (.dK []) :=
 ⟨Nat.zero_le _,beq_eq_false_iff_ne.mpr (Ne.symm (Nat.ne_of_lt hb)),[],.nil,Heap.DictOf.new h⟩
def Nn:TE:=fun _ H Q=>∀ p,H p = none → Q (.ref p) (upd H p (.dK []))
section
variable {X:Cx} {pos:Pos}
theorem GJ:PE X (.Dict [] [] pos) Nn:=fun pins s σ H Q I h =>
 wpAny_Dict_empty ⟨.ref s.heap.objs.size,_,I.laid (a:=s.heap.objs.size) (o:=.dK []) (t':=s.toks) (fun _ _ q=>Heap.get?_push_of_some _ q) (Nat.le_refl _) (BF s.heap I.big),rfl,h _ (I.hok.fresh (Nat.le_refl _))⟩
end
def Ds:List (TE × TE) → St → Hp → (List (V × V) → Hp → Prop) → Prop
 | [],_,H,Q=>Q [] H
 | (tk,tv) :: r,σ,H,Q=>tk σ H fun x H1=>tv σ H1 fun y H2=>Ds r σ H2 fun ps H3=>Q ((x,y) :: ps) H3
abbrev VV:List (V × V) → List (Value × Value) → Prop:=Paired fun p q=>RelV p.1 q.1 ∧ RelV p.2 q.2
def PPs (X:Cx) (pos:Pos) (keys:List (Option Expr)) (values:List Expr) (trs:List (TE × TE)):Prop :=
 ∀ (pins:List (Addr × Obj)) (s:Shared) (σ:St) (H:Hp) (Q:List (V × V) → Hp → Prop),Inv X pins σ H s → Ds trs σ H Q →
  wpAny (model X.prog X.w) X.A (evalPairs (pairTrees keys values X.env pos)) (fun vs s'=>∃ ps H',Inv X pins σ H' s' ∧ VV ps vs ∧ Q ps H') X.xe s
theorem IC {X:Cx} {pos:Pos}:PPs X pos [] [] []:=fun pins s σ H Q I h=>pairTrees_nil_walk ⟨[],H,I,.nil,h⟩
theorem GI {X:Cx} {pos:Pos} {k v:Expr} {ks:List (Option Expr)} {vs:List Expr} {tk tv:TE} {trs:List (TE × TE)} (hk:PE X k tk) (hv:PE X v tv) (hr:PPs X pos ks vs trs) :
  PPs X pos (some k :: ks) (v :: vs) ((tk,tv) :: trs):=fun pins s σ H Q I h =>
 pairTrees_cons_walk (thn (hk pins s σ H _ I h) fun u s1 ⟨x,H1,I1,rx,q1⟩=>thn (hv pins s1 σ H1 _ I1 q1) fun w2 s2 ⟨y,H2,I2,ry,q2⟩ =>
  thn (hr pins s2 σ H2 _ I2 q2) fun ws s3 ⟨ps,H3,I3,rel,q3⟩=>⟨(x,y) :: ps,H3,I3,.cons ⟨rx,ry⟩ rel,q3⟩)
def mF (kvs more:List (Key × V)):List (Key × V):=more.foldl (fun acc kv=>putK acc kv.1 kv.2) kvs
theorem KV.merge:∀ {more:List (Key × V)} {rs:List (Key × Value)} {kvs:List (Key × V)} {vs:List (Key × Value)},KV more rs → KV kvs vs → KV (mF kvs more) (merged vs rs):=by
 intro more rs kvs vs r
 unfold KV at r
 induction r generalizing kvs vs with
 | nil=>intro q; exact q
 | @cons p q ps qs h t ih =>
  intro r0
  have e:KV (putK kvs p.1 p.2) (stored vs q.1 q.2):=by
   have:=r0.put p.1 h.2
   rw [← h.1]; exact this
  exact ih e
theorem mG:∀ (more kvs:List (Key × V)),(mF kvs more).length ≤ kvs.length + more.length
 | [],kvs=>by show kvs.length ≤ kvs.length + 0; omega
 | p :: r,kvs=>by
  have h1:=mG r (putK kvs p.1 p.2)
  have h2:=pR kvs p.1 p.2
  show (mF (putK kvs p.1 p.2) r).length ≤ _
  rw [List.length_cons]; omega
theorem wk {P:Program} {w:World}:∀ {kvs:List (Key × V)} {ws:List (Value × Value)},VV (kvs.map fun kv=>(kV kv.1,kv.2)) ws → ∃ rs,Carries (bN P w) ws rs ∧ KV kvs rs
 | [],_,r=>by rw [List.map_nil] at r; cases r; exact ⟨[],True.intro,.nil⟩
 | p :: kvs,_,r=>by
  rw [List.map_cons] at r
  cases r with
  | @cons a b as bs h t =>
   obtain ⟨rs,c,q⟩:=wk (P:=P) (w:=w) t
   obtain ⟨b1,b2⟩:=b
   exact ⟨(p.1,b2) :: rs,⟨rL h.1,rfl,c⟩,.cons ⟨rfl,h.2⟩ q⟩
def Ox (trs:List (TE × TE)):TE:=fun σ H Q=>∀ p,H p = none → Ds trs σ (upd H p (.dK [])) fun ps H2=>H2 p = some (.dK []) ∧ ∃ kvs:List (Key × V),ps = kvs.map (fun kv=>(kV kv.1,kv.2)) ∧ kvs.length ≤ 15 ∧ Q (.ref p) (upd H2 p (.dK (mF [] kvs)))
theorem IT {X:Cx} {pos:Pos} {keys:List (Option Expr)} {values:List Expr} {trs:List (TE × TE)} (h:PPs X pos keys values trs) (hall:keys.all (·.isSome) = true) (hl:keys.length = values.length) (h0:keys ≠ [])
  (h15:keys.length ≤ 15):PE X (.Dict keys values pos) (Ox trs):=by
 intro pins s σ H Q I q
 have hn:=I.hok.fresh (Nat.le_refl s.heap.objs.size)
 have I1:=I.laid (a:=s.heap.objs.size) (o:=.dK []) (h':=s.heap.push { cls:=.type "dict",data:=.dict #[] }) (t':=s.toks) (fun _ _ q=>Heap.get?_push_of_some _ q) (Nat.le_refl _) (BF s.heap I.big)
 refine wpAny_Dict_walk (knd:=bN X.prog X.w) hall hl h0 h15 (thn (h pins _ σ _ _ I1 (q _ hn)) fun ws s2 ⟨ps,H2,I2,rel,e,kvs,ep,lk,q2⟩=>?_)
 subst ep
 obtain ⟨rs,c,rk⟩:=wk (P:=X.prog) (w:=X.w) rel
 obtain ⟨z,hd,vs0,r0,dd⟩:=Bl I2.hok e
 cases r0
 refine ⟨rs,c,dd,fun h' dd' hs=>⟨.ref s.heap.objs.size,_,?_,rfl,q2⟩⟩
 have hz:(mF [] kvs).length ≤ sizeLine:=by
  have h1:=mG kvs []
  rw [List.length_nil] at h1
  rw [sizeLine_eq]; omega
 have he:∃ q,h'.get? s.heap.objs.size = some q:=let ⟨q,_,_,hq,_⟩:=dd'; ⟨q,hq⟩
 exact tf I2 (by rw [e]; exact True.intro) hs he (vk hz hd (rk.merge .nil) dd')
structure M1 (X:Cx) (o:Expr) (m:Str) (apos:Pos) (e:Expr) (cpos:Pos):Prop where
 base:attributeBase o m X.env (eval o X.env) = eval o X.env
 few:((backTo cpos (starEach [e] X.env)).all (fun x=>!x.1) && (backToKw cpos (keywordEach [] X.env)).all (fun x=>x.1.isSome)
  && decide (([e]:List Expr).length + ([]:List Keyword).length + (if ([]:List Keyword).isEmpty then 0 else 1) < 30)) = true
 line:(apos.endLine == cpos.line) = true
 trees:backTo cpos (starEach [e] X.env) = [(false,eval e X.env)]
structure M2 (X:Cx) (o:Expr) (m:Str) (apos:Pos) (e f:Expr) (cpos:Pos):Prop where
 base:attributeBase o m X.env (eval o X.env) = eval o X.env
 few:((backTo cpos (starEach [e,f] X.env)).all (fun x=>!x.1) && (backToKw cpos (keywordEach [] X.env)).all (fun x=>x.1.isSome)
  && decide (([e,f]:List Expr).length + ([]:List Keyword).length + (if ([]:List Keyword).isEmpty then 0 else 1) < 30)) = true
 line:(apos.endLine == cpos.line) = true
 trees:backTo cpos (starEach [e,f] X.env) = [(false,eval e X.env),(false,eval f X.env)]
def IsD (H:Hp) (a:Addr):Prop:=(∃ kvs,Rd H a (.dK kvs)) ∨ ∃ kvs,Rd H a (.dT kvs)
theorem FE {X:Cx} {pins:List (Addr × Obj)} {σ:St} {H:Hp} {s:Shared} {a:Addr} (I:Inv X pins σ H s) (d:IsD H a) :
  s.TypeIs (.ref a) "dict" ∧ (∀ b,Value.ref a = .ref b → ∃ ob,s.heap.get? b = some ob ∧ ob.dict = none) ∧ (a == sysModules) = false:=by
 rcases d with ⟨kvs,e⟩ | ⟨kvs,e⟩
 ·obtain ⟨_,hd,vs,_,dd⟩:=kO I.hok e
  refine ⟨dd.typeIs,fun b q=>?_,hd⟩
  cases q
  obtain ⟨ob,_,_,h1,h2,_⟩:=dd
  exact ⟨ob,h1,h2.2.1⟩
 ·obtain ⟨_,hd,xs,_,dd⟩:=xA I.hok e
  refine ⟨dd.typeIs,fun b q=>?_,hd⟩
  cases q
  obtain ⟨ob,_,_,h1,h2,_⟩:=dd
  exact ⟨ob,h1,h2.2.1⟩
section
variable {X:Cx} {pins:List (Addr × Obj)} {σ:St} {H:Hp} {s:Shared} {a:Addr} {y d:V} {u r:Value} {o:Option V} {A:Around} {E:Value → Shared → Prop}
theorem Nh {Q:Value → Shared → Prop} (hu:A.units + 1 < cLine) (I:Inv X pins σ H s) (g:rX H a y o) (ry:RelV y u) (rd:RelV d r) (h:∀ w' s',Inv X pins σ H s' → RelV (o.getD d) w' → Q w' s') :
  wpAny (model X.prog X.w) A (call (.builtin "dict.get") [.ref a,u,r]) Q E s:=by
 rcases g with ⟨kvs,k,e,ey,l⟩ | ⟨kvs,k,b,e,ey,eb,l⟩
 ·subst ey
  obtain ⟨z,hd,vs,rel,dd⟩:=kO I.hok e
  refine call_meetsIn PySem.F.slot_dict_get dd.typeIs PySem.F.entry_dict_get (PySem.F.args_dict_get_3 _ _ _) (meets_dict_get_default (bN X.prog X.w) a (rL ry) hd r) ⟨_,dd.mapOf,h _ _ (I.tok _) ?_⟩
  rw [l]
  exact (rel.val k).getD rd
 ·subst ey
  cases (show u = Value.ref b from ry)
  obtain ⟨z,hd,xs,rel,dd⟩:=xA I.hok e
  refine call_meetsIn PySem.F.slot_dict_get dd.typeIs PySem.F.entry_dict_get (PySem.F.args_dict_get_3 _ _ _) (meetsH_dict_get_default (tupleKind (bN X.prog X.w)) a b hd r) ⟨tupleKind_room_in1 hu,k,xs,uz I.hok eb,dd,h _ _ (I.tok _) ?_⟩
  rw [l]
  exact (rel.val k).getD rd
end
def MO (td ty tx:TE):TE:=fun σ H Q=>td σ H fun x H1=>∃ a,x = .ref a ∧ IsD H1 a ∧ ty σ H1 fun y H2=>tx σ H2 fun z H3=>∃ o,rX H3 a y o ∧ Q (o.getD z) H3
def LJ (td ty:TE):TE:=fun σ H Q=>td σ H fun x H1=>∃ a,x = .ref a ∧ IsD H1 a ∧ ty σ H1 fun y H2=>∃ kvs k v,H2 a = some (.dK kvs) ∧ y = kV k ∧ oi kvs k = some v ∧ Q v (upd H2 a (.dK (oR kvs k)))
section
variable {X:Cx} {o e f:Expr} {apos cpos:Pos} {td ty tx:TE}
theorem Fz (hu:X.A.units + 1 < cLine) (ho:PE X o td) (he:PE X e ty) (hf:PE X f tx) (m:M2 X o "get" apos e f cpos):PE X (.Call (.Attribute o "get" apos) [e,f] [] cpos) (MO td ty tx):=by
 intro pins s σ H Q I h
 refine wpAny_Call_method m.base m.few m.line PySem.F.plainAttrs_dict PySem.F.slot_dict_get PySem.F.type_dict_get (thn (ho pins s σ H _ I h) fun u s1 ⟨x,H1,I1,rx,a,ex,d,q1⟩=>?_)
 subst ex
 obtain rfl:u = Value.ref a:=rx
 obtain ⟨t1,t2,_⟩:=FE I1 d
 refine ⟨t1,t2,?_⟩
 rw [m.trees]
 refine Calls.callWith_builtin rfl (Calls.evalArgs_plain (Calls.spliced_cons (thn (he pins s1 σ H1 _ I1 q1) fun iv s2 ⟨y,H2,I2,ry,q2⟩ =>
  Calls.spliced_cons (thn (hf pins s2 σ H2 _ I2 q2) fun fv s3 ⟨z,H3,I3,rz,ov,g,q3⟩=>Calls.spliced_nil ?_))))
 exact Nh hu I3 g ry rz fun w' s4 I4 rw'=>⟨_,H3,I4,rw',q3⟩
theorem GL (ho:PE X o td) (he:PE X e ty) (m:M1 X o "pop" apos e cpos):PE X (.Call (.Attribute o "pop" apos) [e] [] cpos) (LJ td ty):=by
 intro pins s σ H Q I h
 refine wpAny_Call_method m.base m.few m.line PySem.F.plainAttrs_dict PySem.F.slot_dict_pop PySem.F.type_dict_pop (thn (ho pins s σ H _ I h) fun u s1 ⟨x,H1,I1,rx,a,ex,d,q1⟩=>?_)
 subst ex
 obtain rfl:u = Value.ref a:=rx
 obtain ⟨t1,t2,_⟩:=FE I1 d
 refine ⟨t1,t2,?_⟩
 rw [m.trees]
 refine Calls.callWith_builtin rfl (Calls.evalArgs_plain (Calls.spliced_cons (thn (he pins s1 σ H1 _ I1 q1) fun iv s2 ⟨y,H2,I2,ry,kvs,k,v,ea,ey,l,q2⟩=>Calls.spliced_nil ?_)))
 subst ey
 exact OI I2 ea ry l (.inl rfl) fun w' s3 I3 rw'=>⟨v,_,I3,rw',q2⟩
end
section
variable {X:Cx} {pins:List (Addr × Obj)} {σ:St} {H:Hp} {s:Shared} {a:Addr} {kvs:List (Key × V)} {A:Around} {E:Value → Shared → Prop}
theorem FV {Q:Value → Shared → Prop} (I:Inv X pins σ H s) (e:Rd H a (.dK kvs)) (h:∀ p s',H p = none → Inv X pins σ (upd H p (.dK kvs)) s' → Q (.ref p) s'):wpAny (model X.prog X.w) A (call (.type "dict") [.ref a]) Q E s:=by
 obtain ⟨z,hd,vs,rel,dd⟩:=kO I.hok e
 refine kt_call_dict hd dd (by rw [← rel.length]; exact z) fun h' dd' hs=>?_
 refine h _ _ (I.hok.fresh (Nat.le_refl _)) (I.laid (a:=s.heap.objs.size) (o:=.dK kvs) (t':=s.toks) (fun b q hq=>?_) (Nat.le_refl _) (vk z (beq_eq_false_iff_ne.mpr (Ne.symm (Nat.ne_of_lt I.big))) rel dd'))
 exact (hs.2 b (Nat.ne_of_lt (Heap.lt_size hq))).trans (Heap.get?_push_of_some _ hq)
end
end L2
namespace Att
open PySem PySem.W PySem.Calls PyProof.Rows
theorem vW {P:Params} {h:Heap}:∀ (ns:List Int) (vs:List Value),WellAll P h vs (ns.map WData.int) → IntsAre vs ns:=by
 intro ns
 induction ns with
 | nil =>
  intro vs w
  rw [List.map_nil] at w
  cases w
  exact .nil
 | cons n ns ih =>
  intro vs w
  rw [List.map_cons] at w
  cases w with
  | cons a b =>
   cases a
   exact .cons _ _ (ih _ b)
theorem ET {l:OpenLaw} {n:Nat} (hn:l.most = some n) {P:Params} {h:Heap} {args:List WData} {vals:List Value}
  (hpre:l.row.toRowW.claim.pre args = true) (hwl:WellAll P h vals args) :
  ∃ a vs ns,vals = [Value.ref a] ∧ args = [WData.list (ns.map WData.int)] ∧ h.get? a = some { cls:=.type "list",data:=.seq vs.toArray } ∧ IntsAre vs ns ∧ ns.length ≤ n:=by
 have hsh:WShape.hasAll [] args [.list .int] = true:=(pre_splitW hpre).1
 have hc:l.pre.holds [] { args:=args } = true:=(pre_splitW hpre).2
 obtain ⟨d,r,rfl,h1,h2⟩:=hasAllW_cons hsh
 obtain rfl:=hasAllW_nil h2
 obtain ⟨xs,rfl,h3⟩:=hasW_list h1
 obtain ⟨ns,rfl⟩:=items_int h3
 have hlen:ns.length ≤ n:=by
  unfold OpenLaw.pre at hc
  have h4:(WTm.not (.lt (.lit (.int (n:Int))) (.len (.arg 0)))).holds [] { args:=[.list (ns.map .int)] } = true:=by
   have h4:=(holds_andW hc).1
   rw [hn] at h4
   exact h4
  have h5:=condW_of h4 (w_not (w_lt w_lit (w_len_list (w_arg rfl))))
  rw [List.length_map] at h5
  refine Nat.le_of_not_lt fun q=>?_
  have q':(n:Int) < ((ns.length:Nat):Int):=by omega
  first
   | (rw [decide_eq_true q'] at h5; exact absurd h5 (by decide))
   | (simp at h5; omega)
 cases hwl with
 | cons w1 w2 =>
  cases w2
  cases w1 with
  | list ho hall=>exact ⟨_,_,ns,rfl,rfl,ho,vW ns _ hall,hlen⟩
theorem Fb (l:OpenLaw) (args:List WData):l.row.toRowW.claim.post args (.bool true) args = true :=
 postW_of (r:=l.row.toRowW) (X:=(true == true))
  (show WShape.has [] (.bool true) .bool = true by first | rfl | decide | simp [WShape.has,WShape.arms,WShape.armsAll])
  (show (WTm.eq .res (.lit (.bool true))).value [] { args:=args,res:=some (.bool true),after:=args } = some (.bool (true == true)) from w_eq_bool (w_res rfl) w_lit) rfl
theorem B6 {l:OpenLaw} {n:Nat} {q:Program} {loose:List Str} {XP:(Str → Option Value) → Heap → Prop} {YP:World → Heap → Prop} {d:DefRec}
  (hn:l.most = some n) (hdf:d.params.defaults = [])
  (call:∀ (w:World) (s₀ s₁:Shared) (mg mb:Str → Option Value) (fa:Addr) (o:Obj) (pm cd doc:Value) (a:Addr) (vs:List Value) (ns:List Int),
   Ground q loose [] XP w s₀ mg mb s₁.heap → YP w s₁.heap →
   s₁.heap.get? fa = some o → o.data = .func (docDef d.name d.params d.body d.scope pm cd doc) → s₁.heap.CodeRec cd d.name → mg d.name = some (.ref fa) →
   s₁.heap.get? a = some { cls:=.type "list",data:=.seq vs.toArray } → IntsAre vs ns → ns.length ≤ n → s₁.gens = #[] →
   codeAny (model l.prog w) callerA (.call (.ref fa) ⟨[.ref a],[]⟩) (fun r s'=>r = .ok (.ret (.bool true)) ∧ OldK s₁.heap s'.heap ∧ s'.os = s₁.os ∧ AllBare s'.gens) s₁) :
  WalkO q loose XP YP l.row.toRowW d [] (fun f vs=>PySem.call f vs):=by
 intro w s₀ s₁ mg mb G Y fa o pm cd doc dV kV ho hd hcd hD hmg hg args vals as hpre hlay hrd hwl hlo
 obtain rfl:dV = .none:=Dflts.none hD hdf
 obtain rfl:kV = .none:=Dflts.noKw hD
 obtain ⟨a,vs,ns,rfl,rfl,hobj,hints,hlen⟩:=ET hn hpre hwl
 refine enter_call (codeAny_mono (call w s₀ s₁ mg mb fa o pm cd doc a vs ns G Y ho (fd_plain hd) hcd hmg hobj hints hlen hg) fun r s' hq=>?_)
 obtain ⟨rfl,h2,h3,h4⟩:=hq
 exact ⟨.inl ⟨.bool true,.bool true,[],rfl,fun _=>rfl,.bool true,Fb l _,fun _=>⟨List.Pairwise.nil,fun _ hm=>(nomatch hm)⟩⟩,h2,h3,h4⟩
end Att
namespace L2
open PySem PySem.Spec PyProof.Rows
theorem ze:∀ {vs:List Value} {ns:List Int},IntsAre vs ns → Vals (ns.map V.int) vs
 | _,_,.nil=>.nil
 | _,_,.cons n t h=>.cons ⟨t,rfl⟩ (ze h)
def Mx (H:Hp):Prop:=∀ b,H b = none ∨ ∃ o xs,H b = some (.frz o (.lst xs))
theorem FD {P:Program} {w:World} {K:PySem.W.Frag} {mg mb:Str → Option Value} {CX:CXT} {k:Nat} {fa a:Addr} {fd:FuncData} {x:Str} {sp:Sp} {s₁:Shared} {vs:List Value} {ns:List Int}
  (KX:K.In s₁.heap) (hns:s₁.heap.Ns mainGlobals mg) (hb:s₁.heap.Ns builtinsNs mb) (hbb:∀ x:Str,x ≠ "__name__" → mb x = bootBuiltins x) (hlim:s₁.heap.NoLimit) (hg:s₁.gens = #[])
  (ha:s₁.heap.get? a = some { cls:=.type "list",data:=.seq vs.toArray }) (hi:IntsAre vs ns) (hl:ns.length ≤ sizeLine) (hr:kH k callerA)
  (F:∀ base:Heap,K.In base → base.Ns mainGlobals mg → dw P w K mg base CX k fa fd [x] sp) (hbind:∀ (s:Shared) (u:Value),BindsTo s fd ⟨[u],[]⟩ [(x,u)])
  (hsp:∀ H:Hp,Mx H → SqL K H a (ns.map V.int) → sp [.ref a] H (fun v _=>v = .bl true) fun _ _ _=>False)
  (hCX:∀ H e s',CX [] H s₁ (fun _ _ _=>False) e s' → False) :
  codeAny (model P w) callerA (.call (.ref fa) ⟨[.ref a],[]⟩) (fun r s'=>r = .ok (.ret (.bool true)) ∧ OldK s₁.heap s'.heap ∧ s'.os = s₁.os ∧ AllBare s'.gens) s₁:=by
 have rv:=ze hi
 have lenV:=hi.length
 have core:∀ H:Hp,Mx H → SqL K H a (ns.map V.int) → HOk P w H s₁.heap → (∀ b,H b ≠ none → b = a) → (H a ≠ none → K.lookup a = none) →
   codeAny (model P w) callerA (.call (.ref fa) ⟨[.ref a],[]⟩) (fun r s'=>r = .ok (.ret (.bool true)) ∧ OldK s₁.heap s'.heap ∧ s'.os = s₁.os ∧ AllBare s'.gens) s₁:=by
  intro H hO hS hok hA hK
  have base_of:∀ {b:Addr} {o:Obj},s₁.heap.get? b = some o → H b = none → (AD s₁.heap H).get? b = some o:=fun e n=>G2 e n
  have noA:∀ {b:Addr} {o:Obj} {es:Array DictEntry} {ep:Nat},s₁.heap.get? b = some o → o.data = .dict es ep → H b = none:=fun {b o es ep} e d=>by
   cases q:H b with
   | none=>rfl
   | some u =>
    have e':b = a:=hA b (by rw [q]; simp)
    subst e'
    rw [ha] at e; cases e
    have d':Data.seq vs.toArray _ = Data.dict es ep:=d
    cases d'
  have nsK:∀ {b:Addr} {m:Str → Option Value},s₁.heap.Ns b m → (AD s₁.heap H).Ns b m:=fun {b m} ⟨o,es,ep,e,d,r⟩=>⟨o,es,ep,base_of e (noA e d),d,r⟩
  have hKb:K.In (AD s₁.heap H):=fun b o e=>base_of (KX b o e) (by
   cases q:H b with
   | none=>rfl
   | some u =>
    have e':b = a:=hA b (by rw [q]; simp)
    subst e'
    rw [hK (by rw [q]; simp)] at e; cases e)
  have hM:Mod K mg (AD s₁.heap H):=⟨hKb,nsK hns,⟨mb,nsK hb,hbb⟩,let ⟨mc,h1,h2⟩:=hlim; ⟨mc,nsK h1,h2⟩⟩
  have e0:HY P w K mg (AD s₁.heap H) callerA [] s₁ H:=⟨rfl,hM,fun b o e=>J2 e,Nat.le_of_eq (EU _ _),trivial,fun b hb=>absurd (show b ∈ ([]:List Addr) from hb) (by simp),hok,.of_eq hg⟩
  refine codeAny_mono ((F _ hKb (nsK hns)).run callerA [] s₁ H ⟨[.ref a],[]⟩ [.ref a] [.ref a] _ _ hr e0 (hbind s₁ (.ref a)) (.cons rfl .nil) (hsp H hO hS)) fun r s' h=>?_
  cases r with
  | error e=>exact (hCX H e s' h).elim
  | ok fl =>
   cases fl with
   | next=>exact False.elim h
   | brk=>exact False.elim h
   | cont=>exact False.elim h
   | ret u =>
    obtain ⟨v,H',os,bare,un,hok',r',q⟩:=h
    have q':v = .bl true:=q
    subst q'
    obtain rfl:u = Value.bool true:=r'
    refine ⟨rfl,OldK.of_keep fun b o e=>?_,os,bare⟩
    cases q:H b with
    | none=>exact un.keep b o e q (by intro z; exact absurd (show b ∈ ([]:List Addr) from z) (by simp)) (by simp)
    | some u =>
     rcases hO b with z | ⟨ob,xs,z⟩
     ·rw [q] at z; cases z
     ·have z2:=un.frzs b ob _ z
      obtain ⟨e1,_⟩:=hok b _ z
      obtain ⟨e2,_⟩:=hok' b _ z2
      rw [e] at e1; cases e1
      exact e2
 cases hk:K.lookup a with
 | some o =>
  have e:=KX a o hk
  rw [ha] at e
  cases e
  refine core (fun _=>none) (fun _=>.inl rfl) (.inr ⟨_,vs.toArray,_,hk,rfl,rfl,rfl,by rw [List.size_toArray,lenV]; exact hl,by simpa using rv⟩) (fun b u z=>by have z':(none:Option HO) = some u:=z; cases z') (fun b z=>absurd rfl z) fun z=>absurd rfl z
 | none =>
  refine core (fun b=>if b = a then some (.frz { cls:=.type "list",data:=.seq vs.toArray } (.lst (ns.map V.int))) else none) (fun b=>?_) (.inl (.inr ⟨{ cls:=.type "list",data:=.seq vs.toArray },if_pos rfl⟩)) (fun b u z=>?_) (fun b z=>?_) fun _=>hk
  ·by_cases hb:b = a
   ·exact .inr ⟨_,_,if_pos hb⟩
   ·exact .inl (if_neg hb)
  ·by_cases hb:b = a
   ·have z':=(if_pos hb).symm.trans z
    cases z'
    subst hb
    exact ⟨ha,by rw [List.length_map]; exact hl,vs,_,rv,ha⟩
   ·have z':=(if_neg hb).symm.trans z
    cases z'
  ·by_cases hb:b = a
   ·exact hb
   ·exact absurd (if_neg hb) z
end L2
namespace L2
open PySem PySem.Spec PyProof.Rows
def Ax (s:Stmt):Arguments:=match s with
 | .FunctionDef _ a _ _ _ _ _ _ _ _=>a
 | _=>{ posonlyargs:=[],args:=[],vararg:=none,kwonlyargs:=[],kw_defaults:=[],kwarg:=none,defaults:=[] }
def tH (s:Stmt):List Stmt:=match s with
 | .FunctionDef _ _ b _ _ _ _ _ _ _=>b
 | _=>[]
def aa (s:Stmt):Scope:=match s with
 | .FunctionDef _ _ _ _ _ _ sc _ _ _=>sc
 | _=>{ kind:=.function,names:=[],isGenerator:=false,isCoroutine:=false }
abbrev E0:XK:=fun _ _ _=>False
theorem aN {A:Around} {k:Nat} (hr:kH k A):A.units + 1 < cLine:=Nat.lt_of_le_of_lt (Nat.add_le_add_left (by decide:1 ≤ 64) _) hr.units
section
variable {X:Cx}
theorem pv (i:Nat) {x:Str} {pos:Pos} (hN:X.N[i]? = some x:=by rfl) (hv:Vis X.env.scope x:=by first | exact Or.inl rfl | exact Or.inr (Or.inl rfl) | exact Or.inr (Or.inr rfl)) (hd:NDb x:=by decide)
  (hcd:NCd x:=by decide):PE X (.Name x pos) (Ob i):=sJ hN hv hd hcd
end
def Pu (H H':Hp):Prop:=∀ b o,H b = some o → H' b = some o
end L2
set_option maxHeartbeats 4000000
namespace L2
open PySem PySem.Spec PyProof.Rows PySem.W
open PySem.Builtin.ObjectAttr (find dataDescriptor? getOf)
open PySem.Builtin.Getset_descriptor (descrGet descrGetter descrCheckInstance descrNameAndClass)
section
variable {prog:Program} {w:World} {A:Around} {E:Value → Shared → Prop} {h:Heap} {g:Array GenState} {d:Drawn} {t:Nat} {os:OsState} {K:Frag} {x C:Addr}
structure qG (K:Frag) (C:Addr):Prop where
 ga:findIn K (.ref C) "__getattribute__" = some (some (.builtin "BaseException.__getattribute__"))
 gt:findIn K (.ref C) "__getattr__" = some none
 cl:findIn K (.ref C) "__class__" = some (some (.builtin "object.__class__"))
 gg:specialIn K (.builtin "object.__class__") "__get__" = some (some (.builtin "getset_descriptor.__get__"))
 tk:takesIn K (.builtin "object.__class__") = some true
 ob:mroIn K C (.type "object") = some true
 be:mroIn K C (.type "BaseException") = some true
def ExcAt (a C:Addr) (h:Heap):Prop:=∃ oa,h.get? a = some oa ∧ oa.cls = .ref C
theorem ExcAt.type {M:Model} (I:ExcAt x C h):Looks M h (typeOf (.ref x)) (.ref C):=by
 obtain ⟨oa,e1,e2⟩:=I
 exact e2 ▸ (Looks.ld e1).andThen .now
theorem Mc {M:Model} {nameV:Value} {Q:Unit → Shared → Prop} (X:K.In h) (T:qG K C) (I:ExcAt x C h) (hq:Q () ⟨h,g,d,t,os⟩) :
  wpAny M A (checkBuiltinCall "BaseException.__getattribute__" ⟨[.ref x,nameV],[]⟩) Q E ⟨h,g,d,t,os⟩:=by
 have k1:builtinKind "BaseException.__getattribute__" = some .slot:=by decide +kernel
 have k2:splitId "BaseException.__getattribute__" = some ("BaseException", "__getattribute__"):=by decide +kernel
 have k3:=F.args_bexc_ga (.ref x) nameV
 have L2:Looks M h (isInstance (.ref x) (.type "BaseException")) true:=I.type.andThen (looks_mroIn (M:=M) X T.be)
 simp only [checkBuiltinCall,k1,k2]
 refine wpAny_bind (L2.at ?_)
 repeat (first | exact hq | wp_step)
theorem O0 {M:Model} (X:K.In h) (T:qG K C):Looks M h (find (.ref x) (.ref C) "__class__") (.bind (.builtin "getset_descriptor.__get__") (.builtin "object.__class__")):=by
 have l1:=looks_findIn (M:=M) X T.cl
 have l2:Looks M h (getOf (some (.builtin "object.__class__"))) (some (.builtin "getset_descriptor.__get__")):=looks_specialIn X T.gg
 have l3:Looks M h (dataDescriptor? (some (.builtin "object.__class__")) (some (.builtin "getset_descriptor.__get__"))) (some (.builtin "getset_descriptor.__get__",.builtin "object.__class__")):=(looks_takesIn (M:=M) X T.tk).andThen .now
 exact l1.andThen (l2.andThen (l3.andThen (Looks.tag .now)))
theorem PU {tp:Value} {R:Result → Shared → Prop} (X:K.In h) (T:qG K C) (I:ExcAt x C h) (q:R (.ok (.ret (.ref C))) ⟨h,g,d,t,os⟩) :
  codeAny (model prog w) A (.call (.builtin "getset_descriptor.__get__") ⟨[.builtin "object.__class__",.ref x,tp],[]⟩) R ⟨h,g,d,t,os⟩:=by
 have l0:=I.type (M:=model prog w)
 have l1:=looks_mroIn (M:=model prog w) X T.ob
 refine codeAny_call_builtin (KF.slot_gs).plain (KF.entry_gs) ((KF.slot_gs).check _ _ _ _ _ _ _ _ (KF.type_class) (KF.args_gs _ _ _) ?_)
 unfold Builtin.«getset_descriptor.__get__»
 unfold descrGet
 rw [dga_obj _ tp x]
 refine wpAny_bind (wpAny_pure ?_)
 unfold descrGetter descrCheckInstance
 unfold descrNameAndClass isInstance
 simp only [KF.owner_class,id]
 repeat (first | lk)
 refine ⟨Code.quiet_builtin _ (by decide +kernel),codeAny_builtin (KF.entry_class) ?_⟩
 unfold Builtin.«object.__class__»
 unfold shownTypeOf
 repeat (first | lk)
 exact q
theorem MK {tk:Tok} {Q:Fin → Shared → Prop} (X:K.In h) (T:qG K C) (I:ExcAt x C h) (hq:Q (.done (.ret (.ref C))) ⟨h,g,d,t,os⟩) :
  wpAny (model prog w) A (Builtin.«object.__getattribute__» ⟨[.ref x,.str "__class__" tk],[]⟩) Q E ⟨h,g,d,t,os⟩:=by
 have L0:=I.type (M:=model prog w)
 have L1:=O0 (x:=x) (M:=model prog w) X T
 unfold Builtin.«object.__getattribute__»
 refine wpAny_bind (wpAny_pure ?_)
 refine wpAny_bind (wpAny_pure ?_)
 refine wpAny_bind (L0.at ?_)
 refine wpAny_bind (L1.at ?_)
 unfold Builtin.ObjectAttr.bindTo
 refine wpAny_bind (wpAny_call ?_)
 refine PU X T I ?_
 exact wpAny_pure hq
theorem O9 {tk:Tok} {R:Result → Shared → Prop} (X:K.In h) (T:qG K C) (I:ExcAt x C h) (hq:R (.ok (.ret (.ref C))) ⟨h,g,d,t,os⟩) :
  codeAny (model prog w) A (.call (.builtin "BaseException.__getattribute__") ⟨[.ref x,.str "__class__" tk],[]⟩) R ⟨h,g,d,t,os⟩ :=
 codeAny_call_builtin F.excAttr_ValueError.ga.plain F.entry_bexc_ga (Mc X T I (MK X T I hq))
theorem xby {tk:Tok} {Q:Value → Shared → Prop} (X:K.In h) (T:qG K C) (I:ExcAt x C h) (hq:Q (.ref C) ⟨h,g,d,t,os⟩) :
  wpAny (model prog w) A (getAttrBy (.ref x) (.str "__class__" tk) false) Q E ⟨h,g,d,t,os⟩:=by
 have f3:=F.excAttr_ValueError.ga.bind (.ref x)
 have z2:(Value.builtin "BaseException.__getattribute__" == Value.builtin "object.__getattribute__") = false:=by decide +kernel
 have z1:(onTheHeap (Value.ref C) && Value.builtin "BaseException.__getattribute__" == Value.builtin "object.__getattribute__") = false:=by rw [z2]; rfl
 have L0:=I.type (M:=model prog w)
 have L1:=looks_findIn (M:=model prog w) X T.ga
 have L2:=looks_findIn (M:=model prog w) X T.gt
 unfold getAttrBy
 refine wpAny_holding (wpAny_bind (L0.at (wpAny_bind (L1.at ?_))))
 dsimp only
 rw [if_neg (by rw [z1]; exact Bool.false_ne_true)]
 unfold getAttrByItsOwn hookBefore
 repeat (any_goals (first | assumption | with_reducible refine wpAny_bind (L2.at ?_) | with_reducible refine wpAny_bind (L1.at ?_) | wp_step))
 refine O9 X T I ?_
 repeat (any_goals (first | assumption | wp_step))
theorem ON {Q:Option Value → Shared → Prop} (X:K.In h) (T:qG K C) (I:ExcAt x C h) (hq:Q (some (.ref C)) ⟨h,g,d,t + 1,os⟩) :
  wpAny (model prog w) A (getAttr? (.ref x) "__class__") Q E ⟨h,g,d,t,os⟩:=by
 unfold getAttr? getAttrBy?
 repeat (any_goals (first | assumption | with_reducible apply xby X T I | wp_step))
end
theorem qG.there {K:Frag} {C:Addr} (T:qG K C):∃ oc od cd sl,K.lookup C = some ⟨oc,od,.cls cd,sl⟩:=by
 have q:=T.ob
 unfold mroIn clsIn at q
 split at q
 ·rename_i a b c e f
  exact ⟨a,b,c,e,f⟩
 ·cases q
theorem Gs {K:Frag} {a C:Addr} (T:qG K C):KitX K (.ref a) (.ref C) (ExcAt a C) where
 ty:=fun _ _ _ I=>I.type
 it:=fun _ _ X _=>by
  obtain ⟨_,_,_,_,lk⟩:=T.there
  intro A1 Q1 E1 s1 k1 q1
  unfold isType loadHead
  exact wpAny_bind (wpAny_loadPart (k1 _ _ (X _ _ lk)) (wpAny_pure q1))
 ne:=fun h tp dd its n sl X htp=>by
  obtain ⟨_,_,_,_,lk⟩:=T.there
  refine Bool.eq_false_iff.mpr fun q=>?_
  cases Value.ref.inj (beq_iff_eq.mp q)
  cases (X _ _ lk).symm.trans htp
 ca:=fun {_ _ _ _ _ s} X I k=>by
  obtain ⟨h,g,d,t,os⟩:=s
  exact ON X T I k
end L2
namespace L2
open PySem PySem.Spec PyProof.Rows
abbrev D3:List Value:=[.type "ValueError",.type "Exception",.type "BaseException",.type "object"]
theorem Jx {K:PySem.W.Frag} {h:Heap} {C:Addr} {bmB:List Value} {newId:String} (X:K.In h) (q:PySem.W.excIn K C bmB newId = true) :
  ∃ bm N nm qn bs hdct sn sub ab col dd k0 k1 k2 k3 k5 mN,h.get? C = some (excClassObj nm qn C N bs bm hdct sn sub ab col dd k0 k1 k2 k3 k5 newId) ∧ h.Ns N mN ∧ mN "__init__" = none ∧ OwnTail h bmB bm:=by
 unfold PySem.W.excIn at q
 split at q
 case h_2=>cases q
 rename_i dd cd sl lk
 split at q
 case h_2=>cases q
 rename_i C1 bm k0 k1 k2 k3 n k5 em es
 rw [Bool.and_eq_true,Bool.and_eq_true,Bool.and_eq_true,Bool.and_eq_true,Bool.and_eq_true,beq_iff_eq,beq_iff_eq,beq_iff_eq,Bool.not_eq_true'] at q
 obtain ⟨⟨⟨⟨⟨rfl,rfl⟩,nd⟩,tl⟩,ok⟩,ni⟩:=q
 obtain ⟨nm,bs,mro,ns,qn,hd,sn,sub,ab,col,del⟩:=cd
 have em:mro = .ref C1 :: bm:=em
 have nd:del = false:=nd
 subst em nd
 have esl:sl = #[k0,k1,k2,k3,some (.builtin n),k5]:=by
  obtain ⟨l⟩:=sl
  have es:l = [k0,k1,k2,k3,some (.builtin n),k5]:=es
  rw [es]
 subst esl
 exact ⟨bm,ns,nm,qn,bs,hd,sn,sub,ab,col,dd,k0,k1,k2,k3,k5,_,X _ _ lk,.of_isNs (PySem.W.isNs_of_in X ok),PySem.W.nsMap_none_of_in X ok ni,PySem.W.tail_of_in X tl⟩
theorem cN.is {P:Program} {w:World} {H:Hp} {h:Heap} {a:Addr} {o:HO} (x:cN P w H h a o):∃ ob,h.get? a = some ob:=by
 cases o with
 | lst xs=>obtain ⟨_,_,_,_,e⟩:=x; exact ⟨_,e⟩
 | tup xs=>obtain ⟨_,_,_,ob,e,_⟩:=x; exact ⟨_,e⟩
 | dK kvs=>obtain ⟨_,_,_,_,ob,_,_,e,_⟩:=x; exact ⟨_,e⟩
 | dT kvs=>obtain ⟨_,_,_,_,ob,_,_,e,_⟩:=x; exact ⟨_,e⟩
 | set S n=>obtain ⟨ob,_,_,_,e,_⟩:=x; exact ⟨_,e⟩
 | ins C dx fs=>obtain ⟨_,_,_,e,_⟩:=x; exact ⟨_,e⟩
 | own y=>obtain ⟨_,e⟩:=x; exact ⟨_,e⟩
 | xd fs=>obtain ⟨_,⟨_,_,_,e,_⟩,_⟩:=x; exact ⟨_,e⟩
 | rng lo hi=>obtain ⟨_,_,_,e⟩:=x; exact ⟨_,e⟩
 | frz ob u=>obtain ⟨e,_⟩:=x; exact ⟨_,e⟩
 | tbl ps=>exact ⟨_,x⟩
 | met f y=>exact ⟨_,x⟩
 | ext φ=>obtain ⟨_,⟨_,e⟩,_⟩:=x; exact ⟨_,e⟩
theorem cN.Ef {P:Program} {w:World} {H:Hp} {h:Heap} {a:Addr} {o:HO} {A:Prop} (x:cN P w H h a o) (g:h.get? a = none):A:=by
 obtain ⟨ob,e⟩:=x.is
 rw [g] at e; cases e
structure Fly (P:Program) (w:World) (outer:List Env) (H:Hp) (s:Shared) (a C:Addr) (H':Hp) (s':Shared):Prop where
 os:s'.os = s.os
 bare:AllBare s'.gens
 un:Un (frs outer) [] H H' s.heap s'.heap
 hok:HOk P w H' s'.heap
 new:s.heap.get? a = none
 free:H' a = none
 fl:∃ (base:Heap) (a0:Value),Heap.FlyingW base outer a (.ref C) a0 s'.heap ∧
  ∀ b o,s'.heap.get? b = some o → (H' b ≠ none ∨ ((∃ ob,s.heap.get? b = some ob) ∧ b ∉ frs outer)) → base.get? b = some o
def CXE (P:Program) (w:World):CXT:=fun outer H s E ev s'=>∃ (a C:Addr) (H':Hp),ev = .ref a ∧ Fly P w outer H s a C H' s' ∧ E (.ref C) none H'
section
variable {P:Program} {w:World} {outer:List Env} {H H':Hp} {s s':Shared} {a C:Addr}
theorem xi {h h' base:Heap} (x:HOk P w H h) (hb:∀ b o,h.get? b = some o → H b ≠ none → base.get? b = some o) (st:base.StaysIn h'):HOk P w H h':=fun b u e=>by
 refine (x b u e).vU (fun c v hc q=>st c v (hb c v q ?_)) (fun _ q=>q) fun _ _ q=>q
 rcases hc with z | z
 ·rw [z,e]; intro k; cases k
 ·rw [z]; intro k; cases k
theorem AH {l:List Env} {h base:Heap} (f:h.FunFrames base l) {b:Addr} (hb:b ∈ frs l):base.get? b = none ∧ ∃ o,h.get? b = some o ∧ ∀ vs,o.data ≠ .fields vs:=f.mem hb
theorem E5 {M:Model} {A:Around} {E:Value → Shared → Prop} {Q:Unit → Shared → Prop} {env:Env} {L:Addr} {Hc:Hp} {sc:Shared}
  (hA:A.frames = some (env :: outer)) (hf:env.frame = some L) (hL:s.heap.get? L = none) (fF:∀ b ∈ frs outer,H b = none) (fT:∀ b ∈ frs outer,∃ o,s.heap.get? b = some o)
  (u:Un (frs outer) [] H Hc s.heap sc.heap) (ho:sc.os = s.os) (x:Fly P w (env :: outer) Hc sc a C H' s')
  (q:∀ s'',Fly P w outer H s a C H' s'' → Q () s''):wpAny M A (leaving env (.ref a)) Q E s':=by
 obtain ⟨base,a0,fl,hb⟩:=x.fl
 have ef:frs (env :: outer) = L :: frs outer:=by unfold frs; rw [List.filterMap_cons,hf]
 refine wpAny_leaves_onW hA hf fl fun h' fl' up=>q _ ?_
 have old:∀ b ob,s.heap.get? b = some ob → b ≠ L:=fun b ob e z=>by rw [z,hL] at e; cases e
 have inb:∀ b ob o,s.heap.get? b = some ob → b ∉ frs outer → s'.heap.get? b = some o → base.get? b = some o:=fun b ob o e n e'=>by
  obtain ⟨oc,ec⟩:=u.there b ob e (fun z=>nomatch z)
  refine hb b o e' (.inr ⟨⟨oc,ec⟩,?_⟩)
  rw [ef]
  exact fun z=>(List.mem_cons.mp z).elim (old b ob e) n
 have fdata:∀ b o,b ∈ frs outer → s'.heap.get? b = some o → ∀ vs,o.data ≠ .fields vs:=fun b o m e=>by
  obtain ⟨_,o2,e2,nf⟩:=AH fl.2.2.1 (show b ∈ frs (env :: outer) by rw [ef]; exact List.mem_cons_of_mem _ m)
  rw [e2] at e; cases e; exact nf
 refine ⟨x.os.trans ho,x.bare,⟨fun b o e n nb nx=>?_,fun b o e n mb nx=>?_,fun b o e n nx=>?_,fun b o e nx=>?_,fun b xs e=>x.un.tups b xs (u.tups b xs e),fun b o v e=>x.un.frzs b o v (u.frzs b o v e),fun b ps e=>?_⟩,xi x.hok (fun b o e n=>hb b o e (.inl n)) fl'.1,?_,x.free,base,a0,fl',fun b o e r=>?_⟩
 ·have e1:=x.un.keep b o (u.keep b o e n nb nx) (u.free b o e n nx) (by rw [ef]; exact fun z=>(List.mem_cons.mp z).elim (old b o e) nb) nx
  exact fl'.1 b o (inb b o o e nb e1)
 ·obtain ⟨sl,e1⟩:=u.slot b o e n mb nx
  obtain ⟨sl2,e2⟩:=x.un.slot b _ e1 (u.free b o e n nx) (by rw [ef]; exact List.mem_cons_of_mem _ mb) nx
  obtain ⟨sl3,e3⟩:=up b _ e2 (fdata b _ mb e2)
  exact ⟨sl3,e3⟩
 ·obtain ⟨oc,ec⟩:=u.there b o e nx
  exact x.un.free b oc ec (u.free b o e n nx) nx
 ·obtain ⟨oc,ec⟩:=u.there b o e nx
  obtain ⟨o2,e2⟩:=x.un.there b oc ec nx
  by_cases mb:b ∈ frs outer
  ·obtain ⟨sl,e3⟩:=up b o2 e2 (fdata b o2 mb e2)
   exact ⟨_,e3⟩
  ·exact ⟨o2,fl'.1 b o2 (inb b o o2 e mb e2)⟩
 ·obtain ⟨m1,e1⟩:=u.tbls b ps e
  obtain ⟨m2,e2⟩:=x.un.tbls b _ e1
  exact ⟨m1 ++ m2,by rw [e2,Array.append_assoc]⟩
 ·cases z:s.heap.get? a with
  | none=>rfl
  | some oa =>
   obtain ⟨o1,e1⟩:=u.there a oa z (fun z=>nomatch z)
   rw [x.new] at e1; cases e1
 ·have e:h'.get? b = some o:=e
  have key:∀ o2,s'.heap.get? b = some o2 → base.get? b = some o2 → base.get? b = some o:=fun o2 e2 e3=>by
   have:=fl'.1 b o2 e3
   rw [e] at this; cases this; exact e3
  rcases r with r | ⟨⟨ob,eb⟩,nb⟩
  ·cases z:H' b with
   | none=>exact absurd z r
   | some v =>
    have lt:=x.hok.lt z
    obtain ⟨o2,e2⟩:∃ o2,s'.heap.get? b = some o2:=by
     cases g:s'.heap.get? b with
     | some o2=>exact ⟨o2,rfl⟩
     | none=>exact (x.hok b v z).Ef g
    exact key o2 e2 (hb b o2 e2 (.inl r))
  ·obtain ⟨oc,ec⟩:=u.there b ob eb (fun z=>nomatch z)
   obtain ⟨o2,e2⟩:=x.un.there b oc ec (fun z=>nomatch z)
   exact key o2 e2 (inb b ob o2 eb nb e2)
theorem Gd {M:Model} {A:Around} {E:Value → Shared → Prop} {Q:Unit → Shared → Prop} {env:Env} {L:Addr} {Hc:Hp} {sc:Shared} {h1 base0:Heap} {vs:List Value}
  (hA:A.frames = some (env :: outer)) (hf:env.frame = some L) (hL:s.heap.get? L = none) (u:Un (frs outer) [] H Hc s.heap sc.heap) (ho:sc.os = s.os) (bare:AllBare sc.gens) (hok:HOk P w Hc sc.heap)
  (fr:sc.heap.FunFrames base0 (env :: outer)) (fU:∀ b ∈ frs (env :: outer),Hc b = none) (hx:Heap.MadeExcOf sc.heap h1 a (.ref C) vs)
  (q:∀ s'',Fly P w outer H s a C Hc s'' → Q () s''):wpAny M A (leaving env (.ref a)) Q E { sc with heap:=h1 }:=by
 have ef:frs (env :: outer) = L :: frs outer:=by unfold frs; rw [List.filterMap_cons,hf]
 have old:∀ b ob,s.heap.get? b = some ob → b ≠ L:=fun b ob e z=>by rw [z,hL] at e; cases e
 have inb:∀ b o,sc.heap.get? b = some o → b ∉ frs (env :: outer) → (PySem.W.hideAll sc.heap (frs (env :: outer))).get? b = some o:=fun b o e n=>PySem.W.hideAll_get _ e n
 have trk:∀ b,Hc b ≠ none → b ∉ frs (env :: outer):=fun b n m=>n (fU b m)
 have fdata:∀ b o,b ∈ frs (env :: outer) → sc.heap.get? b = some o → ∀ vs,o.data ≠ .fields vs:=fun b o m e=>by
  obtain ⟨_,o2,e2,nf⟩:=AH fr m
  rw [e2] at e; cases e; exact nf
 refine wpAny_leaves_madeW (base:=PySem.W.hideAll sc.heap (frs (env :: outer))) hA hf (fun b o z=>PySem.W.of_hideAll _ z) (PySem.W.funFrames_hide fr fun en he b hb=>List.mem_filterMap.mpr ⟨en,he,hb⟩) hx fun h' t fl _ _ up=>q _ ?_
 have notin:∀ b ob,s.heap.get? b = some ob → b ∉ frs outer → b ∉ frs (env :: outer):=fun b ob e n=>by rw [ef]; exact fun z=>(List.mem_cons.mp z).elim (old b ob e) n
 refine ⟨ho,bare,⟨fun b o e n nb nx=>?_,fun b o e n mb nx=>?_,fun b o e n nx=>u.free b o e n nx,fun b o e nx=>?_,u.tups,u.frzs,u.tbls⟩,xi hok (fun b o e n=>inb b o e (trk b n)) fl.1,?_,?_,_,_,fl,fun b o e r=>?_⟩
 ·exact fl.1 b o (inb b o (u.keep b o e n nb nx) (notin b o e nb))
 ·obtain ⟨sl,e1⟩:=u.slot b o e n mb nx
  obtain ⟨sl3,e3⟩:=up b _ (hx.keeps _ _ e1) (fdata b _ (by rw [ef]; exact List.mem_cons_of_mem _ mb) e1)
  exact ⟨sl3,e3⟩
 ·obtain ⟨o2,e2⟩:=u.there b o e nx
  by_cases mb:b ∈ frs (env :: outer)
  ·obtain ⟨sl,e3⟩:=up b o2 (hx.keeps _ _ e2) (fdata b o2 mb e2)
   exact ⟨_,e3⟩
  ·exact ⟨o2,fl.1 b o2 (inb b o2 e2 mb)⟩
 ·cases z:s.heap.get? a with
  | none=>rfl
  | some oa =>
   obtain ⟨o1,e1⟩:=u.there a oa z (fun z=>nomatch z)
   rw [hx.new] at e1; cases e1
 ·cases z:Hc a with
  | none=>rfl
  | some v=>exact (hok a v z).Ef hx.new
 ·have e:h'.get? b = some o:=e
  have key:∀ o2,sc.heap.get? b = some o2 → b ∉ frs (env :: outer) → (PySem.W.hideAll sc.heap (frs (env :: outer))).get? b = some o:=fun o2 e2 n=>by
   have e3:=inb b o2 e2 n
   have:=fl.1 b o2 e3
   rw [e] at this; cases this; exact e3
  rcases r with r | ⟨⟨ob,eb⟩,nb⟩
  ·cases z:Hc b with
   | none=>exact absurd z r
   | some v =>
    obtain ⟨o2,e2⟩:=(hok b v z).is
    exact key o2 e2 (trk b r)
  ·obtain ⟨o2,e2⟩:=u.there b ob eb (fun z=>nomatch z)
   exact key o2 e2 (notin b ob eb nb)
end
structure Xc (X:Cx) (E:XK):Prop where
 pass:Passes (CXE X.prog X.w) X E
 made:∀ (pins:List (Addr × Obj)) (σ:St) (H:Hp) (s:Shared) (h':Heap) (e C:Addr) (vs:List Value),Inv X pins σ H s → Heap.MadeExcOf s.heap h' e (.ref C) vs → E (.ref C) none H → X.xe (.ref e) { s with heap:=h' }
theorem Inv.F1 {X:Cx} {pins:List (Addr × Obj)} {σ:St} {H:Hp} {s:Shared} (I:Inv X pins σ H s):X.s₀.heap.get? X.env.locals = none:=Heap.get?_none_of_le I.ok.above
theorem aV {P:Program} {w:World} {K:PySem.W.Frag} {mg:Str → Option Value} {base:Heap} {N:List Str} {qual:Str} {scope:Scope} {f:Addr} {cd:Value} {A:Around} {outer:List Env} {s:Shared} {H:Hp} {E:XK} :
  Xc (Bx (CXE P w) P w K mg base N qual scope f cd A outer s H E) E:=by
 refine ⟨fun pins σ Hc sc e s' I x=>?_,fun pins σ Hc sc h' e C vs I hx q=>?_⟩
 ·obtain ⟨a,C,H',rfl,fl,q⟩:=x
  exact E5 (L:=(envOfC qual scope s.heap.objs.size f cd).locals) I.ok.frames rfl I.F1 I.ok.frf (fun b hb=>let ⟨_,o,ho,_⟩:=I.ok.vB.mem hb; ⟨o,ho⟩) I.base I.os fl fun s'' fl'=>⟨a,C,H',rfl,fl',q⟩
 ·exact Gd (L:=(envOfC qual scope s.heap.objs.size f cd).locals) I.ok.frames rfl I.F1 I.base I.os I.bare I.hok I.stack I.zH hx fun s'' fl'=>⟨e,C,Hc,rfl,fl',q⟩
def Lq (C:Addr) (E:XK) (t:TA):TS:=fun _ σ H=>t σ H fun vs H1=>vs.length ≤ sizeLine ∧ E (.ref C) none H1
theorem Hu {X:Cx} {E:XK} {x:Str} {C:Addr} {e:Expr} {es:List Expr} {t:TA} {np cpos pos:Pos} (xc:Xc X E) (hc:X.calm = true) (hg:Gl X x) (hm:X.mg x = some (.ref C)) (hex:PySem.W.excIn X.K C D3 "ValueError.__new__" = true)
  (ha:PA X (e :: es) t) (hd:NDb x:=by decide) (he:starEach (e :: es) X.env = (false,eval e X.env) :: starEach es X.env:=by rfl) (hpl:(backTo cpos (starEach es X.env)).any (·.1) = false:=by rfl) :
  PS X (.Raise (some (.Call (.Name x np) (e :: es) [] cpos)) none pos) (Lq C E t):=by
 intro pins s σ H D I h
 obtain ⟨tl,N,nm,q,bs,hdct,sn,sub,ab,col,dd,k0,k1,k2,k3,k5,mN,hC,hN,hni,T⟩:=Jx I.ok.mod.kin hex
 refine wpAny_Raise_call_subT (nm:=nm) (q:=q) (N:=N) (bs:=bs) (hdct:=hdct) (sn:=sn) (sub:=sub) (ab:=ab) (col:=col) (dd:=dd) (k0:=k0) (k1:=k1) (k2:=k2) (k3:=k3) (k5:=k5) (bm:=tl) (mN:=mN) F.excBase_ValueError (T.hasType F.excBase_ValueError.hasBase) (I.ok.hd hc) (by rw [he]; show (false || (backTo cpos (starEach es X.env)).any (·.1)) = false; rw [hpl]; rfl) hni (sX I hg hm ⟨rfl,?_⟩ hd)
 have h1:=ha cpos pins s σ H _ I h
 rw [he] at h1 ⊢
 refine Calls.evalArgs_plain (wpAny_mono h1 (fun us s2 h2=>?_) fun _ _ y=>y)
 obtain ⟨vs,H2,I2,r2,hl,q2⟩:=h2
 exact ⟨rfl,by rw [← r2.length]; exact hl,I2.bk _ _ hC,hN.keeps I2.bk,T.keeps I2.bk,fun h' ex hx=>xc.made pins σ H2 s2 h' ex C us I2 hx q2⟩
end L2
namespace L2
open PySem PySem.Spec PyProof.Rows
theorem Bn {P:Program} {w:World} {l:List Env} {Hc H':Hp} {sc s':Shared} {a C:Addr} {base h':Heap} {a0:Value} (x:Fly P w l Hc sc a C H' s') (fl:Heap.FlyingW base l a (.ref C) a0 s'.heap)
  (hb:∀ b o,s'.heap.get? b = some o → (H' b ≠ none ∨ ((∃ ob,sc.heap.get? b = some ob) ∧ b ∉ frs l)) → base.get? b = some o)
  (fl':Heap.FlyingW base l a (.ref C) a0 h') (up:s'.heap.UpToSlots h'):Fly P w l Hc sc a C H' { s' with heap:=h' }:=by
 have fdata:∀ b o,b ∈ frs l → s'.heap.get? b = some o → ∀ vs,o.data ≠ .fields vs:=fun b o m e=>by
  obtain ⟨_,o2,e2,nf⟩:=AH fl.2.2.1 m
  rw [e2] at e; cases e; exact nf
 refine ⟨x.os,x.bare,⟨fun b o e n nb nx=>?_,fun b o e n mb nx=>?_,x.un.free,fun b o e nx=>?_,x.un.tups,x.un.frzs,x.un.tbls⟩,xi x.hok (fun b o e n=>hb b o e (.inl n)) fl'.1,x.new,x.free,base,a0,fl',fun b o e r=>?_⟩
 ·exact fl'.1 b o (hb b o (x.un.keep b o e n nb nx) (.inr ⟨⟨o,e⟩,nb⟩))
 ·obtain ⟨sl2,e2⟩:=x.un.slot b o e n mb nx
  obtain ⟨sl3,e3⟩:=up b _ e2 (fdata b _ mb e2)
  exact ⟨sl3,e3⟩
 ·obtain ⟨o2,e2⟩:=x.un.there b o e nx
  by_cases mb:b ∈ frs l
  ·obtain ⟨sl,e3⟩:=up b o2 e2 (fdata b o2 mb e2)
   exact ⟨_,e3⟩
  ·exact ⟨o2,fl'.1 b o2 (hb b o2 e2 (.inr ⟨⟨o,e⟩,mb⟩))⟩
 ·have e:h'.get? b = some o:=e
  have key:∀ o2,base.get? b = some o2 → base.get? b = some o:=fun o2 e3=>by
   have:=fl'.1 b o2 e3
   rw [e] at this; cases this; exact e3
  rcases id r with q | ⟨⟨ob,eb⟩,nb⟩
  ·cases z:H' b with
   | none=>exact absurd z q
   | some v =>
    obtain ⟨o2,e2⟩:=(x.hok b v z).is
    exact key o2 (hb b o2 e2 r)
  ·obtain ⟨o2,e2⟩:=x.un.there b ob eb (fun z=>nomatch z)
   exact key o2 (hb b o2 e2 r)
theorem Fly.at {P:Program} {w:World} {l:List Env} {Hc H':Hp} {sc s':Shared} {a C:Addr} (x:Fly P w l Hc sc a C H' s'):ExcAt a C s'.heap:=by
 obtain ⟨base,a0,fl,_⟩:=x.fl
 exact fl.there
abbrev XS:=Value → St → Hp → Prop
def XP (X:Cx) (pins:List (Addr × Obj)) (E:XS) (ev:Value) (s':Shared):Prop :=
 ∃ (a C:Addr) (σ:St) (Hc:Hp) (sc:Shared) (H':Hp),ev = .ref a ∧ Inv X pins σ Hc sc ∧ Fly X.prog X.w X.stack Hc sc a C H' s' ∧ E (.ref C) σ H'
def PXE (X:Cx) (e:Expr) (t:St → Hp → VK → XK → Prop):Prop :=
 ∀ (pins:List (Addr × Obj)) (s:Shared) (σ:St) (H:Hp) (Q:VK) (E:XK),Inv X pins σ H s → t σ H Q E →
  wpAny (model X.prog X.w) X.A (eval e X.env) (EP X pins σ Q) (XP X pins fun c σ' H'=>σ' = σ ∧ E c none H') s
abbrev TX:=Ends → XS → St → Hp → Prop
def PX (X:Cx) (st:Stmt) (t:TX):Prop :=
 ∀ (pins:List (Addr × Obj)) (s:Shared) (σ:St) (H:Hp) (D:Ends) (E:XS),Inv X pins σ H s → t D E σ H → wpAny (model X.prog X.w) X.A (exec st X.env) (SP X pins D) (XP X pins E) s
def PXs (X:Cx) (st:List Stmt) (t:TX):Prop :=
 ∀ (pins:List (Addr × Obj)) (s:Shared) (σ:St) (H:Hp) (D:Ends) (E:XS),Inv X pins σ H s → t D E σ H → wpAny (model X.prog X.w) X.A (execs st X.env) (SP X pins D) (XP X pins E) s
section
variable {X:Cx}
theorem XP.mono {pins:List (Addr × Obj)} {E E':XS} {ev:Value} {s':Shared} (h:XP X pins E ev s') (k:∀ c σ H,E c σ H → E' c σ H):XP X pins E' ev s':=by
 obtain ⟨a,C,σ,Hc,sc,H',e1,e2,e3,e4⟩:=h
 exact ⟨a,C,σ,Hc,sc,H',e1,e2,e3,k _ _ _ e4⟩
variable {k:Nat} {f C:Addr} {fd:FuncData} {ps:List Str} {sp:Sp} {dvs:List V} {ds:List Value} {x m:Str} {p pos apos:Pos} {e o:Expr} {es:List Expr} {ta:TE} {t:TA}
theorem IJ {pins:List (Addr × Obj)} {σ:St} {H:Hp} {s:Shared} {Q:VK} {E:XK} {us:List Value} {vs:List V} (F:dw X.prog X.w X.K X.mg X.base (CXE X.prog X.w) k f fd ps sp) (hr:kH k X.A) (hb:Binds X.K fd ps ds) (hd:Vals dvs ds)
  (I:Inv X pins σ H s) (r:Vals vs us) (h:sp (vs ++ dvs) H Q E):wpAny (model X.prog X.w) X.A (call (.ref f) us) (EP X pins σ Q) (XP X pins fun c σ' H'=>σ' = σ ∧ E c none H') s:=by
 have r2:Vals (vs ++ dvs) (us ++ ds):=r.append hd
 have hl:(us ++ ds).length = ps.length:=by rw [← r2.length]; exact F.len _ _ _ _ h
 refine wpAny_call (codeAny_mono (F.run X.A X.stack s H ⟨us,[]⟩ (us ++ ds) (vs ++ dvs) Q E hr I.OD (hb s us I.kIn hl) r2 h) fun res s' hq=>?_)
 cases res with
 | error ev =>
  obtain ⟨a,C,H',rfl,fl,q⟩:=hq
  exact ⟨a,C,σ,H,s,H',rfl,I,fl,rfl,q⟩
 | ok fl =>
  cases fl with
  | ret u=>exact I.after hq
  | _=>exact False.elim hq
def K8 (sp:Sp) (dvs:List V) (t:TA):St → Hp → VK → XK → Prop:=fun σ H Q E=>t σ H fun vs H1=>sp (vs ++ dvs) H1 Q E
theorem GY (F:dw X.prog X.w X.K X.mg X.base (CXE X.prog X.w) k f fd ps sp) (hr:kH k X.A) (hg:Gl X x) (hm:X.mg x = some (.ref f)) (hk:PySem.W.keepIn X.K (.ref f) = true) (hb:Binds X.K fd ps ds) (hd:Vals dvs ds)
  (ha:PA X.nox (e :: es) t) (hdb:NDb x:=by decide) (he:starEach (e :: es) X.env = (false,eval e X.env) :: starEach es X.env:=by rfl) (hpl:(backTo pos (starEach es X.env)).any (·.1) = false:=by rfl) :
  PXE X (.Call (.Name x p) (e :: es) [] pos) (K8 sp dvs t):=by
 intro pins s σ H Q E I h
 refine wpAny_Call_Name_kw (sX I hg hm ?_ hdb)
 refine PySem.W.callWith_K (h₀:=X.base) I.ok.mod.kin hk (wpAny_mono (ha pos pins s σ H _ (I.zV _) h) (fun us s1 z=>?_) (fun _ _ z=>z.elim)) he hpl
 obtain ⟨vs,H1,I1,r,q⟩:=z
 exact ⟨I1.A7.kIn,IJ F hr hb hd I1.A7 r q⟩
theorem LZ {i:Nat} {pos':Pos} {t:St → Hp → VK → XK → Prop} (hN:X.N.Nodup) (hi:X.N[i]? = some x) (hx:Loc X.env.scope x) (he:PXE X e t) (hs:swapsWith e (some (.Name x pos')) pos.line X.env = pure false:=by rfl)
  (hf:X.fn x = true ∨ X.env.scope.names.lookup x = some .local:=by first | exact .inl rfl | exact .inr rfl | assumption) :
  PX X (.Assign [.Name x pos'] e pos) (fun D E σ H=>t σ H (fun v H1=>D.nx (σ.set i (some v)) H1) (fun c _ H1=>E c σ H1)):=by
 intro pins s σ H D E I h
 refine wpAny_Assign_Name (wpAny_mono (he pins s σ H _ _ I h) (fun u s1 z=>?_) fun ev s1 z=>z.mono fun c σ' H' q=>?_) hs
 ·obtain ⟨v,H',I',r,q⟩:=z
  exact m4 I' hN hi hx r (fun s2 I2=>⟨_,H',I2,q⟩) hf
 ·obtain ⟨rfl,q⟩:=q
  exact q
theorem HM {st:Stmt} {t:TX} (h:PX X st t):PXs X [st] t:=by
 intro pins s σ H D E I q
 refine wpAny_execs_cons (wpAny_mono (h pins s σ H D E I q) (fun fl s1 z=>?_) fun _ _ z=>z)
 cases fl with
 | next=>exact wpAny_execs_nil z
 | _=>exact z
abbrev Cx.marked (X:Cx) (a:Addr):Cx:={ X with A:=X.A.mark (some (.ref a)),calm:=false,xe:=fun _ _=>False }
theorem Inv.mark {pins:List (Addr × Obj)} {σ:St} {H:Hp} {s:Shared} (I:Inv X pins σ H s) (a:Addr):Inv (X.marked a) pins σ H s :=
 have k:=I.ok
 ⟨⟨k.mod,k.kind,k.glob,k.blt,k.above,k.inj,k.has,k.cab,(fun z=>nomatch z),k.frames,k.stk,k.exf,k.bs,k.bsz,k.noex,k.exfs,k.vB,k.frf⟩,I.os,I.bare,I.base,I.loc,I.cell,I.free,I.freeC,I.pin,I.hok,I.len⟩
theorem Inv.unmark {pins:List (Addr × Obj)} {σ:St} {H:Hp} {s:Shared} {a:Addr} (I:Inv (X.marked a) pins σ H s) (k0:X.Ok):Inv X pins σ H s :=
 ⟨k0,I.os,I.bare,I.base,I.loc,I.cell,I.free,I.freeC,I.pin,I.hok,I.len⟩
theorem Inv.NU {pins:List (Addr × Obj)} {σ:St} {H:Hp} {s:Shared} {a:Addr} {ho:HO} (I:Inv X pins σ H s) (n0:X.s₀.heap.get? a = none) (nL:a ≠ X.env.locals) (nC:∀ x c,X.env.cells.lookup x = some c → c ≠ a) (nP:∀ p ∈ X.pn ++ pins,p.1 ≠ a)
  (hn:H a = none) (ok:cN X.prog X.w (upd H a ho) s.heap a ho):Inv X pins σ (upd H a ho) s:=by
 have ne:∀ b u,H b = some u → b ≠ a:=fun b u e z=>by rw [z,hn] at e; cases e
 refine ⟨I.ok,I.os,I.bare,⟨I.base.keep,I.base.slot,fun b o e n nx=>?_,I.base.there,fun b xs e=>?_,fun b o v e=>?_,fun b ps e=>?_⟩,I.loc,I.cell,by rw [aR (Ne.symm nL)]; exact I.free,fun x c e=>by rw [aR (nC x c e)]; exact I.freeC x c e,fun p hp=>?_,fun b u e=>?_,I.len⟩
 ·rw [aR (fun z=>by rw [z,n0] at e; cases e)]
  exact I.base.free b o e n nx
 ·have q:=I.base.tups b xs e
  rw [aR (ne b _ q)]; exact q
 ·have q:=I.base.frzs b o v e
  rw [aR (ne b _ q)]; exact q
 ·obtain ⟨more,q⟩:=I.base.tbls b ps e
  exact ⟨more,by rw [aR (ne b _ q)]; exact q⟩
 ·obtain ⟨e1,e2,e3⟩:=I.pin p hp
  exact ⟨e1,by rw [aR (nP p hp)]; exact e2,e3⟩
 ·by_cases z:b = a
  ·subst z
   rw [cR] at e; cases e
   exact ok
  ·rw [aR z] at e
   exact (I.hok b u e).vU (fun _ _ _ q=>q) (fun c q=>by rw [aR (ne c _ q)]; exact q) fun c xs q=>by rw [aR (ne c _ q)]; exact q
theorem qy {M:Model} {A:Around} {E:Value → Shared → Prop} {pins:List (Addr × Obj)} {σ:St} {H:Hp} {s:Shared} {i:Nat} {n:Str} {Q:Unit → Shared → Prop} (I:Inv X pins σ H s) (hN:X.N.Nodup) (hi:X.N[i]? = some n)
  (hn:X.env.scope.names.lookup n = some .local) (q:∀ s',Inv X pins (σ.set i none) H s' → Q () s'):wpAny M A (do bindName X.env n .none; unbindBehindTheSuite X.env n pos) Q E s:=by
 obtain ⟨m,nsm,hl⟩:=id I.loc
 refine wpAny_nameGoes_keeps hn nsm (by rw [I.ok.kind]; rfl) fun h' v ns' hs=>q _ ?_
 obtain ⟨oL,_,_,hoL,_⟩:=id nsm
 have fl:∀ b o,X.s₀.heap.get? b = some o → b ≠ X.env.locals:=fun b o e=>Nat.ne_of_lt (Nat.lt_of_lt_of_le (Heap.lt_size e) I.ok.above)
 refine ⟨I.ok,I.os,I.bare,⟨fun b o e n hb hx=>(hs.2 b (fl b o e)).trans (I.base.keep b o e n hb hx),fun b o e n hb hx=>?_,I.base.free,fun b o e hx=>?_,I.base.tups,I.base.frzs,I.base.tbls⟩,⟨_,ns',fun j y w' e1 e2 e3=>?_⟩,fun y c e=>?_,I.free,I.freeC,fun p hp=>?_,fun b u e=>?_,by simpa using I.len⟩
 ·obtain ⟨sl,e1⟩:=I.base.slot b o e n hb hx
  exact ⟨sl,(hs.2 b (fl b o e)).trans e1⟩
 ·obtain ⟨o1,e1⟩:=I.base.there b o e hx
  exact ⟨o1,(hs.2 b (fl b o e)).trans e1⟩
 ·by_cases hj:j = i
  ·subst hj
   have:j < σ.length:=by rw [I.len]; exact (List.getElem?_eq_some_iff.mp hi).1
   rw [List.getElem?_set_self this] at e2
   cases e2
  ·rw [List.getElem?_set_ne (Ne.symm hj)] at e2
   obtain ⟨u,r,z⟩:=hl j y w' e1 e2 e3
   refine ⟨u,r,?_⟩
   rcases z with ⟨k,e⟩ | ⟨k,c,e,z⟩
   ·refine .inl ⟨k,?_⟩
    have:y ≠ n:=fun e=>hj (wW hN e1 (e ▸ hi))
    simp [this,e]
   ·exact .inr ⟨k,c,e,z.sameBut hs (I.cne y c e)⟩
 ·obtain ⟨w1,z⟩:=I.cell y c e
  exact ⟨w1,z.sameBut hs (I.cne y c e)⟩
 ·obtain ⟨e,nn,ne,r⟩:=I.pin p hp
  exact ⟨(hs.2 p.1 ne).trans e,nn,ne,r⟩
 ·refine (I.hok b u e).vU (fun c w1 hc z=>(hs.2 c ?_).trans z) (fun _ z=>z) fun _ _ z=>z
  intro ec
  rcases hc with hc | hc
  ·rw [← hc,ec,I.free] at e; cases e
  ·rw [ec,I.free] at hc; cases hc
def BX (a C:Addr):HO:=.ext (ExcAt a C)
theorem Jf {P:Program} {w:World} {H:Hp} {h:Heap} {a C:Addr} (x:ExcAt a C h):cN P w H h a (BX a C) :=
 ⟨x,let ⟨o,e,_⟩:=x; ⟨o,e⟩,fun h1 h2 ⟨o,e,c⟩ k=>⟨o,k o e,c⟩⟩
def Ends.un (D:Ends) (i:Nat):Ends:={ nx:=fun σ H=>D.nx (σ.set i none) H,rt:=D.rt,bk:=fun σ H=>D.bk (σ.set i none) H,ct:=fun σ H=>D.ct (σ.set i none) H }
def Pp (K:PySem.W.Frag) (T:Addr) (i:Nat) (tb:TX) (ts:TS):TS:=fun D σ H=>tb D (fun c σ' H'=>∃ C,c = .ref C ∧ PySem.W.exmOne K (.ref C) (.ref T) = some true ∧ ∀ a,H' a = none → ts (D.un i) (σ'.set i (some (.ref a))) (upd H' a (BX a C))) σ H
theorem MP {T:Addr} {n:Str} {i:Nat} {body suite:List Stmt} {b0:Stmt} {tb:TX} {ts:TS} {np hp:Pos} (hst:X.stack = X.env :: X.outer) (hfr:X.env.frame = some X.env.locals) (hex:X.ex = []) (hN:X.N.Nodup) (hi:X.N[i]? = some n) (hn:X.env.scope.names.lookup n = some .local)
  (hg:Gl X x) (hm:X.mg x = some (.ref T)) (hb:PXs X body tb) (hs:∀ a,PSs (X.marked a) (b0 :: suite) ts) (hd:NDb x:=by decide) (hf:X.fn n = true ∨ X.env.scope.names.lookup n = some .local:=by first | exact .inl rfl | exact .inr rfl | assumption) :
  PS X (.Try body [.ExceptHandler (some (.Name x np)) (some n) (b0 :: suite) hp] [] [] pos) (Pp X.K T i tb ts):=by
 intro pins s σ H D I h
 refine wpAny_Try_except (wpAny_mono (hb pins s σ H D _ I h) (fun f s1 z=>?_) fun ev s1 z=>?_)
 ·cases f with
  | next=>exact wpAny_execs_nil z
  | _=>exact z
 obtain ⟨a,C,σ',Hc,sc,H',rfl,Ic,fl,C',e',hx,q⟩:=z
 cases e'
 obtain ⟨base,a0,f0,hb0⟩:=fl.fl
 have hA:X.A.frames = some (X.env :: X.outer):=hst ▸ I.ok.frames
 rw [hst] at f0
 refine wpAny_looks_onW hA hfr f0 fun h1 held up1=>?_
 refine wpAny_landsW held fun h2 fl2 up2=>?_
 have fly2:Fly X.prog X.w X.stack Hc sc a C H' { s1 with heap:=h2 }:=Bn fl (hst ▸ f0) hb0 (hst ▸ fl2) (up1.trans up2)
 have back:∀ {s2:Shared},Fly X.prog X.w X.stack Hc sc a C H' s2 → Inv X pins σ' H' s2:=fun y=>Ic.KH (ch:=[]) y.os y.un y.hok y.bare (fun b hb=>nomatch hb)
 have I2:=back fly2
 refine wpAny_handleBy_cons (codeAny_handlers_test ?_) (by intro q; cases q)
 refine sX (X:=X.marked a) (I2.mark a) hg hm ?_ hd
 refine (PySem.W.exm_one (M:=model X.prog X.w) I2.kIn fly2.at.type hx) _ _ _ _ (fun _ _ k=>k) ?_
 refine codeAny_handlers_suite_as ?_
 obtain ⟨base2,a2,f2,hb2⟩:=fly2.fl
 refine lands_againW f2 fun h3 fl3 up3=>?_
 have fly3:=Bn fly2 f2 hb2 fl3 up3
 have I3:=back fly3
 have n1:∀ b ob,sc.heap.get? b = some ob → b ≠ a:=fun b ob e z=>by rw [z,fl.new] at e; cases e
 have I4:Inv X pins σ' (upd H' a (BX a C)) { s1 with heap:=h3 }:=by
  refine I3.NU ?_ ?_ ?_ ?_ fly3.free (Jf fly3.at)
  ·cases z:X.s₀.heap.get? a with
   | none=>rfl
   | some oa =>
    obtain ⟨o1,e1⟩:=Ic.base.there a oa z (by rw [hex]; exact fun z=>nomatch z)
    rw [fl.new] at e1; cases e1
  ·obtain ⟨m,⟨oL,_,_,eL,_⟩,_⟩:=Ic.loc
   exact (n1 _ _ eL).symm
  ·intro y c e
   obtain ⟨v,oc,ec,_⟩:=Ic.cell y c e
   exact n1 c oc ec
  ·intro p hp
   exact n1 _ _ (Ic.pin p hp).1
 refine m4 I4 hN hi (.inl hn) (v:=.ref a) rfl (fun s5 I5=>?_) hf
 refine wpAny_mono (hs a pins s5 _ _ (D.un i) (I5.mark a) (q a fly3.free)) (fun f s6 z=>?_) fun _ _ z=>z.elim
 cases f with
 | next =>
  obtain ⟨σ6,H6,I6,q6⟩:=z
  exact qy (I6.unmark I.ok) hN hi hn fun s7 I7=>⟨_,_,I7,q6⟩
 | ret u =>
  obtain ⟨v,σ6,H6,I6,r6,q6⟩:=z
  exact qy (I6.unmark I.ok) hN hi hn fun s7 I7=>⟨v,_,_,I7,r6,q6⟩
 | brk =>
  obtain ⟨σ6,H6,I6,q6⟩:=z
  exact qy (I6.unmark I.ok) hN hi hn fun s7 I7=>⟨_,_,I7,q6⟩
 | cont =>
  obtain ⟨σ6,H6,I6,q6⟩:=z
  exact qy (I6.unmark I.ok) hN hi hn fun s7 I7=>⟨_,_,I7,q6⟩
end
end L2
namespace L2
open PySem PySem.Spec PyProof.Rows
def Bd (n:Nat) (x:Int):Prop:=x.natAbs < 2 ^ n
theorem Bd.mono {m n:Nat} {x:Int} (h:Bd m x) (k:m ≤ n):Bd n x:=Nat.lt_of_lt_of_le h (Nat.pow_le_pow_right (by decide) k)
theorem Bd.bits {n:Nat} {x:Int} (h:Bd n x):Builtin.Int.intBits x ≤ n:=by
 unfold Builtin.Int.intBits
 split
 ·exact Nat.zero_le _
 ·rename_i z
  have h0:x.natAbs ≠ 0:=fun q=>z (by simp [Int.natAbs_eq_zero.mp q])
  exact (Nat.log2_lt h0).mpr h
theorem Bd.Oy {m n:Nat} {x y:Int} (h:Bd m x) (k:Bd n y) (hs:m + n ≤ 134217728):IntMulOk x y:=IntMulOk.of_le h.bits k.bits hs
theorem Bd.mul {m n:Nat} {x y:Int} (h:Bd m x) (k:Bd n y):Bd (m + n) (x * y):=by
 unfold Bd at *
 rw [Int.natAbs_mul,Nat.pow_add]
 exact Nat.mul_lt_mul'' h k
theorem Bd.add {m n:Nat} {x y:Int} (h:Bd m x) (k:Bd n y):Bd (max m n + 1) (x + y):=by
 have h1:=h.mono (Nat.le_max_left m n)
 have k1:=k.mono (Nat.le_max_right m n)
 unfold Bd at *
 have:=Int.natAbs_add_le x y
 rw [Nat.pow_succ]
 omega
theorem Bd.neg {n:Nat} {x:Int} (h:Bd n x):Bd n (-x):=by unfold Bd at *; rwa [Int.natAbs_neg]
theorem Bd.log {n:Nat} {x:Int} (h:Bd n x) (hn:n ≤ 9000):x.natAbs.log2 < 9000:=by
 by_cases z:x.natAbs = 0
 ·rw [z]; decide
 ·exact Nat.lt_of_lt_of_le ((Nat.log2_lt z).mpr h) hn
section
variable {X:Cx}
def CDv (_ j:Int):Prop:=j ≠ 0 ∧ Bd 9000 j
theorem Iw:OpR X (binaryOp .Mult) (rI IntMulOk fun i j=>.int (i * j)):=opI fun _ _ _ _ _ _ _ hc q=>mul_int q hc
theorem F2:OpR X (binaryOp .FloorDiv) (rI CDv fun i j=>.int (i.fdiv j)):=opI fun _ _ _ _ _ _ _ hc q=>floordiv_int hc.1 q (.inl (PyProof.noPylong_of_log2 (hc.2.log (Nat.le_refl _))))
end
inductive D where
 | non | bl (b:Bool) | int (i:Int) | str (x:Str) | tup (ds:List D) | lst (ds:List D)
mutual
def D.eq:D → D → Bool
 | .non,.non=>true
 | .bl a,.bl b=>a == b
 | .bl a,.int b=>(if a then 1 else 0) == b
 | .int a,.bl b=>a == (if b then 1 else 0)
 | .int a,.int b=>a == b
 | .str a,.str b=>a == b
 | .tup xs,.tup ys=>D.eqs xs ys
 | .lst xs,.lst ys=>D.eqs xs ys
 | _,_=>false
def D.eqs:List D → List D → Bool
 | [],[]=>true
 | x :: xs,y :: ys=>D.eq x y && D.eqs xs ys
 | _,_=>false
end
mutual
def D.depth:D → Nat
 | .tup xs=>D.sL xs + 1
 | .lst xs=>D.sL xs + 1
 | _=>0
def D.sL:List D → Nat
 | []=>0
 | x :: xs=>max (D.depth x) (D.sL xs)
end
mutual
theorem D.Ak:∀ d:D,D.eq d d = true
 | .non=>rfl
 | .bl b=>by simp [D.eq]
 | .int i=>by simp [D.eq]
 | .str x=>by simp [D.eq]
 | .tup xs=>by rw [D.eq]; exact D.xB xs
 | .lst xs=>by rw [D.eq]; exact D.xB xs
theorem D.xB:∀ ds:List D,D.eqs ds ds = true
 | []=>rfl
 | x :: xs=>by rw [D.eqs,D.Ak x,D.xB xs]; rfl
end
mutual
inductive Den (K:PySem.W.Frag) (H:Hp):V → D → Prop
 | non:Den K H .non .non
 | bl (b:Bool):Den K H (.bl b) (.bl b)
 | int (i:Int):Den K H (.int i) (.int i)
 | str (x:Str):Den K H (.str x) (.str x)
 | tup {a:Addr} {xs:List V} {ds:List D} (e:SqT K H a xs) (r:mI K H xs ds):Den K H (.ref a) (.tup ds)
 | lst {a:Addr} {xs:List V} {ds:List D} (e:SqL K H a xs) (r:mI K H xs ds):Den K H (.ref a) (.lst ds)
inductive mI (K:PySem.W.Frag) (H:Hp):List V → List D → Prop
 | nil:mI K H [] []
 | cons {x:V} {d:D} {xs:List V} {ds:List D} (h:Den K H x d) (r:mI K H xs ds):mI K H (x :: xs) (d :: ds)
end
theorem mI.len {K:PySem.W.Frag} {H:Hp}:∀ {xs:List V} {ds:List D},mI K H xs ds → xs.length = ds.length
 | _,_,.nil=>rfl
 | _,_,.cons _ r=>by rw [List.length_cons,List.length_cons,r.len]
theorem mI.at {K:PySem.W.Frag} {H:Hp}:∀ {xs:List V} {ds:List D} (j:Nat) {x:V} {d:D},mI K H xs ds → xs[j]? = some x → ds[j]? = some d → Den K H x d
 | _,_,0,_,_,.cons h _,e1,e2=>by cases e1; cases e2; exact h
 | _,_,j + 1,_,_,.cons _ r,e1,e2=>r.at j e1 e2
theorem D.zl:∀ {ds:List D} (j:Nat) {d:D},ds[j]? = some d → D.depth d ≤ D.sL ds
 | x :: xs,0,_,e=>by cases e; exact Nat.le_max_left _ _
 | x :: xs,j + 1,_,e=>Nat.le_trans (D.zl (ds:=xs) j e) (Nat.le_max_right _ _)
theorem D.ox:∀ (xs ys:List D),D.eqs xs ys = ((List.range (min xs.length ys.length)).all (fun j=>D.eq (xs.getD j .non) (ys.getD j .non)) && xs.length == ys.length)
 | [],[]=>rfl
 | [],_ :: _=>rfl
 | _ :: _,[]=>rfl
 | x :: xs,y :: ys=>by
  rw [D.eqs,D.ox xs ys,List.length_cons,List.length_cons,Nat.succ_min_succ,List.range_succ_eq_map,List.all_cons,List.all_map]
  have e:(xs.length + 1 == ys.length + 1) = (xs.length == ys.length):=by
   rw [Bool.eq_iff_iff]; simp
  rw [e,Bool.and_assoc]
  rfl
section
variable {X:Cx} {pins:List (Addr × Obj)} {σ:St} {H:Hp} {s:Shared}
theorem D8 {a:Addr} {xs ys:List V} (I:Inv X pins σ H s) (h1:SqT X.K H a xs) (h2:SqL X.K H a ys):False:=by
 obtain ⟨_,_,⟨o,e,c,_⟩,_⟩:=I.tuple h1
 obtain ⟨_,_,⟨o',n',e',c',_,d'⟩,_⟩:=I.list h2
 rw [e] at e'; cases e'
 rw [c] at c'
 injection c' with q
 exact absurd q (by decide)
mutual
theorem Den.inj (I:Inv X pins σ H s):∀ {v:V} {d e:D},Den X.K H v d → Den X.K H v e → d = e
 | _,_,_,.non,h=>by cases h; rfl
 | _,_,_,.bl b,h=>by cases h; rfl
 | _,_,_,.int i,h=>by cases h; rfl
 | _,_,_,.str x,h=>by cases h; rfl
 | _,_,_,.tup e r,h=>by
  cases h with
  | tup e' r'=>cases I.qA e e'; rw [mI.inj I r r']
  | lst e' r'=>exact (D8 I e e').elim
 | _,_,_,.lst e r,h=>by
  cases h with
  | lst e' r'=>cases I.Bo e e'; rw [mI.inj I r r']
  | tup e' r'=>exact (D8 I e' e).elim
theorem mI.inj (I:Inv X pins σ H s):∀ {v:List V} {d e:List D},mI X.K H v d → mI X.K H v e → d = e
 | _,_,_,.nil,h=>by cases h; rfl
 | _,_,_,.cons a r,h=>by
  cases h with
  | cons a' r'=>rw [Den.inj I a a',mI.inj I r r']
end
theorem zf (I:Inv X pins σ H s) {A:Around} {x y:V} {d e:D} {u v:Value} (hu:A.units < cLine) (hf:qo x = true) (hd:Den X.K H x d) (he:Den X.K H y e) (ru:RelV x u) (rv:RelV y v):SeqAt.EqAt A s u v (D.eq d e):=by
 cases hd with
 | tup=>cases hf
 | lst=>cases hf
 | non  =>
  cases he with
  | tup q r=>cases ru; cases rv; rw [D.eq.eq_def]; obtain ⟨_,_,p,_⟩:=I.tuple q; exact .none_tuple p hu
  | lst q r=>cases ru; cases rv; rw [D.eq.eq_def]; obtain ⟨_,_,p,_⟩:=I.list q; exact .none_list p.isList hu
  | non  => exact fV ru rv rfl rfl
  | bl b1=>exact fV ru rv rfl rfl
  | int i1=>exact fV ru rv rfl rfl
  | str x1=>exact fV ru rv rfl rfl
 | bl b0 =>
  cases he with
  | tup q r=>cases ru; cases rv; rw [D.eq.eq_def]; obtain ⟨_,_,p,_⟩:=I.tuple q; exact .bool_tuple _ p hu
  | lst q r=>cases ru; cases rv; rw [D.eq.eq_def]; obtain ⟨_,_,p,_⟩:=I.list q; exact .bool_list _ p.isList hu
  | non  => exact fV ru rv rfl rfl
  | bl b1=>exact fV ru rv rfl rfl
  | int i1=>exact fV ru rv rfl rfl
  | str x1=>exact fV ru rv rfl rfl
 | int i0 =>
  cases he with
  | tup q r=>obtain ⟨_,rfl⟩:=ru; cases rv; rw [D.eq.eq_def]; obtain ⟨_,_,p,_⟩:=I.tuple q; exact .int_tuple _ _ p hu
  | lst q r=>obtain ⟨_,rfl⟩:=ru; cases rv; rw [D.eq.eq_def]; obtain ⟨_,_,p,_⟩:=I.list q; exact .int_list _ _ p.isList hu
  | non  => exact fV ru rv rfl rfl
  | bl b1=>exact fV ru rv rfl rfl
  | int i1=>exact fV ru rv rfl rfl
  | str x1=>exact fV ru rv rfl rfl
 | str x0 =>
  cases he with
  | tup q r=>obtain ⟨_,rfl⟩:=ru; cases rv; rw [D.eq.eq_def]; obtain ⟨_,_,p,_⟩:=I.tuple q; exact .str_tuple _ _ p hu
  | lst q r=>obtain ⟨_,rfl⟩:=ru; cases rv; rw [D.eq.eq_def]; obtain ⟨_,_,p,_⟩:=I.list q; exact .str_list _ _ p.isList hu
  | non  => exact fV ru rv rfl rfl
  | bl b1=>exact fV ru rv rfl rfl
  | int i1=>exact fV ru rv rfl rfl
  | str x1=>exact fV ru rv rfl rfl
theorem Vals.OO {xs:List V} {us:List Value} (r:Vals xs us) {j:Nat} (hj:j < us.toArray.size):∃ x,xs[j]? = some x ∧ RelV x us.toArray[j]:=by
 have hl:=r.length
 have hj':j < us.length:=by simpa using hj
 have hx:j < xs.length:=by omega
 obtain ⟨u,e,ru⟩:=r.get (List.getElem?_eq_getElem hx)
 rw [List.getElem?_eq_getElem hj'] at e
 cases e
 exact ⟨xs[j],List.getElem?_eq_getElem hx,by simpa using ru⟩
theorem mI.getD {K:PySem.W.Frag} {H:Hp} {xs:List V} {ds:List D} (r:mI K H xs ds) {j:Nat} {x:V} (e:xs[j]? = some x):Den K H x (ds.getD j .non) ∧ D.depth (ds.getD j .non) ≤ D.sL ds:=by
 have hj:j < ds.length:=by rw [← r.len]; exact (List.getElem?_eq_some_iff.mp e).1
 have e2:ds[j]? = some ds[j]:=List.getElem?_eq_getElem hj
 have e3:ds.getD j .non = ds[j]:=by rw [List.getD_eq_getElem?_getD,e2]; rfl
 rw [e3]
 exact ⟨r.at j e e2,D.zl j e2⟩
theorem vq (I:Inv X pins σ H s) {n:Nat} (ih:∀ {A:Around} {x y:V} {d e:D} {u v:Value},A.units + n < cLine → D.depth d ≤ n → Den X.K H x d → Den X.K H y e → RelV x u → RelV y v → SeqAt.EqAt A s u v (D.eq d e))
  {A:Around} (hu:A.units + (n + 1) < cLine) {xs ys:List V} {ds es:List D} {us vs:List Value} (hn:D.sL ds ≤ n) (r:mI X.K H xs ds) (q:mI X.K H ys es) (ru:Vals xs us) (rv:Vals ys vs) :
  ∀ j (h1:j < us.toArray.size) (h2:j < vs.toArray.size),SeqAt.EqAt A.in1 s us.toArray[j] vs.toArray[j] (D.eq (ds.getD j .non) (es.getD j .non)):=fun j h1 h2=>by
 obtain ⟨x,ex,rx⟩:=ru.OO h1
 obtain ⟨y,ey,ry⟩:=rv.OO h2
 obtain ⟨d1,d2⟩:=r.getD ex
 exact ih (by show A.units + 1 + n < cLine; omega) (Nat.le_trans d2 hn) d1 (q.getD ey).1 rx ry
theorem pP (I:Inv X pins σ H s):∀ (n:Nat) {A:Around} {x y:V} {d e:D} {u v:Value},A.units + n < cLine → D.depth d ≤ n → Den X.K H x d → Den X.K H y e → RelV x u → RelV y v → SeqAt.EqAt A s u v (D.eq d e):=by
 intro n
 induction n with
 | zero =>
  intro A x y d e u v hu hn hd he ru rv
  cases id hd with
  | tup=>simp [D.depth] at hn
  | lst=>simp [D.depth] at hn
  | _=>exact zf I hu rfl hd he ru rv
 | succ n ih =>
  intro A x y d e u v hu hn hd he ru rv
  have hu0:A.units < cLine:=by omega
  cases id hd with
  | @tup a xs ds ea r =>
   cases ru
   obtain ⟨us,rus,p,_⟩:=I.tuple ea
   cases id he with
   | @tup b ys es eb r2 =>
    cases rv
    obtain ⟨vs,rvs,p2,_⟩:=I.tuple eb
    by_cases hab:a = b
    ·subst hab
     rw [hd.inj I he,D.Ak]
     exact .same _
    ·refine .of_refs hab ?_
     rw [D.eq.eq_def]
     simp only []
     rw [D.ox]
     have l1:us.toArray.size = ds.length:=by rw [List.size_toArray,← rus.length,r.len]
     have l2:vs.toArray.size = es.length:=by rw [List.size_toArray,← rvs.length,r2.len]
     rw [← l1,← l2]
     exact .tuples p p2 hu0 (vq I ih hu (by rw [D.depth] at hn; omega) r r2 rus rvs)
   | @lst b ys es eb r2 =>
    cases rv
    obtain ⟨vs,rvs,p2,_⟩:=I.list eb
    rw [D.eq.eq_def]
    exact .tuple_list p p2.isList hu0
   | non  => cases rv; rw [D.eq.eq_def]; exact .tuple_none p hu0
   | bl b0=>cases rv; rw [D.eq.eq_def]; exact .tuple_bool _ p hu0
   | int i0=>obtain ⟨_,rfl⟩:=rv; rw [D.eq.eq_def]; exact .tuple_int _ _ p hu0
   | str x0=>obtain ⟨_,rfl⟩:=rv; rw [D.eq.eq_def]; exact .tuple_str _ _ p hu0
  | @lst a xs ds ea r =>
   cases ru
   obtain ⟨us,rus,p,_⟩:=I.list ea
   cases id he with
   | @lst b ys es eb r2 =>
    cases rv
    obtain ⟨vs,rvs,p2,_⟩:=I.list eb
    by_cases hab:a = b
    ·subst hab
     rw [hd.inj I he,D.Ak]
     exact .same _
    ·refine .of_refs hab ?_
     rw [D.eq.eq_def]
     simp only []
     rw [D.ox]
     have l1:us.toArray.size = ds.length:=by rw [List.size_toArray,← rus.length,r.len]
     have l2:vs.toArray.size = es.length:=by rw [List.size_toArray,← rvs.length,r2.len]
     rw [← l1,← l2]
     by_cases hl:us.toArray.size = vs.toArray.size
     ·have e1:(us.toArray.size == vs.toArray.size) = true:=beq_iff_eq.mpr hl
      rw [e1,Bool.and_true,← hl,Nat.min_self]
      exact .lists p.isList p2.isList hl hu0 (vq I ih hu (by rw [D.depth] at hn; omega) r r2 rus rvs)
     ·have e1:(us.toArray.size == vs.toArray.size) = false:=beq_eq_false_iff_ne.mpr hl
      rw [e1,Bool.and_false]
      exact .lists_lengths p.isList p2.isList (by simpa using hl) hu0
   | @tup b ys es eb r2 =>
    cases rv
    obtain ⟨vs,rvs,p2,_⟩:=I.tuple eb
    rw [D.eq.eq_def]
    exact .list_tuple p.isList p2 hu0
   | non  => cases rv; rw [D.eq.eq_def]; exact .list_none p.isList hu0
   | bl b0=>cases rv; rw [D.eq.eq_def]; exact .list_bool _ p.isList hu0
   | int i0=>obtain ⟨_,rfl⟩:=rv; rw [D.eq.eq_def]; exact .list_int _ _ p.isList hu0
   | str x0=>obtain ⟨_,rfl⟩:=rv; rw [D.eq.eq_def]; exact .list_str _ _ p.isList hu0
  | _=>exact zf I hu0 rfl hd he ru rv
end
end L2
namespace L2
open PySem PySem.Spec PyProof.Rows
section
variable {X:Cx} {pins:List (Addr × Obj)} {σ:St} {H:Hp} {s:Shared}
theorem F4 (I:Inv X pins σ H s) {n:Nat} {A:Around} {x y:V} {d e:D} {u v:Value} (hu:A.units + n < cLine) (hn:D.depth d ≤ n) (hd:Den X.K H x d) (he:Den X.K H y e) (ru:RelV x u) (rv:RelV y v):SeqAt.RcAt A s u v (D.eq d e):=by
 have hu0:A.units < cLine:=by omega
 cases id hd with
 | non  =>
  cases ru
  cases id he with
  | non  => cases rv; rw [D.eq.eq_def]; exact .none_none
  | bl y1=>cases rv; rw [D.eq.eq_def]; exact .none_bool _
  | int y1=>obtain ⟨_,rfl⟩:=rv; rw [D.eq.eq_def]; exact .none_int _ _
  | str y1=>obtain ⟨_,rfl⟩:=rv; rw [D.eq.eq_def]; exact .none_str _ _
  | @tup b ys es eb r2=>cases rv; rw [D.eq.eq_def]; obtain ⟨_,_,p2,_⟩:=I.tuple eb; exact .none_tuple p2 hu0
  | @lst b ys es eb r2=>cases rv; rw [D.eq.eq_def]; obtain ⟨_,_,p2,_⟩:=I.list eb; exact .none_list p2.isList hu0
 | bl x1 =>
  cases ru
  cases id he with
  | non  => cases rv; rw [D.eq.eq_def]; exact .bool_none _
  | bl y1=>cases rv; rw [D.eq.eq_def]; exact .bool_bool _ _
  | int y1=>obtain ⟨_,rfl⟩:=rv; rw [D.eq.eq_def]; exact .bool_int _ _ _
  | str y1=>obtain ⟨_,rfl⟩:=rv; rw [D.eq.eq_def]; exact .bool_str _ _ _
  | @tup b ys es eb r2=>cases rv; rw [D.eq.eq_def]; obtain ⟨_,_,p2,_⟩:=I.tuple eb; exact .bool_tuple _ p2 hu0
  | @lst b ys es eb r2=>cases rv; rw [D.eq.eq_def]; obtain ⟨_,_,p2,_⟩:=I.list eb; exact .bool_list _ p2.isList hu0
 | int x1 =>
  obtain ⟨_,rfl⟩:=ru
  cases id he with
  | non  => cases rv; rw [D.eq.eq_def]; exact .int_none _ _
  | bl y1=>cases rv; rw [D.eq.eq_def]; exact .int_bool _ _ _
  | int y1=>obtain ⟨_,rfl⟩:=rv; rw [D.eq.eq_def]; exact .int_int _ _ _ _
  | str y1=>obtain ⟨_,rfl⟩:=rv; rw [D.eq.eq_def]; exact .int_str _ _ _ _
  | @tup b ys es eb r2=>cases rv; rw [D.eq.eq_def]; obtain ⟨_,_,p2,_⟩:=I.tuple eb; exact .int_tuple _ _ p2 hu0
  | @lst b ys es eb r2=>cases rv; rw [D.eq.eq_def]; obtain ⟨_,_,p2,_⟩:=I.list eb; exact .int_list _ _ p2.isList hu0
 | str x1 =>
  obtain ⟨_,rfl⟩:=ru
  cases id he with
  | non  => cases rv; rw [D.eq.eq_def]; exact .str_none _ _
  | bl y1=>cases rv; rw [D.eq.eq_def]; exact .str_bool _ _ _
  | int y1=>obtain ⟨_,rfl⟩:=rv; rw [D.eq.eq_def]; exact .str_int _ _ _ _
  | str y1=>obtain ⟨_,rfl⟩:=rv; rw [D.eq.eq_def]; exact .str_str _ _ _ _
  | @tup b ys es eb r2=>cases rv; rw [D.eq.eq_def]; obtain ⟨_,_,p2,_⟩:=I.tuple eb; exact .str_tuple _ _ p2 hu0
  | @lst b ys es eb r2=>cases rv; rw [D.eq.eq_def]; obtain ⟨_,_,p2,_⟩:=I.list eb; exact .str_list _ _ p2.isList hu0
 | @tup a xs ds ea r =>
  cases ru
  obtain ⟨us,rus,p,_⟩:=I.tuple ea
  cases id he with
  | non  => cases rv; rw [D.eq.eq_def]; exact .tuple_none p hu0
  | bl y1=>cases rv; rw [D.eq.eq_def]; exact .tuple_bool _ p hu0
  | int y1=>obtain ⟨_,rfl⟩:=rv; rw [D.eq.eq_def]; exact .tuple_int _ _ p hu0
  | str y1=>obtain ⟨_,rfl⟩:=rv; rw [D.eq.eq_def]; exact .tuple_str _ _ p hu0
  | @tup b ys es eb r2 =>
   cases rv
   obtain ⟨vs,rvs,p2,_⟩:=I.tuple eb
   rw [D.depth] at hn
   obtain ⟨n,rfl⟩:∃ m,n = m + 1:=⟨n - 1,by omega⟩
   rw [D.eq.eq_def]
   simp only []
   rw [D.ox]
   have l1:us.toArray.size = ds.length:=by rw [List.size_toArray,← rus.length,r.len]
   have l2:vs.toArray.size = es.length:=by rw [List.size_toArray,← rvs.length,r2.len]
   rw [← l1,← l2]
   exact .tuples p p2 hu0 (vq I (pP I n) hu (by omega) r r2 rus rvs)
  | @lst b ys es eb r2=>cases rv; rw [D.eq.eq_def]; obtain ⟨_,_,p2,_⟩:=I.list eb; exact .tuple_list p p2.isList hu0
 | @lst a xs ds ea r =>
  cases ru
  obtain ⟨us,rus,p,_⟩:=I.list ea
  cases id he with
  | non  => cases rv; rw [D.eq.eq_def]; exact .list_none p.isList hu0
  | bl y1=>cases rv; rw [D.eq.eq_def]; exact .list_bool _ p.isList hu0
  | int y1=>obtain ⟨_,rfl⟩:=rv; rw [D.eq.eq_def]; exact .list_int _ _ p.isList hu0
  | str y1=>obtain ⟨_,rfl⟩:=rv; rw [D.eq.eq_def]; exact .list_str _ _ p.isList hu0
  | @tup b ys es eb r2=>cases rv; rw [D.eq.eq_def]; obtain ⟨_,_,p2,_⟩:=I.tuple eb; exact .list_tuple p.isList p2 hu0
  | @lst b ys es eb r2 =>
   cases rv
   obtain ⟨vs,rvs,p2,_⟩:=I.list eb
   rw [D.depth] at hn
   obtain ⟨n,rfl⟩:∃ m,n = m + 1:=⟨n - 1,by omega⟩
   rw [D.eq.eq_def]
   simp only []
   rw [D.ox]
   have l1:us.toArray.size = ds.length:=by rw [List.size_toArray,← rus.length,r.len]
   have l2:vs.toArray.size = es.length:=by rw [List.size_toArray,← rvs.length,r2.len]
   rw [← l1,← l2]
   by_cases hl:us.toArray.size = vs.toArray.size
   ·have e1:(us.toArray.size == vs.toArray.size) = true:=beq_iff_eq.mpr hl
    rw [e1,Bool.and_true,← hl,Nat.min_self]
    exact .lists p.isList p2.isList hl hu0 (vq I (pP I n) hu (by omega) r r2 rus rvs)
   ·have e1:(us.toArray.size == vs.toArray.size) = false:=beq_eq_false_iff_ne.mpr hl
    rw [e1,Bool.and_false]
    exact .lists_lengths p.isList p2.isList (by simpa using hl) hu0
theorem Dz (I:Inv X pins σ H s) {n:Nat} {A:Around} {x y:V} {d e:D} {u v:Value} (hu:A.units + n < cLine) (hn:D.depth d ≤ n) (hd:Den X.K H x d) (he:Den X.K H y e) (ru:RelV x u) (rv:RelV y v):SeqAt.RcNeAt A s u v (!D.eq d e):=by
 have hu0:A.units < cLine:=by omega
 cases id hd with
 | non  =>
  cases ru
  cases id he with
  | non  => cases rv; rw [D.eq.eq_def]; exact .none_none
  | bl y1=>cases rv; rw [D.eq.eq_def]; exact .none_bool _
  | int y1=>obtain ⟨_,rfl⟩:=rv; rw [D.eq.eq_def]; exact .none_int _ _
  | str y1=>obtain ⟨_,rfl⟩:=rv; rw [D.eq.eq_def]; exact .none_str _ _
  | @tup b ys es eb r2=>cases rv; rw [D.eq.eq_def]; obtain ⟨_,_,p2,_⟩:=I.tuple eb; exact .none_tuple p2 hu0
  | @lst b ys es eb r2=>cases rv; rw [D.eq.eq_def]; obtain ⟨_,_,p2,_⟩:=I.list eb; exact .none_list p2.isList hu0
 | bl x1 =>
  cases ru
  cases id he with
  | non  => cases rv; rw [D.eq.eq_def]; exact .bool_none _
  | bl y1=>cases rv; rw [D.eq.eq_def]; exact .bool_bool _ _
  | int y1=>obtain ⟨_,rfl⟩:=rv; rw [D.eq.eq_def]; exact .bool_int _ _ _
  | str y1=>obtain ⟨_,rfl⟩:=rv; rw [D.eq.eq_def]; exact .bool_str _ _ _
  | @tup b ys es eb r2=>cases rv; rw [D.eq.eq_def]; obtain ⟨_,_,p2,_⟩:=I.tuple eb; exact .bool_tuple _ p2 hu0
  | @lst b ys es eb r2=>cases rv; rw [D.eq.eq_def]; obtain ⟨_,_,p2,_⟩:=I.list eb; exact .bool_list _ p2.isList hu0
 | int x1 =>
  obtain ⟨_,rfl⟩:=ru
  cases id he with
  | non  => cases rv; rw [D.eq.eq_def]; exact .int_none _ _
  | bl y1=>cases rv; rw [D.eq.eq_def]; exact .int_bool _ _ _
  | int y1=>obtain ⟨_,rfl⟩:=rv; rw [D.eq.eq_def]; exact .int_int _ _ _ _
  | str y1=>obtain ⟨_,rfl⟩:=rv; rw [D.eq.eq_def]; exact .int_str _ _ _ _
  | @tup b ys es eb r2=>cases rv; rw [D.eq.eq_def]; obtain ⟨_,_,p2,_⟩:=I.tuple eb; exact .int_tuple _ _ p2 hu0
  | @lst b ys es eb r2=>cases rv; rw [D.eq.eq_def]; obtain ⟨_,_,p2,_⟩:=I.list eb; exact .int_list _ _ p2.isList hu0
 | str x1 =>
  obtain ⟨_,rfl⟩:=ru
  cases id he with
  | non  => cases rv; rw [D.eq.eq_def]; exact .str_none _ _
  | bl y1=>cases rv; rw [D.eq.eq_def]; exact .str_bool _ _ _
  | int y1=>obtain ⟨_,rfl⟩:=rv; rw [D.eq.eq_def]; exact .str_int _ _ _ _
  | str y1=>obtain ⟨_,rfl⟩:=rv; rw [D.eq.eq_def]; exact .str_str _ _ _ _
  | @tup b ys es eb r2=>cases rv; rw [D.eq.eq_def]; obtain ⟨_,_,p2,_⟩:=I.tuple eb; exact .str_tuple _ _ p2 hu0
  | @lst b ys es eb r2=>cases rv; rw [D.eq.eq_def]; obtain ⟨_,_,p2,_⟩:=I.list eb; exact .str_list _ _ p2.isList hu0
 | @tup a xs ds ea r =>
  cases ru
  obtain ⟨us,rus,p,_⟩:=I.tuple ea
  cases id he with
  | non  => cases rv; rw [D.eq.eq_def]; exact .tuple_none p hu0
  | bl y1=>cases rv; rw [D.eq.eq_def]; exact .tuple_bool _ p hu0
  | int y1=>obtain ⟨_,rfl⟩:=rv; rw [D.eq.eq_def]; exact .tuple_int _ _ p hu0
  | str y1=>obtain ⟨_,rfl⟩:=rv; rw [D.eq.eq_def]; exact .tuple_str _ _ p hu0
  | @tup b ys es eb r2 =>
   cases rv
   obtain ⟨vs,rvs,p2,_⟩:=I.tuple eb
   rw [D.depth] at hn
   obtain ⟨n,rfl⟩:∃ m,n = m + 1:=⟨n - 1,by omega⟩
   rw [D.eq.eq_def]
   simp only []
   rw [D.ox]
   have l1:us.toArray.size = ds.length:=by rw [List.size_toArray,← rus.length,r.len]
   have l2:vs.toArray.size = es.length:=by rw [List.size_toArray,← rvs.length,r2.len]
   rw [← l1,← l2]
   exact .tuples p p2 hu0 (vq I (pP I n) hu (by omega) r r2 rus rvs)
  | @lst b ys es eb r2=>cases rv; rw [D.eq.eq_def]; obtain ⟨_,_,p2,_⟩:=I.list eb; exact .tuple_list p p2.isList hu0
 | @lst a xs ds ea r =>
  cases ru
  obtain ⟨us,rus,p,_⟩:=I.list ea
  cases id he with
  | non  => cases rv; rw [D.eq.eq_def]; exact .list_none p.isList hu0
  | bl y1=>cases rv; rw [D.eq.eq_def]; exact .list_bool _ p.isList hu0
  | int y1=>obtain ⟨_,rfl⟩:=rv; rw [D.eq.eq_def]; exact .list_int _ _ p.isList hu0
  | str y1=>obtain ⟨_,rfl⟩:=rv; rw [D.eq.eq_def]; exact .list_str _ _ p.isList hu0
  | @tup b ys es eb r2=>cases rv; rw [D.eq.eq_def]; obtain ⟨_,_,p2,_⟩:=I.tuple eb; exact .list_tuple p.isList p2 hu0
  | @lst b ys es eb r2 =>
   cases rv
   obtain ⟨vs,rvs,p2,_⟩:=I.list eb
   rw [D.depth] at hn
   obtain ⟨n,rfl⟩:∃ m,n = m + 1:=⟨n - 1,by omega⟩
   rw [D.eq.eq_def]
   simp only []
   rw [D.ox]
   have l1:us.toArray.size = ds.length:=by rw [List.size_toArray,← rus.length,r.len]
   have l2:vs.toArray.size = es.length:=by rw [List.size_toArray,← rvs.length,r2.len]
   rw [← l1,← l2]
   by_cases hl:us.toArray.size = vs.toArray.size
   ·have e1:(us.toArray.size == vs.toArray.size) = true:=beq_iff_eq.mpr hl
    rw [e1,Bool.and_true,← hl,Nat.min_self]
    exact .lists p.isList p2.isList hl hu0 (vq I (pP I n) hu (by omega) r r2 rus rvs)
   ·have e1:(us.toArray.size == vs.toArray.size) = false:=beq_eq_false_iff_ne.mpr hl
    rw [e1,Bool.and_false]
    exact .lists_lengths p.isList p2.isList (by simpa using hl) hu0
def NC (K:PySem.W.Frag):R2:=fun x y H Q=>∃ d e,Den K H x d ∧ Den K H y e ∧ D.depth d ≤ 40 ∧ Q (.bl (D.eq d e)) H
def NQ (K:PySem.W.Frag):R2:=fun x y H Q=>∃ d e,Den K H x d ∧ Den K H y e ∧ D.depth d ≤ 40 ∧ Q (.bl (!D.eq d e)) H
theorem FG (hu:X.A.units + 64 < cLine):OpR X (compareOp .Eq) (NC X.K):=by
 intro pins s σ H x y v u Q I rx ry h
 obtain ⟨d,e,hd,he,dp,q⟩:=h
 exact F4 I (n:=64) hu (by omega) hd he rx ry _ _ _ _ ⟨.bl _,H,I,rfl,q⟩
theorem GH (hu:X.A.units + 64 < cLine):OpR X (compareOp .NotEq) (NQ X.K):=by
 intro pins s σ H x y v u Q I rx ry h
 obtain ⟨d,e,hd,he,dp,q⟩:=h
 exact Dz I (n:=64) hu (by omega) hd he rx ry _ _ _ _ ⟨.bl _,H,I,rfl,q⟩
inductive TyX (K:PySem.W.Frag) (H:Hp):V → Value → Prop where
 | of {v:V} {t:Value} (h:vT K H v t):TyX K H v t
 | tup {a:Addr} {xs:List V} (e:SqT K H a xs):TyX K H (.ref a) (.type "tuple")
 | lst {a:Addr} {xs:List V} (e:SqL K H a xs):TyX K H (.ref a) (.type "list")
 | exc {a C:Addr} (e:H a = some (BX a C)) (c:qG K C):TyX K H (.ref a) (.ref C)
def yF:V → Value
 | .ref a=>.ref a
 | .ty n=>.type n
 | _=>.none
def vK:V → Bool
 | .ref _=>true
 | .ty _=>true
 | _=>false
theorem Ip {x:V} {u:Value} (h:vK x = true) (r:RelV x u):u = yF x:=by
 cases x <;> first | exact r | cases h
theorem Dg {pins:List (Addr × Obj)} {σ:St} {H:Hp} {s:Shared} {x:V} {u t:Value} (I:Inv X pins σ H s) (rx:RelV x u) (ty:TyX X.K H x t):∃ P,PySem.W.KitX X.K u t P ∧ P s.heap ∧ u ≠ .builtin "__main__.__loader__#opaque" := by
 cases ty with
 | tup e =>
  cases rx
  obtain ⟨_,_,⟨o,h1,h2,_⟩,_⟩:=I.tuple e
  exact ⟨_,PySem.W.kitx_tuple,⟨o,h1,h2⟩,fun z=>nomatch z⟩
 | lst e =>
  cases rx
  obtain ⟨_,_,⟨o,_,h1,h2,_⟩,_⟩:=I.list e
  exact ⟨_,PySem.W.kitx_list,⟨o,h1,h2⟩,fun z=>nomatch z⟩
 | exc e c =>
  cases rx
  obtain ⟨p,_⟩:=(show cN X.prog X.w H s.heap _ (BX _ _) from I.hok _ _ e)
  exact ⟨_,Gs c,p,fun z=>nomatch z⟩
 | of h =>
  cases h with
  | non=>cases rx; exact ⟨_,PySem.W.kitx_none,trivial,fun z=>nomatch z⟩
  | bl y=>cases rx; exact ⟨_,PySem.W.kitx_bool,trivial,fun z=>nomatch z⟩
  | int i=>obtain ⟨_,rfl⟩:=rx; exact ⟨_,PySem.W.kitx_int,trivial,fun z=>nomatch z⟩
  | str i=>obtain ⟨_,rfl⟩:=rx; exact ⟨_,PySem.W.kitx_str,trivial,fun z=>nomatch z⟩
  | flt i=>obtain ⟨_,rfl⟩:=rx; exact ⟨_,PySem.W.kitx_float,trivial,fun z=>nomatch z⟩
  | @lst a xs ea =>
   cases rx
   obtain ⟨_,_,n,_,h1⟩:=(show cN X.prog X.w H s.heap a (.lst xs) from I.hok a _ ea)
   exact ⟨_,PySem.W.kitx_list,⟨_,h1,rfl⟩,fun z=>nomatch z⟩
  | @frz a ob xs ea =>
   cases rx
   obtain ⟨_,_,_,n,_,h1⟩:=(show cN X.prog X.w H s.heap a (.frz ob (.lst xs)) from I.hok a _ ea)
   exact ⟨_,PySem.W.kitx_list,⟨_,h1,rfl⟩,fun z=>nomatch z⟩
  | @tup a xs ea =>
   cases rx
   obtain ⟨_,_,_,o,h1,h2,_⟩:=(show cN X.prog X.w H s.heap a (.tup xs) from I.hok a _ ea)
   exact ⟨_,PySem.W.kitx_tuple,⟨o,h1,h2⟩,fun z=>nomatch z⟩
  | @dK a kvs ea =>
   cases rx
   obtain ⟨_,_,vs,_,o,es,ep,h1,h2,_⟩:=(show cN X.prog X.w H s.heap a (.dK kvs) from I.hok a _ ea)
   exact ⟨_,PySem.W.kitx_dict,⟨o,h1,h2.1⟩,fun z=>nomatch z⟩
  | @dT a kvs ea =>
   cases rx
   obtain ⟨_,_,xs,_,o,es,ep,h1,h2,_⟩:=(show cN X.prog X.w H s.heap a (.dT kvs) from I.hok a _ ea)
   exact ⟨_,PySem.W.kitx_dict,⟨o,h1,h2.1⟩,fun z=>nomatch z⟩
  | @ins a C dx fs ea cl ha hn htk hm =>
   cases rx
   obtain ⟨mA,O,_⟩:=JQ I.hok ea
   obtain ⟨od,J,_⟩:=O.look
   exact ⟨_,PySem.W.kitx_own (cl.get _) cl.hd ha hn htk hm,J,fun z=>nomatch z⟩
theorem Bm:dO X (.builtin "isinstance") (fun xs H Q=>∃ x c t b,xs = [x,c] ∧ TyX X.K H x t ∧ vK c = true ∧ PySem.W.kitOne X.K t (yF c) = some b ∧ Q (.bl b) H):=by
 intro pins s σ H xs us Q I r h
 obtain ⟨x,c,t,b,rfl,ty,hc,hk,q⟩:=h
 obtain ⟨u,w',rfl,ru,rw'⟩:=vals2 r
 rw [Ip hc rw']
 obtain ⟨P,Z,p,nb⟩:=Dg I ru ty
 exact PySem.W.kia_one Z I.kIn p hk nb fun tk=>⟨.bl b,H,I.tok tk,rfl,q⟩
end
end L2
namespace L2
open PySem PySem.Spec PyProof.Rows
theorem nG:bootBuiltins "len" = some (.builtin "len"):=by decide +kernel
theorem cE:bootBuiltins "isinstance" = some (.builtin "isinstance"):=by decide +kernel
theorem Gu:bootBuiltins "abs" = some (.builtin "abs"):=by decide +kernel
theorem Lx:bootBuiltins "max" = some (.builtin "max"):=by decide +kernel
theorem MG:bootBuiltins "min" = some (.builtin "min"):=by decide +kernel
theorem u0:bootBuiltins "sorted" = some (.builtin "sorted"):=by decide +kernel
theorem zy:bootBuiltins "int" = some (.type "int"):=by decide +kernel
theorem Jc:bootBuiltins "bool" = some (.type "bool"):=by decide +kernel
theorem MS:bootBuiltins "str" = some (.type "str"):=by decide +kernel
theorem iL:bootBuiltins "tuple" = some (.type "tuple"):=by decide +kernel
theorem ID:bootBuiltins "list" = some (.type "list"):=by decide +kernel
theorem wc:bootBuiltins "dict" = some (.type "dict"):=by decide +kernel
theorem L8:bootBuiltins "zip" = some (.type "zip"):=by decide +kernel
theorem yw:bootBuiltins "ValueError" = some (.type "ValueError"):=by decide +kernel
theorem Hy {P:Program} {w:World} {X:Cx}:Passes (CXE P w) X E0:=fun _ _ _ _ _ _ _ ⟨_,_,_,_,_,z⟩=>z.elim
structure fW (K:PySem.W.Frag) (x qual:Str) (st:Stmt) (f:Addr) (fd:FuncData) (dV:Value):Prop where
 ex:∃ (oc:Value) (od:Option Addr) (kV doc pm:Value) (an:Option Addr) (cdv ct:Value) (osl:Array (Option Value)),
  fd = PySem.W.fnOf x qual (Ax st) (tH st) (aa st) dV kV doc pm an cdv ct ∧ K.lookup f = some ⟨oc,od,.func fd,osl⟩ ∧ PySem.W.codeIn K cdv qual = true
 kp:PySem.W.keepIn K (.ref f) = true
section
variable {P:Program} {w:World} {K:PySem.W.Frag} {mg:Str → Option Value} {base:Heap} {dV:Value}
theorem fW.ok {x qual:Str} {st:Stmt} {f:Addr} {fd:FuncData} {N ps:List Str} {k:Nat} {sp:Sp} (F:fW K x qual st f fd dV) (S:bC N ps (aa st)) (len:∀ vs H Q E,sp vs H Q E → vs.length = ps.length)
  (hbody:∀ (cdv:Value) (A:Around) (outer:List Env) (s:Shared) (H:Hp) (vs:List V) (Q:VK) (E:XK),kH k (A.deeper (envOfC qual (aa st) s.heap.objs.size f cdv)) → sp vs H Q E →
   ∃ t,PSs (Bx (CXE P w) P w K mg base N qual (aa st) f cdv A outer s H E) (tH st) t ∧ t { nx:=fun _ H'=>Q .non H',rt:=Q } (start N vs) H):dw P w K mg base (CXE P w) (k + 1) f fd ps sp:=by
 obtain ⟨oc,od,kV,doc,pm,an,cdv,ct,osl,rfl,lk,hcd⟩:=F.ex
 exact NM lk hcd S len fun A outer s H vs Q E hr hsp=>hbody cdv A outer s H vs Q E hr hsp
theorem fW.binds {x qual:Str} {st:Stmt} {f:Addr} {fd:FuncData} {ps:List Str} (F:fW K x qual st f fd dV)
  (h:∀ (kV doc pm:Value) (an:Option Addr) (cdv ct:Value) (us:List Value),us.length = ps.length → bindArgs (PySem.W.fnOf x qual (Ax st) (tH st) (aa st) dV kV doc pm an cdv ct) ⟨us,[]⟩ = pure (ps.zip us)):Binds K fd ps []:=by
 obtain ⟨oc,od,kV,doc,pm,an,cdv,ct,osl,rfl,lk,hcd⟩:=F.ex
 exact Binds.all fun us hl=>h kV doc pm an cdv ct us hl
end
end L2
namespace L2
open PySem PySem.Spec PyProof.Rows
@[irreducible] def QS (X:Cx) (s:Stmt) (t:TS):Prop:=PS X s t
@[irreducible] def QT (X:Cx) (s:Expr) (t:TT):Prop:=PT X s t
@[irreducible] def QA (X:Cx) (s:List Expr) (t:TA):Prop:=PA X s t
set_option autoImplicit true
set_option relaxedAutoImplicit true
end L2
namespace L2
open PySem PySem.Spec PyProof.Rows
section
variable {prog:Program} {w:World} {A:Around} {R:Result → Shared → Prop} {s:Shared}
theorem Am {elt target iter:Expr} {ifs:List Expr} {scope:Scope} {pos:Pos} {it acc:Value} {env:Env} (I:Nat → Shared → Prop)
  (turn:∀ n s,I n s → wpAny (model prog w) A (pyNext it) (fun r s₁=>match r with
   | none=>R (.ok .next) s₁
   | some v=>wpAny (model prog w) A (letOwnedTupleGo target it v) (fun _ s₁'=>wpAny (model prog w) A (assign target env v) (fun _ s₂ =>
     wpAny (model prog w) A (forIn ifs true fun c r=>if r = true then do let ok ← isTrue c env (eval c env); pure (ForInStep.yield ok) else pure (ForInStep.yield r)) (fun ok s₃ =>
      if ok = true then wpAny (model prog w) A (eval elt env) (fun x s₄ =>
       wpAny (model prog w) A (call (.builtin "list.append") [acc,x]) (fun _ s₅=>∃ m,m < n ∧ I m s₅) (fun _ _=>False) s₄) (fun _ _=>False) s₃
      else ∃ m,m < n ∧ I m s₃) (fun _ _=>False) s₂) (fun _ _=>False) s₁') (fun _ _=>False) s₁) (fun _ _=>False) s)
  (n:Nat) (h:I n s):codeAny (model prog w) A (.compLoop (.ListComp elt [⟨target,iter,ifs,0⟩] scope pos) 0 it acc env) R s:=by
 refine codeAny_loop rfl I (fun n s hI=>?_) n h
 show wpAny _ A ((compTurn (.ListComp elt [⟨target,iter,ifs,0⟩] scope pos) 0 it acc env).onRaise (fun x=>do noteFrame x env; theTreesLotGoes x)) _ _ s
 refine wpAny_noted ?_
 rw [compTurn_list]
 refine wpAny_bind (wpAny_standAt (wpAny_bind (wpAny_mono (turn n s hI) (fun r s₁ h₁=>?_) fun _ _ h'=>h'.elim)))
 cases r with
 | none=>exact wpAny_pure h₁
 | some v =>
  refine wpAny_bind (wpAny_mono h₁ (fun _ s₁' h₁'=>?_) fun _ _ h'=>h'.elim)
  refine wpAny_bind (wpAny_mono h₁' (fun _ s₂ h₂=>wpAny_bind (wpAny_mono h₂ (fun ok s₃ h₃=>?_) fun _ _ h'=>h'.elim)) fun _ _ h'=>h'.elim)
  cases ok with
  | false=>exact wpAny_pure ⟨rfl,h₃⟩
  | true =>
   exact wpAny_bind (wpAny_bind (wpAny_mono h₃ (fun x s₄ h₄=>wpAny_bind (wpAny_mono h₄ (fun _ s₅ h₅=>wpAny_pure (wpAny_pure ⟨rfl,h₅⟩)) fun _ _ h'=>h'.elim)) fun _ _ h'=>h'.elim))
end
theorem xE {env:Env} {f:Str × NameKind → List (Str × Addr) → Sem (ForInStep (List (Str × Addr)))}
  (hf:∀ x cs,f x cs = if (x.2 == NameKind.free) = true then (do let c ← cellOf env x.1; pure (ForInStep.yield ((x.1,c) :: cs))) else pure (ForInStep.yield cs)) :
  ∀ (l:List (Str × NameKind)) (cs:List (Str × Addr)),(∀ x ∈ l,x.2 = .free → ∃ c,env.cells.lookup x.1 = some c) →
   ∃ cl,forIn l cs f = (pure cl:Sem _) ∧ (∀ x c,cl.lookup x = some c → cs.lookup x = some c ∨ env.cells.lookup x = some c) ∧
    (∀ x,(∃ c,cs.lookup x = some c) ∨ (x,NameKind.free) ∈ l → ∃ c,cl.lookup x = some c)
 | [],cs,_=>⟨cs,rfl,fun _ _ h=>.inl h,fun x h=>h.elim id (fun z=>by cases z)⟩
 | (n,k) :: l,cs,h=>by
  rw [List.forIn_cons,hf]
  by_cases hk:k = .free
  ·subst hk
   obtain ⟨c,hc⟩:=h (n,.free) List.mem_cons_self rfl
   obtain ⟨cl,e,h1,h2⟩:=xE hf l ((n,c) :: cs) fun x hx=>h x (List.mem_cons_of_mem _ hx)
   refine ⟨cl,?_,fun x c' q=>?_,fun x q=>h2 x ?_⟩
   ·have e1:cellOf env n = pure c:=by unfold cellOf; rw [hc]
    simp only [beq_self_eq_true,if_true,e1,pure_bind]
    exact e
   ·rcases h1 x c' q with z | z
    ·rw [List.lookup_cons] at z
     by_cases hx:(x == n) = true
     ·rw [hx] at z
      have:x = n:=eq_of_beq hx
      subst this
      exact .inr (by rw [hc]; exact z)
     ·rw [Bool.eq_false_iff.mpr hx] at z
      exact .inl z
    ·exact .inr z
   ·rcases q with ⟨c',z⟩ | z
    ·left
     rw [List.lookup_cons]
     cases x == n with
     | true=>exact ⟨c,rfl⟩
     | false=>exact ⟨c',z⟩
    ·rcases List.mem_cons.mp z with z | z
     ·left
      cases z
      rw [List.lookup_cons,beq_self_eq_true]
      exact ⟨c,rfl⟩
     ·exact .inr z
  ·obtain ⟨cl,e,h1,h2⟩:=xE hf l cs fun x hx=>h x (List.mem_cons_of_mem _ hx)
   refine ⟨cl,?_,h1,fun x q=>h2 x ?_⟩
   ·have e1:((n,k).2 == NameKind.free) = false:=by
     cases k <;> first | rfl | exact absurd rfl hk
    rw [e1]
    simp only [Bool.false_eq_true,if_false,pure_bind]
    exact e
   ·rcases q with z | z
    ·exact .inl z
    ·rcases List.mem_cons.mp z with z | z
     ·cases z; exact absurd rfl hk
     ·exact .inr z
theorem CB {scope:Scope} {env:Env} (h:∀ x ∈ scope.names,x.2 = .free → ∃ c,env.cells.lookup x.1 = some c) :
  ∃ cl,closureFor scope env = pure cl ∧ (∀ x c,cl.lookup x = some c → env.cells.lookup x = some c) ∧ (∀ x,(x,NameKind.free) ∈ scope.names → ∃ c,cl.lookup x = some c):=by
 obtain ⟨cl,e,h1,h2⟩:=xE (env:=env) (fun _ _=>rfl) scope.names [] h
 refine ⟨cl,?_,fun x c q=>(h1 x c q).elim (fun z=>by cases z) id,fun x q=>h2 x (.inr q)⟩
 unfold closureFor
 exact (congrArg (fun z:Sem (List (Str × Addr))=>z >>= fun r=>pure r) e).trans (by rw [pure_bind])
section
variable {env:Env}
def BD (env:Env):Str × NameKind → Str × NameKind:=fun (n,k)=>if (k == .free && env.scope.kind == .function && env.kindOf n == some .cell) then (n,.cell) else (n,k)
theorem Cw (p:Str × NameKind):(BD env p).1 = p.1:=by
 obtain ⟨n,k⟩:=p
 show (if _ then _ else _:Str × NameKind).1 = n
 split <;> rfl
theorem Bt (p:Str × NameKind):(BD env p).2 = p.2 ∨ (p.2 = .free ∧ (BD env p).2 = .cell):=by
 obtain ⟨n,k⟩:=p
 show (if _ then _ else _:Str × NameKind).2 = k ∨ _
 split
 ·rename_i h
  right
  rw [Bool.and_eq_true,Bool.and_eq_true] at h
  refine ⟨eq_of_beq h.1.1,?_⟩
  show (if _ then _ else _:Str × NameKind).2 = _
  rw [if_pos (by rw [Bool.and_eq_true,Bool.and_eq_true]; exact h)]
 ·left; rfl
theorem lO:∀ {names:List (Str × NameKind)} {x:Str} {k:NameKind},names.lookup x = some k → (names.map (BD env)).lookup x = some k ∨ (k = .free ∧ (names.map (BD env)).lookup x = some .cell)
 | [],_,_,h=>by cases h
 | p :: r,x,k,h=>by
  rw [List.map_cons]
  obtain ⟨n,k0⟩:=p
  have e1:=Cw (env:=env) (n,k0)
  have e2:=Bt (env:=env) (n,k0)
  generalize BD env (n,k0) = q at e1 e2 ⊢
  obtain ⟨n',k'⟩:=q
  have e1:n' = n:=e1
  subst e1
  rw [List.lookup_cons] at h ⊢
  cases hx:x == n' with
  | true =>
   rw [hx] at h
   cases h
   rcases e2 with e2 | ⟨e2,e3⟩
   ·left; exact congrArg some e2
   ·right; exact ⟨e2,congrArg some e3⟩
  | false =>
   rw [hx] at h
   exact lO h
theorem fY:∀ {names:List (Str × NameKind)} {x:Str} {k:NameKind},(names.map (BD env)).lookup x = some k → names.lookup x = some k ∨ (k = .cell ∧ names.lookup x = some .free)
 | [],_,_,h=>by cases h
 | p :: r,x,k,h=>by
  rw [List.map_cons] at h
  obtain ⟨n,k0⟩:=p
  have e1:=Cw (env:=env) (n,k0)
  have e2:=Bt (env:=env) (n,k0)
  generalize BD env (n,k0) = q at e1 e2 h
  obtain ⟨n',k'⟩:=q
  have e1:n' = n:=e1
  subst e1
  rw [List.lookup_cons] at h ⊢
  cases hx:x == n' with
  | true =>
   rw [hx] at h
   cases h
   rcases e2 with e2 | ⟨e2,e3⟩
   ·left; exact congrArg some e2.symm
   ·right; exact ⟨e3,congrArg some e2⟩
  | false =>
   rw [hx] at h
   exact fY h
theorem aI {sc:Scope} {x:Str} (h:sc.names.lookup x = some .local):(relabel sc env).names.lookup x = some .local:=by
 rcases lO (env:=env) h with z | ⟨z,_⟩
 ·exact z
 ·cases z
theorem xh {sc:Scope} {x:Str} (h:sc.names.lookup x = some .globalImplicit):(relabel sc env).names.lookup x = some .globalImplicit:=by
 rcases lO (env:=env) h with z | ⟨z,_⟩
 ·exact z
 ·cases z
theorem gE {sc:Scope} {x:Str} (h:sc.names.lookup x = some .free):Vis (relabel sc env) x:=by
 rcases lO (env:=env) h with z | ⟨_,z⟩
 ·exact .inr (.inr z)
 ·exact .inr (.inl z)
end
structure jb (N0 N:List Str) (k:Nat) (sc de:Scope):Prop where
 kind:sc.kind = .function
 cell:∀ y ∈ sc.names,y.2 ≠ .cell
 names:∀ y ∈ sc.names,y.2 = .local → sc.names.lookup y.1 = some .local
 len:N.length = N0.length + k
 nd:N.Nodup
 old:∀ p ∈ (N.take N0.length).zip N0,p.1 = p.2 ∨ sc.names.lookup p.1 = none
 nl:∀ n ∈ N.take N0.length,sc.names.lookup n ≠ some .local
 fr:∀ y ∈ sc.names,y.2 = .free → de.names.lookup y.1 = some .cell ∨ de.names.lookup y.1 = some .free
def cxC (X:Cx) (N:List Str) (sc:Scope) (cl:List (Str × Addr)) (C:Addr) (s:Shared) (H:Hp) (ex:List Addr):Cx where
 prog:=X.prog
 w:=X.w
 K:=X.K
 mg:=X.mg
 base:=X.base
 A:=X.A
 N:=N
 s₀:=s
 H₀:=H
 env:=compEnvC sc cl C X.env
 outer:=X.stack
 stack:=X.stack
 ex:=ex
 fn:=fun _=>false
 calm:=X.calm
 pn:=[]
 xe:=fun _ _=>False
theorem mem_of_lookupK {names:List (Str × NameKind)} {x:Str} {k:NameKind} (h:names.lookup x = some k):(x,k) ∈ names:=PySem.mem_of_lookup h
section
variable {X:Cx} {pins:List (Addr × Obj)} {σ:St} {H:Hp} {s:Shared} {N:List Str} {k:Nat} {sc:Scope} {cl:List (Str × Addr)} {C:Addr} {fp:List Addr} {h1:Heap} {tk:Nat}
theorem FX (I:Inv X pins σ H s) (S:jb X.N N k sc X.env.scope) (hcl1:∀ x c,cl.lookup x = some c → X.env.cells.lookup x = some c)
  (hcl2:∀ x,(x,NameKind.free) ∈ sc.names → ∃ c,cl.lookup x = some c) (hC:s.heap.objs.size ≤ C) (hf:∀ b ∈ fp,yu X pins H b) (hfp:∀ b ∈ fp,b < s.heap.objs.size)
  (hk:∀ b o,s.heap.get? b = some o → h1.get? b = some o) (hn:∃ m,h1.Ns C m) :
  Inv (cxC X N sc cl C s H fp) (X.pn ++ pins) (σ ++ List.replicate k none) H { s with heap:=h1,toks:=tk }:=by
 have oldlt:∀ b o,s.heap.get? b = some o → b ≠ C:=fun b o e=>Nat.ne_of_lt (Nat.lt_of_lt_of_le (Heap.lt_size e) hC)
 have kind:∀ x,((cxC X N sc cl C s H fp).env.kindOf x = some .cell ∨ (cxC X N sc cl C s H fp).env.kindOf x = some .free) → sc.names.lookup x = some .free:=fun x hx=>by
  rcases hx with hx | hx
  ·rcases fY (env:=X.env) hx with z | ⟨_,z⟩
   ·exact absurd rfl (S.cell _ (mem_of_lookupK z))
   ·exact z
  ·rcases fY (env:=X.env) hx with z | ⟨z,_⟩
   ·exact z
   ·cases z
 refine ⟨⟨I.ok.mod,S.kind,I.ok.glob,I.ok.blt,hC,fun x y c h1 h2=>I.ok.inj x y c (hcl1 _ _ h1) (hcl1 _ _ h2),fun x hx=>hcl2 x (mem_of_lookupK (kind x hx)),fun x c z _=>absurd (show false = true from z) Bool.false_ne_true,
  I.ok.hd,I.ok.frames,.inl rfl,fun b hb=>⟨Nat.ne_of_lt (Nat.lt_of_lt_of_le (hfp b hb) hC),fun x c e=>(hf b hb).2.2.2.2.1 x c (hcl1 _ _ e)⟩,I.bs,Nat.le_trans I.ok.bsz I.sz,fun b o e hb=>?_,fun b hb hb2=>?_,I.stack,I.zH⟩,
  rfl,I.bare,Un.kept hk,?_,fun x c e=>?_,I.hok.fresh hC,fun x c e=>I.freeC x c (hcl1 _ _ e),fun p hp=>?_,I.hok.kept hk,?_⟩
 ·rcases (hf b hb).2.2.2.1 with z | z
  ·exact I.ok.noex b o e z
  ·exact absurd (Nat.lt_of_lt_of_le (Heap.lt_size e) (Nat.le_trans I.ok.bsz z)) (Nat.lt_irrefl _)
 ·rcases List.mem_cons.mp (I.uN b hb2) with z | z
  ·exact (hf b hb).2.1 z
  ·exact (hf b hb).2.2.1 z
 ·obtain ⟨m,hn⟩:=hn
  refine ⟨m,hn,fun i x v e1 e2 e3=>?_⟩
  have hi:i < σ.length:=by
   by_cases hi:i < σ.length
   ·exact hi
   ·rw [List.getElem?_append_right (by omega),List.getElem?_replicate] at e2
    split at e2 <;> cases e2
  rw [List.getElem?_append_left hi] at e2
  have hi0:i < X.N.length:=by rw [← I.len]; exact hi
  have hiN:(N.take X.N.length)[i]? = some x:=by rw [List.getElem?_take_of_lt hi0]; exact e1
  have nloc:=S.nl x (List.mem_of_getElem? hiN)
  have hfree:sc.names.lookup x = some .free:=by
   rcases e3 with z | z | z
   ·rcases fY (env:=X.env) z with z | ⟨z,_⟩
    ·exact absurd z nloc
    ·cases z
   ·exact kind x (.inl z)
   ·exact kind x (.inr z)
  have hX:X.N[i]? = some x:=by
   have hz:((N.take X.N.length).zip X.N)[i]? = some (x,X.N[i]):=by
    rw [List.getElem?_zip_eq_some]
    exact ⟨hiN,List.getElem?_eq_getElem hi0⟩
   rcases S.old _ (List.mem_of_getElem? hz) with z | z
   ·have z:x = X.N[i]:=z
    rw [List.getElem?_eq_getElem hi0,← z]
   ·have z:sc.names.lookup x = none:=z
    rw [hfree] at z; cases z
  obtain ⟨m0,hn0,hl0⟩:=I.loc
  have vis:Vis X.env.scope x:=by
   rcases S.fr _ (mem_of_lookupK hfree) rfl with z | z
   ·exact .inr (.inl z)
   ·exact .inr (.inr z)
  obtain ⟨u,r,l⟩:=hl0 i x v hX e2 vis
  refine ⟨u,r,.inr ⟨?_,?_⟩⟩
  ·rcases gE (env:=X.env) hfree with z | z | z
   ·rcases fY (env:=X.env) z with z | ⟨z,_⟩
    ·rw [hfree] at z; cases z
    ·cases z
   ·exact .inl z
   ·exact .inr z
  ·rcases l with ⟨z,_⟩ | ⟨_,c,ec,ic⟩
   ·have z:X.env.scope.names.lookup x = some .local:=z
    rcases S.fr _ (mem_of_lookupK hfree) rfl with z2 | z2
    ·have z2:X.env.scope.names.lookup x = some .cell:=z2
     rw [z] at z2; cases z2
    ·have z2:X.env.scope.names.lookup x = some .free:=z2
     rw [z] at z2; cases z2
   ·obtain ⟨c',ec'⟩:=hcl2 x (mem_of_lookupK hfree)
    have:=hcl1 _ _ ec'
    rw [ec] at this
    cases this
    obtain ⟨o,ho,hd⟩:=ic
    exact ⟨c,ec',o,hk _ _ ho,hd⟩
 ·obtain ⟨v,o,ho,hd⟩:=I.cell x c (hcl1 _ _ e)
  exact ⟨v,o,hk _ _ ho,hd⟩
 ·have hp:p ∈ X.pn ++ pins:=hp
  obtain ⟨e,n,ne,nf,d⟩:=I.pin p hp
  refine ⟨hk _ _ e,n,oldlt _ _ e,fun hb=>?_,d⟩
  rcases List.mem_cons.mp (I.uN _ hb) with z | z
  ·exact ne z
  ·exact nf z
 ·show (σ ++ List.replicate k none).length = N.length
  rw [List.length_append,List.length_replicate,I.len,S.len]
theorem FP {H':Hp} {σ':St} {s':Shared} {D:Addr} {ys:List V} {its:List Value} (I:Inv X pins σ H s) (I':Inv (cxC X N sc cl C s H fp) (X.pn ++ pins) σ' H' s') (hD:s.heap.objs.size ≤ D) (hDn:H' D = none)
  (pl:s'.heap.PlainList D its.toArray) (rv:Vals ys its) (hl:ys.length ≤ sizeLine) (hf:∀ b ∈ fp,yu X pins H b):Inv X pins σ (upd H' D (.lst ys)) s':=by
 obtain ⟨n,hpl⟩:=pl
 have u:=I'.base
 have ne:∀ b o,s.heap.get? b = some o → b ≠ D:=fun b o e=>Nat.ne_of_lt (Nat.lt_of_lt_of_le (Heap.lt_size e) hD)
 have nH:∀ b o,H' b = some o → b ≠ D:=fun b o e=>bu e hDn
 refine I.KH I'.os ⟨u.keep,u.slot,fun b o e n nx=>?_,u.there,fun b xs e=>?_,fun b o v e=>?_,fun b ps e=>?_⟩ (fun b o e=>?_) I'.bare (ch:=fp) fun b hb=>?_
 ·rw [aR (ne b o e)]; exact u.free b o e n nx
 ·have:=u.tups b xs e
  rw [aR (nH _ _ this)]; exact this
 ·have:=u.frzs b o v e
  rw [aR (nH _ _ this)]; exact this
 ·obtain ⟨more,this⟩:=u.tbls b ps e
  exact ⟨more,by rw [aR (nH _ _ this)]; exact this⟩
 ·by_cases hb:b = D
  ·subst hb
   rw [cR] at e
   cases e
   exact ⟨hl,its,n,rv,hpl⟩
  ·rw [aR hb] at e
   exact (I'.hok b o e).vU (fun _ _ _ q=>q) (fun c q=>by rw [aR (nH _ _ q)]; exact q) fun c xs q=>by rw [aR (nH _ _ q)]; exact q
 ·obtain ⟨f0,f1,f2,f3,f4,f5⟩:=hf b hb
  exact ⟨f3,f1,f4,f5⟩
end
theorem Inv.CQ {X:Cx} {pins:List (Addr × Obj)} {σ:St} {H:Hp} {s:Shared} (I:Inv X pins σ H s) {a:Addr} (h:s.heap.objs.size ≤ a):a ∉ frs X.stack:=fun hb=>by
 rcases List.mem_cons.mp (I.uN a hb) with z | z
 ·exact absurd (Nat.lt_of_lt_of_le I.lt (by rw [← z]; exact h)) (Nat.lt_irrefl _)
 ·exact I.OS h z
def PF (X:Cx) (ifs:List Expr) (t:TT):Prop:=∀ (pins:List (Addr × Obj)) (s:Shared) (σ:St) (H:Hp) (Q:Bool → Hp → Prop),Inv X pins σ H s → t σ H Q →
 wpAny (model X.prog X.w) X.A (forIn ifs true fun c r=>if r = true then do let ok ← isTrue c X.env (eval c X.env); pure (ForInStep.yield ok) else pure (ForInStep.yield r)) (TP X pins σ Q) X.xe s
def NT:TT:=fun _ H Q=>Q true H
theorem MY {X:Cx}:PF X [] NT:=fun _ _ _ H _ I h=>wpAny_tests_nil ⟨H,I,h⟩
theorem MT {X:Cx} {c:Expr} {t:TT} (hc:PT X c t):PF X [c] t:=fun pins s σ H Q I h=>wpAny_tests_one (hc pins s σ H Q I h)
def Kn (J:It) (g:TG) (tt:TT) (te:TE) (Q:VK) (σ:St) (H:Hp):Prop:=∃ W:Nat → Nat → St → List V → Hp → Prop,(∃ m,W 0 m σ [] H) ∧ ∀ i m σ ys H,W i m σ ys H → ys.length ≤ sizeLine ∧
  ((J.stop i H ∧ ∀ r,H r = none → Q (.ref r) (upd H r (.lst ys))) ∨
   (J.go i H ∧ ∃ N:St → List V → Hp → Prop,(∀ σ' ys' H',N σ' ys' H' → ∃ m',m' < m ∧ W (i + 1) m' σ' ys' H') ∧
     ∀ x H',J.yld i H x H' → g x σ H' fun σ2 H2=>tt σ2 H2 fun b H3=>if b = true then te σ2 H3 fun y H4=>N σ2 (ys ++ [y]) H4 else N σ2 ys H3))
def Gz (n:Nat) (wi:TI) (g:TG) (tt:TT) (te:TE):TE:=fun σ H Q=>wi σ H fun J H1=>Kn J g tt te Q (σ ++ List.replicate n none) H1
section
variable {X:Cx} {pins:List (Addr × Obj)} {σ:St} {H:Hp} {s:Shared} {N:List Str} {k:Nat} {sc:Scope} {cl:List (Str × Addr)} {C:Addr} {fp:List Addr} {J:It} {it:Addr} {tn:Nat → Heap → Prop}
 {tg elt iter:Expr} {ifs:List Expr} {pos:Pos} {g:TG} {tt:TT} {te:TE} {Q:VK} {E:Value → Shared → Prop} {RR:Value → Addr → Result → Shared → Prop}
theorem xw (hc:X.calm = true) (S:jb X.N N k sc X.env.scope) (hcl1:∀ x c,cl.lookup x = some c → X.env.cells.lookup x = some c)
  (hcl2:∀ x,(x,NameKind.free) ∈ sc.names → ∃ c,cl.lookup x = some c) (I:Inv X pins σ H s) (T:Turn X.prog X.w X.K tg J fp it tn) (st:tn 0 s.heap) (hf:∀ b ∈ fp,yu X pins H b)
  (B:Kn J g tt te Q (σ ++ List.replicate k none) H)
  (hg:∀ C,PG (cxC X N sc cl C s H fp) tg g) (ht:∀ C,PF (cxC X N sc cl C s H fp) ifs tt) (he:∀ C,PE (cxC X N sc cl C s H fp) elt te)
  (hRR:∀ D C s' H' ys,Inv X pins σ (upd H' D (.lst ys)) s' → s.heap.objs.size ≤ C → upd H' D (.lst ys) C = none → (∃ m,s'.heap.Ns C m) → Q (.ref D) (upd H' D (.lst ys)) → RR (.ref D) C (.ok .next) s') :
  wpAny (model X.prog X.w) X.A (newList []) (fun acc s₃=>wpAny (model X.prog X.w) X.A (newFunctionEnv sc X.env.globals cl [] X.env.qual none .none (some X.env)) (fun cenv s₄ =>
   codeAny (model X.prog X.w) X.A (.compStart (.ListComp elt [⟨tg,iter,ifs,0⟩] sc pos) 0 (.ref it) acc { cenv with scope:=relabel sc X.env }) (RR acc cenv.locals) s₄) E s₃) E s:=by
 refine wpAny_newObj_type (wpAny_newFunctionEnv S.cell (by intro y hy; simp at hy) (fun h₁ hns₁ hsb₁=>?_) S.kind)
 dsimp only at hns₁ hsb₁ ⊢
 generalize hH2:s.heap.push { cls:=.type "list",dict:=none,data:=.seq ([]:List Value).toArray } = H2 at hns₁ hsb₁ ⊢
 have hC:H2.objs.size = s.heap.objs.size + 1:=by rw [← hH2,Heap.size_push]
 have hDC:s.heap.objs.size ≠ H2.objs.size:=by rw [hC]; exact Nat.ne_of_lt (Nat.lt_succ_self _)
 have hCle:s.heap.objs.size ≤ H2.objs.size:=by rw [hC]; exact Nat.le_succ _
 have below:∀ b,b < s.heap.objs.size → b ≠ H2.objs.size ∧ b ≠ s.heap.objs.size:=fun b hb=>⟨by rw [hC]; exact Nat.ne_of_lt (Nat.lt_succ_of_lt hb),Nat.ne_of_lt hb⟩
 have old:∀ b o,s.heap.get? b = some o → h₁.get? b = some o:=fun b o e=>hsb₁.extBut b o (below b (Heap.lt_size e)).1 (Heap.get?_push_of_some _ (hH2 ▸ Heap.get?_push_of_some _ e))
 have hacc:h₁.PlainList s.heap.objs.size #[]:=⟨_,hsb₁.extBut _ _ hDC (Heap.get?_push_of_some _ (hH2 ▸ Heap.get?_push_size _ rfl))⟩
 have hfp:∀ b ∈ fp,b < s.heap.objs.size:=fun b hb=>let ⟨o,e,_⟩:=T.obj 0 _ st b hb; Heap.lt_size e
 have st1:tn 0 h₁:=T.keep _ _ _ st fun b hb o e=>old b o e
 have I0:=FX (tk:=s.toks + ([]:List (Str × Value)).length) I S hcl1 hcl2 hCle hf hfp old ⟨_,hns₁⟩
 generalize H2.objs.size = C at hns₁ hsb₁ hC hDC hCle below I0 ⊢
 generalize hD:s.heap.objs.size = D at hC hDC hCle below hacc hfp ⊢
 have hDle:s.heap.objs.size ≤ D:=by rw [hD]; exact Nat.le_refl _
 have fpok:∀ {H':Hp} {o:Obj},(∀ b ∈ fp,H' b = none) → ∀ b ∈ fp,yu (cxC X N sc cl C s H fp) ((X.pn ++ pins) ++ [(D,o)]) H' b:=fun {H' o} hn b hb=>by
  obtain ⟨f0,f1,f2,f3,f4,f5⟩:=hf b hb
  refine ⟨hn b hb,(below b (hfp b hb)).1,fun z=>?_,.inl hb,fun x c e=>f4 x c (hcl1 _ _ e),fun p hp=>?_⟩
  ·rcases List.mem_cons.mp (I.uN b z) with z | z
   ·exact f1 z
   ·exact f2 z
  ·have hp:p ∈ (X.pn ++ pins) ++ [(D,o)]:=hp
   rcases List.mem_append.mp hp with z | z
   ·exact f5 p z
   ·have:p = (D,o):=by simpa using z
    rw [this]
    exact Ne.symm (below b (hfp b hb)).2
 have loop:∀ s₃:Shared,s₃ = { s with heap:=h₁,toks:=s.toks + ([]:List (Str × Value)).length } →
   codeAny (model X.prog X.w) X.A (.compLoop (.ListComp elt [⟨tg,iter,ifs,0⟩] sc pos) 0 (.ref it) (.ref D) (compEnvC sc cl C X.env)) (RR (.ref D) C) s₃:=by
  rintro s₃ rfl
  obtain ⟨W,⟨m0,w0⟩,step⟩:=B
  refine Am (fun n s'=>∃ i σ' H' ys its,Inv (cxC X N sc cl C s H fp) (X.pn ++ pins) σ' H' s' ∧ tn i s'.heap ∧ (∀ b ∈ fp,H' b = none) ∧ H' D = none ∧ s'.heap.PlainList D (its:List Value).toArray ∧ Vals ys its ∧ W i n σ' ys H') ?_ m0
   ⟨0,_,H,[],[],I0,st1,fun b hb=>(hf b hb).1,I.hok.fresh hDle,hacc,.nil,w0⟩
  rintro n s3 ⟨i,σ3,H3,ys,its,I3,st3,fr3,hD3,⟨nn,pl3⟩,rv3,w3⟩
  obtain ⟨hl,cs⟩:=step i n σ3 ys H3 w3
  have pinD:∀ {σ':St} {H':Hp} {s':Shared} {o:Obj},Inv (cxC X N sc cl C s H fp) (X.pn ++ pins) σ' H' s' → H' D = none → s'.heap.get? D = some o → (∀ v,o.data ≠ .cell v) → Inv (cxC X N sc cl C s H fp) ((X.pn ++ pins) ++ [(D,o)]) σ' H' s':=fun {σ' H' s' o} I' hn e d =>
   I'.zO fun p hp=>(List.mem_append.mp hp).elim (fun z=>I'.pin p (List.mem_append_right _ z)) fun z=>by
    have:p = (D,o):=by simpa using z
    subst this
    exact ⟨e,hn,hDC,fun z=>I.CQ hDle z,d⟩
  have I3p:=pinD I3 hD3 pl3 fun v z=>by cases z
  rcases cs with ⟨stop,q⟩ | ⟨go,NN,hN,nx⟩
  ·refine thn (T.done (cxC X N sc cl C s H fp) rfl rfl rfl hc i _ s3 σ3 H3 _ I3p (fpok fr3) st3 stop) fun r s4 ⟨hr,I4⟩=>?_
   subst hr
   have d4:=I4.pin (D,_) (List.mem_append_right _ (List.mem_append_right _ (List.mem_singleton.mpr rfl)))
   have I5:=FP I I4.jU hDle d4.2.1 ⟨nn,d4.1⟩ rv3 hl hf
   refine hRR D C s4 H3 ys I5 (by rw [hD]; exact hCle) ?_ (let ⟨m,hm,_⟩:=I4.loc; ⟨m,hm⟩) (q D d4.2.1)
   rw [aR (Ne.symm hDC)]
   exact I4.free
  ·refine thn (T.item (cxC X N sc cl C s H fp) rfl rfl rfl hc i _ s3 σ3 H3 _ I3p (fpok fr3) st3 go) fun r s4 ⟨u,hr,h4⟩=>?_
   subst hr
   refine thn h4 fun _ s5 ⟨x,H5,I5,r5,y5,st5,fr5⟩=>?_
   have I5':=I5.pinned (fpok fr5) (T.obj _ _ st5)
   refine thn (hg C _ s5 σ3 H5 x u _ I5' r5 (nx x H5 y5)) fun _ s6 ⟨σ6,H6,I6,q6⟩=>?_
   refine thn (ht C _ s6 σ6 H6 _ I6 q6) fun b s7 ⟨H7,I7,q7⟩=>?_
   have itK:∀ {s8:Shared} {H8:Hp},Inv (cxC X N sc cl C s H fp) (((X.pn ++ pins) ++ [(D,({ cls:=.type "list",data:=.seq its.toArray nn }:Obj))]) ++ wA fp s5.heap) σ6 H8 s8 → tn (i + 1) s8.heap ∧ ∀ b ∈ fp,H8 b = none:=fun {s8 H8} I8=>by
    refine ⟨T.keep _ _ _ st5 fun b hb o e=>(I8.pin (b,o) (List.mem_append_right _ (List.mem_append_right _ (og hb e)))).1,fun b hb=>?_⟩
    obtain ⟨o,e,d⟩:=T.obj _ _ st5 b hb
    exact (I8.pin (b,o) (List.mem_append_right _ (List.mem_append_right _ (og hb e)))).2.1
   cases b with
   | false =>
    have q7:NN σ6 ys H7:=by simpa using q7
    obtain ⟨m',hm,w7⟩:=hN _ _ _ q7
    obtain ⟨t7,f7⟩:=itK I7
    have d7:=I7.pin (D,_) (List.mem_append_right _ (List.mem_append_left _ (List.mem_append_right _ (List.mem_singleton.mpr rfl))))
    show ∃ m,m < n ∧ _
    exact ⟨m',hm,i + 1,σ6,H7,ys,its,I7.jU.jU,t7,f7,d7.2.1,⟨nn,d7.1⟩,rv3,w7⟩
   | true =>
    have q7:te σ6 H7 fun y H4=>NN σ6 (ys ++ [y]) H4:=by simpa using q7
    show wpAny _ _ _ _ _ _
    refine thn (he C _ s7 σ6 H7 _ I7 q7) fun yv s8 ⟨y,H8,I8,r8,q8⟩=>?_
    obtain ⟨m',hm,w9⟩:=hN _ _ _ q8
    obtain ⟨t8,f8⟩:=itK I8
    have d8:=I8.pin (D,_) (List.mem_append_right _ (List.mem_append_left _ (List.mem_append_right _ (List.mem_singleton.mpr rfl))))
    refine wpAny_list_append_plain (hsz:=by rw [List.size_toArray,← rv3.length]; exact hl) ⟨nn,d8.1⟩ fun h9 pl9 sb9=>?_
    have I9:Inv (cxC X N sc cl C s H fp) (X.pn ++ pins) σ6 H8 { s8 with heap:=h9 }:=I8.jU.jU.turned (t':=s8.toks) (it:=D) (fun b o hb e=>(sb9.2 b hb).trans e) d8.2.1 hDC (.inr hDle) (fun x c e z=>?_) (fun p hp z=>?_)
    ·refine ⟨m',hm,i + 1,σ6,H8,ys ++ [y],its ++ [yv],I9,T.keep _ _ _ t8 fun b hb o e=>(sb9.2 b (below b (hfp b hb)).2).trans e,f8,d8.2.1,?_,rv3.append (.cons r8 .nil),w9⟩
     rw [← List.push_toArray]
     exact pl9
    ·obtain ⟨v,q⟩:=I.cell x c (hcl1 _ _ e)
     exact absurd (Nat.lt_of_lt_of_le q.lt (by rw [z]; exact hDle)) (Nat.lt_irrefl _)
    ·have hp:p ∈ X.pn ++ pins:=hp
     exact absurd (Nat.lt_of_lt_of_le (Heap.lt_size (I.pin p hp).1) (by rw [z]; exact hDle)) (Nat.lt_irrefl _)
 exact codeAny_compStart_list (loop _ rfl) (T.self _ _ _ _ _ st1 (loop _ rfl))
end
section
variable {X:Cx} {N:List Str} {k:Nat} {sc:Scope} {tg elt iter:Expr} {ifs:List Expr} {pos:Pos} {g:TG} {tt:TT} {te:TE} {wi:TI}
theorem wy {pins:List (Addr × Obj)} {σ:St} {H:Hp} {s:Shared} (I:Inv X pins σ H s) (S:jb X.N N k sc X.env.scope) :
  ∃ cl,closureFor sc X.env = pure cl ∧ (∀ x c,cl.lookup x = some c → X.env.cells.lookup x = some c) ∧ (∀ x,(x,NameKind.free) ∈ sc.names → ∃ c,cl.lookup x = some c) :=
 CB fun x hx e=>I.ok.has x.1 (S.fr x hx e)
theorem Inv.letGo {pins:List (Addr × Obj)} {σ:St} {H H0:Hp} {s s0:Shared} {h':Heap} {C:Addr} (I0:Inv X pins σ H0 s0) {σ':St} (I:Inv X pins σ' H s) (hC:s0.heap.objs.size ≤ C) (hn:H C = none) (sb:Heap.SameBut C s.heap h'):Inv X pins σ' H { s with heap:=h' } :=
 I.turned (t':=s.toks) (it:=C) (fun b o hb e=>(sb.2 b hb).trans e) hn (Nat.ne_of_gt (Nat.lt_of_lt_of_le I0.lt hC)) (.inr (Nat.le_trans I0.sz hC))
  (fun x c e z=>by
   obtain ⟨v,q⟩:=I0.cell x c e
   exact absurd (Nat.lt_of_lt_of_le q.lt (by rw [z]; exact hC)) (Nat.lt_irrefl _))
  (fun p hp z=>absurd (Nat.lt_of_lt_of_le (Heap.lt_size (I0.pin p hp).1) (by rw [z]; exact hC)) (Nat.lt_irrefl _))
theorem IU (hc:X.calm = true) (S:jb X.N N k sc X.env.scope) (hi:PI X tg iter wi) (hg:∀ cl C s H fp,PG (cxC X N sc cl C s H fp) tg g) (ht:∀ cl C s H fp,PF (cxC X N sc cl C s H fp) ifs tt)
  (he:∀ cl C s H fp,PE (cxC X N sc cl C s H fp) elt te) (hs:∀ x,foldedSetIterable iter X.env x = pure x:=by intro _; rfl):PE X (.ListComp elt [⟨tg,iter,ifs,0⟩] sc pos) (Gz k wi g tt te):=by
 intro pins s σ H Q I h
 obtain ⟨cl,hclos,h1,h2⟩:=wy I S
 rw [eval_ListComp]
 refine wpAny_comprehension_free (use:=none) rfl hs hclos S.kind S.names (thn (hi pins s σ H _ I h) fun v s1 q1=>thn q1 fun itv s2 q2=>?_)
 obtain ⟨it,fp,tn,J,H2,rfl,I2,T,st2,f2,B⟩:=q2
 refine xw (RR:=fun acc C=>compPost (model X.prog X.w) X.A X.xe none (EP X pins σ Q) acc C) hc S h1 h2 I2 T st2 f2 B (fun C=>hg cl C s2 H2 fp) (fun C=>ht cl C s2 H2 fp) (fun C=>he cl C s2 H2 fp) ?_
 intro D C s' H' ys I' hC hn hm q
 obtain ⟨m,hm⟩:=hm
 exact ⟨m,hm,fun h' sb=>⟨.ref D,_,I2.letGo I' hC hn sb,rfl,q⟩⟩
theorem JV {i:Nat} {x:Str} {px spos:Pos} (hc:X.calm = true) (S:jb X.N N k sc X.env.scope) (hN:X.N.Nodup) (hx:X.N[i]? = some x) (hl:X.env.scope.names.lookup x = some .local)
  (hsw:swapsWith (.ListComp elt [⟨tg,iter,ifs,0⟩] sc pos) (some (.Name x px)) spos.line X.env = pure true) (hi:PI X tg iter wi) (hg:∀ cl C s H fp,PG (cxC X N sc cl C s H fp) tg g) (ht:∀ cl C s H fp,PF (cxC X N sc cl C s H fp) ifs tt)
  (he:∀ cl C s H fp,PE (cxC X N sc cl C s H fp) elt te) (hs:∀ x,foldedSetIterable iter X.env x = pure x:=by intro _; rfl):PS X (.Assign [.Name x px] (.ListComp elt [⟨tg,iter,ifs,0⟩] sc pos) spos) (Ir (Gz k wi g tt te) (FH i)):=by
 intro pins s σ H D0 I h
 obtain ⟨cl,hclos,h1,h2⟩:=wy I S
 rw [exec_Assign_Name_used _ _ _ _ hsw]
 refine wpAny_bind (wpAny_standAt (wpAny_bind ?_))
 show wpAny _ X.A (do let _ ← comprehension (.ListComp elt [⟨tg,iter,ifs,0⟩] sc pos) sc X.env _ (newList []) false (eval iter X.env) (some (assign (.Name x px) X.env))) _ _ s
 refine wpAny_bind (thn (wpAny_comprehension_free (use:=some (assign (.Name x px) X.env)) (Q:=fun _ s'=>SP X pins D0 .next s') rfl hs hclos S.kind S.names
  (thn (hi pins s σ H _ I h) fun v s1 q1=>thn q1 fun itv s2 q2=>?_)) fun _ s' hq=>wpAny_pure (wpAny_pure hq))
 obtain ⟨it,fp,tn,J,H2,rfl,I2,T,st2,f2,B⟩:=q2
 refine xw (RR:=fun acc C=>compPost (model X.prog X.w) X.A X.xe (some (assign (.Name x px) X.env)) (fun _ s'=>SP X pins D0 .next s') acc C) hc S h1 h2 I2 T st2 f2 B (fun C=>hg cl C s2 H2 fp) (fun C=>ht cl C s2 H2 fp) (fun C=>he cl C s2 H2 fp) ?_
 intro D C s' H' ys I' hC hn hm q
 obtain ⟨m,hm⟩:=hm
 show wpAny _ X.A (assign (.Name x px) X.env (.ref D)) _ _ _
 refine wpAny_assign_Name (yL I' hN hx (.inl hl) (v:=.ref D) rfl (fun s'' I'' ch=>?_) (.inr hl))
 obtain ⟨a,sb,ha⟩:=ch
 refine ⟨m,hm.sameBut sb ?_,fun h' sb'=>⟨_,_,I2.letGo I'' hC hn sb',q⟩⟩
 rintro rfl
 rcases ha with z | z
 ·exact absurd (Nat.lt_of_lt_of_le I2.lt (by rw [← z]; exact hC)) (Nat.lt_irrefl _)
 ·obtain ⟨v,q⟩:=I2.cell x _ z
  exact absurd (Nat.lt_of_lt_of_le q.lt hC) (Nat.lt_irrefl _)
end
end L2
namespace L2
open PySem PySem.Spec PyProof.Rows
section
variable {prog:Program} {w:World} {A:Around} {E:Value → Shared → Prop}
theorem zq {it l:Addr} {items:Array Value} (hne:l ≠ it):∀ (n i:Nat) (s:Shared) (Q:List Value → Shared → Prop),s.heap.IsListIter it l i → s.heap.IsList l items → i + n ≤ items.size →
  (∀ h',h'.IsListIter it l (i + n) → Heap.SameBut it s.heap h' → Q ((items.toList.drop i).take n) { s with heap:=h' }) → wpAny (model prog w) A (draw (.ref it) n) Q E s
 | 0,i,s,Q,hit,_,_,hQ=>by
  show wpAny _ _ (pure []) Q E s
  exact wpAny_pure (by simpa using hQ s.heap hit (Heap.SameBut.refl ..))
 | n + 1,i,s,Q,hit,ht,hle,hQ=>by
  have hlt:i < items.size:=by omega
  show wpAny _ _ (pyNext (.ref it) >>= _) Q E s
  refine wpAny_bind (wpAny_pyNext_list_item hit ht (x:=items[i]) (by simp [hlt]) fun h₁ hit₁ hs₁=>?_)
  refine wpAny_bind (wpAny_holding (zq hne n (i + 1) _ _ hit₁ (ht.extBut hs₁.extBut hne) (by omega) fun h₂ hit₂ hs₂=>wpAny_pure ?_))
  have hd:items.toList.drop i = items[i] :: items.toList.drop (i + 1):=by simp [List.drop_eq_getElem_cons,hlt]
  have:=hQ h₂ (by rw [show i + (n + 1) = i + 1 + n by omega]; exact hit₂) (hs₁.trans hs₂)
  rw [hd,List.take_succ_cons] at this
  exact this
theorem uS {s:Shared} {l:Addr} {items:Array Value} {Q:List Value → Shared → Prop} (hh:A.handled = none) (ht:s.heap.IsList l items)
  (hQ:∀ h',Heap.ExtBut s.heap.objs.size s.heap h' → Q items.toList { s with heap:=h' }):wpAny (model prog w) A (unpackItems (.ref l) items.size none) Q E s:=by
 have hlt:l ≠ s.heap.objs.size:=by obtain ⟨o,ho,_⟩:=ht; exact Nat.ne_of_lt (Heap.lt_size ho)
 have htp:∀ ob,(s.heap.push ob).IsList l items:=fun ob=>by obtain ⟨o,ho,r⟩:=ht; exact ⟨o,Heap.get?_push_of_some _ ho,r⟩
 unfold unpackItems
 refine wpAny_bind ?_
 ·unfold notIterableAtAll
  refine wpAny_bind (wpAny_specialOf ht.typeIs slot_list_iter.lookup ?_)
  refine wpAny_pure ?_
  simp only [Bool.false_eq_true,if_false]
  refine wpAny_bind (wpAny_holding (wpAny_pyIter_list ht ?_))
  refine wpAny_bind (wpAny_holding (zq hlt items.size 0 _ _ ⟨_,Heap.get?_push_size _ rfl,rfl,rfl⟩ (htp _) (by omega) fun h₁ hit₁ hs₁=>?_))
  have hall:List.take items.size (List.drop 0 items.toList) = items.toList:=by
   rw [List.drop_zero]; exact List.take_of_length_le (by simp)
  rw [hall]
  rw [if_neg (by simp)]
  have ht₁:h₁.IsList l items:=(htp _).extBut hs₁.extBut hlt
  refine wpAny_bind (wpAny_holding (wpAny_pyNext_list_end hh hit₁ ht₁ (by simp) fun h₂ he₂=>?_))
  simp only [Option.isSome_none,Bool.false_eq_true,if_false]
  refine wpAny_pure (hQ h₂ fun b o hb e=>he₂ b o hb (hs₁.extBut b o hb (Heap.get?_push_of_some _ e)))
end
section
variable {X:Cx} {pos:Pos}
def Pz (K:PySem.W.Frag) (n:Nat) (t:TGs):TG:=fun v σ H Q=>∃ a xs,v = .ref a ∧ SqL K H a xs ∧ xs.length = n ∧ t xs σ H Q
theorem MM {es:List Expr} {k:Nat} {t:TGs} {n:Nat} (hc:X.calm = true) (h:PGs X es t)
  (hn:(assignEach es X.env).length = n:=by rfl) (hst:(assignEach es X.env).findIdx? (·.1) = none:=by rfl):PG X (.Tuple es k pos) (Pz X.K n t):=by
 intro pins s σ H v u Q I r hw
 obtain ⟨a,xs,e1,hq,hl,hw⟩:=hw
 subst e1
 cases r
 obtain ⟨its,rv,ht,hz⟩:=I.list hq
 rw [assign_Tuple]
 refine wpAny_bind (wpAny_standAt ?_)
 unfold unpack
 have e:(assignEach es X.env).length = its.toArray.size:=by rw [hn,← hl,rv.length,List.size_toArray]
 rw [e,hst]
 refine wpAny_bind (wpAny_holding (uS (I.ok.hd hc) ht.isList fun h' hx=>?_))
 have I1:Inv X pins σ H { s with heap:=h' }:=I.kept (t':=s.toks) fun b o e=>hx b o (Nat.ne_of_lt (Heap.lt_size e)) e
 exact h pins _ σ H xs _ Q I1 (by simpa using rv) hw
end
theorem Du {env:Env} {elt:Expr} {gs:List Comprehension} {sc:Scope} {pos px:Pos} {x:Str} {line:Nat} (h1:env.blockKind = .function) (h2:env.kindOf x = some .local) (h3:(px.line == pos.line) = true)
  (h4:(sc.names.any fun p=>p.1 == x && (p.2 == .local || p.2 == .cell)) = false):swapsWith (.ListComp elt gs sc pos) (some (.Name x px)) line env = pure true:=by
 unfold swapsWith
 show (pure (env.blockKind == .function && env.kindOf x == some .local && px.line == pos.line && !(sc.names.any fun p=>p.1 == x && (p.2 == .local || p.2 == .cell))):Sem Bool) = pure true
 rw [h1,h2,h3,h4]
 rfl
end L2
namespace L2
open PySem PySem.Spec PyProof.Rows PySem.W
section
variable {X:Cx} {tg:Expr}
def Po (K:PySem.W.Frag) (tl:TE):TI:=fun σ H R=>tl σ H fun x H1=>∃ a,x = .ref a ∧ (((∃ xs,SqL K H1 a xs) ∧ R (Itl K a) H1) ∨ ((∃ xs,SqT K H1 a xs) ∧ R (Itt K a) H1))
theorem Mm {l:Expr} {tl:TE} (hl:PE X l tl):PI X tg l (Po X.K tl):=by
 intro pins s σ H R I h
 refine thn (hl pins s σ H _ I h) fun v s1 ⟨x,H1,I1,r1,q1⟩=>?_
 obtain ⟨a,rfl,⟨⟨xs,hq⟩,q⟩ | ⟨⟨xs,hq⟩,q⟩⟩:=q1
 ·cases r1
  obtain ⟨its,rv,p,hz⟩:=I1.list hq
  refine wpAny_pyIter_list p.isList ⟨s1.heap.objs.size,[s1.heap.objs.size],_,_,H1,rfl,I1.kept (t':=s1.toks) fun b o e=>Heap.get?_push_of_some _ e,EO a _,⟨_,Heap.get?_push_size _ rfl,rfl,rfl⟩,fun b hb=>?_,q⟩
  rw [List.mem_singleton.mp hb]
  exact I1.JD (Nat.le_refl _) I1.fresh
 ·cases r1
  obtain ⟨its,rv,p,hz⟩:=I1.tuple hq
  refine wpAny_pyIter_tuple (show s1.heap.IsTuple a its.toArray from p) ⟨s1.heap.objs.size,[s1.heap.objs.size],_,_,H1,rfl,I1.kept (t':=s1.toks) fun b o e=>Heap.get?_push_of_some _ e,Dr a _,⟨_,Heap.get?_push_size _ rfl,rfl,rfl⟩,fun b hb=>?_,q⟩
  rw [List.mem_singleton.mp hb]
  exact I1.JD (Nat.le_refl _) I1.fresh
theorem Inv.Ab {pins:List (Addr × Obj)} {σ:St} {H:Hp} {s:Shared} {a:Addr} (I:Inv X pins σ H s) (hf:∀ b o,s.heap.get? b = some o → b ≠ a):H a = none:=by
 cases e:H a with
 | none=>rfl
 | some u =>
  obtain ⟨ob,z⟩:=(I.hok a u e).is
  exact absurd rfl (hf a ob z)
theorem Inv.Kk {pins:List (Addr × Obj)} {σ:St} {H:Hp} {s:Shared} {a:Addr} {o:HO} {t':Nat} {h':Heap} (I:Inv X pins σ H s) (k:∀ b u,s.heap.get? b = some u → h'.get? b = some u) (hf:∀ b o,s.heap.get? b = some o → b ≠ a)
  (new:cN X.prog X.w (upd H a o) h' a o):Inv X pins σ (upd H a o) { s with heap:=h',toks:=t' }:=by
 have hn:=I.Ab hf
 refine I.un ⟨fun b u e _ _ _=>k b u e,fun b u e _ _ _=>⟨u.slots,k b u e⟩,fun b u e n _=>by rw [aR (hf b u e)]; exact n,fun b u e _=>⟨u,k b u e⟩,fun b xs e=>by rw [aR (bu e hn)]; exact e,fun b u v e=>by rw [aR (bu e hn)]; exact e,
  fun b ps e=>⟨#[],by rw [aR (bu e hn),e]; simp⟩⟩ fun b u e=>?_
 by_cases hb:b = a
 ·subst hb; rw [cR] at e; cases e; exact new
 ·rw [aR hb] at e
  exact (I.hok b u e).vU (fun c v _ q=>k c v q) (fun c q=>by rw [aR (bu q hn)]; exact q) fun c xs q=>by rw [aR (bu q hn)]; exact q
theorem xR {ss:List Str}:∀ {us:List Value},Vals (ss.map V.str) us → StrsAre us ss:=by
 induction ss with
 | nil=>intro us r; rw [List.map_nil] at r; cases r; exact .nil
 | cons n ns ih =>
  intro us r
  rw [List.map_cons] at r
  cases r with
  | cons r1 r2 =>
   obtain ⟨t,e⟩:=r1
   subst e
   exact .cons n t (ih r2)
theorem kQ:∀ {ss:List Str} {us:List Value},StrsAre us ss → Vals (ss.map V.str) us
 | _,_,.nil=>.nil
 | _,_,.cons y t r=>.cons ⟨t,rfl⟩ (kQ r)
def wa (K:PySem.W.Frag):List V → Hp → VK → Prop:=fun vs H Q=>∃ a ss,vs = [.ref a] ∧ (SqL K H a (ss.map V.str) ∨ ∃ kvs,H a = some (.dK kvs) ∧ kvs.map (·.1) = ss.map Sum.inr) ∧ ss.length < 64 ∧
 ∀ r ss',H r = none → ss'.Perm ss → sortedS ss' = true → Q (.ref r) (upd H r (.lst (ss'.map V.str)))
theorem rQ:64 ≤ sizeLine:=by rw [sizeLine_eq]; decide
theorem uB {P:Program} {w:World} {ss:List Str} {vs:List (Key × Value)} {acc:Array Value} (e:vs.map (·.1) = ss.map Sum.inr)
  (h:ItemsOf (fun i v=>∃ k x,vs[i]? = some (k,x) ∧ (bN P w).is k v = true) acc vs.length):StrsAre acc.toList ss:=by
 obtain ⟨hs,hi⟩:=h
 have hl:ss.length = vs.length:=by have:=congrArg List.length e; simpa using this.symm
 have key:∀ (j:Nat) (v:Value),acc.toList[j]? = some v → ∃ (x:Str) (t:Tok),ss[j]? = some x ∧ v = Value.str x t:=fun j v hv=>by
  obtain ⟨k,x,hx,hk⟩:=hi j v (by rw [← Array.getElem?_toList]; exact hv)
  have hk:xg k v = true:=hk
  have e2:(vs.map (·.1))[j]? = some k:=by rw [List.getElem?_map,hx]; rfl
  rw [e,List.getElem?_map] at e2
  cases ez:ss[j]? with
  | none=>rw [ez] at e2; cases e2
  | some z =>
   rw [ez] at e2
   have e3:k = Sum.inr z:=(Option.some.inj e2).symm
   subst e3
   rcases dh hk with ⟨i,t,q,_⟩ | ⟨y,t,q,rfl⟩
   ·cases q
   ·cases q
    exact ⟨z,t,rfl,rfl⟩
 have hl2:acc.toList.length = ss.length:=by rw [Array.length_toList,hs,hl]
 clear hs hi e hl
 generalize acc.toList = l at key hl2
 induction l generalizing ss with
 | nil =>
  cases ss with
  | nil=>exact .nil
  | cons a b=>cases hl2
 | cons v l ih =>
  cases ss with
  | nil=>cases hl2
  | cons z ss =>
   obtain ⟨x,t,hx,rfl⟩:=key 0 v rfl
   have hx:z = x:=Option.some.inj hx
   subst hx
   exact .cons z t (ih (fun j u hu=>key (j + 1) u hu) (by simpa using hl2))
theorem Ag (hc:X.calm = true):dO X (.builtin "sorted") (wa X.K):=by
 intro pins s σ H vs us Q I rv h
 obtain ⟨a,ss,rfl,hq,h64,q⟩:=h
 obtain ⟨u,rfl,ru⟩:=rv.one
 cases ru
 rcases hq with hq | ⟨kvs,hd,ek⟩
 ·obtain ⟨its,r,p,hz⟩:=I.list hq
  have hS:=xR r
  have hlen:its.length = ss.length:=by have:=r.length; simpa using this.symm
  refine sorted_strs p.isList hS (by omega) fun out ss' a1 a2 a3=>?_
  obtain ⟨e,he⟩:=sortedAll_at s.heap its out
  refine ⟨.ref _,_,I.laid (t':=s.toks) (o:=.lst (ss'.map V.str)) (fun b o z=>sortedAll_old z) (Nat.le_succ _) ⟨?_,out.toList,e,kQ a1,by simpa using he⟩,rfl,q _ ss' (I.hok.fresh (Nat.le_succ _)) a2 a3⟩
  rw [List.length_map,a2.length_eq]
  exact Nat.le_trans (Nat.le_of_lt h64) rQ
 ·obtain ⟨hz,lo,vs,kv,hD⟩:=Bl I.hok hd
  obtain ⟨ep,hat⟩:=hD.dictAt
  have ek2:vs.map (·.1) = ss.map Sum.inr:=by rw [← kv.keys]; exact ek
  have hlen:vs.length = ss.length:=by have:=congrArg List.length ek2; simpa using this
  refine Calls.call_function_entry kind_sorted plain_sorted entry_sorted (args_sorted1 _) ?_
  unfold Builtin.«sorted»
  refine wpAny_bind (m:=checkCount "sorted" 1 1 _) (wpAny_pure ?_)
  refine wpAny_bind (kdu_collect (A:=X.A.in1) (kdl_dict (knd:=bN X.prog X.w) (kvs:=vs) (ep:=ep) lo) (I.ok.hd hc) hat (by have:=rQ; omega) fun h' tk acc hk hacc=>?_)
  have hS:=uB ek2 hacc
  have hl2:acc.toList.length = ss.length:=by rw [Array.length_toList,hacc.1,hlen]
  refine wpAny_bind (wpAny_newList ?_ (by have:=rQ; omega))
  have hoL:(h'.push (seqObj "list" acc.toList.toArray 0)).get? h'.objs.size = some (seqObj "list" acc.toList.toArray 0):=Heap.get?_push_size _ rfl
  refine wpAny_bind (wpAny_holding (wpAny_call_entry slot_list_sort ⟨_,hoL,rfl⟩ entry_list_sort (list_sort_treeK strKind_oneLt hoL hS.keysOf (fun v₁ v₂ rest e=>keyKind_strs (by rw [← e]; exact hS)) (by omega) fun st' hp hs=>⟨_,rfl,?_⟩) (args_list_sort _)))
  obtain ⟨ss',b1,b2,b3⟩:=sorted_out_str hS hp hs
  obtain ⟨e,he⟩:=sortedHeap_at (vs:=acc.toList) (n:=0) (out:=(arrOf st').map (·.2)) hoL
  have hf:∀ b o,s.heap.get? b = some o → b ≠ h'.objs.size:=fun b o z=>Nat.ne_of_lt (Heap.lt_size (hk b o z))
  refine wpAny_pure ⟨_,rfl,.ref _,_,I.Kk (t':=tk) (a:=h'.objs.size) (o:=.lst (ss'.map V.str)) (fun b o z=>?_) hf ⟨?_,((arrOf st').map (·.2)).toList,e,kQ b1,?_⟩,rfl,q _ ss' (I.Ab hf) b2 b3⟩
  ·rw [sortedHeap_old (hf b o z) (by rw [size_push']; exact Nat.lt_succ_of_lt (Heap.lt_size (hk b o z)))]
   exact Heap.get?_push_of_some _ (hk b o z)
  ·rw [List.length_map,b2.length_eq]
   exact Nat.le_trans (Nat.le_of_lt h64) rQ
  ·rw [Array.toArray_toList]
   exact he
def PZ:V → Option Int → Option Int → Hp → VK → Prop:=fun x lo hi H Q=>∃ z,x = .str z ∧ z.length ≤ sizeLine ∧ Q (.str (Txt.slice z lo hi)) H
theorem BJ {v:Value} {o:Option Int} (p:IsPart v o):∃ l:Option (Int × Tok),v = partValue l ∧ l.map (·.1) = o:=by
 cases p with
 | none=>exact ⟨none,rfl,rfl⟩
 | int i t=>exact ⟨some (i,t),rfl,rfl⟩
theorem MC:SlR X PZ:=by
 intro pins s σ H x v vl vu lo hi sl Q I rx hs pl pu h
 obtain ⟨z,rfl,hz,q⟩:=h
 obtain ⟨t,rfl⟩:=rx
 obtain ⟨l,rfl,rfl⟩:=BJ pl
 obtain ⟨u,rfl,rfl⟩:=BJ pu
 refine ⟨"str",_,F.slot_str_getitem.lookup,typeIs_str _ _ _,wpAny_getItem_str_slice (l:=l) (u:=u) (st:=none) hs rfl ?_⟩
 exact post_val_or_str ⟨Nat.le_trans (Txt.slice_le z _ _) hz,fun t' k=>⟨.str _,H,I.tok _,⟨t',rfl⟩,q⟩⟩
def kZ (ss:List Str):Nat:=(ss.map (fun z=>z.length)).sum
theorem rl:∀ {us:List Value} {ss:List Str},StrsAre us ss → ∃ l:List (Str × Tok),us = strValues l ∧ l.map (·.1) = ss
 | _,_,.nil=>⟨[],rfl,rfl⟩
 | _,_,.cons y t r=>by
  obtain ⟨l,e1,e2⟩:=rl r
  exact ⟨(y,t) :: l,by rw [e1]; rfl,by rw [List.map_cons,e2]⟩
end
end L2
namespace L2
open PySem PySem.Spec PyProof.Rows PySem.W
section
variable {prog:Program} {w:World} {A:Around} {E:Value → Shared → Prop} {s:Shared}
theorem Ar {it t:Addr} {i:Nat} {its:Array Value} {v:Value} {Q:Value → Shared → Prop} (hi:s.heap.IsTupleIter it t i) (ht:s.heap.IsTuple t its) (hv:its[i]? = some v)
  (q:∀ h',h'.IsTupleIter it t (i + 1) → Heap.SameBut it s.heap h' → Q v { s with heap:=h' }):wpAny (model prog w) A (Builtin.SmallTypes.nextOf (.ref it)) Q E s:=by
 obtain ⟨o,e,c,d⟩:=id hi
 obtain ⟨ot,et,_,nt,dt⟩:=ht
 unfold Builtin.SmallTypes.nextOf
 refine wpAny_bind (wpAny_callSpecial?_slot (name:=Str.ofString "__next__") hi.typeIs F.slot_tuple_iterator_next (wpAny_call_entry F.slot_tuple_iterator_next hi.typeIs F.entry_tuple_iterator_next ?_ (F.args_tuple_iterator_next_1 _)))
 show wpAny _ _ (field (.ref it) 0 >>= _) _ _ s
 refine wpAny_bind (wpAny_field e d (x:=.ref t) rfl ?_)
 show wpAny _ _ (if (Value.ref t == Value.none) = true then _ else _) _ _ s
 rw [if_neg (show ¬ ((Value.ref t == Value.none) = true) from Bool.false_ne_true)]
 show wpAny _ _ (field (.ref it) 1 >>= _) _ _ s
 refine wpAny_bind (wpAny_field e d (x:=.int i 0) rfl ?_)
 show wpAny _ _ (seqItems? (.ref t) >>= _) _ _ s
 refine wpAny_bind (wpAny_seqItems et dt ?_)
 simp only [Int.toNat_natCast,hv]
 refine wpAny_bind (wpAny_setField e d (by simp) (wpAny_pure ⟨v,rfl,wpAny_pure (q _ ?_ (Heap.SameBut.update ..))⟩))
 exact ⟨_,Heap.get?_update_self _ e (Obj.isFreed_of_fields (Obj.data_mapFields d _)),(Obj.cls_mapFields ..).trans c,by rw [Obj.data_mapFields d]; simp [rawInt]⟩
theorem El {it t:Addr} {i:Nat} {its:Array Value} {Q:Value → Shared → Prop} (hh:A.handled = none) (hi:s.heap.IsTupleIter it t i) (ht:s.heap.IsTuple t its) (hv:its[i]? = none)
  (q:∀ h' e,Heap.ExtBut it s.heap h' → (∃ o,h'.get? e = some o ∧ o.cls = .type "StopIteration") → E (.ref e) { s with heap:=h' }):wpAny (model prog w) A (Builtin.SmallTypes.nextOf (.ref it)) Q E s:=by
 obtain ⟨o,e,c,d⟩:=id hi
 obtain ⟨ot,et,_,nt,dt⟩:=ht
 unfold Builtin.SmallTypes.nextOf
 refine wpAny_bind (wpAny_callSpecial?_slot (name:=Str.ofString "__next__") hi.typeIs F.slot_tuple_iterator_next (wpAny_call_entry F.slot_tuple_iterator_next hi.typeIs F.entry_tuple_iterator_next ?_ (F.args_tuple_iterator_next_1 _)))
 show wpAny _ _ (field (.ref it) 0 >>= _) _ _ s
 refine wpAny_bind (wpAny_field e d (x:=.ref t) rfl ?_)
 show wpAny _ _ (if (Value.ref t == Value.none) = true then _ else _) _ _ s
 rw [if_neg (show ¬ ((Value.ref t == Value.none) = true) from Bool.false_ne_true)]
 show wpAny _ _ (field (.ref it) 1 >>= _) _ _ s
 refine wpAny_bind (wpAny_field e d (x:=.int i 0) rfl ?_)
 show wpAny _ _ (seqItems? (.ref t) >>= _) _ _ s
 refine wpAny_bind (wpAny_seqItems et dt ?_)
 simp only [Int.toNat_natCast,hv]
 refine wpAny_bind (wpAny_rule (wpAny_bind (wpAny_setField e d (by simp) ?_)))
 show wpAny _ _ (newExc (.type "StopIteration") [] >>= _) _ _ _
 refine wpAny_bind ?_
 simp only [newExc,newTuple]
 refine wpAny_bind (wpAny_newObj_type ?_ (by size_fits))
 refine wpAny_bind (m:=firstArgMember _ _) (wpAny_of_eq (a:=Value.none) (by first | rfl | (simp only [firstArgMember]; rfl)) ?_)
 refine wpAny_newObj_type ?_ (by size_fits)
 simp only [raiseNew]
 refine wpAny_bind (wpAny_handled ?_)
 first | rw [show A.in1.handled = none from hh] | rw [hh]
 refine wpAny_bind (wpAny_pure (wpAny_throw ?_))
 exact q _ _ (((Heap.SameBut.update ..).extBut.push _).push _) ⟨_,Heap.get?_push_size _ rfl,rfl⟩
structure Ci (h:Heap) (z TI TO i j l m:Addr) (k:Nat) (f0:Value):Prop where
 hz:IsZip h z TI TO f0
 hi:IsPair h TI (.ref i) (.ref j)
 ho:∃ a b,IsPair h TO a b
 h1:h.IsTupleIter i l k
 h2:h.IsTupleIter j m k
theorem Ik {z TI TO i j l m:Addr} {k:Nat} {xs ys:Array Value} {x y:Value} {Q:Value → Shared → Prop} (D:ZipApart z TI TO i j l m) (Z:Ci s.heap z TI TO i j l m k .none)
  (hl:s.heap.IsTuple l xs) (hm:s.heap.IsTuple m ys) (hx:xs[k]? = some x) (hy:ys[k]? = some y)
  (q:∀ h',Ci h' z TI TO i j l m (k + 1) (rawInt s.heap.objs.size) → IsPair h' s.heap.objs.size x y → (∀ c o,c ≠ z → c ≠ TO → c ≠ i → c ≠ j → s.heap.get? c = some o → h'.get? c = some o) → Q (.ref s.heap.objs.size) { s with heap:=h' }) :
  wpAny (model prog w) A (Builtin.«zip.__next__» ⟨[.ref z],[]⟩) (fun fin s'=>∃ v,fin = .done (.ret v) ∧ Q v s') E s:=by
 obtain ⟨hz,hTI,⟨a,b,hTO⟩,g1,g2⟩:=Z
 show wpAny _ _ (field (.ref z) 2 >>= _) _ _ _
 refine wpAny_bind (wpAny_field hz rfl (x:=.bool false) rfl ?_)
 show wpAny _ _ (field (.ref z) 3 >>= _) _ _ _
 refine wpAny_bind (wpAny_field hz rfl (x:=.ref TI) rfl (wpAny_bind (wpAny_seqItems hTI rfl ?_)))
 show wpAny _ _ (Builtin.SmallTypes.ownedTupleIsFree (.ref z) >>= _) _ _ _
 refine wpAny_bind ?_
 unfold Builtin.SmallTypes.ownedTupleIsFree
 refine wpAny_bind (wpAny_field hz rfl (x:=.none) rfl (wpAny_pure ?_))
 simp only [if_true]
 refine wpAny_bind (wpAny_rule (wpAny_bind (wpAny_field hz rfl (x:=.ref TO) rfl (wpAny_bind (wpAny_setField_rec hz (by simp) fun k1 hz1 s1=>?_)))))
 have hz1:IsZip k1 z TI TO .ellipsis:=hz1
 refine wpAny_bind ?_
 simp only [List.zipIdx_cons,List.zipIdx_nil,List.forIn_cons,List.forIn_nil]
 refine wpAny_bind (wpAny_bind (wpAny_onRaise ?_))
 show wpAny _ _ (Builtin.SmallTypes.nextOf (.ref i) >>= _) _ _ _
 refine wpAny_bind (Ar (g1.extBut s1.extBut D.i1z) (hl.extBut s1.extBut D.l1z) hx fun k2 g12 s2=>wpAny_pure ?_)
 have hTO2:IsPair k2 TO a b:=s2.extBut _ _ D.TOi1 (s1.extBut _ _ D.TOz hTO)
 refine wpAny_bind (wpAny_seqItems hTO2 rfl (wpAny_bind (wpAny_updateSeq_pair hTO2 fun k3 hTO3 s3=>?_)))
 have hTO3:IsPair k3 TO x b:=hTO3
 refine wpAny_bind (wpAny_letGo (wpAny_pure (wpAny_bind (wpAny_bind (wpAny_onRaise ?_)))))
 show wpAny _ _ (Builtin.SmallTypes.nextOf (.ref j) >>= _) _ _ _
 refine wpAny_bind (Ar (((g2.extBut s1.extBut D.i2z).extBut s2.extBut D.i12.symm).extBut s3.extBut D.TOi2.symm) (((hm.extBut s1.extBut D.l2z).extBut s2.extBut D.l2i1).extBut s3.extBut D.l2TO) hy fun k4 g24 s4=>wpAny_pure ?_)
 have hTO4:IsPair k4 TO x b:=s4.extBut _ _ D.TOi2 hTO3
 refine wpAny_bind (wpAny_seqItems hTO4 rfl (wpAny_bind (wpAny_updateSeq_pair hTO4 fun k5 hTO5 s5=>?_)))
 have hTO5:IsPair k5 TO x y:=hTO5
 refine wpAny_bind (wpAny_letGo (wpAny_pure (wpAny_pure (wpAny_bind (wpAny_seqItems hTO5 rfl (wpAny_bind (wpAny_newTuple ?_)))))))
 have sz:k5.objs.size = s.heap.objs.size:=by rw [s5.1,s4.1,s3.1,s2.1,s1.1]
 have hz5:IsZip k5 z TI TO .ellipsis:=s5.extBut _ _ D.TOz.symm (s4.extBut _ _ D.i2z.symm (s3.extBut _ _ D.TOz.symm (s2.extBut _ _ D.i1z.symm hz1)))
 have keep:∀ c o,c ≠ z → c ≠ TO → c ≠ i → c ≠ j → s.heap.get? c = some o → k5.get? c = some o:=fun c o c1 c2 c3 c4 e=>s5.extBut _ _ c2 (s4.extBut _ _ c4 (s3.extBut _ _ c2 (s2.extBut _ _ c3 (s1.extBut _ _ c1 e))))
 have g15:k5.IsTupleIter i l (k + 1):=((g12.extBut s3.extBut D.TOi1.symm).extBut s4.extBut D.i12).extBut s5.extBut D.TOi1.symm
 have g25:k5.IsTupleIter j m (k + 1):=g24.extBut s5.extBut D.TOi2.symm
 show wpAny _ _ (Builtin.SmallTypes.ownedTupleHandOut (.ref z) (.ref k5.objs.size) >>= _) _ _ _
 refine wpAny_bind ?_
 unfold Builtin.SmallTypes.ownedTupleHandOut
 have hz6:IsZip (k5.push { cls:=.type "tuple",data:=.seq #[x,y] }) z TI TO .ellipsis:=Heap.get?_push_of_some _ hz5
 refine wpAny_bind (wpAny_setField_rec hz6 (by simp) fun k7 hz7 s7=>?_)
 have hz7:IsZip k7 z TI TO (rawInt k5.objs.size):=hz7
 refine wpAny_setField_rec hz7 (by simp) fun k8 hz8 s8=>?_
 have hz8:IsZip k8 z TI TO (rawInt k5.objs.size):=hz8
 have nez:k5.objs.size ≠ z:=Nat.ne_of_gt (Heap.lt_size hz5)
 have up:∀ c o,c ≠ z → k5.get? c = some o → k8.get? c = some o:=fun c o c1 e=>s8.extBut _ _ c1 (s7.extBut _ _ c1 (Heap.get?_push_of_some _ e))
 have hT8:IsPair k8 k5.objs.size x y:=s8.extBut _ _ nez (s7.extBut _ _ nez (Heap.get?_push_size _ rfl))
 rw [sz] at hz8 hT8
 refine wpAny_pure ⟨_,rfl,?_⟩
 show Q (.ref k5.objs.size) _
 rw [sz]
 have itAt:∀ {b t:Addr} {n:Nat},b ≠ z → k5.IsTupleIter b t n → k8.IsTupleIter b t n:=fun hb ⟨o,e,r⟩=>⟨o,up _ o hb e,r⟩
 exact q k8 ⟨hz8,up _ _ D.TIz (keep _ _ D.TIz D.TITO D.TIi1 D.TIi2 hTI),⟨_,_,up _ _ D.TOz hTO5⟩,itAt D.i1z g15,itAt D.i2z g25⟩ hT8 fun c o c1 c2 c3 c4 e=>up c o c1 (keep c o c1 c2 c3 c4 e)
theorem IZ {z TI TO i j l m:Addr} {k:Nat} {xs ys:Array Value} {Q:Fin → Shared → Prop} (hh:A.handled = none) (D:ZipApart z TI TO i j l m) (Z:Ci s.heap z TI TO i j l m k .none)
  (hl:s.heap.IsTuple l xs) (hm:s.heap.IsTuple m ys) (hend:xs[k]? = none ∨ ys[k]? = none)
  (q:∀ h' e,(∀ c o,c ≠ z → c ≠ TO → c ≠ i → c ≠ j → s.heap.get? c = some o → h'.get? c = some o) → (∃ o,h'.get? e = some o ∧ o.cls = .type "StopIteration") → E (.ref e) { s with heap:=h' }) :
  wpAny (model prog w) A (Builtin.«zip.__next__» ⟨[.ref z],[]⟩) Q E s:=by
 obtain ⟨hz,hTI,⟨a,b,hTO⟩,g1,g2⟩:=Z
 show wpAny _ _ (field (.ref z) 2 >>= _) _ _ _
 refine wpAny_bind (wpAny_field hz rfl (x:=.bool false) rfl ?_)
 show wpAny _ _ (field (.ref z) 3 >>= _) _ _ _
 refine wpAny_bind (wpAny_field hz rfl (x:=.ref TI) rfl (wpAny_bind (wpAny_seqItems hTI rfl ?_)))
 show wpAny _ _ (Builtin.SmallTypes.ownedTupleIsFree (.ref z) >>= _) _ _ _
 refine wpAny_bind ?_
 unfold Builtin.SmallTypes.ownedTupleIsFree
 refine wpAny_bind (wpAny_field hz rfl (x:=.none) rfl (wpAny_pure ?_))
 simp only [if_true]
 refine wpAny_bind (wpAny_rule (wpAny_bind (wpAny_field hz rfl (x:=.ref TO) rfl (wpAny_bind (wpAny_setField_rec hz (by simp) fun k1 hz1 s1=>?_)))))
 have hz1:IsZip k1 z TI TO .ellipsis:=hz1
 refine wpAny_bind ?_
 simp only [List.zipIdx_cons,List.zipIdx_nil,List.forIn_cons,List.forIn_nil]
 refine wpAny_bind (wpAny_bind (wpAny_onRaise ?_))
 show wpAny _ _ (Builtin.SmallTypes.nextOf (.ref i) >>= _) _ _ _
 cases hx:xs[k]? with
 | none =>
  refine wpAny_bind (El hh (g1.extBut s1.extBut D.i1z) (hl.extBut s1.extBut D.l1z) hx fun k2 e s2 ⟨oe,he,hce⟩=>?_)
  have hz2:IsZip k2 z TI TO .ellipsis:=s2 _ _ D.i1z.symm hz1
  have ne:e ≠ z:=fun x=>by subst x; rw [hz2] at he; cases he; simp at hce
  exact wpAny_setField_rec hz2 (by simp) fun k3 _ s3=>q k3 e (fun c o c1 _ c3 _ x=>s3.extBut _ _ c1 (s2 _ _ c3 (s1.extBut _ _ c1 x))) ⟨oe,s3.extBut _ _ ne he,hce⟩
 | some x =>
  have hy:ys[k]? = none:=by rcases hend with h | h; rw [hx] at h; cases h; exact h
  refine wpAny_bind (Ar (g1.extBut s1.extBut D.i1z) (hl.extBut s1.extBut D.l1z) hx fun k2 g12 s2=>wpAny_pure ?_)
  have hTO2:IsPair k2 TO a b:=s2.extBut _ _ D.TOi1 (s1.extBut _ _ D.TOz hTO)
  refine wpAny_bind (wpAny_seqItems hTO2 rfl (wpAny_bind (wpAny_updateSeq_pair hTO2 fun k3 hTO3 s3=>?_)))
  refine wpAny_bind (wpAny_letGo (wpAny_pure (wpAny_bind (wpAny_bind (wpAny_onRaise ?_)))))
  show wpAny _ _ (Builtin.SmallTypes.nextOf (.ref j) >>= _) _ _ _
  refine wpAny_bind (El hh (((g2.extBut s1.extBut D.i2z).extBut s2.extBut D.i12.symm).extBut s3.extBut D.TOi2.symm) (((hm.extBut s1.extBut D.l2z).extBut s2.extBut D.l2i1).extBut s3.extBut D.l2TO) hy fun k4 e s4 ⟨oe,he,hce⟩=>?_)
  have hz4:IsZip k4 z TI TO .ellipsis:=s4 _ _ D.i2z.symm (s3.extBut _ _ D.TOz.symm (s2.extBut _ _ D.i1z.symm hz1))
  have ne:e ≠ z:=fun x=>by subst x; rw [hz4] at he; cases he; simp at hce
  exact wpAny_setField_rec hz4 (by simp) fun k5 _ s5=>q k5 e (fun c o c1 c2 c3 c4 x=>s5.extBut _ _ c1 (s4 _ _ c4 (s3.extBut _ _ c2 (s2.extBut _ _ c3 (s1.extBut _ _ c1 x))))) ⟨oe,s5.extBut _ _ ne he,hce⟩
abbrev zg1 (h:Heap) (l:Addr):Heap:=h.push { cls:=.type "tuple_iterator",data:=.fields #[.ref l,.int 0 0] }
abbrev zg2 (h:Heap) (l m:Addr):Heap:=(zg1 h l).push { cls:=.type "tuple_iterator",data:=.fields #[.ref m,.int 0 0] }
abbrev zg3 (h:Heap) (l m:Addr):Heap:=(zg2 h l m).push { cls:=.type "tuple",data:=.seq #[.ref h.objs.size,.ref (zg1 h l).objs.size] }
abbrev zg4 (h:Heap) (l m:Addr):Heap:=(zg3 h l m).push { cls:=.type "tuple",data:=.seq #[.none,.none] }
abbrev zg5 (h:Heap) (l m:Addr):Heap:=(zg4 h l m).push { cls:=.type "zip",data:=.fields #[.none,.bool false,.bool false,.ref (zg2 h l m).objs.size,.ref (zg3 h l m).objs.size] }
theorem Dc (l m:Addr) (xs ys:Array Value):Meets (Builtin.«zip.__new__» ⟨[.type "zip",.ref l,.ref m],[]⟩) (fun _ R s=>s.heap.IsTuple l xs ∧ s.heap.IsTuple m ys ∧
  R (.ok (.ret (.ref (zg4 s.heap l m).objs.size))) { s with heap:=zg5 s.heap l m }) :=
 .of_wp fun prog w A R s h=>by
  obtain ⟨hp,g,d,tk,os⟩:=s
  obtain ⟨hl,hm,h⟩:=h
  have hsub:=sub_zip
  have e1:Heap.IsTuple (Shared.heap ⟨hp,g,d,tk,os⟩) l xs:=hl
  have e2:Heap.IsTuple (Shared.heap ⟨hp.push { cls:=.type "tuple_iterator",data:=.fields #[.ref l,.int 0 0] },g,d,tk,os⟩) m ys:=Heap.IsTuple.push hm _
  wp_walk using wpAny_pyIter_tuple e1,wpAny_pyIter_tuple e2
  exact ⟨_,rfl,h⟩
theorem E8 {l m:Addr} {xs ys:Array Value} {Q:Value → Shared → Prop} (hl:s.heap.IsTuple l xs) (hm:s.heap.IsTuple m ys)
  (q:∀ h',Ci h' (s.heap.objs.size + 4) (s.heap.objs.size + 2) (s.heap.objs.size + 3) s.heap.objs.size (s.heap.objs.size + 1) l m 0 .none → (∀ c o,s.heap.get? c = some o → h'.get? c = some o) → Q (.ref (s.heap.objs.size + 4)) { s with heap:=h' }) :
  wpAny (model prog w) A (call (.type "zip") [.ref l,.ref m]) Q E s:=by
 refine callType_new F.called_zip (by decide) (F.typeCall_zip_2 _ _) (F.newCall_zip_2 _ _) (fun obj=>F.args_object_init_3 obj _ _) F.entry_zip_new (Dc l m xs ys) ⟨hl,hm,?_⟩
 have n1:(zg1 s.heap l).objs.size = s.heap.objs.size + 1:=Heap.size_push ..
 have n2:(zg2 s.heap l m).objs.size = s.heap.objs.size + 2:=by rw [Heap.size_push,n1]
 have n3:(zg3 s.heap l m).objs.size = s.heap.objs.size + 3:=by rw [Heap.size_push,n2]
 have n4:(zg4 s.heap l m).objs.size = s.heap.objs.size + 4:=by rw [Heap.size_push,n3]
 have up:∀ {h:Heap} {o o':Obj} {b:Addr},h.get? b = some o → (h.push o').get? b = some o:=fun e=>Heap.get?_push_of_some _ e
 have a5:(zg5 s.heap l m).get? (zg4 s.heap l m).objs.size = some _:=Heap.get?_push_size _ rfl
 have a4:(zg5 s.heap l m).get? (zg3 s.heap l m).objs.size = some _:=up (Heap.get?_push_size _ rfl)
 have a3:(zg5 s.heap l m).get? (zg2 s.heap l m).objs.size = some _:=up (up (Heap.get?_push_size _ rfl))
 have a2:(zg5 s.heap l m).get? (zg1 s.heap l).objs.size = some _:=up (up (up (Heap.get?_push_size _ rfl)))
 have a1:(zg5 s.heap l m).get? s.heap.objs.size = some _:=up (up (up (up (Heap.get?_push_size _ rfl))))
 show _ ∧ _
 rw [n2,n3,n4] at a5
 rw [n1,n2] at a3
 rw [n3] at a4
 rw [n1] at a2
 rw [n4]
 exact ⟨⟨_,a5,rfl⟩,q _ ⟨a5,a3,⟨_,_,a4⟩,⟨_,a1,rfl,rfl⟩,⟨_,a2,rfl,rfl⟩⟩ fun c o e=>up (up (up (up (up e))))⟩
end
def Itz (K:PySem.W.Frag) (a b:Addr):It :=
  ⟨fun i H=>∃ xs ys x y,SqT K H a xs ∧ SqT K H b ys ∧ xs[i]? = some x ∧ ys[i]? = some y,
   fun i H v H'=>∃ t x y,v = .ref t ∧ H t = none ∧ H' = upd H t (.tup [x,y]) ∧ ∀ xs ys,SqT K H a xs → SqT K H b ys → xs[i]? = some x ∧ ys[i]? = some y,
   fun i H=>∃ xs ys,SqT K H a xs ∧ SqT K H b ys ∧ (xs[i]? = none ∨ ys[i]? = none)⟩
theorem GU {P:Program} {w:World} {K:PySem.W.Frag} {es:List Expr} {kk:Nat} {tp:Pos} {z TI TO i j a b:Addr} (D:ZipApart z TI TO i j a b) :
  Turn P w K (.Tuple es kk tp) (Itz K a b) [z,TI,TO,i,j] z (fun n h=>Ci h z TI TO i j a b n .none) where
 mem:=by simp
 obj:=fun n h Z c hc=>by
  obtain ⟨hz,hi,⟨u,v,ho⟩,⟨o1,e1,_,d1⟩,⟨o2,e2,_,d2⟩⟩:=Z
  simp only [List.mem_cons,List.not_mem_nil,or_false] at hc
  rcases hc with rfl | rfl | rfl | rfl | rfl
  ·exact ⟨_,hz,fun v q=>by cases q⟩
  ·exact ⟨_,hi,fun v q=>by cases q⟩
  ·exact ⟨_,ho,fun v q=>by cases q⟩
  ·exact ⟨_,e1,fun v q=>by rw [d1] at q; cases q⟩
  ·exact ⟨_,e2,fun v q=>by rw [d2] at q; cases q⟩
 keep:=fun n h h' Z k=>by
  obtain ⟨hz,hi,⟨u,v,ho⟩,⟨o1,e1,r1⟩,⟨o2,e2,r2⟩⟩:=Z
  exact ⟨k _ (by simp) _ hz,k _ (by simp) _ hi,⟨u,v,k _ (by simp) _ ho⟩,⟨o1,k _ (by simp) _ e1,r1⟩,⟨o2,k _ (by simp) _ e2,r2⟩⟩
 item:=by
  intro X hP hw hK hc n pins s σ H E I hf Z hg
  subst hP hw hK
  obtain ⟨xs,ys,x,y,qa,qb,hx,hy⟩:=hg
  obtain ⟨its,rv,p,_⟩:=I.tuple qa
  obtain ⟨jts,rw',p',_⟩:=I.tuple qb
  obtain ⟨u,hu,ru⟩:=rv.get hx
  obtain ⟨v,hv,rv'⟩:=rw'.get hy
  have hT:s.TypeIs (.ref z) "zip" := ⟨_,Z.hz,rfl⟩
  unfold pyNext
  refine wpAny_bind (wpAny_attempt (wpAny_callSpecial?_slot (name:=Str.ofString "__next__") hT F.slot_zip_next (wpAny_call_entry F.slot_zip_next hT F.entry_zip_next
   (Ik D Z (show s.heap.IsTuple a its.toArray from p) (show s.heap.IsTuple b jts.toArray from p') (x:=u) (y:=v) (by simpa using hu) (by simpa using hv) fun h' Z' T' keep=>wpAny_pure ?_) (F.args_zip_next_1 _))))
  refine ⟨_,rfl,wpAny_letOwnedTupleGo_zip (s:={ s with heap:=h' }) Z'.hz fun h2 hz2 sb=>?_⟩
  have ch:∀ c ∈ [z,TO,i,j],c ∈ [z,TI,TO,i,j]:=fun c hc=>by simp only [List.mem_cons,List.not_mem_nil,or_false] at hc ⊢; rcases hc with e | e | e | e <;> simp [e]
  have k2:∀ c o,c ∉ [z,TO,i,j] → s.heap.get? c = some o → h2.get? c = some o:=fun c o hc e=>by
   simp only [List.mem_cons,List.not_mem_nil,or_false,not_or] at hc
   exact sb.extBut c o hc.1 (keep c o hc.1 hc.2.1 hc.2.2.1 hc.2.2.2 e)
  have nT:∀ c o,s.heap.get? c = some o → c ≠ s.heap.objs.size:=fun c o e=>Nat.ne_of_lt (Heap.lt_size e)
  have nch:∀ c o,H c = some o → c ∉ [z,TO,i,j]:=fun c o e hc=>by
   have:=(hf c (ch c hc)).1
   rw [e] at this; cases this
  have hn:H s.heap.objs.size = none:=I.fresh
  have nzT:s.heap.objs.size ≠ z:=(nT _ _ Z.hz).symm
  have I2:Inv X pins σ (upd H s.heap.objs.size (.tup [x,y])) { s with heap:=h2,gens:=s.gens,drawn:=s.drawn,toks:=s.toks }:=by
   refine I.step (ch:=[z,TO,i,j]) (fun c hc=>?_) (fun c o _ _ hc e _=>k2 c o hc e) (fun c o _ _ hc e _=>⟨o.slots,k2 c o hc e⟩) (fun c o _ e q=>by rw [aR (nT c o e)]; exact q) (fun c o hc e=>⟨o,k2 c o hc e⟩)
    (fun c q e=>by rw [aR (bu e hn)]; exact e) (fun c o q e=>by rw [aR (bu e hn)]; exact e) (fun c q e=>⟨#[],by rw [aR (bu e hn),e]; simp⟩) (fun m hm=>?_) (fun c o e=>?_) I.bare
   ·obtain ⟨f0,f1,f2,f3,f4,f5⟩:=hf c (ch c hc)
    exact ⟨f3,f1,f4,f5⟩
   ·obtain ⟨o,q1,q2,ho,r⟩:=hm
    exact ⟨o,q1,q2,k2 _ o (fun hc=>(hf _ (ch _ hc)).2.1 rfl) ho,r⟩
   ·by_cases hc:c = s.heap.objs.size
    ·subst hc
     rw [cR] at e
     cases e
     refine ⟨(show 2 ≤ sizeLine by decide),[u,v],.cons ru (.cons rv' .nil),?_⟩
     exact ⟨_,sb.extBut _ _ nzT T',rfl,_,rfl,rfl⟩
    ·rw [aR hc] at e
     refine (I.hok c o e).vU (fun d w hd q=>k2 d w ?_ q) (fun d q=>by rw [aR (bu q hn)]; exact q) fun d q r=>by rw [aR (bu r hn)]; exact r
     rcases hd with rfl | hd
     ·exact nch _ _ e
     ·exact nch _ _ hd
  have sbk:∀ c o,c ≠ z → h'.get? c = some o → h2.get? c = some o:=fun c o hc e=>sb.extBut c o hc e
  obtain ⟨_,hi',⟨u',v',ho'⟩,⟨o1,e1,r1⟩,⟨o2,e2,r2⟩⟩:=Z'
  refine ⟨.ref s.heap.objs.size,_,I2,rfl,⟨s.heap.objs.size,x,y,rfl,hn,rfl,fun xs' ys' q1 q2=>?_⟩,⟨hz2,sbk _ _ D.TIz hi',⟨u',v',sbk _ _ D.TOz ho'⟩,⟨o1,sbk _ _ D.i1z e1,r1⟩,⟨o2,sbk _ _ D.i2z e2,r2⟩⟩,fun c hc=>?_⟩
  ·rw [I.qA q1 qa,I.qA q2 qb]
   exact ⟨hx,hy⟩
  ·rw [aR]
   ·exact (hf c hc).1
   ·rintro rfl
    obtain ⟨hz,hi,⟨u,v,ho⟩,⟨o1,e1,_⟩,⟨o2,e2,_⟩⟩:=Z
    simp only [List.mem_cons,List.not_mem_nil,or_false] at hc
    rcases hc with q | q | q | q | q
    ·rw [← q] at hz; exact nT _ _ hz rfl
    ·rw [← q] at hi; exact nT _ _ hi rfl
    ·rw [← q] at ho; exact nT _ _ ho rfl
    ·rw [← q] at e1; exact nT _ _ e1 rfl
    ·rw [← q] at e2; exact nT _ _ e2 rfl
 done:=by
  intro X hP hw hK hc n pins s σ H E I hf Z hg
  subst hP hw hK
  obtain ⟨xs,ys,qa,qb,hend⟩:=hg
  obtain ⟨its,rv,p,_⟩:=I.tuple qa
  obtain ⟨jts,rw',p',_⟩:=I.tuple qb
  have hT:s.TypeIs (.ref z) "zip" := ⟨_,Z.hz,rfl⟩
  have ch:∀ c ∈ [z,TO,i,j],c ∈ [z,TI,TO,i,j]:=fun c hc=>by simp only [List.mem_cons,List.not_mem_nil,or_false] at hc ⊢; rcases hc with e | e | e | e <;> simp [e]
  unfold pyNext
  refine wpAny_bind (wpAny_attempt (wpAny_callSpecial?_slot (name:=Str.ofString "__next__") hT F.slot_zip_next (wpAny_call_entry F.slot_zip_next hT F.entry_zip_next
   (IZ (A:=X.A.in1) (I.ok.hd hc) D Z (show s.heap.IsTuple a its.toArray from p) (show s.heap.IsTuple b jts.toArray from p') (hend.imp (fun q=>by simpa using rv.none_of q) (fun q=>by simpa using rw'.none_of q)) fun h' e keep ⟨o,ho,hcl⟩=>?_) (F.args_zip_next_1 _))))
  refine wpAny_bind (wpAny_isInstance (T := "StopIteration") (b:=true) ⟨o,ho,hcl⟩ isSubtype_stop (wpAny_pure ⟨rfl,?_⟩))
  have k2:∀ c o,c ∉ [z,TO,i,j] → s.heap.get? c = some o → h'.get? c = some o:=fun c o hc e=>by
   simp only [List.mem_cons,List.not_mem_nil,or_false,not_or] at hc
   exact keep c o hc.1 hc.2.1 hc.2.2.1 hc.2.2.2 e
  have nch:∀ c o,H c = some o → c ∉ [z,TO,i,j]:=fun c o e hc=>by
   have:=(hf c (ch c hc)).1
   rw [e] at this; cases this
  refine I.step (g':=s.gens) (d':=s.drawn) (t':=s.toks) (ch:=[z,TO,i,j]) (fun c hc=>?_) (fun c o _ _ hc e _=>k2 c o hc e) (fun c o _ _ hc e _=>⟨o.slots,k2 c o hc e⟩) (fun c o _ e q=>q) (fun c o hc e=>⟨o,k2 c o hc e⟩)
   (fun c q e=>e) (fun c o q e=>e) (fun c q e=>⟨#[],by rw [e]; simp⟩) (fun m hm=>?_) (fun c o e=>?_) I.bare
  ·obtain ⟨f0,f1,f2,f3,f4,f5⟩:=hf c (ch c hc)
   exact ⟨f3,f1,f4,f5⟩
  ·obtain ⟨o,q1,q2,ho,r⟩:=hm
   exact ⟨o,q1,q2,k2 _ o (fun hc=>(hf _ (ch _ hc)).2.1 rfl) ho,r⟩
  ·refine (I.hok c o e).vU (fun d w hd q=>k2 d w ?_ q) (fun d q=>q) fun d q r=>r
   rcases hd with rfl | hd
   ·exact nch _ _ e
   ·exact nch _ _ hd
 self:=fun _ _ _ _ _ Z q=>wpAny_pyIter_zip Z.hz q
def Pd (K:PySem.W.Frag) (ta:TA):TI:=fun σ H R=>ta σ H fun vs H1=>∃ a b xs ys,vs = [.ref a,.ref b] ∧ SqT K H1 a xs ∧ SqT K H1 b ys ∧ R (Itz K a b) H1
section
variable {X:Cx}
theorem MR {e1 e2:Expr} {ta:TA} {p pos:Pos} {es:List Expr} {kk:Nat} {tp:Pos} (hg:Gl X "zip") (hm:X.mg "zip" = none) (ha:PA X [e1,e2] ta) (hs:starEach [e1,e2] X.env = [(false,eval e1 X.env),(false,eval e2 X.env)]:=by rfl) (hs2:starEach [e2] X.env = [(false,eval e2 X.env)]:=by rfl) :
  PI X (.Tuple es kk tp) (.Call (.Name "zip" p) [e1,e2] [] pos) (Pd X.K ta):=by
 intro pins s σ H R I h
 refine Call_ (wq I hg hm L8 (PyProof.Rows.callWith_type1 (thn (ha pos pins s σ H _ I h) fun us s1 ⟨vs,H1,I1,r1,q1⟩=>?_) (by rw [hs,hs2]) (by rw [hs2]; rfl)))
 obtain ⟨a,b,xs,ys,rfl,qa,qb,q⟩:=q1
 obtain ⟨u,v,rfl,r,r'⟩:=r1.two
 cases r
 cases r'
 obtain ⟨its,rv,pa,_⟩:=I1.tuple qa
 obtain ⟨jts,rw',pb,_⟩:=I1.tuple qb
 have la:a < s1.heap.objs.size:=by obtain ⟨o,e,_⟩:=pa; exact Heap.lt_size e
 have lb:b < s1.heap.objs.size:=by obtain ⟨o,e,_⟩:=pb; exact Heap.lt_size e
 refine E8 (show s1.heap.IsTuple a its.toArray from pa) (show s1.heap.IsTuple b jts.toArray from pb) fun h' Z keep=>?_
 have I2:Inv X pins σ H1 { s1 with heap:=h' }:=I1.kept (t':=s1.toks) keep
 refine wpAny_pyIter_zip (s:={ s1 with heap:=h' }) Z.hz ⟨_,[s1.heap.objs.size + 4,s1.heap.objs.size + 2,s1.heap.objs.size + 3,s1.heap.objs.size,s1.heap.objs.size + 1],_,_,H1,rfl,I2,GU (zipApart_new la lb),Z,fun c hc=>?_,q⟩
 have hle:s1.heap.objs.size ≤ c:=by
  simp only [List.mem_cons,List.not_mem_nil,or_false] at hc
  rcases hc with rfl | rfl | rfl | rfl | rfl <;> first | exact Nat.le_add_right _ _ | exact Nat.le_refl _
 exact I1.JD hle (I1.hok.fresh hle)
end
end L2
namespace L2
open PySem PySem.Spec PyProof.Rows PySem.W
section
variable {X:Cx} {pos:Pos}
abbrev TJ:=St → Hp → (List Str → Hp → Prop) → Prop
def PJ (X:Cx) (es:List Expr) (t:TJ):Prop:=∀ (out:Str) (pins:List (Addr × Obj)) (s:Shared) (σ:St) (H:Hp) (Q:VK),out.length + 1000 * es.length ≤ sizeLine → Inv X pins σ H s →
 t σ H (fun zs H'=>Q (.str (zs.foldl (fun a b=>a ++ b) out)) H') → wpAny (model X.prog X.w) X.A (joinParts out (evalEach es X.env)) (EP X pins σ Q) X.xe s
theorem len_app (x y:Str):(x ++ y).length = x.length + y.length:=by
 show (x.cps ++ y.cps).size = x.cps.size + y.cps.size
 simp
theorem Ld:PJ X [] (fun _ H R=>R [] H):=fun out pins s σ H Q hl I h=>joinParts_nil (show EP X pins σ Q _ _ from ⟨.str out,H,I.tok _,⟨_,rfl⟩,h⟩) (by simpa using hl)
def tJ (te:TE) (t:TJ):TJ:=fun σ H R=>te σ H fun x H1=>∃ z,x = .str z ∧ z.length ≤ 1000 ∧ t σ H1 fun zs H2=>R (z :: zs) H2
theorem IK {e:Expr} {es:List Expr} {te:TE} {t:TJ} (h1:PE X e te) (h2:PJ X es t) (hs:evalEach (e :: es) X.env = eval e X.env :: evalEach es X.env:=by rfl):PJ X (e :: es) (tJ te t):=by
 intro out pins s σ H Q hl I h
 rw [hs]
 refine joinParts_cons (thn (h1 pins s σ H _ I h) fun v s1 ⟨x,H1,I1,r1,q1⟩=>?_)
 obtain ⟨z,rfl,hz,q⟩:=q1
 obtain ⟨tk,rfl⟩:=r1
 rw [List.length_cons] at hl
 have e1:=len_app out z
 exact ⟨by omega,h2 (out ++ z) pins s1 σ H1 Q (by omega) I1 q⟩
def tFv (te:TE):TE:=fun σ H Q=>te σ H fun x H1=>∃ z,x = .str z ∧ z.length ≤ 1000 ∧ Q (.str z) H1
theorem Ny {e:Expr} {te:TE} (h1:PE X e te):PE X (.FormattedValue e (-1) none pos) (tFv te):=by
 intro pins s σ H Q I h
 refine FormattedValue_plain (thn (h1 pins s σ H _ I h) fun v s1 ⟨x,H1,I1,r1,q1⟩=>?_)
 obtain ⟨z,rfl,hz,q⟩:=q1
 obtain ⟨tk,rfl⟩:=r1
 have l1:1000 ≤ sizeLine:=by rw [sizeLine_eq]; decide
 exact formatField_str (fun t' k=>⟨.str z,H1,I1.tok _,⟨t',rfl⟩,q⟩) (Nat.le_trans hz l1)
def E9 (zs:List Str):Str:=zs.foldl (fun a b=>a ++ b) Str.empty
def JH (t:TJ):TE:=fun σ H Q=>t σ H fun zs H1=>Q (.str (E9 zs)) H1
theorem NL {v1 v2:Expr} {es:List Expr} {t:TJ} (h:PJ X (v1 :: v2 :: es) t) (hl:(v1 :: v2 :: es).length ≤ 100:=by decide) (hs:evalEach (v1 :: v2 :: es) X.env = eval v1 X.env :: eval v2 X.env :: evalEach es X.env:=by rfl):PE X (.JoinedStr (v1 :: v2 :: es) pos) (JH t):=by
 intro pins s σ H Q I hw
 refine JoinedStr_many ?_
 rw [← hs]
 refine h Str.empty pins s σ H Q ?_ I hw
 have:200000 ≤ sizeLine:=by rw [sizeLine_eq]; decide
 show 0 + 1000 * _ ≤ _
 omega
end
end L2
namespace W
theorem p9 (p:Int) {q:Int} (h:q < 0):q < p.fmod q ∧ p.fmod q ≤ 0:=by
 rw [Int.fmod_eq_emod]
 have h1:=Int.emod_nonneg p (show q ≠ 0 by omega)
 have h2:=Int.emod_lt_of_neg p h
 by_cases d:q ∣ p
 ·rw [if_pos (Or.inr d),Int.emod_eq_zero_of_dvd d]; omega
 ·rw [if_neg (by intro z; rcases z with z | z; omega; exact d z)]
  have h3:p % q ≠ 0:=fun z=>d (Int.dvd_of_emod_eq_zero z)
  omega
theorem BV (p:Int) {q:Int} (h:q ≠ 0):(p.fmod q).natAbs < q.natAbs:=by
 rcases Int.lt_or_gt_of_ne h with z | z
 ·have:=p9 p z; omega
 ·have h1:=Int.fmod_lt_of_pos p z
  have h2:=Int.fmod_nonneg_of_pos p z
  omega
theorem wg (p q:Int):Int.gcd q (p.fmod q) = Int.gcd p q:=by
 have h:p.fmod q = p - p.fdiv q * q:=by rw [Int.fmod_def,Int.mul_comm]
 rw [h,Int.gcd_sub_mul_right_right,Int.gcd_comm]
def cd (x y:Int):Int:=if y < 0 then -(Int.gcd x y:Int) else (Int.gcd x y:Int)
theorem Kd {p q:Int} (h:q ≠ 0) (z:p.fmod q = 0):q = cd p q:=by
 have e:=wg p q
 rw [z,Int.gcd_zero_right] at e
 unfold cd
 rw [← e]
 split <;> omega
theorem Iv {p q:Int} (h:q ≠ 0) (z:p.fmod q ≠ 0):cd q (p.fmod q) = cd p q:=by
 unfold cd
 rw [wg]
 rcases Int.lt_or_gt_of_ne h with g | g
 ·have:=p9 p g
  rw [if_pos (by omega),if_pos g]
 ·have h2:=Int.fmod_nonneg_of_pos p g
  rw [if_neg (by omega),if_neg (by omega)]
theorem By (x y:Int):cd x y ∣ x:=by
 unfold cd; split
 ·exact (Int.neg_dvd).mpr (Int.gcd_dvd_left x y)
 ·exact Int.gcd_dvd_left x y
theorem Ad (x y:Int):cd x y ∣ y:=by
 unfold cd; split
 ·exact (Int.neg_dvd).mpr (Int.gcd_dvd_right x y)
 ·exact Int.gcd_dvd_right x y
theorem DN {x y:Int} (h:y ≠ 0):cd x y ≠ 0:=by
 have:=Int.gcd_pos_of_ne_zero_right x h
 unfold cd; split <;> omega
theorem F9 (x y:Int):(cd x y).natAbs = Int.gcd x y:=by unfold cd; split <;> omega
theorem O3 {x y:Int} (h:y ≠ 0):(cd x y).natAbs ≤ y.natAbs:=by
 rw [F9]
 have h1:Int.gcd x y ∣ y.natAbs:=Int.natCast_dvd_natCast.mp (Int.dvd_natAbs.mpr (Int.gcd_dvd_right x y))
 exact Nat.le_of_dvd (by omega) h1
abbrev Num:=Int × Int
def nrm (t b:Int):Num:=(t.fdiv (cd t b),b.fdiv (cd t b))
def Il (t b:Int):Num:=if b < 0 then ((-t).fdiv (Int.gcd (-t) (-b)),(-b).fdiv (Int.gcd (-t) (-b))) else (t.fdiv (Int.gcd t b),b.fdiv (Int.gcd t b))
theorem ua {t g:Int} (hg:g ≠ 0) (d:g ∣ t):(-t).fdiv g = t.fdiv (-g):=by
 obtain ⟨k,rfl⟩:=d
 have e1:-(g * k) = g * (-k):=by rw [Int.mul_neg]
 have e2:g * k = (-g) * (-k):=by rw [Int.neg_mul_neg]
 rw [e1,Int.mul_fdiv_cancel_left _ hg,e2,Int.mul_fdiv_cancel_left _ (by omega)]
theorem H9 {t b:Int} (h:b ≠ 0):Il t b = nrm t b:=by
 unfold Il nrm cd
 by_cases z:b < 0
 ·rw [if_pos z,if_pos z,Int.gcd_neg,Int.neg_gcd]
  have g0:=Int.gcd_pos_of_ne_zero_right t h
  rw [ua (by omega) (Int.gcd_dvd_left t b),ua (by omega) (Int.gcd_dvd_right t b)]
 ·rw [if_neg z,if_neg z]
end W
namespace W
open L2
def Ok (q:Num):Prop:=0 < q.2 ∧ Int.gcd q.1 q.2 = 1
theorem v7 {t b:Int} (h:b ≠ 0):cd t b * (nrm t b).1 = t ∧ cd t b * (nrm t b).2 = b:=by
 have h0:=DN (x:=t) h
 obtain ⟨k,hk⟩:=By t b
 obtain ⟨m,hm⟩:=Ad t b
 have e1:t.fdiv (cd t b) = k:=by
  have:=Int.mul_fdiv_cancel_left k h0
  rwa [← hk] at this
 have e2:b.fdiv (cd t b) = m:=by
  have:=Int.mul_fdiv_cancel_left m h0
  rwa [← hm] at this
 exact ⟨by show cd t b * t.fdiv (cd t b) = t; rw [e1]; exact hk.symm,by show cd t b * b.fdiv (cd t b) = b; rw [e2]; exact hm.symm⟩
theorem II {t b:Int} (h:b ≠ 0):(0 < b → 0 < cd t b) ∧ (b < 0 → cd t b < 0):=by
 have:=Int.gcd_pos_of_ne_zero_right t h
 unfold cd
 constructor
 ·intro z; rw [if_neg (by omega)]; omega
 ·intro z; rw [if_pos z]; omega
theorem Ek {t b:Int} (h:b ≠ 0):0 < (nrm t b).2:=by
 obtain ⟨_,e⟩:=v7 (t:=t) h
 obtain ⟨s1,s2⟩:=II (t:=t) h
 rcases Int.lt_or_gt_of_ne h with z | z
 ·have c:=s2 z
  rcases Int.lt_or_le 0 (nrm t b).2 with q | q
  ·exact q
  ·have:=Int.mul_nonneg_of_nonpos_of_nonpos (Int.le_of_lt c) q
   omega
 ·have c:=s1 z
  rcases Int.lt_or_le 0 (nrm t b).2 with q | q
  ·exact q
  ·have:=Int.mul_nonpos_of_nonneg_of_nonpos (Int.le_of_lt c) q
   omega
theorem FN {t b:Int} (h:b ≠ 0):Ok (nrm t b):=by
 refine ⟨Ek h,?_⟩
 obtain ⟨e1,e2⟩:=v7 (t:=t) h
 have g:Int.gcd (cd t b * (nrm t b).1) (cd t b * (nrm t b).2) = (cd t b).natAbs * Int.gcd (nrm t b).1 (nrm t b).2:=Int.gcd_mul_left _ _ _
 rw [e1,e2,F9] at g
 have p:=Int.gcd_pos_of_ne_zero_right t h
 have:Int.gcd t b * 1 = Int.gcd t b * Int.gcd (nrm t b).1 (nrm t b).2:=by rw [Nat.mul_one]; exact g
 exact (Nat.eq_of_mul_eq_mul_left p this).symm
theorem xY {c x:Int} (h:c ≠ 0):x.natAbs ≤ (c * x).natAbs:=by
 rw [Int.natAbs_mul]
 exact Nat.le_mul_of_pos_left _ (by omega)
theorem Gb {t b:Int} {m n:Nat} (h:b ≠ 0) (h1:Bd m t) (h2:Bd n b):Bd m (nrm t b).1 ∧ Bd n (nrm t b).2:=by
 obtain ⟨e1,e2⟩:=v7 (t:=t) h
 have a1:=xY (x:=(nrm t b).1) (DN (x:=t) h)
 have a2:=xY (x:=(nrm t b).2) (DN (x:=t) h)
 rw [e1] at a1; rw [e2] at a2
 exact ⟨Nat.lt_of_le_of_lt a1 h1,Nat.lt_of_le_of_lt a2 h2⟩
structure NB (n:Nat) (q:Num):Prop where
 ok:Ok q
 b1:Bd n q.1
 b2:Bd n q.2
theorem NB.mono {m n:Nat} {q:Num} (h:NB m q) (k:m ≤ n):NB n q:=⟨h.ok,h.b1.mono k,h.b2.mono k⟩
theorem NB.nz {n:Nat} {q:Num} (h:NB n q):q.2 ≠ 0:=by have:=h.ok.1; omega
theorem NB.nrm {t b:Int} {n:Nat} (h:b ≠ 0) (h1:Bd n t) (h2:Bd n b):NB n (nrm t b):=⟨FN h,(Gb h h1 h2).1,(Gb h h1 h2).2⟩
def fw (x y:Num):Num:=nrm (x.1 * y.2 + y.1 * x.2) (x.2 * y.2)
def dC (x y:Num):Num:=nrm (x.1 * y.1) (x.2 * y.2)
theorem NB.add {n:Nat} {x y:Num} (h:NB n x) (k:NB n y):NB (2 * n + 1) (fw x y) :=
 .nrm (Int.mul_ne_zero h.nz k.nz) (((h.b1.mul k.b2).add (k.b1.mul h.b2)).mono (by omega)) ((h.b2.mul k.b2).mono (by omega))
theorem NB.mul {n:Nat} {x y:Num} (h:NB n x) (k:NB n y):NB (2 * n + 1) (dC x y) :=
 .nrm (Int.mul_ne_zero h.nz k.nz) ((h.b1.mul k.b1).mono (by omega)) ((h.b2.mul k.b2).mono (by omega))
theorem NB.zero {n:Nat}:NB (n + 1) (0,1):=⟨⟨by decide,by decide⟩,Nat.lt_of_lt_of_le (by decide) (Nat.pow_le_pow_right (by decide) (Nat.le_add_left 1 n)),Nat.lt_of_lt_of_le (by decide:1 < 2 ^ 1) (Nat.pow_le_pow_right (by decide) (Nat.le_add_left 1 n))⟩
end W
namespace W
open L2
def nv (x:Num):Rat:=Rat.divInt x.1 x.2
theorem Dk {t b:Int} (h:b ≠ 0):nv (nrm t b) = Rat.divInt t b:=by
 obtain ⟨e1,e2⟩:=v7 (t:=t) h
 have p:=Ek (t:=t) h
 unfold nv
 rw [Rat.divInt_eq_divInt_iff (by omega) h]
 generalize (nrm t b).1 = k at e1 ⊢
 generalize (nrm t b).2 = m at e2 p ⊢
 rw [← e1]
 rw [show k * b = k * (cd t b * m) from by rw [e2]]
 rw [Int.mul_left_comm,Int.mul_assoc]
theorem wF {x y:Num} (h:Ok x) (k:Ok y):nv (fw x y) = nv x + nv y:=by
 have h1:=h.1; have k1:=k.1
 unfold fw
 rw [Dk (Int.mul_ne_zero (by omega) (by omega))]
 exact (Rat.divInt_add_divInt _ _ (by omega) (by omega)).symm
theorem Dw {x y:Num} (h:Ok x) (k:Ok y):nv (dC x y) = nv x * nv y:=by
 have h1:=h.1; have k1:=k.1
 unfold dC
 rw [Dk (Int.mul_ne_zero (by omega) (by omega))]
 exact (Rat.divInt_mul_divInt _ _).symm
theorem Np {x y:Num} (h:Ok x) (k:Ok y):Ok (fw x y):=FN (Int.mul_ne_zero (by have:=h.1; omega) (by have:=k.1; omega))
theorem OR {a b c:Int} (h:a ∣ b * c) (g:Int.gcd a b = 1):a ∣ c:=by
 have h1:a.natAbs ∣ b.natAbs * c.natAbs:=by rw [← Int.natAbs_mul]; exact Int.natAbs_dvd_natAbs.mpr h
 exact Int.natAbs_dvd_natAbs.mp (Nat.Coprime.dvd_of_dvd_mul_left (show Nat.Coprime a.natAbs b.natAbs from g) h1)
theorem xN {x y:Num} (h:Ok x) (k:Ok y) (e:nv x = nv y):x = y:=by
 have h1:=h.1; have k1:=k.1
 unfold nv at e
 rw [Rat.divInt_eq_divInt_iff (by omega) (by omega)] at e
 have d1:x.2 ∣ y.2:=OR (show x.2 ∣ x.1 * y.2 from ⟨y.1,by rw [e,Int.mul_comm]⟩) (by rw [Int.gcd_comm]; exact h.2)
 have d2:y.2 ∣ x.2:=OR (show y.2 ∣ y.1 * x.2 from ⟨x.1,by rw [← e,Int.mul_comm]⟩) (by rw [Int.gcd_comm]; exact k.2)
 have e2:x.2 = y.2:=Int.dvd_antisymm (by omega) (by omega) d1 d2
 rw [e2] at e
 have e1:x.1 = y.1:=Int.eq_of_mul_eq_mul_right (by omega) e
 exact Prod.ext e1 e2
theorem wb:nv (0,1) = 0:=by decide +kernel
theorem Aa:Ok (0,1):=⟨by decide,by decide⟩
end W
set_option maxHeartbeats 1000000
namespace W
open L2 PySem
theorem NB.Ph {m n:Nat} {x y:Num} (h:NB m x) (k:NB n y):NB (m + n + 1) (fw x y) :=
 .nrm (Int.mul_ne_zero h.nz k.nz) (((h.b1.mul k.b2).add ((k.b1.mul h.b2).mono (n:=m + n) (by omega))).mono (by omega)) ((h.b2.mul k.b2).mono (by omega))
abbrev Pr:=Str × Num
def tot (ps:List Pr) (n:Str):Num:=ps.foldl (fun acc p=>if p.1 = n then fw acc p.2 else acc) (0,1)
def cnt (ps:List Pr) (n:Str):Nat:=ps.countP (fun p=>decide (p.1 = n))
theorem jN (ps:List Pr) (p:Pr) (n:Str):tot (ps ++ [p]) n = if p.1 = n then fw (tot ps n) p.2 else tot ps n:=by unfold tot; rw [List.foldl_append]; rfl
theorem snoc_ind {α:Type} {M:List α → Prop} (h0:M []) (h1:∀ l a,M l → M (l ++ [a])):∀ l,M l:=by
 intro l
 rw [← List.reverse_reverse l]
 induction l.reverse with
 | nil=>exact h0
 | cons a r ih=>rw [List.reverse_cons]; exact h1 _ _ ih
theorem Dn {b:Nat} {ps:List Pr} (h:∀ p ∈ ps,NB b p.2) (n:Str):NB ((b + 1) * cnt ps n + 1) (tot ps n):=by
  revert n h
  revert ps
  intro ps
  refine snoc_ind (M:=fun ps:List Pr=>(∀ p ∈ ps,NB b p.2) → ∀ n,NB ((b + 1) * cnt ps n + 1) (tot ps n)) ?_ ?_ ps
  all_goals clear ps
  case refine_1=>exact fun _ n=>NB.zero (n:=0)
  case refine_2 =>
   intro l a ih h n
   have i1:=ih (fun p hp=>h p (List.mem_append_left _ hp)) n
   have i2:=h a (by simp)
   rw [jN]
   have e:cnt (l ++ [a]) n = cnt l n + (if a.1 = n then 1 else 0):=by unfold cnt; rw [List.countP_append]; simp [List.countP_cons]
   rw [e]
   by_cases c:a.1 = n
   · rw [if_pos c,if_pos c]
     refine (i1.Ph i2).mono ?_
     rw [Nat.mul_add,Nat.mul_one]; omega
   · rw [if_neg c,if_neg c]
     exact i1
theorem uC {ps:List Pr} (h:∀ p ∈ ps,Ok p.2) (n:Str):Ok (tot ps n):=by
 revert h
 refine snoc_ind (M:=fun ps:List Pr=>(∀ p ∈ ps,Ok p.2) → Ok (tot ps n)) (fun _=>Aa) (fun l a ih h=>?_) ps
 rw [jN]
 have i1:=ih (fun p hp=>h p (List.mem_append_left _ hp))
 by_cases c:a.1 = n
 ·rw [if_pos c]; exact Np i1 (h a (by simp))
 ·rw [if_neg c]; exact i1
def eN:List Pr → Str → Rat
 | [],_=>0
 | p :: r,n=>(if p.1 = n then nv p.2 else 0) + eN r n
theorem pC (ps qs:List Pr) (n:Str):eN (ps ++ qs) n = eN ps n + eN qs n:=by
 induction ps with
 | nil=>show eN qs n = 0 + eN qs n; grind
 | cons p r ih =>
  show (if p.1 = n then nv p.2 else 0) + eN (r ++ qs) n = (if p.1 = n then nv p.2 else 0) + eN r n + eN qs n
  rw [ih]; grind
theorem so {ps:List Pr} (h:∀ p ∈ ps,Ok p.2) (n:Str):nv (tot ps n) = eN ps n:=by
 revert h
 refine snoc_ind (M:=fun ps:List Pr=>(∀ p ∈ ps,Ok p.2) → nv (tot ps n) = eN ps n) (fun _=>?_) (fun l a ih h=>?_) ps
 ·exact wb
 ·have i1:=ih (fun p hp=>h p (List.mem_append_left _ hp))
  have o1:=uC (fun p hp=>h p (List.mem_append_left _ hp)) n
  rw [jN,pC,← i1]
  show _ = nv (tot l n) + ((if a.1 = n then nv a.2 else 0) + 0)
  by_cases c:a.1 = n
  ·rw [if_pos c,if_pos c,wF o1 (h a (by simp))]; grind
  ·rw [if_neg c,if_neg c]; grind
def SLt (a b:Str):Prop:=¬ b.cps.toList < a.cps.toList ∧ a ≠ b
theorem zF {a b:Str} (h:¬ b.cps.toList < a.cps.toList) (k:¬ a.cps.toList < b.cps.toList):a = b:=by
 have e:a.cps.toList = b.cps.toList:=List.le_antisymm (List.not_lt.mp h) (List.not_lt.mp k)
 obtain ⟨⟨x⟩⟩:=a
 obtain ⟨⟨y⟩⟩:=b
 have e:x = y:=e
 rw [e]
theorem SLt.asymm {a b:Str} (h:SLt a b) (k:SLt b a):False:=h.2 (zF h.1 k.1)
theorem Er {α:Type} {f:α → Str}:∀ {l m:List α},l.Pairwise (fun a b=>SLt (f a) (f b)) → m.Pairwise (fun a b=>SLt (f a) (f b)) → (∀ a,a ∈ l ↔ a ∈ m) → l = m
 | [],m,_,_,h=>by
  cases m with
  | nil=>rfl
  | cons b m=>exact absurd ((h b).mpr (by simp)) (by simp)
 | a :: l,[],_,_,h=>absurd ((h a).mp (by simp)) (by simp)
 | a :: l,b :: m,hl,hm,h=>by
  rw [List.pairwise_cons] at hl hm
  have hab:a = b:=by
   rcases List.mem_cons.mp ((h a).mp (by simp)) with e | e
   ·exact e
   ·rcases List.mem_cons.mp ((h b).mpr (by simp)) with e' | e'
    ·exact e'.symm
    ·exact (SLt.asymm (hm.1 a e) (hl.1 b e')).elim
  subst hab
  rw [Er hl.2 hm.2 fun c=>⟨fun hc=>?_,fun hc=>?_⟩]
  ·rcases List.mem_cons.mp ((h c).mp (List.mem_cons_of_mem _ hc)) with e | e
   ·subst e; exact ((hl.1 c hc).2 rfl).elim
   ·exact e
  ·rcases List.mem_cons.mp ((h c).mpr (List.mem_cons_of_mem _ hc)) with e | e
   ·subst e; exact ((hm.1 c hc).2 rfl).elim
   ·exact e
structure Canon (ps L:List Pr):Prop where
 rise:L.Pairwise (fun a b=>SLt a.1 b.1)
 mem:∀ p:Pr,p ∈ L ↔ (p.2 = tot ps p.1 ∧ p.2 ≠ (0,1))
theorem uD:∀ {L:List Pr},L.Pairwise (fun a b=>SLt a.1 b.1) → (∀ p ∈ L,eN L p.1 = nv p.2) ∧ ∀ n,(∀ p ∈ L,p.1 ≠ n) → eN L n = 0
 | [],_=>⟨fun p hp=>(by cases hp),fun n _=>rfl⟩
 | q :: L,h=>by
  rw [List.pairwise_cons] at h
  obtain ⟨i1,i2⟩:=uD h.2
  refine ⟨fun p hp=>?_,fun n hn=>?_⟩
  ·rcases List.mem_cons.mp hp with e | e
   ·subst e
    show (if p.1 = p.1 then nv p.2 else 0) + eN L p.1 = nv p.2
    rw [if_pos rfl,i2 p.1 fun r hr z=>(h.1 r hr).2 z.symm]
    grind
   ·show (if q.1 = p.1 then nv q.2 else 0) + eN L p.1 = nv p.2
    rw [if_neg (h.1 p e).2,i1 p e]
    grind
  ·show (if q.1 = n then nv q.2 else 0) + eN L n = 0
   rw [if_neg (hn q (by simp)),i2 n fun p hp=>hn p (List.mem_cons_of_mem _ hp)]
   grind
theorem qd {L:List Pr} (h:L.Pairwise (fun a b=>SLt a.1 b.1)) (n:Str):cnt L n ≤ 1:=by
 induction L with
 | nil=>exact Nat.zero_le _
 | cons q L ih =>
  rw [List.pairwise_cons] at h
  unfold cnt
  rw [List.countP_cons]
  by_cases c:q.1 = n
  ·have:L.countP (fun p=>decide (p.1 = n)) = 0:=List.countP_eq_zero.mpr fun p hp=>by
    have:=(h.1 p hp).2
    simp only [decide_eq_true_eq]
    exact fun z=>this (c.trans z.symm)
   rw [this]; simp [c]
  ·have:=ih h.2
   unfold cnt at this
   simp [c]; exact this
end W
namespace M
open PySem L2
inductive A where
 | non | bl (b:Bool) | int (i:Int) | str (x:Str) | tup (xs:List A) | lst (xs:List A) | dic (kvs:List (Key × A)) | exc (c:Str)
structure Kx where
 K:PySem.W.Frag
 mg:Str → Option Value
mutual
inductive RA (k:Kx) (G:Hp):V → A → Prop
 | non:RA k G .non .non
 | bl (b:Bool):RA k G (.bl b) (.bl b)
 | int (i:Int):RA k G (.int i) (.int i)
 | str (x:Str):RA k G (.str x) (.str x)
 | tup {p:Addr} {vs:List V} {as:List A} (e:SqT k.K G p vs) (r:RAs k G vs as):RA k G (.ref p) (.tup as)
 | lst {p:Addr} {vs:List V} {as:List A} (e:SqL k.K G p vs) (r:RAs k G vs as):RA k G (.ref p) (.lst as)
 | dic {p:Addr} {vs:List (Key × V)} {as:List (Key × A)} (e:Rd G p (.dK vs)) (r:RKs k G vs as):RA k G (.ref p) (.dic as)
 | exc {p C:Addr} {c:Str} (e:G p = some (BX p C)) (m:k.mg c = some (.ref C)):RA k G (.ref p) (.exc c)
inductive RAs (k:Kx) (G:Hp):List V → List A → Prop
 | nil:RAs k G [] []
 | cons {v:V} {a:A} {vs:List V} {as:List A} (h:RA k G v a) (r:RAs k G vs as):RAs k G (v :: vs) (a :: as)
inductive RKs (k:Kx) (G:Hp):List (Key × V) → List (Key × A) → Prop
 | nil:RKs k G [] []
 | cons {y:Key} {v:V} {a:A} {vs:List (Key × V)} {as:List (Key × A)} (h:RA k G v a) (r:RKs k G vs as):RKs k G ((y,v) :: vs) ((y,a) :: as)
end
def Fo:HO → Option (List (Key × V))
 | .dK kvs=>some kvs
 | .frz _ (.dK kvs)=>some kvs
 | _=>none
def Oq (o o':HO):Prop:=o' = o ∨ ∃ kvs,Fo o = some kvs ∧ Fo o' = some kvs
theorem kO {G:Hp} {b:Addr} {o:HO} {kvs:List (Key × V)} (h:G b = some o) (e:Fo o = some kvs):Rd G b (.dK kvs):=by
 unfold Fo at e
 split at e
 ·cases e; exact .inl h
 ·cases e; exact .inr ⟨_,h⟩
 ·cases e
theorem N9 {G:Hp} {b:Addr} {kvs:List (Key × V)} (h:Rd G b (.dK kvs)):∃ o,G b = some o ∧ Fo o = some kvs:=by
 rcases h with h | ⟨o,h⟩
 ·exact ⟨_,h,rfl⟩
 ·exact ⟨_,h,rfl⟩
def Sq (G G':Hp):Prop:=∀ b o,G b = some o → ∃ o',G' b = some o' ∧ Oq o o'
theorem Sq.of {G G':Hp} (h:Pu G G'):Sq G G':=fun b o e=>⟨o,h b o e,.inl rfl⟩
theorem Sq.refl (G:Hp):Sq G G:=fun b o e=>⟨o,e,.inl rfl⟩
theorem Sq.keep {G G':Hp} (h:Sq G G') {b:Addr} {o:HO} (e:G b = some o) (n:Fo o = none):G' b = some o:=by
 obtain ⟨o',h1,h2⟩:=h b o e
 rcases h2 with rfl | ⟨kvs,h3,_⟩
 ·exact h1
 ·rw [n] at h3; cases h3
theorem Sq.rdD {G G':Hp} (h:Sq G G') {b:Addr} {kvs:List (Key × V)} (r:Rd G b (.dK kvs)):Rd G' b (.dK kvs):=by
 obtain ⟨o,e,d⟩:=N9 r
 obtain ⟨o',h1,h2⟩:=h b o e
 rcases h2 with rfl | ⟨kvs',h3,h4⟩
 ·exact kO h1 d
 ·rw [d] at h3; cases h3; exact kO h1 h4
theorem gy {K:PySem.W.Frag} {G G':Hp} {p:Addr} {vs:List V} (h:Sq G G') (q:SqT K G p vs):SqT K G' p vs:=q.imp (fun r=>by
 rcases r with r | ⟨o,r⟩
 ·exact .inl (h.keep r rfl)
 ·exact .inr ⟨o,h.keep r rfl⟩) id
theorem AV {K:PySem.W.Frag} {G G':Hp} {p:Addr} {vs:List V} (h:Sq G G') (q:SqL K G p vs):SqL K G' p vs:=q.imp (fun r=>by
 rcases r with r | ⟨o,r⟩
 ·exact .inl (h.keep r rfl)
 ·exact .inr ⟨o,h.keep r rfl⟩) id
section
variable {k:Kx} {G G':Hp}
mutual
theorem RA.sm (s:Sq G G'):∀ {v:V} {a:A},RA k G v a → RA k G' v a
 | _,_,.non=>.non
 | _,_,.bl b=>.bl b
 | _,_,.int i=>.int i
 | _,_,.str x=>.str x
 | _,_,.tup e r=>.tup (gy s e) (RAs.sm s r)
 | _,_,.lst e r=>.lst (AV s e) (RAs.sm s r)
 | _,_,.dic e r=>.dic (s.rdD e) (RKs.sm s r)
 | _,_,.exc e m=>.exc (s.keep e rfl) m
theorem RAs.sm (s:Sq G G'):∀ {vs:List V} {as:List A},RAs k G vs as → RAs k G' vs as
 | _,_,.nil=>.nil
 | _,_,.cons h r=>.cons (RA.sm s h) (RAs.sm s r)
theorem RKs.sm (s:Sq G G'):∀ {vs:List (Key × V)} {as:List (Key × A)},RKs k G vs as → RKs k G' vs as
 | _,_,.nil=>.nil
 | _,_,.cons h r=>.cons (RA.sm s h) (RKs.sm s r)
end
theorem RAs.len:∀ {vs:List V} {as:List A},RAs k G vs as → vs.length = as.length
 | _,_,.nil=>rfl
 | _,_,.cons _ r=>by rw [List.length_cons,List.length_cons,r.len]
theorem RAs.ta:∀ {vs:List V} {as:List A} {i:Nat} {a:A},RAs k G vs as → as[i]? = some a → ∃ v,vs[i]? = some v ∧ RA k G v a
 | _,_,_,_,.nil,e=>by simp at e
 | _,_,0,_,.cons h _,e=>by cases e; exact ⟨_,rfl,h⟩
 | _,_,i + 1,_,.cons _ r,e=>r.ta (i:=i) e
theorem RAs.app:∀ {vs us:List V} {as bs:List A},RAs k G vs as → RAs k G us bs → RAs k G (vs ++ us) (as ++ bs)
 | _,_,_,_,.nil,s=>s
 | _,_,_,_,.cons h r,s=>.cons h (r.app s)
theorem RAs.snoc {vs:List V} {as:List A} {v:V} {a:A} (r:RAs k G vs as) (h:RA k G v a):RAs k G (vs ++ [v]) (as ++ [a]):=r.app (.cons h .nil)
theorem RAs.rev:∀ {vs:List V} {as:List A},RAs k G vs as → RAs k G vs.reverse as.reverse
 | _,_,.nil=>.nil
 | _,_,.cons h r=>by rw [List.reverse_cons,List.reverse_cons]; exact r.rev.snoc h
theorem RAs.take:∀ {vs:List V} {as:List A} (n:Nat),RAs k G vs as → RAs k G (vs.take n) (as.take n)
 | _,_,0,_=>.nil
 | _,_,_ + 1,.nil=>.nil
 | _,_,n + 1,.cons h r=>.cons h (r.take n)
theorem RAs.drop:∀ {vs:List V} {as:List A} (n:Nat),RAs k G vs as → RAs k G (vs.drop n) (as.drop n)
 | _,_,0,r=>r
 | _,_,_ + 1,.nil=>.nil
 | _,_,n + 1,.cons _ r=>r.drop n
theorem RAs.set {v:V} {a:A} (h:RA k G v a):∀ {vs:List V} {as:List A} (i:Nat),RAs k G vs as → RAs k G (vs.set i v) (as.set i a)
 | _,_,_,.nil=>.nil
 | _,_,0,.cons _ r=>.cons h r
 | _,_,i + 1,.cons q r=>.cons q (r.set h i)
theorem RAs.strs:∀ {vs:List V} {ss:List Str},RAs k G vs (ss.map A.str) → vs = ss.map V.str
 | _,[],.nil=>rfl
 | _,_ :: ss,.cons h r=>by cases h; rw [r.strs (ss:=ss)]; rfl
theorem RAs.ofStrs:∀ (ss:List Str),RAs k G (ss.map V.str) (ss.map A.str)
 | []=>.nil
 | s :: ss=>.cons (.str s) (RAs.ofStrs ss)
def qM {α:Type} (as:List (Key × α)) (y:Key):Option α:=(as.find? fun kv=>decide (kv.1 = y)).map (·.2)
def xn {α:Type} (as:List (Key × α)) (y:Key) (a:α):List (Key × α) :=
 if (as.any fun kv=>decide (kv.1 = y)) = true then as.map fun kv=>if kv.1 = y then (kv.1,a) else kv else as ++ [(y,a)]
theorem RKs.len:∀ {vs:List (Key × V)} {as:List (Key × A)},RKs k G vs as → vs.length = as.length
 | _,_,.nil=>rfl
 | _,_,.cons _ r=>by rw [List.length_cons,List.length_cons,r.len]
theorem RKs.keys:∀ {vs:List (Key × V)} {as:List (Key × A)},RKs k G vs as → vs.map (·.1) = as.map (·.1)
 | _,_,.nil=>rfl
 | _,_,.cons _ r=>by rw [List.map_cons,List.map_cons,r.keys]
theorem RKs.app:∀ {vs us:List (Key × V)} {as bs:List (Key × A)},RKs k G vs as → RKs k G us bs → RKs k G (vs ++ us) (as ++ bs)
 | _,_,_,_,.nil,s=>s
 | _,_,_,_,.cons h r,s=>.cons h (r.app s)
theorem RKs.get:∀ {vs:List (Key × V)} {as:List (Key × A)} (y:Key),RKs k G vs as → (∃ v a,oi vs y = some v ∧ qM as y = some a ∧ RA k G v a) ∨ (oi vs y = none ∧ qM as y = none)
 | _,_,y,.nil=>.inr ⟨rfl,rfl⟩
 | _,_,y,.cons (y:=z) (v:=v) (a:=a) (vs:=vs) (as:=as) h r=>by
  unfold oi qM
  by_cases c:z = y
  ·left; exact ⟨v,a,by simp [List.find?_cons,c],by simp [List.find?_cons,c],h⟩
  ·have:=RKs.get y r
   unfold oi qM at this
   simpa [List.find?_cons,c] using this
theorem RKs.any:∀ {vs:List (Key × V)} {as:List (Key × A)} (y:Key),RKs k G vs as → (vs.any fun kv=>decide (kv.1 = y)) = (as.any fun kv=>decide (kv.1 = y))
 | _,_,y,.nil=>rfl
 | _,_,y,.cons h r=>by rw [List.any_cons,List.any_cons,RKs.any y r]
theorem RKs.C8 {v:V} {a:A} (y:Key) (h:RA k G v a):∀ {vs:List (Key × V)} {as:List (Key × A)},RKs k G vs as → RKs k G (vs.map fun kv=>if kv.1 = y then (kv.1,v) else kv) (as.map fun kv=>if kv.1 = y then (kv.1,a) else kv)
 | _,_,.nil=>.nil
 | _,_,.cons (y:=z) q r=>by
  rw [List.map_cons,List.map_cons]
  by_cases c:z = y
  ·simp only [c,if_true]; exact .cons h (RKs.C8 y h r)
  ·simp only [c,if_false]; exact .cons q (RKs.C8 y h r)
theorem RKs.put {vs:List (Key × V)} {as:List (Key × A)} {v:V} {a:A} (y:Key) (r:RKs k G vs as) (h:RA k G v a):RKs k G (putK vs y v) (xn as y a):=by
 unfold putK xn
 rw [r.any y]
 split
 ·exact RKs.C8 y h r
 ·exact r.app (.cons h .nil)
theorem RKs.filter (y:Key):∀ {vs:List (Key × V)} {as:List (Key × A)},RKs k G vs as → RKs k G (oR vs y) (as.filter fun kv=>decide (kv.1 ≠ y))
 | _,_,.nil=>.nil
 | _,_,.cons (y:=z) q r=>by
  unfold oR
  rw [List.filter_cons,List.filter_cons]
  by_cases c:z = y
  ·have:=RKs.filter y r; unfold oR at this; simpa [c] using this
  ·have:=RKs.cons (y:=z) q (RKs.filter y r); unfold oR at this; simpa [c] using this
end
def cut (H:Hp) (L:List Addr):Hp:=fun a=>if a ∈ L then none else H a
theorem GN {H:Hp} {L:List Addr} {a:Addr} (h:a ∈ L):cut H L a = none:=if_pos h
theorem AM {H:Hp} {L:List Addr} {a:Addr} (h:a ∉ L):cut H L a = H a:=if_neg h
theorem HB (H:Hp) (L:List Addr):Sq (cut H L) H:=Sq.of fun b o e=>by
 unfold cut at e
 split at e
 ·cases e
 ·exact e
theorem Ge {H:Hp} {L L':List Addr} (h:∀ a,a ∈ L' → a ∈ L):Sq (cut H L) (cut H L'):=Sq.of fun b o e=>by
 by_cases c:b ∈ L
 ·rw [GN c] at e; cases e
 ·rw [AM c] at e
  rw [AM fun z=>c (h b z)]; exact e
inductive LO where
 | lst (xs:List A) | dic (kvs:List (Key × A))
def LO.a:LO → A
 | .lst xs=>.lst xs
 | .dic kvs=>.dic kvs
inductive Sl where
 | un | fr (a:A) | lv (o:LO) | pv (o:LO)
inductive LR (k:Kx) (G H:Hp) (p:Addr):LO → Prop
 | lst {vs:List V} {as:List A} (e:H p = some (.lst vs)) (r:RAs k G vs as):LR k G H p (.lst as)
 | dic {vs:List (Key × V)} {as:List (Key × A)} (e:H p = some (.dK vs)) (r:RKs k G vs as):LR k G H p (.dic as)
inductive SlR (k:Kx) (G H:Hp):Option V → Sl → List Addr → Prop
 | un (x:Option V):SlR k G H x .un []
 | fr {v:V} {a:A} (h:RA k G v a):SlR k G H (some v) (.fr a) []
 | lv {p:Addr} {o:LO} (h:LR k G H p o):SlR k G H (some (.ref p)) (.lv o) [p]
 | pv {p:Addr} {o:LO} (h:LR k G H p o):SlR k G H (some (.ref p)) (.pv o) [p]
inductive aU (k:Kx) (G H:Hp):St → List Sl → List Addr → Prop
 | nil:aU k G H [] [] []
 | cons {x:Option V} {s:Sl} {σ:St} {ρ:List Sl} {L L':List Addr} (h:SlR k G H x s L) (r:aU k G H σ ρ L'):aU k G H (x :: σ) (s :: ρ) (L ++ L')
section
variable {k:Kx} {G G' H H':Hp} {L:List Addr}
theorem LR.is {p:Addr} {o:LO} (h:LR k G H p o):∃ u,H p = some u:=by cases h with | lst e _=>exact ⟨_,e⟩ | dic e _=>exact ⟨_,e⟩
theorem LR.sm (s:Sq G G') {p:Addr} {o:LO} (e:∀ u,H p = some u → H' p = some u) (h:LR k G H p o):LR k G' H' p o:=by
 cases h with
 | lst q r=>exact .lst (e _ q) (r.sm s)
 | dic q r=>exact .dic (e _ q) (r.sm s)
theorem SlR.is {x:Option V} {t:Sl} (h:SlR k G H x t L):∀ p ∈ L,∃ u,H p = some u:=by
 cases h with
 | un=>intro p hp; cases hp
 | fr=>intro p hp; cases hp
 | lv h=>intro p hp; rw [List.mem_singleton.mp hp]; exact h.is
 | pv h=>intro p hp; rw [List.mem_singleton.mp hp]; exact h.is
theorem SlR.sm (s:Sq G G') {x:Option V} {t:Sl} (e:∀ p ∈ L,∀ u,H p = some u → H' p = some u) (h:SlR k G H x t L):SlR k G' H' x t L:=by
 cases h with
 | un=>exact .un _
 | fr h=>exact .fr (h.sm s)
 | lv h=>exact .lv (h.sm s (e _ (List.mem_singleton.mpr rfl)))
 | pv h=>exact .pv (h.sm s (e _ (List.mem_singleton.mpr rfl)))
theorem aU.is:∀ {σ:St} {ρ:List Sl} {L:List Addr},aU k G H σ ρ L → ∀ p ∈ L,∃ u,H p = some u
 | _,_,_,.nil,p,hp=>by cases hp
 | _,_,_,.cons h r,p,hp=>(List.mem_append.mp hp).elim (h.is p) (r.is p)
theorem aU.sm (s:Sq G G'):∀ {σ:St} {ρ:List Sl} {L:List Addr},(∀ p ∈ L,∀ u,H p = some u → H' p = some u) → aU k G H σ ρ L → aU k G' H' σ ρ L
 | _,_,_,_,.nil=>.nil
 | _,_,_,e,.cons h r=>.cons (h.sm s fun p hp=>e p (List.mem_append_left _ hp)) (r.sm s fun p hp=>e p (List.mem_append_right _ hp))
theorem aU.len:∀ {σ:St} {ρ:List Sl} {L:List Addr},aU k G H σ ρ L → σ.length = ρ.length
 | _,_,_,.nil=>rfl
 | _,_,_,.cons _ r=>by rw [List.length_cons,List.length_cons,r.len]
theorem aU.at:∀ {σ:St} {ρ:List Sl} {L:List Addr} {i:Nat} {s:Sl},aU k G H σ ρ L → ρ[i]? = some s →
  ∃ x L1 L2 L3,σ[i]? = some x ∧ SlR k G H x s L2 ∧ L = L1 ++ L2 ++ L3 ∧ ∀ {G' H':Hp} {y:Option V} {t:Sl} {L':List Addr},Sq G G' → (∀ p ∈ L1 ++ L3,∀ u,H p = some u → H' p = some u) → SlR k G' H' y t L' → aU k G' H' (σ.set i y) (ρ.set i t) (L1 ++ L' ++ L3)
 | _,_,_,_,_,.nil,e=>by simp at e
 | _,_,_,0,_,.cons (x:=x) (L:=L) (L':=L') h r,e=>by
  cases e
  refine ⟨x,[],L,L',rfl,h,by simp,fun sm e q=>?_⟩
  simp only [List.set_cons_zero,List.nil_append]
  exact .cons q (r.sm sm (by simpa using e))
 | _,_,_,i + 1,_,.cons (L:=L) h r,e=>by
  obtain ⟨x,L1,L2,L3,e1,e2,e3,e4⟩:=aU.at (i:=i) r e
  refine ⟨x,L ++ L1,L2,L3,e1,e2,by rw [e3]; simp,fun sm e q=>?_⟩
  simp only [List.set_cons_succ]
  have:=aU.cons (h.sm sm fun p hp=>e p (by simp [hp])) (e4 sm (fun p hp=>e p (by rcases List.mem_append.mp hp with z | z <;> simp [z])) q)
  simpa [List.append_assoc] using this
theorem aU.app:∀ {σ τ:St} {ρ θ:List Sl} {L L':List Addr},aU k G H σ ρ L → aU k G H τ θ L' → aU k G H (σ ++ τ) (ρ ++ θ) (L ++ L')
 | _,_,_,_,_,_,.nil,s=>s
 | _,_,_,_,_,_,.cons h r,s=>by have:=aU.cons h (r.app s); simpa [List.append_assoc] using this
theorem aU.split:∀ {σ τ:St} {ρ θ:List Sl} {L:List Addr},σ.length = ρ.length → aU k G H (σ ++ τ) (ρ ++ θ) L → ∃ L1 L2,L = L1 ++ L2 ∧ aU k G H σ ρ L1 ∧ aU k G H τ θ L2
 | [],_,[],_,L,_,h=>⟨[],L,rfl,.nil,h⟩
 | x :: σ,τ,s :: ρ,θ,_,e,.cons (L:=L) h r=>by
  obtain ⟨L1,L2,e1,r1,r2⟩:=aU.split (by simpa using e) r
  exact ⟨L ++ L1,L2,by rw [e1]; simp,.cons h r1,r2⟩
 | _ :: _,_,[],_,_,e,_=>by simp at e
 | [],_,_ :: _,_,_,e,_=>by simp at e
theorem aU.frs:∀ {vs:List V} {as:List A},RAs k G vs as → aU k G H (vs.map some) (as.map Sl.fr) []
 | _,_,.nil=>.nil
 | _,_,.cons h r=>aU.cons (L:=[]) (.fr h) (aU.frs r)
theorem aU.Kw:∀ {vs:List V} {as:List A} {L:List Addr},aU k G H (vs.map some) (as.map Sl.fr) L → L = [] ∧ RAs k G vs as
 | [],[],_,.nil=>⟨rfl,.nil⟩
 | v :: vs,a :: as,_,.cons h r=>by
  cases h with
  | fr h =>
   obtain ⟨e,q⟩:=aU.Kw r
   exact ⟨by rw [e]; rfl,.cons h q⟩
end
end M
namespace M
open PySem L2
structure Cn extends Kx where
 σ0:St
 H0:Hp
 Lp:List Addr
 Hd:List Addr
 Wk:List (Addr × HO)
def Cn.g (c:Cn) (H:Hp) (L:List Addr):Hp:=cut H (L ++ c.Hd)
structure Fr (c:Cn) (H:Hp):Prop where
 st:∀ b o,c.H0 b = some o → ∃ u,H b = some u ∧ (b ∉ c.Lp → (∀ w,(b,w) ∉ c.Wk) → u = o)
 pk:∀ p ∈ c.Wk,H p.1 = some p.2 ∧ (∃ ob vs,p.2 = .frz ob (.dK vs)) ∧ p.1 ∉ c.Hd
theorem Fr.new {c:Cn} {H:Hp} {p:Addr} {o:HO} (f:Fr c H) (h:H p = none):Fr c (upd H p o):=⟨fun b u e=>by
 obtain ⟨w,h1,h2⟩:=f.st b u e
 exact ⟨w,by rw [aR (bu h1 h)]; exact h1,h2⟩,fun q hq=>by
 obtain ⟨h1,h2⟩:=f.pk q hq
 exact ⟨by rw [aR (bu h1 h)]; exact h1,h2⟩⟩
theorem Fr.fresh {c:Cn} {H:Hp} {p:Addr} (f:Fr c H) (h:H p = none):c.H0 p = none:=by
 cases e:c.H0 p with
 | none=>rfl
 | some o=>obtain ⟨u,h1,_⟩:=f.st p o e; rw [h] at h1; cases h1
def oD (σ0 σ:St) (ρ:List Sl):Prop:=∀ (i:Nat) (o:LO),ρ[i]? = some (Sl.pv o) → σ[i]? = σ0[i]?
structure BdL (c:Cn) (σ:St) (H:Hp) (ρ:List Sl) (τ:St) (θ:List Sl) (L:List Addr):Prop where
 nd:L.Nodup
 rel:aU c.toKx (c.g H L) H (τ ++ σ) (θ ++ ρ) L
 own:∀ p ∈ L,p ∈ c.Lp ∨ c.H0 p = none
 fr:Fr c H
 kp:oD c.σ0 σ ρ
 lt:τ.length = θ.length
 hd:∀ p ∈ c.Hd,(∃ u,c.H0 p = some u) ∧ p ∉ c.Lp
theorem g_same (c:Cn) (H:Hp) (L:List Addr):Sq (c.g H L) H:=HB _ _
theorem jn {c:Cn} {H:Hp} {L L':List Addr} (h:∀ a,a ∈ L' → a ∈ L):Sq (c.g H L) (c.g H L'):=Ge fun a ha=>by
 rcases List.mem_append.mp ha with z | z
 ·exact List.mem_append_left _ (h a z)
 ·exact List.mem_append_right _ z
theorem AI {c:Cn} {H:Hp} {L:List Addr} {a:Addr} (h:a ∈ L ∨ a ∈ c.Hd):c.g H L a = none:=GN (by simpa using h)
theorem gF {c:Cn} {H:Hp} {L:List Addr} {a:Addr} (h:a ∉ L) (h':a ∉ c.Hd):c.g H L a = H a:=AM (by simp [h,h'])
theorem BdL.nhd {c:Cn} {σ:St} {H:Hp} {ρ:List Sl} {τ:St} {θ:List Sl} {L:List Addr} (b:BdL c σ H ρ τ θ L) {p:Addr} (h:p ∈ L):p ∉ c.Hd:=fun z=>by
 obtain ⟨⟨u,e⟩,n⟩:=b.hd p z
 rcases b.own p h with y | y
 ·exact n y
 ·rw [y] at e; cases e
theorem BdL.fhd {c:Cn} {σ:St} {H:Hp} {ρ:List Sl} {τ:St} {θ:List Sl} {L:List Addr} (b:BdL c σ H ρ τ θ L) {p:Addr} (h:H p = none):p ∉ c.Hd:=fun z=>by
 obtain ⟨⟨u,e⟩,n⟩:=b.hd p z
 rw [b.fr.fresh h] at e; cases e
def Bd (c:Cn) (σ:St) (H:Hp) (ρ:List Sl) (τ:St) (θ:List Sl):Prop:=∃ L,BdL c σ H ρ τ θ L
section
variable {c:Cn} {σ:St} {H:Hp} {ρ:List Sl} {τ:St} {θ:List Sl}
theorem Bd.kZ (b:Bd c σ H ρ τ θ):σ.length = ρ.length:=by
 obtain ⟨L,b⟩:=b
 have:=b.rel.len
 rw [List.length_append,List.length_append,b.lt] at this
 omega
theorem Bd.push {v:V} {a:A} (b:Bd c σ H ρ τ θ) (h:∀ G,RA c.toKx G v a):Bd c σ H ρ (some v :: τ) (.fr a :: θ):=by
 obtain ⟨L,b⟩:=b
 exact ⟨L,b.nd,aU.cons (L:=[]) (.fr (h _)) b.rel,b.own,b.fr,b.kp,by simp [b.lt],b.hd⟩
theorem Bd.pop {x:Option V} {s:Sl} (b:Bd c σ H ρ (x :: τ) (s :: θ)):Bd c σ H ρ τ θ:=by
 obtain ⟨L,b⟩:=b
 obtain ⟨nd,rel,own,fr,kp,lt,hdd⟩:=b
 have rel:aU c.toKx (c.g H L) H (x :: (τ ++ σ)) (s :: (θ ++ ρ)) L:=rel
 cases rel with
 | cons h r =>
  rename_i L1 L2
  exact ⟨L2,(List.nodup_append.mp nd).2.1,r.sm (jn fun a ha=>List.mem_append_right _ ha) (fun _ _ _ e=>e),fun p hp=>own p (List.mem_append_right _ hp),fr,kp,by simpa using lt,hdd⟩
theorem Bd.J1:∀ {xs:St} {ss:List Sl},xs.length = ss.length → Bd c σ H ρ (xs ++ τ) (ss ++ θ) → Bd c σ H ρ τ θ
 | [],[],_,b=>b
 | x :: xs,s :: ss,e,b=>Bd.J1 (xs:=xs) (ss:=ss) (by simpa using e) (Bd.pop b)
 | [],_ :: _,e,_=>by simp at e
 | _ :: _,[],e,_=>by simp at e
theorem Bd.frs {vs:List V} {as:List A} (b:Bd c σ H ρ (vs.map some ++ τ) (as.map Sl.fr ++ θ)) (e:vs.length = as.length):∃ L,BdL c σ H ρ τ θ L ∧ RAs c.toKx (c.g H L) vs as:=by
 obtain ⟨L,b⟩:=b
 have r:=b.rel
 rw [List.append_assoc,List.append_assoc] at r
 obtain ⟨L1,L2,e1,r1,r2⟩:=aU.split (by simp [e]) r
 obtain ⟨z,ra⟩:=aU.Kw r1
 subst z
 have e1:L = L2:=e1
 subst e1
 exact ⟨L,⟨b.nd,r2,b.own,b.fr,b.kp,by have:=b.lt; simp at this; omega,b.hd⟩,ra⟩
theorem BdL.push {L:List Addr} {v:V} {a:A} (b:BdL c σ H ρ τ θ L) (h:RA c.toKx (c.g H L) v a):Bd c σ H ρ (some v :: τ) (.fr a :: θ) :=
 ⟨L,b.nd,aU.cons (L:=[]) (.fr h) b.rel,b.own,b.fr,b.kp,by simp [b.lt],b.hd⟩
theorem BdL.new {L:List Addr} {p:Addr} {o:HO} (b:BdL c σ H ρ τ θ L) (h:H p = none):BdL c σ (upd H p o) ρ τ θ L ∧ Sq (c.g H L) (c.g (upd H p o) L) ∧ p ∉ L:=by
 have hp:p ∉ L:=fun z=>by obtain ⟨u,e⟩:=b.rel.is p z; rw [h] at e; cases e
 have sm:Sq (c.g H L) (c.g (upd H p o) L):=Sq.of fun a u e=>by
  by_cases z:a ∈ L ∨ a ∈ c.Hd
  ·rw [AI z] at e; cases e
  ·rw [gF (fun y=>z (.inl y)) (fun y=>z (.inr y))] at e
   rw [gF (fun y=>z (.inl y)) (fun y=>z (.inr y)),aR (bu e h)]; exact e
 exact ⟨⟨b.nd,b.rel.sm sm (fun q hq u e=>by rw [aR (bu e h)]; exact e),b.own,b.fr.new h,b.kp,b.lt,b.hd⟩,sm,hp⟩
theorem Bd.LX {vs:List V} {as:List A} {p:Addr} (b:Bd c σ H ρ (vs.map some ++ τ) (as.map Sl.fr ++ θ)) (e:vs.length = as.length) (h:H p = none) (ws:List V) (bs:List A) (hw:∀ G,RAs c.toKx G vs as → RAs c.toKx G ws bs) :
  Bd c σ (upd H p (.tup ws)) ρ (some (.ref p) :: τ) (.fr (.tup bs) :: θ):=by
 obtain ⟨L,bl,ra⟩:=b.frs e
 obtain ⟨b2,sm,hp⟩:=bl.new (o:=.tup ws) h
 exact b2.push (.tup (.inl (.inl (by rw [gF hp (bl.fhd h)]; exact cR))) (hw _ (ra.sm sm)))
theorem BdL.pM {L:List Addr} {p:Addr} {u:HO} {o:LO} (b:BdL c σ H ρ τ θ L) (h:H p = none) (hr:∀ G H',Sq (c.g H L) G → H' p = some u → LR c.toKx G H' p o):Bd c σ (upd H p u) ρ (some (.ref p) :: τ) (.lv o :: θ):=by
 have hp:p ∉ L:=fun z=>by obtain ⟨u,e⟩:=b.rel.is p z; rw [h] at e; cases e
 have sm:Sq (c.g H L) (c.g (upd H p u) (p :: L)):=Sq.of fun a w e=>by
  by_cases z:a ∈ L ∨ a ∈ c.Hd
  ·rw [AI z] at e; cases e
  ·rw [gF (fun y=>z (.inl y)) (fun y=>z (.inr y))] at e
   have na:=bu e h
   rw [gF (fun y=>by rcases List.mem_cons.mp y with y | y; exact na y; exact z (.inl y)) (fun y=>z (.inr y)),aR na]; exact e
 refine ⟨p :: L,List.nodup_cons.mpr ⟨hp,b.nd⟩,aU.cons (L:=[p]) (.lv (hr _ _ sm cR)) (b.rel.sm sm (fun q hq w e=>by rw [aR (bu e h)]; exact e)),fun q hq=>?_,b.fr.new h,b.kp,by simp [b.lt],b.hd⟩
 rcases List.mem_cons.mp hq with z | z
 ·subst z; exact .inr (b.fr.fresh h)
 ·exact b.own q z
theorem Bd.HA {vs:List V} {as:List A} {p:Addr} (b:Bd c σ H ρ (vs.map some ++ τ) (as.map Sl.fr ++ θ)) (e:vs.length = as.length) (h:H p = none) (ws:List V) (bs:List A) (hw:∀ G,RAs c.toKx G vs as → RAs c.toKx G ws bs) :
  Bd c σ (upd H p (.lst ws)) ρ (some (.ref p) :: τ) (.lv (.lst bs) :: θ):=by
 obtain ⟨L,bl,ra⟩:=b.frs e
 exact bl.pM h fun G H' sm q=>.lst q (hw _ (ra.sm sm))
theorem LR.a {k:Kx} {G H:Hp} {p:Addr} {o:LO} (h:LR k G H p o) (sm:Sq G H):RA k H (.ref p) o.a:=by
 cases h with
 | lst e r=>exact .lst (.inl (.inl e)) (r.sm sm)
 | dic e r=>exact .dic (.inl e) (r.sm sm)
theorem LR.a' {k:Kx} {G G' H:Hp} {p:Addr} {o:LO} (h:LR k G H p o) (sm:Sq G G') (e:∀ u,H p = some u → G' p = some u):RA k G' (.ref p) o.a:=by
 cases h with
 | lst q r=>exact .lst (.inl (.inl (e _ q))) (r.sm sm)
 | dic q r=>exact .dic (.inl (e _ q)) (r.sm sm)
def Sl.a:Sl → Option A
 | .fr a=>some a
 | .lv o=>some o.a
 | .pv o=>some o.a
 | .un=>none
theorem SlR.read {k:Kx} {G H:Hp} {x:Option V} {s:Sl} {L:List Addr} {a:A} (h:SlR k G H x s L) (sm:Sq G H) (e:s.a = some a):∃ v,x = some v ∧ RA k H v a:=by
 cases h with
 | un=>cases e
 | fr h=>cases e; exact ⟨_,rfl,h.sm sm⟩
 | lv h=>cases e; exact ⟨_,rfl,h.a sm⟩
 | pv h=>cases e; exact ⟨_,rfl,h.a sm⟩
theorem oD.set {σ0 σ:St} {ρ:List Sl} {i:Nat} {t:Sl} {y:Option V} (k:oD σ0 σ ρ) (h:∀ o,ρ[i]? ≠ some (.pv o)) (hi:i < ρ.length) (e:∀ o,t ≠ .pv o):oD σ0 (σ.set i y) (ρ.set i t):=fun j o q=>by
 by_cases z:j = i
 ·subst z
  rw [List.getElem?_set_self hi] at q
  exact absurd (Option.some.inj q) (e o)
 ·rw [List.getElem?_set_ne (Ne.symm z)] at q ⊢
  exact k j o q
theorem oD.Jv {σ0 σ:St} {ρ:List Sl} {i:Nat} {t:Sl} (k:oD σ0 σ ρ) (h:∀ o,t = .pv o → ∃ o',ρ[i]? = some (.pv o')):oD σ0 σ (ρ.set i t):=fun j o q=>by
 by_cases z:j = i
 ·subst z
  by_cases hi:j < ρ.length
  ·rw [List.getElem?_set_self hi] at q
   obtain ⟨o',e⟩:=h o (Option.some.inj q)
   exact k j o' e
  ·rw [List.getElem?_eq_none (by simp; omega)] at q; cases q
 ·rw [List.getElem?_set_ne (Ne.symm z)] at q
  exact k j o q
theorem Bd.slot {i:Nat} {s:Sl} {a:A} (b:Bd c σ H ρ τ θ) (e:ρ[i]? = some s) (ea:s.a = some a):∃ v,σ[i]? = some (some v) ∧ RA c.toKx H v a:=by
 obtain ⟨L,b⟩:=b
 obtain ⟨L1,L2,e1,r1,r2⟩:=aU.split b.lt b.rel
 obtain ⟨x,_,_,_,hx,hs,_⟩:=r2.at e
 obtain ⟨v,rfl,h⟩:=hs.read (g_same _ _ _) ea
 exact ⟨v,hx,h⟩
theorem Bd.load {i:Nat} {a:A} (b:Bd c σ H ρ τ θ) (e:ρ[i]? = some (.fr a)):∃ v,σ[i]? = some (some v) ∧ Bd c σ H ρ (some v :: τ) (.fr a :: θ):=by
 obtain ⟨L,b⟩:=b
 obtain ⟨L1,L2,e1,r1,r2⟩:=aU.split b.lt b.rel
 obtain ⟨x,_,_,_,hx,hs,_⟩:=r2.at e
 cases hs with
 | fr h=>exact ⟨_,hx,b.push h⟩
theorem Bd.D5 {i:Nat} {o:LO} (b:Bd c σ H ρ τ θ) (e:ρ[i]? = some (.lv o)):Bd c σ H (ρ.set i (.fr o.a)) τ θ:=by
 obtain ⟨L,b⟩:=b
 obtain ⟨L1,L2,e1,r1,r2⟩:=aU.split b.lt b.rel
 obtain ⟨x,M1,M2,M3,hx,hs,e2,ins⟩:=r2.at e
 cases hs with
 | lv h =>
  rename_i p
  have nd:=b.nd
  have hL:L = (L1 ++ M1) ++ p :: M3:=by rw [e1,e2]; simp
  rw [hL] at nd
  have hp:p ∉ L1 ++ M1 ++ M3:=by
   obtain ⟨n1,n2,n3⟩:=List.nodup_append.mp nd
   obtain ⟨m1,m2⟩:=List.nodup_cons.mp n2
   intro z
   rcases List.mem_append.mp z with z | z
   ·exact n3 p z p (by simp) rfl
   ·exact m1 z
  have sub:∀ a,a ∈ L1 ++ M1 ++ M3 → a ∈ L:=fun a ha=>by rw [hL]; simp only [List.mem_append,List.mem_cons] at ha ⊢; rcases ha with (z | z) | z <;> simp [z]
  have sm:Sq (c.g H L) (c.g H (L1 ++ M1 ++ M3)):=jn sub
  have r3:=ins (y:=some (.ref p)) (t:=.fr o.a) (L':=[]) sm (fun _ _ _ e=>e) (.fr (h.a' sm fun u e=>by rw [gF hp (b.nhd (by rw [hL]; simp))]; exact e))
  have hσ:σ.set i (some (.ref p)) = σ:=by
   apply List.ext_getElem?; intro j
   by_cases z:j = i
   ·subst z; rw [List.getElem?_set_self (List.getElem?_eq_some_iff.mp hx).1,hx]
   ·rw [List.getElem?_set_ne (Ne.symm z)]
  rw [hσ] at r3
  refine ⟨L1 ++ M1 ++ M3,?_,?_,fun q hq=>b.own q (sub q hq),b.fr,b.kp.Jv (fun o z=>by cases z),b.lt,b.hd⟩
  ·exact (List.nodup_append.mp nd).1 |> fun n=>List.nodup_append.mpr ⟨n,(List.nodup_cons.mp (List.nodup_append.mp nd).2.1).2,fun a ha b' hb=>(List.nodup_append.mp nd).2.2 a ha b' (List.mem_cons_of_mem _ hb)⟩
  ·have:=(r1.sm sm (fun _ _ _ e=>e)).app r3
   simpa [List.append_assoc] using this
theorem BdL.change {L:List Addr} {i:Nat} {s t:Sl} {o o':LO} {u:HO} (b:BdL c σ H ρ τ θ L) (e:ρ[i]? = some s) (es:s = .lv o ∧ t = .lv o' ∨ s = .pv o ∧ t = .pv o')
  : ∃ p,σ[i]? = some (some (.ref p)) ∧ LR c.toKx (c.g H L) H p o ∧ ((∀ H',H' p = some u → LR c.toKx (c.g H L) H' p o') → Bd c σ (upd H p u) (ρ.set i t) τ θ):=by
 obtain ⟨L1,L2,e1,r1,r2⟩:=aU.split b.lt b.rel
 obtain ⟨x,M1,M2,M3,hx,hs,e2,ins⟩:=r2.at e
 have key:∀ p,x = some (.ref p) → M2 = [p] → LR c.toKx (c.g H L) H p o → (∀ G H',LR c.toKx G H' p o' → SlR c.toKx G H' (some (.ref p)) t [p]) → (∀ o2,t = .pv o2 → ∃ o',ρ[i]? = some (.pv o')) →
   ∃ p,σ[i]? = some (some (.ref p)) ∧ LR c.toKx (c.g H L) H p o ∧ ((∀ H',H' p = some u → LR c.toKx (c.g H L) H' p o') → Bd c σ (upd H p u) (ρ.set i t) τ θ):=by
  intro p ex em hr mk pk
  subst ex em
  refine ⟨p,hx,hr,fun hn=>?_⟩
  have nd:=b.nd
  have hL:L = (L1 ++ M1) ++ p :: M3:=by rw [e1,e2]; simp
  have hin:p ∈ L:=by rw [hL]; simp
  have hne:∀ q,q ∈ L1 ++ M1 ++ M3 → q ≠ p:=fun q hq z=>by
   subst z
   rw [hL] at nd
   obtain ⟨n1,n2,n3⟩:=List.nodup_append.mp nd
   obtain ⟨m1,m2⟩:=List.nodup_cons.mp n2
   rcases List.mem_append.mp hq with z | z
   ·exact n3 q z q (by simp) rfl
   ·exact m1 z
  have ec:c.g (upd H p u) L = c.g H L:=by
   funext a
   by_cases z:a ∈ L ∨ a ∈ c.Hd
   ·rw [AI z,AI z]
   ·rw [gF (fun y=>z (.inl y)) (fun y=>z (.inr y)),gF (fun y=>z (.inl y)) (fun y=>z (.inr y)),aR fun y=>z (.inl (by rw [y]; exact hin))]
  have kpu:∀ q,q ∈ L1 ++ M1 ++ M3 → ∀ w,H q = some w → upd H p u q = some w:=fun q hq w e=>by rw [aR (hne q hq)]; exact e
  have r3:=ins (G':=c.g (upd H p u) L) (H':=upd H p u) (y:=some (.ref p)) (t:=t) (L':=[p]) (by rw [ec]; exact Sq.refl _) (fun q hq=>kpu q (by rcases List.mem_append.mp hq with z | z <;> simp [z])) (mk _ _ (by rw [ec]; exact hn _ cR))
  have hσ:σ.set i (some (.ref p)) = σ:=by
   apply List.ext_getElem?; intro j
   by_cases z:j = i
   ·subst z; rw [List.getElem?_set_self (List.getElem?_eq_some_iff.mp hx).1,hx]
   ·rw [List.getElem?_set_ne (Ne.symm z)]
  rw [hσ] at r3
  refine ⟨L,nd,?_,b.own,⟨fun q w e=>?_,fun q hq=>?_⟩,b.kp.Jv pk,b.lt,b.hd⟩
  ·have:=(r1.sm (G':=c.g (upd H p u) L) (H':=upd H p u) (by rw [ec]; exact Sq.refl _) (fun q hq=>kpu q (by simp [hq]))).app r3
   have z:L1 ++ (M1 ++ [p] ++ M3) = L:=by rw [hL]; simp
   rw [z] at this
   exact this
  ·obtain ⟨w',h1,h2⟩:=b.fr.st q w e
   by_cases z:q = p
   ·subst z
    refine ⟨u,cR,fun nq=>?_⟩
    rcases b.own q hin with y | y
    ·exact absurd y nq
    ·rw [y] at e; cases e
   ·exact ⟨w',by rw [aR z]; exact h1,h2⟩
  ·obtain ⟨h1,⟨ob,vs,h2⟩,h3⟩:=b.fr.pk q hq
   refine ⟨?_,⟨ob,vs,h2⟩,h3⟩
   rw [aR fun y=>?_]
   ·exact h1
   ·rw [y,h2] at h1
    cases hr with
    | lst e _=>rw [e] at h1; cases h1
    | dic e _=>rw [e] at h1; cases h1
 rcases es with ⟨rfl,rfl⟩ | ⟨rfl,rfl⟩
 ·cases hs with
  | lv h=>exact key _ rfl rfl h (fun _ _ h=>.lv h) (fun _ z=>by cases z)
 ·cases hs with
  | pv h=>exact key _ rfl rfl h (fun _ _ h=>.pv h) (fun _ z=>⟨_,e⟩)
theorem Bd.store {i:Nat} {s t:Sl} {v:V} (b:Bd c σ H ρ (some v :: τ) (t :: θ)) (e:ρ[i]? = some s) (hs:∀ o,s ≠ .pv o) (ht:∀ o,t ≠ .pv o):Bd c (σ.set i (some v)) H (ρ.set i t) τ θ:=by
 obtain ⟨L,nd,rel,own,fr,kp,lt,hdd⟩:=b
 have rel:aU c.toKx (c.g H L) H (some v :: (τ ++ σ)) (t :: (θ ++ ρ)) L:=rel
 cases rel with
 | cons h r =>
  rename_i L0 L'
  obtain ⟨L1,L2,e1,r1,r2⟩:=aU.split (by simpa using lt) r
  obtain ⟨x,M1,M2,M3,hx,hs',e2,ins⟩:=r2.at e
  subst e1 e2
  have sub:∀ a,a ∈ L1 ++ (M1 ++ L0 ++ M3) → a ∈ L0 ++ (L1 ++ (M1 ++ M2 ++ M3)):=fun a ha=>by simp at ha ⊢; rcases ha with z | z | z | z <;> simp [z]
  have sm:Sq (c.g H (L0 ++ (L1 ++ (M1 ++ M2 ++ M3)))) (c.g H (L1 ++ (M1 ++ L0 ++ M3))):=jn sub
  have hi:i < ρ.length:=(List.getElem?_eq_some_iff.mp e).1
  refine ⟨L1 ++ (M1 ++ L0 ++ M3),?_,?_,fun q hq=>own q (sub q hq),fr,kp.set (fun o z=>?_) hi ht,by simpa using lt,hdd⟩
  ·have p1:(L0 ++ (L1 ++ (M1 ++ M2 ++ M3))).Perm (M2 ++ (L1 ++ (M1 ++ L0 ++ M3))):=by
    rw [List.perm_iff_count]
    intro a
    simp only [List.count_append]
    omega
   exact (List.nodup_append.mp ((p1.nodup_iff).mp nd)).2.1
  ·exact (r1.sm sm (fun _ _ _ e=>e)).app (ins sm (fun _ _ _ e=>e) (h.sm sm (fun _ _ _ e=>e)))
  ·rw [e] at z; exact hs o (Option.some.inj z)
end
end M
namespace M
open PySem L2
inductive Rr where
 | rf (i:Nat) | fr (a:A) | nw (o:LO)
abbrev Mi (α:Type):=List Sl → Option (Except Str α × List Sl)
def aT {α β:Type} (m:Mi α) (f:α → Mi β):Mi β:=fun ρ=>match m ρ with
 | some (.ok x,ρ1)=>f x ρ1
 | some (.error e,ρ1)=>some (.error e,ρ1)
 | none=>none
def i4 {α:Type} (x:α):Mi α:=fun ρ=>some (.ok x,ρ)
def eP:Rr → V → St → St
 | .rf _,_,τ=>τ
 | .fr _,v,τ=>some v :: τ
 | .nw _,v,τ=>some v :: τ
def eQ:Rr → List Sl → List Sl
 | .rf _,θ=>θ
 | .fr a,θ=>.fr a :: θ
 | .nw o,θ=>.lv o :: θ
def VR (σ:St):Rr → V → Prop
 | .rf i,v=>σ[i]? = some (some v)
 | _,_=>True
def res (ρ:List Sl):Rr → Option A
 | .rf i=>match ρ[i]? with
  | some s=>s.a
  | none=>none
 | .fr a=>some a
 | .nw o=>some o.a
def Ret (K:Kx) (E:XK) (c:Cn) (σ:St) (ρ:List Sl) (τ:St) (θ:List Sl) (Q:VK):Except Str Rr → Prop
 | .ok r=>∀ v H,VR σ r v → Bd c σ H ρ (eP r v τ) (eQ r θ) → Q v H
 | .error x=>∀ C H,K.mg x = some (.ref C) → Bd c σ H ρ τ θ → E (.ref C) none H
def TEm (K:Kx) (E:XK) (m:Mi Rr):TE:=fun σ H Q=>∃ (c:Cn) (ρ:List Sl) (τ:St) (θ:List Sl) (o:Except Str Rr) (ρ':List Sl),c.toKx = K ∧ Bd c σ H ρ τ θ ∧ m ρ = some (o,ρ') ∧ Ret K E c σ ρ' τ θ Q o
def NO (K:Kx) (E:XK) (c:Cn) (σ:St) (ρ:List Sl) (τ:St) (θ:List Sl) (Q:Bool → Hp → Prop):Except Str Bool → Prop
 | .ok b=>∀ H,Bd c σ H ρ τ θ → Q b H
 | .error x=>∀ C H,K.mg x = some (.ref C) → Bd c σ H ρ τ θ → E (.ref C) none H
def TTm (K:Kx) (E:XK) (m:Mi Bool):TT:=fun σ H Q=>∃ (c:Cn) (ρ:List Sl) (τ:St) (θ:List Sl) (o:Except Str Bool) (ρ':List Sl),c.toKx = K ∧ Bd c σ H ρ τ θ ∧ m ρ = some (o,ρ') ∧ NO K E c σ ρ' τ θ Q o
def ia:List Rr → List V → St → St
 | r :: rs,v :: vs,τ=>ia rs vs (eP r v τ)
 | _,_,τ=>τ
def iq:List Rr → List Sl → List Sl
 | r :: rs,θ=>iq rs (eQ r θ)
 | [],θ=>θ
def VRs (σ:St):List Rr → List V → Prop
 | [],[]=>True
 | r :: rs,v :: vs=>VR σ r v ∧ VRs σ rs vs
 | _,_=>False
def Pb (K:Kx) (E:XK) (c:Cn) (σ:St) (ρ:List Sl) (τ:St) (θ:List Sl) (Q:List V → Hp → Prop):Except Str (List Rr) → Prop
 | .ok rs=>∀ vs H,VRs σ rs vs → Bd c σ H ρ (ia rs vs τ) (iq rs θ) → Q vs H
 | .error x=>∀ C H,K.mg x = some (.ref C) → Bd c σ H ρ τ θ → E (.ref C) none H
def TAm (K:Kx) (E:XK) (m:Mi (List Rr)):TA:=fun σ H Q=>∃ (c:Cn) (ρ:List Sl) (τ:St) (θ:List Sl) (o:Except Str (List Rr)) (ρ':List Sl),c.toKx = K ∧ Bd c σ H ρ τ θ ∧ m ρ = some (o,ρ') ∧ Pb K E c σ ρ' τ θ Q o
abbrev kx (X:Cx):Kx:=⟨X.K,X.mg⟩
structure JE (X:Cx) (E:XK) (e:Expr) (m:Mi Rr):Prop where
 p:PE X e (TEm (kx X) E m)
structure JT (X:Cx) (E:XK) (e:Expr) (m:Mi Bool):Prop where
 p:PT X e (TTm (kx X) E m)
structure JW (X:Cx) (E:XK) (e:Expr) (m:Mi Bool):Prop where
 p:PW X e (TTm (kx X) E m)
structure JA (X:Cx) (E:XK) (es:List Expr) (m:Mi (List Rr)):Prop where
 p:PA X es (TAm (kx X) E m)
theorem PE.weaken {X:Cx} {e:Expr} {t t':TE} (h:PE X e t) (f:∀ σ H Q,t' σ H Q → t σ H Q):PE X e t':=fun pins s σ H Q I q=>h pins s σ H Q I (f σ H Q q)
theorem PT.weaken {X:Cx} {e:Expr} {t t':TT} (h:PT X e t) (f:∀ σ H Q,t' σ H Q → t σ H Q):PT X e t':=fun pins s σ H Q I q=>h pins s σ H Q I (f σ H Q q)
theorem PW.weaken {X:Cx} {e:Expr} {t t':TT} (h:PW X e t) (f:∀ σ H Q,t' σ H Q → t σ H Q):PW X e t':=fun wh pins s σ H Q I q=>h wh pins s σ H Q I (f σ H Q q)
theorem PA.weaken {X:Cx} {e:List Expr} {t t':TA} (h:PA X e t) (f:∀ σ H Q,t' σ H Q → t σ H Q):PA X e t':=fun pos pins s σ H Q I q=>h pos pins s σ H Q I (f σ H Q q)
section
variable {c:Cn} {σ:St} {H:Hp} {ρ:List Sl} {τ:St} {θ:List Sl}
theorem Bd.drop {r:Rr} {v:V} (b:Bd c σ H ρ (eP r v τ) (eQ r θ)):Bd c σ H ρ τ θ:=by
 cases r with
 | rf i=>exact b
 | fr a=>exact Bd.pop b
 | nw o=>exact Bd.pop b
theorem Bd.drops:∀ {rs:List Rr} {vs:List V} {τ:St} {θ:List Sl},rs.length = vs.length → Bd c σ H ρ (ia rs vs τ) (iq rs θ) → Bd c σ H ρ τ θ
 | [],[],_,_,_,b=>b
 | r :: rs,v :: vs,_,_,e,b=>Bd.drop (r:=r) (v:=v) (Bd.drops (by simpa using e) b)
 | [],_ :: _,_,_,e,_=>by simp at e
 | _ :: _,[],_,_,e,_=>by simp at e
theorem Bd.top {v:V} {s:Sl} {a:A} (b:Bd c σ H ρ (some v :: τ) (s :: θ)) (e:s.a = some a):RA c.toKx H v a:=by
 obtain ⟨L,nd,rel,_⟩:=b
 have rel:aU c.toKx (c.g H L) H (some v :: (τ ++ σ)) (s :: (θ ++ ρ)) L:=rel
 cases rel with
 | cons h r =>
  obtain ⟨u,z,q⟩:=h.read (g_same _ _ _) e
  cases z; exact q
theorem Bd.rd {r:Rr} {v:V} {a:A} (b:Bd c σ H ρ (eP r v τ) (eQ r θ)) (hv:VR σ r v) (e:res ρ r = some a):RA c.toKx H v a:=by
 cases r with
 | rf i =>
  unfold res at e
  cases es:ρ[i]? with
  | none=>simp only [es] at e; cases e
  | some s =>
   simp only [es] at e
   obtain ⟨u,h1,h2⟩:=Bd.slot b es e
   have hv:σ[i]? = some (some v):=hv
   rw [hv] at h1; cases h1; exact h2
 | fr a'=>cases e; exact Bd.top b rfl
 | nw o=>cases e; exact Bd.top b rfl
theorem SlR.items {k:Kx} {G H:Hp} {x:Option V} {s:Sl} {L:List Addr} (h:SlR k G H x s L) (sm:Sq G H) :
  (∀ as,s.a = some (.lst as) → ∃ p vs,x = some (.ref p) ∧ SqL k.K H p vs ∧ RAs k G vs as) ∧ (∀ as,s.a = some (.tup as) → ∃ p vs,x = some (.ref p) ∧ SqT k.K G p vs ∧ RAs k G vs as) ∧
  (∀ as,s.a = some (.dic as) → ∃ p vs,x = some (.ref p) ∧ Rd H p (.dK vs) ∧ RKs k G vs as):=by
 have lo:∀ p o,LR k G H p o → (∀ as,o.a = A.lst as → ∃ vs,SqL k.K H p vs ∧ RAs k G vs as) ∧ (∀ as,o.a ≠ A.tup as) ∧ (∀ as,o.a = A.dic as → ∃ vs,Rd H p (.dK vs) ∧ RKs k G vs as):=by
  intro p o h
  cases h with
  | lst e r=>exact ⟨fun as z=>by cases z; exact ⟨_,.inl (.inl e),r⟩,fun as z=>(by cases z),fun as z=>(by cases z)⟩
  | dic e r=>exact ⟨fun as z=>(by cases z),fun as z=>(by cases z),fun as z=>by cases z; exact ⟨_,.inl e,r⟩⟩
 cases h with
 | un=>exact ⟨fun _ z=>(by cases z),fun _ z=>(by cases z),fun _ z=>(by cases z)⟩
 | fr h =>
  refine ⟨fun as z=>?_,fun as z=>?_,fun as z=>?_⟩
  ·cases z; cases h with | lst e r=>exact ⟨_,_,rfl,AV sm e,r⟩
  ·cases z; cases h with | tup e r=>exact ⟨_,_,rfl,e,r⟩
  ·cases z; cases h with | dic e r=>exact ⟨_,_,rfl,sm.rdD e,r⟩
 | lv h =>
  rename_i p o
  obtain ⟨l1,l2,l3⟩:=lo p o h
  refine ⟨fun as z=>?_,fun as z=>absurd (Option.some.inj z) (l2 as),fun as z=>?_⟩
  ·obtain ⟨vs,h1,h2⟩:=l1 as (Option.some.inj z); exact ⟨p,vs,rfl,h1,h2⟩
  ·obtain ⟨vs,h1,h2⟩:=l3 as (Option.some.inj z); exact ⟨p,vs,rfl,h1,h2⟩
 | pv h =>
  rename_i p o
  obtain ⟨l1,l2,l3⟩:=lo p o h
  refine ⟨fun as z=>?_,fun as z=>absurd (Option.some.inj z) (l2 as),fun as z=>?_⟩
  ·obtain ⟨vs,h1,h2⟩:=l1 as (Option.some.inj z); exact ⟨p,vs,rfl,h1,h2⟩
  ·obtain ⟨vs,h1,h2⟩:=l3 as (Option.some.inj z); exact ⟨p,vs,rfl,h1,h2⟩
def It3 (c:Cn) (H:Hp) (L:List Addr) (v:V) (a:A):Prop :=
  (∀ as,a = .lst as → ∃ p vs,v = .ref p ∧ SqL c.K H p vs ∧ RAs c.toKx (c.g H L) vs as) ∧ (∀ as,a = .tup as → ∃ p vs,v = .ref p ∧ SqT c.K (c.g H L) p vs ∧ RAs c.toKx (c.g H L) vs as) ∧
  (∀ as,a = .dic as → ∃ p vs,v = .ref p ∧ Rd H p (.dK vs) ∧ RKs c.toKx (c.g H L) vs as)
theorem It3.mono {L L':List Addr} {v:V} {a:A} (h:It3 c H L v a) (s:∀ a,a ∈ L' → a ∈ L):It3 c H L' v a:=by
 obtain ⟨h1,h2,h3⟩:=h
 refine ⟨fun as e=>?_,fun as e=>?_,fun as e=>?_⟩
 ·obtain ⟨p,vs,q1,q2,q3⟩:=h1 as e; exact ⟨p,vs,q1,q2,q3.sm (jn s)⟩
 ·obtain ⟨p,vs,q1,q2,q3⟩:=h2 as e; exact ⟨p,vs,q1,gy (jn s) q2,q3.sm (jn s)⟩
 ·obtain ⟨p,vs,q1,q2,q3⟩:=h3 as e; exact ⟨p,vs,q1,q2,q3.sm (jn s)⟩
theorem It3.of {L L2:List Addr} {x:Option V} {s:Sl} {v:V} {a:A} (ex:x = some v) (h:SlR c.toKx (c.g H L) H x s L2) (ea:s.a = some a):It3 c H L v a:=by
 subst ex
 obtain ⟨l1,l2,l3⟩:=h.items (g_same _ _ _)
 refine ⟨fun as z=>?_,fun as z=>?_,fun as z=>?_⟩ <;> subst z
 ·obtain ⟨p,vs,q,h1,h2⟩:=l1 as ea; exact ⟨p,vs,Option.some.inj q,h1,h2⟩
 ·obtain ⟨p,vs,q,h1,h2⟩:=l2 as ea; exact ⟨p,vs,Option.some.inj q,h1,h2⟩
 ·obtain ⟨p,vs,q,h1,h2⟩:=l3 as ea; exact ⟨p,vs,Option.some.inj q,h1,h2⟩
theorem BdL.open {r:Rr} {v:V} {a:A} {L0:List Addr} (b:BdL c σ H ρ (eP r v τ) (eQ r θ) L0) (hv:VR σ r v) (e:res ρ r = some a):∃ L,(∀ a,a ∈ L → a ∈ L0) ∧ BdL c σ H ρ τ θ L ∧ It3 c H L v a:=by
 have tmp:∀ s,BdL c σ H ρ (some v :: τ) (s :: θ) L0 → s.a = some a → ∃ L,(∀ a,a ∈ L → a ∈ L0) ∧ BdL c σ H ρ τ θ L ∧ It3 c H L v a:=by
  intro s b ea
  obtain ⟨nd,rel,own,fr,kp,lt,hdd⟩:=b
  have rel:aU c.toKx (c.g H L0) H (some v :: (τ ++ σ)) (s :: (θ ++ ρ)) L0:=rel
  cases rel with
  | cons h r =>
   rename_i L1 L2
   have sm:Sq (c.g H (L1 ++ L2)) (c.g H L2):=jn fun a ha=>List.mem_append_right _ ha
   exact ⟨L2,fun a ha=>List.mem_append_right _ ha,⟨(List.nodup_append.mp nd).2.1,r.sm sm (fun _ _ _ e=>e),fun p hp=>own p (List.mem_append_right _ hp),fr,kp,by simpa using lt,hdd⟩,It3.of rfl (h.sm sm (fun _ _ _ e=>e)) ea⟩
 cases r with
 | rf i =>
  unfold res at e
  cases es:ρ[i]? with
  | none=>simp only [es] at e; cases e
  | some s =>
   simp only [es] at e
   obtain ⟨L1,L2,e1,r1,r2⟩:=aU.split b.lt b.rel
   obtain ⟨x,_,_,_,hx,hs,_⟩:=r2.at es
   have hv:σ[i]? = some (some v):=hv
   rw [hv] at hx
   exact ⟨L0,fun _ h=>h,b,It3.of (Option.some.inj hx).symm hs e⟩
 | fr a'=>exact tmp _ b e
 | nw o=>exact tmp _ b e
theorem Bd.open {r:Rr} {v:V} {a:A} (b:Bd c σ H ρ (eP r v τ) (eQ r θ)) (hv:VR σ r v) (e:res ρ r = some a):∃ L,BdL c σ H ρ τ θ L ∧ It3 c H L v a:=by
 obtain ⟨L,b⟩:=b
 obtain ⟨L',_,h⟩:=b.open hv e
 exact ⟨L',h⟩
theorem Bd.DQ {r r':Rr} {v v':V} {a a':A} (b:Bd c σ H ρ (eP r' v' (eP r v τ)) (eQ r' (eQ r θ))) (hv:VR σ r v) (hv':VR σ r' v') (e:res ρ r = some a) (e':res ρ r' = some a'):∃ L,BdL c σ H ρ τ θ L ∧ It3 c H L v a ∧ It3 c H L v' a':=by
 obtain ⟨L,b⟩:=b
 obtain ⟨L1,s1,b1,i1⟩:=b.open hv' e'
 obtain ⟨L2,s2,b2,i2⟩:=b1.open hv e
 exact ⟨L2,b2,i2,i1.mono s2⟩
end
end M
namespace M
open PySem L2
section
variable {X:Cx} {E:XK}
def aj (i:Nat):Mi Rr:=fun ρ=>match ρ[i]? with
 | some (.fr a)=>some (.ok (.fr a),ρ)
 | some (.lv _)=>some (.ok (.rf i),ρ)
 | some (.pv _)=>some (.ok (.rf i),ρ)
 | _=>none
def aS (i:Nat):Mi Rr:=fun ρ=>match ρ[i]? with
 | some (.fr a)=>some (.ok (.fr a),ρ)
 | some (.lv o)=>some (.ok (.fr o.a),ρ.set i (.fr o.a))
 | _=>none
def mC (a:A):Mi Rr:=fun ρ=>some (.ok (.fr a),ρ)
theorem ah {i:Nat} {x:Str} {pos:Pos} (hN:X.N[i]? = some x) (hv:Vis X.env.scope x) (hd:NDb x) (hcd:NCd x):JE X E (.Name x pos) (aj i) :=
 ⟨PE.weaken (sJ hN hv hd hcd) fun σ H Q h=>by
  obtain ⟨c,ρ,τ,θ,o,ρ',ek,b,em,q⟩:=h
  unfold aj at em
  cases es:ρ[i]? with
  | none=>simp only [es] at em; cases em
  | some s =>
   cases s with
   | un=>simp only [es] at em; cases em
   | fr a =>
    simp only [es] at em; cases em
    obtain ⟨v,h1,h2⟩:=b.load es
    exact ⟨v,h1,q v H trivial h2⟩
   | lv o =>
    simp only [es] at em; cases em
    obtain ⟨v,h1,h2⟩:=b.slot es rfl
    exact ⟨v,h1,q v H h1 b⟩
   | pv o =>
    simp only [es] at em; cases em
    obtain ⟨v,h1,h2⟩:=b.slot es rfl
    exact ⟨v,h1,q v H h1 b⟩⟩
theorem aM {i:Nat} {x:Str} {pos:Pos} (hN:X.N[i]? = some x) (hv:Vis X.env.scope x) (hd:NDb x) (hcd:NCd x):JE X E (.Name x pos) (aS i) :=
 ⟨PE.weaken (sJ hN hv hd hcd) fun σ H Q h=>by
  obtain ⟨c,ρ,τ,θ,o,ρ',ek,b,em,q⟩:=h
  unfold aS at em
  cases es:ρ[i]? with
  | none=>simp only [es] at em; cases em
  | some s =>
   cases s with
   | un=>simp only [es] at em; cases em
   | fr a =>
    simp only [es] at em; cases em
    obtain ⟨v,h1,h2⟩:=b.load es
    exact ⟨v,h1,q v H trivial h2⟩
   | lv o =>
    simp only [es] at em; cases em
    have b2:=b.D5 es
    have hi:i < ρ.length:=(List.getElem?_eq_some_iff.mp es).1
    obtain ⟨v,h1,h2⟩:=b2.load (i:=i) (a:=o.a) (List.getElem?_set_self hi)
    exact ⟨v,h1,q v H trivial h2⟩
   | pv o=>simp only [es] at em; cases em⟩
theorem F5 {e:Expr} {v:V} {a:A} (h:PE X e (tC v)) (r:∀ G,RA (kx X) G v a):JE X E e (mC a):=⟨PE.weaken h fun σ H Q h=>by
  obtain ⟨c,ρ,τ,θ,o,ρ',ek,b,em,q⟩:=h
  cases em
  exact q v H trivial (b.push (by rw [ek]; exact r))⟩
theorem ao {i j pos}:JE X E (.Constant (.int i) j pos) (mC (.int i)):=F5 M7 fun _=>.int _
theorem j0 {b j pos}:JE X E (.Constant (.bool b) j pos) (mC (.bl b)):=F5 OP fun _=>.bl _
theorem Mb {j pos}:JE X E (.Constant .none j pos) (mC .non):=F5 Lk fun _=>.non
theorem nK {x j pos}:JE X E (.Constant (.str x) j pos) (mC (.str x)):=F5 FU fun _=>.str _
theorem A3 {x:Str} {v:V} {u:Value} {pos:Pos} {a:A} (hg:Gl X x) (hm:X.mg x = some u) (r:RelV v u) (ra:∀ G,RA (kx X) G v a) (hd:NDb x):JE X E (.Name x pos) (mC a):=F5 (EG hg hm r hd) ra
def mOp (f:A → A → Option Rr) (ma mb:Mi Rr):Mi Rr:=aT ma fun x=>aT mb fun y=>fun ρ=>match res ρ x,res ρ y with
 | some a,some b=>match f a b with
  | some r=>some (.ok r,ρ)
  | none=>none
 | _,_=>none
def OpS (K:Kx) (r:R2) (f:A → A → Option Rr):Prop:=∀ (c:Cn) (σ:St) (H:Hp) (ρ:List Sl) (τ:St) (θ:List Sl) (x y:Rr) (v w:V) (a b:A) (q:Rr) (Q:VK),c.toKx = K → VR σ x v → VR σ y w →
 Bd c σ H ρ (eP y w (eP x v τ)) (eQ y (eQ x θ)) → res ρ x = some a → res ρ y = some b → f a b = some q → (∀ u H',VR σ q u → Bd c σ H' ρ (eP q u τ) (eQ q θ) → Q u H') → r v w H Q
theorem bind_some {α β:Type} {m:Mi α} {f:α → Mi β} {ρ:List Sl} {o:Except Str β} {ρ':List Sl} (h:aT m f ρ = some (o,ρ')):(∃ x ρ1,m ρ = some (.ok x,ρ1) ∧ f x ρ1 = some (o,ρ')) ∨ ∃ e,m ρ = some (.error e,ρ') ∧ o = .error e:=by
 unfold aT at h
 cases e:m ρ with
 | none=>simp only [e] at h; cases h
 | some p =>
  obtain ⟨r,ρ1⟩:=p
  cases r with
  | ok x=>simp only [e] at h; exact .inl ⟨x,ρ1,rfl,h⟩
  | error x=>simp only [e] at h; cases h; exact .inr ⟨x,rfl,rfl⟩
theorem cx {σ:St} {H:Hp} {c:Cn} {ρ ρ':List Sl} {τ:St} {θ:List Sl} {β:Type} {ma:Mi Rr} {f:Rr → Mi β} {o:Except Str β} {Q:VK} (ek:c.toKx = kx X) (b:Bd c σ H ρ τ θ) (em:aT ma f ρ = some (o,ρ'))
  (h1:∀ x v ρ1 H1,VR σ x v → Bd c σ H1 ρ1 (eP x v τ) (eQ x θ) → f x ρ1 = some (o,ρ') → Q v H1)
  (h2:∀ e,o = .error e → ∀ C H,X.mg e = some (.ref C) → Bd c σ H ρ' τ θ → E (.ref C) none H):TEm (kx X) E ma σ H Q:=by
 rcases bind_some em with ⟨x,ρ1,e1,e2⟩ | ⟨e,e1,e2⟩
 ·exact ⟨c,ρ,τ,θ,_,ρ1,ek,b,e1,fun v H1 hv b1=>h1 x v ρ1 H1 hv b1 e2⟩
 ·exact ⟨c,ρ,τ,θ,_,ρ',ek,b,e1,fun C H1 hm b1=>h2 e e2 C H1 hm b1⟩
theorem kI {c:Cn} {σ:St} {ρ':List Sl} {τ:St} {θ:List Sl} {x:Rr} {v:V} {β:Type} {o:Except Str β} (h:∀ e,o = .error e → ∀ C H,X.mg e = some (.ref C) → Bd c σ H ρ' τ θ → E (.ref C) none H) :
  ∀ e,o = .error e → ∀ C H,X.mg e = some (.ref C) → Bd c σ H ρ' (eP x v τ) (eQ x θ) → E (.ref C) none H:=fun e ee C H hm b=>h e ee C H hm b.drop
theorem cU {c:Cn} {σ:St} {ρ':List Sl} {τ:St} {θ:List Sl} {o:Except Str Rr} {Q:VK} (q:Ret (kx X) E c σ ρ' τ θ Q o):∀ e,o = .error e → ∀ C H,X.mg e = some (.ref C) → Bd c σ H ρ' τ θ → E (.ref C) none H:=fun e ee=>by subst ee; exact q
theorem wX {c:Cn} {σ:St} {ρ':List Sl} {τ:St} {θ:List Sl} {o:Except Str Bool} {Q:Bool → Hp → Prop} (q:NO (kx X) E c σ ρ' τ θ Q o):∀ e,o = .error e → ∀ C H,X.mg e = some (.ref C) → Bd c σ H ρ' τ θ → E (.ref C) none H:=fun e ee=>by subst ee; exact q
theorem GS {c:Cn} {σ:St} {ρ':List Sl} {τ:St} {θ:List Sl} {o:Except Str (List Rr)} {Q:List V → Hp → Prop} (q:Pb (kx X) E c σ ρ' τ θ Q o):∀ e,o = .error e → ∀ C H,X.mg e = some (.ref C) → Bd c σ H ρ' τ θ → E (.ref C) none H:=fun e ee=>by subst ee; exact q
theorem IB {f:A → A → Option Rr} {x y:Rr} {ρ ρ':List Sl} {o:Except Str Rr} (h:(match res ρ x,res ρ y with | some a,some b=>(match f a b with | some r=>some ((.ok r:Except Str Rr),ρ) | none=>none) | _,_=>none) = some (o,ρ')) :
  ∃ a b r,res ρ x = some a ∧ res ρ y = some b ∧ f a b = some r ∧ o = .ok r ∧ ρ' = ρ:=by
 cases e1:res ρ x with
 | none=>simp only [e1] at h; cases h
 | some a =>
  cases e2:res ρ y with
  | none=>simp only [e1,e2] at h; cases h
  | some b =>
   simp only [e1,e2] at h
   cases e3:f a b with
   | none=>simp only [e3] at h; cases h
   | some r=>simp only [e3] at h; cases h; exact ⟨a,b,r,rfl,rfl,e3,rfl,rfl⟩
theorem lH {r:R2} {f:A → A → Option Rr} {ma mb:Mi Rr} (hf:OpS (kx X) r f) (σ:St) (H:Hp) (Q:VK) (h:TEm (kx X) E (mOp f ma mb) σ H Q):tOp r (TEm (kx X) E ma) (TEm (kx X) E mb) σ H Q:=by
 obtain ⟨c,ρ,τ,θ,o,ρ',ek,b,em,q⟩:=h
 refine cx ek b em (fun x v ρ1 H1 hv b1 em1=>?_) (cU q)
 refine cx ek b1 em1 (fun y w ρ2 H2 hw b2 em2=>?_) (kI (cU q))
 obtain ⟨a,d,r,e1,e2,e3,rfl,rfl⟩:=IB em2
 exact hf c σ H2 _ τ θ x y v w a d r Q ek hv hw b2 e1 e2 e3 q
theorem yS {op:Operator} {r:R2} {f:A → A → Option Rr} {a b:Expr} {ma mb:Mi Rr} {pos:Pos} (ho:OpR X (binaryOp op) r) (hf:OpS (kx X) r f) (ha:JE X E a ma) (hb:JE X E b mb):JE X E (.BinOp a op b pos) (mOp f ma mb) :=
 ⟨PE.weaken (OQ ho ha.p hb.p) (lH hf)⟩
theorem C2 {op:CmpOp} {r:R2} {f:A → A → Option Rr} {a b:Expr} {ma mb:Mi Rr} {pos:Pos} (ho:OpR X (compareOp op) r) (hf:OpS (kx X) r f) (ha:JE X E a ma) (hb:JE X E b mb) (hm:behindInMarks op b = false):JE X E (.Compare a [op] [b] pos) (mOp f ma mb) :=
 ⟨PE.weaken (Ib ho ha.p hb.p hm) (lH hf)⟩
def asB:Rr → Option Bool
 | .fr (.bl b)=>some b
 | _=>none
def aK (m:Mi Rr):Mi Bool:=aT m fun r ρ=>match asB r with
 | some b=>some (.ok b,ρ)
 | none=>none
theorem m5 {m:Mi Rr} (σ:St) (H:Hp) (Q:Bool → Hp → Prop) (h:TTm (kx X) E (aK m) σ H Q):TEm (kx X) E m σ H fun x H'=>∃ k,x = .bl k ∧ Q k H':=by
 obtain ⟨c,ρ,τ,θ,o,ρ',ek,b,em,q⟩:=h
 refine cx ek b em (fun x v ρ1 H1 hv b1 em1=>?_) (wX q)
 cases x with
 | rf i=>cases em1
 | nw o=>cases em1
 | fr a =>
  cases a with
  | bl k =>
   cases em1
   have r:=Bd.top b1 (a:=.bl k) rfl
   cases r
   exact ⟨k,rfl,q H1 b1.pop⟩
  | _=>cases em1
theorem sP {op:CmpOp} {r:R2} {f:A → A → Option Rr} {a b:Expr} {ma mb:Mi Rr} {pos:Pos} (ho:OpR X (compareOp op) r) (hf:OpS (kx X) r f) (ha:JE X E a ma) (hb:JE X E b mb) (hm:behindInMarks op b = false):JT X E (.Compare a [op] [b] pos) (aK (mOp f ma mb)) :=
 ⟨PT.weaken (IL ho ha.p hb.p hm) fun σ H Q h=>lH hf σ H _ (m5 σ H Q h)⟩
theorem gx {e:Expr} {m:Mi Rr} (h:JE X E e m) (he:∀ whole,isTrue e X.env whole = (do let v ← whole; standAt e.pos; holding [v] (truthy v)):=by intro _; rfl):JT X E e (aK m) :=
 ⟨PT.weaken (Nr h.p he) fun σ H Q h=>m5 σ H Q h⟩
def Ou (m n:Mi Bool):Mi Bool:=aT m fun b=>if b then n else i4 false
def mOr (m n:Mi Bool):Mi Bool:=aT m fun b=>if b then i4 true else n
def jR (m:Mi Bool):Mi Bool:=aT m fun b=>i4 (!b)
theorem Ap {σ:St} {H:Hp} {c:Cn} {ρ ρ':List Sl} {τ:St} {θ:List Sl} {β:Type} {m:Mi Bool} {f:Bool → Mi β} {o:Except Str β} {Q:Bool → Hp → Prop} (ek:c.toKx = kx X) (b:Bd c σ H ρ τ θ) (em:aT m f ρ = some (o,ρ'))
  (h1:∀ k ρ1 H1,Bd c σ H1 ρ1 τ θ → f k ρ1 = some (o,ρ') → Q k H1)
  (h2:∀ e,o = .error e → ∀ C H,X.mg e = some (.ref C) → Bd c σ H ρ' τ θ → E (.ref C) none H):TTm (kx X) E m σ H Q:=by
 rcases bind_some em with ⟨x,ρ1,e1,e2⟩ | ⟨e,e1,e2⟩
 ·exact ⟨c,ρ,τ,θ,_,ρ1,ek,b,e1,fun H1 b1=>h1 x ρ1 H1 b1 e2⟩
 ·exact ⟨c,ρ,τ,θ,_,ρ',ek,b,e1,fun C H1 hm b1=>h2 e e2 C H1 hm b1⟩
theorem gz {a:Expr} {m:Mi Bool} {pos:Pos} (h:JT X E a m):JT X E (.UnaryOp .Not a pos) (jR m):=⟨PT.weaken (LG h.p) fun σ H Q h=>by
 obtain ⟨c,ρ,τ,θ,o,ρ',ek,b,em,q⟩:=h
 refine Ap ek b em (fun k ρ1 H1 b1 em1=>?_) (wX q)
 cases em1; exact q H1 b1⟩
theorem uL {a:Expr} {m:Mi Bool} {pos:Pos} (h:JT X E a m):JW X E (.BoolOp .Or [a] pos) m:=⟨Nc h.p⟩
theorem rE {a b:Expr} {rest:List Expr} {m n:Mi Bool} {pos:Pos} (h:JT X E a m) (h':JW X E (.BoolOp .Or (b :: rest) pos) n):JW X E (.BoolOp .Or (a :: b :: rest) pos) (mOr m n):=⟨PW.weaken (OX h.p h'.p) fun σ H Q h=>by
 obtain ⟨c,ρ,τ,θ,o,ρ',ek,b,em,q⟩:=h
 refine Ap ek b em (fun k ρ1 H1 b1 em1=>?_) (wX q)
 cases k with
 | true=>rw [if_pos rfl]; cases em1; exact q H1 b1
 | false=>rw [if_neg (by decide)]; exact ⟨c,ρ1,τ,θ,o,ρ',ek,b1,em1,q⟩⟩
theorem zh {e:Expr} {m:Mi Bool} (h:JW X E e m):JT X E e m:=⟨h.p.pt⟩
def EF (m n:Mi Rr):Mi Rr:=aT (aK m) fun b=>if b then n else mC (.bl false)
def Pa (m n:Mi Rr):Mi Rr:=aT (aK m) fun b=>if b then mC (.bl true) else n
def DM (m:Mi Rr):Mi Rr:=aT (aK m) fun b=>mC (.bl (!b))
theorem Ew {σ:St} {H:Hp} {c:Cn} {ρ ρ':List Sl} {τ:St} {θ:List Sl} {β:Type} {m:Mi Rr} {f:Bool → Mi β} {o:Except Str β} {Q:Bool → Hp → Prop} (ek:c.toKx = kx X) (b:Bd c σ H ρ τ θ) (em:aT (aK m) f ρ = some (o,ρ'))
  (h1:∀ k ρ1 H1,Bd c σ H1 ρ1 τ θ → f k ρ1 = some (o,ρ') → Q k H1)
  (h2:∀ e,o = .error e → ∀ C H,X.mg e = some (.ref C) → Bd c σ H ρ' τ θ → E (.ref C) none H):TEm (kx X) E m σ H fun x H'=>∃ k,x = .bl k ∧ Q k H' :=
 m5 σ H Q (Ap ek b em h1 h2)
theorem K7 {op} {a:Expr} {m:Mi Rr} {pos:Pos} (h:JE X E a m):JE X E (.BoolOp op [a] pos) m:=⟨Me h.p⟩
theorem MF {a b:Expr} {rest:List Expr} {m n:Mi Rr} {pos:Pos} (h:JE X E a m) (h':JE X E (.BoolOp .And (b :: rest) pos) n):JE X E (.BoolOp .And (a :: b :: rest) pos) (EF m n):=⟨PE.weaken (MB h.p h'.p) fun σ H Q h=>by
 obtain ⟨c,ρ,τ,θ,o,ρ',ek,b,em,q⟩:=h
 refine Ew (Q:=fun k H1=>if k = true then TEm (kx X) E n σ H1 Q else Q (.bl false) H1) ek b em (fun k ρ1 H1 b1 em1=>?_) (cU q)
 cases k with
 | true=>rw [if_pos rfl]; exact ⟨c,ρ1,τ,θ,o,ρ',ek,b1,em1,q⟩
 | false=>rw [if_neg (by decide)]; cases em1; exact q (.bl false) H1 trivial (b1.push fun _=>.bl _)⟩
theorem LK {a:Expr} {m:Mi Rr} {pos:Pos} (h:JE X E a m):JE X E (.UnaryOp .Not a pos) (DM m):=⟨PE.weaken (Mp h.p) fun σ H Q h=>by
 obtain ⟨c,ρ,τ,θ,o,ρ',ek,b,em,q⟩:=h
 refine Ew (Q:=fun k H1=>Q (.bl (!k)) H1) ek b em (fun k ρ1 H1 b1 em1=>?_) (cU q)
 cases em1; exact q (.bl (!k)) H1 trivial (b1.push fun _=>.bl _)⟩
def mIf (t:Mi Bool) (m n:Mi Rr):Mi Rr:=aT t fun b=>if b then m else n
def aD:Mi (List Rr):=i4 []
def ag (m:Mi Rr) (n:Mi (List Rr)):Mi (List Rr):=aT m fun r=>aT n fun rs=>i4 (r :: rs)
theorem ar:JA X E [] aD:=⟨PA.weaken mn fun σ H Q h=>by
 obtain ⟨c,ρ,τ,θ,o,ρ',ek,b,em,q⟩:=h
 cases em; exact q [] H trivial b⟩
theorem ae {e:Expr} {es:List Expr} {m:Mi Rr} {n:Mi (List Rr)} (h:JE X E e m) (h':JA X E es n) (hs:starEach (e :: es) X.env = (false,eval e X.env) :: starEach es X.env:=by rfl):JA X E (e :: es) (ag m n):=⟨PA.weaken (fk h.p h'.p hs) fun σ H Q h=>by
 obtain ⟨c,ρ,τ,θ,o,ρ',ek,b,em,q⟩:=h
 refine cx ek b em (fun x v ρ1 H1 hv b1 em1=>?_) (GS q)
 rcases bind_some em1 with ⟨rs,ρ2,e1,e2⟩ | ⟨e,e1,e2⟩
 ·cases e2
  exact ⟨c,ρ1,_,_,_,ρ',ek,b1,e1,fun vs H2 hvs b2=>q (v :: vs) H2 ⟨hv,hvs⟩ b2⟩
 ·subst e2
  exact ⟨c,ρ1,_,_,_,ρ',ek,b1,e1,fun C H2 hm b2=>q C H2 hm b2.drop⟩⟩
end
end M
namespace M
open PySem L2
section
variable {c:Cn} {σ:St} {H:Hp} {ρ:List Sl} {τ:St} {θ:List Sl}
theorem Gv {α:Type} {l:List α} {i:Nat} {x:α} (h:l[i]? = some x):l.set i x = l:=by
 apply List.ext_getElem?; intro j
 by_cases z:j = i
 ·subst z; rw [List.getElem?_set_self (List.getElem?_eq_some_iff.mp h).1,h]
 ·rw [List.getElem?_set_ne (Ne.symm z)]
theorem Nw {c:Cn} {H:Hp} {L L':List Addr} (h:∀ a,a ∈ L ↔ a ∈ L'):c.g H L = c.g H L':=by
 funext a
 by_cases z:a ∈ L ∨ a ∈ c.Hd
 ·rw [AI z,AI (by rwa [← h a])]
 ·rw [gF (fun y=>z (.inl y)) (fun y=>z (.inr y)),gF (fun y=>z (.inl ((h a).mpr y))) (fun y=>z (.inr y))]
theorem BdL.perm {L L':List Addr} (b:BdL c σ H ρ τ θ L) {τ':St} {θ':List Sl} {ρ':List Sl} (pm:L'.Perm L) (lt:τ'.length = θ'.length) (r:aU c.toKx (c.g H L) H (τ' ++ σ) (θ' ++ ρ') L') (kp:oD c.σ0 σ ρ'):BdL c σ H ρ' τ' θ' L' :=
 ⟨(pm.nodup_iff).mpr b.nd,by rw [Nw (L':=L) fun a=>pm.mem_iff]; exact r,fun p hp=>b.own p (pm.mem_iff.mp hp),b.fr,kp,lt,b.hd⟩
theorem Bd.NF {xs:St} {ss:List Sl} {v:V} {o:LO} (e:xs.length = ss.length) (b:Bd c σ H ρ (xs ++ some v :: τ) (ss ++ .lv o :: θ)):Bd c σ H ρ (xs ++ some v :: τ) (ss ++ .fr o.a :: θ):=by
 obtain ⟨L,b⟩:=b
 have r:aU c.toKx (c.g H L) H (xs ++ (some v :: (τ ++ σ))) (ss ++ (.lv o :: (θ ++ ρ))) L:=by have:=b.rel; simpa [List.append_assoc] using this
 obtain ⟨L1,L2,e1,r1,r2⟩:=aU.split e r
 cases r2 with
 | cons h r3 =>
  rename_i La Lb
  cases h with
  | lv h =>
   rename_i p
   have nd:=b.nd
   rw [e1] at nd
   have hp:p ∉ L1 ++ Lb:=by
    obtain ⟨n1,n2,n3⟩:=List.nodup_append.mp nd
    obtain ⟨m1,m2⟩:=List.nodup_cons.mp n2
    intro z
    rcases List.mem_append.mp z with z | z
    ·exact n3 p z p (by simp) rfl
    ·exact m1 z
   have sub:∀ a,a ∈ L1 ++ Lb → a ∈ L:=fun a ha=>by rw [e1]; simp at ha ⊢; rcases ha with z | z <;> simp [z]
   have sm:Sq (c.g H L) (c.g H (L1 ++ Lb)):=jn sub
   have hin:p ∈ L:=by rw [e1]; simp
   refine ⟨L1 ++ Lb,?_,?_,fun q hq=>b.own q (sub q hq),b.fr,b.kp,by have:=b.lt; simp at this ⊢; omega,b.hd⟩
   ·obtain ⟨n1,n2,n3⟩:=List.nodup_append.mp nd
    exact List.nodup_append.mpr ⟨n1,(List.nodup_cons.mp n2).2,fun a ha b' hb=>n3 a ha b' (List.mem_cons_of_mem _ hb)⟩
   ·have:=(r1.sm sm (fun _ _ _ e=>e)).app (aU.cons (L:=[]) (.fr (h.a' sm fun u e=>by rw [gF hp (b.nhd hin)]; exact e)) (r3.sm sm (fun _ _ _ e=>e)))
    simpa [List.append_assoc] using this
theorem Bd.Mn {xs:St} {ss:List Sl} {v:V} {a:A} {i:Nat} (e:xs.length = ss.length) (b:Bd c σ H ρ (xs ++ τ) (ss ++ θ)) (hv:σ[i]? = some (some v)) (hs:ρ[i]? = some (.fr a)):Bd c σ H ρ (xs ++ some v :: τ) (ss ++ .fr a :: θ):=by
 obtain ⟨L,b⟩:=b
 obtain ⟨M1,M2,_,_,r2⟩:=aU.split b.lt b.rel
 obtain ⟨x,_,_,_,hx,hsl,_⟩:=r2.at hs
 rw [hv] at hx; cases hx
 cases hsl with
 | fr h =>
  have r:aU c.toKx (c.g H L) H (xs ++ (τ ++ σ)) (ss ++ (θ ++ ρ)) L:=by have:=b.rel; simpa [List.append_assoc] using this
  obtain ⟨L1,L2,e1,r1,r2⟩:=aU.split e r
  refine ⟨L,b.nd,?_,b.own,b.fr,b.kp,by have:=b.lt; simp at this ⊢; omega,b.hd⟩
  have:=r1.app (aU.cons (L:=[]) (.fr h) r2)
  rw [e1] at this ⊢
  simpa [List.append_assoc] using this
theorem FR (L1 L2 M1 M3:List Addr) (p:Addr):(L1 ++ p :: (L2 ++ (M1 ++ M3))).Perm (L1 ++ (L2 ++ (M1 ++ p :: M3))):=by
 rw [List.perm_iff_count]; intro a; simp only [List.count_append,List.count_cons]; omega
theorem Bd.M0 {xs:St} {ss:List Sl} {v:V} {o:LO} {i:Nat} {s:Sl} (e:xs.length = ss.length) (b:Bd c σ H ρ (xs ++ τ) (ss ++ θ)) (hv:σ[i]? = some (some v)) (hs:ρ[i]? = some s) (hk:s = .lv o ∨ s = .pv o) :
  Bd c σ H (ρ.set i .un) (xs ++ some v :: τ) (ss ++ .lv o :: θ):=by
 obtain ⟨L,b⟩:=b
 have r:aU c.toKx (c.g H L) H (xs ++ (τ ++ σ)) (ss ++ (θ ++ ρ)) L:=by have:=b.rel; simpa [List.append_assoc] using this
 obtain ⟨L1,L2,e1,r1,r2⟩:=aU.split e r
 obtain ⟨N1,N2,e2,r3,r4⟩:=aU.split (by have:=b.lt; simp at this; omega) r2
 obtain ⟨x,M1,M2,M3,hx,hsl,e3,ins⟩:=r4.at hs
 rw [hv] at hx; cases hx
 have fin:∀ p,v = .ref p → M2 = [p] → LR c.toKx (c.g H L) H p o → Bd c σ H (ρ.set i .un) (xs ++ some v :: τ) (ss ++ .lv o :: θ):=by
  intro p ev em h
  subst ev em
  have r5:=ins (y:=some (.ref p)) (t:=.un) (L':=[]) (Sq.refl _) (fun _ _ _ e=>e) (.un _)
  rw [Gv hv] at r5
  have r6:=r1.app (aU.cons (SlR.lv h) (r3.app r5))
  have pm:(L1 ++ ([p] ++ (N1 ++ (M1 ++ [] ++ M3)))).Perm L:=by
   rw [e1,e2,e3]
   simpa using FR L1 N1 M1 M3 p
  exact ⟨_,b.perm pm (by have:=b.lt; simp at this ⊢; omega) (by simpa [List.append_assoc] using r6) (b.kp.Jv (fun o z=>by cases z))⟩
 rcases hk with rfl | rfl
 ·cases hsl with | lv h=>exact fin _ rfl rfl h
 ·cases hsl with | pv h=>exact fin _ rfl rfl h
theorem Bd.putBack {v:V} {o:LO} {i:Nat} {t:Sl} (b:Bd c σ H ρ (some v :: τ) (.lv o :: θ)) (hv:σ[i]? = some (some v)) (hs:ρ[i]? = some .un) (hk:t = .lv o ∨ (t = .pv o ∧ σ[i]? = c.σ0[i]?)):Bd c σ H (ρ.set i t) τ θ:=by
 obtain ⟨L,b⟩:=b
 have r:aU c.toKx (c.g H L) H (some v :: (τ ++ σ)) (.lv o :: (θ ++ ρ)) L:=b.rel
 cases r with
 | cons h r =>
  rename_i L0 L'
  obtain ⟨L1,L2,e1,r1,r2⟩:=aU.split (by have:=b.lt; simpa using this) r
  obtain ⟨x,M1,M2,M3,hx,hsl,e3,ins⟩:=r2.at hs
  cases hsl with
  | un =>
   cases h with
   | lv h =>
    rename_i p
    have fin:SlR c.toKx (c.g H ([p] ++ L')) H (some (.ref p)) t [p] → oD c.σ0 σ (ρ.set i t) → Bd c σ H (ρ.set i t) τ θ:=fun h kp=>by
     have r5:=ins (Sq.refl _) (fun _ _ _ e=>e) h
     rw [Gv hv] at r5
     have pm:(L1 ++ (M1 ++ [p] ++ M3)).Perm ([p] ++ L'):=by
      rw [e1,e3]; rw [List.perm_iff_count]; intro a; simp only [List.count_append,List.count_cons,List.count_nil]; omega
     exact ⟨_,b.perm pm (by have:=b.lt; simpa using this) (r1.app r5) kp⟩
    rcases hk with rfl | ⟨rfl,hk⟩
    ·exact fin (.lv h) (b.kp.Jv (fun _ z=>by cases z))
    ·refine fin (.pv h) fun j o' q=>?_
     by_cases z:j = i
     ·subst z; exact hk
     ·rw [List.getElem?_set_ne (Ne.symm z)] at q; exact b.kp j o' q
theorem je:∀ (rs:List Rr) (vs:List V) (τ:St),ia rs vs τ = ia rs vs [] ++ τ
 | [],_,τ=>rfl
 | r :: rs,[],τ=>rfl
 | r :: rs,v :: vs,τ=>by
  show ia rs vs (eP r v τ) = ia rs vs (eP r v []) ++ τ
  rw [je rs vs (eP r v τ),je rs vs (eP r v []),List.append_assoc]
  congr 1
  cases r <;> rfl
theorem i6:∀ (rs:List Rr) (θ:List Sl),iq rs θ = iq rs [] ++ θ
 | [],θ=>rfl
 | r :: rs,θ=>by
  show iq rs (eQ r θ) = iq rs (eQ r []) ++ θ
  rw [i6 rs (eQ r θ),i6 rs (eQ r []),List.append_assoc]
  congr 1
  cases r <;> rfl
theorem VRs.len:∀ {rs:List Rr} {vs:List V},VRs σ rs vs → rs.length = vs.length
 | [],[],_=>rfl
 | _ :: rs,_ :: vs,h=>by rw [List.length_cons,List.length_cons,VRs.len h.2]
 | [],_ :: _,h=>h.elim
 | _ :: _,[],h=>h.elim
theorem Be:∀ (rs:List Rr) (vs:List V),rs.length = vs.length → (ia rs vs []).length = (iq rs []).length
 | [],[],_=>rfl
 | r :: rs,v :: vs,h=>by
  show (ia rs vs (eP r v [])).length = (iq rs (eQ r [])).length
  rw [je,i6,List.length_append,List.length_append,Be rs vs (by simpa using h)]
  congr 1
  cases r <;> rfl
 | [],_ :: _,h=>by simp at h
 | _ :: _,[],h=>by simp at h
def dr:Rr → List Sl → Option (A × List Sl)
 | .fr a,ρ=>some (a,ρ)
 | .nw o,ρ=>some (o.a,ρ)
 | .rf i,ρ=>match ρ[i]? with
  | some (.lv o)=>some (o.a,ρ.set i (.fr o.a))
  | some (.fr a)=>some (a,ρ)
  | _=>none
def jD:List Rr → List Sl → Option (List A × List Sl)
 | [],ρ=>some ([],ρ)
 | r :: rs,ρ=>match dr r ρ with
  | some (a,ρ1)=>match jD rs ρ1 with
   | some (as,ρ2)=>some (a :: as,ρ2)
   | none=>none
  | none=>none
theorem Bd.dr {r:Rr} {v:V} {a:A} {ρ':List Sl} {xs:St} {ss:List Sl} (e:xs.length = ss.length) (b:Bd c σ H ρ (xs ++ eP r v τ) (ss ++ eQ r θ)) (hv:VR σ r v) (h:dr r ρ = some (a,ρ')):Bd c σ H ρ' (xs ++ some v :: τ) (ss ++ .fr a :: θ):=by
 cases r with
 | fr a'=>cases h; exact b
 | nw o=>cases h; exact Bd.NF e b
 | rf i =>
  unfold M.dr at h
  cases es:ρ[i]? with
  | none=>simp only [es] at h; cases h
  | some s =>
   cases s with
   | un=>simp only [es] at h; cases h
   | pv o=>simp only [es] at h; cases h
   | fr a'=>simp only [es] at h; cases h; exact Bd.Mn e b hv es
   | lv o =>
    simp only [es] at h; cases h
    have b2:=Bd.D5 b es
    exact Bd.Mn e b2 hv (List.getElem?_set_self (List.getElem?_eq_some_iff.mp es).1)
theorem EK {r:Rr} {rs:List Rr} {ρ ρ':List Sl} {as:List A} (h:jD (r :: rs) ρ = some (as,ρ')):∃ a as' ρ1,dr r ρ = some (a,ρ1) ∧ jD rs ρ1 = some (as',ρ') ∧ as = a :: as':=by
 unfold jD at h
 cases e1:dr r ρ with
 | none=>simp only [e1] at h; cases h
 | some p =>
  obtain ⟨a,ρ1⟩:=p
  simp only [e1] at h
  cases e2:jD rs ρ1 with
  | none=>simp only [e2] at h; cases h
  | some q=>obtain ⟨as',ρ2⟩:=q; simp only [e2] at h; cases h; exact ⟨a,as',ρ1,rfl,e2,rfl⟩
theorem Bd.jD:∀ {rs:List Rr} {vs:List V} {as:List A} {ρ ρ':List Sl} {τ:St} {θ:List Sl},VRs σ rs vs → Bd c σ H ρ (ia rs vs τ) (iq rs θ) → jD rs ρ = some (as,ρ') → Bd c σ H ρ' (vs.reverse.map some ++ τ) (as.reverse.map Sl.fr ++ θ) ∧ vs.length = as.length
 | [],[],_,_,_,_,_,_,b,h=>by cases h; exact ⟨b,rfl⟩
 | r :: rs,v :: vs,_,ρ,ρ',τ,θ,hv,b,h=>by
  obtain ⟨a,as,ρ1,e1,e2,rfl⟩:=EK h
  have b:Bd c σ H ρ (ia rs vs (eP r v τ)) (iq rs (eQ r θ)):=b
  rw [je,i6] at b
  have b1:=Bd.dr (Be rs vs (VRs.len hv.2)) b hv.1 e1
  rw [← je rs vs (some v :: τ),← i6 rs (.fr a :: θ)] at b1
  obtain ⟨b2,e3⟩:=Bd.jD hv.2 b1 e2
  exact ⟨by simpa using b2,by simp [e3]⟩
 | [],_ :: _,_,_,_,_,_,h,_,_=>h.elim
 | _ :: _,[],_,_,_,_,_,h,_,_=>h.elim
end
section
variable {X:Cx} {E:XK}
theorem DW {σ:St} {H:Hp} {c:Cn} {ρ ρ':List Sl} {τ:St} {θ:List Sl} {β:Type} {m:Mi (List Rr)} {f:List Rr → Mi β} {o:Except Str β} {Q:List V → Hp → Prop} (ek:c.toKx = kx X) (b:Bd c σ H ρ τ θ) (em:aT m f ρ = some (o,ρ'))
  (h1:∀ rs vs ρ1 H1,VRs σ rs vs → Bd c σ H1 ρ1 (ia rs vs τ) (iq rs θ) → f rs ρ1 = some (o,ρ') → Q vs H1)
  (h2:∀ e,o = .error e → ∀ C H,X.mg e = some (.ref C) → Bd c σ H ρ' τ θ → E (.ref C) none H):TAm (kx X) E m σ H Q:=by
 rcases bind_some em with ⟨x,ρ1,e1,e2⟩ | ⟨e,e1,e2⟩
 ·exact ⟨c,ρ,τ,θ,_,ρ1,ek,b,e1,fun vs H1 hv b1=>h1 x vs ρ1 H1 hv b1 e2⟩
 ·exact ⟨c,ρ,τ,θ,_,ρ',ek,b,e1,fun C H1 hm b1=>h2 e e2 C H1 hm b1⟩
def dP (m:Mi (List Rr)):Mi Rr:=aT m fun rs ρ=>match jD rs ρ with
 | some (as,ρ')=>if as.length ≤ 1000 then some (.ok (.fr (.tup as)),ρ') else none
 | none=>none
def xt (m:Mi (List Rr)):Mi Rr:=aT m fun rs ρ=>match jD rs ρ with
 | some (as,ρ')=>if as.length ≤ 1000 then some (.ok (.nw (.lst as)),ρ') else none
 | none=>none
theorem CW {k:Kx} {vs:List V} {as:List A}:∀ G,RAs k G vs.reverse as.reverse → RAs k G vs as:=fun G h=>by have:=h.rev; simpa using this
theorem Ck:1000 ≤ sizeLine:=by rw [sizeLine_eq]; decide
theorem cQ {es:List Expr} {m:Mi (List Rr)} {x1 pos} (h:JA X E es m):JE X E (.Tuple es x1 pos) (dP m):=⟨PE.weaken (MQ h.p) fun σ H Q h=>by
 obtain ⟨c,ρ,τ,θ,o,ρ',ek,b,em,q⟩:=h
 refine DW ek b em (fun rs vs ρ1 H1 hv b1 em1=>?_) (cU q)
 cases e1:jD rs ρ1 with
 | none=>simp only [e1] at em1; cases em1
 | some p =>
  obtain ⟨as,ρ2⟩:=p
  simp only [e1] at em1
  obtain ⟨b2,e2⟩:=Bd.jD hv b1 e1
  split at em1
  ·rename_i hl
   cases em1
   exact ⟨by have:=Ck; omega,fun p hp=>q (.ref p) _ trivial (Bd.LX b2 (by simp [e2]) hp vs as CW)⟩
  ·cases em1⟩
theorem si {es:List Expr} {m:Mi (List Rr)} {pos} (h:JA X E es m):JE X E (.List es pos) (xt m):=⟨PE.weaken (L7 h.p) fun σ H Q h=>by
 obtain ⟨c,ρ,τ,θ,o,ρ',ek,b,em,q⟩:=h
 refine DW ek b em (fun rs vs ρ1 H1 hv b1 em1=>?_) (cU q)
 cases e1:jD rs ρ1 with
 | none=>simp only [e1] at em1; cases em1
 | some p =>
  obtain ⟨as,ρ2⟩:=p
  simp only [e1] at em1
  obtain ⟨b2,e2⟩:=Bd.jD hv b1 e1
  split at em1
  ·rename_i hl
   cases em1
   exact ⟨by have:=Ck; omega,fun p hp=>q (.ref p) _ trivial (Bd.HA b2 (by simp [e2]) hp vs as CW)⟩
  ·cases em1⟩
end
end M
namespace M
open PySem L2
inductive Fl where
 | nx | rt (s:Sl) | bk | ct | ex (c:Str)
abbrev Ms:=List Sl → Option (Fl × List Sl)
def fq:Nat → List Sl → List Sl
 | 0,_=>[]
 | n + 1,[]=>.un :: fq n []
 | n + 1,.pv o :: ρ=>.pv o :: fq n ρ
 | n + 1,_ :: ρ=>.un :: fq n ρ
def SpM (K:Kx) (n:Nat) (m:Ms):Sp:=fun vs H Q E=>vs.length = n ∧ ∃ (c:Cn) (ρ:List Sl) (f:Fl) (ρ':List Sl),c.toKx = K ∧ c.σ0 = vs.map some ∧ c.H0 = H ∧ BdL c (vs.map some) H ρ [] [] c.Lp ∧ m ρ = some (f,ρ') ∧
  (match f with
   | .rt s=>∀ v H',(∀ o,s ≠ .pv o) → Bd c (vs.map some) H' (fq vs.length ρ') [some v] [s] → Q v H'
   | .ex x=>∀ C H',K.mg x = some (.ref C) → Bd c (vs.map some) H' (fq vs.length ρ') [] [] → E (.ref C) none H'
   | _=>False)
section
variable {k:Kx} {G H:Hp}
theorem aU.back:∀ {σ0 σ:St} {ρ:List Sl} {L:List Addr},aU k G H σ ρ L → (∀ (i:Nat) (o:LO),ρ[i]? = some (.pv o) → i < σ0.length → σ[i]? = σ0[i]?) → ∃ L',L'.Sublist L ∧ aU k G H σ0 (fq σ0.length ρ) L'
 | [],_,_,_,_,_=>⟨[],List.nil_sublist _,.nil⟩
 | x :: σ0,_,_,_,.nil,h=>by
  obtain ⟨L',s,r⟩:=aU.back (σ0:=σ0) (σ:=[]) (ρ:=[]) .nil (fun i o e=>by simp at e)
  exact ⟨L',s,aU.cons (L:=[]) (.un x) r⟩
 | x :: σ0,_,_,_,.cons (x:=y) (s:=s) (ρ:=ρ1) (L:=L1) (L':=L2) hs r,h=>by
  obtain ⟨L',sl,r'⟩:=aU.back (σ0:=σ0) r (fun i o e hi=>by have:=h (i + 1) o e (by simpa using hi); simpa using this)
  have fin:fq (x :: σ0).length (s :: ρ1) = .un :: fq σ0.length ρ1 → ∃ L',L'.Sublist (L1 ++ L2) ∧ aU k G H (x :: σ0) (fq (x :: σ0).length (s :: ρ1)) L':=fun e=>by
   rw [e]
   exact ⟨L',sl.trans (List.sublist_append_right _ _),aU.cons (L:=[]) (.un x) r'⟩
  cases s with
  | un=>exact fin rfl
  | fr a=>exact fin rfl
  | lv o=>exact fin rfl
  | pv o =>
   have e:=h 0 o rfl (by simp)
   have e:y = x:=by simpa using e
   subst e
   exact ⟨L1 ++ L',List.Sublist.append (List.Sublist.refl _) sl,aU.cons hs r'⟩
end
section
variable {c:Cn} {σ:St} {H:Hp} {ρ:List Sl} {τ:St} {θ:List Sl}
theorem Bd.back (b:Bd c σ H ρ τ θ):Bd c c.σ0 H (fq c.σ0.length ρ) τ θ:=by
 obtain ⟨L,b⟩:=b
 obtain ⟨L1,L2,e1,r1,r2⟩:=aU.split b.lt b.rel
 obtain ⟨L',sl,r⟩:=r2.back (σ0:=c.σ0) (fun i o e _=>b.kp i o e)
 have sl2:(L1 ++ L').Sublist L:=by rw [e1]; exact List.Sublist.append (List.Sublist.refl _) sl
 have sm:Sq (c.g H L) (c.g H (L1 ++ L')):=jn fun a ha=>sl2.subset ha
 exact ⟨L1 ++ L',b.nd.sublist sl2,(r1.app r).sm sm (fun _ _ _ e=>e),fun p hp=>b.own p (sl2.subset hp),b.fr,fun i o _=>rfl,b.lt,b.hd⟩
def take1:Rr → List Sl → Option (Sl × List Sl)
 | .fr a,ρ=>some (.fr a,ρ)
 | .nw o,ρ=>some (.fr o.a,ρ)
 | .rf i,ρ=>match ρ[i]? with
  | some (.lv o)=>some (.lv o,ρ.set i .un)
  | some (.pv o)=>some (.lv o,ρ.set i .un)
  | some (.fr a)=>some (.fr a,ρ)
  | _=>none
def j1:List Rr → List Sl → Option (List Sl × List Sl)
 | [],ρ=>some ([],ρ)
 | r :: rs,ρ=>match take1 r ρ with
  | some (a,ρ1)=>match j1 rs ρ1 with
   | some (as,ρ2)=>some (a :: as,ρ2)
   | none=>none
  | none=>none
def toP:Sl → Sl
 | .lv o=>.pv o
 | s=>s
theorem CG {r:Rr} {rs:List Rr} {ρ ρ':List Sl} {as:List Sl} (h:j1 (r :: rs) ρ = some (as,ρ')):∃ a as' ρ1,take1 r ρ = some (a,ρ1) ∧ j1 rs ρ1 = some (as',ρ') ∧ as = a :: as':=by
 unfold j1 at h
 cases e1:take1 r ρ with
 | none=>simp only [e1] at h; cases h
 | some p =>
  obtain ⟨a,ρ1⟩:=p
  simp only [e1] at h
  cases e2:j1 rs ρ1 with
  | none=>simp only [e2] at h; cases h
  | some q=>obtain ⟨as',ρ2⟩:=q; simp only [e2] at h; cases h; exact ⟨a,as',ρ1,rfl,e2,rfl⟩
theorem Bd.take1 {r:Rr} {v:V} {a:Sl} {ρ':List Sl} {xs:St} {ss:List Sl} (e:xs.length = ss.length) (b:Bd c σ H ρ (xs ++ eP r v τ) (ss ++ eQ r θ)) (hv:VR σ r v) (h:take1 r ρ = some (a,ρ')):Bd c σ H ρ' (xs ++ some v :: τ) (ss ++ a :: θ):=by
 cases r with
 | fr a'=>cases h; exact b
 | nw o=>cases h; exact Bd.NF e b
 | rf i =>
  unfold M.take1 at h
  cases es:ρ[i]? with
  | none=>simp only [es] at h; cases h
  | some s =>
   cases s with
   | un=>simp only [es] at h; cases h
   | fr a'=>simp only [es] at h; cases h; exact Bd.Mn e b hv es
   | lv o=>simp only [es] at h; cases h; exact Bd.M0 e b hv es (.inl rfl)
   | pv o=>simp only [es] at h; cases h; exact Bd.M0 e b hv es (.inr rfl)
theorem Bd.j1:∀ {rs:List Rr} {vs:List V} {as:List Sl} {ρ ρ':List Sl} {τ:St} {θ:List Sl},VRs σ rs vs → Bd c σ H ρ (ia rs vs τ) (iq rs θ) → j1 rs ρ = some (as,ρ') → Bd c σ H ρ' (vs.reverse.map some ++ τ) (as.reverse ++ θ) ∧ vs.length = as.length
 | [],[],_,_,_,_,_,_,b,h=>by cases h; exact ⟨b,rfl⟩
 | r :: rs,v :: vs,_,ρ,ρ',τ,θ,hv,b,h=>by
  obtain ⟨a,as,ρ1,e1,e2,rfl⟩:=CG h
  have b:Bd c σ H ρ (ia rs vs (eP r v τ)) (iq rs (eQ r θ)):=b
  rw [je,i6] at b
  have b1:=Bd.take1 (Be rs vs (VRs.len hv.2)) b hv.1 e1
  rw [← je rs vs (some v :: τ),← i6 rs (a :: θ)] at b1
  obtain ⟨b2,e3⟩:=Bd.j1 hv.2 b1 e2
  exact ⟨by simpa using b2,by simp [e3]⟩
 | [],_ :: _,_,_,_,_,_,h,_,_=>h.elim
 | _ :: _,[],_,_,_,_,_,h,_,_=>h.elim
def B2 (ρ0:List Sl):Rr → Sl → List Sl → Option (List Sl)
 | .rf i,s,ρ=>match ρ0[i]?,s,ρ[i]? with
  | some (.lv _),.pv o,some .un=>some (ρ.set i (.lv o))
  | some (.pv _),.pv o,some .un=>some (ρ.set i (.pv o))
  | some (.fr _),_,_=>some ρ
  | _,_,_=>none
 | _,_,ρ=>some ρ
def putL (ρ0:List Sl):List Rr → List Sl → List Sl → Option (List Sl)
 | r :: rs,s :: ss,ρ=>match putL ρ0 rs ss ρ with
  | some ρ1=>B2 ρ0 r s ρ1
  | none=>none
 | [],[],ρ=>some ρ
 | _,_,_=>none
end
section
variable {k:Kx} {G H:Hp}
theorem aU.Nm:∀ {σ:St} {ρ:List Sl} {L:List Addr},aU k G H σ ρ L → ∃ L',L'.Perm L ∧ aU k G H σ.reverse ρ.reverse L'
 | _,_,_,.nil=>⟨[],.refl _,.nil⟩
 | _,_,_,.cons (L:=L1) (L':=L2) h r=>by
  obtain ⟨L',pm,r'⟩:=aU.Nm r
  refine ⟨L' ++ (L1 ++ []),?_,by rw [List.reverse_cons,List.reverse_cons]; exact r'.app (aU.cons h .nil)⟩
  rw [List.append_nil]
  exact (pm.append_right L1).trans List.perm_append_comm
theorem aU.Ko:∀ {σ:St} {ρ:List Sl} {L:List Addr},aU k G H σ ρ L → ∀ p ∈ L,∀ ob vs,H p = some (.frz ob (.dK vs)) → False
 | _,_,_,.nil,p,hp,_,_,_=>by cases hp
 | _,_,_,.cons h r,p,hp,ob,vs,e=>by
  rcases List.mem_append.mp hp with z | z
  ·have lr:∀ o,LR k G H p o → False:=fun o h=>by cases h with | lst q _=>rw [q] at e; cases e | dic q _=>rw [q] at e; cases e
   cases h with
   | un=>cases z
   | fr=>cases z
   | lv h=>rw [List.mem_singleton.mp z] at lr; exact lr _ h
   | pv h=>rw [List.mem_singleton.mp z] at lr; exact lr _ h
  ·exact r.Ko p z ob vs e
theorem aU.toP:∀ {σ:St} {ρ:List Sl} {L:List Addr},aU k G H σ ρ L → aU k G H σ (ρ.map toP) L
 | _,_,_,.nil=>.nil
 | _,_,_,.cons h r=>by
  refine aU.cons ?_ (aU.toP r)
  cases h with
  | un=>exact .un _
  | fr h=>exact .fr h
  | lv h=>exact .pv h
  | pv h=>exact .pv h
def toL:Sl → Sl
 | .pv o=>.lv o
 | s=>s
theorem aU.toL:∀ {σ:St} {ρ:List Sl} {L:List Addr},aU k G H σ ρ L → aU k G H σ (ρ.map toL) L
 | _,_,_,.nil=>.nil
 | _,_,_,.cons h r=>by
  refine aU.cons ?_ (aU.toL r)
  cases h with
  | un=>exact .un _
  | fr h=>exact .fr h
  | lv h=>exact .lv h
  | pv h=>exact .lv h
end
section
variable {c:Cn} {σ:St} {H:Hp} {ρ:List Sl} {τ:St} {θ:List Sl}
theorem Bd.enter {vs:List V} {as:List Sl} (e:vs.length = as.length) (b:Bd c σ H ρ (vs.reverse.map some ++ τ) (as.reverse ++ θ)) :
  ∃ c':Cn,c'.toKx = c.toKx ∧ c'.σ0 = vs.map some ∧ c'.H0 = H ∧ BdL c' (vs.map some) H (as.map toP) [] [] c'.Lp ∧
   ∀ (H':Hp) (ρ':List Sl) (τ':St) (θ':List Sl),(∀ s ∈ θ',∀ o,s ≠ .pv o) → ρ'.length = vs.length → Bd c' (vs.map some) H' ρ' τ' θ' → Bd c σ H' ρ (vs.reverse.map some ++ (τ' ++ τ)) ((ρ'.map toL).reverse ++ (θ' ++ θ)):=by
 obtain ⟨L,b⟩:=b
 have r:aU c.toKx (c.g H L) H (vs.reverse.map some ++ (τ ++ σ)) (as.reverse ++ (θ ++ ρ)) L:=by have:=b.rel; simpa [List.append_assoc] using this
 obtain ⟨La,Lr,e1,r1,r2⟩:=aU.split (by simp [e]) r
 obtain ⟨Lp,pm,r3⟩:=r1.Nm
 have r3:aU c.toKx (c.g H L) H (vs.map some) as Lp:=by simpa [← List.map_reverse] using r3
 have hmem:∀ a,a ∈ Lp ++ (Lr ++ c.Hd) ↔ a ∈ L ++ c.Hd:=fun a=>by
  rw [e1,List.mem_append,List.mem_append,List.mem_append,List.mem_append,pm.mem_iff]
  constructor
  ·rintro (h | h | h)
   ·exact .inl (.inl h)
   ·exact .inl (.inr h)
   ·exact .inr h
  ·rintro ((h | h) | h)
   ·exact .inl h
   ·exact .inr (.inl h)
   ·exact .inr (.inr h)
 have nd:=b.nd
 rw [e1] at nd
 obtain ⟨n1,n2,n3⟩:=List.nodup_append.mp nd
 let c':Cn:={ toKx:=c.toKx,σ0:=vs.map some,H0:=H,Lp:=Lp,Hd:=Lr ++ c.Hd,Wk:=[] }
 have hg:∀ H1 L1 L2,(∀ a,a ∈ L1 ++ (Lr ++ c.Hd) ↔ a ∈ L2 ++ c.Hd) → c'.g H1 L1 = c.g H1 L2:=fun H1 L1 L2 hm=>by
  funext a
  show (if a ∈ L1 ++ (Lr ++ c.Hd) then none else H1 a) = (if a ∈ L2 ++ c.Hd then none else H1 a)
  by_cases z:a ∈ L1 ++ (Lr ++ c.Hd)
  ·rw [if_pos z,if_pos ((hm a).mp z)]
  ·rw [if_neg z,if_neg fun y=>z ((hm a).mpr y)]
 refine ⟨c',rfl,rfl,rfl,⟨(pm.nodup_iff).mpr n1,?_,fun p hp=>.inl hp,⟨fun q o h=>⟨o,h,fun _ _=>rfl⟩,fun q hq=>by cases hq⟩,fun i o _=>rfl,rfl,fun p hp=>?_⟩,?_⟩
 ·show aU c.toKx (c'.g H Lp) H (vs.map some) (as.map toP) Lp
  rw [hg H Lp L hmem]
  exact r3.toP
 ·rcases List.mem_append.mp hp with z | z
  ·exact ⟨r2.is p z,fun y=>n3 p (pm.mem_iff.mp y) p z rfl⟩
  ·refine ⟨?_,fun y=>b.nhd (by rw [e1]; exact List.mem_append_left _ (pm.mem_iff.mp y)) z⟩
   obtain ⟨⟨u,h1⟩,h2⟩:=b.hd p z
   obtain ⟨u',h3,_⟩:=b.fr.st p u h1
   exact ⟨u',h3⟩
 ·intro H' ρ' τ' θ' hθ hl b'
  obtain ⟨L',b'⟩:=b'
  obtain ⟨Lt,Ls,e2,q1,q2⟩:=aU.split b'.lt b'.rel
  obtain ⟨Ls',pm2,q3⟩:=q2.toL.Nm
  have lt':τ.length = θ.length:=by have:=b.lt; simp [e] at this; omega
  obtain ⟨Lτ,Lσ,e3,s1,s2⟩:=aU.split lt' r2
  have hnew:∀ p ∈ L',p ∈ Lp ∨ H p = none:=b'.own
  have hfr:∀ p,p ∈ Lr → ∀ u,H p = some u → H' p = some u:=fun p hp u h=>by
   obtain ⟨u',h1,h2⟩:=b'.fr.st p u h
   have:p ∉ Lp:=fun y=>n3 p (pm.mem_iff.mp y) p hp rfl
   rw [h1,h2 this (fun w hw=>by cases hw)]
  have hdis:∀ p,p ∈ L' → p ∉ Lr:=fun p hp y=>by
   rcases hnew p hp with z | z
   ·exact n3 p (pm.mem_iff.mp z) p y rfl
   ·obtain ⟨u,h⟩:=r2.is p y; rw [z] at h; cases h
  have hsame:Sq (c.g H L) (c'.g H' L'):=fun a u h=>by
   by_cases z:a ∈ L ∨ a ∈ c.Hd
   ·rw [AI z] at h; cases h
   ·rw [gF (fun y=>z (.inl y)) (fun y=>z (.inr y))] at h
    have na:a ∉ Lp:=fun y=>z (.inl (by rw [e1]; exact List.mem_append_left _ (pm.mem_iff.mp y)))
    have nr:a ∉ Lr:=fun y=>z (.inl (by rw [e1]; exact List.mem_append_right _ y))
    obtain ⟨u',h1,h2⟩:=b'.fr.st a u h
    refine ⟨u',?_,.inl (h2 na (fun w hw=>by cases hw))⟩
    rw [gF (c:=c') (fun y=>?_) (fun y=>?_)]
    ·exact h1
    ·rcases hnew a y with w | w
     ·exact na w
     ·rw [w] at h; cases h
    ·rcases List.mem_append.mp y with w | w
     ·exact nr w
     ·exact z (.inr w)
  have hgL:c'.g H' L' = c.g H' (L' ++ Lr):=hg H' L' (L' ++ Lr) fun a=>by simp [List.mem_append,or_assoc]
  have s3:aU c.toKx (c'.g H' L') H' (τ ++ σ) (θ ++ ρ) Lr:=r2.sm hsame hfr
  have tot:aU c.toKx (c'.g H' L') H' (vs.reverse.map some ++ (τ' ++ τ) ++ σ) ((ρ'.map toL).reverse ++ (θ' ++ θ) ++ ρ) (Ls' ++ (Lt ++ Lr)):=by
   have:=q3.app (q1.app s3)
   simpa [List.append_assoc,← List.map_reverse] using this
  have pmL:(Ls' ++ (Lt ++ Lr)).Perm (L' ++ Lr):=by
   rw [e2]
   have:=pm2.append_right (Lt ++ Lr)
   refine this.trans ?_
   rw [← List.append_assoc]
   exact List.perm_append_comm.append_right Lr
  refine ⟨Ls' ++ (Lt ++ Lr),(pmL.nodup_iff).mpr (List.nodup_append.mpr ⟨b'.nd,n2,fun a ha b2 hb z=>hdis a ha (by rw [z]; exact hb)⟩),?_,fun p hp=>?_,⟨fun q u h=>?_,fun q hq=>?_⟩,b.kp,?_,b.hd⟩
  ·rw [Nw (c:=c) (H:=H') (L':=L' ++ Lr) fun a=>pmL.mem_iff,← hgL]
   exact tot
  ·rcases List.mem_append.mp (pmL.mem_iff.mp hp) with z | z
   ·rcases hnew p z with y | y
    ·exact b.own p (by rw [e1]; exact List.mem_append_left _ (pm.mem_iff.mp y))
    ·exact .inr (b.fr.fresh y)
   ·exact b.own p (by rw [e1]; exact List.mem_append_right _ z)
  ·obtain ⟨u1,h1,h2⟩:=b.fr.st q u h
   obtain ⟨u2,h3,h4⟩:=b'.fr.st q u1 h1
   refine ⟨u2,h3,fun nq nw=>?_⟩
   rw [h4 (fun y=>?_) (fun w hw=>by cases hw),h2 nq nw]
   rcases b.own q (by rw [e1]; exact List.mem_append_left _ (pm.mem_iff.mp y)) with w | w
   ·exact nq w
   ·rw [w] at h; cases h
  ·obtain ⟨h1,⟨ob,ws,h2⟩,h3⟩:=b.fr.pk q hq
   refine ⟨?_,⟨ob,ws,h2⟩,h3⟩
   obtain ⟨u2,h4,h5⟩:=b'.fr.st q.1 q.2 h1
   rw [h4,h5 (fun y=>?_) (fun w hw=>by cases hw)]
   exact r3.Ko q.1 y ob ws (by rw [h1,h2])
  ·have:=b'.lt
   simp [hl]; omega
end
end M
namespace M
open PySem L2
section
variable {c:Cn} {σ:St} {H:Hp} {ρ:List Sl} {τ:St} {θ:List Sl}
theorem Bd.B2 {ρ0 ρ':List Sl} {r:Rr} {s:Sl} {v:V} (kp:oD c.σ0 σ ρ0) (hv:VR σ r v) (b:Bd c σ H ρ (some v :: τ) (toL s :: θ)) (h:B2 ρ0 r s ρ = some ρ'):Bd c σ H ρ' τ θ:=by
 cases r with
 | fr a=>cases h; exact b.pop
 | nw o=>cases h; exact b.pop
 | rf i =>
  unfold M.B2 at h
  cases e0:ρ0[i]? with
  | none=>simp only [e0] at h; cases h
  | some s0 =>
   simp only [e0] at h
   cases s0 with
   | un=>simp at h
   | fr a=>simp at h; subst h; exact b.pop
   | lv o0 =>
    cases s with
    | pv o =>
     cases e1:ρ[i]? with
     | none=>simp [e1] at h
     | some s1 =>
      cases s1 with
      | un=>simp [e1] at h; subst h; exact Bd.putBack b hv e1 (.inl rfl)
      | _=>simp [e1] at h
    | _=>simp at h
   | pv o0 =>
    cases s with
    | pv o =>
     cases e1:ρ[i]? with
     | none=>simp [e1] at h
     | some s1 =>
      cases s1 with
      | un=>simp [e1] at h; subst h; exact Bd.putBack b hv e1 (.inr ⟨rfl,kp i o0 e0⟩)
      | _=>simp [e1] at h
    | _=>simp at h
theorem Bd.putL {ρ0:List Sl} (kp:oD c.σ0 σ ρ0):∀ {rs:List Rr} {vs:List V} {ss:List Sl} {ρ ρ':List Sl} {τ:St} {θ:List Sl},VRs σ rs vs → Bd c σ H ρ (vs.reverse.map some ++ τ) ((ss.map toL).reverse ++ θ) → M.putL ρ0 rs ss ρ = some ρ' → Bd c σ H ρ' τ θ
 | [],[],[],_,_,_,_,_,b,h=>by cases h; exact b
 | r :: rs,v :: vs,s :: ss,ρ,ρ',τ,θ,hv,b,h=>by
  unfold M.putL at h
  cases e:M.putL ρ0 rs ss ρ with
  | none=>simp only [e] at h; cases h
  | some ρ1 =>
   simp only [e] at h
   have b1:Bd c σ H ρ (vs.reverse.map some ++ (some v :: τ)) ((ss.map toL).reverse ++ (toL s :: θ)):=by simpa [List.append_assoc] using b
   exact Bd.B2 kp hv.1 (Bd.putL kp hv.2 b1 e) h
 | [],_ :: _,_,_,_,_,_,h,_,_=>h.elim
 | _ :: _,[],_,_,_,_,_,h,_,_=>h.elim
 | [],[],_ :: _,_,_,_,_,_,_,h=>by cases h
 | _ :: _,_ :: _,[],_,_,_,_,_,_,h=>by cases h
theorem ip:∀ (n:Nat) (ρ:List Sl),(fq n ρ).length = n
 | 0,_=>rfl
 | n + 1,[]=>by show (Sl.un :: fq n []).length = _; rw [List.length_cons,ip n []]
 | n + 1,s :: ρ=>by cases s <;> (show (_ :: fq n ρ).length = _; rw [List.length_cons,ip n ρ])
theorem VRs.app:∀ {rs qs:List Rr} {vs us:List V},VRs σ rs vs → VRs σ qs us → VRs σ (rs ++ qs) (vs ++ us)
 | [],_,[],_,_,h=>h
 | _ :: rs,_,_ :: vs,_,h1,h2=>⟨h1.1,VRs.app h1.2 h2⟩
 | [],_,_ :: _,_,h,_=>h.elim
 | _ :: _,_,[],_,h,_=>h.elim
theorem VRs.frs:∀ {das:List A} {dvs:List V},das.length = dvs.length → VRs σ (das.map Rr.fr) dvs
 | [],[],_=>trivial
 | _ :: das,_ :: dvs,h=>⟨trivial,VRs.frs (by simpa using h)⟩
 | [],_ :: _,h=>by simp at h
 | _ :: _,[],h=>by simp at h
theorem B5:∀ {rs:List Rr} {vs:List V} (qs:List Rr) (us:List V) (τ:St),rs.length = vs.length → ia (rs ++ qs) (vs ++ us) τ = ia qs us (ia rs vs τ)
 | [],[],_,_,_,_=>rfl
 | r :: rs,v :: vs,qs,us,τ,h=>B5 (rs:=rs) (vs:=vs) qs us (eP r v τ) (by simpa using h)
 | [],_ :: _,_,_,_,h=>by simp at h
 | _ :: _,[],_,_,_,h=>by simp at h
theorem zr:∀ (rs qs:List Rr) (θ:List Sl),iq (rs ++ qs) θ = iq qs (iq rs θ)
 | [],_,_=>rfl
 | r :: rs,qs,θ=>zr rs qs (eQ r θ)
theorem Bd.Hn:∀ {das:List A} {dvs:List V} {τ:St} {θ:List Sl},(∀ G,RAs c.toKx G dvs das) → Bd c σ H ρ τ θ → Bd c σ H ρ (ia (das.map Rr.fr) dvs τ) (iq (das.map Rr.fr) θ)
 | [],[],_,_,_,b=>b
 | a :: das,v :: dvs,_,_,h,b=>Bd.Hn (das:=das) (dvs:=dvs) (fun G=>by cases h G; assumption) (Bd.push b fun G=>by cases h G; assumption)
 | [],_ :: _,_,_,h,_=>by cases h (fun _=>none)
 | _ :: _,[],_,_,h,_=>by cases h (fun _=>none)
end
def xl:Sl → Option Rr
 | .fr a=>some (.fr a)
 | .lv o=>some (.nw o)
 | _=>none
def aC (f:Ms) (das:List A) (ma:Mi (List Rr)):Mi Rr:=aT ma fun rs ρ=>match j1 (rs ++ das.map Rr.fr) ρ with
 | some (as,ρt)=>match f (as.map toP) with
  | some (.rt s,ρc)=>match xl s,putL ρ (rs ++ das.map Rr.fr) (fq as.length ρc) ρt with
   | some r,some ρ'=>some (.ok r,ρ')
   | _,_=>none
  | some (.ex x,ρc)=>match putL ρ (rs ++ das.map Rr.fr) (fq as.length ρc) ρt with
   | some ρ'=>some (.error x,ρ')
   | none=>none
  | _=>none
 | none=>none
section
variable {X:Cx} {E:XK}
theorem yX {m:Ms} {n:Nat} {das:List A} {dvs:List V} (hd:∀ G,RAs (kx X) G dvs das) {σ:St} {H:Hp} {Q:VK} {rs:List Rr} {c:Cn} {ρ ρ':List Sl} {τ:St} {θ:List Sl} {o:Except Str Rr} {vs:List V} (ek:c.toKx = kx X) (hn:(vs ++ dvs).length = n)
  (hv:VRs σ rs vs) (b:Bd c σ H ρ (ia rs vs τ) (iq rs θ)) (em:(match j1 (rs ++ das.map Rr.fr) ρ with
 | some (as,ρt)=>match m (as.map toP) with
  | some (.rt s,ρc)=>match xl s,putL ρ (rs ++ das.map Rr.fr) (fq as.length ρc) ρt with
   | some r,some ρ'=>some (.ok r,ρ')
   | _,_=>none
  | some (.ex x,ρc)=>match putL ρ (rs ++ das.map Rr.fr) (fq as.length ρc) ρt with
   | some ρ'=>some (.error x,ρ')
   | none=>none
  | _=>none
 | none=>none) = some (o,ρ')) (q1:∀ r,o = .ok r → ∀ v H',VR σ r v → Bd c σ H' ρ' (eP r v τ) (eQ r θ) → Q v H') (q2:∀ x,o = .error x → ∀ C H',X.mg x = some (.ref C) → Bd c σ H' ρ' τ θ → E (.ref C) none H'):SpM (kx X) n m (vs ++ dvs) H Q E:=by
 refine ⟨hn,?_⟩
 cases e1:j1 (rs ++ das.map Rr.fr) ρ with
 | none=>simp only [e1] at em; cases em
 | some p =>
  obtain ⟨as,ρt⟩:=p
  simp only [e1] at em
  have ld:das.length = dvs.length:=(hd fun _=>none).len.symm
  have hv2:VRs σ (rs ++ das.map Rr.fr) (vs ++ dvs):=hv.app (VRs.frs ld)
  have b2:Bd c σ H ρ (ia (rs ++ das.map Rr.fr) (vs ++ dvs) τ) (iq (rs ++ das.map Rr.fr) θ):=by
   rw [B5 _ _ _ hv.len,zr]
   exact Bd.Hn (by rw [ek]; exact hd) b
  obtain ⟨b3,e3⟩:=Bd.j1 hv2 b2 e1
  obtain ⟨c',k1,k2,k3,k4,k5⟩:=Bd.enter e3 b3
  have kp:oD c.σ0 σ ρ:=by obtain ⟨L,b⟩:=b; exact b.kp
  cases e4:m (as.map toP) with
  | none=>simp only [e4] at em; cases em
  | some p =>
   obtain ⟨f,ρc⟩:=p
   simp only [e4] at em
   refine ⟨c',_,f,ρc,k1.trans ek,k2,k3,k4,e4,?_⟩
   cases f with
   | nx=>cases em
   | bk=>cases em
   | ct=>cases em
   | rt s =>
    simp only at em
    cases e5:xl s with
    | none=>simp only [e5] at em; cases em
    | some r =>
     cases e6:putL ρ (rs ++ das.map Rr.fr) (fq as.length ρc) ρt with
     | none=>simp only [e5,e6] at em; cases em
     | some ρ2 =>
      simp only [e5,e6] at em
      cases em
      intro v H' hs b5
      have b6:=k5 H' _ _ _ (fun s' hs' o z=>by rw [List.mem_singleton.mp hs'] at z; exact hs o z) (ip _ _) b5
      rw [e3] at b6
      have b7:=Bd.putL kp hv2 b6 e6
      cases s with
      | fr a=>cases e5; exact q1 _ rfl v H' trivial b7
      | lv o=>cases e5; exact q1 _ rfl v H' trivial b7
      | _=>cases e5
   | ex x =>
    simp only at em
    cases e6:putL ρ (rs ++ das.map Rr.fr) (fq as.length ρc) ρt with
    | none=>simp only [e6] at em; cases em
    | some ρ2 =>
     simp only [e6] at em
     cases em
     intro C H' hm b5
     have b6:=k5 H' _ _ _ (fun s' hs'=>by cases hs') (ip _ _) b5
     rw [e3] at b6
     exact q2 x rfl C H' hm (Bd.putL kp hv2 b6 e6)
theorem az {CX:CXT} {k n:Nat} {f:Addr} {fd:FuncData} {ps:List Str} {m:Ms} {das:List A} {dvs:List V} {ds:List Value} {x:Str} {p pos:Pos} {e:Expr} {es:List Expr} {ma:Mi (List Rr)} (F:dw X.prog X.w X.K X.mg X.base CX k f fd ps (SpM (kx X) n m)) (hr:kH k X.A) (hg:Gl X x)
  (hm:X.mg x = some (.ref f)) (hk:PySem.W.keepIn X.K (.ref f) = true) (hb:Binds X.K fd ps ds) (hd:Vals dvs ds) (hda:∀ G,RAs (kx X) G dvs das) (hx:Passes CX X E) (ha:JA X E (e :: es) ma) (hn:∀ ρ rs ρ',ma ρ = some (.ok rs,ρ') → rs.length + das.length = n) (hdb:NDb x)
  (he:starEach (e :: es) X.env = (false,eval e X.env) :: starEach es X.env:=by rfl) (hpl:(backTo pos (starEach es X.env)).any (·.1) = false:=by rfl):JE X E (.Call (.Name x p) (e :: es) [] pos) (aC m das ma) :=
 ⟨PE.weaken (Jq F hr hg hm hk hb hd hx ha.p hdb he hpl) fun σ H Q h=>by
  obtain ⟨c,ρ,τ,θ,o,ρ',ek,b,em,q⟩:=h
  rcases bind_some em with ⟨rs,ρ1,e1,e2⟩ | ⟨e,e1,e2⟩
  ·refine ⟨c,ρ,τ,θ,_,ρ1,ek,b,e1,fun vs H1 hv b1=>?_⟩
   refine yX hda ek ?_ hv b1 e2 (fun r hr v H' hv b=>by subst hr; exact q v H' hv b) (fun x hx=>by subst hx; exact q)
   rw [List.length_append,← hv.len,← hn ρ rs ρ1 e1,(hda fun _=>none).len]
  ·subst e2
   exact ⟨c,ρ,τ,θ,_,ρ',ek,b,e1,fun C H1 hm b1=>q C H1 hm b1⟩⟩
theorem aH:∀ ρ rs ρ',aD ρ = some (.ok rs,ρ') → rs.length = 0:=fun ρ rs ρ' h=>by cases h; rfl
theorem ai {m:Mi Rr} {ma:Mi (List Rr)} {n:Nat} (h:∀ ρ rs ρ',ma ρ = some (.ok rs,ρ') → rs.length = n):∀ ρ rs ρ',ag m ma ρ = some (.ok rs,ρ') → rs.length = n + 1:=fun ρ rs ρ' e=>by
 rcases bind_some e with ⟨r,ρ1,e1,e2⟩ | ⟨_,_,e2⟩
 ·rcases bind_some e2 with ⟨rs',ρ2,e3,e4⟩ | ⟨_,_,e4⟩
  ·cases e4; rw [List.length_cons,h _ _ _ e3]
  ·cases e4
 ·cases e2
theorem aG {ma:Mi (List Rr)} {n d N:Nat} (h:∀ ρ rs ρ',ma ρ = some (.ok rs,ρ') → rs.length = n) (e:n + d = N):∀ ρ rs ρ',ma ρ = some (.ok rs,ρ') → rs.length + d = N:=fun ρ rs ρ' q=>by rw [h ρ rs ρ' q]; exact e
def Ji (K:Kx) (E:XK) (c:Cn) (ρ:List Sl) (τ:St) (θ:List A) (D:Ends):Fl → Prop
 | .nx=>∀ σ H,Bd c σ H ρ τ (θ.map Sl.fr) → D.nx σ H
 | .rt s=>∀ v σ H,(∀ o,s ≠ .pv o) → Bd c σ H ρ (some v :: τ) (s :: θ.map Sl.fr) → D.rt v H
 | .bk=>∀ σ H,Bd c σ H ρ τ (θ.map Sl.fr) → D.bk σ H
 | .ct=>∀ σ H,Bd c σ H ρ τ (θ.map Sl.fr) → D.ct σ H
 | .ex x=>∀ C σ H,K.mg x = some (.ref C) → Bd c σ H ρ τ (θ.map Sl.fr) → E (.ref C) none H
def TSm (K:Kx) (E:XK) (m:Ms):TS:=fun D σ H=>∃ (c:Cn) (ρ:List Sl) (τ:St) (θ:List A) (f:Fl) (ρ':List Sl),c.toKx = K ∧ Bd c σ H ρ τ (θ.map Sl.fr) ∧ m ρ = some (f,ρ') ∧ Ji K E c ρ' τ θ D f
structure JS (X:Cx) (E:XK) (s:Stmt) (m:Ms):Prop where
 p:PS X s (TSm (kx X) E m)
structure JSs (X:Cx) (E:XK) (s:List Stmt) (m:Ms):Prop where
 p:PSs X s (TSm (kx X) E m)
theorem PS.weaken {X:Cx} {e:Stmt} {t t':TS} (h:PS X e t) (f:∀ D σ H,t' D σ H → t D σ H):PS X e t':=fun pins s σ H D I q=>h pins s σ H D I (f D σ H q)
theorem PSs.weaken {X:Cx} {e:List Stmt} {t t':TS} (h:PSs X e t) (f:∀ D σ H,t' D σ H → t D σ H):PSs X e t':=fun pins s σ H D I q=>h pins s σ H D I (f D σ H q)
def bZ:Ms:=fun ρ=>some (.nx,ρ)
def aY (m n:Ms):Ms:=fun ρ=>match m ρ with
 | some (.nx,ρ1)=>n ρ1
 | r=>r
theorem cb:JSs X E [] bZ:=⟨PSs.weaken HQ fun D σ H h=>by
 obtain ⟨c,ρ,τ,θ,f,ρ',ek,b,em,q⟩:=h
 cases em; exact q σ H b⟩
theorem aE {s:Stmt} {m:Ms} (h:JS X E s m):JSs X E [s] m:=⟨HW h.p⟩
theorem av {s:Stmt} {r:List Stmt} {m n:Ms} (h:JS X E s m) (h':JSs X E r n):JSs X E (s :: r) (aY m n):=⟨PSs.weaken (HD h.p h'.p) fun D σ H h=>by
 obtain ⟨c,ρ,τ,θ,f,ρ',ek,b,em,q⟩:=h
 unfold aY at em
 cases e:m ρ with
 | none=>simp only [e] at em; cases em
 | some p =>
  obtain ⟨f1,ρ1⟩:=p
  simp only [e] at em
  refine ⟨c,ρ,τ,θ,f1,ρ1,ek,b,e,?_⟩
  cases f1 with
  | nx=>exact fun σ' H' b'=>⟨c,ρ1,τ,θ,f,ρ',ek,b',em,q⟩
  | rt s=>cases em; exact q
  | bk=>cases em; exact q
  | ct=>cases em; exact q
  | ex x=>cases em; exact q⟩
def eo {α:Type} (m:Mi α) (f:α → Ms):Ms:=fun ρ=>match m ρ with
 | some (.ok x,ρ1)=>f x ρ1
 | some (.error e,ρ1)=>some (.ex e,ρ1)
 | none=>none
theorem fZ {α:Type} {m:Mi α} {f:α → Ms} {ρ:List Sl} {o:Fl} {ρ':List Sl} (h:eo m f ρ = some (o,ρ')):(∃ x ρ1,m ρ = some (.ok x,ρ1) ∧ f x ρ1 = some (o,ρ')) ∨ ∃ e,m ρ = some (.error e,ρ') ∧ o = .ex e:=by
 unfold eo at h
 cases e:m ρ with
 | none=>simp only [e] at h; cases h
 | some p =>
  obtain ⟨r,ρ1⟩:=p
  cases r with
  | ok x=>simp only [e] at h; exact .inl ⟨x,ρ1,rfl,h⟩
  | error x=>simp only [e] at h; cases h; exact .inr ⟨x,rfl,rfl⟩
theorem qz {σ:St} {H:Hp} {c:Cn} {ρ ρ':List Sl} {τ:St} {θ:List A} {m:Mi Rr} {f:Rr → Ms} {o:Fl} {Q:VK} {D:Ends} (ek:c.toKx = kx X) (b:Bd c σ H ρ τ (θ.map Sl.fr)) (em:eo m f ρ = some (o,ρ')) (q:Ji (kx X) E c ρ' τ θ D o)
  (h1:∀ x v ρ1 H1,VR σ x v → Bd c σ H1 ρ1 (eP x v τ) (eQ x (θ.map Sl.fr)) → f x ρ1 = some (o,ρ') → Q v H1):TEm (kx X) E m σ H Q:=by
 rcases fZ em with ⟨x,ρ1,e1,e2⟩ | ⟨e,e1,e2⟩
 ·exact ⟨c,ρ,τ,_,_,ρ1,ek,b,e1,fun v H1 hv b1=>h1 x v ρ1 H1 hv b1 e2⟩
 ·subst e2; exact ⟨c,ρ,τ,_,_,ρ',ek,b,e1,fun C H1 hm b1=>q C σ H1 hm b1⟩
theorem JN {σ:St} {H:Hp} {c:Cn} {ρ ρ':List Sl} {τ:St} {θ:List A} {m:Mi Bool} {f:Bool → Ms} {o:Fl} {Q:Bool → Hp → Prop} {D:Ends} (ek:c.toKx = kx X) (b:Bd c σ H ρ τ (θ.map Sl.fr)) (em:eo m f ρ = some (o,ρ')) (q:Ji (kx X) E c ρ' τ θ D o)
  (h1:∀ k ρ1 H1,Bd c σ H1 ρ1 τ (θ.map Sl.fr) → f k ρ1 = some (o,ρ') → Q k H1):TTm (kx X) E m σ H Q:=by
 rcases fZ em with ⟨x,ρ1,e1,e2⟩ | ⟨e,e1,e2⟩
 ·exact ⟨c,ρ,τ,_,_,ρ1,ek,b,e1,fun H1 b1=>h1 x ρ1 H1 b1 e2⟩
 ·subst e2; exact ⟨c,ρ,τ,_,_,ρ',ek,b,e1,fun C H1 hm b1=>q C σ H1 hm b1⟩
def vD (m:Mi Rr):Ms:=eo m fun _ ρ=>some (.nx,ρ)
theorem AN {e:Expr} {m:Mi Rr} {pos:Pos} (h:JE X E e m) (hs:swapsWith e none pos.line X.env = pure false:=by rfl):JS X E (.Expr e pos) (vD m):=⟨PS.weaken (IQ h.p hs) fun D σ H h=>by
 obtain ⟨c,ρ,τ,θ,f,ρ',ek,b,em,q⟩:=h
 refine qz ek b em q fun x v ρ1 H1 hv b1 em1=>?_
 cases em1; exact q σ H1 b1.drop⟩
def sIf (t:Mi Bool) (m n:Ms):Ms:=eo t fun b=>if b then m else n
theorem fB {t:Expr} {a b:List Stmt} {mt:Mi Bool} {m n:Ms} {pos:Pos} (ht:JT X E t mt) (ha:JSs X E a m) (hb:JSs X E b n):JS X E (.If t a b pos) (sIf mt m n):=⟨PS.weaken (NS ht.p ha.p hb.p) fun D σ H h=>by
 obtain ⟨c,ρ,τ,θ,f,ρ',ek,b,em,q⟩:=h
 refine JN ek b em q fun k ρ1 H1 b1 em1=>?_
 cases k with
 | true=>rw [if_pos rfl]; exact ⟨c,ρ1,τ,θ,f,ρ',ek,b1,em1,q⟩
 | false=>rw [if_neg (by decide)]; exact ⟨c,ρ1,τ,θ,f,ρ',ek,b1,em1,q⟩⟩
def GB:Rr → List Sl → Option (Sl × List Sl)
 | .fr a,ρ=>some (.fr a,ρ)
 | .nw o,ρ=>some (.lv o,ρ)
 | .rf i,ρ=>match ρ[i]? with
  | some (.lv o)=>some (.lv o,ρ.set i .un)
  | _=>none
def cK (m:Mi Rr):Ms:=eo m fun r ρ=>match GB r ρ with
 | some (s,ρ')=>some (.rt s,ρ')
 | none=>none
theorem bt {e:Expr} {m:Mi Rr} {pos:Pos} (h:JE X E e m):JS X E (.Return (some e) pos) (cK m):=⟨PS.weaken (Mq h.p) fun D σ H h=>by
 obtain ⟨c,ρ,τ,θ,f,ρ',ek,b,em,q⟩:=h
 refine qz ek b em q fun x v ρ1 H1 hv b1 em1=>?_
 cases x with
 | fr a=>cases em1; exact q v σ H1 (fun o z=>by cases z) b1
 | nw o=>cases em1; exact q v σ H1 (fun o z=>by cases z) b1
 | rf i =>
  unfold GB at em1
  cases es:ρ1[i]? with
  | none=>simp only [es] at em1; cases em1
  | some s =>
   cases s with
   | lv o=>simp only [es] at em1; cases em1; exact q v σ H1 (fun o z=>by cases z) (Bd.M0 (xs:=[]) (ss:=[]) rfl b1 hv es (.inl rfl))
   | _=>simp only [es] at em1; cases em1⟩
def Nx:Ms:=fun ρ=>some (.rt (.fr .non),ρ)
def stT:Rr → List Sl → Option (Sl × List Sl)
 | .fr a,ρ=>some (.fr a,ρ)
 | .nw o,ρ=>some (.lv o,ρ)
 | .rf i,ρ=>match dr (.rf i) ρ with
  | some (a,ρ')=>some (.fr a,ρ')
  | none=>none
def put (i:Nat) (s:Sl) (ρ:List Sl):Option (List Sl):=match ρ[i]? with
 | some (.pv _)=>none
 | some _=>some (ρ.set i s)
 | none=>none
theorem Bd.put {c:Cn} {σ:St} {H:Hp} {ρ ρ':List Sl} {τ:St} {θ:List Sl} {i:Nat} {v:V} {t:Sl} (b:Bd c σ H ρ (some v :: τ) (t :: θ)) (ht:∀ o,t ≠ .pv o) (h:put i t ρ = some ρ'):Bd c (σ.set i (some v)) H ρ' τ θ:=by
 unfold M.put at h
 cases es:ρ[i]? with
 | none=>simp only [es] at h; cases h
 | some s =>
  cases s with
  | pv o=>simp only [es] at h; cases h
  | un=>simp only [es] at h; cases h; exact b.store es (fun o z=>by cases z) ht
  | fr a=>simp only [es] at h; cases h; exact b.store es (fun o z=>by cases z) ht
  | lv o=>simp only [es] at h; cases h; exact b.store es (fun o z=>by cases z) ht
theorem Bd.stT {c:Cn} {σ:St} {H:Hp} {ρ ρ':List Sl} {τ:St} {θ:List Sl} {r:Rr} {v:V} {t:Sl} (hv:VR σ r v) (b:Bd c σ H ρ (eP r v τ) (eQ r θ)) (h:stT r ρ = some (t,ρ')):Bd c σ H ρ' (some v :: τ) (t :: θ) ∧ ∀ o,t ≠ .pv o:=by
 cases r with
 | fr a=>cases h; exact ⟨b,fun o z=>by cases z⟩
 | nw o=>cases h; exact ⟨b,fun o z=>by cases z⟩
 | rf i =>
  unfold M.stT at h
  cases e:M.dr (.rf i) ρ with
  | none=>simp only [e] at h; cases h
  | some p =>
   obtain ⟨a,ρ1⟩:=p
   simp only [e] at h; cases h
   exact ⟨Bd.dr (r:=.rf i) (xs:=[]) (ss:=[]) rfl b hv e,fun o z=>by cases z⟩
def bG (i:Nat) (m:Mi Rr):Ms:=eo m fun r ρ=>match stT r ρ with
 | some (t,ρ1)=>match put i t ρ1 with
  | some ρ2=>some (.nx,ρ2)
  | none=>none
 | none=>none
theorem bx {i:Nat} {x:Str} {e:Expr} {m:Mi Rr} {pos pos':Pos} (hN:X.N.Nodup) (hi:X.N[i]? = some x) (hx:Loc X.env.scope x) (he:JE X E e m) (hs:swapsWith e (some (.Name x pos')) pos.line X.env = pure false:=by rfl)
  (hf:X.fn x = true ∨ X.env.scope.names.lookup x = some .local:=by first | exact .inl rfl | exact .inr rfl | assumption):JS X E (.Assign [.Name x pos'] e pos) (bG i m):=⟨PS.weaken (LL hN hi hx he.p hs hf) fun D σ H h=>by
 obtain ⟨c,ρ,τ,θ,f,ρ',ek,b,em,q⟩:=h
 refine qz ek b em q fun r v ρ1 H1 hv b1 em1=>?_
 cases e1:stT r ρ1 with
 | none=>simp only [e1] at em1; cases em1
 | some p =>
  obtain ⟨t,ρ2⟩:=p
  simp only [e1] at em1
  obtain ⟨b2,ht⟩:=Bd.stT hv b1 e1
  cases e2:put i t ρ2 with
  | none=>simp only [e2] at em1; cases em1
  | some ρ3 =>
   simp only [e2] at em1; cases em1
   exact q _ H1 (Bd.put b2 ht e2)⟩
def gw (loc:Nat) (m:Ms):Ms:=fun ρ=>match m (ρ ++ List.replicate loc .un) with
 | some (.nx,ρ')=>some (.rt (.fr .non),ρ')
 | some (.rt s,ρ')=>some (.rt s,ρ')
 | some (.ex x,ρ')=>some (.ex x,ρ')
 | _=>none
theorem wZ {k:Kx} {G H:Hp}:∀ n,aU k G H (List.replicate n none) (List.replicate n Sl.un) []
 | 0=>.nil
 | n + 1=>aU.cons (L:=[]) (.un _) (wZ n)
theorem BdL.start {c:Cn} {vs:List V} {H:Hp} {ρ:List Sl} (N:List Str) (b:BdL c (vs.map some) H ρ [] [] c.Lp) (e:c.σ0 = vs.map some):Bd c (start N vs) H (ρ ++ List.replicate (N.length - vs.length) .un) [] []:=by
 have hl:vs.length = ρ.length:=by have:=b.rel.len; simpa using this
 refine ⟨c.Lp,b.nd,?_,b.own,b.fr,fun i o h=>?_,rfl,b.hd⟩
 ·have:=b.rel.app (wZ (k:=c.toKx) (G:=c.g H c.Lp) (H:=H) (N.length - vs.length))
  simpa [L2.start] using this
 ·have hi:i < ρ.length:=by
   by_cases z:i < ρ.length
   ·exact z
   ·rw [List.getElem?_append_right (by omega)] at h
    have:=List.mem_of_getElem? h
    have:=List.eq_of_mem_replicate this
    cases this
  unfold L2.start
  rw [List.getElem?_append_left (by simp; omega),e]
theorem cc {P:Program} {w:World} {K:PySem.W.Frag} {mg:Str → Option Value} {base:Heap} {dV:Value} {x qual:Str} {st:Stmt} {f:Addr} {fd:FuncData} {N ps:List Str} {k:Nat} {m:Ms} (F:fW K x qual st f fd dV) (S:bC N ps (aa st))
  (hb:∀ (cdv:Value) (A:Around) (outer:List Env) (s:Shared) (H:Hp) (E:XK),kH k (A.deeper (PyProof.Rows.envOfC qual (aa st) s.heap.objs.size f cdv)) →
   JSs (Bx (CXE P w) P w K mg base N qual (aa st) f cdv A outer s H E) E (tH st) m):dw P w K mg base (CXE P w) (k + 1) f fd ps (SpM ⟨K,mg⟩ ps.length (gw (N.length - ps.length) m)) :=
 F.ok S (fun vs H Q E h=>h.1) fun cdv A outer s H vs Q E hr h=>by
  obtain ⟨hn,c,ρ,f,ρ',ek,e0,e1,b,em,q⟩:=h
  refine ⟨_,(hb cdv A outer s H E hr).p,?_⟩
  have bs:=b.start N e0
  rw [hn] at bs
  unfold gw at em
  cases e:m (ρ ++ List.replicate (N.length - ps.length) .un) with
  | none=>simp only [e] at em; cases em
  | some p =>
   obtain ⟨f1,ρ1⟩:=p
   simp only [e] at em
   refine ⟨c,_,[],[],f1,ρ1,ek,bs,e,?_⟩
   have bk:∀ {σ':St} {H':Hp} {τ':St} {θ':List Sl},Bd c σ' H' ρ1 τ' θ' → Bd c (vs.map some) H' (fq vs.length ρ1) τ' θ':=fun b'=>by
    have:=b'.back
    rw [e0,List.length_map] at this
    exact this
   cases f1 with
   | nx =>
    cases em
    exact fun σ' H' b'=>q .non H' (fun o z=>by cases z) ((bk b').push fun _=>.non)
   | rt s=>cases em; exact fun v σ' H' hs b'=>q v H' hs (bk b')
   | ex x=>cases em; exact fun C σ' H' hm b'=>q C H' hm (bk b')
   | bk=>cases em
   | ct=>cases em
end
end M
namespace M
open PySem L2
section
variable {X:Cx} {E:XK}
theorem OpR.or' {f:Value → Value → Sem Value} {r r':R2} (h:OpR X f r) (h':OpR X f r'):OpR X f (fun x y H Q=>r x y H Q ∨ r' x y H Q):=by
 intro pins s σ H x y v u Q I rx ry q
 rcases q with q | q
 ·exact h pins s σ H x y v u Q I rx ry q
 ·exact h' pins s σ H x y v u Q I rx ry q
theorem dO.or' {f:Value} {r r':List V → Hp → VK → Prop} (h:dO X f r) (h':dO X f r'):dO X f (fun xs H Q=>r xs H Q ∨ r' xs H Q):=by
 intro pins s σ H xs us Q I rx q
 rcases q with q | q
 ·exact h pins s σ H xs us Q I rx q
 ·exact h' pins s σ H xs us Q I rx q
def fOr (f g:A → A → Option Rr):A → A → Option Rr:=fun a b=>match f a b with
 | some r=>some r
 | none=>g a b
theorem OpS.or {K:Kx} {r r':R2} {f g:A → A → Option Rr} (h:OpS K r f) (h':OpS K r' g):OpS K (fun x y H Q=>r x y H Q ∨ r' x y H Q) (fOr f g):=by
 intro c σ H ρ τ θ x y v w a b q Q ek hv hw bd e1 e2 e3 k
 unfold fOr at e3
 cases e:f a b with
 | some z=>simp only [e] at e3; cases e3; exact .inl (h c σ H ρ τ θ x y v w a b _ Q ek hv hw bd e1 e2 e k)
 | none=>simp only [e] at e3; exact .inr (h' c σ H ρ τ θ x y v w a b _ Q ek hv hw bd e1 e2 e3 k)
theorem Mj {f g:A → A → Option Rr} {ma mb:Mi Rr} {σ:St} {H:Hp} {Q:VK} (h:TEm (kx X) E (mOp (fOr f g) ma mb) σ H Q):TEm (kx X) E (mOp f ma mb) σ H Q ∨ TEm (kx X) E (mOp g ma mb) σ H Q:=by
 obtain ⟨c,ρ,τ,θ,o,ρ',ek,b,em,q⟩:=h
 have key:mOp f ma mb ρ = some (o,ρ') ∨ mOp g ma mb ρ = some (o,ρ'):=by
  unfold mOp aT at em ⊢
  cases e1:ma ρ with
  | none=>simp only [e1] at em; cases em
  | some p =>
   obtain ⟨x,ρ1⟩:=p
   cases x with
   | error e=>simp only [e1] at em ⊢; exact .inl em
   | ok x =>
    simp only [e1] at em ⊢
    cases e2:mb ρ1 with
    | none=>simp only [e2] at em; cases em
    | some p =>
     obtain ⟨y,ρ2⟩:=p
     cases y with
     | error e=>simp only [e2] at em ⊢; exact .inl em
     | ok y =>
      simp only [e2] at em ⊢
      cases e3:res ρ2 x with
      | none=>simp only [e3] at em; cases em
      | some a =>
       cases e4:res ρ2 y with
       | none=>simp only [e3,e4] at em; cases em
       | some d =>
        simp only [e3,e4] at em ⊢
        unfold fOr at em
        cases e5:f a d with
        | some z=>simp only [e5] at em ⊢; exact .inl em
        | none=>simp only [e5] at em; exact .inr em
 exact key.imp (fun k=>⟨c,ρ,τ,θ,o,ρ',ek,b,k,q⟩) (fun k=>⟨c,ρ,τ,θ,o,ρ',ek,b,k,q⟩)
theorem Fd {e:Expr} {f g:A → A → Option Rr} {ma mb:Mi Rr} (h:JE X E e (mOp f ma mb)) (h':JE X E e (mOp g ma mb)):JE X E e (mOp (fOr f g) ma mb) :=
 ⟨fun pins s σ H Q I q=>(Mj q).elim (fun q=>h.p pins s σ H Q I q) (fun q=>h'.p pins s σ H Q I q)⟩
theorem Hw {f g:A → A → Option Rr} {ma mb:Mi Rr} {σ:St} {H:Hp} {Q:Bool → Hp → Prop} (h:TTm (kx X) E (aK (mOp (fOr f g) ma mb)) σ H Q):TTm (kx X) E (aK (mOp f ma mb)) σ H Q ∨ TTm (kx X) E (aK (mOp g ma mb)) σ H Q:=by
 obtain ⟨c,ρ,τ,θ,o,ρ',ek,b,em,q⟩:=h
 have key:aK (mOp f ma mb) ρ = some (o,ρ') ∨ aK (mOp g ma mb) ρ = some (o,ρ'):=by
  unfold aK mOp aT at em ⊢
  cases e1:ma ρ with
  | none=>simp only [e1] at em; cases em
  | some p =>
   obtain ⟨x,ρ1⟩:=p
   cases x with
   | error e=>simp only [e1] at em ⊢; exact .inl em
   | ok x =>
    simp only [e1] at em ⊢
    cases e2:mb ρ1 with
    | none=>simp only [e2] at em; cases em
    | some p =>
     obtain ⟨y,ρ2⟩:=p
     cases y with
     | error e=>simp only [e2] at em ⊢; exact .inl em
     | ok y =>
      simp only [e2] at em ⊢
      cases e3:res ρ2 x with
      | none=>simp only [e3] at em; cases em
      | some a =>
       cases e4:res ρ2 y with
       | none=>simp only [e3,e4] at em; cases em
       | some d =>
        simp only [e3,e4] at em ⊢
        unfold fOr at em
        cases e5:f a d with
        | some z=>simp only [e5] at em ⊢; exact .inl em
        | none=>simp only [e5] at em; exact .inr em
 exact key.imp (fun k=>⟨c,ρ,τ,θ,o,ρ',ek,b,k,q⟩) (fun k=>⟨c,ρ,τ,θ,o,ρ',ek,b,k,q⟩)
theorem yO {e:Expr} {f g:A → A → Option Rr} {ma mb:Mi Rr} (h:JT X E e (aK (mOp f ma mb))) (h':JT X E e (aK (mOp g ma mb))):JT X E e (aK (mOp (fOr f g) ma mb)) :=
 ⟨fun pins s σ H Q I q=>(Hw q).elim (fun q=>h.p pins s σ H Q I q) (fun q=>h'.p pins s σ H Q I q)⟩
theorem OpS.scalar {K:Kx} {r:R2} {f:A → A → Option Rr} (h:∀ H v w a b q,RA K H v a → RA K H w b → f a b = some q → ∃ u d,q = .fr d ∧ (∀ G,RA K G u d) ∧ ∀ Q:VK,Q u H → r v w H Q):OpS K r f:=by
 intro c σ H ρ τ θ x y v w a b q Q ek hv hw bd e1 e2 e3 k
 have r2:=Bd.rd bd hw e2
 have r1:=Bd.rd bd.drop hv e1
 rw [ek] at r1 r2
 obtain ⟨u,d,rfl,hu,hq⟩:=h H v w a b q r1 r2 e3
 exact hq Q (k u H trivial (Bd.push bd.drop.drop (by rw [ek]; exact hu)))
def fits (n:Nat) (i:Int):Bool:=decide (i.natAbs < 2 ^ n)
theorem z9 {n:Nat} {i:Int} (h:fits n i = true):L2.Bd n i:=show i.natAbs < 2 ^ n from of_decide_eq_true h
theorem dG {n m:Nat} {i:Int} (h:L2.Bd m i) (k:m ≤ n):fits n i = true:=decide_eq_true (show i.natAbs < 2 ^ n from h.mono k)
def DV:A → A → Option Rr
 | .int i,.int j=>some (.fr (.int (i + j)))
 | _,_=>none
def zw:A → A → Option Rr
 | .int i,.int j=>some (.fr (.int (i - j)))
 | _,_=>none
def Cs:A → A → Option Rr
 | .int i,.int j=>if fits 20000 i && fits 20000 j then some (.fr (.int (i * j))) else none
 | _,_=>none
def uj:A → A → Option Rr
 | .int i,.int j=>if j != 0 && fits 9000 j then some (.fr (.int (i.fdiv j))) else none
 | _,_=>none
def nh:A → A → Option Rr
 | .int i,.int j=>if j != 0 then some (.fr (.int (i.fmod j))) else none
 | _,_=>none
def AQ:A → A → Option Rr
 | .int i,.int j=>if 0 ≤ j ∧ j ≤ 1000000 ∧ i.natAbs < 2 ^ 64 then some (.fr (.int (i ^ j.toNat))) else none
 | _,_=>none
def fLt:A → A → Option Rr
 | .int i,.int j=>some (.fr (.bl (decide (i < j))))
 | _,_=>none
def fLe:A → A → Option Rr
 | .int i,.int j=>some (.fr (.bl (decide (i ≤ j))))
 | _,_=>none
def fGt:A → A → Option Rr
 | .int i,.int j=>some (.fr (.bl (decide (j < i))))
 | _,_=>none
def fGe:A → A → Option Rr
 | .int i,.int j=>some (.fr (.bl (decide (j ≤ i))))
 | _,_=>none
theorem Jl {K:Kx}:OpS K (rI0 fun i j=>.int (i + j)) DV:=.scalar fun H v w a b q r1 r2 h=>by
 cases a <;> cases b <;> first | (cases h; done) | skip
 cases r1; cases r2; cases h
 exact ⟨_,_,rfl,fun _=>.int _,fun Q k=>⟨_,_,rfl,rfl,k⟩⟩
theorem LD {K:Kx}:OpS K (rI0 fun i j=>.int (i - j)) zw:=.scalar fun H v w a b q r1 r2 h=>by
 cases a <;> cases b <;> first | (cases h; done) | skip
 cases r1; cases r2; cases h
 exact ⟨_,_,rfl,fun _=>.int _,fun Q k=>⟨_,_,rfl,rfl,k⟩⟩
theorem Ih {K:Kx}:OpS K (rI IntMulOk fun i j=>.int (i * j)) Cs:=.scalar fun H v w a b q r1 r2 h=>by
 cases a <;> cases b <;> first | (cases h; done) | skip
 cases r1; cases r2
 rename_i i j
 unfold Cs at h
 simp only at h
 split at h
 ·rename_i hc
  rw [Bool.and_eq_true] at hc
  cases h
  exact ⟨_,_,rfl,fun _=>.int _,fun Q k=>⟨_,_,rfl,rfl,(z9 hc.1).Oy (z9 hc.2) (by decide),k⟩⟩
 ·cases h
theorem Nd {K:Kx}:OpS K (rI CDv fun i j=>.int (i.fdiv j)) uj:=.scalar fun H v w a b q r1 r2 h=>by
 cases a <;> cases b <;> first | (cases h; done) | skip
 cases r1; cases r2
 unfold uj at h
 simp only at h
 split at h
 ·rename_i hc
  rw [Bool.and_eq_true] at hc
  cases h
  exact ⟨_,_,rfl,fun _=>.int _,fun Q k=>⟨_,_,rfl,rfl,⟨by simpa using hc.1,z9 hc.2⟩,k⟩⟩
 ·cases h
theorem MU {K:Kx}:OpS K (rI (fun _ j=>j ≠ 0) fun i j=>.int (i.fmod j)) nh:=.scalar fun H v w a b q r1 r2 h=>by
 cases a <;> cases b <;> first | (cases h; done) | skip
 cases r1; cases r2
 unfold nh at h
 simp only at h
 split at h
 ·rename_i hc
  cases h
  exact ⟨_,_,rfl,fun _=>.int _,fun Q k=>⟨_,_,rfl,rfl,by simpa using hc,k⟩⟩
 ·cases h
theorem Ni {K:Kx}:OpS K (rI OM fun i j=>.int (i ^ j.toNat)) AQ:=.scalar fun H v w a b q r1 r2 h=>by
 cases a <;> cases b <;> first | (cases h; done) | skip
 cases r1; cases r2
 unfold AQ at h
 simp only at h
 split at h
 ·rename_i hc
  cases h
  exact ⟨_,_,rfl,fun _=>.int _,fun Q k=>⟨_,_,rfl,rfl,hc,k⟩⟩
 ·cases h
theorem OZ {K:Kx}:OpS K (rI0 fun i j=>.bl (decide (i < j))) fLt:=.scalar fun H v w a b q r1 r2 h=>by
 cases a <;> cases b <;> first | (cases h; done) | skip
 cases r1; cases r2; cases h
 exact ⟨_,_,rfl,fun _=>.bl _,fun Q k=>⟨_,_,rfl,rfl,k⟩⟩
theorem KQ {K:Kx}:OpS K (rI0 fun i j=>.bl (decide (j < i))) fGt:=.scalar fun H v w a b q r1 r2 h=>by
 cases a <;> cases b <;> first | (cases h; done) | skip
 cases r1; cases r2; cases h
 exact ⟨_,_,rfl,fun _=>.bl _,fun Q k=>⟨_,_,rfl,rfl,k⟩⟩
theorem Oa {K:Kx}:OpS K (rI0 fun i j=>.bl (decide (j ≤ i))) fGe:=.scalar fun H v w a b q r1 r2 h=>by
 cases a <;> cases b <;> first | (cases h; done) | skip
 cases r1; cases r2; cases h
 exact ⟨_,_,rfl,fun _=>.bl _,fun Q k=>⟨_,_,rfl,rfl,k⟩⟩
mutual
def toD:A → Option D
 | .non=>some .non
 | .bl b=>some (.bl b)
 | .int i=>some (.int i)
 | .str x=>some (.str x)
 | .tup xs=>match yG xs with
  | some ds=>some (.tup ds)
  | none=>none
 | .lst xs=>match yG xs with
  | some ds=>some (.lst ds)
  | none=>none
 | .dic _=>none
 | .exc _=>none
def yG:List A → Option (List D)
 | []=>some []
 | a :: as=>match toD a,yG as with
  | some d,some ds=>some (d :: ds)
  | _,_=>none
end
mutual
theorem sj {K:Kx} {H:Hp}:∀ {v:V} {a:A} {d:D},RA K H v a → toD a = some d → Den K.K H v d
 | _,_,_,.non,h=>by rw [toD] at h; cases h; exact .non
 | _,_,_,.bl b,h=>by rw [toD] at h; cases h; exact .bl _
 | _,_,_,.int i,h=>by rw [toD] at h; cases h; exact .int _
 | _,_,_,.str x,h=>by rw [toD] at h; cases h; exact .str _
 | _,_,_,.tup (as:=as) e r,h=>by
  rw [toD] at h
  cases q:yG as with
  | none=>simp only [q] at h; cases h
  | some ds=>simp only [q] at h; cases h; exact .tup e (Al r q)
 | _,_,_,.lst (as:=as) e r,h=>by
  rw [toD] at h
  cases q:yG as with
  | none=>simp only [q] at h; cases h
  | some ds=>simp only [q] at h; cases h; exact .lst e (Al r q)
 | _,_,_,.dic e r,h=>by rw [toD] at h; cases h
 | _,_,_,.exc e m,h=>by rw [toD] at h; cases h
theorem Al {K:Kx} {H:Hp}:∀ {vs:List V} {as:List A} {ds:List D},RAs K H vs as → yG as = some ds → mI K.K H vs ds
 | _,_,_,.nil,h=>by rw [yG] at h; cases h; exact .nil
 | _,_,_,.cons (a:=a) (as:=as) q r,h=>by
  rw [yG] at h
  cases e1:toD a with
  | none=>simp only [e1] at h; cases h
  | some d =>
   cases e2:yG as with
   | none=>simp only [e1,e2] at h; cases h
   | some ds=>simp only [e1,e2] at h; cases h; exact .cons (sj q e1) (Al r e2)
end
def eqA (a b:A):Option Bool:=match toD a,toD b with
 | some d,some e=>if D.depth d ≤ 40 then some (D.eq d e) else none
 | _,_=>none
def fEq (a b:A):Option Rr:=match eqA a b with
 | some k=>some (.fr (.bl k))
 | none=>none
def fNe (a b:A):Option Rr:=match eqA a b with
 | some k=>some (.fr (.bl (!k)))
 | none=>none
theorem xj {a b:A} {k:Bool} (h:eqA a b = some k):∃ d e,toD a = some d ∧ toD b = some e ∧ D.depth d ≤ 40 ∧ k = D.eq d e:=by
 unfold eqA at h
 cases e1:toD a with
 | none=>simp only [e1] at h; cases h
 | some d =>
  cases e2:toD b with
  | none=>simp only [e1,e2] at h; cases h
  | some e =>
   simp only [e1,e2] at h
   split at h
   ·rename_i hd; cases h; exact ⟨d,e,rfl,rfl,hd,rfl⟩
   ·cases h
theorem os_eq {K:Kx}:OpS K (NC K.K) fEq:=.scalar fun H v w a b q r1 r2 h=>by
 unfold fEq at h
 cases e:eqA a b with
 | none=>simp only [e] at h; cases h
 | some k =>
  simp only [e] at h; cases h
  obtain ⟨d,d',h1,h2,h3,rfl⟩:=xj e
  exact ⟨_,_,rfl,fun _=>.bl _,fun Q k=>⟨d,d',sj r1 h1,sj r2 h2,h3,k⟩⟩
theorem KW {K:Kx}:OpS K (NQ K.K) fNe:=.scalar fun H v w a b q r1 r2 h=>by
 unfold fNe at h
 cases e:eqA a b with
 | none=>simp only [e] at h; cases h
 | some k =>
  simp only [e] at h; cases h
  obtain ⟨d,d',h1,h2,h3,rfl⟩:=xj e
  exact ⟨_,_,rfl,fun _=>.bl _,fun Q k=>⟨d,d',sj r1 h1,sj r2 h2,h3,k⟩⟩
def Cp:A → A → Option Rr
 | .str x,.str y=>if x.length + y.length ≤ 100000 then some (.fr (.str (x ++ y))) else none
 | _,_=>none
theorem wC:100000 ≤ sizeLine:=by rw [sizeLine_eq]; decide
theorem Jp {K:Kx}:OpS K (fun x y H Q=>∃ i j,x = .str i ∧ y = .str j ∧ i.length + j.length ≤ sizeLine ∧ Q (.str (i ++ j)) H) Cp:=.scalar fun H v w a b q r1 r2 h=>by
 cases a <;> cases b <;> first | (cases h; done) | skip
 cases r1; cases r2
 unfold Cp at h
 simp only at h
 split at h
 ·rename_i hc
  cases h
  exact ⟨_,_,rfl,fun _=>.str _,fun Q k=>⟨_,_,rfl,rfl,Nat.le_trans hc wC,k⟩⟩
 ·cases h
def Kj:R2:=fun x y H Q=>∃ z n,x = .str z ∧ y = .int n ∧ MulOk z n ∧ Q (.str (Txt.mul z n)) H
theorem Iq:OpR X (binaryOp .Mult) Kj:=by
 intro pins s σ H x y v u Q I rx ry h
 obtain ⟨z,n,rfl,rfl,hok,q⟩:=h
 obtain ⟨t,rfl⟩:=rx
 obtain ⟨t',rfl⟩:=ry
 exact SB.mul hok fun t'' k=>⟨.str _,H,I.tok _,⟨t'',rfl⟩,q⟩
def BL:A → A → Option Rr
 | .str z,.int n=>if 1 ≤ n ∧ n ≤ 1000 ∧ z.length ≤ 1000 then some (.fr (.str (Txt.mul z n))) else none
 | _,_=>none
theorem IA {K:Kx}:OpS K Kj BL:=.scalar fun H v w a b q r1 r2 h=>by
 cases a <;> cases b <;> first | (cases h; done) | skip
 cases r1; cases r2
 rename_i z n
 unfold BL at h
 simp only at h
 split at h
 ·rename_i hc
  cases h
  refine ⟨_,_,rfl,fun _=>.str _,fun Q k=>⟨_,_,rfl,rfl,⟨?_,fun _ _ z1=>?_,fun _ _=>?_⟩,k⟩⟩
  ·rw [Bool.or_eq_false_iff]; exact ⟨decide_eq_false (by omega),decide_eq_false (by omega)⟩
  ·have h1:n * (z.length:Int) ≤ 1000 * 1000:=Int.mul_le_mul hc.2.1 (by omega) (by omega) (by decide)
   have h2:(z.length:Int) ≤ (2 ^ 63 - 1) / n:=by
    rw [Int.le_ediv_iff_mul_le (by omega)]
    rw [Int.mul_comm]; omega
   omega
  ·unfold Builtin.Str.tooLong
   refine decide_eq_false ?_
   have h1:z.length * n.toNat ≤ 1000 * 1000:=Nat.mul_le_mul hc.2.2 (by omega)
   have:=sizeLine_eq
   omega
 ·cases h
def Bs:A → A → Option Rr
 | .tup xs,.tup ys=>if xs.length + ys.length ≤ 100000 then some (.fr (.tup (xs ++ ys))) else none
 | _,_=>none
def Kp (K:PySem.W.Frag):R2:=fun x y H Q=>∃ a b xs ys,x = .ref a ∧ y = .ref b ∧ SqT K H a xs ∧ SqT K H b ys ∧ xs.length + ys.length ≤ sizeLine ∧ (xs = [] → Q (.ref b) H) ∧ (xs ≠ [] → ys = [] → Q (.ref a) H) ∧
 (xs ≠ [] → ys ≠ [] → ∀ p,H p = none → Q (.ref p) (upd H p (.tup (xs ++ ys))))
theorem Ij:OpR X (binaryOp .Add) (Kp X.K):=by
 intro pins s σ H x y v u Q I rx ry h
 obtain ⟨a,b,xs,ys,rfl,rfl,ha,hb,hz,q1,q2,q3⟩:=h
 by_cases hx:xs = []
 ·subst hx
  cases rx
  cases ry
  obtain ⟨its,r1,p1,_⟩:=I.tuple ha
  obtain ⟨jts,r2,p2,_⟩:=I.tuple hb
  cases r1
  obtain ⟨⟨c1,d1,t1,l1⟩,e1,hc1,n1,hd1⟩:=id p1
  obtain ⟨⟨c2,d2,t2,l2⟩,e2,hc2,n2,hd2⟩:=id p2
  simp only at hc1 hd1 hc2 hd2
  subst hc1 hd1 hc2 hd2
  exact concat_meets ⟨_,e1,rfl⟩ ⟨_,e2,rfl⟩ noFill_tuple_add seq_tuple_add PySem.F.slot_tuple_add PySem.F.entry_tuple_add (PySem.F.args_tuple_add_2 _ _) (PyProof.Rows.tuple_addW0 a b _ _ n1 n2 d1 d2 l1 l2 rfl) ⟨e1,e2,.ref b,H,I,rfl,q1 rfl⟩
 ·exact Jr pins s σ H (.ref a) (.ref b) v u Q I rx ry ⟨a,b,xs,ys,rfl,rfl,ha,hb,hx,hz,q2 hx,q3 hx⟩
theorem Jz {K:Kx}:OpS K (Kp K.K) Bs:=by
 intro c σ H ρ τ θ x y v w a b q Q ek hv hw bd e1 e2 e3 k
 cases a <;> cases b <;> first | (cases e3; done) | skip
 rename_i xs ys
 unfold Bs at e3
 simp only at e3
 split at e3
 ·rename_i hc
  cases e3
  obtain ⟨L,bl,i1,i2⟩:=Bd.DQ bd hv hw e1 e2
  obtain ⟨p1,vs1,rfl,s1,r1⟩:=i1.2.1 xs rfl
  obtain ⟨p2,vs2,rfl,s2,r2⟩:=i2.2.1 ys rfl
  have l1:=r1.len
  have l2:=r2.len
  subst ek
  refine ⟨p1,p2,vs1,vs2,rfl,rfl,gy (g_same _ _ _) s1,gy (g_same _ _ _) s2,by have:=wC; omega,fun z=>?_,fun _ z=>?_,fun _ _ p hp=>?_⟩
  ·subst z
   have:xs = []:=List.eq_nil_of_length_eq_zero (by rw [← l1]; rfl)
   subst this
   exact k _ H trivial (bl.push (.tup s2 r2))
  ·subst z
   have:ys = []:=List.eq_nil_of_length_eq_zero (by rw [← l2]; rfl)
   subst this
   rw [List.append_nil] at k
   exact k _ H trivial (bl.push (.tup s1 r1))
  ·obtain ⟨b2,sm,np⟩:=bl.new (o:=.tup (vs1 ++ vs2)) hp
   exact k _ _ trivial (b2.push (.tup (.inl (.inl (by rw [gF np (bl.fhd hp)]; exact cR))) ((r1.app r2).sm sm)))
 ·cases e3
end
end M
namespace M
open PySem L2
section
variable {X:Cx} {E:XK}
def fIx:A → A → Option Rr
 | .lst xs,.int i=>match atI xs i with
  | some a=>some (.fr a)
  | none=>none
 | .tup xs,.int i=>match atI xs i with
  | some a=>some (.fr a)
  | none=>none
 | .str z,.int i=>if z.length ≤ 100000 then match atI z.cps.toList i with
  | some c=>some (.fr (.str ⟨#[c]⟩))
  | none=>none else none
 | _,_=>none
theorem RAs.atI {k:Kx} {G:Hp} {vs:List V} {as:List A} {i:Int} {a:A} (r:RAs k G vs as) (h:atI as i = some a):∃ v,atI vs i = some v ∧ RA k G v a:=by
 unfold L2.atI at h ⊢
 rw [r.len]
 cases e:ixN as.length i with
 | none=>rw [e] at h; cases h
 | some j =>
  rw [e] at h
  obtain ⟨v,h1,h2⟩:=r.ta h
  exact ⟨v,h1,h2⟩
theorem O8 {K:Kx}:OpS K (rIx K.K) fIx:=by
 intro c σ H ρ τ θ x y v w a b q Q ek hv hw bd e1 e2 e3 k
 subst ek
 have r2:=Bd.rd bd hw e2
 obtain ⟨L,bl,i1,i2⟩:=Bd.DQ bd hv hw e1 e2
 have r1:=Bd.rd bd.drop hv e1
 cases a <;> cases b <;> first | (cases e3; done) | skip
 ·rename_i z i
  cases r1; cases r2
  unfold fIx at e3
  simp only at e3
  split at e3
  ·rename_i hz
   cases e:atI z.cps.toList i with
   | none=>simp only [e] at e3; cases e3
   | some ch =>
    simp only [e] at e3; cases e3
    exact .inr (.inr ⟨z,i,ch,rfl,rfl,Nat.le_trans hz wC,e,k _ H trivial (Bd.push ⟨L,bl⟩ fun _=>.str _)⟩)
  ·cases e3
 ·rename_i xs i
  cases r2
  unfold fIx at e3
  simp only at e3
  cases e:atI xs i with
  | none=>simp only [e] at e3; cases e3
  | some d =>
   simp only [e] at e3; cases e3
   obtain ⟨p,vs,rfl,s1,rr⟩:=i1.2.1 xs rfl
   obtain ⟨u,h1,h2⟩:=rr.atI e
   exact .inr (.inl ⟨p,vs,i,u,rfl,rfl,gy (g_same _ _ _) s1,h1,k u H trivial (bl.push h2)⟩)
 ·rename_i xs i
  cases r2
  unfold fIx at e3
  simp only at e3
  cases e:atI xs i with
  | none=>simp only [e] at e3; cases e3
  | some d =>
   simp only [e] at e3; cases e3
   obtain ⟨p,vs,rfl,s1,rr⟩:=i1.1 xs rfl
   obtain ⟨u,h1,h2⟩:=rr.atI e
   exact .inl ⟨p,vs,i,u,rfl,rfl,s1,h1,k u H trivial (bl.push h2)⟩
theorem Nt {a b:Expr} {ma mb:Mi Rr} {pos:Pos} (ha:JE X E a ma) (hb:JE X E b mb) (hs:zP b):JE X E (.Subscript a b pos) (mOp fIx ma mb) :=
 ⟨PE.weaken (OV MZ ha.p hb.p hs) (lH O8)⟩
def kq:A → Option Key
 | .int i=>some (.inl i)
 | .str x=>some (.inr x)
 | _=>none
theorem qv {K:Kx} {H:Hp} {w:V} {b:A} {y:Key} (r:RA K H w b) (h:kq b = some y):w = kV y:=by
 cases r <;> first | (cases h; rfl) | (cases h; done)
def aA:A → A → Option Rr
 | .dic kvs,b=>match kq b with
  | some y=>match qM kvs y with
   | some a=>some (.fr a)
   | none=>none
  | none=>none
 | _,_=>none
theorem Iu {K:Kx}:OpS K (fun x y H Q=>∃ a v,x = .ref a ∧ rX H a y (some v) ∧ Q v H) aA:=by
 intro c σ H ρ τ θ x y v w a b q Q ek hv hw bd e1 e2 e3 k
 subst ek
 have r2:=Bd.rd bd hw e2
 obtain ⟨L,bl,i1,i2⟩:=Bd.DQ bd hv hw e1 e2
 cases a <;> first | (cases e3; done) | skip
 rename_i kvs
 unfold aA at e3
 simp only at e3
 cases ey:kq b with
 | none=>simp only [ey] at e3; cases e3
 | some ky =>
  simp only [ey] at e3
  obtain ⟨p,vs,rfl,s1,rr⟩:=i1.2.2 kvs rfl
  rcases rr.get ky with ⟨u,a,h1,h2,h3⟩ | ⟨h1,h2⟩
  ·simp only [h2] at e3; cases e3
   exact ⟨p,u,rfl,.inl ⟨vs,ky,s1,qv r2 ey,h1.symm⟩,k u H trivial (bl.push h3)⟩
  ·simp only [h2] at e3; cases e3
theorem Io {a b:Expr} {ma mb:Mi Rr} {pos:Pos} (hu:X.A.units + 1 < cLine) (ha:JE X E a ma) (hb:JE X E b mb) (hs:HR b):JE X E (.Subscript a b pos) (mOp aA ma mb) :=
 ⟨PE.weaken (Jh hu ha.p hb.p hs) (lH (r:=fun x y H Q=>∃ a v,x = .ref a ∧ rX H a y (some v) ∧ Q v H) Iu)⟩
theorem aQ {a b:Expr} {ma mb:Mi Rr} {pos:Pos} (hu:X.A.units + 1 < cLine) (ha:JE X E a ma) (hb:JE X E b mb) (hs:zP b) (hs':HR b):JE X E (.Subscript a b pos) (mOp (fOr fIx aA) ma mb):=Fd (Nt ha hb hs) (Io hu ha hb hs')
def yQ:A → Bool
 | .non=>true
 | .bl _=>true
 | .int _=>true
 | .str _=>true
 | _=>false
def C3:A → V
 | .non=>.non
 | .bl b=>.bl b
 | .int i=>.int i
 | .str x=>.str x
 | _=>.non
theorem Fu {K:Kx} {H:Hp} {w:V} {b:A} (r:RA K H w b) (h:yQ b = true):w = C3 b ∧ qo w = true:=by
 cases r <;> first | exact ⟨rfl,rfl⟩ | (cases h; done)
theorem DS {K:Kx} {H:Hp}:∀ {vs:List V} {as:List A},RAs K H vs as → as.all yQ = true → vs = as.map C3 ∧ vs.all qo = true
 | _,_,.nil,_=>⟨rfl,rfl⟩
 | _,_,.cons h r,e=>by
  rw [List.all_cons,Bool.and_eq_true] at e
  obtain ⟨h1,h2⟩:=Fu h e.1
  obtain ⟨h3,h4⟩:=DS r e.2
  exact ⟨by rw [h1,h3]; rfl,by rw [List.all_cons,h2,h4]; rfl⟩
def inA (neg:Bool) (x:A) (xs:List A):Option Rr:=if yQ x && xs.all yQ then some (.fr (.bl (if neg then !inV (C3 x) (xs.map C3) else inV (C3 x) (xs.map C3)))) else none
def oH (neg:Bool):A → A → Option Rr
 | x,.lst xs=>inA neg x xs
 | x,.tup xs=>inA neg x xs
 | _,_=>none
theorem GO {K:Kx} {neg:Bool}:OpS K (rIn K.K neg) (oH neg):=.scalar fun H v w a b q r1 r2 h=>by
 have key:∀ (xs:List A) (vs:List V) (p:Addr),RAs K H vs xs → (SqL K.K H p vs ∨ SqT K.K H p vs) → inA neg a xs = some q → ∃ u d,q = .fr d ∧ (∀ G,RA K G u d) ∧ ∀ Q:VK,Q u H → rIn K.K neg v (.ref p) H Q:=by
  intro xs vs p rr sq h
  unfold inA at h
  split at h
  ·rename_i hc
   rw [Bool.and_eq_true] at hc
   cases h
   obtain ⟨rfl,h2⟩:=Fu r1 hc.1
   obtain ⟨rfl,h4⟩:=DS rr hc.2
   exact ⟨_,_,rfl,fun _=>.bl _,fun Q k=>⟨p,_,rfl,sq,h2,h4,k⟩⟩
  ·cases h
 cases b <;> first | (cases h; done) | skip
 ·cases r2 with | tup e r=>exact key _ _ _ r (.inr e) h
 ·cases r2 with | lst e r=>exact key _ _ _ r (.inl e) h
def jW (neg:Bool):A → A → Option Rr
 | x,.dic kvs=>match kq x with
  | some y=>some (.fr (.bl (if neg then !(qM kvs y).isSome else (qM kvs y).isSome)))
  | none=>none
 | _,_=>none
theorem Lf {K:Kx}:OpS K (fun y x H Q=>∃ a o,x = .ref a ∧ rX H a y o ∧ Q (.bl o.isSome) H) (jW false):=.scalar fun H v w a b q r1 r2 h=>by
 cases b <;> first | (cases h; done) | skip
 cases r2 with
 | dic e r =>
  unfold jW at h
  simp only at h
  cases ey:kq a with
  | none=>simp only [ey] at h; cases h
  | some y =>
   simp only [ey] at h; cases h
   refine ⟨_,_,rfl,fun _=>.bl _,fun Q k=>⟨_,_,rfl,.inl ⟨_,y,e,qv r1 ey,rfl⟩,?_⟩⟩
   rcases r.get y with ⟨u,a,h1,h2,h3⟩ | ⟨h1,h2⟩
   ·rw [h1]; rw [h2] at k; exact k
   ·rw [h1]; rw [h2] at k; exact k
theorem Ju {K:Kx}:OpS K (fun y x H Q=>∃ a o,x = .ref a ∧ rX H a y o ∧ Q (.bl (!o.isSome)) H) (jW true):=.scalar fun H v w a b q r1 r2 h=>by
 cases b <;> first | (cases h; done) | skip
 cases r2 with
 | dic e r =>
  unfold jW at h
  simp only at h
  cases ey:kq a with
  | none=>simp only [ey] at h; cases h
  | some y =>
   simp only [ey] at h; cases h
   refine ⟨_,_,rfl,fun _=>.bl _,fun Q k=>⟨_,_,rfl,.inl ⟨_,y,e,qv r1 ey,rfl⟩,?_⟩⟩
   rcases r.get y with ⟨u,a,h1,h2,h3⟩ | ⟨h1,h2⟩
   ·rw [h1]; rw [h2] at k; exact k
   ·rw [h1]; rw [h2] at k; exact k
theorem Ng {a b:Expr} {ma mb:Mi Rr} {pos:Pos} (hu:X.A.units + 1 < cLine) (ha:JE X E a ma) (hb:JE X E b mb) (hm:behindInMarks .In b = false):JT X E (.Compare a [.In] [b] pos) (aK (mOp (jW false) ma mb)) :=
 ⟨PT.weaken (Gr (Lm hu ha.p hb.p) hm) fun σ H Q h=>lH (r:=fun y x H Q=>∃ a o,x = .ref a ∧ rX H a y o ∧ Q (.bl o.isSome) H) Lf σ H _ (m5 σ H Q h)⟩
theorem J6 {a b:Expr} {ma mb:Mi Rr} {pos:Pos} (hu:X.A.units + 1 < cLine) (ha:JE X E a ma) (hb:JE X E b mb) (hm:behindInMarks .NotIn b = false):JT X E (.Compare a [.NotIn] [b] pos) (aK (mOp (jW true) ma mb)) :=
 ⟨PT.weaken (Gr (EV hu ha.p hb.p) hm) fun σ H Q h=>lH (r:=fun y x H Q=>∃ a o,x = .ref a ∧ rX H a y o ∧ Q (.bl (!o.isSome)) H) Ju σ H _ (m5 σ H Q h)⟩
theorem K4 {a b:Expr} {ma mb:Mi Rr} {pos:Pos} (hu:X.A.units + 1 < cLine) (ha:JE X E a ma) (hb:JE X E b mb) (hm:behindInMarks .In b = false):JT X E (.Compare a [.In] [b] pos) (aK (mOp (fOr (oH false) (jW false)) ma mb)):=yO (sP E4 GO ha hb hm) (Ng hu ha hb hm)
theorem Mk {a b:Expr} {ma mb:Mi Rr} {pos:Pos} (hu:X.A.units + 1 < cLine) (ha:JE X E a ma) (hb:JE X E b mb) (hm:behindInMarks .NotIn b = false):JT X E (.Compare a [.NotIn] [b] pos) (aK (mOp (fOr (oH true) (jW true)) ma mb)):=yO (sP zI GO ha hb hm) (J6 hu ha hb hm)
def As:A → Bool
 | .non=>true
 | _=>false
def fIs (neg:Bool):A → A → Option Rr
 | a,.non=>some (.fr (.bl (if neg then !As a else As a)))
 | _,_=>none
def mUn (f:A → Option Rr) (m:Mi Rr):Mi Rr:=aT m fun x ρ=>match res ρ x with
 | some a=>match f a with
  | some r=>some (.ok r,ρ)
  | none=>none
 | none=>none
def UnS (K:Kx) (r:V → Hp → VK → Prop) (f:A → Option Rr):Prop:=∀ (c:Cn) (σ:St) (H:Hp) (ρ:List Sl) (τ:St) (θ:List Sl) (x:Rr) (v:V) (a:A) (q:Rr) (Q:VK),c.toKx = K → VR σ x v →
 Bd c σ H ρ (eP x v τ) (eQ x θ) → res ρ x = some a → f a = some q → (∀ u H',VR σ q u → Bd c σ H' ρ (eP q u τ) (eQ q θ) → Q u H') → r v H Q
theorem Av {f:A → Option Rr} {x:Rr} {ρ ρ':List Sl} {o:Except Str Rr} (h:(match res ρ x with | some a=>(match f a with | some r=>some ((.ok r:Except Str Rr),ρ) | none=>none) | none=>none) = some (o,ρ')):∃ a r,res ρ x = some a ∧ f a = some r ∧ o = .ok r ∧ ρ' = ρ:=by
 cases e1:res ρ x with
 | none=>simp only [e1] at h; cases h
 | some a =>
  simp only [e1] at h
  cases e3:f a with
  | none=>simp only [e3] at h; cases h
  | some r=>simp only [e3] at h; cases h; exact ⟨a,r,rfl,e3,rfl,rfl⟩
theorem tV {r:V → Hp → VK → Prop} {f:A → Option Rr} {m:Mi Rr} (hf:UnS (kx X) r f) (σ:St) (H:Hp) (Q:VK) (h:TEm (kx X) E (mUn f m) σ H Q):TEm (kx X) E m σ H fun v H'=>r v H' Q:=by
 obtain ⟨c,ρ,τ,θ,o,ρ',ek,b,em,q⟩:=h
 refine cx ek b em (fun x v ρ1 H1 hv b1 em1=>?_) (cU q)
 obtain ⟨a,r,e1,e3,rfl,rfl⟩:=Av em1
 exact hf c σ H1 _ τ θ x v a r Q ek hv b1 e1 e3 q
theorem UnS.scalar {K:Kx} {r:V → Hp → VK → Prop} {f:A → Option Rr} (h:∀ H v a q,RA K H v a → f a = some q → ∃ u d,q = .fr d ∧ (∀ G,RA K G u d) ∧ ∀ Q:VK,Q u H → r v H Q):UnS K r f:=by
 intro c σ H ρ τ θ x v a q Q ek hv bd e1 e3 k
 have r1:=Bd.rd bd hv e1
 rw [ek] at r1
 obtain ⟨u,d,rfl,hu,hq⟩:=h H v a q r1 e3
 exact hq Q (k u H trivial (Bd.push bd.drop (by rw [ek]; exact hu)))
def wI:A → Option Rr
 | .int i=>some (.fr (.int (-i)))
 | _=>none
theorem zW {a:Expr} {m:Mi Rr} {pos:Pos} (h:JE X E a m):JE X E (.UnaryOp .USub a pos) (mUn wI m):=⟨PE.weaken (NZ MV h.p) (tV (.scalar fun H v a q r1 h=>by
 cases a <;> first | (cases h; done) | skip
 cases r1; cases h
 exact ⟨_,_,rfl,fun _=>.int _,fun Q k=>⟨_,rfl,k⟩⟩))⟩
def mB1 (f:A → Option Rr) (m:Mi Rr):Mi Rr:=mUn f m
def mB2 (f:A → A → Option Rr) (m n:Mi Rr):Mi Rr:=mOp f m n
theorem lT {id:String} {r:List V → Hp → VK → Prop} {f:A → Option Rr} {x:Str} {p pos:Pos} {e:Expr} {m:Mi Rr} (hc:dO X (.builtin id) r) (hf:UnS (kx X) (fun v=>r [v]) f) (hg:Gl X x) (hm:X.mg x = none) (hv:bootBuiltins x = some (.builtin id)) (ha:JE X E e m) (hn:x ≠ "__name__")
  (hdb:NDb x) (hs:starEach [e] X.env = (false,eval e X.env) :: starEach [] X.env:=by rfl) (hp:(backTo pos (starEach [] X.env)).any (·.1) = false:=by rfl):JE X E (.Call (.Name x p) [e] [] pos) (mB1 f m) :=
 ⟨PE.weaken (tT hc hg hm hv (fk ha.p mn hs) hn hdb hs hp) fun σ H Q h=>tV hf σ H Q h⟩
theorem mQ {T:String} {r:List V → Hp → VK → Prop} {f:A → Option Rr} {x:Str} {p pos:Pos} {e:Expr} {m:Mi Rr} (hc:dO X (.type T) r) (hf:UnS (kx X) (fun v=>r [v]) f) (hg:Gl X x) (hm:X.mg x = none) (hv:bootBuiltins x = some (.type T)) (ha:JE X E e m) (hn:x ≠ "__name__")
  (hdb:NDb x) (hs:starEach [e] X.env = (false,eval e X.env) :: starEach [] X.env:=by rfl) (hp:(backTo pos (starEach [] X.env)).any (·.1) = false:=by rfl):JE X E (.Call (.Name x p) [e] [] pos) (mB1 f m) :=
 ⟨PE.weaken (ES hc hg hm hv (fk ha.p mn hs) hn hdb hs hp) fun σ H Q h=>tV hf σ H Q h⟩
theorem KC {id:String} {r:List V → Hp → VK → Prop} {f:A → A → Option Rr} {x:Str} {p pos:Pos} {e1 e2:Expr} {m n:Mi Rr} (hc:dO X (.builtin id) r) (hf:OpS (kx X) (fun v w=>r [v,w]) f) (hg:Gl X x) (hm:X.mg x = none) (hv:bootBuiltins x = some (.builtin id)) (h1:JE X E e1 m) (h2:JE X E e2 n) (hn:x ≠ "__name__")
  (hdb:NDb x) (hs:starEach [e1,e2] X.env = (false,eval e1 X.env) :: starEach [e2] X.env:=by rfl) (hs2:starEach [e2] X.env = (false,eval e2 X.env) :: starEach [] X.env:=by rfl) (hp:(backTo pos (starEach [e2] X.env)).any (·.1) = false:=by rfl):JE X E (.Call (.Name x p) [e1,e2] [] pos) (mB2 f m n) :=
 ⟨PE.weaken (tT hc hg hm hv (fk h1.p (fk h2.p mn hs2) hs) hn hdb hs hp) fun σ H Q h=>lH (r:=fun v w=>r [v,w]) hf σ H Q h⟩
def qJ:A → Option Rr
 | .str z=>if z.length ≤ 100000 then some (.fr (.int z.length)) else none
 | .lst xs=>some (.fr (.int xs.length))
 | .tup xs=>some (.fr (.int xs.length))
 | _=>none
theorem n5 {K:Kx}:UnS K (fun v H Q=>∃ x n,[v] = [x] ∧ OA K.K x H n ∧ Q (.int n) H) qJ:=.scalar fun H v a q r1 h=>by
 cases a <;> first | (cases h; done) | skip
 ·cases r1
  unfold qJ at h
  simp only at h
  split at h
  ·rename_i hz; cases h
   exact ⟨_,_,rfl,fun _=>.int _,fun Q k=>⟨_,_,rfl,⟨Nat.le_trans hz wC,rfl⟩,k⟩⟩
  ·cases h
 ·cases r1 with
  | tup e r=>cases h; exact ⟨_,_,rfl,fun _=>.int _,fun Q k=>⟨_,_,rfl,.inr ⟨_,e,rfl⟩,by rw [r.len]; exact k⟩⟩
 ·cases r1 with
  | lst e r=>cases h; exact ⟨_,_,rfl,fun _=>.int _,fun Q k=>⟨_,_,rfl,.inl ⟨_,e,rfl⟩,by rw [r.len]; exact k⟩⟩
def GV:A → Option Rr
 | .int i=>some (.fr (.int (if i < 0 then -i else i)))
 | _=>none
theorem Gw {K:Kx}:UnS K (fun v H Q=>∃ i,[v] = [V.int i] ∧ Q (.int (if i < 0 then -i else i)) H) GV:=.scalar fun H v a q r1 h=>by
 cases a <;> first | (cases h; done) | skip
 cases r1; cases h
 exact ⟨_,_,rfl,fun _=>.int _,fun Q k=>⟨_,rfl,k⟩⟩
def Jt:A → A → Option Rr
 | .int i,.int j=>some (.fr (.int (if j > i then j else i)))
 | _,_=>none
def HP:A → A → Option Rr
 | .int i,.int j=>some (.fr (.int (if j < i then j else i)))
 | _,_=>none
theorem Mf {K:Kx}:OpS K (fun v w H Q=>∃ i j,[v,w] = [V.int i,V.int j] ∧ Q (.int (if j > i then j else i)) H) Jt:=.scalar fun H v w a b q r1 r2 h=>by
 cases a <;> cases b <;> first | (cases h; done) | skip
 cases r1; cases r2; cases h
 exact ⟨_,_,rfl,fun _=>.int _,fun Q k=>⟨_,_,rfl,k⟩⟩
theorem Mh {K:Kx}:OpS K (fun v w H Q=>∃ i j,[v,w] = [V.int i,V.int j] ∧ Q (.int (if j < i then j else i)) H) HP:=.scalar fun H v w a b q r1 r2 h=>by
 cases a <;> cases b <;> first | (cases h; done) | skip
 cases r1; cases r2; cases h
 exact ⟨_,_,rfl,fun _=>.int _,fun Q k=>⟨_,_,rfl,k⟩⟩
def DC:A → Option Rr
 | .int i=>some (.fr (.int i))
 | .bl k=>some (.fr (.int (if k then 1 else 0)))
 | _=>none
theorem Dx {K:Kx}:UnS K (fun v H Q=>(∃ i,[v] = [V.int i] ∧ Q (.int i) H) ∨ ∃ k,[v] = [V.bl k] ∧ Q (.int (if k then 1 else 0)) H) DC:=.scalar fun H v a q r1 h=>by
 cases a <;> first | (cases h; done) | skip
 ·cases r1; cases h; exact ⟨_,_,rfl,fun _=>.int _,fun Q k=>.inr ⟨_,rfl,k⟩⟩
 ·cases r1; cases h; exact ⟨_,_,rfl,fun _=>.int _,fun Q k=>.inl ⟨_,rfl,k⟩⟩
def zQ:A → Option (List A)
 | .lst xs=>some xs
 | .tup xs=>some xs
 | _=>none
def zi (a:A):Option Rr:=match zQ a with
 | some xs=>some (.nw (.lst xs))
 | none=>none
def pS (a:A):Option Rr:=match zQ a with
 | some xs=>some (.fr (.tup xs))
 | none=>none
theorem Jy {K:Kx}:UnS K (fun v H Q=>∃ p ys,[v] = [V.ref p] ∧ (SqL K.K H p ys ∨ SqT K.K H p ys) ∧ ∀ l,H l = none → Q (.ref l) (upd H l (.lst ys))) zi:=by
 intro c σ H ρ τ θ x v a q Q ek hv bd e1 e3 k
 subst ek
 obtain ⟨L,bl,i1⟩:=Bd.open bd hv e1
 cases a <;> first | (cases e3; done) | skip
 ·rename_i xs
  cases e3
  obtain ⟨p,vs,rfl,s1,rr⟩:=i1.2.1 xs rfl
  exact ⟨p,vs,rfl,.inr (gy (g_same _ _ _) s1),fun l hl=>k _ _ trivial (bl.pM hl fun G H' sm q=>.lst q (rr.sm sm))⟩
 ·rename_i xs
  cases e3
  obtain ⟨p,vs,rfl,s1,rr⟩:=i1.1 xs rfl
  exact ⟨p,vs,rfl,.inl s1,fun l hl=>k _ _ trivial (bl.pM hl fun G H' sm q=>.lst q (rr.sm sm))⟩
theorem qm {K:Kx}:UnS K (fun v H Q=>∃ p ys,[v] = [V.ref p] ∧ ((SqL K.K H p ys ∧ ∀ l,H l = none → Q (.ref l) (upd H l (.tup ys))) ∨ (SqT K.K H p ys ∧ Q (.ref p) H))) pS:=by
 intro c σ H ρ τ θ x v a q Q ek hv bd e1 e3 k
 subst ek
 obtain ⟨L,bl,i1⟩:=Bd.open bd hv e1
 cases a <;> first | (cases e3; done) | skip
 ·rename_i xs
  cases e3
  obtain ⟨p,vs,rfl,s1,rr⟩:=i1.2.1 xs rfl
  exact ⟨p,vs,rfl,.inr ⟨gy (g_same _ _ _) s1,k _ _ trivial (bl.push (.tup s1 rr))⟩⟩
 ·rename_i xs
  cases e3
  obtain ⟨p,vs,rfl,s1,rr⟩:=i1.1 xs rfl
  refine ⟨p,vs,rfl,.inl ⟨s1,fun l hl=>?_⟩⟩
  obtain ⟨b2,sm,np⟩:=bl.new (o:=.tup vs) hl
  exact k _ _ trivial (b2.push (.tup (.inl (.inl (by rw [gF np (bl.fhd hl)]; exact cR))) (rr.sm sm)))
end
end M
namespace M
open PySem L2
section
variable {c:Cn} {σ:St} {H:Hp} {ρ:List Sl} {τ:St} {θ:List Sl}
theorem Bd.Dj {x:Option V} {s:Sl} {xs:St} {ss:List Sl} (e:xs.length = ss.length) (b:Bd c σ H ρ (x :: (xs ++ τ)) (s :: (ss ++ θ))):Bd c σ H ρ (x :: τ) (s :: θ):=by
 obtain ⟨L,b⟩:=b
 have r:aU c.toKx (c.g H L) H (x :: (xs ++ (τ ++ σ))) (s :: (ss ++ (θ ++ ρ))) L:=by have:=b.rel; simpa [List.append_assoc] using this
 cases r with
 | cons h r =>
  rename_i L0 L'
  obtain ⟨L1,L2,e1,r1,r2⟩:=aU.split e r
  subst e1
  have sl:(L0 ++ L2).Sublist (L0 ++ (L1 ++ L2)):=List.Sublist.append (List.Sublist.refl _) (List.sublist_append_right _ _)
  have sm:Sq (c.g H (L0 ++ (L1 ++ L2))) (c.g H (L0 ++ L2)):=jn fun a ha=>sl.subset ha
  exact ⟨L0 ++ L2,b.nd.sublist sl,aU.cons (h.sm sm (fun _ _ _ e=>e)) (r2.sm sm (fun _ _ _ e=>e)),fun p hp=>b.own p (sl.subset hp),b.fr,b.kp,by have:=b.lt; simp at this ⊢; omega,b.hd⟩
theorem Bd.Pf {ys:St} (b:Bd c (σ ++ ys) H ρ τ θ):Bd c σ H (ρ.take σ.length) τ θ:=by
 have hl:=b.kZ
 rw [List.length_append] at hl
 obtain ⟨L,b⟩:=b
 have r:aU c.toKx (c.g H L) H ((τ ++ σ) ++ ys) ((θ ++ ρ.take σ.length) ++ ρ.drop σ.length) L:=by
  have:=b.rel
  rw [List.append_assoc,List.append_assoc,List.take_append_drop]; exact this
 obtain ⟨L1,L2,e1,r1,r2⟩:=aU.split (by simp [b.lt]; omega) r
 subst e1
 have sm:Sq (c.g H (L1 ++ L2)) (c.g H L1):=jn fun a ha=>List.mem_append_left _ ha
 refine ⟨L1,(List.nodup_append.mp b.nd).1,r1.sm sm (fun _ _ _ e=>e),fun p hp=>b.own p (List.mem_append_left _ hp),b.fr,fun i o h=>?_,b.lt,b.hd⟩
 have hi:i < (ρ.take σ.length).length:=(List.getElem?_eq_some_iff.mp h).1
 rw [List.length_take] at hi
 have h':ρ[i]? = some (.pv o):=by rw [List.getElem?_take] at h; split at h; exact h; cases h
 have:=b.kp i o h'
 rwa [List.getElem?_append_left (by omega)] at this
theorem Bd.PH {n:Nat} (b:Bd c σ H ρ τ θ):Bd c (σ ++ List.replicate n none) H (ρ ++ List.replicate n .un) τ θ:=by
 have hl:=b.kZ
 obtain ⟨L,b⟩:=b
 refine ⟨L,b.nd,?_,b.own,b.fr,fun i o h=>?_,b.lt,b.hd⟩
 ·have:=b.rel.app (wZ (k:=c.toKx) (G:=c.g H L) (H:=H) n)
  simpa [List.append_assoc] using this
 ·by_cases z:i < ρ.length
  ·rw [List.getElem?_append_left z] at h
   rw [List.getElem?_append_left (by omega)]
   exact b.kp i o h
  ·rw [List.getElem?_append_right (by omega)] at h
   have:=List.eq_of_mem_replicate (List.mem_of_getElem? h)
   cases this
end
abbrev Mg:=A → List Sl → Option (List Sl)
abbrev Mgs:=List A → List Sl → Option (List Sl)
def TGm (K:Kx) (lo:Nat) (G:Mg):TG:=fun v σ H Q=>∃ (c:Cn) (ρ:List Sl) (τ:St) (θ:List Sl) (a:A) (ρ':List Sl),c.toKx = K ∧ Bd c σ H ρ (some v :: τ) (.fr a :: θ) ∧ G a ρ = some ρ' ∧ ∀ σ' H',σ'.take lo = σ.take lo → σ'.length = σ.length → Bd c σ' H' ρ' τ θ → Q σ' H'
def PL (K:Kx) (lo:Nat) (G:Mgs):TGs:=fun vs σ H Q=>∃ (c:Cn) (ρ:List Sl) (τ:St) (θ:List Sl) (as:List A) (ρ':List Sl),c.toKx = K ∧ vs.length = as.length ∧ Bd c σ H ρ (vs.map some ++ τ) (as.map Sl.fr ++ θ) ∧ G as ρ = some ρ' ∧ ∀ σ' H',σ'.take lo = σ.take lo → σ'.length = σ.length → Bd c σ' H' ρ' τ θ → Q σ' H'
structure JG (X:Cx) (lo:Nat) (tg:Expr) (G:Mg):Prop where
 p:PG X tg (TGm (kx X) lo G)
structure JGs (X:Cx) (lo:Nat) (tg:List Expr) (G:Mgs):Prop where
 p:PGs X tg (PL (kx X) lo G)
def bB (i:Nat):Mg:=fun a ρ=>put i (.fr a) ρ
def cC:Mgs:=fun as ρ=>match as with
 | []=>some ρ
 | _=>none
def aL (g:Mg) (gs:Mgs):Mgs:=fun as ρ=>match as with
 | a :: as=>match g a ρ with
  | some ρ1=>gs as ρ1
  | none=>none
 | []=>none
def gM (n:Nat) (gs:Mgs):Mg:=fun a ρ=>match a with
 | .tup as=>if as.length = n then gs as ρ else none
 | _=>none
section
variable {X:Cx} {E:XK} {lo:Nat}
theorem bj {i:Nat} {x:Str} {pos:Pos} (hN:X.N.Nodup) (hi:X.N[i]? = some x) (hx:Loc X.env.scope x) (hl:lo ≤ i) (hf:X.fn x = true ∨ X.env.scope.names.lookup x = some .local:=by first | exact .inl rfl | exact .inr rfl | assumption):JG X lo (.Name x pos) (bB i):=⟨fun pins s σ H v u Q I r h=>by
 refine IF hN hi hx hf pins s σ H v u Q I r ?_
 obtain ⟨c,ρ,τ,θ,a,ρ',ek,b,em,q⟩:=h
 exact q _ H (by rw [List.take_set_of_le hl]) (by simp) (Bd.put b (fun o z=>by cases z) em)⟩
theorem dR:JGs X lo [] cC:=⟨fun pins s σ H v u Q I r h=>by
 refine IP pins s σ H v u Q I r ?_
 obtain ⟨c,ρ,τ,θ,as,ρ',ek,hl,b,em,q⟩:=h
 cases as with
 | nil=>cases em; cases v with | nil=>exact ⟨rfl,q σ H rfl rfl b⟩ | cons _ _=>simp at hl
 | cons _ _=>cases em⟩
theorem bh {e:Expr} {es:List Expr} {g:Mg} {gs:Mgs} (h1:JG X lo e g) (h2:JGs X lo es gs) (hp:∀ {t:TG} {u:TGs},PG X e t → PGs X es u → PGs X (e :: es) (Kg t u)):JGs X lo (e :: es) (aL g gs):=⟨fun pins s σ H v u Q I r h=>by
 refine hp h1.p h2.p pins s σ H v u Q I r ?_
 obtain ⟨c,ρ,τ,θ,as,ρ',ek,hl,b,em,q⟩:=h
 cases as with
 | nil=>cases em
 | cons a as =>
  cases v with
  | nil=>simp at hl
  | cons v vs =>
   unfold aL at em
   simp only at em
   cases e1:g a ρ with
   | none=>simp only [e1] at em; cases em
   | some ρ1 =>
    simp only [e1] at em
    refine ⟨v,vs,rfl,c,ρ,_,_,a,ρ1,ek,b,e1,fun σ' H' t1 l1 b1=>⟨c,ρ1,τ,θ,as,ρ',ek,by simpa using hl,b1,em,fun σ2 H2 t2 l2 b2=>q σ2 H2 (t2.trans t1) (l2.trans l1) b2⟩⟩⟩
theorem qt {es:List Expr} {k n:Nat} {gs:Mgs} {pos:Pos} (hc:X.calm = true) (h:JGs X lo es gs) (hn:(assignEach es X.env).length = n:=by rfl) (hst:(assignEach es X.env).findIdx? (·.1) = none:=by rfl):JG X lo (.Tuple es k pos) (gM n gs):=⟨fun pins s σ H v u Q I r h'=>by
 refine Lw hc h.p hn hst pins s σ H v u Q I r ?_
 obtain ⟨c,ρ,τ,θ,a,ρ',ek,b,em,q⟩:=h'
 cases a <;> first | (cases em; done) | skip
 rename_i as
 unfold gM at em
 simp only at em
 split at em
 ·rename_i hl
  obtain ⟨L,bl,i1⟩:=Bd.open (r:=.fr (.tup as)) b trivial rfl
  obtain ⟨p,vs,rfl,s1,rr⟩:=i1.2.1 as rfl
  have:c.K = X.K:=by have:=congrArg Kx.K ek; exact this
  refine ⟨p,vs,rfl,by rw [← this]; exact gy (g_same _ _ _) s1,by rw [rr.len]; exact hl,c,ρ,τ,θ,as,ρ',ek,rr.len,?_,em,q⟩
  obtain ⟨nd,rel,own,fr,kp,lt,hdd⟩:=bl
  exact ⟨L,nd,by have:=(aU.frs (H:=H) rr).app rel; simpa [List.append_assoc] using this,own,fr,kp,by simp [lt,rr.len],hdd⟩
 ·cases em⟩
def N8 (K:Kx) (J:It) (τi:St) (θi:List A) (as:List A):Prop:=∀ (c:Cn) (σ:St) (H:Hp) (ρ:List Sl) (τx:St) (θx:List Sl) (τ:St) (θ:List Sl) (i:Nat),c.toKx = K → τx.length = θx.length → Bd c σ H ρ (τx ++ (τi ++ τ)) (θx ++ (θi.map Sl.fr ++ θ)) →
 (as.length ≤ i → J.stop i H) ∧ ∀ a,as[i]? = some a → J.go i H ∧ ∀ x H',J.yld i H x H' → Bd c σ H' ρ (some x :: (τx ++ (τi ++ τ))) (.fr a :: (θx ++ (θi.map Sl.fr ++ θ)))
def O2 (K:Kx) (E:XK) (c:Cn) (σ:St) (ρ:List Sl) (τ:St) (θ:List Sl) (R:It → Hp → Prop):Except Str (List A) → Prop
 | .ok as=>∀ J H τi θi,τi.length = θi.length → N8 K J τi θi as → Bd c σ H ρ (τi ++ τ) (θi.map Sl.fr ++ θ) → R J H
 | .error x=>∀ C H,K.mg x = some (.ref C) → Bd c σ H ρ τ θ → E (.ref C) none H
def TIm (K:Kx) (E:XK) (m:Mi (List A)):TI:=fun σ H R=>∃ (c:Cn) (ρ:List Sl) (τ:St) (θ:List Sl) (o:Except Str (List A)) (ρ':List Sl),c.toKx = K ∧ Bd c σ H ρ τ θ ∧ m ρ = some (o,ρ') ∧ O2 K E c σ ρ' τ θ R o
structure JI (X:Cx) (E:XK) (tg iter:Expr) (m:Mi (List A)):Prop where
 p:PI X tg iter (TIm (kx X) E m)
theorem tG {c:Cn} {σ:St} {ρ':List Sl} {τ:St} {θ:List Sl} {o:Except Str (List A)} {R:It → Hp → Prop} (q:O2 (kx X) E c σ ρ' τ θ R o):∀ e,o = .error e → ∀ C H,X.mg e = some (.ref C) → Bd c σ H ρ' τ θ → E (.ref C) none H:=fun e ee=>by subst ee; exact q
def sH (m:Mi Rr):Mi (List A):=aT m fun r ρ=>match dr r ρ with
 | some (a,ρ')=>match zQ a with
  | some as=>some (.ok as,ρ')
  | none=>none
 | none=>none
theorem Bd.mid {c:Cn} {σ:St} {H:Hp} {ρ:List Sl} {τ:St} {θ:List Sl} {xs:St} {ss:List Sl} {v:V} {a:A} (e:xs.length = ss.length) (b:Bd c σ H ρ (xs ++ (some v :: τ)) (ss ++ (.fr a :: θ))):∃ L,BdL c σ H ρ (xs ++ (some v :: τ)) (ss ++ (.fr a :: θ)) L ∧ RA c.toKx (c.g H L) v a:=by
 obtain ⟨L,b⟩:=b
 have r:aU c.toKx (c.g H L) H (xs ++ (some v :: (τ ++ σ))) (ss ++ (.fr a :: (θ ++ ρ))) L:=by have:=b.rel; simpa [List.append_assoc] using this
 obtain ⟨L1,L2,e1,r1,r2⟩:=aU.split e r
 cases r2 with
 | cons h r3=>cases h with | fr h=>exact ⟨L,b,h⟩
theorem kK {tg l:Expr} {m:Mi Rr} (hl:JE X E l m):JI X E tg l (sH m):=⟨fun pins s σ H R I h=>by
 refine Mm hl.p pins s σ H R I ?_
 obtain ⟨c,ρ,τ,θ,o,ρ',ek,b,em,q⟩:=h
 refine cx ek b em (fun x v ρ1 H1 hv b1 em1=>?_) (tG q)
 cases e1:dr x ρ1 with
 | none=>simp only [e1] at em1; cases em1
 | some p =>
  obtain ⟨a,ρ2⟩:=p
  simp only [e1] at em1
  have b2:=Bd.dr (xs:=[]) (ss:=[]) rfl b1 hv e1
  cases e2:zQ a with
  | none=>simp only [e2] at em1; cases em1
  | some as =>
   simp only [e2] at em1
   cases em1
   have eK:c.K = X.K:=congrArg Kx.K ek
   cases a <;> first | (cases e2; done) | skip
   ·cases e2
    have rt:=Bd.top b2 (a:=.tup as) rfl
    cases rt with
    | tup e0 r0 =>
     rename_i p vs
     refine ⟨p,rfl,.inr ⟨⟨vs,by rw [← eK]; exact e0⟩,q _ H1 [some (.ref p)] [.tup as] rfl (fun c' σ' H' ρ' τx θx τ' θ' i ek' lx b'=>?_) b2⟩⟩
     have eK':c'.K = X.K:=congrArg Kx.K ek'
     obtain ⟨L,bl,h⟩:=Bd.mid lx b'
     cases h with
     | tup e3 r3 =>
      rename_i us
      have sq:SqT X.K H' p us:=by rw [← eK']; exact gy (g_same _ _ _) e3
      refine ⟨fun hi=>⟨us,sq,by rw [r3.len]; exact hi⟩,fun a ha=>?_⟩
      obtain ⟨u,h1,h2⟩:=r3.ta ha
      refine ⟨⟨us,u,sq,h1⟩,fun x H2 y=>?_⟩
      obtain ⟨rfl,y⟩:=y
      have:=y us sq
      rw [h1] at this; cases this
      exact bl.push h2
   ·cases e2
    have rt:=Bd.top b2 (a:=.lst as) rfl
    cases rt with
    | lst e0 r0 =>
     rename_i p vs
     refine ⟨p,rfl,.inl ⟨⟨vs,by rw [← eK]; exact e0⟩,q _ H1 [some (.ref p)] [.lst as] rfl (fun c' σ' H' ρ' τx θx τ' θ' i ek' lx b'=>?_) b2⟩⟩
     have eK':c'.K = X.K:=congrArg Kx.K ek'
     obtain ⟨L,bl,h⟩:=Bd.mid lx b'
     cases h with
     | lst e3 r3 =>
      rename_i us
      have sq:SqL X.K H' p us:=by rw [← eK']; exact AV (g_same _ _ _) e3
      refine ⟨fun hi=>⟨us,sq,by rw [r3.len]; exact hi⟩,fun a ha=>?_⟩
      obtain ⟨u,h1,h2⟩:=r3.ta ha
      refine ⟨⟨us,u,sq,h1⟩,fun x H2 y=>?_⟩
      obtain ⟨rfl,y⟩:=y
      have:=y us sq
      rw [h1] at this; cases this
      exact bl.push h2⟩
def tR (lo:Int) (n:Nat):List A:=(List.range n).map fun i=>.int (lo + (i:Nat))
theorem M5 {K:Kx} {lo:Int} {n:Nat}:N8 K (Itr lo n) [] [] (tR lo n):=fun c σ H ρ τx θx τ θ i ek lx b=>by
 have hl:(tR lo n).length = n:=by simp [tR]
 refine ⟨fun h=>by rw [hl] at h; exact h,fun a ha=>?_⟩
 have hi:i < n:=by rw [← hl]; exact (List.getElem?_eq_some_iff.mp ha).1
 refine ⟨hi,fun x H' y=>?_⟩
 obtain ⟨rfl,rfl⟩:=y
 have:a = .int (lo + i):=by
  unfold tR at ha
  rw [List.getElem?_map,List.getElem?_range hi] at ha
  exact (Option.some.inj ha).symm
 subst this
 exact b.push fun _=>.int _
def BC (m:Mi Rr):Mi (List A):=aT m fun r ρ=>match res ρ r with
 | some (.int j)=>if -(2 ^ 60) ≤ j ∧ j < 2 ^ 60 then some (.ok (tR 0 j.toNat),ρ) else none
 | _=>none
theorem DT {tg a:Expr} {m:Mi Rr} {p pos:Pos} (hg:Gl X "range") (hm:X.mg "range" = none) (ha:JE X E a m) (hs:starEach [a] X.env = [(false,eval a X.env)]:=by rfl) (hs':starEach [a] X.env = (false,eval a X.env) :: starEach [] X.env:=by rfl):JI X E tg (.Call (.Name "range" p) [a] [] pos) (BC m):=⟨fun pins s σ H R I h=>by
 refine EL hg hm (fk ha.p mn hs') hs pins s σ H R I ?_
 obtain ⟨c,ρ,τ,θ,o,ρ',ek,b,em,q⟩:=h
 refine cx ek b em (fun x v ρ1 H1 hv b1 em1=>?_) (tG q)
 cases e1:res ρ1 x with
 | none=>simp only [e1] at em1; cases em1
 | some a =>
  have r1:=Bd.rd b1 hv e1
  simp only [e1] at em1
  cases a <;> first | (cases em1; done) | skip
  rename_i j
  simp only at em1
  split at em1
  ·rename_i hj
   cases em1
   cases r1
   exact ⟨j,rfl,by omega,by omega,q _ H1 [] [] rfl M5 b1.drop⟩
  ·cases em1⟩
def forL (G:Mg) (b:Ms):List A → Ms
 | [],ρ=>some (.nx,ρ)
 | a :: as,ρ=>match G a ρ with
  | none=>none
  | some ρ1=>match b ρ1 with
   | some (.nx,ρ2)=>forL G b as ρ2
   | some (.ct,ρ2)=>forL G b as ρ2
   | some (.bk,ρ2)=>some (.nx,ρ2)
   | r=>r
def vV (m:Mi (List A)) (G:Mg) (b:Ms):Ms:=eo m fun as ρ=>forL G b as ρ
theorem pQ {tg iter:Expr} {body:List Stmt} {m:Mi (List A)} {G:Mg} {mb:Ms} {pos:Pos} (hp:PassesOwn (model X.prog X.w) X.A X.env X.xe) (hc:X.calm = true) (hi:JI X E tg iter m) (hg:JG X 0 tg G) (hb:JSs X E body mb)
  (hs:∀ x,foldedSetIterable iter X.env x = pure x:=by intro _; rfl):JS X E (.For tg iter body [] pos) (vV m G mb):=⟨PS.weaken (Md hp hc hi.p hg.p hb.p hs) fun D σ H h=>by
 obtain ⟨c,ρ,τ,θ,f,ρ',ek,b,em,q⟩:=h
 rcases fZ em with ⟨as,ρ1,e1,e2⟩ | ⟨e,e1,e2⟩
 ·refine ⟨c,ρ,τ,_,_,ρ1,ek,b,e1,fun J H1 τi θi li it b1=>?_⟩
  refine ⟨fun i m σ' H'=>m = as.length - i ∧ i ≤ as.length ∧ ∃ ρi,Bd c σ' H' ρi (τi ++ τ) (θi.map Sl.fr ++ θ.map Sl.fr) ∧ forL G mb (as.drop i) ρi = some (f,ρ'),⟨_,rfl,Nat.zero_le _,ρ1,b1,by simpa using e2⟩,?_⟩
  rintro i m σ' H' ⟨rfl,hi,ρi,bi,ei⟩
  obtain ⟨i1,i2⟩:=it c σ' H' ρi [] [] τ (θ.map Sl.fr) i ek rfl bi
  by_cases hlt:i < as.length
  ·have hd:as.drop i = as[i] :: as.drop (i + 1):=List.drop_eq_getElem_cons hlt
   rw [hd] at ei
   obtain ⟨go,yl⟩:=i2 as[i] (by simp [hlt])
   refine .inr ⟨go,fun σ2 H2=>∃ ρ2,Bd c σ2 H2 ρ2 (τi ++ τ) (θi.map Sl.fr ++ θ.map Sl.fr) ∧ forL G mb (as.drop (i + 1)) ρ2 = some (f,ρ'),fun σ2 H2 ⟨ρ2,q1,q2⟩=>⟨as.length - (i + 1),by omega,rfl,hlt,ρ2,q1,q2⟩,fun x H2 y=>?_⟩
   have b2:=yl x H2 y
   unfold forL at ei
   cases eg:G as[i] ρi with
   | none=>simp only [eg] at ei; cases ei
   | some ρ2 =>
    simp only [eg] at ei
    refine ⟨c,ρi,_,_,as[i],ρ2,ek,b2,eg,fun σ3 H3 _ _ b3=>?_⟩
    cases eb:mb ρ2 with
    | none=>simp only [eb] at ei; cases ei
    | some p =>
     obtain ⟨f1,ρ3⟩:=p
     simp only [eb] at ei
     refine ⟨c,ρ2,τi ++ τ,θi ++ θ,f1,ρ3,ek,by rw [List.map_append]; exact b3,eb,?_⟩
     cases f1 with
     | nx=>intro σ4 H4 b4; rw [List.map_append] at b4; exact ⟨ρ3,b4,ei⟩
     | ct=>intro σ4 H4 b4; rw [List.map_append] at b4; exact ⟨ρ3,b4,ei⟩
     | bk=>cases ei; intro σ4 H4 b4; rw [List.map_append] at b4; exact q σ4 H4 (Bd.J1 (by simp [li]) b4)
     | rt s=>cases ei; intro v σ4 H4 hs b4; rw [List.map_append] at b4; exact q v σ4 H4 hs (Bd.Dj (by simp [li]) b4)
     | ex x=>cases ei; intro C σ4 H4 hm b4; rw [List.map_append] at b4; exact q C σ4 H4 hm (Bd.J1 (by simp [li]) b4)
  ·have e:i = as.length:=by omega
   subst e
   rw [List.drop_length] at ei
   cases ei
   exact .inl ⟨i1 (Nat.le_refl _),q σ' H' (Bd.J1 (by simp [li]) bi)⟩
 ·subst e2
  exact ⟨c,ρ,τ,_,_,ρ',ek,b,e1,fun C H1 hm b1=>q C σ H1 hm b1⟩⟩
def l8 (t:Mi Bool) (b:Ms):Nat → Ms
 | 0,_=>none
 | n + 1,ρ=>match t ρ with
  | some (.ok true,ρ1)=>match b ρ1 with
   | some (.nx,ρ2)=>l8 t b n ρ2
   | some (.ct,ρ2)=>l8 t b n ρ2
   | some (.bk,ρ2)=>some (.nx,ρ2)
   | r=>r
  | some (.ok false,ρ1)=>some (.nx,ρ1)
  | some (.error e,ρ1)=>some (.ex e,ρ1)
  | none=>none
def rP (n:Nat) (t:Mi Bool) (b:Ms):Ms:=l8 t b n
theorem tK {n:Nat} {t:Expr} {body:List Stmt} {mt:Mi Bool} {mb:Ms} {pos:Pos} (hp:PassesOwn (model X.prog X.w) X.A X.env X.xe) (ht:JT X E t mt) (hb:JSs X E body mb):JS X E (.While t body [] pos) (rP n mt mb):=⟨PS.weaken (Gh hp ht.p hb.p) fun D σ H h=>by
 obtain ⟨c,ρ,τ,θ,f,ρ',ek,b,em,q⟩:=h
 refine ⟨fun m σ' H'=>∃ ρi,Bd c σ' H' ρi τ (θ.map Sl.fr) ∧ l8 mt mb m ρi = some (f,ρ'),⟨n,ρ,b,em⟩,?_⟩
 rintro m σ' H' ⟨ρi,bi,ei⟩
 cases m with
 | zero=>cases ei
 | succ m =>
  unfold l8 at ei
  cases et:mt ρi with
  | none=>simp only [et] at ei; cases ei
  | some p =>
   obtain ⟨o,ρ1⟩:=p
   refine ⟨c,ρi,τ,_,o,ρ1,ek,bi,et,?_⟩
   cases o with
   | error e=>simp only [et] at ei; cases ei; exact fun C H1 hm b1=>q C σ' H1 hm b1
   | ok k =>
    intro H1 b1
    cases k with
    | false=>simp only [et] at ei; cases ei; rw [if_neg (by decide)]; exact q σ' H1 b1
    | true =>
     simp only [et] at ei
     rw [if_pos rfl]
     refine ⟨fun σ2 H2=>∃ ρ2,Bd c σ2 H2 ρ2 τ (θ.map Sl.fr) ∧ l8 mt mb m ρ2 = some (f,ρ'),fun σ2 H2 w=>⟨m,Nat.lt_succ_self _,w⟩,?_⟩
     cases eb:mb ρ1 with
     | none=>simp only [eb] at ei; cases ei
     | some p =>
      obtain ⟨f1,ρ3⟩:=p
      simp only [eb] at ei
      refine ⟨c,ρ1,τ,θ,f1,ρ3,ek,b1,eb,?_⟩
      cases f1 with
      | nx=>exact fun σ4 H4 b4=>⟨ρ3,b4,ei⟩
      | ct=>exact fun σ4 H4 b4=>⟨ρ3,b4,ei⟩
      | bk=>cases ei; exact fun σ4 H4 b4=>q σ4 H4 b4
      | rt s=>cases ei; exact fun v σ4 H4 hs b4=>q v σ4 H4 hs b4
      | ex x=>cases ei; exact fun C σ4 H4 hm b4=>q C σ4 H4 hm b4⟩
end
end M
namespace M
open PySem L2
theorem kh (r:Rr) (v:V) (t:St) (u:List Sl):eP r v t = eP r v [] ++ t ∧ eQ r u = eQ r [] ++ u ∧ (eP r v []).length = (eQ r []).length:=by cases r <;> exact ⟨rfl,rfl,rfl⟩
theorem Dp:100000 < sizeLine:=by rw [sizeLine_eq]; decide
def pO (G:Mg) (t:Mi Bool) (e:Mi Rr):List A → List A → List Sl → Option (List A × List Sl)
 | [],acc,ρ=>some (acc,ρ)
 | a :: as,acc,ρ=>match G a ρ with
  | none=>none
  | some ρ1=>match t ρ1 with
   | some (.ok true,ρ2)=>match e ρ2 with
    | some (.ok r,ρ3)=>match dr r ρ3 with
     | some (d,ρ4)=>pO G t e as (acc ++ [d]) ρ4
     | none=>none
    | _=>none
   | some (.ok false,ρ2)=>pO G t e as acc ρ2
   | _=>none
def rA:Mi Bool:=i4 true
def pA (n:Nat) (mi:Mi (List A)) (G:Mg) (t:Mi Bool) (e:Mi Rr):Mi Rr:=aT mi fun as ρ=>if as.length ≤ 100000 then match pO G t e as [] (ρ ++ List.replicate n .un) with
 | some (ys,ρ')=>some (.ok (.nw (.lst ys)),ρ'.take ρ.length)
 | none=>none else none
structure JF (X:Cx) (E:XK) (ifs:List Expr) (m:Mi Bool):Prop where
 p:PF X ifs (TTm (kx X) E m)
section
variable {X:Cx} {E:XK}
theorem z8:JF X E [] rA:=⟨fun pins s σ H Q I h=>by
 refine MY pins s σ H Q I ?_
 obtain ⟨c,ρ,τ,θ,o,ρ',ek,b,em,q⟩:=h
 cases em; exact q H b⟩
theorem Hk {t:Expr} {m:Mi Bool} (h:JT X E t m):JF X E [t] m:=⟨MT h.p⟩
abbrev E00:XK:=fun _ _ _=>False
theorem zd {n:Nat} {mi:Mi (List A)} {G:Mg} {mt:Mi Bool} {me:Mi Rr} {lo:Nat} (σ:St) (H:Hp) (Q:VK) (hlo:σ.length = lo) (h:TEm (kx X) E (pA n mi G mt me) σ H Q) :
  Gz n (TIm (kx X) E mi) (TGm (kx X) lo G) (TTm (kx X) E00 mt) (TEm (kx X) E00 me) σ H Q:=by
 obtain ⟨c,ρ,τ,θ,o,ρ',ek,b,em,q⟩:=h
 rcases bind_some em with ⟨as,ρ1,e1,e2⟩ | ⟨e,e1,e2⟩
 ·refine ⟨c,ρ,τ,θ,_,ρ1,ek,b,e1,fun J H1 τi θi li it b1=>?_⟩
  split at e2
  ·rename_i h100
   cases ec:pO G mt me as [] (ρ1 ++ List.replicate n .un) with
   | none=>simp only [ec] at e2; cases e2
   | some p =>
    obtain ⟨ys,ρ2⟩:=p
    simp only [ec] at e2
    cases e2
    have hlen:σ.length = ρ1.length:=b1.kZ
    refine ⟨fun i m σ' vs H'=>m = as.length - i ∧ i ≤ as.length ∧ σ'.take lo = σ ∧ ∃ ρi acc,vs.length = acc.length ∧ acc.length ≤ i ∧ Bd c σ' H' ρi (vs.reverse.map some ++ (τi ++ τ)) (acc.reverse.map Sl.fr ++ (θi.map Sl.fr ++ θ)) ∧ pO G mt me (as.drop i) acc ρi = some (ys,ρ2),
     ⟨_,rfl,Nat.zero_le _,by rw [← hlo,List.take_left],_,[],rfl,Nat.zero_le _,b1.PH,by simpa using ec⟩,?_⟩
    rintro i m σ' vs H' ⟨rfl,hi,htk,ρi,acc,lv,la,bi,ei⟩
    refine ⟨by have:=wC; omega,?_⟩
    obtain ⟨i1,i2⟩:=it c σ' H' ρi (vs.reverse.map some) (acc.reverse.map Sl.fr) τ θ i ek (by simp [lv]) bi
    by_cases hlt:i < as.length
    ·have hd:as.drop i = as[i] :: as.drop (i + 1):=List.drop_eq_getElem_cons hlt
     rw [hd] at ei
     obtain ⟨go,yl⟩:=i2 as[i] (by simp [hlt])
     refine .inr ⟨go,fun σ2 vs2 H2=>σ2.take lo = σ ∧ ∃ ρ3 acc2,vs2.length = acc2.length ∧ acc2.length ≤ i + 1 ∧ Bd c σ2 H2 ρ3 (vs2.reverse.map some ++ (τi ++ τ)) (acc2.reverse.map Sl.fr ++ (θi.map Sl.fr ++ θ)) ∧ pO G mt me (as.drop (i + 1)) acc2 ρ3 = some (ys,ρ2),
      fun σ2 vs2 H2 ⟨q0,ρ3,acc2,q1,q2,q3,q4⟩=>⟨as.length - (i + 1),by omega,rfl,hlt,q0,ρ3,acc2,q1,q2,q3,q4⟩,fun x H2 y=>?_⟩
     have b2:=yl x H2 y
     unfold pO at ei
     cases eg:G as[i] ρi with
     | none=>simp only [eg] at ei; cases ei
     | some ρ3 =>
      simp only [eg] at ei
      refine ⟨c,ρi,_,_,as[i],ρ3,ek,b2,eg,fun σ3 H3 t3 l3 b3=>?_⟩
      cases et:mt ρ3 with
      | none=>simp only [et] at ei; cases ei
      | some p =>
       obtain ⟨ot,ρ4⟩:=p
       cases ot with
       | error e=>simp only [et] at ei; cases ei
       | ok k =>
        refine ⟨c,ρ3,_,_,.ok k,ρ4,ek,b3,et,fun H4 b4=>?_⟩
        cases k with
        | false =>
         simp only [et] at ei
         rw [if_neg (by decide)]
         exact ⟨t3.trans htk,ρ4,acc,lv,by omega,b4,ei⟩
        | true =>
         simp only [et] at ei
         rw [if_pos rfl]
         cases ee:me ρ4 with
         | none=>simp only [ee] at ei; cases ei
         | some p =>
          obtain ⟨oe,ρ5⟩:=p
          cases oe with
          | error e=>simp only [ee] at ei; cases ei
          | ok r =>
           simp only [ee] at ei
           refine ⟨c,ρ4,_,_,.ok r,ρ5,ek,b4,ee,fun v H5 hv b5=>?_⟩
           cases ef:dr r ρ5 with
           | none=>simp only [ef] at ei; cases ei
           | some p =>
            obtain ⟨d,ρ6⟩:=p
            simp only [ef] at ei
            have b6:=Bd.dr (xs:=[]) (ss:=[]) rfl b5 hv ef
            exact ⟨t3.trans htk,ρ6,acc ++ [d],by simp [lv],by simp; omega,by simpa using b6,ei⟩
    ·have e:i = as.length:=by omega
     subst e
     rw [List.drop_length] at ei
     cases ei
     refine .inl ⟨i1 (Nat.le_refl _),fun p hp=>?_⟩
     have b7:=Bd.HA bi (by simp [lv]) hp vs ys CW
     have b8:=Bd.Dj (by simp [li]) b7
     have es:σ' = σ ++ σ'.drop lo:=by rw [← htk]; exact (List.take_append_drop _ _).symm
     rw [es] at b8
     have b9:=b8.Pf
     rw [hlen] at b9
     exact q _ _ trivial b9
  ·cases e2
 ·subst e2
  exact ⟨c,ρ,τ,θ,_,ρ',ek,b,e1,fun C H1 hm b1=>q C H1 hm b1⟩
theorem uv {N:List Str} {k:Nat} {sc:Scope} {tg elt iter:Expr} {ifs:List Expr} {pos:Pos} {mi:Mi (List A)} {G:Mg} {mt:Mi Bool} {me:Mi Rr} {lo:Nat} (hc:X.calm = true) (S:jb X.N N k sc X.env.scope) (hlo:X.N.length = lo) (hi:JI X E tg iter mi)
  (hg:∀ cl C s H fp,JG (cxC X N sc cl C s H fp) lo tg G) (ht:∀ cl C s H fp,JF (cxC X N sc cl C s H fp) E00 ifs mt) (he:∀ cl C s H fp,JE (cxC X N sc cl C s H fp) E00 elt me) (hs:∀ x,foldedSetIterable iter X.env x = pure x:=by intro _; rfl) :
  JE X E (.ListComp elt [⟨tg,iter,ifs,0⟩] sc pos) (pA k mi G mt me) :=
 ⟨fun pins s σ H Q I h=>IU hc S hi.p (fun cl C s H fp=>(hg cl C s H fp).p) (fun cl C s H fp=>(ht cl C s H fp).p) (fun cl C s H fp=>(he cl C s H fp).p) hs pins s σ H Q I (zd σ H Q (I.len.trans hlo) h)⟩
theorem J4 {i:Nat} {x:Str} {px spos:Pos} {N:List Str} {k:Nat} {sc:Scope} {tg elt iter:Expr} {ifs:List Expr} {pos:Pos} {mi:Mi (List A)} {G:Mg} {mt:Mi Bool} {me:Mi Rr} {lo:Nat} (hc:X.calm = true) (S:jb X.N N k sc X.env.scope) (hlo:X.N.length = lo) (hN:X.N.Nodup) (hx:X.N[i]? = some x)
  (hl:X.env.scope.names.lookup x = some .local) (hsw:swapsWith (.ListComp elt [⟨tg,iter,ifs,0⟩] sc pos) (some (.Name x px)) spos.line X.env = pure true) (hi:JI X E tg iter mi)
  (hg:∀ cl C s H fp,JG (cxC X N sc cl C s H fp) lo tg G) (ht:∀ cl C s H fp,JF (cxC X N sc cl C s H fp) E00 ifs mt) (he:∀ cl C s H fp,JE (cxC X N sc cl C s H fp) E00 elt me) (hs:∀ x,foldedSetIterable iter X.env x = pure x:=by intro _; rfl) :
  JS X E (.Assign [.Name x px] (.ListComp elt [⟨tg,iter,ifs,0⟩] sc pos) spos) (bG i (pA k mi G mt me)) :=
 ⟨fun pins s σ H D I h=>JV hc S hN hx hl hsw hi.p (fun cl C s H fp=>(hg cl C s H fp).p) (fun cl C s H fp=>(ht cl C s H fp).p) (fun cl C s H fp=>(he cl C s H fp).p) hs pins s σ H D I (by
  obtain ⟨c,ρ,τ,θ,f,ρ',ek,b,em,q⟩:=h
  refine zd (E:=E) σ H _ (I.len.trans hlo) (qz ek b em q fun r v ρ1 H1 hv b1 em1=>?_)
  cases e1:stT r ρ1 with
  | none=>simp only [e1] at em1; cases em1
  | some p =>
   obtain ⟨t,ρ2⟩:=p
   simp only [e1] at em1
   obtain ⟨b2,ht⟩:=Bd.stT hv b1 e1
   cases e2:put i t ρ2 with
   | none=>simp only [e2] at em1; cases em1
   | some ρ3 =>
    simp only [e2] at em1; cases em1
    exact q _ H1 (Bd.put b2 ht e2))⟩
def ck (ρ:List Sl) (i:Nat):Option LO:=match ρ[i]? with
 | some (.lv o)=>some o
 | some (.pv o)=>some o
 | _=>none
def setAt (ρ:List Sl) (i:Nat) (o:LO):List Sl:=match ρ[i]? with
 | some (.pv _)=>ρ.set i (.pv o)
 | _=>ρ.set i (.lv o)
theorem BdL.live {c:Cn} {σ:St} {H:Hp} {ρ:List Sl} {τ:St} {θ:List Sl} {L:List Addr} {i:Nat} {o:LO} (b:BdL c σ H ρ τ θ L) (h:ck ρ i = some o) (o':LO) (u:HO) :
  ∃ p,σ[i]? = some (some (.ref p)) ∧ LR c.toKx (c.g H L) H p o ∧ ((∀ H',H' p = some u → LR c.toKx (c.g H L) H' p o') → Bd c σ (upd H p u) (setAt ρ i o') τ θ):=by
 unfold ck at h
 unfold setAt
 cases es:ρ[i]? with
 | none=>simp only [es] at h; cases h
 | some s =>
  cases s with
  | un=>simp only [es] at h; cases h
  | fr a=>simp only [es] at h; cases h
  | lv o1=>simp only [es] at h; cases h; exact b.change es (.inl ⟨rfl,rfl⟩)
  | pv o1=>simp only [es] at h; cases h; exact b.change es (.inr ⟨rfl,rfl⟩)
theorem Bd.GG {c:Cn} {σ:St} {H:Hp} {ρ:List Sl} {τ:St} {θ:List Sl} {v:V} {a:A} (b:Bd c σ H ρ (some v :: τ) (.fr a :: θ)):∃ L,BdL c σ H ρ τ θ L ∧ RA c.toKx (c.g H L) v a:=by
 obtain ⟨L,bl,r⟩:=Bd.frs (vs:=[v]) (as:=[a]) b rfl
 cases r with | cons h _=>exact ⟨L,bl,h⟩
def oj (i:Nat) (m:Mi Rr):Mi Rr:=aT m fun r ρ=>match dr r ρ with
 | some (a,ρ1)=>match ck ρ1 i with
  | some (.lst xs)=>if xs.length ≤ 100000 then some (.ok (.fr .non),setAt ρ1 i (.lst (xs ++ [a]))) else none
  | _=>none
 | none=>none
theorem B0 {c:Cn} {σ:St} {H:Hp} {ρ:List Sl} {τ:St} {θ:List Sl} {i:Nat} {xs:List A} (b:Bd c σ H ρ τ θ) (h:ck ρ i = some (.lst xs)):∃ p vs,σ[i]? = some (some (.ref p)) ∧ H p = some (.lst vs):=by
 obtain ⟨L,b⟩:=b
 obtain ⟨p,h1,h2,_⟩:=b.live h (.lst xs) (.lst [])
 cases h2 with | lst e r=>exact ⟨p,_,h1,e⟩
def isL (ρ:List Sl) (i:Nat):Bool:=match ck ρ i with
 | some (.lst _)=>true
 | _=>false
def Bw (i:Nat) (m:Mi Rr):Mi Rr:=fun ρ=>if isL ρ i then m ρ else none
theorem BI {ρ:List Sl} {i:Nat} (h:isL ρ i = true):∃ xs,ck ρ i = some (.lst xs):=by
 unfold isL at h
 cases e:ck ρ i with
 | none=>rw [e] at h; cases h
 | some o=>cases o with
  | lst xs=>exact ⟨xs,rfl⟩
  | dic _=>rw [e] at h; cases h
theorem zg {i:Nat} {x:Str} {px apos cpos:Pos} {e:Expr} {m:Mi Rr} (hN:X.N[i]? = some x) (hv:Vis X.env.scope x) (hd:NDb x) (hcd:NCd x) (he:JE X E e m)
  (hbase:attributeBase (.Name x px) "append" X.env (eval (.Name x px) X.env) = eval (.Name x px) X.env:=by rfl)
  (hfew:((backTo cpos (starEach [e] X.env)).all (fun x=>!x.1) && (backToKw cpos (keywordEach [] X.env)).all (fun x=>x.1.isSome) && decide (([e]:List Expr).length + ([]:List Keyword).length + (if ([]:List Keyword).isEmpty then 0 else 1) < 30)) = true:=by rfl)
  (hline:(apos.endLine == cpos.line) = true:=by rfl) (hs:starEach [e] X.env = (false,eval e X.env) :: starEach [] X.env:=by rfl) (hplain:(backTo cpos (starEach [] X.env)).any (·.1) = false:=by rfl) :
  JE X E (.Call (.Attribute (.Name x px) "append" apos) [e] [] cpos) (Bw i (oj i m)) :=
 ⟨PE.weaken (KU PySem.F.plainAttrs_list PySem.F.slot_list_append PySem.F.type_list_append Fq (sJ hN hv hd hcd) (fk he.p mn hs) hbase hfew hline hs hplain) fun σ H Q h=>by
  obtain ⟨c,ρ,τ,θ,o,ρ',ek,b,em,q⟩:=h
  unfold Bw at em
  split at em
  ·rename_i hl
   obtain ⟨xs0,hl⟩:=BI hl
   obtain ⟨p,vs,hp,hH⟩:=B0 b hl
   refine ⟨_,hp,.inl ⟨rfl,vs,.inl (.inl hH)⟩,?_⟩
   refine cx ek b em (fun r v ρ1 H1 hv b1 em1=>?_) (cU q)
   cases e1:dr r ρ1 with
   | none=>simp only [e1] at em1; cases em1
   | some pr =>
    obtain ⟨a,ρ2⟩:=pr
    simp only [e1] at em1
    have b2:=Bd.dr (xs:=[]) (ss:=[]) rfl b1 hv e1
    cases e2:ck ρ2 i with
    | none=>simp only [e2] at em1; cases em1
    | some lo =>
     cases lo with
     | dic _=>simp only [e2] at em1; cases em1
     | lst xs =>
      simp only [e2] at em1
      split at em1
      ·rename_i hx
       cases em1
       obtain ⟨L,bl,ra⟩:=Bd.GG b2
       obtain ⟨p',h1,h2,h3⟩:=bl.live e2 (.lst (xs ++ [a])) (.lst ((match H1 p with | some (.lst ws)=>ws | _=>[]) ++ [v]))
       rw [hp] at h1; cases h1
       cases h2 with
       | lst e rr =>
        rename_i ws
        simp only [e] at h3
        refine ⟨p,ws,v,rfl,rfl,e,by have:=rr.len; have:=Dp; omega,q _ _ trivial (Bd.push (h3 fun H' hh=>.lst hh (rr.snoc ra)) fun _=>.non)⟩
      ·cases em1
  ·cases em⟩
def xJ (i:Nat) (mk m:Mi Rr):Ms:=eo m fun r ρ0=>if isL ρ0 i then eo mk (fun rk=>fun ρ=>match dr r ρ with
 | some (a,ρ1)=>match res ρ1 rk,ck ρ1 i with
  | some (.int k),some (.lst xs)=>match ixN xs.length k with
   | some j=>some (.nx,setAt ρ1 i (.lst (xs.set j a)))
   | none=>none
  | _,_=>none
 | none=>none) ρ0 else none
theorem BK {i:Nat} {x:Str} {px p1 pos:Pos} {ek e:Expr} {mk m:Mi Rr} (hN:X.N[i]? = some x) (hv:Vis X.env.scope x) (hd:NDb x) (hcd:NCd x) (hk:JE X E ek mk) (he:JE X E e m)
  (hp:∀ {to ti te:TE},PE X (.Name x px) to → PE X ek ti → PE X e te → PS X (.Assign [.Subscript (.Name x px) ek p1] e pos) (Ir te (NW to ti Ku))):JS X E (.Assign [.Subscript (.Name x px) ek p1] e pos) (xJ i mk m) :=
 ⟨PS.weaken (hp (sJ hN hv hd hcd) hk.p he.p) fun D σ H h=>by
  obtain ⟨c,ρ,τ,θ,f,ρ',ek,b,em,q⟩:=h
  refine qz ek b em q fun r v ρ1 H1 hv b1 em1=>?_
  split at em1
  ·rename_i hl
   obtain ⟨xs0,hl⟩:=BI hl
   obtain ⟨p,vs,hp,hH⟩:=B0 b1 hl
   refine ⟨_,hp,?_⟩
   rcases fZ em1 with ⟨rk,ρ2,e1,e2⟩ | ⟨ee,e1,e2⟩
   ·refine ⟨c,ρ1,_,_,_,ρ2,ek,b1,e1,fun w H2 hw b2=>?_⟩
    cases ef:dr r ρ2 with
    | none=>simp only [ef] at e2; cases e2
    | some pr =>
     obtain ⟨a,ρ3⟩:=pr
     simp only [ef] at e2
     have b3:Bd c σ H2 ρ3 (eP rk w (some v :: τ)) (eQ rk (.fr a :: θ.map Sl.fr)):=by
      obtain ⟨g1,g2,g3⟩:=kh rk w (eP r v τ) (eQ r (θ.map Sl.fr))
      obtain ⟨g4,g5,_⟩:=kh rk w (some v :: τ) (.fr a :: θ.map Sl.fr)
      rw [g4,g5]
      rw [g1,g2] at b2
      exact Bd.dr g3 b2 hv ef
     cases er:res ρ3 rk with
     | none=>simp only [er] at e2; cases e2
     | some ak =>
      cases ak <;> first | (simp only [er] at e2; cases e2; done) | skip
      rename_i k
      have rk':=Bd.rd b3 hw er
      cases rk'
      cases el:ck ρ3 i with
      | none=>simp only [er,el] at e2; cases e2
      | some lo =>
       cases lo with
       | dic _=>simp only [er,el] at e2; cases e2
       | lst xs =>
        simp only [er,el] at e2
        cases ej:ixN xs.length k with
        | none=>simp only [ej] at e2; cases e2
        | some j =>
         simp only [ej] at e2; cases e2
         obtain ⟨L,bl,ra⟩:=Bd.GG b3.drop
         obtain ⟨p',h1,h2,h3⟩:=bl.live el (.lst (xs.set j a)) (.lst ((match H2 p with | some (.lst ws)=>ws | _=>[]).set j v))
         rw [hp] at h1; cases h1
         cases h2 with
         | lst e rr =>
          rename_i ws
          simp only [e] at h3
          exact ⟨p,ws,k,j,rfl,rfl,e,by rw [rr.len]; exact ej,q σ _ (h3 fun H' hh=>.lst hh (rr.set ra j))⟩
   ·subst e2
    exact ⟨c,ρ1,_,_,_,ρ',ek,b1,e1,fun C H2 hm b2=>q C σ H2 hm b2.drop⟩
  ·cases em1⟩
def EZ (ρ:List Sl) (i:Nat):Bool:=match ck ρ i with
 | some (.dic _)=>true
 | _=>false
theorem EW {ρ:List Sl} {i:Nat} (h:EZ ρ i = true):∃ xs,ck ρ i = some (.dic xs):=by
 unfold EZ at h
 cases e:ck ρ i with
 | none=>rw [e] at h; cases h
 | some o=>cases o with
  | dic xs=>exact ⟨xs,rfl⟩
  | lst _=>rw [e] at h; cases h
theorem GC {c:Cn} {σ:St} {H:Hp} {ρ:List Sl} {τ:St} {θ:List Sl} {i:Nat} {xs:List (Key × A)} (b:Bd c σ H ρ τ θ) (h:ck ρ i = some (.dic xs)):∃ p vs,σ[i]? = some (some (.ref p)) ∧ H p = some (.dK vs):=by
 obtain ⟨L,b⟩:=b
 obtain ⟨p,h1,h2,_⟩:=b.live h (.dic xs) (.lst [])
 cases h2 with | dic e r=>exact ⟨p,_,h1,e⟩
def rJ (i:Nat) (mk m:Mi Rr):Ms:=eo m fun r ρ0=>if EZ ρ0 i then eo mk (fun rk=>fun ρ=>match dr r ρ with
 | some (a,ρ1)=>match res ρ1 rk,ck ρ1 i with
  | some ka,some (.dic kvs)=>match kq ka with
   | some y=>if kvs.length ≤ 100000 then some (.nx,setAt ρ1 i (.dic (xn kvs y a))) else none
   | none=>none
  | _,_=>none
 | none=>none) ρ0 else none
theorem Ai {i:Nat} {x:Str} {px p1 pos:Pos} {ek e:Expr} {mk m:Mi Rr} (hu:X.A.units + 1 < cLine) (hN:X.N[i]? = some x) (hv:Vis X.env.scope x) (hd:NDb x) (hcd:NCd x) (hk:JE X E ek mk) (he:JE X E e m)
  (hs:swapsWith e (some (.Subscript (.Name x px) ek p1)) pos.line X.env = pure false:=by rfl):JS X E (.Assign [.Subscript (.Name x px) ek p1] e pos) (rJ i mk m) :=
 ⟨PS.weaken (J8 hu (sJ hN hv hd hcd) hk.p he.p hs) fun D σ H h=>by
  obtain ⟨c,ρ,τ,θ,f,ρ',ek,b,em,q⟩:=h
  refine qz ek b em q fun r v ρ1 H1 hv b1 em1=>?_
  split at em1
  ·rename_i hl
   obtain ⟨xs0,hl⟩:=EW hl
   obtain ⟨p,vs,hp,hH⟩:=GC b1 hl
   refine ⟨_,hp,?_⟩
   rcases fZ em1 with ⟨rk,ρ2,e1,e2⟩ | ⟨ee,e1,e2⟩
   ·refine ⟨c,ρ1,_,_,_,ρ2,ek,b1,e1,fun w H2 hw b2=>?_⟩
    cases ef:dr r ρ2 with
    | none=>simp only [ef] at e2; cases e2
    | some pr =>
     obtain ⟨a,ρ3⟩:=pr
     simp only [ef] at e2
     have b3:Bd c σ H2 ρ3 (eP rk w (some v :: τ)) (eQ rk (.fr a :: θ.map Sl.fr)):=by
      obtain ⟨g1,g2,g3⟩:=kh rk w (eP r v τ) (eQ r (θ.map Sl.fr))
      obtain ⟨g4,g5,_⟩:=kh rk w (some v :: τ) (.fr a :: θ.map Sl.fr)
      rw [g4,g5]
      rw [g1,g2] at b2
      exact Bd.dr g3 b2 hv ef
     cases er:res ρ3 rk with
     | none=>simp only [er] at e2; cases e2
     | some ka =>
      have rk':=Bd.rd b3 hw er
      cases el:ck ρ3 i with
      | none=>simp only [er,el] at e2; cases e2
      | some lo =>
       cases lo with
       | lst _=>simp only [er,el] at e2; cases e2
       | dic kvs =>
        simp only [er,el] at e2
        cases ej:kq ka with
        | none=>simp only [ej] at e2; cases e2
        | some y =>
         simp only [ej] at e2
         split at e2
         ·rename_i h100
          cases e2
          obtain ⟨L,bl,ra⟩:=Bd.GG b3.drop
          obtain ⟨p',h1,h2,h3⟩:=bl.live el (.dic (xn kvs y a)) (.dK (putK (match H2 p with | some (.dK ws)=>ws | _=>[]) y v))
          rw [hp] at h1; cases h1
          cases h2 with
          | dic e rr =>
           rename_i ws
           simp only [e] at h3
           exact ⟨p,_,rfl,.inl ⟨ws,y,e,qv rk' ej,by have:=rr.len; have:=Dp; omega,rfl⟩,q σ _ (h3 fun H' hh=>.dic hh (rr.put y ra))⟩
         ·cases e2
   ·subst e2
    exact ⟨c,ρ1,_,_,_,ρ',ek,b1,e1,fun C H2 hm b2=>q C σ H2 hm b2.drop⟩
  ·cases em1⟩
def F3:Mi Rr:=fun ρ=>some (.ok (.nw (.dic [])),ρ)
theorem Jo {pos}:JE X E (.Dict [] [] pos) F3:=⟨PE.weaken GJ fun σ H Q h=>by
 obtain ⟨c,ρ,τ,θ,o,ρ',ek,b,em,q⟩:=h
 cases em
 intro p hp
 obtain ⟨L,bl⟩:=b
 exact q _ _ trivial (bl.pM hp fun G H' sm hh=>.dic hh .nil)⟩
def xk (md mk mx:Mi Rr):Mi Rr:=aT md fun d ρ0=>match res ρ0 d with
 | some (.dic _)=>aT mk (fun k=>aT mx fun x=>fun ρ=>match res ρ d,res ρ k with
  | some (.dic kvs),some ka=>match kq ka with
   | some y=>match qM kvs y with
    | some a=>some (.ok (.fr a),ρ)
    | none=>match dr x ρ with
     | some (a,ρ1)=>some (.ok (.fr a),ρ1)
     | none=>none
   | none=>none
  | _,_=>none) ρ0
 | _=>none
theorem D1 {o e f:Expr} {md mk mx:Mi Rr} {apos cpos:Pos} (hu:X.A.units + 1 < cLine) (ho:JE X E o md) (he:JE X E e mk) (hf:JE X E f mx) (m:M2 X o "get" apos e f cpos):JE X E (.Call (.Attribute o "get" apos) [e,f] [] cpos) (xk md mk mx) :=
 ⟨PE.weaken (Fz hu ho.p he.p hf.p m) fun σ H Q h=>by
  obtain ⟨c,ρ,τ,θ,o,ρ',ek,b,em,q⟩:=h
  refine cx ek b em (fun d v ρ1 H1 hv b1 em1=>?_) (cU q)
  cases e0:res ρ1 d with
  | none=>simp only [e0] at em1; cases em1
  | some a0 =>
   cases a0 <;> first | (simp only [e0] at em1; cases em1; done) | skip
   rename_i kvs0
   simp only [e0] at em1
   obtain ⟨L0,bl0,i0⟩:=Bd.open b1 hv e0
   obtain ⟨p,vs0,rfl,s0,_⟩:=i0.2.2 kvs0 rfl
   refine ⟨p,rfl,.inl ⟨vs0,s0⟩,?_⟩
   refine cx ek b1 em1 (fun k w ρ2 H2 hw b2 em2=>?_) (kI (cU q))
   refine cx ek b2 em2 (fun x z ρ3 H3 hz b3 em3=>?_) (kI (kI (cU q)))
   cases e1:res ρ3 d with
   | none=>simp only [e1] at em3; cases em3
   | some a1 =>
    cases a1 <;> first | (simp only [e1] at em3; cases em3; done) | skip
    rename_i kvs
    cases e2:res ρ3 k with
    | none=>simp only [e1,e2] at em3; cases em3
    | some ka =>
     simp only [e1,e2] at em3
     cases ey:kq ka with
     | none=>simp only [ey] at em3; cases em3
     | some y =>
      simp only [ey] at em3
      have rk:=Bd.rd b3.drop hw e2
      obtain ⟨L,bl,i1,_⟩:=Bd.DQ b3.drop hv hw e1 e2
      obtain ⟨p',vs,ep,s1,rr⟩:=i1.2.2 kvs rfl
      cases ep
      rcases rr.get y with ⟨u,a,h1,h2,h3⟩ | ⟨h1,h2⟩
      ·simp only [h2] at em3
       cases em3
       exact ⟨some u,.inl ⟨vs,y,s1,qv rk ey,h1.symm⟩,q u H3 trivial (bl.push h3)⟩
      ·simp only [h2] at em3
       cases ef:dr x ρ3 with
       | none=>simp only [ef] at em3; cases em3
       | some pr =>
        obtain ⟨a,ρ4⟩:=pr
        simp only [ef] at em3
        cases em3
        have b4:=Bd.dr (xs:=[]) (ss:=[]) rfl b3 hz ef
        refine ⟨none,.inl ⟨vs,y,s1,qv rk ey,h1.symm⟩,q z H3 trivial ?_⟩
        obtain ⟨g1,g2,g3⟩:=kh k w (eP d (.ref p) τ) (eQ d θ)
        obtain ⟨g4,g5,g6⟩:=kh d (.ref p) τ θ
        have b4:Bd c σ H3 ρ' (some z :: ((eP k w [] ++ eP d (.ref p) []) ++ τ)) (.fr a :: ((eQ k [] ++ eQ d []) ++ θ)):=by
         have:=b4
         rw [g1,g4,g2,g5] at this
         simpa [List.append_assoc] using this
        exact Bd.Dj (by simp [g3,g6]) b4⟩
def p7 (x:Str) (m:Mi (List Rr)):Ms:=eo m fun rs ρ=>if rs.length ≤ 10 then some (.ex x,ρ) else none
theorem Hg {x:Str} {C:Addr} {e:Expr} {es:List Expr} {m:Mi (List Rr)} {np cpos pos:Pos} (xc:Xc X E) (hc:X.calm = true) (hg:Gl X x) (hm:X.mg x = some (.ref C)) (hex:PySem.W.excIn X.K C D3 "ValueError.__new__" = true) (ha:JA X E (e :: es) m) (hd:NDb x)
  (he:starEach (e :: es) X.env = (false,eval e X.env) :: starEach es X.env:=by rfl) (hpl:(backTo cpos (starEach es X.env)).any (·.1) = false:=by rfl):JS X E (.Raise (some (.Call (.Name x np) (e :: es) [] cpos)) none pos) (p7 x m) :=
 ⟨PS.weaken (Hu xc hc hg hm hex ha.p hd he hpl) fun D σ H h=>by
  obtain ⟨c,ρ,τ,θ,f,ρ',ek,b,em,q⟩:=h
  rcases fZ em with ⟨rs,ρ1,e1,e2⟩ | ⟨ee,e1,e2⟩
  ·split at e2
   ·rename_i hl
    cases e2
    exact ⟨c,ρ,τ,_,_,_,ek,b,e1,fun vs H1 hv b1=>⟨by have:=hv.len; have:=wC; omega,q C σ H1 hm (Bd.drops hv.len b1)⟩⟩
   ·cases e2
  ·subst e2
   exact ⟨c,ρ,τ,_,_,ρ',ek,b,e1,fun C' H1 hm' b1=>q C' σ H1 hm' b1⟩⟩
end
end M
namespace M
open PySem L2
def leS (a b:Str):Bool:=!PySem.Spec.ltCps b.cps.toList a.cps.toList
def bW (l:List Str):List Str:=l.mergeSort leS
theorem xq (a b:Str):leS a b = decide (¬ b.cps.toList < a.cps.toList):=by
 unfold leS; rw [PyProof.Rows.ltCps_eq,decide_not]
theorem yR (a b c:Str) (h1:leS a b = true) (h2:leS b c = true):leS a c = true:=by
 rw [xq,decide_eq_true_eq] at *
 intro h
 exact (PyProof.Rows.strKind.negTrans c.cps.toList b.cps.toList a.cps.toList (decide_eq_true h)).elim (fun h=>h2 (of_decide_eq_true h)) (fun h=>h1 (of_decide_eq_true h))
theorem Fi (a b:Str):(leS a b || leS b a) = true:=by
 rw [Bool.or_eq_true,xq,xq,decide_eq_true_eq,decide_eq_true_eq]
 by_cases h:b.cps.toList < a.cps.toList
 ·exact .inr (List.lt_asymm h)
 ·exact .inl h
theorem F6 {a b:Str} (h1:leS a b = true) (h2:leS b a = true):a = b:=by
 rw [xq,decide_eq_true_eq] at *
 have:a.cps.toList = b.cps.toList:=List.le_antisymm (List.not_lt.mp h1) (List.not_lt.mp h2)
 cases a; cases b
 simp only [PySem.Str.mk.injEq]
 exact Array.toList_inj.mp this
theorem dN (l:List Str):(bW l).Perm l:=List.mergeSort_perm l leS
theorem xb (l:List Str):(bW l).Pairwise (fun a b=>leS a b = true):=List.pairwise_mergeSort yR Fi l
theorem Dl {ss:List Str} (h:PyProof.Rows.sortedS ss = true):ss.Pairwise (fun a b=>leS a b = true):=by
 have key:∀ (l:List Str) (p:Str),PyProof.Rows.risingS p l = true → (∀ q ∈ l,leS p q = true) ∧ l.Pairwise (fun a b=>leS a b = true):=by
  intro l
  induction l with
  | nil=>intro p _; exact ⟨fun q hq=>(by cases hq),.nil⟩
  | cons q l ih =>
   intro p hp
   have hp:(!PySem.Spec.ltCps q.cps.toList p.cps.toList && PyProof.Rows.risingS q l) = true:=hp
   rw [Bool.and_eq_true] at hp
   obtain ⟨i1,i2⟩:=ih q hp.2
   refine ⟨fun r hr=>?_,List.pairwise_cons.mpr ⟨i1,i2⟩⟩
   rcases List.mem_cons.mp hr with z | z
   ·subst z; exact hp.1
   ·exact yR p q r hp.1 (i1 r z)
 cases ss with
 | nil=>exact .nil
 | cons p l =>
  obtain ⟨i1,i2⟩:=key l p h
  exact List.pairwise_cons.mpr ⟨i1,i2⟩
theorem xG {ss l:List Str} (h:PyProof.Rows.sortedS ss = true) (pm:ss.Perm l):ss = bW l :=
 (pm.trans (dN l).symm).eq_of_pairwise (fun a b _ _ h1 h2=>F6 h1 h2) (Dl h) (xb l)
def qO:List A → Option (List Str)
 | []=>some []
 | .str x :: r=>match qO r with
  | some ss=>some (x :: ss)
  | none=>none
 | _=>none
theorem u4:∀ {as:List A} {ss:List Str},qO as = some ss → as = ss.map A.str
 | [],_,h=>by cases h; rfl
 | .str x :: r,_,h=>by
  unfold qO at h
  cases e:qO r with
  | none=>simp only [e] at h; cases h
  | some ss=>simp only [e] at h; cases h; rw [u4 e]; rfl
 | .non :: _,_,h=>by cases h
 | .bl _ :: _,_,h=>by cases h
 | .int _ :: _,_,h=>by cases h
 | .tup _ :: _,_,h=>by cases h
 | .lst _ :: _,_,h=>by cases h
 | .dic _ :: _,_,h=>by cases h
 | .exc _ :: _,_,h=>by cases h
theorem wd (ss:List Str):qO (ss.map A.str) = some ss:=by
 induction ss with
 | nil=>rfl
 | cons s ss ih=>rw [List.map_cons,qO,ih]
def strKeys:List (Key × A) → Option (List Str)
 | []=>some []
 | (.inr x,_) :: r=>match strKeys r with
  | some ss=>some (x :: ss)
  | none=>none
 | _=>none
theorem pI:∀ {as:List (Key × A)} {ss:List Str},strKeys as = some ss → as.map (·.1) = ss.map Sum.inr
 | [],_,h=>by cases h; rfl
 | (.inr x,a) :: r,_,h=>by
  unfold strKeys at h
  cases e:strKeys r with
  | none=>simp only [e] at h; cases h
  | some ss=>simp only [e] at h; cases h; rw [List.map_cons,pI e]; rfl
 | (.inl _,_) :: _,_,h=>by cases h
section
variable {X:Cx} {E:XK}
def fG:A → Option Rr
 | .lst xs=>match qO xs with
  | some ss=>if ss.length < 64 then some (.nw (.lst ((bW ss).map A.str))) else none
  | none=>none
 | _=>none
theorem CN {K:Kx}:UnS K (fun v=>wa K.K [v]) fG:=by
 intro c σ H ρ τ θ x v a q Q ek hv bd e1 e3 k
 subst ek
 obtain ⟨L,bl,i1⟩:=Bd.open bd hv e1
 cases a <;> first | (cases e3; done) | skip
 rename_i xs
 unfold fG at e3
 simp only at e3
 cases es:qO xs with
 | none=>simp only [es] at e3; cases e3
 | some ss =>
  simp only [es] at e3
  split at e3
  ·rename_i h64
   cases e3
   obtain ⟨p,vs,rfl,s1,rr⟩:=i1.1 xs rfl
   rw [u4 es] at rr
   rw [rr.strs] at s1
   refine ⟨p,ss,rfl,.inl s1,h64,fun r ss' hr pm srt=>?_⟩
   rw [xG srt pm]
   exact k _ _ trivial (bl.pM hr fun G H' sm q=>.lst q (RAs.ofStrs _))
  ·cases e3
def sV:List V → Hp → VK → Prop:=fun xs H Q=>∃ (a:Addr) (kvs:List (Key × V)) (ss:List Str),xs = [.ref a] ∧ Rd H a (.dK kvs) ∧ kvs.map (·.1) = ss.map Sum.inr ∧ ss.length < 64 ∧ ∀ r ss',H r = none → ss'.Perm ss → PyProof.Rows.sortedS ss' = true → Q (.ref r) (upd H r (.lst (ss'.map V.str)))
open PySem.Spec PyProof.Rows PySem.W in
theorem zA (hc:X.calm = true):dO X (.builtin "sorted") sV:=by
 intro pins s σ H vs us Q I rv h
 obtain ⟨a,kvs,ss,rfl,hd,ek,h64,q⟩:=h
 obtain ⟨u,rfl,ru⟩:=rv.one
 cases ru
 obtain ⟨hz,lo,vs,kv,hD⟩:=L2.kO I.hok hd
 obtain ⟨ep,hat⟩:=hD.dictAt
 have ek2:vs.map (·.1) = ss.map Sum.inr:=by rw [← kv.keys]; exact ek
 have hlen:vs.length = ss.length:=by have:=congrArg List.length ek2; simpa using this
 refine Calls.call_function_entry kind_sorted plain_sorted entry_sorted (args_sorted1 _) ?_
 unfold Builtin.«sorted»
 refine wpAny_bind (m:=checkCount "sorted" 1 1 _) (wpAny_pure ?_)
 refine wpAny_bind (kdu_collect (A:=X.A.in1) (kdl_dict (knd:=bN X.prog X.w) (kvs:=vs) (ep:=ep) lo) (I.ok.hd hc) hat (by have:=L2.rQ; omega) fun h' tk acc hk hacc=>?_)
 have hS:=L2.uB ek2 hacc
 have hl2:acc.toList.length = ss.length:=by rw [Array.length_toList,hacc.1,hlen]
 refine wpAny_bind (wpAny_newList ?_ (by have:=L2.rQ; omega))
 have hoL:(h'.push (seqObj "list" acc.toList.toArray 0)).get? h'.objs.size = some (seqObj "list" acc.toList.toArray 0):=Heap.get?_push_size _ rfl
 refine wpAny_bind (wpAny_holding (wpAny_call_entry slot_list_sort ⟨_,hoL,rfl⟩ entry_list_sort (list_sort_treeK strKind_oneLt hoL hS.keysOf (fun v₁ v₂ rest e=>keyKind_strs (by rw [← e]; exact hS)) (by omega) fun st' hp hs=>⟨_,rfl,?_⟩) (args_list_sort _)))
 obtain ⟨ss',b1,b2,b3⟩:=sorted_out_str hS hp hs
 obtain ⟨e,he⟩:=sortedHeap_at (vs:=acc.toList) (n:=0) (out:=(arrOf st').map (·.2)) hoL
 have hf:∀ b o,s.heap.get? b = some o → b ≠ h'.objs.size:=fun b o z=>Nat.ne_of_lt (Heap.lt_size (hk b o z))
 refine wpAny_pure ⟨_,rfl,.ref _,_,I.Kk (t':=tk) (a:=h'.objs.size) (o:=.lst (ss'.map V.str)) (fun b o z=>?_) hf ⟨?_,((arrOf st').map (·.2)).toList,e,L2.kQ b1,?_⟩,rfl,q _ ss' (I.Ab hf) b2 b3⟩
 ·rw [sortedHeap_old (hf b o z) (by rw [size_push']; exact Nat.lt_succ_of_lt (Heap.lt_size (hk b o z)))]
  exact Heap.get?_push_of_some _ (hk b o z)
 ·rw [List.length_map,b2.length_eq]
  exact Nat.le_trans (Nat.le_of_lt h64) L2.rQ
 ·rw [Array.toArray_toList]
  exact he
def jA:A → Option Rr
 | .dic kvs=>match strKeys kvs with
  | some ss=>if ss.length < 64 then some (.nw (.lst ((bW ss).map A.str))) else none
  | none=>none
 | _=>none
theorem CT {K:Kx}:UnS K (fun v=>sV [v]) jA:=by
 intro c σ H ρ τ θ x v a q Q ek hv bd e1 e3 k
 subst ek
 obtain ⟨L,bl,i1⟩:=Bd.open bd hv e1
 cases a <;> first | (cases e3; done) | skip
 rename_i kvs
 unfold jA at e3
 simp only at e3
 cases es:strKeys kvs with
 | none=>simp only [es] at e3; cases e3
 | some ss =>
  simp only [es] at e3
  split at e3
  ·rename_i h64
   cases e3
   obtain ⟨p,vs,rfl,s1,rr⟩:=i1.2.2 kvs rfl
   refine ⟨p,vs,ss,rfl,s1,by rw [rr.keys,pI es],h64,fun r ss' hr pm srt=>?_⟩
   rw [xG srt pm]
   exact k _ _ trivial (bl.pM hr fun G H' sm q=>.lst q (RAs.ofStrs _))
  ·cases e3
def gOr (f g:A → Option Rr):A → Option Rr:=fun a=>match f a with
 | some r=>some r
 | none=>g a
theorem UnS.or {K:Kx} {r r':V → Hp → VK → Prop} {f g:A → Option Rr} (h:UnS K r f) (h':UnS K r' g):UnS K (fun v H Q=>r v H Q ∨ r' v H Q) (gOr f g):=by
 intro c σ H ρ τ θ x v a q Q ek hv bd e1 e3 k
 unfold gOr at e3
 cases e:f a with
 | some z=>simp only [e] at e3; cases e3; exact .inl (h c σ H ρ τ θ x v a _ Q ek hv bd e1 e k)
 | none=>simp only [e] at e3; exact .inr (h' c σ H ρ τ θ x v a _ Q ek hv bd e1 e3 k)
theorem nE (hc:X.calm = true):dO X (.builtin "sorted") (fun xs H Q=>wa X.K xs H Q ∨ sV xs H Q):=dO.or' (Ag hc) (zA hc)
theorem vg {K:Kx}:UnS K (fun v H Q=>wa K.K [v] H Q ∨ sV [v] H Q) (gOr fG jA):=CN.or CT
def AS:List V → Hp → VK → Prop:=fun vs H Q=>∃ (a:Addr) (kvs:List (Key × V)) (ss:List Str),vs = [.ref a] ∧ Rd H a (.dK kvs) ∧ kvs.map (·.1) = ss.map Sum.inr ∧ ∀ r,H r = none → Q (.ref r) (upd H r (.lst (ss.map V.str)))
open PySem.Spec PyProof.Rows PySem.W in
theorem Ca (hc:X.calm = true):dO X (.type "list") AS:=by
 intro pins s σ H vs us Q I rv h
 obtain ⟨a,kvs,ss,rfl,hd,ek,q⟩:=h
 obtain ⟨u,rfl,ru⟩:=rv.one
 cases ru
 obtain ⟨hz,lo,vs,kv,hD⟩:=L2.kO I.hok hd
 obtain ⟨ep,hat⟩:=hD.dictAt
 have ek2:vs.map (·.1) = ss.map Sum.inr:=by rw [← kv.keys]; exact ek
 have hlen:kvs.length = vs.length:=by have:=congrArg List.length kv.keys; simpa using this
 refine kdl_call (kdl_dict (knd:=bN X.prog X.w) (kvs:=vs) (ep:=ep) lo) (I.ok.hd hc) hat (by rw [← hlen]; exact hz) fun h' tk acc c' hk hD' hacc=>?_
 have hS:=L2.uB ek2 hacc
 refine ⟨.ref _,_,I.laid (t':=tk) (o:=.lst (ss.map V.str)) hk (Nat.le_refl _) ⟨?_,acc.toList,c',L2.kQ hS,?_⟩,rfl,q _ I.fresh⟩
 ·have:=congrArg List.length ek
  rw [List.length_map,List.length_map] at this
  rw [List.length_map,← this]
  exact hz
 ·rw [Array.toArray_toList]
  exact hD'
def uX:A → Option Rr
 | .dic kvs=>match strKeys kvs with
  | some ss=>some (.nw (.lst (ss.map A.str)))
  | none=>none
 | _=>none
theorem Hz {K:Kx}:UnS K (fun v=>AS [v]) uX:=by
 intro c σ H ρ τ θ x v a q Q ek hv bd e1 e3 k
 subst ek
 obtain ⟨L,bl,i1⟩:=Bd.open bd hv e1
 cases a <;> first | (cases e3; done) | skip
 rename_i kvs
 unfold uX at e3
 simp only at e3
 cases es:strKeys kvs with
 | none=>simp only [es] at e3; cases e3
 | some ss =>
  simp only [es] at e3
  cases e3
  obtain ⟨p,vs,rfl,s1,rr⟩:=i1.2.2 kvs rfl
  exact ⟨p,vs,ss,rfl,s1,by rw [rr.keys,pI es],fun r hr=>k _ _ trivial (bl.pM hr fun G H' sm q=>.lst q (RAs.ofStrs _))⟩
theorem CH (hc:X.calm = true):dO X (.type "list") (fun xs H Q=>(∃ p ys,xs = [V.ref p] ∧ (SqL X.K H p ys ∨ SqT X.K H p ys) ∧ ∀ l,H l = none → Q (.ref l) (upd H l (.lst ys))) ∨ AS xs H Q):=dO.or' zC (Ca hc)
theorem Hx {K:Kx}:UnS K (fun v H Q=>(∃ p ys,[v] = [V.ref p] ∧ (SqL K.K H p ys ∨ SqT K.K H p ys) ∧ ∀ l,H l = none → Q (.ref l) (upd H l (.lst ys))) ∨ AS [v] H Q) (gOr zi uX):=Jy.or Hz
def A9:List V → Hp → VK → Prop:=fun vs H Q=>∃ (a:Addr) (kvs:List (Key × V)),vs = [.ref a] ∧ Rd H a (.dK kvs) ∧ ∀ r,H r = none → Q (.ref r) (upd H r (.dK kvs))
theorem CS:dO X (.type "dict") A9:=by
 intro pins s σ H vs us Q I rv h
 obtain ⟨a,kvs,rfl,hd,q⟩:=h
 obtain ⟨u,rfl,ru⟩:=rv.one
 cases ru
 exact FV I hd fun p s' hp I'=>⟨.ref p,_,I',rfl,q p hp⟩
def kY:A → Option Rr
 | .dic kvs=>some (.nw (.dic kvs))
 | _=>none
theorem FI {K:Kx}:UnS K (fun v=>A9 [v]) kY:=by
 intro c σ H ρ τ θ x v a q Q ek hv bd e1 e3 k
 subst ek
 obtain ⟨L,bl,i1⟩:=Bd.open bd hv e1
 cases a <;> first | (cases e3; done) | skip
 rename_i kvs
 cases e3
 obtain ⟨p,vs,rfl,s1,rr⟩:=i1.2.2 kvs rfl
 exact ⟨p,vs,rfl,s1,fun r hr=>k _ _ trivial (bl.pM hr fun G H' sm q=>.dic q (rr.sm sm))⟩
end
end M
namespace M
open PySem L2
theorem BdL.Oi {c:Cn} {σ:St} {H:Hp} {ρ:List Sl} {τ:St} {θ:List Sl} {L:List Addr} {v w:V} {a b:A} (bl:BdL c σ H ρ τ θ L) (h1:RA c.toKx (c.g H L) v a) (h2:RA c.toKx (c.g H L) w b):Bd c σ H ρ (some v :: some w :: τ) (.fr a :: .fr b :: θ) :=
 ⟨L,bl.nd,aU.cons (L:=[]) (.fr h1) (aU.cons (L:=[]) (.fr h2) bl.rel),bl.own,bl.fr,bl.kp,by simp [bl.lt],bl.hd⟩
section
variable {X:Cx} {E:XK}
def DG (K:PySem.W.Frag):V → List V → Hp → VK → Prop:=fun x vs H Q=>∃ (sep:Str) (l:Addr) (ss:List Str),x = .str sep ∧ vs = [.ref l] ∧ SqL K H l (ss.map V.str) ∧ kZ ss + ss.length * sep.length ≤ 100000 ∧ Q (.str (Builtin.Str.glued sep ss)) H
theorem wN (sep:Str):∀ (ss:List Str) (n:Nat),ss.foldl (fun (a:Nat) (z:Str)=>a + z.length + sep.length) n = n + kZ ss + ss.length * sep.length
 | [],n=>by simp [kZ]
 | z :: ss,n=>by
  rw [List.foldl_cons,wN sep ss]
  have e:kZ (z :: ss) = z.length + kZ ss:=rfl
  rw [e,List.length_cons,Nat.add_mul,Nat.one_mul]
  omega
open PySem.Spec PyProof.Rows PySem.W in
theorem G8:MtR X "str.join" (DG X.K):=by
 intro pins s σ H x vs v us Q I rx rv h
 obtain ⟨sep,l,ss,rfl,rfl,hq,hl,q⟩:=h
 obtain ⟨t,rfl⟩:=rx
 obtain ⟨u,rfl,ru⟩:=rv.one
 cases ru
 obtain ⟨its,r,p,hz⟩:=I.list hq
 obtain ⟨ps,rfl,e2⟩:=L2.rl (L2.xR r)
 have h1000:=Dp
 have hlong:Builtin.Str.tooLong ((ps.map (·.1)).toArray.foldl (· + ·.length + sep.length) 0) = false:=by
  have e:(ps.map (·.1)).toArray.foldl (fun (a:Nat) (z:Str)=>a + z.length + sep.length) 0 = kZ ss + ss.length * sep.length:=by
   rw [List.foldl_toArray,wN,e2,Nat.zero_add]
  unfold Builtin.Str.tooLong
  rw [e]
  exact decide_eq_false (by omega)
 refine call_meets F.slot_str_join (typeIs_str _ _ _) F.entry_str_join (F.args_str_join_2 _ _) (meets_str_join_list sep t l ps hlong) ⟨p.isList,?_⟩
 have hg:(Builtin.Str.glued sep ss).length ≤ kZ ss + ss.length * sep.length:=by
  rw [size_glued]
  have:(ss.length - 1) * sep.length ≤ ss.length * sep.length:=Nat.mul_le_mul_right _ (Nat.sub_le _ _)
  have e:kZ ss = (ss.map (·.length)).sum:=rfl
  omega
 have key:∀ (z:Str) (t':Tok) (k:Nat),z = Builtin.Str.glued sep ss → EP X pins σ Q (.str z t') { s with toks:=k }:=fun z t' k e=>⟨.str z,H,I.tok _,⟨t',rfl⟩,by rw [e]; exact q⟩
 have fin:(Made.str (Builtin.Str.glued sep (ps.map (·.1)))).post (fun v s'=>EP X pins σ Q v s') s:=⟨by rw [e2]; omega,key _ _ _ (by rw [e2])⟩
 cases ps with
 | nil=>exact fin
 | cons a ps =>
  cases ps with
  | nil =>
   subst e2
   exact key a.1 a.2 s.toks rfl
  | cons b ps=>exact fin
def mS0 (f:Str → Option Rr) (mo:Mi Rr):Mi Rr:=aT mo fun x ρ=>match x with
 | .fr (.str z)=>match f z with
  | some r=>some (.ok r,ρ)
  | none=>none
 | _=>none
def mS1 (f:Str → A → Option Rr) (mo m:Mi Rr):Mi Rr:=aT mo fun x ρ0=>match x with
 | .fr (.str z)=>aT m (fun y ρ=>match res ρ y with
  | some a=>match f z a with
   | some r=>some (.ok r,ρ)
   | none=>none
  | none=>none) ρ0
 | _=>none
theorem Ke {r:V → List V → Hp → VK → Prop} {f:Str → A → Option Rr} {mo m:Mi Rr} (hf:∀ z,UnS (kx X) (fun w=>r (.str z) [w]) (f z)) (σ:St) (H:Hp) (Q:VK) (h:TEm (kx X) E (mS1 f mo m) σ H Q) :
  TEm (kx X) E mo σ H fun x H1=>tyV X.K "str" x H1 ∧ TEm (kx X) E m σ H1 fun y H2=>r x [y] H2 Q:=by
 obtain ⟨c,ρ,τ,θ,o,ρ',ek,b,em,q⟩:=h
 refine cx ek b em (fun x v ρ1 H1 hv b1 em1=>?_) (cU q)
 cases x with
 | rf i=>cases em1
 | nw o=>cases em1
 | fr a =>
  cases a <;> first | (cases em1; done) | skip
  rename_i z
  have r1:=Bd.top b1 (a:=.str z) rfl
  cases r1
  refine ⟨rfl,?_⟩
  refine cx ek b1.pop em1 (fun y w ρ2 H2 hw b2 em2=>?_) (cU q)
  obtain ⟨a,r,e1,e3,rfl,rfl⟩:=Av em2
  exact hf z c σ H2 _ τ θ y w a r Q ek hw b2 e1 e3 q
def xy (sep:Str):A → Option Rr
 | .lst xs=>match qO xs with
  | some ss=>if kZ ss + ss.length * sep.length ≤ 100000 then some (.fr (.str (Builtin.Str.glued sep ss))) else none
  | none=>none
 | _=>none
theorem IS {K:Kx} (sep:Str):UnS K (fun w=>DG K.K (.str sep) [w]) (xy sep):=.scalar fun H v a q r1 h=>by
 cases a <;> first | (cases h; done) | skip
 rename_i xs
 unfold xy at h
 simp only at h
 cases es:qO xs with
 | none=>simp only [es] at h; cases h
 | some ss =>
  simp only [es] at h
  split at h
  ·rename_i hl
   cases h
   cases r1 with
   | lst e r =>
    rw [u4 es] at r
    rw [r.strs] at e
    exact ⟨_,_,rfl,fun _=>.str _,fun Q k=>⟨sep,_,ss,rfl,rfl,e,hl,k⟩⟩
  ·cases h
theorem Jb {o e:Expr} {mo m:Mi Rr} {apos cpos:Pos} (ho:JE X E o mo) (he:JE X E e m) (hp:∀ {to te:TE},PE X o to → PE X e te → PE X (.Call (.Attribute o "join" apos) [e] [] cpos) (tBM X.K "str" (DG X.K) to (KD te Od))) :
  JE X E (.Call (.Attribute o "join" apos) [e] [] cpos) (mS1 xy mo m):=⟨PE.weaken (hp ho.p he.p) fun σ H Q h=>Ke IS σ H Q h⟩
def js:Mi (Option Int):=i4 none
def qu (m:Mi Rr):Mi (Option Int):=aT m fun r ρ=>match res ρ r with
 | some (.int i)=>some (.ok (some i),ρ)
 | _=>none
def OG (K:Kx) (E:XK) (c:Cn) (σ:St) (ρ:List Sl) (τ:St) (θ:List Sl) (Q:Option Int → Hp → Prop):Except Str (Option Int) → Prop
 | .ok i=>∀ H,Bd c σ H ρ τ θ → Q i H
 | .error x=>∀ C H,K.mg x = some (.ref C) → Bd c σ H ρ τ θ → E (.ref C) none H
def TOm (K:Kx) (E:XK) (m:Mi (Option Int)):TO:=fun σ H Q=>∃ (c:Cn) (ρ:List Sl) (τ:St) (θ:List Sl) (o:Except Str (Option Int)) (ρ':List Sl),c.toKx = K ∧ Bd c σ H ρ τ θ ∧ m ρ = some (o,ρ') ∧ OG K E c σ ρ' τ θ Q o
structure JP (X:Cx) (E:XK) (e:Option Expr) (m:Mi (Option Int)):Prop where
 p:PO X e (TOm (kx X) E m)
theorem PO.weaken {X:Cx} {e:Option Expr} {t t':TO} (h:PO X e t) (f:∀ σ H Q,t' σ H Q → t σ H Q):PO X e t':=fun pins s σ H Q I q=>h pins s σ H Q I (f σ H Q q)
theorem Ht {c:Cn} {σ:St} {ρ':List Sl} {τ:St} {θ:List Sl} {o:Except Str (Option Int)} {Q:Option Int → Hp → Prop} (q:OG (kx X) E c σ ρ' τ θ Q o):∀ e,o = .error e → ∀ C H,X.mg e = some (.ref C) → Bd c σ H ρ' τ θ → E (.ref C) none H:=fun e ee=>by subst ee; exact q
theorem AJ:JP X E none js:=⟨PO.weaken IM fun σ H Q h=>by
 obtain ⟨c,ρ,τ,θ,o,ρ',ek,b,em,q⟩:=h
 cases em; exact q H b⟩
theorem zT {e:Expr} {m:Mi Rr} (h:JE X E e m):JP X E (some e) (qu m):=⟨PO.weaken (Jd h.p) fun σ H Q h=>by
 obtain ⟨c,ρ,τ,θ,o,ρ',ek,b,em,q⟩:=h
 refine cx ek b em (fun x v ρ1 H1 hv b1 em1=>?_) (Ht q)
 cases e1:res ρ1 x with
 | none=>simp only [e1] at em1; cases em1
 | some a =>
  have r1:=Bd.rd b1 hv e1
  cases a <;> first | (simp only [e1] at em1; cases em1; done) | skip
  simp only [e1] at em1; cases em1
  cases r1
  exact ⟨_,rfl,q H1 b1.drop⟩⟩
def Fg (xs:List A) (lo hi:Option Int):List A:=(xs.drop (HT.sIx xs.length 0 lo)).take (HT.sIx xs.length xs.length hi - HT.sIx xs.length 0 lo)
theorem FK {k:Kx} {G:Hp} {vs:List V} {as:List A} (r:RAs k G vs as) (lo hi:Option Int):RAs k G (zv vs lo hi) (Fg as lo hi):=by
 unfold zv Fg
 rw [r.len]
 exact (r.drop _).take _
def fSl (a:A) (lo hi:Option Int):Option Rr:=match a with
 | .lst xs=>some (.nw (.lst (Fg xs lo hi)))
 | .tup xs=>if HT.sIx xs.length 0 lo = 0 ∧ HT.sIx xs.length xs.length hi = xs.length then none else some (.fr (.tup (Fg xs lo hi)))
 | .str z=>if z.length ≤ 100000 then some (.fr (.str (Txt.slice z lo hi))) else none
 | _=>none
def mSl (m:Mi Rr) (ml mh:Mi (Option Int)):Mi Rr:=aT m fun x=>aT ml fun lo=>aT mh fun hi=>fun ρ=>match res ρ x with
 | some a=>match fSl a lo hi with
  | some r=>some (.ok r,ρ)
  | none=>none
 | none=>none
theorem DI {σ:St} {H:Hp} {c:Cn} {ρ ρ':List Sl} {τ:St} {θ:List Sl} {β:Type} {m:Mi (Option Int)} {f:Option Int → Mi β} {o:Except Str β} {Q:Option Int → Hp → Prop} (ek:c.toKx = kx X) (b:Bd c σ H ρ τ θ) (em:aT m f ρ = some (o,ρ'))
  (h1:∀ k ρ1 H1,Bd c σ H1 ρ1 τ θ → f k ρ1 = some (o,ρ') → Q k H1)
  (h2:∀ e,o = .error e → ∀ C H,X.mg e = some (.ref C) → Bd c σ H ρ' τ θ → E (.ref C) none H):TOm (kx X) E m σ H Q:=by
 rcases bind_some em with ⟨x,ρ1,e1,e2⟩ | ⟨e,e1,e2⟩
 ·exact ⟨c,ρ,τ,θ,_,ρ1,ek,b,e1,fun H1 b1=>h1 x ρ1 H1 b1 e2⟩
 ·exact ⟨c,ρ,τ,θ,_,ρ',ek,b,e1,fun C H1 hm b1=>h2 e e2 C H1 hm b1⟩
theorem GX {e:Expr} {lo hi:Option Expr} {m:Mi Rr} {ml mh:Mi (Option Int)} {p2 pos:Pos} (h:JE X E e m) (hl:JP X E lo ml) (hh:JP X E hi mh):JE X E (.Subscript e (.Slice lo hi none p2) pos) (mSl m ml mh) :=
 ⟨PE.weaken (Hq (L2.SlR.or Ka (L2.SlR.or Lg MC)) h.p hl.p hh.p) fun σ H Q h=>by
  obtain ⟨c,ρ,τ,θ,o,ρ',ek,b,em,q⟩:=h
  refine cx ek b em (fun x v ρ1 H1 hv b1 em1=>?_) (cU q)
  refine DI ek b1 em1 (fun l ρ2 H2 b2 em2=>?_) (kI (cU q))
  refine DI ek b2 em2 (fun u ρ3 H3 b3 em3=>?_) (kI (cU q))
  obtain ⟨a,r,e1,e3,rfl,rfl⟩:=Av em3
  have eK:c.K = X.K:=congrArg Kx.K ek
  obtain ⟨L,bl,i1⟩:=Bd.open b3 hv e1
  have r1:=Bd.rd b3 hv e1
  cases a <;> first | (cases e3; done) | skip
  ·rename_i z
   unfold fSl at e3
   simp only at e3
   split at e3
   ·rename_i hz
    cases e3; cases r1
    exact .inr (.inr ⟨z,rfl,Nat.le_trans hz wC,q _ H3 trivial (Bd.push ⟨L,bl⟩ fun _=>.str _)⟩)
   ·cases e3
  ·rename_i xs
   unfold fSl at e3
   simp only at e3
   split at e3
   ·cases e3
   ·rename_i hn
    cases e3
    obtain ⟨p,vs,rfl,s1,rr⟩:=i1.2.1 xs rfl
    refine .inr (.inl ⟨p,vs,rfl,by rw [← eK]; exact gy (g_same _ _ _) s1,by rw [rr.len]; exact hn,fun p' hp=>?_⟩)
    obtain ⟨b2,sm,np⟩:=bl.new (o:=.tup (zv vs l u)) hp
    exact q _ _ trivial (b2.push (.tup (.inl (.inl (by rw [gF np (bl.fhd hp)]; exact cR))) ((FK rr l u).sm sm)))
  ·rename_i xs
   cases e3
   obtain ⟨p,vs,rfl,s1,rr⟩:=i1.1 xs rfl
   exact .inl ⟨p,vs,rfl,by rw [← eK]; exact s1,fun p' hp=>q _ _ trivial (bl.pM hp fun G H' sm q=>.lst q ((FK rr l u).sm sm))⟩⟩
def O4 (K:Kx) (E:XK) (c:Cn) (σ:St) (ρ:List Sl) (τ:St) (θ:List Sl) (Q:List Str → Hp → Prop):Except Str (List Str) → Prop
 | .ok zs=>∀ H,Bd c σ H ρ τ θ → Q zs H
 | .error x=>∀ C H,K.mg x = some (.ref C) → Bd c σ H ρ τ θ → E (.ref C) none H
def TJm (K:Kx) (E:XK) (m:Mi (List Str)):TJ:=fun σ H Q=>∃ (c:Cn) (ρ:List Sl) (τ:St) (θ:List Sl) (o:Except Str (List Str)) (ρ':List Sl),c.toKx = K ∧ Bd c σ H ρ τ θ ∧ m ρ = some (o,ρ') ∧ O4 K E c σ ρ' τ θ Q o
structure JJ (X:Cx) (E:XK) (es:List Expr) (m:Mi (List Str)):Prop where
 p:PJ X es (TJm (kx X) E m)
theorem PJ.weaken {X:Cx} {e:List Expr} {t t':TJ} (h:PJ X e t) (f:∀ σ H Q,t' σ H Q → t σ H Q):PJ X e t':=fun out pins s σ H Q hl I q=>h out pins s σ H Q hl I (f σ H _ q)
theorem HC {c:Cn} {σ:St} {ρ':List Sl} {τ:St} {θ:List Sl} {o:Except Str (List Str)} {Q:List Str → Hp → Prop} (q:O4 (kx X) E c σ ρ' τ θ Q o):∀ e,o = .error e → ∀ C H,X.mg e = some (.ref C) → Bd c σ H ρ' τ θ → E (.ref C) none H:=fun e ee=>by subst ee; exact q
def mJ (m:Mi Rr) (n:Mi (List Str)):Mi (List Str):=aT m fun x ρ0=>match x with
 | .fr (.str z)=>if z.length ≤ 1000 then aT n (fun zs=>i4 (z :: zs)) ρ0 else none
 | _=>none
theorem HE:JJ X E [] (i4 []):=⟨PJ.weaken Ld fun σ H Q h=>by
 obtain ⟨c,ρ,τ,θ,o,ρ',ek,b,em,q⟩:=h
 cases em; exact q H b⟩
theorem tw {e:Expr} {es:List Expr} {m:Mi Rr} {n:Mi (List Str)} (h1:JE X E e m) (h2:JJ X E es n) (hs:evalEach (e :: es) X.env = eval e X.env :: evalEach es X.env:=by rfl):JJ X E (e :: es) (mJ m n):=⟨PJ.weaken (IK h1.p h2.p hs) fun σ H Q h=>by
 obtain ⟨c,ρ,τ,θ,o,ρ',ek,b,em,q⟩:=h
 refine cx ek b em (fun x v ρ1 H1 hv b1 em1=>?_) (HC q)
 cases x with
 | rf i=>cases em1
 | nw o=>cases em1
 | fr a =>
  cases a <;> first | (cases em1; done) | skip
  rename_i z
  simp only at em1
  split at em1
  ·rename_i hz
   have r1:=Bd.top b1 (a:=.str z) rfl
   cases r1
   refine ⟨z,rfl,hz,?_⟩
   rcases bind_some em1 with ⟨zs,ρ2,e1,e2⟩ | ⟨e,e1,e2⟩
   ·cases e2
    exact ⟨c,ρ1,τ,θ,_,ρ',ek,b1.pop,e1,fun H2 b2=>q H2 b2⟩
   ·subst e2
    exact ⟨c,ρ1,τ,θ,_,ρ',ek,b1.pop,e1,fun C H2 hm b2=>q C H2 hm b2⟩
  ·cases em1⟩
def mFv (m:Mi Rr):Mi Rr:=aT m fun x ρ=>match x with
 | .fr (.str z)=>if z.length ≤ 1000 then some (.ok (.fr (.str z)),ρ) else none
 | _=>none
theorem Gf {e:Expr} {m:Mi Rr} {pos:Pos} (h1:JE X E e m):JE X E (.FormattedValue e (-1) none pos) (mFv m):=⟨PE.weaken (Ny h1.p) fun σ H Q h=>by
 obtain ⟨c,ρ,τ,θ,o,ρ',ek,b,em,q⟩:=h
 refine cx ek b em (fun x v ρ1 H1 hv b1 em1=>?_) (cU q)
 cases x with
 | rf i=>cases em1
 | nw o=>cases em1
 | fr a =>
  cases a <;> first | (cases em1; done) | skip
  rename_i z
  simp only at em1
  split at em1
  ·rename_i hz
   have r1:=Bd.top b1 (a:=.str z) rfl
   cases r1
   cases em1
   exact ⟨z,rfl,hz,q _ H1 trivial b1⟩
  ·cases em1⟩
def mJs (m:Mi (List Str)):Mi Rr:=aT m fun zs=>i4 (.fr (.str (E9 zs)))
theorem KI {v1 v2:Expr} {es:List Expr} {m:Mi (List Str)} {pos:Pos} (h:JJ X E (v1 :: v2 :: es) m) (hl:(v1 :: v2 :: es).length ≤ 100:=by decide) (hs:evalEach (v1 :: v2 :: es) X.env = eval v1 X.env :: eval v2 X.env :: evalEach es X.env:=by rfl):JE X E (.JoinedStr (v1 :: v2 :: es) pos) (mJs m) :=
 ⟨PE.weaken (NL h.p hl hs) fun σ H Q h=>by
  obtain ⟨c,ρ,τ,θ,o,ρ',ek,b,em,q⟩:=h
  rcases bind_some em with ⟨zs,ρ1,e1,e2⟩ | ⟨e,e1,e2⟩
  ·cases e2
   exact ⟨c,ρ,τ,θ,_,ρ',ek,b,e1,fun H1 b1=>q _ H1 trivial (b1.push fun _=>.str _)⟩
  ·subst e2
   exact ⟨c,ρ,τ,θ,_,ρ',ek,b,e1,fun C H1 hm b1=>q C H1 hm b1⟩⟩
def gR (n:Nat) (gs:Mgs):Mg:=fun a ρ=>match a with
 | .lst as=>if as.length = n then gs as ρ else none
 | _=>none
theorem pz {lo:Nat} {es:List Expr} {k n:Nat} {gs:Mgs} {pos:Pos} (hc:X.calm = true) (h:JGs X lo es gs) (hn:(assignEach es X.env).length = n:=by rfl) (hst:(assignEach es X.env).findIdx? (·.1) = none:=by rfl):JG X lo (.Tuple es k pos) (gR n gs):=⟨fun pins s σ H v u Q I r h'=>by
 refine MM hc h.p hn hst pins s σ H v u Q I r ?_
 obtain ⟨c,ρ,τ,θ,a,ρ',ek,b,em,q⟩:=h'
 cases a <;> first | (cases em; done) | skip
 rename_i as
 unfold gR at em
 simp only at em
 split at em
 ·rename_i hl
  obtain ⟨L,bl,i1⟩:=Bd.open (r:=.fr (.lst as)) b trivial rfl
  obtain ⟨p,vs,rfl,s1,rr⟩:=i1.1 as rfl
  have:c.K = X.K:=congrArg Kx.K ek
  refine ⟨p,vs,rfl,by rw [← this]; exact s1,by rw [rr.len]; exact hl,c,ρ,τ,θ,as,ρ',ek,rr.len,?_,em,q⟩
  obtain ⟨nd,rel,own,fr,kp,lt,hdd⟩:=bl
  exact ⟨L,nd,by have:=(aU.frs (H:=H) rr).app rel; simpa [List.append_assoc] using this,own,fr,kp,by simp [lt,rr.len],hdd⟩
 ·cases em⟩
def mr (f g:Mg):Mg:=fun a ρ=>match f a ρ with
 | some r=>some r
 | none=>g a ρ
theorem vQ {lo:Nat} {tg:Expr} {f g:Mg} (h:JG X lo tg f) (h':JG X lo tg g):JG X lo tg (mr f g):=⟨fun pins s σ H v u Q I r h0=>by
 obtain ⟨c,ρ,τ,θ,a,ρ',ek,b,em,q⟩:=h0
 unfold mr at em
 cases e:f a ρ with
 | some z=>simp only [e] at em; cases em; exact h.p pins s σ H v u Q I r ⟨c,ρ,τ,θ,a,_,ek,b,e,q⟩
 | none=>simp only [e] at em; exact h'.p pins s σ H v u Q I r ⟨c,ρ,τ,θ,a,_,ek,b,em,q⟩⟩
def Ot (m:Mi Rr) (G:Mg):Ms:=eo m fun r ρ=>match dr r ρ with
 | some (a,ρ1)=>match G a ρ1 with
  | some ρ2=>some (.nx,ρ2)
  | none=>none
 | none=>none
def HG (i j:Nat) (m:Mi (List Rr)):Ms:=eo m fun rs ρ=>match jD rs ρ with
 | some ([a,b],ρ1)=>match put i (.fr a) ρ1 with
  | some ρ2=>match put j (.fr b) ρ2 with
   | some ρ3=>some (.nx,ρ3)
   | none=>none
  | none=>none
 | _=>none
theorem LW {s:Stmt} {i j:Nat} {es:List Expr} {m:Mi (List Rr)} (ha:JA X E es m) (hij:i ≠ j) (hp:∀ {ta:TA},PA X es ta → PS X s (Oz i j ta)):JS X E s (HG i j m):=⟨PS.weaken (hp ha.p) fun D σ H h=>by
 obtain ⟨c,ρ,τ,θ,f,ρ',ek,b,em,q⟩:=h
 rcases fZ em with ⟨rs,ρ1,e1,e2⟩ | ⟨e,e1,e2⟩
 ·refine ⟨c,ρ,τ,_,_,ρ1,ek,b,e1,fun vs H1 hv b1=>?_⟩
  cases ef:jD rs ρ1 with
  | none=>simp only [ef] at e2; cases e2
  | some p =>
   obtain ⟨as,ρ2⟩:=p
   obtain ⟨b2,l2⟩:=Bd.jD hv b1 ef
   match as,ef,e2,b2,l2 with
   | [a,d],ef,e2,b2,l2 =>
    simp only [ef] at e2
    match vs,b2,l2 with
    | [v,w],b2,_ =>
     cases e3:put i (.fr a) ρ2 with
     | none=>simp only [e3] at e2; cases e2
     | some ρ3 =>
      simp only [e3] at e2
      cases e4:put j (.fr d) ρ3 with
      | none=>simp only [e4] at e2; cases e2
      | some ρ4 =>
       simp only [e4] at e2; cases e2
       refine ⟨v,w,rfl,q _ H1 ?_⟩
       have b3:Bd c σ H1 ρ2 (some w :: some v :: τ) (.fr d :: .fr a :: θ.map Sl.fr):=by simpa using b2
       have b4:Bd c σ H1 ρ2 (some v :: some w :: τ) (.fr a :: .fr d :: θ.map Sl.fr):=by
        obtain ⟨L,bl,ra⟩:=Bd.frs (vs:=[w,v]) (as:=[d,a]) b3 rfl
        cases ra with | cons h1 ra=>cases ra with | cons h2 _ =>
        have:=bl.push h1
        obtain ⟨L',bl',ra'⟩:=Bd.GG this
        exact BdL.Oi bl h2 h1
       exact Bd.put (Bd.put b4 (fun o z=>by cases z) e3) (fun o z=>by cases z) e4
   | [],ef,e2,_,_=>simp only [ef] at e2; cases e2
   | [_],ef,e2,_,_=>simp only [ef] at e2; cases e2
   | _ :: _ :: _ :: _,ef,e2,_,_=>simp only [ef] at e2; cases e2
 ·subst e2
  exact ⟨c,ρ,τ,_,_,ρ',ek,b,e1,fun C H1 hm b1=>q C σ H1 hm b1⟩⟩
end
end M
namespace M
open PySem L2
section
variable {X:Cx} {E:XK} {a b:Expr} {ma mb:Mi Rr} {pos:Pos}
abbrev fX:=fOr DV (fOr Cp Bs)
abbrev fi:=fOr Cs BL
theorem eC (ha:JE X E a ma) (hb:JE X E b mb):JE X E (.BinOp a .Add b pos) (mOp fX ma mb):=yS (OpR.or' Li (OpR.or' CM Ij)) (Jl.or (Jp.or Jz)) ha hb
theorem xT (ha:JE X E a ma) (hb:JE X E b mb):JE X E (.BinOp a .Sub b pos) (mOp zw ma mb):=yS Lj LD ha hb
theorem dm (ha:JE X E a ma) (hb:JE X E b mb):JE X E (.BinOp a .Mult b pos) (mOp fi ma mb):=yS (OpR.or' Iw Iq) (Ih.or IA) ha hb
theorem sx (ha:JE X E a ma) (hb:JE X E b mb):JE X E (.BinOp a .FloorDiv b pos) (mOp uj ma mb):=yS F2 Nd ha hb
theorem pq (ha:JE X E a ma) (hb:JE X E b mb):JE X E (.BinOp a .Mod b pos) (mOp nh ma mb):=yS Ii MU ha hb
theorem zX (ha:JE X E a ma) (hb:JE X E b mb):JE X E (.BinOp a .Pow b pos) (mOp AQ ma mb):=yS MW Ni ha hb
theorem FO (hu:X.A.units + 64 < cLine) (ha:JE X E a ma) (hb:JE X E b mb):JE X E (.Compare a [.Eq] [b] pos) (mOp fEq ma mb):=C2 (FG hu) os_eq ha hb (pK _)
theorem N7 (ha:JE X E a ma) (hb:JE X E b mb):JE X E (.Compare a [.Gt] [b] pos) (mOp fGt ma mb):=C2 KZ KQ ha hb (pK _)
theorem OF (ha:JE X E a ma) (hb:JE X E b mb):JE X E (.Compare a [.GtE] [b] pos) (mOp fGe ma mb):=C2 OC Oa ha hb (pK _)
theorem EH (hu:X.A.units + 64 < cLine) (ha:JE X E a ma) (hb:JE X E b mb):JT X E (.Compare a [.Eq] [b] pos) (aK (mOp fEq ma mb)):=sP (FG hu) os_eq ha hb (pK _)
theorem qY (hu:X.A.units + 64 < cLine) (ha:JE X E a ma) (hb:JE X E b mb):JT X E (.Compare a [.NotEq] [b] pos) (aK (mOp fNe ma mb)):=sP (GH hu) KW ha hb (pK _)
theorem Gm (ha:JE X E a ma) (hb:JE X E b mb):JT X E (.Compare a [.Lt] [b] pos) (aK (mOp fLt ma mb)):=sP OJ OZ ha hb (pK _)
theorem Ky (ha:JE X E a ma) (hb:JE X E b mb):JT X E (.Compare a [.Gt] [b] pos) (aK (mOp fGt ma mb)):=sP KZ KQ ha hb (pK _)
theorem FA {k:Kx} {p:Addr} {i j:Int} (h:∀ H,SqT k.K H p [.int i,.int j]):∀ G,RA k G (.ref p) (.tup [.int i,.int j]):=fun G=>.tup (h G) (.cons (.int _) (.cons (.int _) .nil))
end
def BIG:Nat:=2 ^ 10000
def Fx (K:PySem.W.Frag):Sp:=fun vs H Q _=>∃ (p:Addr) (ns:List Int),vs = [.ref p] ∧ SqL K H p (ns.map V.int) ∧ ns.length ≤ 63 ∧ ∀ H',Q (.bl true) H'
theorem Ep {k:Kx} {G:Hp}:∀ (ns:List Int),RAs k G (ns.map V.int) (ns.map A.int)
 | []=>.nil
 | n :: ns=>.cons (.int n) (Ep ns)
theorem Ma {P:Program} {w:World} {K:PySem.W.Frag} {mg:Str → Option Value} {base:Heap} {CX:CXT} {k:Nat} {f:Addr} {fd:FuncData} {ps:List Str} {m:Ms} (F:dw P w K mg base CX k f fd ps (SpM ⟨K,mg⟩ 1 m))
  (h:∀ ns:List Int,ns.length ≤ 63 → ∃ ρ,m [.fr (.lst (ns.map A.int))] = some (.rt (.fr (.bl true)),ρ)):dw P w K mg base CX k f fd ps (Fx K) :=
 F.imp fun vs H Q E q=>by
  obtain ⟨p,ns,rfl,hs,hl,q⟩:=q
  obtain ⟨ρ,e⟩:=h ns hl
  let c:Cn:={ K:=K,mg:=mg,σ0:=[some (.ref p)],H0:=H,Lp:=[],Hd:=[],Wk:=[] }
  refine ⟨rfl,c,_,_,ρ,rfl,rfl,rfl,⟨.nil,aU.cons (L:=[]) (.fr (.lst (AV (Sq.of fun b o e=>?_) hs) (Ep ns))) .nil,fun p hp=>(by cases hp),⟨fun b o e=>⟨o,e,fun _ _=>rfl⟩,fun q hq=>(by cases hq)⟩,fun i o _=>rfl,rfl,fun q hq=>(by cases hq)⟩,e,fun v H' _ b=>?_⟩
  ·rw [gF (c:=c) (fun z=>by cases z) (fun z=>by cases z)]; exact e
  ·have r:=Bd.top b (a:=.bl true) rfl
   cases r
   exact q H'
def mFz (m:Mi Rr):Mi Rr:=aT m fun r ρ=>match dr r ρ with
 | some (a,ρ')=>some (.ok (.fr a),ρ')
 | none=>none
theorem Kl {X:Cx} {E:XK} {e:Expr} {m:Mi Rr} (he:JE X E e m):JE X E e (mFz m):=⟨PE.weaken he.p fun σ H Q h=>by
 obtain ⟨c,ρ,τ,θ,o,ρ',ek,b,em,q⟩:=h
 refine cx ek b em (fun x v ρ1 H1 hv b1 em1=>?_) (cU q)
 cases e1:dr x ρ1 with
 | none=>simp only [e1] at em1; cases em1
 | some p =>
  obtain ⟨a,ρ2⟩:=p
  simp only [e1] at em1
  cases em1
  exact q v H1 trivial (Bd.dr (xs:=[]) (ss:=[]) rfl b1 hv e1)⟩
end M
namespace M
open PySem L2
section
variable {X:Cx} {E:XK}
inductive Ty where | bool | int | str | tuple | list | dict
 deriving DecidableEq
def Ty.n:Ty → String
 | .bool => "bool" | .int => "int" | .str => "str" | .tuple => "tuple" | .list => "list" | .dict => "dict"
def LC (T:Ty):A → Option Bool
 | .non=>some false
 | .bl _=>some (T = .bool || T = .int)
 | .int _=>some (T = .int)
 | .str _=>some (T = .str)
 | .tup _=>some (T = .tuple)
 | .lst _=>some (T = .list)
 | _=>none
def vi (T:Ty) (a:A):Option Rr:=match LC T a with
 | some k=>some (.fr (.bl k))
 | none=>none
theorem LU (K:PySem.W.Frag) (T:Ty):PySem.W.kitOne K (.type "NoneType") (.type T.n) = some false:=by cases T <;> kernel_rfl
theorem JC (K:PySem.W.Frag) (T:Ty):PySem.W.kitOne K (.type "bool") (.type T.n) = some (T = .bool || T = .int:Bool):=by cases T <;> kernel_rfl
theorem M6 (K:PySem.W.Frag) (T:Ty):PySem.W.kitOne K (.type "int") (.type T.n) = some (T = .int:Bool):=by cases T <;> kernel_rfl
theorem MH (K:PySem.W.Frag) (T:Ty):PySem.W.kitOne K (.type "str") (.type T.n) = some (T = .str:Bool):=by cases T <;> kernel_rfl
theorem Mt (K:PySem.W.Frag) (T:Ty):PySem.W.kitOne K (.type "tuple") (.type T.n) = some (T = .tuple:Bool):=by cases T <;> kernel_rfl
theorem Lv (K:PySem.W.Frag) (T:Ty):PySem.W.kitOne K (.type "list") (.type T.n) = some (T = .list:Bool):=by cases T <;> kernel_rfl
theorem MX {K:Kx} (T:Ty):UnS K (fun v H Q=>∃ x c t b,[v,V.ty T.n] = [x,c] ∧ TyX K.K H x t ∧ vK c = true ∧ PySem.W.kitOne K.K t (yF c) = some b ∧ Q (.bl b) H) (vi T):=.scalar fun H v a q r1 h=>by
 cases a <;> first | (cases h; done) | skip
 ·cases r1; cases h
  exact ⟨_,_,rfl,fun _=>.bl _,fun Q k=>⟨_,_,_,_,rfl,.of .non,rfl,LU _ T,k⟩⟩
 ·cases r1; cases h
  exact ⟨_,_,rfl,fun _=>.bl _,fun Q k=>⟨_,_,_,_,rfl,.of (.bl _),rfl,JC _ T,k⟩⟩
 ·cases r1; cases h
  exact ⟨_,_,rfl,fun _=>.bl _,fun Q k=>⟨_,_,_,_,rfl,.of (.int _),rfl,M6 _ T,k⟩⟩
 ·cases r1; cases h
  exact ⟨_,_,rfl,fun _=>.bl _,fun Q k=>⟨_,_,_,_,rfl,.of (.str _),rfl,MH _ T,k⟩⟩
 ·cases r1 with
  | tup e r=>cases h; exact ⟨_,_,rfl,fun _=>.bl _,fun Q k=>⟨_,_,_,_,rfl,.tup e,rfl,Mt _ T,k⟩⟩
 ·cases r1 with
  | lst e r=>cases h; exact ⟨_,_,rfl,fun _=>.bl _,fun Q k=>⟨_,_,_,_,rfl,.lst e,rfl,Lv _ T,k⟩⟩
theorem sO {x y:Str} {p p2 pos:Pos} {e:Expr} {m:Mi Rr} (T:Ty) (hg:Gl X x) (hm:X.mg x = none) (hv:bootBuiltins x = some (.builtin "isinstance")) (hg2:Gl X y) (hm2:X.mg y = none) (hv2:bootBuiltins y = some (.type T.n)) (ha:JE X E e m) (hn:x ≠ "__name__")
  (hdb:NDb x) (hn2:y ≠ "__name__") (hdb2:NDb y) (hs:starEach [e,.Name y p2] X.env = (false,eval e X.env) :: starEach [.Name y p2] X.env:=by rfl) (hs2:starEach [.Name y p2] X.env = (false,eval (.Name y p2) X.env) :: starEach [] X.env:=by rfl) (hp:(backTo pos (starEach [.Name y p2] X.env)).any (·.1) = false:=by rfl):JE X E (.Call (.Name x p) [e,.Name y p2] [] pos) (mB1 (vi T) m) :=
 ⟨PE.weaken (tT Bm hg hm hv (fk ha.p (fk (En hg2 hm2 hv2 (v:=.ty T.n) rfl hn2 hdb2) mn hs2) hs) hn hdb hs hp) fun σ H Q h=>tV (r:=fun v H Q=>∃ x c t b,[v,V.ty T.n] = [x,c] ∧ TyX (kx X).K H x t ∧ vK c = true ∧ PySem.W.kitOne (kx X).K t (yF c) = some b ∧ Q (.bl b) H) (MX T) σ H Q h⟩
end
end M
namespace M
open PySem L2
section
variable {X:Cx} {E:XK}
theorem Bd.Oo {c:Cn} {σ:St} {H:Hp} {ρ:List Sl} {τ:St} {θ:List Sl} {xs:St} {ss:List Sl} {v w:V} {a b:A} (e:xs.length = ss.length) (q:Bd c σ H ρ (xs ++ (some v :: some w :: τ)) (ss ++ (.fr a :: .fr b :: θ))):∃ L,BdL c σ H ρ (xs ++ (some v :: some w :: τ)) (ss ++ (.fr a :: .fr b :: θ)) L ∧ RA c.toKx (c.g H L) v a ∧ RA c.toKx (c.g H L) w b:=by
 obtain ⟨L,q⟩:=q
 have r:aU c.toKx (c.g H L) H (xs ++ (some v :: some w :: (τ ++ σ))) (ss ++ (.fr a :: .fr b :: (θ ++ ρ))) L:=by have:=q.rel; simpa [List.append_assoc] using this
 obtain ⟨L1,L2,e1,r1,r2⟩:=aU.split e r
 cases r2 with
 | cons h r3 =>
  cases r3 with
  | cons h2 r4 =>
   cases h with
   | fr h =>
    cases h2 with
    | fr h2=>exact ⟨L,q,h,h2⟩
def Cm (as bs:List A):List A:=(as.zip bs).map fun p=>.tup [p.1,p.2]
def HN (ma mb:Mi Rr):Mi (List A):=aT ma fun x=>aT mb fun y=>fun ρ=>match jD [x,y] ρ with
 | some ([.tup as,.tup bs],ρ')=>some (.ok (Cm as bs),ρ')
 | _=>none
theorem Lc {e1 e2:Expr} {m n:Mi Rr} {p pos:Pos} {es:List Expr} {kk:Nat} {tp:Pos} (hg:Gl X "zip") (hm:X.mg "zip" = none) (h1:JE X E e1 m) (h2:JE X E e2 n) (hs:starEach [e1,e2] X.env = [(false,eval e1 X.env),(false,eval e2 X.env)]:=by rfl) (hs2:starEach [e2] X.env = [(false,eval e2 X.env)]:=by rfl) (hs3:starEach [e1,e2] X.env = (false,eval e1 X.env) :: starEach [e2] X.env:=by rfl) (hs4:starEach [e2] X.env = (false,eval e2 X.env) :: starEach [] X.env:=by rfl) :
  JI X E (.Tuple es kk tp) (.Call (.Name "zip" p) [e1,e2] [] pos) (HN m n):=⟨fun pins s σ H R I h=>by
 refine MR hg hm (fk h1.p (fk h2.p mn hs4) hs3) hs hs2 pins s σ H R I ?_
 obtain ⟨c,ρ,τ,θ,o,ρ',ek,b,em,q⟩:=h
 refine cx ek b em (fun x v ρ1 H1 hv b1 em1=>?_) (tG q)
 refine cx ek b1 em1 (fun y w ρ2 H2 hw b2 em2=>?_) (kI (tG q))
 cases ef:jD [x,y] ρ2 with
 | none=>simp only [ef] at em2; cases em2
 | some pr =>
  obtain ⟨cs,ρ3⟩:=pr
  simp only [ef] at em2
  split at em2
  ·rename_i as bs ρ4 heq
   cases heq
   cases em2
   have eK:c.K = X.K:=congrArg Kx.K ek
   have b3:Bd c σ H2 _ ([some w,some v] ++ τ) ([Sl.fr (.tup bs),Sl.fr (.tup as)] ++ θ):=(Bd.jD (rs:=[x,y]) (vs:=[v,w]) ⟨hv,hw,trivial⟩ b2 ef).1
   obtain ⟨L0,bl0,w0,v0⟩:=Bd.Oo (xs:=[]) (ss:=[]) rfl b3
   cases w0 with
   | tup we wr =>
   cases v0 with
   | tup ve vr =>
   rename_i pw us pv ts
   refine ⟨pv,pw,ts,us,rfl,by rw [← eK]; exact gy (g_same _ _ _) ve,by rw [← eK]; exact gy (g_same _ _ _) we,q _ H2 [some (.ref pw),some (.ref pv)] [.tup bs,.tup as] rfl (fun c' σ' H' ρ' τx θx τ' θ' i ek' lx b'=>?_) b3⟩
   have eK':c'.K = X.K:=congrArg Kx.K ek'
   obtain ⟨L,bl,w1,v1⟩:=Bd.Oo (τ:=τ') (θ:=θ') lx b'
   cases w1 with
   | tup we wr =>
   cases v1 with
   | tup ve vr =>
   rename_i us' ts'
   have sw:SqT X.K H' pw us':=by rw [← eK']; exact gy (g_same _ _ _) we
   have sv:SqT X.K H' pv ts':=by rw [← eK']; exact gy (g_same _ _ _) ve
   refine ⟨fun hi=>⟨ts',us',sv,sw,?_⟩,fun a ha=>?_⟩
   ·unfold Cm at hi
    rw [List.length_map,List.length_zip] at hi
    by_cases z:as.length ≤ i
    ·exact .inl (List.getElem?_eq_none (by rw [vr.len]; exact z))
    ·exact .inr (List.getElem?_eq_none (by rw [wr.len]; omega))
   ·unfold Cm at ha
    rw [List.getElem?_map] at ha
    cases ez:(as.zip bs)[i]? with
    | none=>rw [ez] at ha; cases ha
    | some pr =>
     rw [ez] at ha
     cases ha
     obtain ⟨za,zb⟩:=List.getElem?_zip_eq_some.mp ez
     obtain ⟨t,g1,g2⟩:=vr.ta za
     obtain ⟨u,k1,k2⟩:=wr.ta zb
     refine ⟨⟨ts',us',t,u,sv,sw,g1,k1⟩,fun x H2 yy=>?_⟩
     obtain ⟨tt,x',y',rfl,hn,rfl,hall⟩:=yy
     obtain ⟨z1,z2⟩:=hall ts' us' sv sw
     rw [g1] at z1; cases z1
     rw [k1] at z2; cases z2
     obtain ⟨b2,sm,np⟩:=bl.new (o:=.tup [t,u]) hn
     exact b2.push (.tup (.inl (.inl (by rw [gF np (bl.fhd hn)]; exact cR))) ((RAs.cons g2 (.cons k2 .nil)).sm sm))
  ·cases em2⟩
end
end M
namespace M
open PySem L2
section
variable {c:Cn} {σ:St} {H:Hp} {ρ:List Sl} {τ:St} {θ:List Sl}
theorem Bd.unset {ρ':List Sl} {i:Nat} (b:Bd c σ H ρ τ θ) (h:M.put i .un ρ = some ρ'):Bd c (σ.set i none) H ρ' τ θ:=by
 unfold M.put at h
 have key:∀ s,ρ[i]? = some s → (∀ o,s ≠ .pv o) → ρ' = ρ.set i .un → Bd c (σ.set i none) H ρ' τ θ:=fun s e hs er=>by
  subst er
  obtain ⟨L,nd,rel,own,fr,kp,lt,hdd⟩:=b
  obtain ⟨L1,L2,e1,r1,r2⟩:=aU.split lt rel
  obtain ⟨x,M1,M2,M3,hx,hs',e2,ins⟩:=r2.at e
  subst e1 e2
  have sub:∀ a,a ∈ L1 ++ (M1 ++ [] ++ M3) → a ∈ L1 ++ (M1 ++ M2 ++ M3):=fun a ha=>by simp at ha ⊢; rcases ha with z | z | z <;> simp [z]
  have sm:Sq (c.g H (L1 ++ (M1 ++ M2 ++ M3))) (c.g H (L1 ++ (M1 ++ [] ++ M3))):=jn sub
  have hi:i < ρ.length:=(List.getElem?_eq_some_iff.mp e).1
  refine ⟨L1 ++ (M1 ++ [] ++ M3),?_,(r1.sm sm (fun _ _ _ e=>e)).app (ins sm (fun _ _ _ e=>e) (.un none)),fun q hq=>own q (sub q hq),fr,kp.set (fun o z=>?_) hi (fun o z=>by cases z),lt,hdd⟩
  ·refine nd.sublist (List.Sublist.append (List.Sublist.refl _) (List.Sublist.append ?_ (List.Sublist.refl _)))
   exact List.Sublist.append (List.Sublist.refl _) (List.nil_sublist _)
  ·rw [e] at z; exact hs o (Option.some.inj z)
 cases es:ρ[i]? with
 | none=>simp only [es] at h; cases h
 | some s =>
  cases s with
  | pv o=>simp only [es] at h; cases h
  | un=>simp only [es] at h; exact key _ es (fun o z=>by cases z) (Option.some.inj h).symm
  | fr a=>simp only [es] at h; exact key _ es (fun o z=>by cases z) (Option.some.inj h).symm
  | lv o=>simp only [es] at h; exact key _ es (fun o z=>by cases z) (Option.some.inj h).symm
end
section
variable {X:Cx} {E:XK}
def TXm (K:Kx) (m:Ms):TX:=fun D Ex σ H=>∃ (c:Cn) (ρ:List Sl) (τ:St) (θ:List A) (f:Fl) (ρ':List Sl),c.toKx = K ∧ Bd c σ H ρ τ (θ.map Sl.fr) ∧ m ρ = some (f,ρ') ∧
  (match f with
   | .ex x=>∀ C σ H,K.mg x = some (.ref C) → Bd c σ H ρ' τ (θ.map Sl.fr) → Ex (.ref C) σ H
   | f=>Ji K E00 c ρ' τ θ D f)
structure JX (X:Cx) (st:Stmt) (m:Ms):Prop where
 p:PX X st (TXm (kx X) m)
theorem PX.weaken {st:Stmt} {t t':TX} (h:PX X st t) (f:∀ D Ex σ H,t' D Ex σ H → t D Ex σ H):PX X st t':=fun pins s σ H D Ex I q=>h pins s σ H D Ex I (f D Ex σ H q)
def yM {α:Type} (m:Mi α):Mi α:=fun ρ=>match m ρ with
 | some (.ok x,ρ1)=>some (.ok x,ρ1)
 | _=>none
theorem yV {α:Type} {m:Mi α} {ρ ρ':List Sl} {o:Except Str α} (h:yM m ρ = some (o,ρ')):∃ x,o = .ok x ∧ m ρ = some (.ok x,ρ'):=by
 unfold yM at h
 cases e:m ρ with
 | none=>simp only [e] at h; cases h
 | some p =>
  obtain ⟨r,ρ1⟩:=p
  cases r with
  | ok x=>simp only [e] at h; cases h; exact ⟨x,rfl,rfl⟩
  | error x=>simp only [e] at h; cases h
theorem xp {m:Ms} {n:Nat} {ma:Mi (List Rr)} {σ:St} {H:Hp} {Q:VK} {E':XK} {c:Cn} {ρ ρ':List Sl} {τ:St} {θ:List Sl} {o:Except Str Rr} (hn:∀ ρ rs ρ',ma ρ = some (.ok rs,ρ') → rs.length + 0 = n) (ek:c.toKx = kx X) (b:Bd c σ H ρ τ θ) (em:aC m [] (yM ma) ρ = some (o,ρ'))
  (q1:∀ r,o = .ok r → ∀ v H',VR σ r v → Bd c σ H' ρ' (eP r v τ) (eQ r θ) → Q v H') (q2:∀ x,o = .error x → ∀ C H',X.mg x = some (.ref C) → Bd c σ H' ρ' τ θ → E' (.ref C) none H') :
  TAm (kx X) E00 ma σ H fun vs H1=>SpM (kx X) n m (vs ++ []) H1 Q E':=by
 rcases bind_some em with ⟨rs,ρ1,e1,e2⟩ | ⟨e,e1,e2⟩
 ·obtain ⟨x,h1,h2⟩:=yV e1
  cases h1
  refine ⟨c,ρ,τ,θ,_,ρ1,ek,b,h2,fun vs H1 hv b1=>?_⟩
  refine yX (E:=E') (dvs:=[]) (fun G=>.nil) ek ?_ hv b1 e2 q1 q2
  rw [List.append_nil,← hv.len]
  exact hn ρ rs ρ1 h2
 ·obtain ⟨x,h1,_⟩:=yV e1
  cases h1
theorem Mr {i n k:Nat} {f:Addr} {fd:FuncData} {ps:List Str} {m:Ms} {x y:Str} {p pos cpos pos':Pos} {e:Expr} {es:List Expr} {ma:Mi (List Rr)} (hN:X.N.Nodup) (hi:X.N[i]? = some y) (hx:Loc X.env.scope y) (F:dw X.prog X.w X.K X.mg X.base (CXE X.prog X.w) k f fd ps (SpM (kx X) n m)) (hr:kH k X.A) (hg:Gl X x)
  (hm:X.mg x = some (.ref f)) (hk:PySem.W.keepIn X.K (.ref f) = true) (hb:Binds X.K fd ps []) (ha:JA X.nox E00 (e :: es) ma) (hn:∀ ρ rs ρ',ma ρ = some (.ok rs,ρ') → rs.length + 0 = n) (hdb:NDb x) (hs:swapsWith (.Call (.Name x p) (e :: es) [] cpos) (some (.Name y pos')) pos.line X.env = pure false:=by rfl)
  (hf:X.fn y = true ∨ X.env.scope.names.lookup y = some .local:=by first | exact .inl rfl | exact .inr rfl | assumption) (he:starEach (e :: es) X.env = (false,eval e X.env) :: starEach es X.env:=by rfl) (hpl:(backTo cpos (starEach es X.env)).any (·.1) = false:=by rfl) :
  JX X (.Assign [.Name y pos'] (.Call (.Name x p) (e :: es) [] cpos) pos) (bG i (aC m [] (yM ma))) :=
 ⟨PX.weaken (LZ hN hi hx (GY (dvs:=[]) F hr hg hm hk hb .nil ha.p hdb he hpl) hs hf) fun D Ex σ H h=>by
  obtain ⟨c,ρ,τ,θ,f,ρ',ek,b,em,q⟩:=h
  rcases fZ em with ⟨r,ρ1,e1,e2⟩ | ⟨e,e1,e2⟩
  ·refine xp hn ek b e1 (fun r' hr' v H' hv b1=>?_) (fun x hx=>by cases hx)
   cases hr'
   cases e3:stT r ρ1 with
   | none=>simp only [e3] at e2; cases e2
   | some p =>
    obtain ⟨t,ρ2⟩:=p
    simp only [e3] at e2
    obtain ⟨b2,ht⟩:=Bd.stT hv b1 e3
    cases e4:put i t ρ2 with
    | none=>simp only [e4] at e2; cases e2
    | some ρ3 =>
     simp only [e4] at e2; cases e2
     exact q _ H' (Bd.put b2 ht e4)
  ·subst e2
   exact xp hn ek b e1 (fun r hr=>by cases hr) (fun x hx=>by cases hx; exact fun C H' hm b1=>q C σ H' hm b1)⟩
def HV (i:Nat) (sub:Str → Bool) (b s:Ms):Ms:=fun ρ=>match b ρ with
 | some (.ex x,ρ1)=>if sub x = true then match put i (.fr (.exc x)) ρ1 with
  | some ρ2=>match s ρ2 with
   | some (.nx,ρ3)=>match put i .un ρ3 with
    | some ρ4=>some (.nx,ρ4)
    | none=>none
   | some (.rt r,ρ3)=>some (.rt r,ρ3)
   | _=>none
  | none=>none else none
 | r=>r
theorem L4 {T:Addr} {n x:Str} {i:Nat} {b0 s0:Stmt} {suite:List Stmt} {mb ms:Ms} {sub:Str → Bool} {np hp pos:Pos} (hst:X.stack = X.env :: X.outer) (hfr:X.env.frame = some X.env.locals) (hex:X.ex = []) (hN:X.N.Nodup) (hi:X.N[i]? = some n) (hn:X.env.scope.names.lookup n = some .local)
  (hg:Gl X x) (hm:X.mg x = some (.ref T)) (hsub:∀ c C,sub c = true → X.mg c = some (.ref C) → PySem.W.exmOne X.K (.ref C) (.ref T) = some true) (hb:JX X b0 mb) (hs:∀ a,JSs (X.marked a) E00 (s0 :: suite) ms) (hd:NDb x)
  (hf:X.fn n = true ∨ X.env.scope.names.lookup n = some .local:=by first | exact .inl rfl | exact .inr rfl | assumption) :
  JS X E (.Try [b0] [.ExceptHandler (some (.Name x np)) (some n) (s0 :: suite) hp] [] [] pos) (HV i sub mb ms) :=
 ⟨PS.weaken (MP (ts:=TSm (kx X) E00 ms) hst hfr hex hN hi hn hg hm (HM hb.p) (fun a=>(hs a).p) hd hf) fun D σ H h=>by
  obtain ⟨c,ρ,τ,θ,f,ρ',ek,b,em,q⟩:=h
  unfold HV at em
  cases eb:mb ρ with
  | none=>simp only [eb] at em; cases em
  | some p =>
   obtain ⟨f1,ρ1⟩:=p
   simp only [eb] at em
   refine ⟨c,ρ,τ,θ,f1,ρ1,ek,b,eb,?_⟩
   cases f1 with
   | nx=>cases em; exact q
   | rt s=>cases em; exact q
   | bk=>cases em; exact q
   | ct=>cases em; exact q
   | ex y =>
    simp only at em
    split at em
    ·rename_i hsb
     intro C σ' H' hmC b1
     refine ⟨C,rfl,hsub y C hsb hmC,fun a ha=>?_⟩
     cases ep:put i (.fr (.exc y)) ρ1 with
     | none=>simp only [ep] at em; cases em
     | some ρ2 =>
      simp only [ep] at em
      cases es:ms ρ2 with
      | none=>simp only [es] at em; cases em
      | some p =>
       obtain ⟨f2,ρ3⟩:=p
       simp only [es] at em
       have b2:Bd c (σ'.set i (some (.ref a))) (upd H' a (BX a C)) ρ2 τ (θ.map Sl.fr):=by
        obtain ⟨L,bl⟩:=b1
        obtain ⟨b3,sm,np⟩:=bl.new (o:=BX a C) ha
        exact Bd.put (b3.push (.exc (by rw [gF np (bl.fhd ha)]; exact cR) (by rw [ek]; exact hmC))) (fun o z=>by cases z) ep
       refine ⟨c,ρ2,τ,θ,f2,ρ3,ek,b2,es,?_⟩
       cases f2 with
       | nx =>
        cases e4:put i .un ρ3 with
        | none=>simp only [e4] at em; cases em
        | some ρ4=>simp only [e4] at em; cases em; exact fun σ3 H3 b3=>q _ H3 (b3.unset e4)
       | rt r=>cases em; exact q
       | bk=>cases em
       | ct=>cases em
       | ex z=>cases em
    ·cases em⟩
def xK (tab:Str → Option Bool):A → Option Rr
 | .exc c=>match tab c with
  | some k=>some (.fr (.bl k))
  | none=>none
 | _=>none
theorem JR {K:Kx} {cv:V} {tab:Str → Option Bool} (hc:vK cv = true) (ht:∀ c C k,tab c = some k → K.mg c = some (.ref C) → qG K.K C ∧ PySem.W.kitOne K.K (.ref C) (yF cv) = some k) :
  UnS K (fun v H Q=>∃ x c t b,[v,cv] = [x,c] ∧ TyX K.K H x t ∧ vK c = true ∧ PySem.W.kitOne K.K t (yF c) = some b ∧ Q (.bl b) H) (xK tab):=.scalar fun H v a q r1 h=>by
 cases a <;> first | (cases h; done) | skip
 rename_i c
 unfold xK at h
 simp only at h
 cases e:tab c with
 | none=>simp only [e] at h; cases h
 | some k =>
  simp only [e] at h
  cases h
  cases r1 with
  | exc e1 m1 =>
   obtain ⟨x1,x2⟩:=ht c _ k e m1
   exact ⟨_,_,rfl,fun _=>.bl _,fun Q k=>⟨_,_,_,_,rfl,.exc e1 x1,hc,x2,k⟩⟩
def EN (n:Str) (b:Bool):Str → Option Bool:=fun c=>if c = n then some b else none
theorem Ec {mg:Str → Option Value} {K:PySem.W.Frag} {n:Str} {b:Bool} {C0:Addr} {cv:V} (hm:mg n = some (.ref C0)) (x:qG K C0) (h:PySem.W.kitOne K (.ref C0) (yF cv) = some b):∀ c C k,EN n b c = some k → mg c = some (.ref C) → qG K C ∧ PySem.W.kitOne K (.ref C) (yF cv) = some k:=fun c C k e m=>by
 unfold EN at e
 split at e
 ·rename_i z
  subst z
  rw [hm] at m
  cases m
  cases e
  exact ⟨x,h⟩
 ·cases e
def Jw (n:Str):Str → Bool:=fun c=>decide (c = n)
theorem Ja {mg:Str → Option Value} {K:PySem.W.Frag} {n:Str} {C0 T:Addr} (hm:mg n = some (.ref C0)) (h:PySem.W.exmOne K (.ref C0) (.ref T) = some true):∀ c C,Jw n c = true → mg c = some (.ref C) → PySem.W.exmOne K (.ref C) (.ref T) = some true:=fun c C e m=>by
 have z:c = n:=of_decide_eq_true e
 subst z
 rw [hm] at m
 cases m
 exact h
theorem Ga (K:PySem.W.Frag) (C:Addr):PySem.W.kitOne K (.ref C) (.ref C) = some true:=by
 unfold PySem.W.kitOne
 rw [if_pos (beq_self_eq_true _)]
theorem D9 {x:Str} {p pos:Pos} {e e2:Expr} {m:Mi Rr} {cv:V} {tab:Str → Option Bool} (hg:Gl X x) (hm:X.mg x = none) (hv:bootBuiltins x = some (.builtin "isinstance")) (h2:PE X e2 (tC cv)) (hc:vK cv = true) (ht:∀ c C k,tab c = some k → X.mg c = some (.ref C) → qG X.K C ∧ PySem.W.kitOne X.K (.ref C) (yF cv) = some k)
  (ha:JE X E e m) (hn:x ≠ "__name__") (hdb:NDb x) (hs:starEach [e,e2] X.env = (false,eval e X.env) :: starEach [e2] X.env:=by rfl) (hs2:starEach [e2] X.env = (false,eval e2 X.env) :: starEach [] X.env:=by rfl) (hp:(backTo pos (starEach [e2] X.env)).any (·.1) = false:=by rfl) :
  JE X E (.Call (.Name x p) [e,e2] [] pos) (mB1 (xK tab) m) :=
 ⟨PE.weaken (tT Bm hg hm hv (fk ha.p (fk h2 mn hs2) hs) hn hdb hs hp) fun σ H Q h=>tV (r:=fun v H Q=>∃ x c t b,[v,cv] = [x,c] ∧ TyX (kx X).K H x t ∧ vK c = true ∧ PySem.W.kitOne (kx X).K t (yF c) = some b ∧ Q (.bl b) H) (JR (K:=kx X) hc ht) σ H Q h⟩
end
end M
namespace M
open PySem L2
section
variable {c:Cn} {σ:St} {H:Hp} {ρ:List Sl} {τ:St} {θ:List Sl}
theorem BdL.O7 {L:List Addr} {p:Addr} {o o':LO} {u:HO} (b:BdL c σ H ρ (some (.ref p) :: τ) (.lv o :: θ) L) :
  LR c.toKx (c.g H L) H p o ∧ ((∀ H',H' p = some u → LR c.toKx (c.g H L) H' p o') → BdL c σ (upd H p u) ρ (some (.ref p) :: τ) (.lv o' :: θ) L):=by
 obtain ⟨nd,rel,own,fr,kp,lt,hdd⟩:=b
 have rel:aU c.toKx (c.g H L) H (some (.ref p) :: (τ ++ σ)) (.lv o :: (θ ++ ρ)) L:=rel
 cases rel with
 | cons h r =>
  rename_i L1 L2
  cases h with
  | lv h =>
   refine ⟨h,fun hn=>?_⟩
   have hin:p ∈ [p] ++ L2:=by simp
   have hne:∀ q ∈ L2,q ≠ p:=fun q hq z=>(List.nodup_cons.mp nd).1 (by rw [← z]; exact hq)
   have ec:c.g (upd H p u) ([p] ++ L2) = c.g H ([p] ++ L2):=by
    funext a
    by_cases z:a ∈ [p] ++ L2 ∨ a ∈ c.Hd
    ·rw [AI z,AI z]
    ·rw [gF (fun y=>z (.inl y)) (fun y=>z (.inr y)),gF (fun y=>z (.inl y)) (fun y=>z (.inr y)),aR fun y=>z (.inl (by rw [y]; exact hin))]
   refine ⟨nd,aU.cons (L:=[p]) (.lv (by rw [ec]; exact hn _ cR)) (r.sm (by rw [ec]; exact Sq.refl _) (fun q hq w e=>by rw [aR (hne q hq)]; exact e)),own,⟨fun q w e=>?_,fun q hq=>?_⟩,kp,lt,hdd⟩
   ·obtain ⟨w',h1,h2⟩:=fr.st q w e
    by_cases z:q = p
    ·subst z
     refine ⟨u,cR,fun nq=>?_⟩
     rcases own q hin with y | y
     ·exact absurd y nq
     ·rw [y] at e; cases e
    ·exact ⟨w',by rw [aR z]; exact h1,h2⟩
   ·obtain ⟨h1,⟨ob,vs,h2⟩,h3⟩:=fr.pk q hq
    refine ⟨?_,⟨ob,vs,h2⟩,h3⟩
    rw [aR fun y=>?_]
    ·exact h1
    ·rw [y,h2] at h1
     cases h with
     | lst e _=>rw [e] at h1; cases h1
     | dic e _=>rw [e] at h1; cases h1
end
section
variable {X:Cx} {E:XK}
def xo (k:Str) (m:Mi Rr):Mi Rr:=aT m fun r ρ=>match dr r ρ with
 | some (a,ρ')=>some (.ok (.nw (.dic [(.inr k,a)])),ρ')
 | none=>none
theorem FT {k:Str} {j:Nat} {p pos:Pos} {e:Expr} {m:Mi Rr} (h:JE X E e m):JE X E (.Dict [some (.Constant (.str k) j p)] [e] pos) (xo k m) :=
 ⟨PE.weaken (IT (GI FU h.p IC) rfl rfl (by simp) (by simp)) fun σ H Q h=>by
  obtain ⟨c,ρ,τ,θ,o,ρ',ek,b,em,q⟩:=h
  intro p hp
  show TEm (kx X) E m σ (upd H p (.dK [])) (fun y H2=>H2 p = some (.dK []) ∧ ∃ kvs:List (Key × V),[(V.str k,y)] = kvs.map (fun kv=>(kV kv.1,kv.2)) ∧ kvs.length ≤ 15 ∧ Q (.ref p) (upd H2 p (.dK (mF [] kvs))))
  obtain ⟨L,bl⟩:=b
  have b0:Bd c σ (upd H p (.dK [])) ρ (some (.ref p) :: τ) (.lv (.dic []) :: θ):=bl.pM hp fun G H' sm hh=>.dic hh .nil
  refine cx ek b0 em (fun r v ρ1 H1 hv b1 em1=>?_) (fun e ee C H1 hm b1=>cU q e ee C H1 hm b1.pop)
  cases e1:dr r ρ1 with
  | none=>simp only [e1] at em1; cases em1
  | some pr =>
   obtain ⟨a,ρ2⟩:=pr
   simp only [e1] at em1
   cases em1
   have b2:=Bd.dr (xs:=[]) (ss:=[]) rfl b1 hv e1
   obtain ⟨L',bl',ra⟩:=Bd.GG b2
   obtain ⟨h1,h2⟩:=bl'.O7 (o':=.dic [(.inr k,a)]) (u:=.dK [(.inr k,v)])
   cases h1 with
   | dic e r0 =>
    cases r0
    exact ⟨e,[(.inr k,v)],rfl,by simp,q _ _ trivial ⟨L',h2 fun H' hh=>.dic hh (.cons ra .nil)⟩⟩⟩
def GZ (ρ:List Sl) (i:Nat):Bool:=match ck ρ i with
 | some (.dic _)=>true
 | _=>false
def Bv (i:Nat) (m:Mi Rr):Mi Rr:=fun ρ0=>if GZ ρ0 i = true then aT m (fun r ρ=>match res ρ r,ck ρ i with
 | some ka,some (.dic kvs)=>match kq ka with
  | some y=>match qM kvs y with
   | some a=>some (.ok (.fr a),setAt ρ i (.dic (kvs.filter fun kv=>decide (kv.1 ≠ y))))
   | none=>none
  | none=>none
 | _,_=>none) ρ0 else none
theorem JY {i:Nat} {x:Str} {px apos cpos:Pos} {e:Expr} {m:Mi Rr} (hN:X.N[i]? = some x) (hv:Vis X.env.scope x) (hd:NDb x) (hcd:NCd x) (he:JE X E e m) (hm:M1 X (.Name x px) "pop" apos e cpos) :
  JE X E (.Call (.Attribute (.Name x px) "pop" apos) [e] [] cpos) (Bv i m) :=
 ⟨PE.weaken (GL (sJ hN hv hd hcd) he.p hm) fun σ H Q h=>by
  obtain ⟨c,ρ,τ,θ,o,ρ',ek,b,em,q⟩:=h
  unfold Bv at em
  split at em
  ·rename_i hl
   obtain ⟨xs0,hl⟩:∃ kvs,ck ρ i = some (.dic kvs):=by
    unfold GZ at hl
    cases e:ck ρ i with
    | none=>rw [e] at hl; cases hl
    | some o=>cases o with
     | dic kvs=>exact ⟨kvs,rfl⟩
     | lst _=>rw [e] at hl; cases hl
   obtain ⟨p,vs,hp,hH⟩:∃ p vs,σ[i]? = some (some (.ref p)) ∧ H p = some (.dK vs):=by
    obtain ⟨L,b⟩:=b
    obtain ⟨p,h1,h2,_⟩:=b.live hl (.dic xs0) (.dK [])
    cases h2 with | dic e r=>exact ⟨p,_,h1,e⟩
   refine ⟨_,hp,p,rfl,.inl ⟨vs,.inl hH⟩,?_⟩
   refine cx ek b em (fun r v ρ1 H1 hv b1 em1=>?_) (cU q)
   cases e1:res ρ1 r with
   | none=>simp only [e1] at em1; cases em1
   | some ka =>
    have r1:=Bd.rd b1 hv e1
    cases e2:ck ρ1 i with
    | none=>simp only [e1,e2] at em1; cases em1
    | some lo =>
     cases lo with
     | lst _=>simp only [e1,e2] at em1; cases em1
     | dic kvs =>
      simp only [e1,e2] at em1
      cases e3:kq ka with
      | none=>simp only [e3] at em1; cases em1
      | some y =>
       simp only [e3] at em1
       have ev:=qv r1 e3
       cases e4:qM kvs y with
       | none=>simp only [e4] at em1; cases em1
       | some a =>
        simp only [e4] at em1
        cases em1
        obtain ⟨L,bl⟩:=b1.drop
        obtain ⟨p',h1,h2,_⟩:=bl.live e2 (.dic kvs) (.dK [])
        rw [hp] at h1; cases h1
        cases h2 with
        | dic eH rr =>
         rename_i ws
         rcases rr.get y with ⟨v',a',g1,g2,g3⟩ | ⟨_,g2⟩
         ·rw [e4] at g2
          cases g2
          have b5:=bl.push g3
          obtain ⟨L5,bl5⟩:=b5
          obtain ⟨p5,h5,h6,h7⟩:=bl5.live e2 (.dic (kvs.filter fun kv=>decide (kv.1 ≠ y))) (.dK (oR ws y))
          rw [hp] at h5; cases h5
          cases h6 with
          | dic eH6 rr6 =>
           rw [eH] at eH6
           cases eH6
           exact ⟨ws,y,v',eH,ev,g1,q v' _ trivial (h7 fun H' hh=>.dic hh (rr6.filter y))⟩
         ·rw [e4] at g2; cases g2
  ·cases em⟩
end
inductive xV (K:PySem.W.Frag) (H:Hp) (kb:List (Key × V)):List (Key × V) → Bool → Prop
 | nil:xV K H kb [] true
 | miss {k:Key} {v:V} {r:List (Key × V)} (h:oi kb k = none):xV K H kb ((k,v) :: r) false
 | hit {k:Key} {v y:V} {r:List (Key × V)} {d e:D} {b:Bool} (h:oi kb k = some y) (hd:Den K H v d) (he:Den K H y e) (dp:D.depth d ≤ 40) (t:xV K H kb r b):xV K H kb ((k,v) :: r) (D.eq d e && b)
def uc (kb:List (Key × A)):List (Key × A) → Option Bool
 | []=>some true
 | (k,a) :: r=>match qM kb k with
  | none=>some false
  | some b=>match eqA a b,uc kb r with
   | some e,some t=>some (e && t)
   | _,_=>none
theorem DJ {K:Kx} {H:Hp} {vb:List (Key × V)} {kb:List (Key × A)} (rb:RKs K H vb kb):∀ {va:List (Key × V)} {ka:List (Key × A)} {r:Bool},RKs K H va ka → uc kb ka = some r → xV K.K H vb va r
 | _,_,_,.nil,h=>by cases h; exact .nil
 | _,_,_,.cons (y:=y) (a:=a) (as:=as) h0 r0,h=>by
  unfold uc at h
  rcases rb.get y with ⟨v',a',g1,g2,g3⟩ | ⟨g1,g2⟩
  ·simp only [g2] at h
   cases e1:eqA a a' with
   | none=>simp only [e1] at h; cases h
   | some e =>
    cases e2:uc kb as with
    | none=>simp only [e1,e2] at h; cases h
    | some t =>
     simp only [e1,e2] at h
     cases h
     obtain ⟨d,f,q1,q2,q3,rfl⟩:=xj e1
     exact .hit g1 (sj h0 q1) (sj g3 q2) q3 (DJ rb r0 e2)
  ·simp only [g2] at h
   cases h
   exact .miss g1
section
variable {X:Cx} {E:XK}
def DR (K:PySem.W.Frag):R2:=fun x y H Q=>∃ a b ka kb r,x = .ref a ∧ y = .ref b ∧ Rd H a (.dK ka) ∧ Rd H b (.dK kb) ∧ xV K H kb ka r ∧ Q (.bl (!(ka.length == kb.length && r))) H
theorem Na {pins:List (Addr × Obj)} {σ:St} {H:Hp} {s:Shared} {A:Around} (I:Inv X pins σ H s) (hu:A.units + 40 < cLine) {kb:List (Key × V)} {vb:List (Key × Value)} (rb:KV kb vb) {ka:List (Key × V)} {r:Bool} (h:xV X.K H kb ka r):∀ {va:List (Key × Value)},KV ka va → PySem.W.KeqHits A s vb va r:=by
 induction h with
 | nil=>intro va q; cases q; exact .nil
 | @miss k v r h =>
  intro va q
  cases q with
  | @cons _ p _ ps h0 r0 =>
   obtain ⟨k',v'⟩:=p
   obtain ⟨e,rv⟩:=h0
   have e:k = k':=e
   subst e
   exact .miss (oI.none_of (by rw [← h]; exact rb.val k))
 | @hit k v y r d e b h hd he dp t ih =>
  intro va q
  cases q with
  | @cons _ p _ ps h0 r0 =>
   obtain ⟨k',v'⟩:=p
   obtain ⟨e,rv⟩:=h0
   have e:k = k':=e
   subst e
   obtain ⟨w',hw,rw'⟩:=oI.some_of (v:=y) (o:=PySem.valueAt vb k) (by rw [← h]; exact rb.val k)
   exact .hit hw (pP I 40 hu dp hd he rv rw') (ih r0)
theorem Fc (hu:X.A.units + 64 < cLine):OpR X (compareOp .NotEq) (DR X.K):=by
 intro pins s σ H x y v u Q I rx ry h
 obtain ⟨a,b,ka,kb,r,rfl,rfl,da,db,hh,q⟩:=h
 cases rx
 cases ry
 obtain ⟨z1,l1,va,r1,d1⟩:=L2.kO I.hok da
 obtain ⟨z2,l2,vb,r2,d2⟩:=L2.kO I.hok db
 refine PySem.W.keq_ne l1 l2 d1 d2 (by omega) (fun _=>Na I (A:=X.A.in1) (by show X.A.in1.units + 40 < cLine; rw [show X.A.in1.units = X.A.units + 1 from rfl]; omega) r2 hh r1) ?_
 rw [← r1.length,← r2.length]
 exact ⟨.bl _,H,I,rfl,q⟩
def J0 (ka kb:List (Key × A)):Option Bool:=match uc kb ka with
 | some r=>some (ka.length == kb.length && r)
 | none=>none
def P0:A → A → Option Rr
 | .dic ka,.dic kb=>match J0 ka kb with
  | some r=>some (.fr (.bl r))
  | none=>none
 | _,_=>none
def xH:A → A → Option Rr
 | .dic ka,.dic kb=>match J0 ka kb with
  | some r=>some (.fr (.bl (!r)))
  | none=>none
 | _,_=>none
theorem EJ {K:Kx}:OpS K (DR K.K) xH:=.scalar fun H v w a b q r1 r2 h=>by
 cases a <;> cases b <;> first | (cases h; done) | skip
 rename_i ka kb
 unfold xH J0 at h
 simp only at h
 cases e:uc kb ka with
 | none=>simp only [e] at h; cases h
 | some r =>
  simp only [e] at h
  cases h
  cases r1 with
  | dic e1 k1 =>
   cases r2 with
   | dic e2 k2=>exact ⟨_,_,rfl,fun _=>.bl _,fun Q k=>⟨_,_,_,_,_,rfl,rfl,e1,e2,DJ k2 k1 e,by rw [k1.len,k2.len]; exact k⟩⟩
variable {a b:Expr} {ma mb:Mi Rr} {pos:Pos}
theorem LM (hu:X.A.units + 64 < cLine) (ha:JE X E a ma) (hb:JE X E b mb):JT X E (.Compare a [.NotEq] [b] pos) (aK (mOp (fOr fNe xH) ma mb)):=sP (OpR.or' (GH hu) (Fc hu)) (KW.or EJ) ha hb (pK _)
end
end M
set_option maxHeartbeats 4000000
namespace L2
open PySem PySem.Spec PyProof.Rows
theorem Ed:entryFor table "dict.update.loop" = some Builtin.«dict.update.loop»:=entryFor_of_tree (by kernel_rfl)
theorem AE:plainId "dict.update.loop" = true:=by decide +kernel
theorem E3:typeLookup (.type "tuple") "keys" = pure none:=am_miss_of_fast (by kernel_rfl)
section
variable {prog:Program} {w:World} {A:Around} {E:Value → Shared → Prop} {s:Shared}
theorem Iy {a:Addr} {items:Array Value} {Q:Option Value → Shared → Prop} (hx:kF s.heap a items) (hA:A.handled = none) (h:∀ h' tk,(∀ b ob,s.heap.get? b = some ob → h'.get? b = some ob) → Q none { s with heap:=h',toks:=tk }) :
  wpAny (model prog w) A (getAttr? (.ref a) "keys") Q E s:=by
 obtain ⟨⟨c,dct,dat,sl⟩,hx,hc,k,hdat,hd⟩:=hx
 simp only at hc hdat hd
 subst hc hdat hd
 obtain ⟨hp,g,d,tk,os⟩:=s
 have hT:∀ tk',(⟨hp,g,d,tk',os⟩:Shared).TypeIs (.ref a) "tuple" := fun _=>⟨_,hx,rfl⟩
 have f1:=sub_AttributeError
 have f3:=F.slot_tuple_getattribute.lookup
 have f4:=F.slot_tuple_getattribute.bind (.ref a)
 have f5:=am_tuple_getattr_none
 unfold getAttr? getAttrBy? getAttrBy
 repeat (any_goals (first | assumption | exact hT _ | ((with_reducible show wpAny _ _ (call (Value.builtin "tuple.__getattribute__") _ _) _ _ _); refine call_meets F.slot_tuple_getattribute (hT _) am_entry_tuple_getattribute (F.args_tuple_getattribute_2 _ _) (meets_getattribute_miss_tuple a items k sl "keys" _ E3 (by decide +kernel)) ⟨hx,hA,fun h' tk' e hx'=>?_⟩) | wp_step))
 obtain ⟨t',u',he⟩:=hx'.there
 show wpAny _ _ (getattributeRaised _ _ _ _ _ _ _) _ _ _
 unfold getattributeRaised
 repeat (any_goals (first | assumption | wp_step))
 exact h _ _ hx'.keeps
theorem EY {R:Result → Shared → Prop} (hh:A.in1.handled = none) {h0:Heap} {a D I:Addr} {its:Array Value} {kvs:List (Key × Value)} (ha:h0.IsTuple a its)
  (hpr:∀ (i:Nat) (v:Value),its[i]? = some v → ∃ p k u r,v = Value.ref p ∧ h0.IsTuple p #[u,r] ∧ kvs[i]? = some (k,r) ∧ (bN prog w).is k u = true) (hl:its.size = kvs.length) (hD:h0.get? D = none) (hI:h0.get? I = none) (hDI:D ≠ I) (hz:its.size ≤ 1000) :
  ∀ (k i:Nat) (n:Int) (t:Tok) (s:Shared),its.size - i = k → i ≤ its.size → s.heap.IsTupleIter I a i → (∀ b o,h0.get? b = some o → s.heap.get? b = some o) → s.heap.DictOf (bN prog w) D (merged [] (kvs.take i)) →
   (∀ h' tk,(∀ b o,h0.get? b = some o → h'.get? b = some o) → h'.DictOf (bN prog w) D (merged [] kvs) → R (.ok (.ret .none)) { s with heap:=h',toks:=tk }) →
   codeAny (model prog w) A (.builtin "dict.update.loop" ⟨[.ref D,.ref I,.int n t,.none],[]⟩) R s:=by
 intro k
 induction k with
 | zero =>
  intro i n t s hk hi hit kp hd hR
  have hin:i = its.size:=by omega
  subst hin
  refine codeAny_builtin Ed ?_
  rw [Around.under_plainId AE _]
  show wpAny _ A.in1 (pyNext (.ref I) >>= _) _ _ s
  refine wpAny_bind (wpAny_pyNext_tuple_end hh hit (let ⟨o,e,r⟩:=ha; ⟨o,kp _ _ e,r⟩) (by simp) fun h' he'=>?_)
  have kp':∀ b o,h0.get? b = some o → h'.get? b = some o:=fun b o e=>he' b o (fun z=>by rw [z,hI] at e; cases e) (kp b o e)
  show wpAny _ A.in1 (Builtin.Dict.addKeywords D [] >>= _) _ _ _
  refine wpAny_bind (wpAny_pure ?_)
  refine wpAny_pure (hR h' s.toks kp' ?_)
  rw [hl,List.take_length] at hd
  exact hd.extBut he' hDI
 | succ k ih =>
  intro i n t s hk hi hit kp hd hR
  have hlt:i < its.size:=by omega
  obtain ⟨p,ky,u,r,hv,hp,hkv,hky⟩:=hpr i its[i] (by simp [hlt])
  refine codeAny_builtin Ed ?_
  rw [Around.under_plainId AE _]
  show wpAny _ A.in1 (pyNext (.ref I) >>= _) _ _ s
  refine wpAny_bind (wpAny_pyNext_tuple_item hit (let ⟨o,e,r⟩:=ha; ⟨o,kp _ _ e,r⟩) (x:=.ref p) (by rw [← hv]; simp [hlt]) fun h' hit' hs'=>?_)
  have kp':∀ b o,h0.get? b = some o → h'.get? b = some o:=fun b o e=>(hs'.2 b (fun z=>by rw [z,hI] at e; cases e)).trans (kp b o e)
  obtain ⟨po,pe,pc,pn,pd⟩:=hp
  have pT:Shared.TypeIs { s with heap:=h' } (.ref p) "tuple" := ⟨po,kp' _ _ pe,pc⟩
  have hd':h'.DictOf (bN prog w) D (merged [] (kvs.take i)):=hd.extBut hs'.extBut hDI
  show wpAny _ A.in1 (holding [Value.ref p] _ >>= _) _ _ _
  refine wpAny_bind (wpAny_holding ?_)
  refine wpAny_bind (wpAny_tryCatch ?_)
  unfold Builtin.Dict.pairItems
  refine wpAny_bind (wpAny_typeOf pT ?_)
  refine wpAny_bind (wpAny_seqItems (kp' _ _ pe) pd (wpAny_pure ?_))
  show wpAny _ A.in1 (holding [u,r] (dictSet D u r)) _ _ _
  refine wpAny_holding (wpAny_dictSet_pairs (s:={ s with heap:=h' }) hky hd' (fun h2 hd2 hs2=>?_) ?_)
  ·have kp2:∀ b o,h0.get? b = some o → h2.get? b = some o:=fun b o e=>(hs2.2 b (fun z=>by rw [z,hD] at e; cases e)).trans (kp' b o e)
   refine wpAny_pure ⟨plainId_quiet AE _,?_⟩
   refine ih (i + 1) _ _ { s with heap:=h2,toks:=s.toks + 1 } (by omega) hlt (hit'.extBut hs2.extBut (Ne.symm hDI)) kp2 ?_ (fun h3 tk k3 d3=>hR h3 tk k3 d3)
   rw [merged_take_succ [] kvs i (ky,r) hkv]
   exact hd2
  ·have:=merged_length_le [] (kvs.take i)
   rw [List.length_nil,List.length_take] at this
   rw [sizeLine_eq]
   omega
end
end L2
namespace L2
open PySem PySem.Spec PyProof.Rows
inductive kS (K:PySem.W.Frag) (H:Hp):List V → List (Key × V) → Prop
 | nil:kS K H [] []
 | cons {p:Addr} {k:Key} {v:V} {ws:List V} {kvs:List (Key × V)} (h:SqT K H p [kV k,v]) (t:kS K H ws kvs):kS K H (.ref p :: ws) ((k,v) :: kvs)
section
variable {X:Cx}
theorem pairs_at {pins:List (Addr × Obj)} {σ:St} {H:Hp} {s:Shared} (I:Inv X pins σ H s):∀ {ws:List V} {kvs:List (Key × V)} {its:List Value},kS X.K H ws kvs → Vals ws its →
  ∃ rs:List (Key × Value),KV kvs rs ∧ its.length = rs.length ∧ ∀ (i:Nat) (v:Value),its[i]? = some v → ∃ p k u r,v = Value.ref p ∧ s.heap.IsTuple p #[u,r] ∧ rs[i]? = some (k,r) ∧ (bN X.prog X.w).is k u = true
 | _,_,_,.nil,.nil=>⟨[],.nil,rfl,fun i v e=>by simp at e⟩
 | _,_,_,.cons (p:=p) (k:=k) (v:=v) h t,.cons r0 t0=>by
  obtain ⟨rs,kv,hl,hpr⟩:=pairs_at I t t0
  obtain ⟨its2,r2,p2,_⟩:=I.tuple h
  cases r2 with
  | cons ru r3 =>
   cases r3 with
   | cons rr r4 =>
    cases r4
    rename_i u r
    cases r0
    refine ⟨(k,r) :: rs,.cons ⟨rfl,rr⟩ kv,by simp [hl],fun i v e=>?_⟩
    cases i with
    | zero=>cases e; exact ⟨p,k,u,r,rfl,p2,rfl,rL ru⟩
    | succ i=>exact hpr i v e
def zK (K:PySem.W.Frag):List V → Hp → VK → Prop:=fun vs H Q=>∃ (a:Addr) (ws:List V) (kvs:List (Key × V)),vs = [.ref a] ∧ SqT K H a ws ∧ kS K H ws kvs ∧ ws.length ≤ 1000 ∧ ∀ r,H r = none → Q (.ref r) (upd H r (.dK (mF [] kvs)))
theorem DB (hc:X.calm = true):dO X (.type "dict") (zK X.K):=by
 intro pins s σ H vs us Q I rv h
 obtain ⟨a,ws,kvs,rfl,hs,hp,hz,q⟩:=h
 obtain ⟨u,rfl,ru⟩:=rv.one
 cases ru
 obtain ⟨its,r1,pT,_⟩:=I.Nu hs
 obtain ⟨rs,kv,hl,hpr⟩:=pairs_at I hp r1
 have hA:=I.ok.hd hc
 have hle:=r1.length
 refine callType_codes (Q₁:=fun obj s₁=>obj = .ref s.heap.objs.size ∧ s₁ = { s with heap:=s.heap.push { cls:=.type "dict",data:=.dict #[] } }) PySem.F.kt_called_dict (PySem.F.kt_typeCall_dict_1 _) PySem.F.entry_dict_init (kt_code_dict_new _ ⟨rfl,rfl⟩) ?_
 rintro obj s₁ ⟨rfl,rfl⟩
 have hnew:(s.heap.push { cls:=.type "dict",data:=.dict #[] }).DictOf (bN X.prog X.w) s.heap.objs.size []:=Heap.DictOf.new s.heap
 refine ⟨hnew.typeIs,PySem.F.args_dict_init_2 _ _,?_⟩
 have pN:kF (s.heap.push { cls:=.type "dict",data:=.dict #[] }) a its.toArray:=by
  obtain ⟨o,e,r⟩:=pT
  exact ⟨o,Heap.get?_push_of_some _ e,r⟩
 unfold Builtin.«dict.__init__»
 refine wpAny_bind ?_
 unfold Builtin.Dict.selfAndRest
 refine wpAny_bind (wpAny_notOrdered_dict hnew.typeIs ?_)
 show wpAny _ _ (pure (s.heap.objs.size,[Value.ref a])) _ _ _
 refine wpAny_pure ?_
 show wpAny _ _ (Builtin.Dict.updateFrom "dict.__init__" s.heap.objs.size (.ref a) [] .none) _ _ _
 unfold Builtin.Dict.updateFrom
 refine wpAny_bind (wpAny_typeOf pN.t.typeIs ?_)
 rw [if_pos (by decide)]
 refine wpAny_bind (Iy pN (by simp [hA]) fun h' tk kp=>?_)
 rw [if_pos (show (none:Option Value).isNone = true from rfl)]
 refine wpAny_bind (wpAny_rule ?_)
 have ht:h'.IsTuple a its.toArray:=by
  obtain ⟨o,e,c,n,d,_⟩:=pN
  exact ⟨o,kp _ _ e,c,n,d⟩
 refine wpAny_bind (wpAny_pyIter_tuple ht ?_)
 refine wpAny_pure ⟨plainId_quiet AE _,?_⟩
 have hsz:s.heap.objs.size < h'.objs.size:=by
  obtain ⟨o,_,_,e,_⟩:=hnew
  exact Heap.lt_size (kp _ _ e)
 refine EY (A:=X.A.in1) (h0:=s.heap) (a:=a) (its:=its.toArray) (kvs:=rs) (by simp [hA]) pT.t (fun i v e=>hpr i v (by simpa using e)) (by simp [hl]) (Heap.get?_none_of_le (Nat.le_refl _)) (Heap.get?_none_of_le (Nat.le_of_lt hsz)) (Nat.ne_of_lt hsz) (by simp; omega)
  (its.toArray.size - 0) 0 0 0 _ rfl (Nat.zero_le _) ⟨_,Heap.get?_push_size _ rfl,rfl,rfl⟩ (fun b o e=>Heap.get?_push_of_some _ (kp _ _ (Heap.get?_push_of_some _ e))) ?_ (fun h2 tk2 k2 d2=>⟨rfl,?_⟩)
 ·obtain ⟨o,es,ep,e,r⟩:=hnew
  exact ⟨o,es,ep,Heap.get?_push_of_some _ (kp _ _ e),r⟩
 ·have hz2:(mF [] kvs).length ≤ sizeLine:=by
   have h1:=mG kvs []
   have h2:=kv.length
   rw [List.length_nil] at h1
   rw [sizeLine_eq]
   omega
  exact ⟨.ref s.heap.objs.size,_,I.laid (a:=s.heap.objs.size) (o:=.dK (mF [] kvs)) k2 (Nat.le_refl _) (vk hz2 (beq_eq_false_iff_ne.mpr (Ne.symm (Nat.ne_of_lt I.big))) (kv.merge .nil) d2),rfl,q _ I.fresh⟩
end
end L2
namespace M
open PySem L2
def jX:List A → Option (List (Key × A))
 | []=>some []
 | .tup [k,v] :: r=>match kq k,jX r with
  | some y,some t=>some ((y,v) :: t)
  | _,_=>none
 | _=>none
def wY (kvs more:List (Key × A)):List (Key × A):=more.foldl (fun acc kv=>xn acc kv.1 kv.2) kvs
theorem RKs.merge {k:Kx} {G:Hp}:∀ {vs ws:List (Key × V)} {as bs:List (Key × A)},RKs k G vs as → RKs k G ws bs → RKs k G (mF ws vs) (wY bs as)
 | _,_,_,_,.nil,r=>r
 | _,_,_,_,.cons (y:=y) h t,r=>by have:=RKs.merge t (r.put y h); exact this
theorem yN {k:Kx} {G:Hp}:∀ {as:List A} {vs:List V} {kvs:List (Key × A)},RAs k G vs as → jX as = some kvs → ∃ ws,kS k.K G vs ws ∧ RKs k G ws kvs
 | [],_,_,.nil,h=>by cases h; exact ⟨[],.nil,.nil⟩
 | a :: as,_,_,.cons h0 t0,h=>by
  cases a <;> first | (simp [jX] at h; done) | skip
  rename_i xs
  match xs,h0,h with
  | [],_,h=>simp [jX] at h
  | [_],_,h=>simp [jX] at h
  | _ :: _ :: _ :: _,_,h=>simp [jX] at h
  | [x,y],h0,h =>
   unfold jX at h
   cases e1:kq x with
   | none=>simp only [e1] at h; cases h
   | some ky =>
    cases e2:jX as with
    | none=>simp only [e1,e2] at h; cases h
    | some t =>
     simp only [e1,e2] at h
     cases h
     obtain ⟨ws,p1,p2⟩:=yN t0 e2
     cases h0 with
     | tup e r =>
      cases r with
      | cons g1 r =>
       cases r with
       | cons g2 r =>
        cases r
        rw [qv g1 e1] at e
        exact ⟨_ :: ws,.cons e p1,.cons g2 p2⟩
theorem kS.sm {K:PySem.W.Frag} {G G':Hp} (s:Sq G G'):∀ {vs:List V} {ws:List (Key × V)},kS K G vs ws → kS K G' vs ws
 | _,_,.nil=>.nil
 | _,_,.cons h t=>.cons (gy s h) (kS.sm s t)
def my:A → Option Rr
 | .tup as=>if as.length ≤ 1000 then match jX as with
  | some kvs=>some (.nw (.dic (wY [] kvs)))
  | none=>none else none
 | _=>none
theorem Hr {K:Kx}:UnS K (fun v=>zK K.K [v]) my:=by
 intro c σ H ρ τ θ x v a q Q ek hv bd e1 e3 k
 subst ek
 obtain ⟨L,bl,i1⟩:=Bd.open bd hv e1
 cases a <;> first | (cases e3; done) | skip
 rename_i as
 unfold my at e3
 simp only at e3
 split at e3
 ·rename_i hz
  cases es:jX as with
  | none=>simp only [es] at e3; cases e3
  | some kvs =>
   simp only [es] at e3
   cases e3
   obtain ⟨p,vs,rfl,s1,rr⟩:=i1.2.1 as rfl
   obtain ⟨ws,p1,p2⟩:=yN rr es
   exact ⟨p,vs,ws,rfl,gy (g_same _ _ _) s1,kS.sm (g_same _ _ _) p1,by rw [rr.len]; exact hz,fun r hr=>k _ _ trivial (bl.pM hr fun G H' sm q=>.dic q ((p2.sm sm).merge .nil))⟩
 ·cases e3
section
variable {X:Cx}
theorem nX (hc:X.calm = true):dO X (.type "dict") (fun xs H Q=>A9 xs H Q ∨ zK X.K xs H Q):=dO.or' CS (DB hc)
theorem uy {K:Kx}:UnS K (fun v H Q=>A9 [v] H Q ∨ zK K.K [v] H Q) (gOr kY my):=FI.or Hr
end
end M
set_option maxHeartbeats 1000000
namespace W
open PySem L2
def v3 (h:Heap):PySem.W.Frag:=(List.range h.objs.size).filterMap fun a=>(h.get? a).map fun o=>(a,o)
theorem zj {o:Obj} {a:Addr}:∀ {K:PySem.W.Frag},K.lookup a = some o → (a,o) ∈ K
 | (b,u) :: K,e=>by
  rw [List.lookup_cons] at e
  split at e
  ·rename_i q; cases e; rw [beq_iff_eq.mp q]; exact List.mem_cons_self
  ·exact List.mem_cons_of_mem _ (zj e)
theorem CI (h:Heap):(v3 h).In h:=fun a o e=>by
 have m:=zj e
 unfold v3 at m
 obtain ⟨b,_,hb⟩:=List.mem_filterMap.mp m
 cases e2:h.get? b with
 | none=>rw [e2] at hb; cases hb
 | some o'=>rw [e2] at hb; cases hb; exact e2
def gA (K:PySem.W.Frag) (n:Str):Addr:=match PySem.W.nsIn K mainGlobals n with
 | some (some (.ref a))=>a
 | _=>0
def HJ (K:PySem.W.Frag) (n:Str):Option (Str × Str × Arguments × FuncBody × Scope × Addr × List (Str × Addr) × Value × Addr × Bool) :=
 match PySem.W.nsIn K mainGlobals n with
 | some (some (.ref f))=>(match K.lookup f with
  | some ⟨_,_,.func d,_⟩=>some (d.name,d.qualname,d.params,d.body,d.scope,d.globals,d.closure,d.defaults,d.builtins,PySem.W.codeIn K d.code n && PySem.W.keepIn K (.ref f))
  | _=>none)
 | _=>none
def Gn (n:Str) (st:Stmt):Option (Str × Str × Arguments × FuncBody × Scope × Addr × List (Str × Addr) × Value × Addr × Bool):=some (n,n,Ax st,.stmts (tH st),aa st,mainGlobals,[],.none,builtinsNs,true)
theorem bz {K:PySem.W.Frag} {n:Str} {st:Stmt} (h:HJ K n = Gn n st):PySem.W.nsIn K mainGlobals n = some (some (.ref (gA K n))) ∧ ∃ fd,fW K n n st (gA K n) fd .none:=by
 unfold HJ Gn at h
 unfold gA
 cases e1:PySem.W.nsIn K mainGlobals n with
 | none=>rw [e1] at h; cases h
 | some v =>
  rw [e1] at h
  cases v with
  | none=>cases h
  | some v =>
   cases v with
   | ref f =>
    simp only at h ⊢
    refine ⟨trivial,?_⟩
    cases e2:K.lookup f with
    | none=>rw [e2] at h; cases h
    | some o =>
     rw [e2] at h
     obtain ⟨c,dd,da,sl⟩:=o
     cases da with
     | func d =>
      obtain ⟨a1,a2,a3,a4,a5,a6,a7,a8,a9,a10,a11,a12,a13,a14,a15⟩:=d
      simp only [Option.some.injEq,Prod.mk.injEq] at h
      obtain ⟨rfl,rfl,rfl,rfl,rfl,rfl,rfl,rfl,rfl,hb⟩:=h
      rw [Bool.and_eq_true] at hb
      exact ⟨_,⟨⟨_,_,_,_,_,_,_,_,_,rfl,e2,hb.1⟩,hb.2⟩⟩
     | _=>cases h
   | _=>cases h
def AW (K:PySem.W.Frag) (a:Addr) (i j:Int):Bool:=match K.lookup a with
 | some ⟨.type "tuple",none,.seq its _,_⟩=>(match its.toList with
  | [.int x _,.int y _]=>x == i && y == j
  | _=>false)
 | _=>false
theorem zc {K:PySem.W.Frag} {a:Addr} {i j:Int} (h:AW K a i j = true) (H:Hp):SqT K H a [.int i,.int j]:=by
 unfold AW at h
 split at h
 ·rename_i its n sl e
  split at h
  ·rename_i x tx y ty el
   rw [Bool.and_eq_true,beq_iff_eq,beq_iff_eq] at h
   obtain ⟨rfl,rfl⟩:=h
   refine .inr ⟨_,its,n,e,⟨rfl,rfl⟩,rfl,?_,by rw [el]; exact .cons ⟨_,rfl⟩ (.cons ⟨_,rfl⟩ .nil)⟩
   have:its.size = 2:=by rw [← Array.length_toList,el]; rfl
   rw [this]; decide
  ·cases h
 ·cases h
def hkO (ds:List (Str × Stmt)) (chk:PySem.W.Frag → Bool) (K:PySem.W.Frag):=(ds.map fun x=>HJ K x.1,chk K)
def hkV (ds:List (Str × Stmt)):List (Option (Str × Str × Arguments × FuncBody × Scope × Addr × List (Str × Addr) × Value × Addr × Bool)) × Bool:=(ds.map fun x=>Gn x.1 x.2,true)
def hk (ds:List (Str × Stmt)) (chk:PySem.W.Frag → Bool):PySem.W.Hook where
 α:=List (Option (Str × Str × Arguments × FuncBody × Scope × Addr × List (Str × Addr) × Value × Addr × Bool)) × Bool
 obs:=fun s=>hkO ds chk (v3 s.heap)
 val:=fun _=>hkV ds
 says:=fun _ h=>∃ K:PySem.W.Frag,hkO ds chk K = hkV ds ∧ K.In h
 of:=fun _ s e=>⟨v3 s.heap,e,CI _⟩
 keeps:=fun _ _ _ ⟨K,e,i⟩ k=>⟨K,e,i.keeps k⟩
def Of (p:Program):List Stmt:=p.main.body.filter fun s=>match s with | .FunctionDef n ..=>n == ("law" : Str) | _=>false
def O5:Stmt → List Str
 | .FunctionDef n ..=>[n]
 | .ClassDef n ..=>[n]
 | .Assign [.Name n _] _ _=>[n]
 | _=>[]
def qOf (p:Program):Program:={ p with main:={ p.main with body:=Of p } }
def Kb (p:Program):List Str:=(p.main.body.flatMap O5).filter fun n=>n != ("law" : Str)
theorem Hl {l:PySem.W.OpenLaw} {n k:Nat} {q:Program} {loose:List Str} {XP:(Str → Option Value) → Heap → Prop} {YP:World → Heap → Prop} {d:DefRec} {x:Str} {sp:PySem.W.Frag → Sp}
  (hn:l.most = some n) (hn2:n ≤ sizeLine) (hdf:d.params.defaults = []) (hr:kH k callerA)
  (F:∀ (w:World) (mg:Str → Option Value) (fa:Addr) (h:Heap),YP w h → h.Ns mainGlobals mg → mg d.name = some (.ref fa) →
   ∃ K:PySem.W.Frag,K.In h ∧ ∃ fd:FuncData,(∀ (s:Shared) (u:Value),BindsTo s fd ⟨[u],[]⟩ [(x,u)]) ∧ ∀ base:Heap,K.In base → base.Ns mainGlobals mg → dw l.prog w K mg base (CXE l.prog w) k fa fd [x] (sp K))
  (hsp:∀ (K:PySem.W.Frag) (H:Hp) (a:Addr) (ns:List Int),ns.length ≤ n → Mx H → SqL K H a (ns.map V.int) → sp K [.ref a] H (fun v _=>v = .bl true) fun _ _ _=>False) :
  PySem.W.WalkO q loose XP YP l.row.toRowW d [] (fun f vs=>PySem.call f vs):=by
 refine Att.B6 hn hdf fun w s₀ s₁ mg mb fa o pm cd doc a vs ns G Y ho hd hcd hmg hobj hints hlen hg=>?_
 obtain ⟨K,KX,fd,hb,hF⟩:=F w mg fa _ Y G.T.g hmg
 exact FD KX G.T.g G.T.b G.T.builtins G.T.nolimit hg hobj hints (Nat.le_trans hlen hn2) hr hF hb (fun H hO hS=>hsp K H a ns hlen hO hS) fun H e s' z=>by obtain ⟨_,_,_,_,_,y⟩:=z; exact y
end W
namespace M
open PySem L2 W
def fE (f:Ms) (das:List A):List Rr → Mi Rr:=fun rs ρ=>match j1 (rs ++ das.map Rr.fr) ρ with
 | some (as,ρt)=>match f (as.map toP) with
  | some (.rt s,ρc)=>match xl s,putL ρ (rs ++ das.map Rr.fr) (fq as.length ρc) ρt with
   | some r,some ρ'=>some (.ok r,ρ')
   | _,_=>none
  | some (.ex x,ρc)=>match putL ρ (rs ++ das.map Rr.fr) (fq as.length ρc) ρt with
   | some ρ'=>some (.error x,ρ')
   | none=>none
  | _=>none
 | none=>none
def Val (f:Ms) (as:List A) (a:A):Prop:=∃ ρ,f (as.map Sl.fr) = some (.rt (.fr a),ρ)
def E2 (f:Ms) (as:List A) (o:LO):Prop:=∃ ρ,f (as.map Sl.fr) = some (.rt (.lv o),ρ)
def IE (f:Ms) (as:List A) (x:Str):Prop:=∃ ρ,f (as.map Sl.fr) = some (.ex x,ρ)
def sF (f:Ms) (o:LO) (as:List A) (s:Sl) (o':LO):Prop:=∃ ρ,f (.pv o :: as.map Sl.fr) = some (.rt s,.pv o' :: ρ)
theorem uf (as:List A) (ρ:List Sl):j1 (as.map Rr.fr) ρ = some (as.map Sl.fr,ρ):=by
 induction as generalizing ρ with
 | nil=>rfl
 | cons a as ih=>simp only [List.map_cons,j1,take1,ih]
theorem zN (as:List A):(as.map Sl.fr).map toP = as.map Sl.fr:=by rw [List.map_map]; rfl
theorem uw (ρ0:List Sl):∀ (as:List A) (ss:List Sl) (ρ:List Sl),as.length = ss.length → putL ρ0 (as.map Rr.fr) ss ρ = some ρ
 | [],[],ρ,_=>rfl
 | a :: as,s :: ss,ρ,h=>by rw [List.map_cons,putL,uw ρ0 as ss ρ (by simpa using h)]; rfl
 | [],_ :: _,_,h=>by simp at h
 | _ :: _,[],_,h=>by simp at h
theorem aP {f:Ms} {as:List A} {a:A} (h:Val f as a) (ρ:List Sl):fE f [] (as.map Rr.fr) ρ = some (.ok (.fr a),ρ):=by
 obtain ⟨ρc,h⟩:=h
 unfold fE
 rw [List.map_nil,List.append_nil,uf]
 simp only [zN,h,xl]
 rw [uw _ _ _ _ (by rw [ip,List.length_map])]
theorem ED {f:Ms} {as:List A} {o:LO} (h:E2 f as o) (ρ:List Sl):fE f [] (as.map Rr.fr) ρ = some (.ok (.nw o),ρ):=by
 obtain ⟨ρc,h⟩:=h
 unfold fE
 rw [List.map_nil,List.append_nil,uf]
 simp only [zN,h,xl]
 rw [uw _ _ _ _ (by rw [ip,List.length_map])]
theorem HX {f:Ms} {as:List A} {x:Str} (h:IE f as x) (ρ:List Sl):fE f [] (as.map Rr.fr) ρ = some (.error x,ρ):=by
 obtain ⟨ρc,h⟩:=h
 unfold fE
 rw [List.map_nil,List.append_nil,uf]
 simp only [zN,h]
 rw [uw _ _ _ _ (by rw [ip,List.length_map])]
theorem D4 {f:Ms} {as:List A} {o o':LO} {s:Sl} {r:Rr} {i:Nat} {ρ:List Sl} (h:sF f o as s o') (hr:xl s = some r) (hl:ck ρ i = some o):fE f [] (.rf i :: as.map Rr.fr) ρ = some (.ok r,setAt ρ i o'):=by
 obtain ⟨ρc,h⟩:=h
 unfold ck at hl
 unfold setAt
 have hi:∀ s,ρ[i]? = some s → (ρ.set i Sl.un)[i]? = some .un:=fun s e=>List.getElem?_set_self (List.getElem?_eq_some_iff.mp e).1
 have key:∀ (s0:Sl) (k:LO → Sl),ρ[i]? = some s0 → take1 (.rf i) ρ = some (.lv o,ρ.set i .un) → (∀ s ρ',ρ'[i]? = some Sl.un → B2 ρ (.rf i) (.pv s) ρ' = some (ρ'.set i (k s))) → fE f [] (.rf i :: as.map Rr.fr) ρ = some (.ok r,ρ.set i (k o')):=by
  intro s0 k es ht hp
  unfold fE
  rw [List.map_nil,List.append_nil,j1,ht]
  simp only [uf]
  have h':f (List.map toP (Sl.lv o :: List.map Sl.fr as)) = some (.rt s,.pv o' :: ρc):=by rw [List.map_cons,zN]; exact h
  rw [h']
  simp only [hr]
  have hb:fq (Sl.lv o :: List.map Sl.fr as).length (.pv o' :: ρc) = .pv o' :: fq as.length ρc:=by rw [List.length_cons,List.length_map]; rfl
  rw [hb,putL,uw _ _ _ _ (by rw [ip])]
  simp only [hp _ _ (hi s0 es),List.set_set]
 cases es:ρ[i]? with
 | none=>simp only [es] at hl; cases hl
 | some t =>
  cases t with
  | un=>simp only [es] at hl; cases hl
  | fr a=>simp only [es] at hl; cases hl
  | lv o1 =>
   simp only [es] at hl; cases hl
   refine key _ Sl.lv es (by unfold take1; simp only [es]) fun s ρ' e=>?_
   unfold B2
   simp only [es,e]
  | pv o1 =>
   simp only [es] at hl; cases hl
   refine key _ Sl.pv es (by unfold take1; simp only [es]) fun s ρ' e=>?_
   unfold B2
   simp only [es,e]
theorem jy {G:Mg} {b:Ms} {as:List A} (P:Nat → List Sl → Prop) {ρ:List Sl} (h0:P 0 ρ) (hs:∀ i a ρ,as[i]? = some a → P i ρ → ∃ ρ1 ρ2,G a ρ = some ρ1 ∧ (b ρ1 = some (.nx,ρ2) ∨ b ρ1 = some (.ct,ρ2)) ∧ P (i + 1) ρ2) :
  ∃ ρ',forL G b as ρ = some (.nx,ρ') ∧ P as.length ρ':=by
 have key:∀ n i ρ,as.length - i = n → i ≤ as.length → P i ρ → ∃ ρ',forL G b (as.drop i) ρ = some (.nx,ρ') ∧ P as.length ρ':=by
  intro n
  induction n with
  | zero =>
   intro i ρ e hi p
   have:i = as.length:=by omega
   subst this
   exact ⟨ρ,by rw [List.drop_length]; rfl,p⟩
  | succ n ih =>
   intro i ρ e hi p
   have hlt:i < as.length:=by omega
   obtain ⟨ρ1,ρ2,h1,h2,h3⟩:=hs i as[i] ρ (by simp [hlt]) p
   obtain ⟨ρ',h4,h5⟩:=ih (i + 1) ρ2 (by omega) hlt h3
   refine ⟨ρ',?_,h5⟩
   rw [List.drop_eq_getElem_cons hlt,forL,h1]
   rcases h2 with h2 | h2
   ·simp only [h2]; exact h4
   ·simp only [h2]; exact h4
 simpa using key as.length 0 ρ (by simp) (Nat.zero_le _) h0
theorem ki {G:Mg} {t:Mi Bool} {e:Mi Rr} {as:List A} (P:Nat → List A → List Sl → Prop) {ρ:List Sl} (h0:P 0 [] ρ)
  (hs:∀ i a acc ρ,as[i]? = some a → P i acc ρ → ∃ ρ1,G a ρ = some ρ1 ∧ ((∃ ρ2 r ρ3 d ρ4,t ρ1 = some (.ok true,ρ2) ∧ e ρ2 = some (.ok r,ρ3) ∧ dr r ρ3 = some (d,ρ4) ∧ P (i + 1) (acc ++ [d]) ρ4) ∨ ∃ ρ2,t ρ1 = some (.ok false,ρ2) ∧ P (i + 1) acc ρ2)) :
  ∃ ys ρ',pO G t e as [] ρ = some (ys,ρ') ∧ P as.length ys ρ':=by
 have key:∀ n i acc ρ,as.length - i = n → i ≤ as.length → P i acc ρ → ∃ ys ρ',pO G t e (as.drop i) acc ρ = some (ys,ρ') ∧ P as.length ys ρ':=by
  intro n
  induction n with
  | zero =>
   intro i acc ρ e' hi p
   have:i = as.length:=by omega
   subst this
   exact ⟨acc,ρ,by rw [List.drop_length]; rfl,p⟩
  | succ n ih =>
   intro i acc ρ e' hi p
   have hlt:i < as.length:=by omega
   obtain ⟨ρ1,h1,h2⟩:=hs i as[i] acc ρ (by simp [hlt]) p
   rw [List.drop_eq_getElem_cons hlt,pO,h1]
   rcases h2 with ⟨ρ2,r,ρ3,d,ρ4,q1,q2,q3,q4⟩ | ⟨ρ2,q1,q2⟩
   ·simp only [q1,q2,q3]
    exact ih (i + 1) _ ρ4 (by omega) hlt q4
   ·simp only [q1]
    exact ih (i + 1) _ ρ2 (by omega) hlt q2
 simpa using key as.length 0 [] ρ (by simp) (Nat.zero_le _) h0
theorem qB {t:Mi Bool} {b:Ms} (P:Nat → List Sl → Prop) (Q:List Sl → Prop) (hs:∀ k ρ,P k ρ → (∃ ρ1,t ρ = some (.ok false,ρ1) ∧ Q ρ1) ∨ ∃ ρ1 ρ2 k',t ρ = some (.ok true,ρ1) ∧ (b ρ1 = some (.nx,ρ2) ∨ b ρ1 = some (.ct,ρ2)) ∧ k' < k ∧ P k' ρ2) :
  ∀ {n k:Nat} {ρ:List Sl},P k ρ → k < n → ∃ ρ',l8 t b n ρ = some (.nx,ρ') ∧ Q ρ':=by
 intro n
 induction n with
 | zero=>intro k ρ _ h; omega
 | succ n ih =>
  intro k ρ p hk
  rcases hs k ρ p with ⟨ρ1,h1,h2⟩ | ⟨ρ1,ρ2,k',h1,h2,h3,h4⟩
  ·exact ⟨ρ1,by rw [l8,h1],h2⟩
  ·obtain ⟨ρ',h5,h6⟩:=ih h4 (by omega)
   refine ⟨ρ',?_,h6⟩
   rw [l8,h1]
   rcases h2 with h2 | h2
   ·simp only [h2]; exact h5
   ·simp only [h2]; exact h5
theorem Az {n:Nat} (h:n < 2 ^ 9500):n < BIG:=Nat.lt_of_lt_of_le h (by unfold BIG; exact Nat.pow_le_pow_right (by decide) (by decide))
def nm (x:Num):A:=.tup [.int x.1,.int x.2]
theorem LI (x:Num):toD (nm x) = some (.tup [.int x.1,.int x.2]):=by
 simp [nm,toD,yG]
theorem xX (x y:Num):eqA (nm x) (nm y) = some (decide (x = y)):=by
 unfold eqA
 simp only [LI]
 rw [if_pos (by simp [D.depth,D.sL])]
 obtain ⟨x1,x2⟩:=x
 obtain ⟨y1,y2⟩:=y
 simp [D.eq,D.eqs,Bool.beq_eq_decide_eq]
theorem Ea (i j:Int):eqA (.int i) (.int j) = some (decide (i = j)):=by
 unfold eqA
 simp only [toD]
 rw [if_pos (by simp [D.depth])]
 simp [D.eq,Bool.beq_eq_decide_eq]
section
variable {α β:Type} {ρ:List Sl}
theorem GP (m:Mi α) (f:α → Mi β):aT m f ρ = (match m ρ with | some (.ok x,ρ1)=>f x ρ1 | some (.error e,ρ1)=>some (.error e,ρ1) | none=>none):=rfl
theorem Ei (m:Mi α) (f:α → Ms):eo m f ρ = (match m ρ with | some (.ok x,ρ1)=>f x ρ1 | some (.error e,ρ1)=>some (.ex e,ρ1) | none=>none):=rfl
theorem Gq (x:α):(i4 x:Mi α) ρ = some (.ok x,ρ):=rfl
theorem Km (i:Nat):aj i ρ = (match ρ[i]? with | some (.fr a)=>some (.ok (.fr a),ρ) | some (.lv _)=>some (.ok (.rf i),ρ) | some (.pv _)=>some (.ok (.rf i),ρ) | _=>none):=rfl
theorem FQ (i:Nat):aS i ρ = (match ρ[i]? with | some (.fr a)=>some (.ok (.fr a),ρ) | some (.lv o)=>some (.ok (.fr o.a),ρ.set i (.fr o.a)) | _=>none):=rfl
theorem e_C (a:A):mC a ρ = some (.ok (.fr a),ρ):=rfl
def opK (f:A → A → Option Rr) (x y:Rr) (ρ:List Sl):Option (Except Str Rr × List Sl):=match res ρ x,res ρ y with
 | some a,some b=>match f a b with
  | some r=>some (.ok r,ρ)
  | none=>none
 | _,_=>none
theorem Oh (f:A → A → Option Rr) (ma mb:Mi Rr):mOp f ma mb ρ = (match ma ρ with | some (.ok x,ρ1)=>(match mb ρ1 with | some (.ok y,ρ2)=>opK f x y ρ2 | some (.error e,ρ2)=>some (.error e,ρ2) | none=>none) | some (.error e,ρ1)=>some (.error e,ρ1) | none=>none):=by
 unfold mOp aT opK
 cases ma ρ with
 | none=>rfl
 | some p =>
  obtain ⟨o,ρ1⟩:=p
  cases o with
  | error e=>rfl
  | ok x =>
   simp only
   cases mb ρ1 with
   | none=>rfl
   | some p =>
    obtain ⟨o,ρ2⟩:=p
    cases o with
    | error e=>rfl
    | ok y=>rfl
def unK (f:A → Option Rr) (x:Rr) (ρ:List Sl):Option (Except Str Rr × List Sl):=match res ρ x with
 | some a=>match f a with
  | some r=>some (.ok r,ρ)
  | none=>none
 | none=>none
theorem Ol (f:A → Option Rr) (m:Mi Rr):mUn f m ρ = (match m ρ with | some (.ok x,ρ1)=>unK f x ρ1 | some (.error e,ρ1)=>some (.error e,ρ1) | none=>none):=by
 unfold mUn aT
 cases m ρ with
 | none=>rfl
 | some p =>
  obtain ⟨o,ρ1⟩:=p
  cases o with
  | error e=>rfl
  | ok x=>rfl
theorem NY (f:A → Option Rr) (m:Mi Rr):mB1 f m ρ = mUn f m ρ:=rfl
theorem NH (f:A → A → Option Rr) (m n:Mi Rr):mB2 f m n ρ = mOp f m n ρ:=rfl
def Es (r:Rr) (ρ:List Sl):Option (Except Str Bool × List Sl):=match asB r with
 | some b=>some (.ok b,ρ)
 | none=>none
theorem Hm (m:Mi Rr):aK m ρ = (match m ρ with | some (.ok x,ρ1)=>Es x ρ1 | some (.error e,ρ1)=>some (.error e,ρ1) | none=>none):=by
 unfold aK aT
 cases m ρ with
 | none=>rfl
 | some p =>
  obtain ⟨o,ρ1⟩:=p
  cases o with
  | error e=>rfl
  | ok x=>rfl
theorem D6 (k:Bool):Es (.fr (.bl k)) ρ = some (.ok k,ρ):=rfl
theorem KG (m n:Mi Bool):Ou m n ρ = (match m ρ with | some (.ok true,ρ1)=>n ρ1 | some (.ok false,ρ1)=>some (.ok false,ρ1) | some (.error e,ρ1)=>some (.error e,ρ1) | none=>none):=by
 unfold Ou aT
 cases m ρ with
 | none=>rfl
 | some p=>obtain ⟨o,ρ1⟩:=p; cases o with | error e=>rfl | ok k=>cases k <;> rfl
theorem NR (m n:Mi Bool):mOr m n ρ = (match m ρ with | some (.ok true,ρ1)=>some (.ok true,ρ1) | some (.ok false,ρ1)=>n ρ1 | some (.error e,ρ1)=>some (.error e,ρ1) | none=>none):=by
 unfold mOr aT
 cases m ρ with
 | none=>rfl
 | some p=>obtain ⟨o,ρ1⟩:=p; cases o with | error e=>rfl | ok k=>cases k <;> rfl
theorem Ks (m:Mi Bool):jR m ρ = (match m ρ with | some (.ok k,ρ1)=>some (.ok (!k),ρ1) | some (.error e,ρ1)=>some (.error e,ρ1) | none=>none):=by
 unfold jR aT
 cases m ρ with
 | none=>rfl
 | some p =>
  obtain ⟨o,ρ1⟩:=p
  cases o with
  | error e=>rfl
  | ok x=>rfl
theorem FJ (m n:Mi Rr):EF m n ρ = (match aK m ρ with | some (.ok true,ρ1)=>n ρ1 | some (.ok false,ρ1)=>some (.ok (.fr (.bl false)),ρ1) | some (.error e,ρ1)=>some (.error e,ρ1) | none=>none):=by
 unfold EF aT
 cases aK m ρ with
 | none=>rfl
 | some p=>obtain ⟨o,ρ1⟩:=p; cases o with | error e=>rfl | ok k=>cases k <;> rfl
theorem K3 (m n:Mi Rr):Pa m n ρ = (match aK m ρ with | some (.ok true,ρ1)=>some (.ok (.fr (.bl true)),ρ1) | some (.ok false,ρ1)=>n ρ1 | some (.error e,ρ1)=>some (.error e,ρ1) | none=>none):=by
 unfold Pa aT
 cases aK m ρ with
 | none=>rfl
 | some p=>obtain ⟨o,ρ1⟩:=p; cases o with | error e=>rfl | ok k=>cases k <;> rfl
theorem FZ (m:Mi Rr):DM m ρ = (match aK m ρ with | some (.ok k,ρ1)=>some (.ok (.fr (.bl (!k))),ρ1) | some (.error e,ρ1)=>some (.error e,ρ1) | none=>none):=by
 unfold DM aT
 cases aK m ρ with
 | none=>rfl
 | some p =>
  obtain ⟨o,ρ1⟩:=p
  cases o with
  | error e=>rfl
  | ok x=>rfl
theorem NK (t:Mi Bool) (m n:Mi Rr):mIf t m n ρ = (match t ρ with | some (.ok true,ρ1)=>m ρ1 | some (.ok false,ρ1)=>n ρ1 | some (.error e,ρ1)=>some (.error e,ρ1) | none=>none):=by
 unfold mIf aT
 cases t ρ with
 | none=>rfl
 | some p=>obtain ⟨o,ρ1⟩:=p; cases o with | error e=>rfl | ok k=>cases k <;> rfl
theorem K0:aD ρ = some (.ok [],ρ):=rfl
theorem G6 (m:Mi Rr) (n:Mi (List Rr)):ag m n ρ = (match m ρ with | some (.ok x,ρ1)=>(match n ρ1 with | some (.ok xs,ρ2)=>some (.ok (x :: xs),ρ2) | some (.error e,ρ2)=>some (.error e,ρ2) | none=>none) | some (.error e,ρ1)=>some (.error e,ρ1) | none=>none):=by
 unfold ag aT
 cases m ρ with
 | none=>rfl
 | some p =>
  obtain ⟨o,ρ1⟩:=p
  cases o with
  | error e=>rfl
  | ok x =>
   simp only
   cases n ρ1 with
   | none=>rfl
   | some p =>
    obtain ⟨o,ρ2⟩:=p
    cases o with
    | error e=>rfl
    | ok y=>rfl
def tupK (rs:List Rr) (ρ:List Sl):Option (Except Str Rr × List Sl):=match jD rs ρ with
 | some (as,ρ')=>if as.length ≤ 1000 then some (.ok (.fr (.tup as)),ρ') else none
 | none=>none
theorem KP (m:Mi (List Rr)):dP m ρ = (match m ρ with | some (.ok x,ρ1)=>tupK x ρ1 | some (.error e,ρ1)=>some (.error e,ρ1) | none=>none):=by
 unfold dP aT
 cases m ρ with
 | none=>rfl
 | some p =>
  obtain ⟨o,ρ1⟩:=p
  cases o with
  | error e=>rfl
  | ok x=>rfl
def lstK (rs:List Rr) (ρ:List Sl):Option (Except Str Rr × List Sl):=match jD rs ρ with
 | some (as,ρ')=>if as.length ≤ 1000 then some (.ok (.nw (.lst as)),ρ') else none
 | none=>none
theorem Kr (m:Mi (List Rr)):xt m ρ = (match m ρ with | some (.ok x,ρ1)=>lstK x ρ1 | some (.error e,ρ1)=>some (.error e,ρ1) | none=>none):=by
 unfold xt aT
 cases m ρ with
 | none=>rfl
 | some p =>
  obtain ⟨o,ρ1⟩:=p
  cases o with
  | error e=>rfl
  | ok x=>rfl
theorem Hf (f:Ms) (das:List A) (m:Mi (List Rr)):aC f das m ρ = (match m ρ with | some (.ok x,ρ1)=>fE f das x ρ1 | some (.error e,ρ1)=>some (.error e,ρ1) | none=>none):=by
 unfold aC aT
 cases m ρ with
 | none=>rfl
 | some p =>
  obtain ⟨o,ρ1⟩:=p
  cases o with
  | error e=>rfl
  | ok x=>rfl
theorem gu (m n:Ms):aY m n ρ = (match m ρ with | some (.nx,ρ1)=>n ρ1 | r=>r):=rfl
theorem G4:bZ ρ = some (.nx,ρ):=rfl
def Mo (i:Nat) (r:Rr) (ρ:List Sl):Option (Fl × List Sl):=match stT r ρ with
 | some (t,ρ1)=>match put i t ρ1 with
  | some ρ2=>some (.nx,ρ2)
  | none=>none
 | none=>none
theorem K6 (i:Nat) (m:Mi Rr):bG i m ρ = (match m ρ with | some (.ok x,ρ1)=>Mo i x ρ1 | some (.error e,ρ1)=>some (.ex e,ρ1) | none=>none):=by
 unfold bG eo
 cases m ρ with
 | none=>rfl
 | some p =>
  obtain ⟨o,ρ1⟩:=p
  cases o with
  | error e=>rfl
  | ok x=>rfl
def Nf (r:Rr) (ρ:List Sl):Option (Fl × List Sl):=match GB r ρ with
 | some (s,ρ')=>some (.rt s,ρ')
 | none=>none
theorem KR (m:Mi Rr):cK m ρ = (match m ρ with | some (.ok x,ρ1)=>Nf x ρ1 | some (.error e,ρ1)=>some (.ex e,ρ1) | none=>none):=by
 unfold cK eo
 cases m ρ with
 | none=>rfl
 | some p =>
  obtain ⟨o,ρ1⟩:=p
  cases o with
  | error e=>rfl
  | ok x=>rfl
theorem Gj:Nx ρ = some (.rt (.fr .non),ρ):=rfl
theorem GK (m:Mi Rr):vD m ρ = (match m ρ with | some (.ok _,ρ1)=>some (.nx,ρ1) | some (.error e,ρ1)=>some (.ex e,ρ1) | none=>none):=by
 unfold vD eo
 cases m ρ with
 | none=>rfl
 | some p =>
  obtain ⟨o,ρ1⟩:=p
  cases o with
  | error e=>rfl
  | ok x=>rfl
theorem Kz (t:Mi Bool) (m n:Ms):sIf t m n ρ = (match t ρ with | some (.ok true,ρ1)=>m ρ1 | some (.ok false,ρ1)=>n ρ1 | some (.error e,ρ1)=>some (.ex e,ρ1) | none=>none):=by
 unfold sIf eo
 cases t ρ with
 | none=>rfl
 | some p=>obtain ⟨o,ρ1⟩:=p; cases o with | error e=>rfl | ok k=>cases k <;> rfl
theorem KA (loc:Nat) (m:Ms):gw loc m ρ = (match m (ρ ++ List.replicate loc .un) with | some (.nx,ρ')=>some (.rt (.fr .non),ρ') | some (.rt s,ρ')=>some (.rt s,ρ') | some (.ex x,ρ')=>some (.ex x,ρ') | _=>none):=by
 unfold gw
 cases m (ρ ++ List.replicate loc .un) with
 | none=>rfl
 | some p=>obtain ⟨f,ρ1⟩:=p; cases f <;> rfl
theorem Kt (m:Mi (List A)) (G:Mg) (b:Ms):vV m G b ρ = (match m ρ with | some (.ok as,ρ1)=>forL G b as ρ1 | some (.error e,ρ1)=>some (.ex e,ρ1) | none=>none):=by
 unfold vV eo
 cases m ρ with
 | none=>rfl
 | some p =>
  obtain ⟨o,ρ1⟩:=p
  cases o with
  | error e=>rfl
  | ok x=>rfl
theorem Aw (n:Nat) (t:Mi Bool) (b:Ms):rP n t b ρ = l8 t b n ρ:=rfl
def Lo (r:Rr) (ρ:List Sl):Option (Except Str (List A) × List Sl):=match dr r ρ with
 | some (a,ρ')=>match zQ a with
  | some as=>some (.ok as,ρ')
  | none=>none
 | none=>none
theorem Hi (m:Mi Rr):sH m ρ = (match m ρ with | some (.ok x,ρ1)=>Lo x ρ1 | some (.error e,ρ1)=>some (.error e,ρ1) | none=>none):=by
 unfold sH aT
 cases m ρ with
 | none=>rfl
 | some p =>
  obtain ⟨o,ρ1⟩:=p
  cases o with
  | error e=>rfl
  | ok x=>rfl
def G9 (r:Rr) (ρ:List Sl):Option (Except Str (List A) × List Sl):=match res ρ r with
 | some (.int j)=>if -(2 ^ 60) ≤ j ∧ j < 2 ^ 60 then some (.ok (tR 0 j.toNat),ρ) else none
 | _=>none
theorem Ha (m:Mi Rr):BC m ρ = (match m ρ with | some (.ok x,ρ1)=>G9 x ρ1 | some (.error e,ρ1)=>some (.error e,ρ1) | none=>none):=by
 unfold BC aT
 cases m ρ with
 | none=>rfl
 | some p =>
  obtain ⟨o,ρ1⟩:=p
  cases o with
  | error e=>rfl
  | ok x=>rfl
def wQ (n:Nat) (G:Mg) (t:Mi Bool) (e:Mi Rr) (as:List A) (ρ:List Sl):Option (Except Str Rr × List Sl):=if as.length ≤ 100000 then match pO G t e as [] (ρ ++ List.replicate n .un) with
 | some (ys,ρ')=>some (.ok (.nw (.lst ys)),ρ'.take ρ.length)
 | none=>none else none
theorem Hj (n:Nat) (mi:Mi (List A)) (G:Mg) (t:Mi Bool) (e:Mi Rr):pA n mi G t e ρ = (match mi ρ with | some (.ok as,ρ1)=>wQ n G t e as ρ1 | some (.error x,ρ1)=>some (.error x,ρ1) | none=>none):=by
 unfold pA aT
 cases mi ρ with
 | none=>rfl
 | some p =>
  obtain ⟨o,ρ1⟩:=p
  cases o with
  | error e=>rfl
  | ok x=>rfl
theorem G7:rA ρ = some (.ok true,ρ):=rfl
def Nj (G:Mg) (r:Rr) (ρ:List Sl):Option (Fl × List Sl):=match dr r ρ with
 | some (a,ρ1)=>match G a ρ1 with
  | some ρ2=>some (.nx,ρ2)
  | none=>none
 | none=>none
theorem Kh (m:Mi Rr) (G:Mg):Ot m G ρ = (match m ρ with | some (.ok x,ρ1)=>Nj G x ρ1 | some (.error e,ρ1)=>some (.ex e,ρ1) | none=>none):=by
 unfold Ot eo
 cases m ρ with
 | none=>rfl
 | some p =>
  obtain ⟨o,ρ1⟩:=p
  cases o with
  | error e=>rfl
  | ok x=>rfl
def Nk (i j:Nat) (rs:List Rr) (ρ:List Sl):Option (Fl × List Sl):=match jD rs ρ with
 | some ([a,b],ρ1)=>match put i (.fr a) ρ1 with
  | some ρ2=>match put j (.fr b) ρ2 with
   | some ρ3=>some (.nx,ρ3)
   | none=>none
  | none=>none
 | _=>none
theorem K5 (i j:Nat) (m:Mi (List Rr)):HG i j m ρ = (match m ρ with | some (.ok x,ρ1)=>Nk i j x ρ1 | some (.error e,ρ1)=>some (.ex e,ρ1) | none=>none):=by
 unfold HG eo
 cases m ρ with
 | none=>rfl
 | some p =>
  obtain ⟨o,ρ1⟩:=p
  cases o with
  | error e=>rfl
  | ok x=>rfl
def Le (i:Nat) (r:Rr) (ρ:List Sl):Option (Except Str Rr × List Sl):=match dr r ρ with
 | some (a,ρ1)=>match ck ρ1 i with
  | some (.lst xs)=>if xs.length ≤ 100000 then some (.ok (.fr .non),setAt ρ1 i (.lst (xs ++ [a]))) else none
  | _=>none
 | none=>none
theorem KJ (i:Nat) (m:Mi Rr):Bw i (oj i m) ρ = (if isL ρ i then (match m ρ with | some (.ok x,ρ1)=>Le i x ρ1 | some (.error e,ρ1)=>some (.error e,ρ1) | none=>none) else none):=by
 unfold Bw oj aT
 split
 ·cases m ρ with
  | none=>rfl
  | some p=>obtain ⟨o,ρ1⟩:=p; cases o <;> rfl
 ·rfl
def ixK (i:Nat) (r rk:Rr) (ρ:List Sl):Option (Fl × List Sl):=match dr r ρ with
 | some (a,ρ1)=>match res ρ1 rk,ck ρ1 i with
  | some (.int k),some (.lst xs)=>match ixN xs.length k with
   | some j=>some (.nx,setAt ρ1 i (.lst (xs.set j a)))
   | none=>none
  | _,_=>none
 | none=>none
theorem DO (i:Nat) (mk m:Mi Rr):xJ i mk m ρ = (match m ρ with | some (.ok r,ρ0)=>(if isL ρ0 i then (match mk ρ0 with | some (.ok rk,ρ1)=>ixK i r rk ρ1 | some (.error e,ρ1)=>some (.ex e,ρ1) | none=>none) else none) | some (.error e,ρ1)=>some (.ex e,ρ1) | none=>none):=by
 unfold xJ eo
 cases m ρ with
 | none=>rfl
 | some p =>
  obtain ⟨o,ρ1⟩:=p
  cases o with
  | error e=>rfl
  | ok x =>
   simp only
   split
   ·cases mk ρ1 with
    | none=>rfl
    | some p=>obtain ⟨o,ρ2⟩:=p; cases o <;> rfl
   ·rfl
def dK (i:Nat) (r rk:Rr) (ρ:List Sl):Option (Fl × List Sl):=match dr r ρ with
 | some (a,ρ1)=>match res ρ1 rk,ck ρ1 i with
  | some ka,some (.dic kvs)=>match kq ka with
   | some y=>if kvs.length ≤ 100000 then some (.nx,setAt ρ1 i (.dic (xn kvs y a))) else none
   | none=>none
  | _,_=>none
 | none=>none
theorem FC (i:Nat) (mk m:Mi Rr):rJ i mk m ρ = (match m ρ with | some (.ok r,ρ0)=>(if EZ ρ0 i then (match mk ρ0 with | some (.ok rk,ρ1)=>dK i r rk ρ1 | some (.error e,ρ1)=>some (.ex e,ρ1) | none=>none) else none) | some (.error e,ρ1)=>some (.ex e,ρ1) | none=>none):=by
 unfold rJ eo
 cases m ρ with
 | none=>rfl
 | some p =>
  obtain ⟨o,ρ1⟩:=p
  cases o with
  | error e=>rfl
  | ok x =>
   simp only
   split
   ·cases mk ρ1 with
    | none=>rfl
    | some p=>obtain ⟨o,ρ2⟩:=p; cases o <;> rfl
   ·rfl
theorem FY:F3 ρ = some (.ok (.nw (.dic [])),ρ):=rfl
def Fy (d k x:Rr) (ρ:List Sl):Option (Except Str Rr × List Sl):=match res ρ d,res ρ k with
  | some (.dic kvs),some ka=>match kq ka with
   | some y=>match qM kvs y with
    | some a=>some (.ok (.fr a),ρ)
    | none=>match dr x ρ with
     | some (a,ρ1)=>some (.ok (.fr a),ρ1)
     | none=>none
   | none=>none
  | _,_=>none
def Eo:Option A → Bool
 | some (.dic _)=>true
 | _=>false
theorem Fv (md mk mx:Mi Rr):xk md mk mx ρ = (match md ρ with | some (.ok d,ρ0)=>(if Eo (res ρ0 d) then (match mk ρ0 with | some (.ok k,ρ1)=>(match mx ρ1 with | some (.ok x,ρ2)=>Fy d k x ρ2 | some (.error e,ρ2)=>some (.error e,ρ2) | none=>none) | some (.error e,ρ1)=>some (.error e,ρ1) | none=>none) else none) | some (.error e,ρ1)=>some (.error e,ρ1) | none=>none):=by
 unfold xk aT
 cases md ρ with
 | none=>rfl
 | some p =>
  obtain ⟨o,ρ1⟩:=p
  cases o with
  | error e=>rfl
  | ok d =>
   simp only
   cases e:res ρ1 d with
   | none=>rfl
   | some a =>
    cases a <;> first | rfl | skip
    simp only [Eo,if_true]
    cases mk ρ1 with
    | none=>rfl
    | some p =>
     obtain ⟨o,ρ2⟩:=p
     cases o with
     | error e=>rfl
     | ok y =>
      simp only
      cases mx ρ2 with
      | none=>rfl
      | some p=>obtain ⟨o,ρ3⟩:=p; cases o <;> rfl
theorem Ej (x:Str) (m:Mi (List Rr)):p7 x m ρ = (match m ρ with | some (.ok rs,ρ1)=>(if rs.length ≤ 10 then some (.ex x,ρ1) else none) | some (.error e,ρ1)=>some (.ex e,ρ1) | none=>none):=by
 unfold p7 eo
 cases m ρ with
 | none=>rfl
 | some p =>
  obtain ⟨o,ρ1⟩:=p
  cases o with
  | error e=>rfl
  | ok x=>rfl
def s1K (f:Str → A → Option Rr) (z:Str) (y:Rr) (ρ:List Sl):Option (Except Str Rr × List Sl):=match res ρ y with
  | some a=>match f z a with
   | some r=>some (.ok r,ρ)
   | none=>none
  | none=>none
theorem OK (f:Str → A → Option Rr) (mo m:Mi Rr):mS1 f mo m ρ = (match mo ρ with | some (.ok (.fr (.str z)),ρ0)=>(match m ρ0 with | some (.ok y,ρ1)=>s1K f z y ρ1 | some (.error e,ρ1)=>some (.error e,ρ1) | none=>none) | some (.ok _,_)=>none | some (.error e,ρ1)=>some (.error e,ρ1) | none=>none):=by
 unfold mS1 aT
 cases mo ρ with
 | none=>rfl
 | some p =>
  obtain ⟨o,ρ1⟩:=p
  cases o with
  | error e=>rfl
  | ok d =>
   cases d with
   | rf i=>rfl
   | nw o=>rfl
   | fr a =>
    cases a <;> first | rfl | skip
    simp only
    cases m ρ1 with
    | none=>rfl
    | some p=>obtain ⟨o,ρ2⟩:=p; cases o <;> rfl
def slK (x:Rr) (lo hi:Option Int) (ρ:List Sl):Option (Except Str Rr × List Sl):=match res ρ x with
 | some a=>match fSl a lo hi with
  | some r=>some (.ok r,ρ)
  | none=>none
 | none=>none
theorem NP (m:Mi Rr) (ml mh:Mi (Option Int)):mSl m ml mh ρ = (match m ρ with | some (.ok x,ρ0)=>(match ml ρ0 with | some (.ok lo,ρ1)=>(match mh ρ1 with | some (.ok hi,ρ2)=>slK x lo hi ρ2 | some (.error e,ρ2)=>some (.error e,ρ2) | none=>none) | some (.error e,ρ1)=>some (.error e,ρ1) | none=>none) | some (.error e,ρ1)=>some (.error e,ρ1) | none=>none):=by
 unfold mSl aT
 cases m ρ with
 | none=>rfl
 | some p =>
  obtain ⟨o,ρ1⟩:=p
  cases o with
  | error e=>rfl
  | ok x =>
   simp only
   cases ml ρ1 with
   | none=>rfl
   | some p =>
    obtain ⟨o,ρ2⟩:=p
    cases o with
    | error e=>rfl
    | ok y =>
     simp only
     cases mh ρ2 with
     | none=>rfl
     | some p=>obtain ⟨o,ρ3⟩:=p; cases o <;> rfl
def fzK (r:Rr) (ρ:List Sl):Option (Except Str Rr × List Sl):=match dr r ρ with
 | some (a,ρ')=>some (.ok (.fr a),ρ')
 | none=>none
theorem N4 (m:Mi Rr):mFz m ρ = (match m ρ with | some (.ok x,ρ1)=>fzK x ρ1 | some (.error e,ρ1)=>some (.error e,ρ1) | none=>none):=by
 unfold mFz aT
 cases m ρ with
 | none=>rfl
 | some p =>
  obtain ⟨o,ρ1⟩:=p
  cases o with
  | error e=>rfl
  | ok x=>rfl
theorem B4:js ρ = some (.ok none,ρ):=rfl
def Gp (r:Rr) (ρ:List Sl):Option (Except Str (Option Int) × List Sl):=match res ρ r with
 | some (.int i)=>some (.ok (some i),ρ)
 | _=>none
theorem Gg (m:Mi Rr):qu m ρ = (match m ρ with | some (.ok x,ρ1)=>Gp x ρ1 | some (.error e,ρ1)=>some (.error e,ρ1) | none=>none):=by
 unfold qu aT
 cases m ρ with
 | none=>rfl
 | some p =>
  obtain ⟨o,ρ1⟩:=p
  cases o with
  | error e=>rfl
  | ok x=>rfl
theorem e_J (m:Mi Rr) (n:Mi (List Str)):mJ m n ρ = (match m ρ with | some (.ok (.fr (.str z)),ρ0)=>(if z.length ≤ 1000 then (match n ρ0 with | some (.ok zs,ρ1)=>some (.ok (z :: zs),ρ1) | some (.error e,ρ1)=>some (.error e,ρ1) | none=>none) else none) | some (.ok _,_)=>none | some (.error e,ρ1)=>some (.error e,ρ1) | none=>none):=by
 unfold mJ aT
 cases m ρ with
 | none=>rfl
 | some p =>
  obtain ⟨o,ρ1⟩:=p
  cases o with
  | error e=>rfl
  | ok d =>
   cases d with
   | rf i=>rfl
   | nw o=>rfl
   | fr a =>
    cases a <;> first | rfl | skip
    simp only
    split
    ·cases n ρ1 with
     | none=>rfl
     | some p=>obtain ⟨o,ρ2⟩:=p; cases o <;> rfl
    ·rfl
theorem N6 (m:Mi Rr):mFv m ρ = (match m ρ with | some (.ok (.fr (.str z)),ρ0)=>(if z.length ≤ 1000 then some (.ok (.fr (.str z)),ρ0) else none) | some (.ok _,_)=>none | some (.error e,ρ1)=>some (.error e,ρ1) | none=>none):=by
 unfold mFv aT
 cases m ρ with
 | none=>rfl
 | some p =>
  obtain ⟨o,ρ1⟩:=p
  cases o with
  | error e=>rfl
  | ok d =>
   cases d with
   | rf i=>rfl
   | nw o=>rfl
   | fr a=>cases a <;> rfl
theorem NG (m:Mi (List Str)):mJs m ρ = (match m ρ with | some (.ok zs,ρ1)=>some (.ok (.fr (.str (E9 zs))),ρ1) | some (.error e,ρ1)=>some (.error e,ρ1) | none=>none):=by
 unfold mJs aT
 cases m ρ with
 | none=>rfl
 | some p =>
  obtain ⟨o,ρ1⟩:=p
  cases o with
  | error e=>rfl
  | ok x=>rfl
end
end M
namespace M
open PySem L2 W
section
variable {α β:Type} {ρ:List Sl}
def IH (x y:Rr) (ρ:List Sl):Option (Except Str (List A) × List Sl):=match jD [x,y] ρ with
 | some ([.tup as,.tup bs],ρ')=>some (.ok (Cm as bs),ρ')
 | _=>none
theorem KS (ma mb:Mi Rr):HN ma mb ρ = (match ma ρ with | some (.ok x,ρ1)=>(match mb ρ1 with | some (.ok y,ρ2)=>IH x y ρ2 | some (.error e,ρ2)=>some (.error e,ρ2) | none=>none) | some (.error e,ρ1)=>some (.error e,ρ1) | none=>none):=by
 unfold HN aT IH
 cases ma ρ with
 | none=>rfl
 | some p =>
  obtain ⟨o,ρ1⟩:=p
  cases o with
  | error e=>rfl
  | ok x =>
   simp only
   cases mb ρ1 with
   | none=>rfl
   | some p=>obtain ⟨o,ρ2⟩:=p; cases o <;> rfl
theorem Fw (m:Mi α):yM m ρ = (match m ρ with | some (.ok x,ρ1)=>some (.ok x,ρ1) | _=>none):=rfl
theorem KY (i:Nat) (sub:Str → Bool) (b s:Ms):HV i sub b s ρ = (match b ρ with
 | some (.ex x,ρ1)=>if sub x = true then match put i (.fr (.exc x)) ρ1 with
  | some ρ2=>match s ρ2 with
   | some (.nx,ρ3)=>match put i .un ρ3 with
    | some ρ4=>some (.nx,ρ4)
    | none=>none
   | some (.rt r,ρ3)=>some (.rt r,ρ3)
   | _=>none
  | none=>none else none
 | r=>r):=rfl
def DD (k:Str) (r:Rr) (ρ:List Sl):Option (Except Str Rr × List Sl):=match dr r ρ with
 | some (a,ρ')=>some (.ok (.nw (.dic [(.inr k,a)])),ρ')
 | none=>none
theorem DY (k:Str) (m:Mi Rr):xo k m ρ = (match m ρ with | some (.ok x,ρ1)=>DD k x ρ1 | some (.error e,ρ1)=>some (.error e,ρ1) | none=>none):=by
 unfold xo aT
 cases m ρ with
 | none=>rfl
 | some p=>obtain ⟨o,ρ1⟩:=p; cases o <;> rfl
def G3 (i:Nat) (r:Rr) (ρ:List Sl):Option (Except Str Rr × List Sl):=match res ρ r,ck ρ i with
 | some ka,some (.dic kvs)=>match kq ka with
  | some y=>match qM kvs y with
   | some a=>some (.ok (.fr a),setAt ρ i (.dic (kvs.filter fun kv=>decide (kv.1 ≠ y))))
   | none=>none
  | none=>none
 | _,_=>none
theorem Hb (i:Nat) (m:Mi Rr):Bv i m ρ = (if GZ ρ i = true then (match m ρ with | some (.ok x,ρ1)=>G3 i x ρ1 | some (.error e,ρ1)=>some (.error e,ρ1) | none=>none) else none):=by
 unfold Bv aT
 split
 ·cases m ρ with
  | none=>rfl
  | some p=>obtain ⟨o,ρ1⟩:=p; cases o <;> rfl
 ·rfl
theorem Jn {G:Mg} {b:Ms} {as:List A} {x:Str} (P:Nat → List Sl → Prop) {ρ:List Sl} (j:Nat) (h0:P 0 ρ) (hs:∀ i a ρ,i < j → as[i]? = some a → P i ρ → ∃ ρ1 ρ2,G a ρ = some ρ1 ∧ (b ρ1 = some (.nx,ρ2) ∨ b ρ1 = some (.ct,ρ2)) ∧ P (i + 1) ρ2)
  (he:∀ ρ,P j ρ → ∃ a ρ1 ρ2,as[j]? = some a ∧ G a ρ = some ρ1 ∧ b ρ1 = some (.ex x,ρ2)) (hj:j < as.length):∃ ρ',forL G b as ρ = some (.ex x,ρ'):=by
 have key:∀ n i ρ,j - i = n → i ≤ j → P i ρ → ∃ ρ',forL G b (as.drop i) ρ = some (.ex x,ρ'):=by
  intro n
  induction n with
  | zero =>
   intro i ρ e hi p
   have:i = j:=by omega
   subst this
   obtain ⟨a,ρ1,ρ2,e1,e2,e3⟩:=he ρ p
   refine ⟨ρ2,?_⟩
   have e4:=(List.getElem?_eq_some_iff.mp e1).2
   rw [List.drop_eq_getElem_cons hj,forL,e4,e2]
   simp only [e3]
  | succ n ih =>
   intro i ρ e hi p
   have hlt:i < as.length:=by omega
   obtain ⟨ρ1,ρ2,h1,h2,h3⟩:=hs i as[i] ρ (by omega) (by simp [hlt]) p
   obtain ⟨ρ',h4⟩:=ih (i + 1) ρ2 (by omega) (by omega) h3
   refine ⟨ρ',?_⟩
   rw [List.drop_eq_getElem_cons hlt,forL,h1]
   rcases h2 with h2 | h2
   ·simp only [h2]; exact h4
   ·simp only [h2]; exact h4
 simpa using key j 0 ρ (by simp) (Nat.zero_le _) h0
end
end M
set_option maxHeartbeats 4000000
namespace W
open PySem L2
def top (i:Nat):Stmt:=PySem.Challenge.pw_fitwhatever_k05_sums_reckoned.main.body.getD i (.Pass ⟨0,0,0,0⟩)
abbrev di:Stmt:=top 6
abbrev dq:Stmt:=top 7
abbrev uI:Stmt:=top 8
abbrev qx:Stmt:=top 9
abbrev dI:Stmt:=top 11
abbrev hB:Stmt:=top 12
abbrev eJ:Stmt:=top 13
abbrev dA:Stmt:=top 14
abbrev eZ:Stmt:=top 15
abbrev eV:Stmt:=top 16
abbrev dE:Stmt:=top 18
abbrev eG:Stmt:=top 19
abbrev fg:Stmt:=top 20
abbrev gZ:Stmt:=top 21
abbrev jj:Stmt:=top 22
abbrev jk:Stmt:=top 23
abbrev dJ:Stmt:=top 24
abbrev eM:Stmt:=top 25
abbrev gk:Stmt:=top 26
abbrev cp:Stmt:=top 27
abbrev cf:Stmt:=top 28
abbrev bL:Stmt:=top 29
abbrev cX:Stmt:=top 30
abbrev bM:Stmt:=top 31
abbrev cJ:Stmt:=top 32
abbrev cq:Stmt:=top 33
abbrev bS:Stmt:=top 34
abbrev bD:Stmt:=top 35
abbrev du:Stmt:=top 36
structure Adr where
 eh:Addr
 dk:FuncData
 fC:Addr
 eB:FuncData
 xu:Addr
 vz:FuncData
 sS:Addr
 qE:FuncData
 pJ:Addr
 mL:FuncData
 kB:Addr
 jm:FuncData
 jK:Addr
 il:FuncData
 jC:Addr
 ik:FuncData
 qj:Addr
 m8:FuncData
 iH:Addr
 gr:FuncData
 jT:Addr
 ib:FuncData
 jS:Addr
 hY:FuncData
 gP:Addr
 ff:FuncData
 kC:Addr
 i5:FuncData
 kN:Addr
 jf:FuncData
 kn:Addr
 ji:FuncData
 gL:Addr
 e9:FuncData
 iG:Addr
 gn:FuncData
 mS:Addr
 kj:FuncData
 jG:Addr
 hJ:FuncData
 iP:Addr
 gq:FuncData
 gJ:Addr
 fc:FuncData
 kW:Addr
 i8:FuncData
 kX:Addr
 jc:FuncData
 iJ:Addr
 gm:FuncData
 jB:Addr
 hV:FuncData
 iS:Addr
 gh:FuncData
 iI:Addr
 gb:FuncData
 yK:Addr
 vF:FuncData
 rT:Addr
 ju:Addr
 wx:Addr
 ly:Addr
structure Txt (K:PySem.W.Frag) (mg:Str → Option Value) (a:Adr):Prop where
 lJ:mg "common_divisor" = some (.ref a.eh)
 kP:fW K "common_divisor" "common_divisor" di a.eh a.dk .none
 lF:PySem.W.keepIn K (.ref a.eh) = true
 lV:Binds K a.dk ["a", "b"] []
 gT:mg "lowest_terms" = some (.ref a.fC)
 mZ:fW K "lowest_terms" "lowest_terms" dq a.fC a.eB .none
 gS:PySem.W.keepIn K (.ref a.fC) = true
 gV:Binds K a.eB ["top", "bottom"] []
 zx:mg "plus" = some (.ref a.xu)
 Cb:fW K "plus" "plus" uI a.xu a.vz .none
 Ae:PySem.W.keepIn K (.ref a.xu) = true
 Af:Binds K a.vz ["a", "b"] []
 xF:mg "times" = some (.ref a.sS)
 zp:fW K "times" "times" qx a.sS a.qE .none
 wM:PySem.W.keepIn K (.ref a.sS) = true
 wH:Binds K a.qE ["a", "b"] []
 u7:mg "sum_of" = some (.ref a.pJ)
 wm:fW K "sum_of" "sum_of" dI a.pJ a.mL .none
 uE:PySem.W.keepIn K (.ref a.pJ) = true
 uF:Binds K a.mL ["number", "pairs"] []
 oU:mg "sum_plus" = some (.ref a.kB)
 tU:fW K "sum_plus" "sum_plus" hB a.kB a.jm .none
 qk:PySem.W.keepIn K (.ref a.kB) = true
 oT:Binds K a.jm ["a", "b"] []
 tP:mg "sum_minus" = some (.ref a.jK)
 rC:fW K "sum_minus" "sum_minus" eJ a.jK a.il .none
 tI:PySem.W.keepIn K (.ref a.jK) = true
 ub:Binds K a.il ["a", "b"] []
 nj:mg "sum_times" = some (.ref a.jC)
 rH:fW K "sum_times" "sum_times" dA a.jC a.ik .none
 nO:PySem.W.keepIn K (.ref a.jC) = true
 nJ:Binds K a.ik ["a", "number"] []
 u6:mg "sum_at" = some (.ref a.qj)
 wB:fW K "sum_at" "sum_at" eZ a.qj a.m8 .none
 vv:PySem.W.keepIn K (.ref a.qj) = true
 uQ:Binds K a.m8 ["a", "making"] []
 qT:mg "sum_called" = some (.ref a.iH)
 pf:fW K "sum_called" "sum_called" eV a.iH a.gr .none
 qV:PySem.W.keepIn K (.ref a.iH) = true
 rG:Binds K a.gr ["a", "word"] []
 uu:mg "_law_well" = some (.ref a.jT)
 rq:fW K "_law_well" "_law_well" dE a.jT a.ib .none
 tQ:PySem.W.keepIn K (.ref a.jT) = true
 uo:Binds K a.ib ["_law_script", "_law_k"] []
 ba:mg "_law_take" = some (.ref a.jS)
 qR:fW K "_law_take" "_law_take" eG a.jS a.hY .none
 bb:PySem.W.keepIn K (.ref a.jS) = true
 aZ:Binds K a.hY ["_law_well_here", "_law_many"] []
 p0:mg "_law_common" = some (.ref a.gP)
 oF:fW K "_law_common" "_law_common" fg a.gP a.ff .none
 qp:PySem.W.keepIn K (.ref a.gP) = true
 oZ:Binds K a.ff ["_law_one", "_law_other"] []
 jO:mg "_law_num" = some (.ref a.kC)
 ux:fW K "_law_num" "_law_num" gZ a.kC a.i5 .none
 jE:PySem.W.keepIn K (.ref a.kC) = true
 jH:Binds K a.i5 ["_law_top", "_law_bottom"] []
 lU:mg "_law_add" = some (.ref a.kN)
 uq:fW K "_law_add" "_law_add" jj a.kN a.jf .none
 lM:PySem.W.keepIn K (.ref a.kN) = true
 lG:Binds K a.jf ["_law_one", "_law_other"] []
 lB:mg "_law_mul" = some (.ref a.kn)
 uk:fW K "_law_mul" "_law_mul" jk a.kn a.ji .none
 lA:PySem.W.keepIn K (.ref a.kn) = true
 lI:Binds K a.ji ["_law_one", "_law_other"] []
 fA:mg "_law_number" = some (.ref a.gL)
 oE:fW K "_law_number" "_law_number" dJ a.gL a.e9 .none
 fK:PySem.W.keepIn K (.ref a.gL) = true
 fI:Binds K a.e9 ["_law_well_here"] []
 mH:mg "_law_whole" = some (.ref a.iG)
 qf:fW K "_law_whole" "_law_whole" eM a.iG a.gn .none
 mm:PySem.W.keepIn K (.ref a.iG) = true
 l9:Binds K a.gn ["_law_found"] []
 kT:mg "_law_is" = some (.ref a.mS)
 vG:fW K "_law_is" "_law_is" gk a.mS a.kj .none
 ku:PySem.W.keepIn K (.ref a.mS) = true
 kG:Binds K a.kj ["_law_found", "_law_due_here"] []
 nQ:mg "_law_name" = some (.ref a.jG)
 rj:fW K "_law_name" "_law_name" cp a.jG a.hJ .none
 oo:PySem.W.keepIn K (.ref a.jG) = true
 nu:Binds K a.hJ ["_law_well_here", "_law_most"] []
 rF:mg "_law_names" = some (.ref a.iP)
 pF:fW K "_law_names" "_law_names" cf a.iP a.gq .none
 rm:PySem.W.keepIn K (.ref a.iP) = true
 rB:Binds K a.gq ["_law_well_here", "_law_many"] []
 fL:mg "_law_is_sum" = some (.ref a.gJ)
 oG:fW K "_law_is_sum" "_law_is_sum" bL a.gJ a.fc .none
 fz:PySem.W.keepIn K (.ref a.gJ) = true
 fD:Binds K a.fc ["_law_found", "_law_due_here"] []
 lR:mg "_law_sum" = some (.ref a.kW)
 tO:fW K "_law_sum" "_law_sum" cX a.kW a.i8 .none
 lD:PySem.W.keepIn K (.ref a.kW) = true
 lK:Binds K a.i8 ["_law_well_here", "_law_names_here"] []
 jQ:mg "_law_due" = some (.ref a.kX)
 t4:fW K "_law_due" "_law_due" bM a.kX a.jc .none
 jw:PySem.W.keepIn K (.ref a.kX) = true
 jP:Binds K a.jc ["_law_one", "_law_other", "_law_much"] []
 mv:mg "_law_value" = some (.ref a.iJ)
 pV:fW K "_law_value" "_law_value" cJ a.iJ a.gm .none
 mz:PySem.W.keepIn K (.ref a.iJ) = true
 mE:Binds K a.gm ["_law_some", "_law_making"] []
 sT:mg "_law_told" = some (.ref a.jB)
 qU:fW K "_law_told" "_law_told" cq a.jB a.hV .none
 tu:PySem.W.keepIn K (.ref a.jB) = true
 ur:Binds K a.hV ["_law_some", "_law_making"] []
 rh:mg "_law_lacks" = some (.ref a.iS)
 qr:fW K "_law_lacks" "_law_lacks" bS a.iS a.gh .none
 rg:PySem.W.keepIn K (.ref a.iS) = true
 qX:Binds K a.gh ["_law_some", "_law_making", "_law_name_here"] []
 mw:mg "_law_right" = some (.ref a.iI)
 ph:fW K "_law_right" "_law_right" bD a.iI a.gb .none
 l7:PySem.W.keepIn K (.ref a.iI) = true
 mq:Binds K a.gb ["_law_one", "_law_other", "_law_number_here", "_law_word"] []
 Mw:mg "law" = some (.ref a.yK)
 DP:fW K "law" "law" du a.yK a.vF .none
 LS:PySem.W.keepIn K (.ref a.yK) = true
 LA:Binds K a.vF ["_law_script"] []
 qW:mg "len" = none
 cG:mg "isinstance" = none
 HK:mg "abs" = none
 KO:mg "max" = none
 KL:mg "min" = none
 BS:mg "int" = none
 FF:mg "bool" = none
 K1:mg "str" = none
 jq:mg "tuple" = none
 Hh:mg "list" = none
 xC:mg "dict" = none
 A4:mg "range" = none
 sR:mg "ValueError" = none
 tE:mg "sorted" = none
 Kf:mg "zip" = none
 vI:mg "FitError" = some (.ref a.rT)
 m7:mg "NoSum" = some (.ref a.ju)
 AG:mg "ZERO" = some (.ref a.wx)
 tL:mg "MINUS_ONE" = some (.ref a.ly)
 zz:∀ G,M.RA ⟨K,mg⟩ G (.ref a.wx) (.tup [(.int 0),(.int 1)])
 tW:∀ G,M.RA ⟨K,mg⟩ G (.ref a.ly) (.tup [(.int (-1)),(.int 1)])
 Cd:PySem.W.excIn K a.ju D3 "ValueError.__new__" = true
 xr:qG K a.ju
 oA:PySem.W.kitOne K (.ref a.ju) (.ref a.ju) = some true
 jI:PySem.W.kitOne K (.ref a.ju) (.type "ValueError") = some true
 kE:PySem.W.exmOne K (.ref a.ju) (.ref a.rT) = some true
theorem tS:bC ["a", "b", "rest"] ["a", "b"] (aa di):=⟨rfl,rfl,rfl,by decide +kernel,rfl,by decide +kernel,by decide +kernel⟩
theorem vX:bC ["top", "bottom", "divisor"] ["top", "bottom"] (aa dq):=⟨rfl,rfl,rfl,by decide +kernel,rfl,by decide +kernel,by decide +kernel⟩
theorem Ie:bC ["a", "b"] ["a", "b"] (aa uI):=⟨rfl,rfl,rfl,by decide +kernel,rfl,by decide +kernel,by decide +kernel⟩
theorem HF:bC ["a", "b"] ["a", "b"] (aa qx):=⟨rfl,rfl,rfl,by decide +kernel,rfl,by decide +kernel,by decide +kernel⟩
theorem Ff:bC ["number", "pairs", "factors", "name", "factor"] ["number", "pairs"] (aa dI):=⟨rfl,rfl,rfl,by decide +kernel,rfl,by decide +kernel,by decide +kernel⟩
theorem BH:bC ["a", "b"] ["a", "b"] (aa hB):=⟨rfl,rfl,rfl,by decide +kernel,rfl,by decide +kernel,by decide +kernel⟩
theorem AR:bC ["a", "b"] ["a", "b"] (aa eJ):=⟨rfl,rfl,rfl,by decide +kernel,rfl,by decide +kernel,by decide +kernel⟩
theorem zL:bC ["a", "number"] ["a", "number"] (aa dA):=⟨rfl,rfl,rfl,by decide +kernel,rfl,by decide +kernel,by decide +kernel⟩
theorem EM:bC ["a", "making", "top", "bottom", "name", "factor", "value"] ["a", "making"] (aa eZ):=⟨rfl,rfl,rfl,by decide +kernel,rfl,by decide +kernel,by decide +kernel⟩
theorem yI:bC ["a", "word"] ["a", "word"] (aa eV):=⟨rfl,rfl,rfl,by decide +kernel,rfl,by decide +kernel,by decide +kernel⟩
theorem zZ:bC ["_law_script", "_law_k", "_law_cell"] ["_law_script", "_law_k"] (aa dE):=⟨rfl,rfl,rfl,by decide +kernel,rfl,by decide +kernel,by decide +kernel⟩
theorem zU:bC ["_law_well_here", "_law_many", "_law_digit", "_law_turn", "_law_number_here"] ["_law_well_here", "_law_many"] (aa eG):=⟨rfl,rfl,rfl,by decide +kernel,rfl,by decide +kernel,by decide +kernel⟩
theorem xP:bC ["_law_one", "_law_other"] ["_law_one", "_law_other"] (aa fg):=⟨rfl,rfl,rfl,by decide +kernel,rfl,by decide +kernel,by decide +kernel⟩
theorem Bz:bC ["_law_top", "_law_bottom", "_law_by"] ["_law_top", "_law_bottom"] (aa gZ):=⟨rfl,rfl,rfl,by decide +kernel,rfl,by decide +kernel,by decide +kernel⟩
theorem BA:bC ["_law_one", "_law_other"] ["_law_one", "_law_other"] (aa jj):=⟨rfl,rfl,rfl,by decide +kernel,rfl,by decide +kernel,by decide +kernel⟩
theorem BE:bC ["_law_one", "_law_other"] ["_law_one", "_law_other"] (aa jk):=⟨rfl,rfl,rfl,by decide +kernel,rfl,by decide +kernel,by decide +kernel⟩
theorem xM:bC ["_law_well_here", "_law_way"] ["_law_well_here"] (aa dJ):=⟨rfl,rfl,rfl,by decide +kernel,rfl,by decide +kernel,by decide +kernel⟩
theorem yx:bC ["_law_found"] ["_law_found"] (aa eM):=⟨rfl,rfl,rfl,by decide +kernel,rfl,by decide +kernel,by decide +kernel⟩
theorem C7:bC ["_law_found", "_law_due_here"] ["_law_found", "_law_due_here"] (aa gk):=⟨rfl,rfl,rfl,by decide +kernel,rfl,by decide +kernel,by decide +kernel⟩
theorem Aq:bC ["_law_well_here", "_law_most", "_law_signs", "_law_size"] ["_law_well_here", "_law_most"] (aa cp):=⟨rfl,rfl,rfl,by decide +kernel,rfl,by decide +kernel,by decide +kernel⟩
theorem yC:bC ["_law_well_here", "_law_many", "_law_names_here", "_law_name_here", "_law_turn"] ["_law_well_here", "_law_many"] (aa cf):=⟨rfl,rfl,rfl,by decide +kernel,rfl,by decide +kernel,by decide +kernel⟩
theorem wK:bC ["_law_found", "_law_due_here", "_law_one", "_law_other"] ["_law_found", "_law_due_here"] (aa bL):=⟨rfl,rfl,rfl,by decide +kernel,rfl,by decide +kernel,by decide +kernel⟩
theorem BW:bC ["_law_well_here", "_law_names_here", "_law_pairs", "_law_name_here", "_law_number_here"] ["_law_well_here", "_law_names_here"] (aa cX):=⟨rfl,rfl,rfl,by decide +kernel,rfl,by decide +kernel,by decide +kernel⟩
theorem Co:bC ["_law_one", "_law_other", "_law_much", "_law_factors", "_law_name_here", "_law_factor", "_law_pairs"] ["_law_one", "_law_other", "_law_much"] (aa bM):=⟨rfl,rfl,rfl,by decide +kernel,rfl,by decide +kernel,by decide +kernel⟩
theorem yf:bC ["_law_some", "_law_making", "_law_total", "_law_name_here", "_law_factor"] ["_law_some", "_law_making"] (aa cJ):=⟨rfl,rfl,rfl,by decide +kernel,rfl,by decide +kernel,by decide +kernel⟩
theorem AA:bC ["_law_some", "_law_making", "_law_told_here", "e"] ["_law_some", "_law_making"] (aa cq):=⟨rfl,rfl,rfl,by decide +kernel,rfl,by decide +kernel,by decide +kernel⟩
theorem yc:bC ["_law_some", "_law_making", "_law_name_here", "_law_lesser", "_law_told_here"] ["_law_some", "_law_making", "_law_name_here"] (aa bS):=⟨rfl,rfl,rfl,by decide +kernel,rfl,by decide +kernel,by decide +kernel⟩
theorem yA:bC ["_law_one", "_law_other", "_law_number_here", "_law_word"] ["_law_one", "_law_other", "_law_number_here", "_law_word"] (aa bD):=⟨rfl,rfl,rfl,by decide +kernel,rfl,by decide +kernel,by decide +kernel⟩
theorem K9:bC ["_law_script", "_law_k", "_law_well_here", "_law_names_here", "_law_one", "_law_other", "_law_word", "_law_making", "_law_name_here", "_law_handed"] ["_law_script"] (aa du):=⟨rfl,rfl,rfl,by decide +kernel,rfl,by decide +kernel,by decide +kernel⟩
def eK (e:Expr) (i:Nat):Expr:=(match e with
 | .BoolOp _ vs _=>vs | .BinOp a _ b _=>[a,b] | .UnaryOp _ a _=>[a] | .IfExp a b c _=>[a,b,c] | .Compare a _ bs _=>a :: bs
 | .Call f as _ _=>f :: as | .Attribute v _ _=>[v] | .Subscript a b _=>[a,b] | .List es _=>es | .Tuple es _ _=>es | _=>[]).getD i (.Name "" ⟨0,0,0,0⟩)
def eI (e:Expr):Expr:=match e with
 | .ListComp _ (g :: _) _ _=>g.iter
 | _=>.Name "" ⟨0,0,0,0⟩
def sK (s:Stmt) (i:Nat):Stmt:=(match s with
 | .FunctionDef _ _ b _ _ _ _ _ _ _=>b | .For _ _ b _ _=>b | .While _ b _ _=>b | .If _ b o _=>b ++ o | .Try b _ _ _ _=>b | _=>[]).getD i (.Pass ⟨0,0,0,0⟩)
def sE (s:Stmt):Expr:=match s with
 | .Assign _ v _=>v | .Return (some v) _=>v | .Expr v _=>v | .If t _ _ _=>t | .While t _ _ _=>t | .For _ it _ _ _=>it
 | _=>.Name "" ⟨0,0,0,0⟩
def eS (e:Expr):Scope:=match e with
 | .ListComp _ _ sc _=>sc
 | _=>aa (.Pass ⟨0,0,0,0⟩)
abbrev lq:Scope:=eS (eK (eK (sE (sK dI 2)) 1) 1)
theorem tZ:jb ["number", "pairs", "factors", "name", "factor"] ["number", "pairs", "factors", "name (of the def)", "factor", "name"] 1 lq (aa dI):=⟨rfl,by decide +kernel,by decide +kernel,rfl,by decide +kernel,by decide +kernel,by decide +kernel,by decide +kernel⟩
abbrev fu:Scope:=eS (eK (sE (sK dA 0)) 2)
theorem e8:jb ["a", "number"] ["a", "number", "name", "factor"] 2 fu (aa dA):=⟨rfl,by decide +kernel,by decide +kernel,rfl,by decide +kernel,by decide +kernel,by decide +kernel,by decide +kernel⟩
abbrev gX:Scope:=eS (eK (eK (sE (sK eV 0)) 1) 1)
theorem d5:jb ["a", "word"] ["a", "word", "name", "factor"] 2 gX (aa eV):=⟨rfl,by decide +kernel,by decide +kernel,rfl,by decide +kernel,by decide +kernel,by decide +kernel,by decide +kernel⟩
abbrev fQ:Scope:=eS (eK (sE (sK cp 2)) 1)
theorem oB:jb ["_law_well_here", "_law_most", "_law_signs", "_law_size"] ["_law_well_here", "_law_most", "_law_signs", "_law_size", "_law_k"] 1 fQ (aa cp):=⟨rfl,by decide +kernel,by decide +kernel,rfl,by decide +kernel,by decide +kernel,by decide +kernel,by decide +kernel⟩
abbrev l6:Scope:=eS (sE (sK bM 2))
theorem qc:jb ["_law_one", "_law_other", "_law_much", "_law_factors", "_law_name_here", "_law_factor", "_law_pairs"] ["_law_one", "_law_other", "_law_much", "_law_factors", "_law_name_here (of the def)", "_law_factor", "_law_pairs", "_law_name_here"] 1 l6 (aa bM):=⟨rfl,by decide +kernel,by decide +kernel,rfl,by decide +kernel,by decide +kernel,by decide +kernel,by decide +kernel⟩
abbrev gW:Scope:=eS (eK (eK (eK (sE (sK bD 3)) 2) 1) 1)
theorem dX:jb ["_law_one", "_law_other", "_law_number_here", "_law_word"] ["_law_one", "_law_other", "_law_number_here", "_law_word", "_law_name_here", "_law_by"] 2 gW (aa bD):=⟨rfl,by decide +kernel,by decide +kernel,rfl,by decide +kernel,by decide +kernel,by decide +kernel,by decide +kernel⟩
theorem eu:lq.names.lookup ("name" : Str) = some .local:=by decide +kernel
theorem j3:lq.names.lookup ("factors" : Str) = some .free:=by decide +kernel
theorem uV:lq.names.lookup ("ZERO" : Str) = some .globalImplicit:=by decide +kernel
theorem cA:fu.names.lookup ("factor" : Str) = some .local:=by decide +kernel
theorem dc:fu.names.lookup ("name" : Str) = some .local:=by decide +kernel
theorem oO:fu.names.lookup ("number" : Str) = some .free:=by decide +kernel
theorem pX:fu.names.lookup ("times" : Str) = some .globalImplicit:=by decide +kernel
theorem cg:gX.names.lookup ("factor" : Str) = some .local:=by decide +kernel
theorem cP:gX.names.lookup ("name" : Str) = some .local:=by decide +kernel
theorem pB:gX.names.lookup ("word" : Str) = some .free:=by decide +kernel
theorem i3:fQ.names.lookup ("_law_k" : Str) = some .local:=by decide +kernel
theorem lh:fQ.names.lookup ("_law_signs" : Str) = some .free:=by decide +kernel
theorem jz:fQ.names.lookup ("_law_well_here" : Str) = some .free:=by decide +kernel
theorem l5:fQ.names.lookup ("_law_take" : Str) = some .globalImplicit:=by decide +kernel
theorem bJ:l6.names.lookup ("_law_name_here" : Str) = some .local:=by decide +kernel
theorem fH:l6.names.lookup ("_law_factors" : Str) = some .free:=by decide +kernel
theorem bT:gW.names.lookup ("_law_by" : Str) = some .local:=by decide +kernel
theorem bE:gW.names.lookup ("_law_name_here" : Str) = some .local:=by decide +kernel
theorem lg:gW.names.lookup ("_law_word" : Str) = some .free:=by decide +kernel
theorem dQ:(aa di).names.lookup ("b" : Str) = some .local:=by decide +kernel
theorem gB:(aa di).names.lookup ("a" : Str) = some .local:=by decide +kernel
theorem iQ:(aa di).names.lookup ("rest" : Str) = some .local:=by decide +kernel
theorem j2:(aa dq).names.lookup ("top" : Str) = some .local:=by decide +kernel
theorem iW:(aa dq).names.lookup ("bottom" : Str) = some .local:=by decide +kernel
theorem jd:(aa dq).names.lookup ("common_divisor" : Str) = some .globalImplicit:=by decide +kernel
theorem d6:(aa dq).names.lookup ("divisor" : Str) = some .local:=by decide +kernel
theorem uA:(aa uI).names.lookup ("a" : Str) = some .local:=by decide +kernel
theorem u5:(aa uI).names.lookup ("b" : Str) = some .local:=by decide +kernel
theorem ql:(aa uI).names.lookup ("lowest_terms" : Str) = some .globalImplicit:=by decide +kernel
theorem wR:(aa qx).names.lookup ("a" : Str) = some .local:=by decide +kernel
theorem xI:(aa qx).names.lookup ("b" : Str) = some .local:=by decide +kernel
theorem oJ:(aa qx).names.lookup ("lowest_terms" : Str) = some .globalImplicit:=by decide +kernel
theorem fo:(aa dI).names.lookup ("factors" : Str) = some .cell:=by decide +kernel
theorem vZ:(aa dI).names.lookup ("pairs" : Str) = some .local:=by decide +kernel
theorem jl:(aa dI).names.lookup ("factor" : Str) = some .local:=by decide +kernel
theorem iD:(aa dI).names.lookup ("name" : Str) = some .local:=by decide +kernel
theorem wD:(aa dI).names.lookup ("ZERO" : Str) = some .globalImplicit:=by decide +kernel
theorem wO:(aa dI).names.lookup ("plus" : Str) = some .globalImplicit:=by decide +kernel
theorem uT:(aa dI).names.lookup ("number" : Str) = some .local:=by decide +kernel
theorem uM:(aa dI).names.lookup ("sorted" : Str) = some .globalImplicit:=by decide +kernel
theorem vY:(aa dI).names.lookup ("tuple" : Str) = some .globalImplicit:=by decide +kernel
theorem rK:(aa hB).names.lookup ("a" : Str) = some .local:=by decide +kernel
theorem qZ:(aa hB).names.lookup ("b" : Str) = some .local:=by decide +kernel
theorem uJ:(aa hB).names.lookup ("plus" : Str) = some .globalImplicit:=by decide +kernel
theorem su:(aa hB).names.lookup ("sum_of" : Str) = some .globalImplicit:=by decide +kernel
theorem pW:(aa dA).names.lookup ("a" : Str) = some .local:=by decide +kernel
theorem qK:(aa dA).names.lookup ("number" : Str) = some .cell:=by decide +kernel
theorem r9:(aa dA).names.lookup ("times" : Str) = some .globalImplicit:=by decide +kernel
theorem qF:(aa dA).names.lookup ("sum_of" : Str) = some .globalImplicit:=by decide +kernel
theorem xf:(aa eJ).names.lookup ("a" : Str) = some .local:=by decide +kernel
theorem wV:(aa eJ).names.lookup ("b" : Str) = some .local:=by decide +kernel
theorem oq:(aa eJ).names.lookup ("MINUS_ONE" : Str) = some .globalImplicit:=by decide +kernel
theorem nc:(aa eJ).names.lookup ("sum_times" : Str) = some .globalImplicit:=by decide +kernel
theorem oK:(aa eJ).names.lookup ("sum_plus" : Str) = some .globalImplicit:=by decide +kernel
theorem p3:(aa eZ).names.lookup ("a" : Str) = some .local:=by decide +kernel
theorem jr:(aa eZ).names.lookup ("top" : Str) = some .local:=by decide +kernel
theorem dU:(aa eZ).names.lookup ("bottom" : Str) = some .local:=by decide +kernel
theorem d9:(aa eZ).names.lookup ("factor" : Str) = some .local:=by decide +kernel
theorem fP:(aa eZ).names.lookup ("name" : Str) = some .local:=by decide +kernel
theorem mK:(aa eZ).names.lookup ("making" : Str) = some .local:=by decide +kernel
theorem vR:(aa eZ).names.lookup ("NoSum" : Str) = some .globalImplicit:=by decide +kernel
theorem gU:(aa eZ).names.lookup ("value" : Str) = some .local:=by decide +kernel
theorem oh:(aa eZ).names.lookup ("lowest_terms" : Str) = some .globalImplicit:=by decide +kernel
theorem oC:(aa eV).names.lookup ("a" : Str) = some .local:=by decide +kernel
theorem qI:(aa eV).names.lookup ("tuple" : Str) = some .globalImplicit:=by decide +kernel
theorem df:(aa dE).names.lookup ("_law_cell" : Str) = some .local:=by decide +kernel
theorem gD:(aa dE).names.lookup ("_law_k" : Str) = some .local:=by decide +kernel
theorem gN:(aa dE).names.lookup ("_law_script" : Str) = some .local:=by decide +kernel
theorem uG:(aa dE).names.lookup ("len" : Str) = some .globalImplicit:=by decide +kernel
theorem vy:(aa dE).names.lookup ("abs" : Str) = some .globalImplicit:=by decide +kernel
theorem uK:(aa dE).names.lookup ("int" : Str) = some .globalImplicit:=by decide +kernel
theorem bf:(aa eG).names.lookup ("_law_well_here" : Str) = some .local:=by decide +kernel
theorem eR:(aa eG).names.lookup ("_law_many" : Str) = some .local:=by decide +kernel
theorem ie:(aa eG).names.lookup ("_law_digit" : Str) = some .local:=by decide +kernel
theorem cm:(aa eG).names.lookup ("_law_turn" : Str) = some .local:=by decide +kernel
theorem eF:(aa eG).names.lookup ("_law_number_here" : Str) = some .local:=by decide +kernel
theorem cz:(aa fg).names.lookup ("_law_other" : Str) = some .local:=by decide +kernel
theorem eA:(aa fg).names.lookup ("_law_one" : Str) = some .local:=by decide +kernel
theorem sQ:(aa fg).names.lookup ("abs" : Str) = some .globalImplicit:=by decide +kernel
theorem bX:(aa gZ).names.lookup ("_law_bottom" : Str) = some .local:=by decide +kernel
theorem dH:(aa gZ).names.lookup ("_law_top" : Str) = some .local:=by decide +kernel
theorem mV:(aa gZ).names.lookup ("_law_common" : Str) = some .globalImplicit:=by decide +kernel
theorem gC:(aa gZ).names.lookup ("_law_by" : Str) = some .local:=by decide +kernel
theorem fR:(aa jj).names.lookup ("_law_one" : Str) = some .local:=by decide +kernel
theorem eY:(aa jj).names.lookup ("_law_other" : Str) = some .local:=by decide +kernel
theorem p4:(aa jj).names.lookup ("_law_num" : Str) = some .globalImplicit:=by decide +kernel
theorem jF:(aa jk).names.lookup ("_law_one" : Str) = some .local:=by decide +kernel
theorem iF:(aa jk).names.lookup ("_law_other" : Str) = some .local:=by decide +kernel
theorem oX:(aa jk).names.lookup ("_law_num" : Str) = some .globalImplicit:=by decide +kernel
theorem bp:(aa dJ).names.lookup ("_law_well_here" : Str) = some .local:=by decide +kernel
theorem bK:(aa dJ).names.lookup ("_law_take" : Str) = some .globalImplicit:=by decide +kernel
theorem dS:(aa dJ).names.lookup ("_law_way" : Str) = some .local:=by decide +kernel
theorem hW:(aa dJ).names.lookup ("_law_num" : Str) = some .globalImplicit:=by decide +kernel
theorem gH:(aa eM).names.lookup ("_law_found" : Str) = some .local:=by decide +kernel
theorem gK:(aa eM).names.lookup ("isinstance" : Str) = some .globalImplicit:=by decide +kernel
theorem sy:(aa eM).names.lookup ("bool" : Str) = some .globalImplicit:=by decide +kernel
theorem tj:(aa eM).names.lookup ("int" : Str) = some .globalImplicit:=by decide +kernel
theorem cB:(aa gk).names.lookup ("_law_found" : Str) = some .local:=by decide +kernel
theorem iY:(aa gk).names.lookup ("_law_whole" : Str) = some .globalImplicit:=by decide +kernel
theorem xU:(aa gk).names.lookup ("len" : Str) = some .globalImplicit:=by decide +kernel
theorem oN:(aa gk).names.lookup ("isinstance" : Str) = some .globalImplicit:=by decide +kernel
theorem uZ:(aa gk).names.lookup ("tuple" : Str) = some .globalImplicit:=by decide +kernel
theorem l4:(aa gk).names.lookup ("_law_due_here" : Str) = some .local:=by decide +kernel
theorem mP:(aa cp).names.lookup ("_law_signs" : Str) = some .cell:=by decide +kernel
theorem fm:(aa cp).names.lookup ("_law_well_here" : Str) = some .cell:=by decide +kernel
theorem ow:(aa cp).names.lookup ("_law_most" : Str) = some .local:=by decide +kernel
theorem iR:(aa cp).names.lookup ("_law_take" : Str) = some .globalImplicit:=by decide +kernel
theorem uR:(aa cp).names.lookup ("int" : Str) = some .globalImplicit:=by decide +kernel
theorem iO:(aa cp).names.lookup ("_law_size" : Str) = some .local:=by decide +kernel
theorem sg:(aa cp).names.lookup ("range" : Str) = some .globalImplicit:=by decide +kernel
theorem bQ:(aa cf).names.lookup ("_law_well_here" : Str) = some .local:=by decide +kernel
theorem ij:(aa cf).names.lookup ("_law_name" : Str) = some .globalImplicit:=by decide +kernel
theorem bq:(aa cf).names.lookup ("_law_names_here" : Str) = some .local:=by decide +kernel
theorem sY:(aa cf).names.lookup ("len" : Str) = some .globalImplicit:=by decide +kernel
theorem mY:(aa cf).names.lookup ("_law_many" : Str) = some .local:=by decide +kernel
theorem bw:(aa cf).names.lookup ("_law_name_here" : Str) = some .local:=by decide +kernel
theorem ig:(aa cf).names.lookup ("_law_take" : Str) = some .globalImplicit:=by decide +kernel
theorem bV:(aa cf).names.lookup ("_law_turn" : Str) = some .local:=by decide +kernel
theorem bH:(aa bL).names.lookup ("_law_found" : Str) = some .local:=by decide +kernel
theorem cy:(aa bL).names.lookup ("isinstance" : Str) = some .globalImplicit:=by decide +kernel
theorem fN:(aa bL).names.lookup ("tuple" : Str) = some .globalImplicit:=by decide +kernel
theorem eO:(aa bL).names.lookup ("len" : Str) = some .globalImplicit:=by decide +kernel
theorem cW:(aa bL).names.lookup ("_law_due_here" : Str) = some .local:=by decide +kernel
theorem iC:(aa bL).names.lookup ("_law_is" : Str) = some .globalImplicit:=by decide +kernel
theorem rW:(aa bL).names.lookup ("zip" : Str) = some .globalImplicit:=by decide +kernel
theorem cw:(aa bL).names.lookup ("_law_other" : Str) = some .local:=by decide +kernel
theorem bF:(aa bL).names.lookup ("_law_one" : Str) = some .local:=by decide +kernel
theorem sM:(aa bL).names.lookup ("str" : Str) = some .globalImplicit:=by decide +kernel
theorem eW:(aa cX).names.lookup ("_law_pairs" : Str) = some .local:=by decide +kernel
theorem j4:(aa cX).names.lookup ("_law_names_here" : Str) = some .local:=by decide +kernel
theorem sD:(aa cX).names.lookup ("sorted" : Str) = some .globalImplicit:=by decide +kernel
theorem fJ:(aa cX).names.lookup ("_law_name_here" : Str) = some .local:=by decide +kernel
theorem dn:(aa cX).names.lookup ("_law_well_here" : Str) = some .local:=by decide +kernel
theorem oP:(aa cX).names.lookup ("_law_take" : Str) = some .globalImplicit:=by decide +kernel
theorem iu:(aa cX).names.lookup ("_law_number" : Str) = some .globalImplicit:=by decide +kernel
theorem cZ:(aa cX).names.lookup ("_law_number_here" : Str) = some .local:=by decide +kernel
theorem sW:(aa cX).names.lookup ("tuple" : Str) = some .globalImplicit:=by decide +kernel
theorem jL:(aa bM).names.lookup ("_law_one" : Str) = some .local:=by decide +kernel
theorem vf:(aa bM).names.lookup ("dict" : Str) = some .globalImplicit:=by decide +kernel
theorem cL:(aa bM).names.lookup ("_law_factors" : Str) = some .cell:=by decide +kernel
theorem iy:(aa bM).names.lookup ("_law_other" : Str) = some .local:=by decide +kernel
theorem eD:(aa bM).names.lookup ("_law_factor" : Str) = some .local:=by decide +kernel
theorem cj:(aa bM).names.lookup ("_law_name_here" : Str) = some .local:=by decide +kernel
theorem iZ:(aa bM).names.lookup ("_law_much" : Str) = some .local:=by decide +kernel
theorem jM:(aa bM).names.lookup ("_law_mul" : Str) = some .globalImplicit:=by decide +kernel
theorem jx:(aa bM).names.lookup ("_law_add" : Str) = some .globalImplicit:=by decide +kernel
theorem vA:(aa bM).names.lookup ("list" : Str) = some .globalImplicit:=by decide +kernel
theorem rM:(aa bM).names.lookup ("sorted" : Str) = some .globalImplicit:=by decide +kernel
theorem eT:(aa bM).names.lookup ("_law_pairs" : Str) = some .local:=by decide +kernel
theorem tD:(aa bM).names.lookup ("tuple" : Str) = some .globalImplicit:=by decide +kernel
theorem hZ:(aa cJ).names.lookup ("_law_some" : Str) = some .local:=by decide +kernel
theorem cM:(aa cJ).names.lookup ("_law_total" : Str) = some .local:=by decide +kernel
theorem dy:(aa cJ).names.lookup ("_law_factor" : Str) = some .local:=by decide +kernel
theorem cY:(aa cJ).names.lookup ("_law_name_here" : Str) = some .local:=by decide +kernel
theorem lp:(aa cJ).names.lookup ("_law_making" : Str) = some .local:=by decide +kernel
theorem n6:(aa cJ).names.lookup ("_law_mul" : Str) = some .globalImplicit:=by decide +kernel
theorem nA:(aa cJ).names.lookup ("_law_add" : Str) = some .globalImplicit:=by decide +kernel
theorem bY:(aa cq).names.lookup ("_law_told_here" : Str) = some .local:=by decide +kernel
theorem oy:(aa cq).names.lookup ("_law_some" : Str) = some .local:=by decide +kernel
theorem lW:(aa cq).names.lookup ("_law_making" : Str) = some .local:=by decide +kernel
theorem qH:(aa cq).names.lookup ("sum_at" : Str) = some .globalImplicit:=by decide +kernel
theorem kz:(aa cq).names.lookup ("e" : Str) = some .local:=by decide +kernel
theorem ix:(aa cq).names.lookup ("isinstance" : Str) = some .globalImplicit:=by decide +kernel
theorem rV:(aa cq).names.lookup ("NoSum" : Str) = some .globalImplicit:=by decide +kernel
theorem mT:(aa cq).names.lookup ("ValueError" : Str) = some .globalImplicit:=by decide +kernel
theorem oM:(aa cq).names.lookup ("FitError" : Str) = some .globalImplicit:=by decide +kernel
theorem gv:(aa bS).names.lookup ("_law_making" : Str) = some .local:=by decide +kernel
theorem kL:(aa bS).names.lookup ("dict" : Str) = some .globalImplicit:=by decide +kernel
theorem dv:(aa bS).names.lookup ("_law_lesser" : Str) = some .local:=by decide +kernel
theorem e7:(aa bS).names.lookup ("_law_name_here" : Str) = some .local:=by decide +kernel
theorem dY:(aa bS).names.lookup ("_law_some" : Str) = some .local:=by decide +kernel
theorem mW:(aa bS).names.lookup ("_law_told" : Str) = some .globalImplicit:=by decide +kernel
theorem c7:(aa bS).names.lookup ("_law_told_here" : Str) = some .local:=by decide +kernel
theorem lX:(aa bS).names.lookup ("_law_value" : Str) = some .globalImplicit:=by decide +kernel
theorem oQ:(aa bS).names.lookup ("_law_is" : Str) = some .globalImplicit:=by decide +kernel
theorem bc:(aa bD).names.lookup ("_law_one" : Str) = some .local:=by decide +kernel
theorem cH:(aa bD).names.lookup ("_law_other" : Str) = some .local:=by decide +kernel
theorem nD:(aa bD).names.lookup ("sum_plus" : Str) = some .globalImplicit:=by decide +kernel
theorem eX:(aa bD).names.lookup ("_law_due" : Str) = some .globalImplicit:=by decide +kernel
theorem cu:(aa bD).names.lookup ("_law_is_sum" : Str) = some .globalImplicit:=by decide +kernel
theorem mO:(aa bD).names.lookup ("sum_minus" : Str) = some .globalImplicit:=by decide +kernel
theorem dW:(aa bD).names.lookup ("_law_number_here" : Str) = some .local:=by decide +kernel
theorem mR:(aa bD).names.lookup ("sum_times" : Str) = some .globalImplicit:=by decide +kernel
theorem mX:(aa bD).names.lookup ("_law_word" : Str) = some .cell:=by decide +kernel
theorem mj:(aa bD).names.lookup ("sum_called" : Str) = some .globalImplicit:=by decide +kernel
theorem qL:(aa bD).names.lookup ("tuple" : Str) = some .globalImplicit:=by decide +kernel
theorem kU:(aa du).names.lookup ("_law_script" : Str) = some .local:=by decide +kernel
theorem ya:(aa du).names.lookup ("len" : Str) = some .globalImplicit:=by decide +kernel
theorem CV:(aa du).names.lookup ("min" : Str) = some .globalImplicit:=by decide +kernel
theorem Df:(aa du).names.lookup ("max" : Str) = some .globalImplicit:=by decide +kernel
theorem zG:(aa du).names.lookup ("range" : Str) = some .globalImplicit:=by decide +kernel
theorem rD:(aa du).names.lookup ("_law_k" : Str) = some .local:=by decide +kernel
theorem vh:(aa du).names.lookup ("_law_well" : Str) = some .globalImplicit:=by decide +kernel
theorem aO:(aa du).names.lookup ("_law_well_here" : Str) = some .local:=by decide +kernel
theorem dj:(aa du).names.lookup ("_law_take" : Str) = some .globalImplicit:=by decide +kernel
theorem t9:(aa du).names.lookup ("_law_names" : Str) = some .globalImplicit:=by decide +kernel
theorem bI:(aa du).names.lookup ("_law_names_here" : Str) = some .local:=by decide +kernel
theorem jY:(aa du).names.lookup ("_law_sum" : Str) = some .globalImplicit:=by decide +kernel
theorem c8:(aa du).names.lookup ("_law_one" : Str) = some .local:=by decide +kernel
theorem fj:(aa du).names.lookup ("_law_other" : Str) = some .local:=by decide +kernel
theorem vS:(aa du).names.lookup ("_law_due" : Str) = some .globalImplicit:=by decide +kernel
theorem i7:(aa du).names.lookup ("_law_word" : Str) = some .local:=by decide +kernel
theorem cD:(aa du).names.lookup ("_law_making" : Str) = some .local:=by decide +kernel
theorem iX:(aa du).names.lookup ("_law_name_here" : Str) = some .local:=by decide +kernel
theorem kJ:(aa du).names.lookup ("_law_number" : Str) = some .globalImplicit:=by decide +kernel
theorem Bp:(aa du).names.lookup ("dict" : Str) = some .globalImplicit:=by decide +kernel
theorem hE:(aa du).names.lookup ("_law_handed" : Str) = some .local:=by decide +kernel
theorem De:(aa du).names.lookup ("int" : Str) = some .globalImplicit:=by decide +kernel
theorem lC:(aa du).names.lookup ("_law_right" : Str) = some .globalImplicit:=by decide +kernel
theorem ye:(aa du).names.lookup ("sum_at" : Str) = some .globalImplicit:=by decide +kernel
theorem tN:(aa du).names.lookup ("_law_value" : Str) = some .globalImplicit:=by decide +kernel
theorem xZ:(aa du).names.lookup ("_law_is" : Str) = some .globalImplicit:=by decide +kernel
theorem tm:(aa du).names.lookup ("_law_lacks" : Str) = some .globalImplicit:=by decide +kernel
theorem B3:(("FitError" : Str) == ("__debug__" : Str)) = false ∧ (("FitError" : Str) == ("__classdict__" : Str)) = false:=by decide +kernel
theorem zB:(("MINUS_ONE" : Str) == ("__debug__" : Str)) = false ∧ (("MINUS_ONE" : Str) == ("__classdict__" : Str)) = false:=by decide +kernel
theorem BQ:(("NoSum" : Str) == ("__debug__" : Str)) = false ∧ (("NoSum" : Str) == ("__classdict__" : Str)) = false:=by decide +kernel
theorem yt:(("ValueError" : Str) == ("__debug__" : Str)) = false ∧ (("ValueError" : Str) == ("__classdict__" : Str)) = false:=by decide +kernel
theorem DZ:(("ZERO" : Str) == ("__debug__" : Str)) = false ∧ (("ZERO" : Str) == ("__classdict__" : Str)) = false:=by decide +kernel
theorem qq:(("_law_add" : Str) == ("__debug__" : Str)) = false ∧ (("_law_add" : Str) == ("__classdict__" : Str)) = false:=by decide +kernel
theorem cS:(("_law_bottom" : Str) == ("__debug__" : Str)) = false ∧ (("_law_bottom" : Str) == ("__classdict__" : Str)) = false:=by decide +kernel
theorem jg:(("_law_by" : Str) == ("__debug__" : Str)) = false ∧ (("_law_by" : Str) == ("__classdict__" : Str)) = false:=by decide +kernel
theorem j7:(("_law_cell" : Str) == ("__debug__" : Str)) = false ∧ (("_law_cell" : Str) == ("__classdict__" : Str)) = false:=by decide +kernel
theorem xv:(("_law_common" : Str) == ("__debug__" : Str)) = false ∧ (("_law_common" : Str) == ("__classdict__" : Str)) = false:=by decide +kernel
theorem qQ:(("_law_digit" : Str) == ("__debug__" : Str)) = false ∧ (("_law_digit" : Str) == ("__classdict__" : Str)) = false:=by decide +kernel
theorem lP:(("_law_due" : Str) == ("__debug__" : Str)) = false ∧ (("_law_due" : Str) == ("__classdict__" : Str)) = false:=by decide +kernel
theorem bU:(("_law_due_here" : Str) == ("__debug__" : Str)) = false ∧ (("_law_due_here" : Str) == ("__classdict__" : Str)) = false:=by decide +kernel
theorem iU:(("_law_factor" : Str) == ("__debug__" : Str)) = false ∧ (("_law_factor" : Str) == ("__classdict__" : Str)) = false:=by decide +kernel
theorem bP:(("_law_factors" : Str) == ("__debug__" : Str)) = false ∧ (("_law_factors" : Str) == ("__classdict__" : Str)) = false:=by decide +kernel
theorem aJ:(("_law_found" : Str) == ("__debug__" : Str)) = false ∧ (("_law_found" : Str) == ("__classdict__" : Str)) = false:=by decide +kernel
theorem iV:(("_law_handed" : Str) == ("__debug__" : Str)) = false ∧ (("_law_handed" : Str) == ("__classdict__" : Str)) = false:=by decide +kernel
theorem nM:(("_law_is" : Str) == ("__debug__" : Str)) = false ∧ (("_law_is" : Str) == ("__classdict__" : Str)) = false:=by decide +kernel
theorem iN:(("_law_is_sum" : Str) == ("__debug__" : Str)) = false ∧ (("_law_is_sum" : Str) == ("__classdict__" : Str)) = false:=by decide +kernel
theorem hU:(("_law_k" : Str) == ("__debug__" : Str)) = false ∧ (("_law_k" : Str) == ("__classdict__" : Str)) = false:=by decide +kernel
theorem yg:(("_law_lacks" : Str) == ("__debug__" : Str)) = false ∧ (("_law_lacks" : Str) == ("__classdict__" : Str)) = false:=by decide +kernel
theorem iz:(("_law_lesser" : Str) == ("__debug__" : Str)) = false ∧ (("_law_lesser" : Str) == ("__classdict__" : Str)) = false:=by decide +kernel
theorem aW:(("_law_making" : Str) == ("__debug__" : Str)) = false ∧ (("_law_making" : Str) == ("__classdict__" : Str)) = false:=by decide +kernel
theorem dB:(("_law_many" : Str) == ("__debug__" : Str)) = false ∧ (("_law_many" : Str) == ("__classdict__" : Str)) = false:=by decide +kernel
theorem ui:(("_law_most" : Str) == ("__debug__" : Str)) = false ∧ (("_law_most" : Str) == ("__classdict__" : Str)) = false:=by decide +kernel
theorem j8:(("_law_much" : Str) == ("__debug__" : Str)) = false ∧ (("_law_much" : Str) == ("__classdict__" : Str)) = false:=by decide +kernel
theorem pG:(("_law_mul" : Str) == ("__debug__" : Str)) = false ∧ (("_law_mul" : Str) == ("__classdict__" : Str)) = false:=by decide +kernel
theorem ud:(("_law_name" : Str) == ("__debug__" : Str)) = false ∧ (("_law_name" : Str) == ("__classdict__" : Str)) = false:=by decide +kernel
theorem au:(("_law_name_here" : Str) == ("__debug__" : Str)) = false ∧ (("_law_name_here" : Str) == ("__classdict__" : Str)) = false:=by decide +kernel
theorem yq:(("_law_names" : Str) == ("__debug__" : Str)) = false ∧ (("_law_names" : Str) == ("__classdict__" : Str)) = false:=by decide +kernel
theorem ay:(("_law_names_here" : Str) == ("__debug__" : Str)) = false ∧ (("_law_names_here" : Str) == ("__classdict__" : Str)) = false:=by decide +kernel
theorem lS:(("_law_num" : Str) == ("__debug__" : Str)) = false ∧ (("_law_num" : Str) == ("__classdict__" : Str)) = false:=by decide +kernel
theorem iB:(("_law_number" : Str) == ("__debug__" : Str)) = false ∧ (("_law_number" : Str) == ("__classdict__" : Str)) = false:=by decide +kernel
theorem br:(("_law_number_here" : Str) == ("__debug__" : Str)) = false ∧ (("_law_number_here" : Str) == ("__classdict__" : Str)) = false:=by decide +kernel
theorem aq:(("_law_one" : Str) == ("__debug__" : Str)) = false ∧ (("_law_one" : Str) == ("__classdict__" : Str)) = false:=by decide +kernel
theorem aw:(("_law_other" : Str) == ("__debug__" : Str)) = false ∧ (("_law_other" : Str) == ("__classdict__" : Str)) = false:=by decide +kernel
theorem fb:(("_law_pairs" : Str) == ("__debug__" : Str)) = false ∧ (("_law_pairs" : Str) == ("__classdict__" : Str)) = false:=by decide +kernel
theorem qS:(("_law_right" : Str) == ("__debug__" : Str)) = false ∧ (("_law_right" : Str) == ("__classdict__" : Str)) = false:=by decide +kernel
theorem cO:(("_law_script" : Str) == ("__debug__" : Str)) = false ∧ (("_law_script" : Str) == ("__classdict__" : Str)) = false:=by decide +kernel
theorem rn:(("_law_signs" : Str) == ("__debug__" : Str)) = false ∧ (("_law_signs" : Str) == ("__classdict__" : Str)) = false:=by decide +kernel
theorem sU:(("_law_size" : Str) == ("__debug__" : Str)) = false ∧ (("_law_size" : Str) == ("__classdict__" : Str)) = false:=by decide +kernel
theorem bR:(("_law_some" : Str) == ("__debug__" : Str)) = false ∧ (("_law_some" : Str) == ("__classdict__" : Str)) = false:=by decide +kernel
theorem pE:(("_law_sum" : Str) == ("__debug__" : Str)) = false ∧ (("_law_sum" : Str) == ("__classdict__" : Str)) = false:=by decide +kernel
theorem bo:(("_law_take" : Str) == ("__debug__" : Str)) = false ∧ (("_law_take" : Str) == ("__classdict__" : Str)) = false:=by decide +kernel
theorem A6:(("_law_told" : Str) == ("__debug__" : Str)) = false ∧ (("_law_told" : Str) == ("__classdict__" : Str)) = false:=by decide +kernel
theorem cV:(("_law_told_here" : Str) == ("__debug__" : Str)) = false ∧ (("_law_told_here" : Str) == ("__classdict__" : Str)) = false:=by decide +kernel
theorem ir:(("_law_top" : Str) == ("__debug__" : Str)) = false ∧ (("_law_top" : Str) == ("__classdict__" : Str)) = false:=by decide +kernel
theorem jv:(("_law_total" : Str) == ("__debug__" : Str)) = false ∧ (("_law_total" : Str) == ("__classdict__" : Str)) = false:=by decide +kernel
theorem bO:(("_law_turn" : Str) == ("__debug__" : Str)) = false ∧ (("_law_turn" : Str) == ("__classdict__" : Str)) = false:=by decide +kernel
theorem rp:(("_law_value" : Str) == ("__debug__" : Str)) = false ∧ (("_law_value" : Str) == ("__classdict__" : Str)) = false:=by decide +kernel
theorem lE:(("_law_way" : Str) == ("__debug__" : Str)) = false ∧ (("_law_way" : Str) == ("__classdict__" : Str)) = false:=by decide +kernel
theorem Au:(("_law_well" : Str) == ("__debug__" : Str)) = false ∧ (("_law_well" : Str) == ("__classdict__" : Str)) = false:=by decide +kernel
theorem af:(("_law_well_here" : Str) == ("__debug__" : Str)) = false ∧ (("_law_well_here" : Str) == ("__classdict__" : Str)) = false:=by decide +kernel
theorem qN:(("_law_whole" : Str) == ("__debug__" : Str)) = false ∧ (("_law_whole" : Str) == ("__classdict__" : Str)) = false:=by decide +kernel
theorem dD:(("_law_word" : Str) == ("__debug__" : Str)) = false ∧ (("_law_word" : Str) == ("__classdict__" : Str)) = false:=by decide +kernel
theorem gj:(("a" : Str) == ("__debug__" : Str)) = false ∧ (("a" : Str) == ("__classdict__" : Str)) = false:=by decide +kernel
theorem F7:(("abs" : Str) == ("__debug__" : Str)) = false ∧ (("abs" : Str) == ("__classdict__" : Str)) = false:=by decide +kernel
theorem lj:(("b" : Str) == ("__debug__" : Str)) = false ∧ (("b" : Str) == ("__classdict__" : Str)) = false:=by decide +kernel
theorem IV:(("bool" : Str) == ("__debug__" : Str)) = false ∧ (("bool" : Str) == ("__classdict__" : Str)) = false:=by decide +kernel
theorem fe:(("bottom" : Str) == ("__debug__" : Str)) = false ∧ (("bottom" : Str) == ("__classdict__" : Str)) = false:=by decide +kernel
theorem tF:(("common_divisor" : Str) == ("__debug__" : Str)) = false ∧ (("common_divisor" : Str) == ("__classdict__" : Str)) = false:=by decide +kernel
theorem v9:(("dict" : Str) == ("__debug__" : Str)) = false ∧ (("dict" : Str) == ("__classdict__" : Str)) = false:=by decide +kernel
theorem nR:(("divisor" : Str) == ("__debug__" : Str)) = false ∧ (("divisor" : Str) == ("__classdict__" : Str)) = false:=by decide +kernel
theorem HL:(("e" : Str) == ("__debug__" : Str)) = false ∧ (("e" : Str) == ("__classdict__" : Str)) = false:=by decide +kernel
theorem dz:(("factor" : Str) == ("__debug__" : Str)) = false ∧ (("factor" : Str) == ("__classdict__" : Str)) = false:=by decide +kernel
theorem dM:(("factors" : Str) == ("__debug__" : Str)) = false ∧ (("factors" : Str) == ("__classdict__" : Str)) = false:=by decide +kernel
theorem An:(("int" : Str) == ("__debug__" : Str)) = false ∧ (("int" : Str) == ("__classdict__" : Str)) = false:=by decide +kernel
theorem cI:(("isinstance" : Str) == ("__debug__" : Str)) = false ∧ (("isinstance" : Str) == ("__classdict__" : Str)) = false:=by decide +kernel
theorem m9:(("len" : Str) == ("__debug__" : Str)) = false ∧ (("len" : Str) == ("__classdict__" : Str)) = false:=by decide +kernel
theorem JU:(("list" : Str) == ("__debug__" : Str)) = false ∧ (("list" : Str) == ("__classdict__" : Str)) = false:=by decide +kernel
theorem jV:(("lowest_terms" : Str) == ("__debug__" : Str)) = false ∧ (("lowest_terms" : Str) == ("__classdict__" : Str)) = false:=by decide +kernel
theorem qC:(("making" : Str) == ("__debug__" : Str)) = false ∧ (("making" : Str) == ("__classdict__" : Str)) = false:=by decide +kernel
theorem LH:(("max" : Str) == ("__debug__" : Str)) = false ∧ (("max" : Str) == ("__classdict__" : Str)) = false:=by decide +kernel
theorem Lu:(("min" : Str) == ("__debug__" : Str)) = false ∧ (("min" : Str) == ("__classdict__" : Str)) = false:=by decide +kernel
theorem cT:(("name" : Str) == ("__debug__" : Str)) = false ∧ (("name" : Str) == ("__classdict__" : Str)) = false:=by decide +kernel
theorem kc:(("number" : Str) == ("__debug__" : Str)) = false ∧ (("number" : Str) == ("__classdict__" : Str)) = false:=by decide +kernel
theorem Cy:(("pairs" : Str) == ("__debug__" : Str)) = false ∧ (("pairs" : Str) == ("__classdict__" : Str)) = false:=by decide +kernel
theorem D7:(("plus" : Str) == ("__debug__" : Str)) = false ∧ (("plus" : Str) == ("__classdict__" : Str)) = false:=by decide +kernel
theorem Em:(("rest" : Str) == ("__debug__" : Str)) = false ∧ (("rest" : Str) == ("__classdict__" : Str)) = false:=by decide +kernel
theorem vj:(("sorted" : Str) == ("__debug__" : Str)) = false ∧ (("sorted" : Str) == ("__classdict__" : Str)) = false:=by decide +kernel
theorem Nq:(("str" : Str) == ("__debug__" : Str)) = false ∧ (("str" : Str) == ("__classdict__" : Str)) = false:=by decide +kernel
theorem yT:(("sum_at" : Str) == ("__debug__" : Str)) = false ∧ (("sum_at" : Str) == ("__classdict__" : Str)) = false:=by decide +kernel
theorem yH:(("sum_called" : Str) == ("__debug__" : Str)) = false ∧ (("sum_called" : Str) == ("__classdict__" : Str)) = false:=by decide +kernel
theorem zM:(("sum_minus" : Str) == ("__debug__" : Str)) = false ∧ (("sum_minus" : Str) == ("__classdict__" : Str)) = false:=by decide +kernel
theorem zk:(("sum_of" : Str) == ("__debug__" : Str)) = false ∧ (("sum_of" : Str) == ("__classdict__" : Str)) = false:=by decide +kernel
theorem vL:(("sum_plus" : Str) == ("__debug__" : Str)) = false ∧ (("sum_plus" : Str) == ("__classdict__" : Str)) = false:=by decide +kernel
theorem tX:(("sum_times" : Str) == ("__debug__" : Str)) = false ∧ (("sum_times" : Str) == ("__classdict__" : Str)) = false:=by decide +kernel
theorem BM:(("times" : Str) == ("__debug__" : Str)) = false ∧ (("times" : Str) == ("__classdict__" : Str)) = false:=by decide +kernel
theorem pY:(("top" : Str) == ("__debug__" : Str)) = false ∧ (("top" : Str) == ("__classdict__" : Str)) = false:=by decide +kernel
theorem iM:(("tuple" : Str) == ("__debug__" : Str)) = false ∧ (("tuple" : Str) == ("__classdict__" : Str)) = false:=by decide +kernel
theorem mU:(("value" : Str) == ("__debug__" : Str)) = false ∧ (("value" : Str) == ("__classdict__" : Str)) = false:=by decide +kernel
theorem Eg:(("word" : Str) == ("__debug__" : Str)) = false ∧ (("word" : Str) == ("__classdict__" : Str)) = false:=by decide +kernel
theorem n9:("len" : Str) ≠ "__name__" := by decide +kernel
theorem cF:("isinstance" : Str) ≠ "__name__" := by decide +kernel
theorem GD:("abs" : Str) ≠ "__name__" := by decide +kernel
theorem LF:("max" : Str) ≠ "__name__" := by decide +kernel
theorem MJ:("min" : Str) ≠ "__name__" := by decide +kernel
theorem zE:("int" : Str) ≠ "__name__" := by decide +kernel
theorem Im:("bool" : Str) ≠ "__name__" := by decide +kernel
theorem M9:("str" : Str) ≠ "__name__" := by decide +kernel
theorem iT:("tuple" : Str) ≠ "__name__" := by decide +kernel
theorem Jg:("list" : Str) ≠ "__name__" := by decide +kernel
theorem v5:("dict" : Str) ≠ "__name__" := by decide +kernel
theorem yp:("ValueError" : Str) ≠ "__name__" := by decide +kernel
theorem uY:("sorted" : Str) ≠ "__name__" := by decide +kernel
end W
namespace W
open PySem L2 M
def ja:Ms:=(aY (rP BIG (aK (mOp fNe (aj 1) (mC (.int 0)))) (aY (bG 2 (mOp nh (aj 0) (aj 1)))
 (aY (bG 0 (aj 1))
 (bG 1 (aj 2)))))
 (cK (aj 0)))
def gi:Ms:=gw 1 ja
def kM:Ms:=(aY (bG 2 (aC gi [] (ag (aS 0) (ag (aS 1) aD))))
 (cK (dP (ag (mOp uj (aj 0) (aj 2)) (ag (mOp uj (aj 1) (aj 2)) aD)))))
def dZ:Ms:=gw 1 kM
def Di:Ms:=(cK (aC dZ [] (ag (mOp fX (mOp fi (mOp (fOr fIx aA) (aj 0) (mC (.int 0))) (mOp (fOr fIx aA) (aj 1) (mC (.int 1)))) (mOp fi (mOp (fOr fIx aA) (aj 1) (mC (.int 0))) (mOp (fOr fIx aA) (aj 0) (mC (.int 1))))) (ag (mOp fi (mOp (fOr fIx aA) (aj 0) (mC (.int 1))) (mOp (fOr fIx aA) (aj 1) (mC (.int 1)))) aD))))
def vw:Ms:=gw 0 Di
def A2:Ms:=(cK (aC dZ [] (ag (mOp fi (mOp (fOr fIx aA) (aj 0) (mC (.int 0))) (mOp (fOr fIx aA) (aj 1) (mC (.int 0)))) (ag (mOp fi (mOp (fOr fIx aA) (aj 0) (mC (.int 1))) (mOp (fOr fIx aA) (aj 1) (mC (.int 1)))) aD))))
def qD:Ms:=gw 0 A2
def xO:Ms:=(aY (bG 2 F3)
 (aY (vV (sH (aj 1)) (mr (gM 2 (aL (bB 3) (aL (bB 4) cC))) (gR 2 (aL (bB 3) (aL (bB 4) cC)))) (rJ 2 (aj 3) (aC vw [] (ag (xk (aj 2) (aj 3) (mC (.tup [(.int 0),(.int 1)]))) (ag (aS 4) aD)))))
 (cK (dP (ag (aj 0) (ag (mB1 pS (pA 1 (sH (mB1 (gOr fG jA) (aj 2))) (bB 5) (aK (mOp fNe (mOp (fOr fIx aA) (aj 2) (aj 5)) (mC (.tup [(.int 0),(.int 1)])))) (dP (ag (aj 5) (ag (mOp (fOr fIx aA) (aj 2) (aj 5)) aD))))) aD))))))
def m6:Ms:=gw 3 xO
def rN:Ms:=(cK (aC m6 [] (ag (aC vw [] (ag (mOp (fOr fIx aA) (aj 0) (mC (.int 0))) (ag (mOp (fOr fIx aA) (aj 1) (mC (.int 0))) aD))) (ag (mOp fX (mOp (fOr fIx aA) (aj 0) (mC (.int 1))) (mOp (fOr fIx aA) (aj 1) (mC (.int 1)))) aD))))
def kA:Ms:=gw 0 rN
def pL:Ms:=(cK (aC m6 [] (ag (aC qD [] (ag (mOp (fOr fIx aA) (aj 0) (mC (.int 0))) (ag (aS 1) aD))) (ag (mFz (pA 2 (sH (mOp (fOr fIx aA) (aj 0) (mC (.int 1)))) (mr (gM 2 (aL (bB 2) (aL (bB 3) cC))) (gR 2 (aL (bB 2) (aL (bB 3) cC)))) rA (dP (ag (aj 2) (ag (aC qD [] (ag (aS 3) (ag (aS 1) aD))) aD))))) aD))))
def jJ:Ms:=gw 0 pL
def oY:Ms:=(cK (aC kA [] (ag (aS 0) (ag (aC jJ [] (ag (aS 1) (ag (mC (.tup [(.int (-1)),(.int 1)])) aD))) aD))))
def lN:Ms:=gw 0 oY
def tY:Ms:=(aY (bG 2 (mOp (fOr fIx aA) (mOp (fOr fIx aA) (aj 0) (mC (.int 0))) (mC (.int 0))))
 (aY (bG 3 (mOp (fOr fIx aA) (mOp (fOr fIx aA) (aj 0) (mC (.int 0))) (mC (.int 1))))
 (aY (vV (sH (mOp (fOr fIx aA) (aj 0) (mC (.int 1)))) (mr (gM 2 (aL (bB 4) (aL (bB 5) cC))) (gR 2 (aL (bB 4) (aL (bB 5) cC)))) (aY (sIf (aK (mOp (fOr (oH true) (jW true)) (aj 4) (aj 1))) (p7 "NoSum" (ag (mJs (mJ (mC (.str "the making lacks the name ")) (mJ (mFv (aj 4)) (i4 [])))) aD)) bZ)
 (aY (bG 6 (mOp (fOr fIx aA) (aj 1) (aj 4)))
 (aY (bG 2 (mOp fX (mOp fi (mOp fi (aj 2) (mOp (fOr fIx aA) (aj 5) (mC (.int 1)))) (mOp (fOr fIx aA) (aj 6) (mC (.int 1)))) (mOp fi (mOp fi (mOp (fOr fIx aA) (aj 5) (mC (.int 0))) (mOp (fOr fIx aA) (aj 6) (mC (.int 0)))) (aj 3))))
 (bG 3 (mOp fi (mOp fi (aj 3) (mOp (fOr fIx aA) (aj 5) (mC (.int 1)))) (mOp (fOr fIx aA) (aj 6) (mC (.int 1)))))))))
 (cK (aC dZ [] (ag (aS 2) (ag (aS 3) aD)))))))
def gQ:Ms:=gw 5 tY
def nZ:Ms:=(cK (dP (ag (mOp (fOr fIx aA) (aj 0) (mC (.int 0))) (ag (mB1 pS (pA 2 (sH (mOp (fOr fIx aA) (aj 0) (mC (.int 1)))) (mr (gM 2 (aL (bB 2) (aL (bB 3) cC))) (gR 2 (aL (bB 2) (aL (bB 3) cC)))) rA (dP (ag (mJs (mJ (mFv (aj 1)) (mJ (mC (.str ".")) (mJ (mFv (aj 2)) (i4 []))))) (ag (aj 3) aD))))) aD))))
def j6:Ms:=gw 0 nZ
def lu:Ms:=(aY (bG 2 (mC (.int 0)))
 (aY (sIf (aK (mOp fLt (aj 1) (mB1 qJ (aj 0)))) (bG 2 (mOp (fOr fIx aA) (aj 0) (aj 1))) bZ)
 (cK (xt (ag (mB1 DC (mOp fGe (mB1 GV (aj 2)) (mOp AQ (mC (.int 10)) (mC (.int 18))))) (ag (aj 2) (ag (mOp fi (mC (.int 17)) (aj 1)) aD)))))))
def iw:Ms:=gw 1 lu
def oV:Ms:=(aY (sIf (aK (mOp fEq (mOp (fOr fIx aA) (aj 0) (mC (.int 0))) (mC (.int 1)))) (aY (bG 2 (mOp nh (mOp (fOr fIx aA) (aj 0) (mC (.int 1))) (aj 1)))
 (aY (xJ 0 (mC (.int 1)) (mOp uj (mOp (fOr fIx aA) (aj 0) (mC (.int 1))) (aj 1)))
 (cK (aj 2)))) bZ)
 (aY (bG 3 (mOp fX (mOp (fOr fIx aA) (aj 0) (mC (.int 2))) (mC (.int 1))))
 (aY (xJ 0 (mC (.int 2)) (aj 3))
 (aY (bG 4 (mOp nh (mOp fi (mOp fX (mOp fX (mOp (fOr fIx aA) (aj 0) (mC (.int 1))) (mOp fi (mOp fi (mC (.int 7919)) (aj 3)) (aj 3))) (aj 3)) (mC (.int 48271))) (mC (.int 2305843009213693951))))
 (cK (mOp nh (mOp uj (mOp nh (mOp fX (mOp fi (aj 4) (mC (.int 1442695040888963407))) (mC (.int 4321))) (mC (.int 2305843009213693921))) (mC (.int 64))) (aj 1)))))))
def aF:Ms:=gw 3 oV
def mf:Ms:=(aY (rP BIG (aK (mOp fNe (aj 1) (mC (.int 0)))) (HG 0 1 (ag (aj 1) (ag (mOp nh (aj 0) (aj 1)) aD))))
 (cK (mB1 GV (aj 0))))
def jo:Ms:=gw 0 mf
def sr:Ms:=(aY (sIf (aK (mOp fLt (aj 1) (mC (.int 0)))) (aY (bG 0 (mOp zw (mC (.int 0)) (aj 0)))
 (bG 1 (mOp zw (mC (.int 0)) (aj 1)))) bZ)
 (aY (bG 2 (aC jo [] (ag (aS 0) (ag (aS 1) aD))))
 (cK (dP (ag (mOp uj (aj 0) (aj 2)) (ag (mOp uj (aj 1) (aj 2)) aD))))))
def gY:Ms:=gw 1 sr
def rR:Ms:=(cK (aC gY [] (ag (mOp fX (mOp fi (mOp (fOr fIx aA) (aj 0) (mC (.int 0))) (mOp (fOr fIx aA) (aj 1) (mC (.int 1)))) (mOp fi (mOp (fOr fIx aA) (aj 1) (mC (.int 0))) (mOp (fOr fIx aA) (aj 0) (mC (.int 1))))) (ag (mOp fi (mOp (fOr fIx aA) (aj 0) (mC (.int 1))) (mOp (fOr fIx aA) (aj 1) (mC (.int 1)))) aD))))
def fO:Ms:=gw 0 rR
def rY:Ms:=(cK (aC gY [] (ag (mOp fi (mOp (fOr fIx aA) (aj 0) (mC (.int 0))) (mOp (fOr fIx aA) (aj 1) (mC (.int 0)))) (ag (mOp fi (mOp (fOr fIx aA) (aj 0) (mC (.int 1))) (mOp (fOr fIx aA) (aj 1) (mC (.int 1)))) aD))))
def fS:Ms:=gw 0 rY
def gO:Ms:=(aY (bG 1 (aC aF [] (ag (aj 0) (ag (mC (.int 8)) aD))))
 (aY (sIf (aK (mOp fEq (aj 1) (mC (.int 7)))) (cK (aC gY [] (ag (mOp zw (aC aF [] (ag (aj 0) (ag (mOp fX (mOp fi (mC (.int 2)) (mOp AQ (mC (.int 10)) (mC (.int 8)))) (mC (.int 1))) aD))) (mOp AQ (mC (.int 10)) (mC (.int 8)))) (ag (mOp fX (mC (.int 1)) (aC aF [] (ag (aj 0) (ag (mOp AQ (mC (.int 10)) (mC (.int 8))) aD)))) aD)))) bZ)
 (aY (sIf (aK (mOp fGt (aj 1) (mC (.int 4)))) (cK (aC gY [] (ag (mOp zw (aC aF [] (ag (aj 0) (ag (mC (.int 201)) aD))) (mC (.int 100))) (ag (mOp fX (mC (.int 1)) (aC aF [] (ag (aj 0) (ag (mC (.int 6)) aD)))) aD)))) bZ)
 (cK (dP (ag (mOp zw (aC aF [] (ag (aj 0) (ag (mC (.int 9)) aD))) (mC (.int 4))) (ag (mC (.int 1)) aD)))))))
def bA:Ms:=gw 1 gO
def tM:Ms:=(cK (EF (mB1 (vi .int) (aj 0)) (DM (mB1 (vi .bool) (aj 0)))))
def j5:Ms:=gw 0 tM
def uO:Ms:=(aY (sIf (mOr (jR (aK (mB1 (vi .tuple) (aj 0)))) (mOr (aK (mOp fNe (mB1 qJ (aj 0)) (mC (.int 2)))) (mOr (jR (aK (aC j5 [] (ag (mOp (fOr fIx aA) (aj 0) (mC (.int 0))) aD)))) (jR (aK (aC j5 [] (ag (mOp (fOr fIx aA) (aj 0) (mC (.int 1))) aD))))))) (cK (mC (.bl false))) bZ)
 (cK (mOp fEq (aj 0) (aj 1))))
def gf:Ms:=gw 0 uO
def oW:Ms:=(aY (bG 2 (mC (.str "abcdefghijklmnopqrstuvwxyz0123456789.")))
 (aY (bG 3 (mOp fX (mC (.int 1)) (aC aF [] (ag (aj 0) (ag (mOp (fOr fIx aA) (xt (ag (mC (.int 4)) (ag (aj 1) aD))) (mB1 DC (mOp fEq (aC aF [] (ag (aj 0) (ag (mC (.int 6)) aD))) (mC (.int 5))))) aD)))))
 (cK (mS1 xy (mC (.str "")) (pA 1 (BC (aj 3)) (bB 4) rA (mOp (fOr fIx aA) (aj 2) (aC aF [] (ag (aj 0) (ag (mC (.int 37)) aD)))))))))
def eE:Ms:=gw 2 oW
def n8:Ms:=(aY (bG 2 (xt (ag (aC eE [] (ag (aj 0) (ag (mC (.int 20)) aD))) aD)))
 (aY (rP BIG (aK (mOp fLt (mB1 qJ (aj 2)) (aj 1))) (aY (bG 3 (aC eE [] (ag (aj 0) (ag (mC (.int 20)) aD))))
 (aY (sIf (aK (mOp fEq (aC aF [] (ag (aj 0) (ag (mC (.int 3)) aD))) (mC (.int 0)))) (bG 3 (mSl (mOp fX (mOp (fOr fIx aA) (aj 2) (mUn wI (mC (.int 1)))) (mOp (fOr fIx aA) (mC (.str "a0.z")) (aC aF [] (ag (aj 0) (ag (mC (.int 4)) aD))))) js (qu (mC (.int 20))))) bZ)
 (aY (bG 4 (mC (.int 0)))
 (aY (rP BIG (aK (mOp (fOr (oH false) (jW false)) (aj 3) (aj 2))) (aY (bG 3 (mOp fX (mOp fX (mSl (aj 3) js (qu (mC (.int 18)))) (mOp (fOr fIx aA) (mC (.str "0123456789")) (mOp nh (aj 4) (mC (.int 10))))) (mOp (fOr fIx aA) (mC (.str "abcdefghij")) (mOp nh (mOp uj (aj 4) (mC (.int 10))) (mC (.int 10))))))
 (bG 4 (mOp fX (aj 4) (mC (.int 1))))))
 (vD (Bw 2 (oj 2 (aj 3)))))))))
 (cK (aj 2))))
def iK:Ms:=gw 3 n8
def mD:Ms:=(aY (sIf (mOr (jR (aK (mB1 (vi .tuple) (aj 0)))) (mOr (aK (mOp fNe (mB1 qJ (aj 0)) (mC (.int 2)))) (jR (aK (mB1 (vi .tuple) (mOp (fOr fIx aA) (aj 0) (mC (.int 1)))))))) (cK (mC (.bl false))) bZ)
 (aY (sIf (mOr (jR (aK (aC gf [] (ag (mOp (fOr fIx aA) (aj 0) (mC (.int 0))) (ag (mOp (fOr fIx aA) (aj 1) (mC (.int 0))) aD))))) (aK (mOp fNe (mB1 qJ (mOp (fOr fIx aA) (aj 0) (mC (.int 1)))) (mB1 qJ (mOp (fOr fIx aA) (aj 1) (mC (.int 1))))))) (cK (mC (.bl false))) bZ)
 (aY (vV (HN (mOp (fOr fIx aA) (aj 0) (mC (.int 1))) (mOp (fOr fIx aA) (aj 1) (mC (.int 1)))) (mr (gM 2 (aL (bB 2) (aL (bB 3) cC))) (gR 2 (aL (bB 2) (aL (bB 3) cC)))) (aY (sIf (mOr (jR (aK (mB1 (vi .tuple) (aj 2)))) (mOr (aK (mOp fNe (mB1 qJ (aj 2)) (mC (.int 2)))) (jR (aK (mB1 (vi .str) (mOp (fOr fIx aA) (aj 2) (mC (.int 0)))))))) (cK (mC (.bl false))) bZ)
 (sIf (mOr (aK (mOp fNe (mOp (fOr fIx aA) (aj 2) (mC (.int 0))) (mOp (fOr fIx aA) (aj 3) (mC (.int 0))))) (jR (aK (aC gf [] (ag (mOp (fOr fIx aA) (aj 2) (mC (.int 1))) (ag (mOp (fOr fIx aA) (aj 3) (mC (.int 1))) aD)))))) (cK (mC (.bl false))) bZ)))
 (cK (mC (.bl true))))))
def dg:Ms:=gw 2 mD
def sA:Ms:=(aY (bG 2 (xt aD))
 (aY (vV (sH (mB1 (gOr fG jA) (aj 1))) (bB 3) (sIf (aK (mOp fGt (aC aF [] (ag (aj 0) (ag (mC (.int 3)) aD))) (mC (.int 0)))) (aY (bG 4 (aC bA [] (ag (aj 0) aD)))
 (sIf (aK (mOp fNe (aj 4) (dP (ag (mC (.int 0)) (ag (mC (.int 1)) aD))))) (vD (Bw 2 (oj 2 (dP (ag (aj 3) (ag (aj 4) aD)))))) bZ)) bZ))
 (cK (dP (ag (aC bA [] (ag (aj 0) aD)) (ag (mB1 pS (aj 2)) aD))))))
def eU:Ms:=gw 3 sA
def rZ:Ms:=(aY (bG 3 (mB1 (gOr kY my) (mOp (fOr fIx aA) (aj 0) (mC (.int 1)))))
 (aY (vV (sH (mOp (fOr fIx aA) (aj 1) (mC (.int 1)))) (mr (gM 2 (aL (bB 4) (aL (bB 5) cC))) (gR 2 (aL (bB 4) (aL (bB 5) cC)))) (rJ 3 (aj 4) (aC fO [] (ag (xk (aj 3) (aj 4) (dP (ag (mC (.int 0)) (ag (mC (.int 1)) aD)))) (ag (aC fS [] (ag (aS 5) (ag (aS 2) aD))) aD)))))
 (aY (bG 6 (pA 1 (sH (mB1 (gOr fG jA) (mB1 (gOr zi uX) (aj 3)))) (bB 7) (aK (mOp fNe (mOp (fOr fIx aA) (aj 3) (aj 7)) (dP (ag (mC (.int 0)) (ag (mC (.int 1)) aD))))) (dP (ag (aj 7) (ag (mOp (fOr fIx aA) (aj 3) (aj 7)) aD)))))
 (cK (dP (ag (aC fO [] (ag (mOp (fOr fIx aA) (aj 0) (mC (.int 0))) (ag (aC fS [] (ag (mOp (fOr fIx aA) (aj 1) (mC (.int 0))) (ag (aS 2) aD))) aD))) (ag (mB1 pS (aj 6)) aD)))))))
def c0:Ms:=gw 4 rZ
def nN:Ms:=(aY (bG 2 (mOp (fOr fIx aA) (aj 0) (mC (.int 0))))
 (aY (vV (sH (mOp (fOr fIx aA) (aj 0) (mC (.int 1)))) (mr (gM 2 (aL (bB 3) (aL (bB 4) cC))) (gR 2 (aL (bB 3) (aL (bB 4) cC)))) (bG 2 (aC fO [] (ag (aS 2) (ag (aC fS [] (ag (aS 4) (ag (mOp (fOr fIx aA) (aj 1) (aj 3)) aD))) aD)))))
 (cK (aj 2))))
def gd:Ms:=gw 3 nN
def lQ:Ms:=(aY (bG 2 (mC .non))
 (aY (HV 3 (Jw "NoSum") (bG 2 (aC gQ [] (yM (ag (aS 0) (ag (aS 1) aD))))) (bG 2 (xt (ag (mB1 (xK (EN "NoSum" true)) (aj 3)) (ag (mB1 (xK (EN "NoSum" true)) (aj 3)) aD)))))
 (cK (aj 2))))
def hG:Ms:=gw 2 lQ
def j9:Ms:=(aY (bG 3 (mB1 (gOr kY my) (aj 1)))
 (aY (vD (Bv 3 (aj 2)))
 (aY (bG 4 (aC hG [] (ag (aS 0) (ag (aS 3) aD))))
 (aY (sIf (aK (mOp (fOr (oH false) (jW false)) (aj 2) (mB1 (gOr kY my) (mOp (fOr fIx aA) (aj 0) (mC (.int 1)))))) (cK (mOp fEq (aj 4) (xt (ag (mC (.bl true)) (ag (mC (.bl true)) aD))))) bZ)
 (cK (aC gf [] (ag (aS 4) (ag (aC gd [] (ag (aS 0) (ag (aS 1) aD))) aD))))))))
def gc:Ms:=gw 2 j9
def om:Ms:=(aY (sIf (jR (aK (aC dg [] (ag (aC kA [] (ag (aS 0) (ag (aS 1) aD))) (ag (aC c0 [] (ag (aS 0) (ag (aS 1) (ag (dP (ag (mC (.int 1)) (ag (mC (.int 1)) aD))) aD)))) aD))))) (cK (mC (.bl false))) bZ)
 (aY (sIf (jR (aK (aC dg [] (ag (aC lN [] (ag (aS 0) (ag (aS 1) aD))) (ag (aC c0 [] (ag (aS 0) (ag (aS 1) (ag (dP (ag (mUn wI (mC (.int 1))) (ag (mC (.int 1)) aD))) aD)))) aD))))) (cK (mC (.bl false))) bZ)
 (aY (sIf (jR (aK (aC dg [] (ag (aC jJ [] (ag (aS 0) (ag (aS 2) aD))) (ag (aC c0 [] (ag (dP (ag (dP (ag (mC (.int 0)) (ag (mC (.int 1)) aD))) (ag (dP aD) aD))) (ag (aS 0) (ag (aS 2) aD)))) aD))))) (cK (mC (.bl false))) bZ)
 (cK (aC dg [] (ag (aC j6 [] (ag (aS 0) (ag (aS 3) aD))) (ag (dP (ag (mOp (fOr fIx aA) (aj 0) (mC (.int 0))) (ag (mB1 pS (pA 2 (sH (mOp (fOr fIx aA) (aj 0) (mC (.int 1)))) (mr (gM 2 (aL (bB 4) (aL (bB 5) cC))) (gR 2 (aL (bB 4) (aL (bB 5) cC)))) rA (dP (ag (mOp fX (mOp fX (aj 3) (mC (.str "."))) (aj 4)) (ag (aj 5) aD))))) aD))) aD)))))))
def dF:Ms:=gw 0 om
def G0:Ms:=(aY (vV (BC (mB2 Jt (mC (.int 1)) (mB2 HP (mB1 qJ (aj 0)) (mC (.int 24))))) (bB 1) (aY (bG 2 (aC iw [] (ag (aS 0) (ag (aS 1) aD))))
 (aY (bG 3 (aC iK [] (ag (aj 2) (ag (mOp fX (mC (.int 1)) (aC aF [] (ag (aj 2) (ag (mC (.int 6)) aD)))) aD))))
 (aY (bG 4 (aC eU [] (ag (aj 2) (ag (aS 3) aD))))
 (aY (bG 5 (aC eU [] (ag (aj 2) (ag (aS 3) aD))))
 (aY (sIf (aK (mOp fEq (aC aF [] (ag (aj 2) (ag (mC (.int 4)) aD))) (mC (.int 0)))) (bG 5 (aC c0 [] (ag (aC eU [] (ag (aj 2) (ag (mFz (mSl (aj 3) js (qu (mC (.int 1))))) aD))) (ag (aS 4) (ag (dP (ag (mUn wI (mC (.int 1))) (ag (mC (.int 1)) aD))) aD))))) bZ)
 (aY (bG 6 (mOp fi (mOp (fOr fIx aA) (mC (.str "abcdefghijklmnopqrstuvwxyz")) (aC aF [] (ag (aj 2) (ag (mC (.int 26)) aD)))) (mOp fX (mC (.int 1)) (aC aF [] (ag (aj 2) (ag (mC (.int 8)) aD))))))
 (aY (bG 7 (xo "z.more" (dP (ag (mC (.int 1)) (ag (mC (.int 2)) aD)))))
 (aY (vV (sH (aj 3)) (bB 8) (rJ 7 (aj 8) (aC bA [] (ag (aj 2) aD))))
 (aY (bG 9 (mB1 (gOr kY my) (aj 7)))
 (aY (sIf (jR (aK (aC dF [] (ag (aS 4) (ag (aS 5) (ag (mOp (fOr fIx aA) (xt (ag (dP (ag (mC (.int 0)) (ag (mC (.int 1)) aD))) (ag (aC bA [] (ag (aj 2) aD)) aD))) (mB1 DC (mOp fGt (aC aF [] (ag (aj 2) (ag (mC (.int 4)) aD))) (mC (.int 0))))) (ag (aS 6) aD))))))) (cK (mC (.bl false))) bZ)
 (aY (sIf (mOr (jR (aK (aC gf [] (ag (aC gQ [] (ag (aS 4) (ag (aS 9) aD))) (ag (aC gd [] (ag (aS 4) (ag (aS 7) aD))) aD))))) (aK (mOp (fOr fNe xH) (aj 9) (aj 7)))) (cK (mC (.bl false))) bZ)
 (aY (sIf (jR (aK (aC gc [] (ag (aS 4) (ag (aS 7) (ag (mOp (fOr fIx aA) (aj 3) (aC aF [] (ag (aj 2) (ag (mB1 qJ (aj 3)) aD)))) aD)))))) (cK (mC (.bl false))) bZ)
 (sIf (jR (aK (aC dF [] (ag (aS 5) (ag (aS 4) (ag (dP (ag (mUn wI (mC (.int 1))) (ag (mC (.int 2)) aD))) (ag (aS 6) aD))))))) (cK (mC (.bl false))) bZ))))))))))))))
 (cK (mC (.bl true))))
def HH:Ms:=gw 9 G0
end W
namespace W
open PySem L2 M
section
variable {P:Program} {w:World} {K:PySem.W.Frag} {mg:Str → Option Value} {base:Heap} {a:Adr}
theorem uh (T:Txt K mg a):dw P w K mg base (CXE P w) 2 a.eh a.dk ["a", "b"] (SpM ⟨K,mg⟩ 2 gi):=by
 have S:=tS
 exact cc (m:=ja) T.kP S (fun cdv A outer s H E hr=>(av (tK (n:=BIG) PassesOwn.leaving (qY hr.units (ah (i:=1) rfl (Or.inl dQ) lj.1 lj.2) ao) (av (bx (i:=2) S.nd rfl (Or.inl iQ) (pq (ah (i:=0) rfl (Or.inl gB) gj.1 gj.2) (ah (i:=1) rfl (Or.inl dQ) lj.1 lj.2)))
   (av (bx (i:=0) S.nd rfl (Or.inl gB) (ah (i:=1) rfl (Or.inl dQ) lj.1 lj.2))
   (aE (bx (i:=1) S.nd rfl (Or.inl dQ) (ah (i:=2) rfl (Or.inl iQ) Em.1 Em.2))))))
   (aE (bt (ah (i:=0) rfl (Or.inl gB) gj.1 gj.2)))))
theorem jZ (T:Txt K mg a):dw P w K mg base (CXE P w) 3 a.fC a.eB ["top", "bottom"] (SpM ⟨K,mg⟩ 2 dZ):=by
 have S:=vX
 have vx:=uh (P:=P) (w:=w) (base:=base) T
 exact cc (m:=kM) T.mZ S (fun cdv A outer s H E hr=>(av (bx (i:=2) S.nd rfl (Or.inl d6) (az vx (hr.mono (by decide)) jd T.lJ T.lF T.lV .nil (fun _=>.nil) aV.pass (ae (aM (i:=0) rfl (Or.inl j2) pY.1 pY.2) (ae (aM (i:=1) rfl (Or.inl iW) fe.1 fe.2) ar)) (aG (d:=0) (ai (ai aH)) rfl) tF.1))
   (aE (bt (cQ (ae (sx (ah (i:=0) rfl (Or.inl j2) pY.1 pY.2) (ah (i:=2) rfl (Or.inl d6) nR.1 nR.2)) (ae (sx (ah (i:=1) rfl (Or.inl iW) fe.1 fe.2) (ah (i:=2) rfl (Or.inl d6) nR.1 nR.2)) ar)))))))
theorem EB (T:Txt K mg a):dw P w K mg base (CXE P w) 4 a.xu a.vz ["a", "b"] (SpM ⟨K,mg⟩ 2 vw):=by
 have S:=Ie
 have fM:=jZ (P:=P) (w:=w) (base:=base) T
 exact cc (m:=Di) T.Cb S (fun cdv A outer s H E hr=>(aE (bt (az fM (hr.mono (by decide)) ql T.gT T.gS T.gV .nil (fun _=>.nil) aV.pass (ae (eC (dm (aQ (aN hr) (ah (i:=0) rfl (Or.inl uA) gj.1 gj.2) ao (fun _ _=>rfl) (fun _ _=>rfl)) (aQ (aN hr) (ah (i:=1) rfl (Or.inl u5) lj.1 lj.2) ao (fun _ _=>rfl) (fun _ _=>rfl))) (dm (aQ (aN hr) (ah (i:=1) rfl (Or.inl u5) lj.1 lj.2) ao (fun _ _=>rfl) (fun _ _=>rfl)) (aQ (aN hr) (ah (i:=0) rfl (Or.inl uA) gj.1 gj.2) ao (fun _ _=>rfl) (fun _ _=>rfl)))) (ae (dm (aQ (aN hr) (ah (i:=0) rfl (Or.inl uA) gj.1 gj.2) ao (fun _ _=>rfl) (fun _ _=>rfl)) (aQ (aN hr) (ah (i:=1) rfl (Or.inl u5) lj.1 lj.2) ao (fun _ _=>rfl) (fun _ _=>rfl))) ar)) (aG (d:=0) (ai (ai aH)) rfl) jV.1))))
theorem Gx (T:Txt K mg a):dw P w K mg base (CXE P w) 4 a.sS a.qE ["a", "b"] (SpM ⟨K,mg⟩ 2 qD):=by
 have S:=HF
 have fM:=jZ (P:=P) (w:=w) (base:=base) T
 exact cc (m:=A2) T.zp S (fun cdv A outer s H E hr=>(aE (bt (az fM (hr.mono (by decide)) oJ T.gT T.gS T.gV .nil (fun _=>.nil) aV.pass (ae (dm (aQ (aN hr) (ah (i:=0) rfl (Or.inl wR) gj.1 gj.2) ao (fun _ _=>rfl) (fun _ _=>rfl)) (aQ (aN hr) (ah (i:=1) rfl (Or.inl xI) lj.1 lj.2) ao (fun _ _=>rfl) (fun _ _=>rfl))) (ae (dm (aQ (aN hr) (ah (i:=0) rfl (Or.inl wR) gj.1 gj.2) ao (fun _ _=>rfl) (fun _ _=>rfl)) (aQ (aN hr) (ah (i:=1) rfl (Or.inl xI) lj.1 lj.2) ao (fun _ _=>rfl) (fun _ _=>rfl))) ar)) (aG (d:=0) (ai (ai aH)) rfl) jV.1))))
theorem yZ (T:Txt K mg a):dw P w K mg base (CXE P w) 5 a.pJ a.mL ["number", "pairs"] (SpM ⟨K,mg⟩ 2 m6):=by
 have S:=Ff
 have Dm:=EB (P:=P) (w:=w) (base:=base) T
 exact cc (m:=xO) T.wm S (fun cdv A outer s H E hr=>(av (bx (i:=2) S.nd rfl (Or.inr fo) Jo)
   (av (pQ PassesOwn.leaving rfl (kK (ah (i:=1) rfl (Or.inl vZ) Cy.1 Cy.2)) (vQ (qt (n:=2) rfl (bh (bj (i:=3) S.nd rfl (Or.inl iD) (by decide)) (bh (bj (i:=4) S.nd rfl (Or.inl jl) (by decide)) dR (fun x y=>bg x y)) (fun x y=>bg x y))) (pz (n:=2) rfl (bh (bj (i:=3) S.nd rfl (Or.inl iD) (by decide)) (bh (bj (i:=4) S.nd rfl (Or.inl jl) (by decide)) dR (fun x y=>bg x y)) (fun x y=>bg x y)))) (aE (Ai (i:=2) (aN hr) rfl (Or.inr (Or.inl fo)) dM.1 dM.2 (ah (i:=3) rfl (Or.inl iD) cT.1 cT.2) (az Dm (hr.mono (by decide)) wO T.zx T.Ae T.Af .nil (fun _=>.nil) aV.pass (ae (D1 (aN hr) (ah (i:=2) rfl (Or.inr (Or.inl fo)) dM.1 dM.2) (ah (i:=3) rfl (Or.inl iD) cT.1 cT.2) (A3 wD T.AG (v:=.ref a.wx) rfl T.zz DZ.1) ⟨rfl,rfl,rfl,rfl⟩) (ae (aM (i:=4) rfl (Or.inl jl) dz.1 dz.2) ar)) (aG (d:=0) (ai (ai aH)) rfl) D7.1))))
   (aE (bt (cQ (ae (ah (i:=0) rfl (Or.inl uT) kc.1 kc.2) (ae (mQ gI qm vY T.jq iL (uv (lo:=5) rfl tZ rfl (kK (lT (nE rfl) vg uM T.tE u0 (ah (i:=2) rfl (Or.inr (Or.inl fo)) dM.1 dM.2) uY vj.1)) (fun _ _ _ _ _=>(bj (i:=5) tZ.nd rfl (Or.inl (aI eu)) (by decide) (Or.inr (aI eu)))) (fun _ _ _ _ _=>(Hk (qY hr.units (aQ (aN hr) (ah (i:=2) rfl (gE j3) dM.1 dM.2) (ah (i:=5) rfl (Or.inl (aI eu)) cT.1 cT.2) (fun _ _=>rfl) (fun _ _=>rfl)) (A3 (xh uV) T.AG (v:=.ref a.wx) rfl T.zz DZ.1)))) (fun _ _ _ _ _=>(cQ (ae (ah (i:=5) rfl (Or.inl (aI eu)) cT.1 cT.2) (ae (aQ (aN hr) (ah (i:=2) rfl (gE j3) dM.1 dM.2) (ah (i:=5) rfl (Or.inl (aI eu)) cT.1 cT.2) (fun _ _=>rfl) (fun _ _=>rfl)) ar))))) iT iM.1) ar))))))))
theorem vJ (T:Txt K mg a):dw P w K mg base (CXE P w) 6 a.kB a.jm ["a", "b"] (SpM ⟨K,mg⟩ 2 kA):=by
 have S:=BH
 have wu:=yZ (P:=P) (w:=w) (base:=base) T
 have Dm:=EB (P:=P) (w:=w) (base:=base) T
 exact cc (m:=rN) T.tU S (fun cdv A outer s H E hr=>(aE (bt (az wu (hr.mono (by decide)) su T.u7 T.uE T.uF .nil (fun _=>.nil) aV.pass (ae (az Dm (hr.mono (by decide)) uJ T.zx T.Ae T.Af .nil (fun _=>.nil) aV.pass (ae (aQ (aN hr) (ah (i:=0) rfl (Or.inl rK) gj.1 gj.2) ao (fun _ _=>rfl) (fun _ _=>rfl)) (ae (aQ (aN hr) (ah (i:=1) rfl (Or.inl qZ) lj.1 lj.2) ao (fun _ _=>rfl) (fun _ _=>rfl)) ar)) (aG (d:=0) (ai (ai aH)) rfl) D7.1) (ae (eC (aQ (aN hr) (ah (i:=0) rfl (Or.inl rK) gj.1 gj.2) ao (fun _ _=>rfl) (fun _ _=>rfl)) (aQ (aN hr) (ah (i:=1) rfl (Or.inl qZ) lj.1 lj.2) ao (fun _ _=>rfl) (fun _ _=>rfl))) ar)) (aG (d:=0) (ai (ai aH)) rfl) zk.1))))
theorem ug (T:Txt K mg a):dw P w K mg base (CXE P w) 6 a.jC a.ik ["a", "number"] (SpM ⟨K,mg⟩ 2 jJ):=by
 have S:=zL
 have wu:=yZ (P:=P) (w:=w) (base:=base) T
 have EA:=Gx (P:=P) (w:=w) (base:=base) T
 exact cc (m:=pL) T.rH S (fun cdv A outer s H E hr=>(aE (bt (az wu (hr.mono (by decide)) qF T.u7 T.uE T.uF .nil (fun _=>.nil) aV.pass (ae (az EA (hr.mono (by decide)) r9 T.xF T.wM T.wH .nil (fun _=>.nil) aV.pass (ae (aQ (aN hr) (ah (i:=0) rfl (Or.inl pW) gj.1 gj.2) ao (fun _ _=>rfl) (fun _ _=>rfl)) (ae (aM (i:=1) rfl (Or.inr (Or.inl qK)) kc.1 kc.2) ar)) (aG (d:=0) (ai (ai aH)) rfl) BM.1) (ae (Kl (uv (lo:=2) rfl e8 rfl (kK (aQ (aN hr) (ah (i:=0) rfl (Or.inl pW) gj.1 gj.2) ao (fun _ _=>rfl) (fun _ _=>rfl))) (fun _ _ _ _ _=>(vQ (qt (n:=2) rfl (bh (bj (i:=2) e8.nd rfl (Or.inl (aI dc)) (by decide) (Or.inr (aI dc))) (bh (bj (i:=3) e8.nd rfl (Or.inl (aI cA)) (by decide) (Or.inr (aI cA))) dR (fun x y=>bg x y)) (fun x y=>bg x y))) (pz (n:=2) rfl (bh (bj (i:=2) e8.nd rfl (Or.inl (aI dc)) (by decide) (Or.inr (aI dc))) (bh (bj (i:=3) e8.nd rfl (Or.inl (aI cA)) (by decide) (Or.inr (aI cA))) dR (fun x y=>bg x y)) (fun x y=>bg x y))))) (fun _ _ _ _ _=>z8) (fun _ _ _ _ _=>(cQ (ae (ah (i:=2) rfl (Or.inl (aI dc)) cT.1 cT.2) (ae (az EA (hr.mono (by decide)) (xh pX) T.xF T.wM T.wH .nil (fun _=>.nil) Hy (ae (aM (i:=3) rfl (Or.inl (aI cA)) dz.1 dz.2) (ae (aM (i:=1) rfl (gE oO) kc.1 kc.2) ar)) (aG (d:=0) (ai (ai aH)) rfl) BM.1) ar)))))) ar)) (aG (d:=0) (ai (ai aH)) rfl) zk.1))))
theorem Ay (T:Txt K mg a):dw P w K mg base (CXE P w) 7 a.jK a.il ["a", "b"] (SpM ⟨K,mg⟩ 2 lN):=by
 have S:=AR
 have sC:=vJ (P:=P) (w:=w) (base:=base) T
 have qg:=ug (P:=P) (w:=w) (base:=base) T
 exact cc (m:=oY) T.rC S (fun cdv A outer s H E hr=>(aE (bt (az sC (hr.mono (by decide)) oK T.oU T.qk T.oT .nil (fun _=>.nil) aV.pass (ae (aM (i:=0) rfl (Or.inl xf) gj.1 gj.2) (ae (az qg (hr.mono (by decide)) nc T.nj T.nO T.nJ .nil (fun _=>.nil) aV.pass (ae (aM (i:=1) rfl (Or.inl wV) lj.1 lj.2) (ae (A3 oq T.tL (v:=.ref a.ly) rfl T.tW zB.1) ar)) (aG (d:=0) (ai (ai aH)) rfl) tX.1) ar)) (aG (d:=0) (ai (ai aH)) rfl) vL.1))))
theorem yP (T:Txt K mg a):dw P w K mg base (CXE P w) 4 a.qj a.m8 ["a", "making"] (SpM ⟨K,mg⟩ 2 gQ):=by
 have S:=EM
 have fM:=jZ (P:=P) (w:=w) (base:=base) T
 exact cc (m:=tY) T.wB S (fun cdv A outer s H E hr=>(av (bx (i:=2) S.nd rfl (Or.inl jr) (aQ (aN hr) (aQ (aN hr) (ah (i:=0) rfl (Or.inl p3) gj.1 gj.2) ao (fun _ _=>rfl) (fun _ _=>rfl)) ao (fun _ _=>rfl) (fun _ _=>rfl)))
   (av (bx (i:=3) S.nd rfl (Or.inl dU) (aQ (aN hr) (aQ (aN hr) (ah (i:=0) rfl (Or.inl p3) gj.1 gj.2) ao (fun _ _=>rfl) (fun _ _=>rfl)) ao (fun _ _=>rfl) (fun _ _=>rfl)))
   (av (pQ PassesOwn.leaving rfl (kK (aQ (aN hr) (ah (i:=0) rfl (Or.inl p3) gj.1 gj.2) ao (fun _ _=>rfl) (fun _ _=>rfl))) (vQ (qt (n:=2) rfl (bh (bj (i:=4) S.nd rfl (Or.inl fP) (by decide)) (bh (bj (i:=5) S.nd rfl (Or.inl d9) (by decide)) dR (fun x y=>bg x y)) (fun x y=>bg x y))) (pz (n:=2) rfl (bh (bj (i:=4) S.nd rfl (Or.inl fP) (by decide)) (bh (bj (i:=5) S.nd rfl (Or.inl d9) (by decide)) dR (fun x y=>bg x y)) (fun x y=>bg x y)))) (av (fB (Mk (aN hr) (ah (i:=4) rfl (Or.inl fP) cT.1 cT.2) (ah (i:=1) rfl (Or.inl mK) qC.1 qC.2) (by with_unfolding_all rfl)) (aE (Hg aV rfl vR T.m7 T.Cd (ae (KI (tw nK (tw (Gf (ah (i:=4) rfl (Or.inl fP) cT.1 cT.2)) HE))) ar) BQ.1)) cb)
   (av (bx (i:=6) S.nd rfl (Or.inl gU) (aQ (aN hr) (ah (i:=1) rfl (Or.inl mK) qC.1 qC.2) (ah (i:=4) rfl (Or.inl fP) cT.1 cT.2) (fun _ _=>rfl) (fun _ _=>rfl)))
   (av (bx (i:=2) S.nd rfl (Or.inl jr) (eC (dm (dm (ah (i:=2) rfl (Or.inl jr) pY.1 pY.2) (aQ (aN hr) (ah (i:=5) rfl (Or.inl d9) dz.1 dz.2) ao (fun _ _=>rfl) (fun _ _=>rfl))) (aQ (aN hr) (ah (i:=6) rfl (Or.inl gU) mU.1 mU.2) ao (fun _ _=>rfl) (fun _ _=>rfl))) (dm (dm (aQ (aN hr) (ah (i:=5) rfl (Or.inl d9) dz.1 dz.2) ao (fun _ _=>rfl) (fun _ _=>rfl)) (aQ (aN hr) (ah (i:=6) rfl (Or.inl gU) mU.1 mU.2) ao (fun _ _=>rfl) (fun _ _=>rfl))) (ah (i:=3) rfl (Or.inl dU) fe.1 fe.2))))
   (aE (bx (i:=3) S.nd rfl (Or.inl dU) (dm (dm (ah (i:=3) rfl (Or.inl dU) fe.1 fe.2) (aQ (aN hr) (ah (i:=5) rfl (Or.inl d9) dz.1 dz.2) ao (fun _ _=>rfl) (fun _ _=>rfl))) (aQ (aN hr) (ah (i:=6) rfl (Or.inl gU) mU.1 mU.2) ao (fun _ _=>rfl) (fun _ _=>rfl)))))))))
   (aE (bt (az fM (hr.mono (by decide)) oh T.gT T.gS T.gV .nil (fun _=>.nil) aV.pass (ae (aM (i:=2) rfl (Or.inl jr) pY.1 pY.2) (ae (aM (i:=3) rfl (Or.inl dU) fe.1 fe.2) ar)) (aG (d:=0) (ai (ai aH)) rfl) jV.1)))))))
theorem yh (T:Txt K mg a):dw P w K mg base (CXE P w) 2 a.iH a.gr ["a", "word"] (SpM ⟨K,mg⟩ 2 j6):=by
 have S:=yI
 exact cc (m:=nZ) T.pf S (fun cdv A outer s H E hr=>(aE (bt (cQ (ae (aQ (aN hr) (ah (i:=0) rfl (Or.inl oC) gj.1 gj.2) ao (fun _ _=>rfl) (fun _ _=>rfl)) (ae (mQ gI qm qI T.jq iL (uv (lo:=2) rfl d5 rfl (kK (aQ (aN hr) (ah (i:=0) rfl (Or.inl oC) gj.1 gj.2) ao (fun _ _=>rfl) (fun _ _=>rfl))) (fun _ _ _ _ _=>(vQ (qt (n:=2) rfl (bh (bj (i:=2) d5.nd rfl (Or.inl (aI cP)) (by decide) (Or.inr (aI cP))) (bh (bj (i:=3) d5.nd rfl (Or.inl (aI cg)) (by decide) (Or.inr (aI cg))) dR (fun x y=>bg x y)) (fun x y=>bg x y))) (pz (n:=2) rfl (bh (bj (i:=2) d5.nd rfl (Or.inl (aI cP)) (by decide) (Or.inr (aI cP))) (bh (bj (i:=3) d5.nd rfl (Or.inl (aI cg)) (by decide) (Or.inr (aI cg))) dR (fun x y=>bg x y)) (fun x y=>bg x y))))) (fun _ _ _ _ _=>z8) (fun _ _ _ _ _=>(cQ (ae (KI (tw (Gf (ah (i:=1) rfl (gE pB) Eg.1 Eg.2)) (tw nK (tw (Gf (ah (i:=2) rfl (Or.inl (aI cP)) cT.1 cT.2)) HE)))) (ae (ah (i:=3) rfl (Or.inl (aI cg)) dz.1 dz.2) ar))))) iT iM.1) ar))))))
theorem Aj (T:Txt K mg a):dw P w K mg base (CXE P w) 2 a.jT a.ib ["_law_script", "_law_k"] (SpM ⟨K,mg⟩ 2 iw):=by
 have S:=zZ
 exact cc (m:=lu) T.rq S (fun cdv A outer s H E hr=>(av (bx (i:=2) S.nd rfl (Or.inl df) ao)
   (av (fB (Gm (ah (i:=1) rfl (Or.inl gD) hU.1 hU.2) (lT iE n5 uG T.qW nG (ah (i:=0) rfl (Or.inl gN) cO.1 cO.2) n9 m9.1)) (aE (bx (i:=2) S.nd rfl (Or.inl df) (aQ (aN hr) (ah (i:=0) rfl (Or.inl gN) cO.1 cO.2) (ah (i:=1) rfl (Or.inl gD) hU.1 hU.2) (fun _ _=>rfl) (fun _ _=>rfl)))) cb)
   (aE (bt (si (ae (mQ uH Dx uK T.BS zy (OF (lT Bg Gw vy T.HK Gu (ah (i:=2) rfl (Or.inl df) j7.1 j7.2) GD F7.1) (zX ao ao)) zE An.1) (ae (ah (i:=2) rfl (Or.inl df) j7.1 j7.2) (ae (dm ao (ah (i:=1) rfl (Or.inl gD) hU.1 hU.2)) ar)))))))))
theorem iA (T:Txt K mg a):dw P w K mg base (CXE P w) 2 a.jS a.hY ["_law_well_here", "_law_many"] (SpM ⟨K,mg⟩ 2 aF):=by
 have S:=zU
 exact cc (m:=oV) T.qR S (fun cdv A outer s H E hr=>(av (fB (EH hr.units (aQ (aN hr) (ah (i:=0) rfl (Or.inl bf) af.1 af.2) ao (fun _ _=>rfl) (fun _ _=>rfl)) ao) (av (bx (i:=2) S.nd rfl (Or.inl ie) (pq (aQ (aN hr) (ah (i:=0) rfl (Or.inl bf) af.1 af.2) ao (fun _ _=>rfl) (fun _ _=>rfl)) (ah (i:=1) rfl (Or.inl eR) dB.1 dB.2)))
   (av (BK (i:=0) rfl (Or.inl bf) af.1 af.2 ao (sx (aQ (aN hr) (ah (i:=0) rfl (Or.inl bf) af.1 af.2) ao (fun _ _=>rfl) (fun _ _=>rfl)) (ah (i:=1) rfl (Or.inl eR) dB.1 dB.2)) (fun x y z=>G1 z (GF x y set_list)))
   (aE (bt (ah (i:=2) rfl (Or.inl ie) qQ.1 qQ.2))))) cb)
   (av (bx (i:=3) S.nd rfl (Or.inl cm) (eC (aQ (aN hr) (ah (i:=0) rfl (Or.inl bf) af.1 af.2) ao (fun _ _=>rfl) (fun _ _=>rfl)) ao))
   (av (BK (i:=0) rfl (Or.inl bf) af.1 af.2 ao (ah (i:=3) rfl (Or.inl cm) bO.1 bO.2) (fun x y z=>G1 z (GF x y set_list)))
   (av (bx (i:=4) S.nd rfl (Or.inl eF) (pq (dm (eC (eC (aQ (aN hr) (ah (i:=0) rfl (Or.inl bf) af.1 af.2) ao (fun _ _=>rfl) (fun _ _=>rfl)) (dm (dm ao (ah (i:=3) rfl (Or.inl cm) bO.1 bO.2)) (ah (i:=3) rfl (Or.inl cm) bO.1 bO.2))) (ah (i:=3) rfl (Or.inl cm) bO.1 bO.2)) ao) ao))
   (aE (bt (pq (sx (pq (eC (dm (ah (i:=4) rfl (Or.inl eF) br.1 br.2) ao) ao) ao) ao) (ah (i:=1) rfl (Or.inl eR) dB.1 dB.2)))))))))
theorem xx (T:Txt K mg a):dw P w K mg base (CXE P w) 2 a.gP a.ff ["_law_one", "_law_other"] (SpM ⟨K,mg⟩ 2 jo):=by
 have S:=xP
 exact cc (m:=mf) T.oF S (fun cdv A outer s H E hr=>(av (tK (n:=BIG) PassesOwn.leaving (qY hr.units (ah (i:=1) rfl (Or.inl cz) aw.1 aw.2) ao) (aE (LW (i:=0) (j:=1) (ae (ah (i:=1) rfl (Or.inl cz) aw.1 aw.2) (ae (pq (ah (i:=0) rfl (Or.inl eA) aq.1 aq.2) (ah (i:=1) rfl (Or.inl cz) aw.1 aw.2)) ar)) (by decide) (fun x=>Ml rfl S.nd (i:=0) (j:=1) rfl rfl (by decide) eA cz x (by rfl)))))
   (aE (bt (lT Bg Gw sQ T.HK Gu (ah (i:=0) rfl (Or.inl eA) aq.1 aq.2) GD F7.1)))))
theorem pU (T:Txt K mg a):dw P w K mg base (CXE P w) 3 a.kC a.i5 ["_law_top", "_law_bottom"] (SpM ⟨K,mg⟩ 2 gY):=by
 have S:=Bz
 have yo:=xx (P:=P) (w:=w) (base:=base) T
 exact cc (m:=sr) T.ux S (fun cdv A outer s H E hr=>(av (fB (Gm (ah (i:=1) rfl (Or.inl bX) cS.1 cS.2) ao) (av (bx (i:=0) S.nd rfl (Or.inl dH) (xT ao (ah (i:=0) rfl (Or.inl dH) ir.1 ir.2)))
   (aE (bx (i:=1) S.nd rfl (Or.inl bX) (xT ao (ah (i:=1) rfl (Or.inl bX) cS.1 cS.2))))) cb)
   (av (bx (i:=2) S.nd rfl (Or.inl gC) (az yo (hr.mono (by decide)) mV T.p0 T.qp T.oZ .nil (fun _=>.nil) aV.pass (ae (aM (i:=0) rfl (Or.inl dH) ir.1 ir.2) (ae (aM (i:=1) rfl (Or.inl bX) cS.1 cS.2) ar)) (aG (d:=0) (ai (ai aH)) rfl) xv.1))
   (aE (bt (cQ (ae (sx (ah (i:=0) rfl (Or.inl dH) ir.1 ir.2) (ah (i:=2) rfl (Or.inl gC) jg.1 jg.2)) (ae (sx (ah (i:=1) rfl (Or.inl bX) cS.1 cS.2) (ah (i:=2) rfl (Or.inl gC) jg.1 jg.2)) ar))))))))
theorem vP (T:Txt K mg a):dw P w K mg base (CXE P w) 4 a.kN a.jf ["_law_one", "_law_other"] (SpM ⟨K,mg⟩ 2 fO):=by
 have S:=BA
 have i9:=pU (P:=P) (w:=w) (base:=base) T
 exact cc (m:=rR) T.uq S (fun cdv A outer s H E hr=>(aE (bt (az i9 (hr.mono (by decide)) p4 T.jO T.jE T.jH .nil (fun _=>.nil) aV.pass (ae (eC (dm (aQ (aN hr) (ah (i:=0) rfl (Or.inl fR) aq.1 aq.2) ao (fun _ _=>rfl) (fun _ _=>rfl)) (aQ (aN hr) (ah (i:=1) rfl (Or.inl eY) aw.1 aw.2) ao (fun _ _=>rfl) (fun _ _=>rfl))) (dm (aQ (aN hr) (ah (i:=1) rfl (Or.inl eY) aw.1 aw.2) ao (fun _ _=>rfl) (fun _ _=>rfl)) (aQ (aN hr) (ah (i:=0) rfl (Or.inl fR) aq.1 aq.2) ao (fun _ _=>rfl) (fun _ _=>rfl)))) (ae (dm (aQ (aN hr) (ah (i:=0) rfl (Or.inl fR) aq.1 aq.2) ao (fun _ _=>rfl) (fun _ _=>rfl)) (aQ (aN hr) (ah (i:=1) rfl (Or.inl eY) aw.1 aw.2) ao (fun _ _=>rfl) (fun _ _=>rfl))) ar)) (aG (d:=0) (ai (ai aH)) rfl) lS.1))))
theorem vN (T:Txt K mg a):dw P w K mg base (CXE P w) 4 a.kn a.ji ["_law_one", "_law_other"] (SpM ⟨K,mg⟩ 2 fS):=by
 have S:=BE
 have i9:=pU (P:=P) (w:=w) (base:=base) T
 exact cc (m:=rY) T.uk S (fun cdv A outer s H E hr=>(aE (bt (az i9 (hr.mono (by decide)) oX T.jO T.jE T.jH .nil (fun _=>.nil) aV.pass (ae (dm (aQ (aN hr) (ah (i:=0) rfl (Or.inl jF) aq.1 aq.2) ao (fun _ _=>rfl) (fun _ _=>rfl)) (aQ (aN hr) (ah (i:=1) rfl (Or.inl iF) aw.1 aw.2) ao (fun _ _=>rfl) (fun _ _=>rfl))) (ae (dm (aQ (aN hr) (ah (i:=0) rfl (Or.inl jF) aq.1 aq.2) ao (fun _ _=>rfl) (fun _ _=>rfl)) (aQ (aN hr) (ah (i:=1) rfl (Or.inl iF) aw.1 aw.2) ao (fun _ _=>rfl) (fun _ _=>rfl))) ar)) (aG (d:=0) (ai (ai aH)) rfl) lS.1))))
theorem pZ (T:Txt K mg a):dw P w K mg base (CXE P w) 4 a.gL a.e9 ["_law_well_here"] (SpM ⟨K,mg⟩ 1 bA):=by
 have S:=xM
 have aX:=iA (P:=P) (w:=w) (base:=base) T
 have i9:=pU (P:=P) (w:=w) (base:=base) T
 exact cc (m:=gO) T.oE S (fun cdv A outer s H E hr=>(av (bx (i:=1) S.nd rfl (Or.inl dS) (az aX (hr.mono (by decide)) bK T.ba T.bb T.aZ .nil (fun _=>.nil) aV.pass (ae (ah (i:=0) rfl (Or.inl bp) af.1 af.2) (ae ao ar)) (aG (d:=0) (ai (ai aH)) rfl) bo.1))
   (av (fB (EH hr.units (ah (i:=1) rfl (Or.inl dS) lE.1 lE.2) ao) (aE (bt (az i9 (hr.mono (by decide)) hW T.jO T.jE T.jH .nil (fun _=>.nil) aV.pass (ae (xT (az aX (hr.mono (by decide)) bK T.ba T.bb T.aZ .nil (fun _=>.nil) aV.pass (ae (ah (i:=0) rfl (Or.inl bp) af.1 af.2) (ae (eC (dm ao (zX ao ao)) ao) ar)) (aG (d:=0) (ai (ai aH)) rfl) bo.1) (zX ao ao)) (ae (eC ao (az aX (hr.mono (by decide)) bK T.ba T.bb T.aZ .nil (fun _=>.nil) aV.pass (ae (ah (i:=0) rfl (Or.inl bp) af.1 af.2) (ae (zX ao ao) ar)) (aG (d:=0) (ai (ai aH)) rfl) bo.1)) ar)) (aG (d:=0) (ai (ai aH)) rfl) lS.1))) cb)
   (av (fB (Ky (ah (i:=1) rfl (Or.inl dS) lE.1 lE.2) ao) (aE (bt (az i9 (hr.mono (by decide)) hW T.jO T.jE T.jH .nil (fun _=>.nil) aV.pass (ae (xT (az aX (hr.mono (by decide)) bK T.ba T.bb T.aZ .nil (fun _=>.nil) aV.pass (ae (ah (i:=0) rfl (Or.inl bp) af.1 af.2) (ae ao ar)) (aG (d:=0) (ai (ai aH)) rfl) bo.1) ao) (ae (eC ao (az aX (hr.mono (by decide)) bK T.ba T.bb T.aZ .nil (fun _=>.nil) aV.pass (ae (ah (i:=0) rfl (Or.inl bp) af.1 af.2) (ae ao ar)) (aG (d:=0) (ai (ai aH)) rfl) bo.1)) ar)) (aG (d:=0) (ai (ai aH)) rfl) lS.1))) cb)
   (aE (bt (cQ (ae (xT (az aX (hr.mono (by decide)) bK T.ba T.bb T.aZ .nil (fun _=>.nil) aV.pass (ae (ah (i:=0) rfl (Or.inl bp) af.1 af.2) (ae ao ar)) (aG (d:=0) (ai (ai aH)) rfl) bo.1) ao) (ae ao ar)))))))))
theorem yD (T:Txt K mg a):dw P w K mg base (CXE P w) 2 a.iG a.gn ["_law_found"] (SpM ⟨K,mg⟩ 1 j5):=by
 have S:=yx
 exact cc (m:=tM) T.qf S (fun cdv A outer s H E hr=>(aE (bt (MF (sO .int gK T.cG cE tj T.BS zy (ah (i:=0) rfl (Or.inl gH) aJ.1 aJ.2) cF cI.1 zE An.1) (K7 (LK (sO .bool gK T.cG cE sy T.FF Jc (ah (i:=0) rfl (Or.inl gH) aJ.1 aJ.2) cF cI.1 Im IV.1)))))))
theorem sI (T:Txt K mg a):dw P w K mg base (CXE P w) 3 a.mS a.kj ["_law_found", "_law_due_here"] (SpM ⟨K,mg⟩ 2 gf):=by
 have S:=C7
 have t6:=yD (P:=P) (w:=w) (base:=base) T
 exact cc (m:=uO) T.vG S (fun cdv A outer s H E hr=>(av (fB (zh (rE (gz (gx (sO .tuple oN T.cG cE uZ T.jq iL (ah (i:=0) rfl (Or.inl cB) aJ.1 aJ.2) cF cI.1 iT iM.1))) (rE (qY hr.units (lT iE n5 xU T.qW nG (ah (i:=0) rfl (Or.inl cB) aJ.1 aJ.2) n9 m9.1) ao) (rE (gz (gx (az t6 (hr.mono (by decide)) iY T.mH T.mm T.l9 .nil (fun _=>.nil) aV.pass (ae (aQ (aN hr) (ah (i:=0) rfl (Or.inl cB) aJ.1 aJ.2) ao (fun _ _=>rfl) (fun _ _=>rfl)) ar) (aG (d:=0) (ai aH) rfl) qN.1))) (uL (gz (gx (az t6 (hr.mono (by decide)) iY T.mH T.mm T.l9 .nil (fun _=>.nil) aV.pass (ae (aQ (aN hr) (ah (i:=0) rfl (Or.inl cB) aJ.1 aJ.2) ao (fun _ _=>rfl) (fun _ _=>rfl)) ar) (aG (d:=0) (ai aH) rfl) qN.1)))))))) (aE (bt j0)) cb)
   (aE (bt (FO hr.units (ah (i:=0) rfl (Or.inl cB) aJ.1 aJ.2) (ah (i:=1) rfl (Or.inl l4) bU.1 bU.2))))))
theorem zS (T:Txt K mg a):dw P w K mg base (CXE P w) 3 a.jG a.hJ ["_law_well_here", "_law_most"] (SpM ⟨K,mg⟩ 2 eE):=by
 have S:=Aq
 have aX:=iA (P:=P) (w:=w) (base:=base) T
 exact cc (m:=oW) T.rj S (fun cdv A outer s H E hr=>(av (bx (i:=2) S.nd rfl (Or.inr mP) nK)
   (av (bx (i:=3) S.nd rfl (Or.inl iO) (eC ao (az aX (hr.mono (by decide)) iR T.ba T.bb T.aZ .nil (fun _=>.nil) aV.pass (ae (ah (i:=0) rfl (Or.inr (Or.inl fm)) af.1 af.2) (ae (aQ (aN hr) (si (ae ao (ae (ah (i:=1) rfl (Or.inl ow) ui.1 ui.2) ar))) (mQ uH Dx uR T.BS zy (FO hr.units (az aX (hr.mono (by decide)) iR T.ba T.bb T.aZ .nil (fun _=>.nil) aV.pass (ae (ah (i:=0) rfl (Or.inr (Or.inl fm)) af.1 af.2) (ae ao ar)) (aG (d:=0) (ai (ai aH)) rfl) bo.1) ao) zE An.1) (fun _ _=>rfl) (fun _ _=>rfl)) ar)) (aG (d:=0) (ai (ai aH)) rfl) bo.1)))
   (aE (bt (Jb nK (uv (lo:=4) rfl oB rfl (DT sg T.A4 (ah (i:=3) rfl (Or.inl iO) sU.1 sU.2)) (fun _ _ _ _ _=>(bj (i:=4) oB.nd rfl (Or.inl (aI i3)) (by decide) (Or.inr (aI i3)))) (fun _ _ _ _ _=>z8) (fun _ _ _ _ _=>(aQ (aN hr) (ah (i:=2) rfl (gE lh) rn.1 rn.2) (az aX (hr.mono (by decide)) (xh l5) T.ba T.bb T.aZ .nil (fun _=>.nil) Hy (ae (ah (i:=0) rfl (gE jz) af.1 af.2) (ae ao ar)) (aG (d:=0) (ai (ai aH)) rfl) bo.1) (fun _ _=>rfl) (fun _ _=>rfl)))) (fun x y=>KU PySem.F.plainAttrs_str PySem.F.slot_str_join PySem.F.type_str_join G8 x (fk y mn))))))))
theorem yd (T:Txt K mg a):dw P w K mg base (CXE P w) 4 a.iP a.gq ["_law_well_here", "_law_many"] (SpM ⟨K,mg⟩ 2 iK):=by
 have S:=yC
 have vH:=zS (P:=P) (w:=w) (base:=base) T
 have aX:=iA (P:=P) (w:=w) (base:=base) T
 exact cc (m:=n8) T.pF S (fun cdv A outer s H E hr=>(av (bx (i:=2) S.nd rfl (Or.inl bq) (si (ae (az vH (hr.mono (by decide)) ij T.nQ T.oo T.nu .nil (fun _=>.nil) aV.pass (ae (ah (i:=0) rfl (Or.inl bQ) af.1 af.2) (ae ao ar)) (aG (d:=0) (ai (ai aH)) rfl) ud.1) ar)))
   (av (tK (n:=BIG) PassesOwn.leaving (Gm (lT iE n5 sY T.qW nG (ah (i:=2) rfl (Or.inl bq) ay.1 ay.2) n9 m9.1) (ah (i:=1) rfl (Or.inl mY) dB.1 dB.2)) (av (bx (i:=3) S.nd rfl (Or.inl bw) (az vH (hr.mono (by decide)) ij T.nQ T.oo T.nu .nil (fun _=>.nil) aV.pass (ae (ah (i:=0) rfl (Or.inl bQ) af.1 af.2) (ae ao ar)) (aG (d:=0) (ai (ai aH)) rfl) ud.1))
   (av (fB (EH hr.units (az aX (hr.mono (by decide)) ig T.ba T.bb T.aZ .nil (fun _=>.nil) aV.pass (ae (ah (i:=0) rfl (Or.inl bQ) af.1 af.2) (ae ao ar)) (aG (d:=0) (ai (ai aH)) rfl) bo.1) ao) (aE (bx (i:=3) S.nd rfl (Or.inl bw) (GX (eC (aQ (aN hr) (ah (i:=2) rfl (Or.inl bq) ay.1 ay.2) (zW ao) (fun _ _=>rfl) (fun _ _=>rfl)) (aQ (aN hr) nK (az aX (hr.mono (by decide)) ig T.ba T.bb T.aZ .nil (fun _=>.nil) aV.pass (ae (ah (i:=0) rfl (Or.inl bQ) af.1 af.2) (ae ao ar)) (aG (d:=0) (ai (ai aH)) rfl) bo.1) (fun _ _=>rfl) (fun _ _=>rfl))) AJ (zT ao)))) cb)
   (av (bx (i:=4) S.nd rfl (Or.inl bV) ao)
   (av (tK (n:=BIG) PassesOwn.leaving (K4 (aN hr) (ah (i:=3) rfl (Or.inl bw) au.1 au.2) (ah (i:=2) rfl (Or.inl bq) ay.1 ay.2) (by with_unfolding_all rfl)) (av (bx (i:=3) S.nd rfl (Or.inl bw) (eC (eC (GX (ah (i:=3) rfl (Or.inl bw) au.1 au.2) AJ (zT ao)) (aQ (aN hr) nK (pq (ah (i:=4) rfl (Or.inl bV) bO.1 bO.2) ao) (fun _ _=>rfl) (fun _ _=>rfl))) (aQ (aN hr) nK (pq (sx (ah (i:=4) rfl (Or.inl bV) bO.1 bO.2) ao) ao) (fun _ _=>rfl) (fun _ _=>rfl))))
   (aE (bx (i:=4) S.nd rfl (Or.inl bV) (eC (ah (i:=4) rfl (Or.inl bV) bO.1 bO.2) ao)))))
   (aE (AN (zg (i:=2) rfl (Or.inl bq) ay.1 ay.2 (ah (i:=3) rfl (Or.inl bw) au.1 au.2)))))))))
   (aE (bt (ah (i:=2) rfl (Or.inl bq) ay.1 ay.2))))))
theorem wL (T:Txt K mg a):dw P w K mg base (CXE P w) 4 a.gJ a.fc ["_law_found", "_law_due_here"] (SpM ⟨K,mg⟩ 2 dg):=by
 have S:=wK
 have kf:=sI (P:=P) (w:=w) (base:=base) T
 exact cc (m:=mD) T.oG S (fun cdv A outer s H E hr=>(av (fB (zh (rE (gz (gx (sO .tuple cy T.cG cE fN T.jq iL (ah (i:=0) rfl (Or.inl bH) aJ.1 aJ.2) cF cI.1 iT iM.1))) (rE (qY hr.units (lT iE n5 eO T.qW nG (ah (i:=0) rfl (Or.inl bH) aJ.1 aJ.2) n9 m9.1) ao) (uL (gz (gx (sO .tuple cy T.cG cE fN T.jq iL (aQ (aN hr) (ah (i:=0) rfl (Or.inl bH) aJ.1 aJ.2) ao (fun _ _=>rfl) (fun _ _=>rfl)) cF cI.1 iT iM.1))))))) (aE (bt j0)) cb)
   (av (fB (zh (rE (gz (gx (az kf (hr.mono (by decide)) iC T.kT T.ku T.kG .nil (fun _=>.nil) aV.pass (ae (aQ (aN hr) (ah (i:=0) rfl (Or.inl bH) aJ.1 aJ.2) ao (fun _ _=>rfl) (fun _ _=>rfl)) (ae (aQ (aN hr) (ah (i:=1) rfl (Or.inl cW) bU.1 bU.2) ao (fun _ _=>rfl) (fun _ _=>rfl)) ar)) (aG (d:=0) (ai (ai aH)) rfl) nM.1))) (uL (qY hr.units (lT iE n5 eO T.qW nG (aQ (aN hr) (ah (i:=0) rfl (Or.inl bH) aJ.1 aJ.2) ao (fun _ _=>rfl) (fun _ _=>rfl)) n9 m9.1) (lT iE n5 eO T.qW nG (aQ (aN hr) (ah (i:=1) rfl (Or.inl cW) bU.1 bU.2) ao (fun _ _=>rfl) (fun _ _=>rfl)) n9 m9.1))))) (aE (bt j0)) cb)
   (av (pQ PassesOwn.leaving rfl (Lc rW T.Kf (aQ (aN hr) (ah (i:=0) rfl (Or.inl bH) aJ.1 aJ.2) ao (fun _ _=>rfl) (fun _ _=>rfl)) (aQ (aN hr) (ah (i:=1) rfl (Or.inl cW) bU.1 bU.2) ao (fun _ _=>rfl) (fun _ _=>rfl))) (vQ (qt (n:=2) rfl (bh (bj (i:=2) S.nd rfl (Or.inl bF) (by decide)) (bh (bj (i:=3) S.nd rfl (Or.inl cw) (by decide)) dR (fun x y=>bg x y)) (fun x y=>bg x y))) (pz (n:=2) rfl (bh (bj (i:=2) S.nd rfl (Or.inl bF) (by decide)) (bh (bj (i:=3) S.nd rfl (Or.inl cw) (by decide)) dR (fun x y=>bg x y)) (fun x y=>bg x y)))) (av (fB (zh (rE (gz (gx (sO .tuple cy T.cG cE fN T.jq iL (ah (i:=2) rfl (Or.inl bF) aq.1 aq.2) cF cI.1 iT iM.1))) (rE (qY hr.units (lT iE n5 eO T.qW nG (ah (i:=2) rfl (Or.inl bF) aq.1 aq.2) n9 m9.1) ao) (uL (gz (gx (sO .str cy T.cG cE sM T.K1 MS (aQ (aN hr) (ah (i:=2) rfl (Or.inl bF) aq.1 aq.2) ao (fun _ _=>rfl) (fun _ _=>rfl)) cF cI.1 M9 Nq.1))))))) (aE (bt j0)) cb)
   (aE (fB (zh (rE (qY hr.units (aQ (aN hr) (ah (i:=2) rfl (Or.inl bF) aq.1 aq.2) ao (fun _ _=>rfl) (fun _ _=>rfl)) (aQ (aN hr) (ah (i:=3) rfl (Or.inl cw) aw.1 aw.2) ao (fun _ _=>rfl) (fun _ _=>rfl))) (uL (gz (gx (az kf (hr.mono (by decide)) iC T.kT T.ku T.kG .nil (fun _=>.nil) aV.pass (ae (aQ (aN hr) (ah (i:=2) rfl (Or.inl bF) aq.1 aq.2) ao (fun _ _=>rfl) (fun _ _=>rfl)) (ae (aQ (aN hr) (ah (i:=3) rfl (Or.inl cw) aw.1 aw.2) ao (fun _ _=>rfl) (fun _ _=>rfl)) ar)) (aG (d:=0) (ai (ai aH)) rfl) nM.1)))))) (aE (bt j0)) cb))))
   (aE (bt j0))))))
theorem Bk (T:Txt K mg a):dw P w K mg base (CXE P w) 5 a.kW a.i8 ["_law_well_here", "_law_names_here"] (SpM ⟨K,mg⟩ 2 eU):=by
 have S:=BW
 have gG:=pZ (P:=P) (w:=w) (base:=base) T
 have aX:=iA (P:=P) (w:=w) (base:=base) T
 exact cc (m:=sA) T.tO S (fun cdv A outer s H E hr=>(av (bx (i:=2) S.nd rfl (Or.inl eW) (si ar))
   (av (pQ PassesOwn.leaving rfl (kK (lT (nE rfl) vg sD T.tE u0 (ah (i:=1) rfl (Or.inl j4) ay.1 ay.2) uY vj.1)) (bj (i:=3) S.nd rfl (Or.inl fJ) (by decide)) (aE (fB (Ky (az aX (hr.mono (by decide)) oP T.ba T.bb T.aZ .nil (fun _=>.nil) aV.pass (ae (ah (i:=0) rfl (Or.inl dn) af.1 af.2) (ae ao ar)) (aG (d:=0) (ai (ai aH)) rfl) bo.1) ao) (av (bx (i:=4) S.nd rfl (Or.inl cZ) (az gG (hr.mono (by decide)) iu T.fA T.fK T.fI .nil (fun _=>.nil) aV.pass (ae (ah (i:=0) rfl (Or.inl dn) af.1 af.2) ar) (aG (d:=0) (ai aH) rfl) iB.1))
   (aE (fB (qY hr.units (ah (i:=4) rfl (Or.inl cZ) br.1 br.2) (cQ (ae ao (ae ao ar)))) (aE (AN (zg (i:=2) rfl (Or.inl eW) fb.1 fb.2 (cQ (ae (ah (i:=3) rfl (Or.inl fJ) au.1 au.2) (ae (ah (i:=4) rfl (Or.inl cZ) br.1 br.2) ar)))))) cb))) cb)))
   (aE (bt (cQ (ae (az gG (hr.mono (by decide)) iu T.fA T.fK T.fI .nil (fun _=>.nil) aV.pass (ae (ah (i:=0) rfl (Or.inl dn) af.1 af.2) ar) (aG (d:=0) (ai aH) rfl) iB.1) (ae (mQ gI qm sW T.jq iL (ah (i:=2) rfl (Or.inl eW) fb.1 fb.2) iT iM.1) ar))))))))
theorem vE (T:Txt K mg a):dw P w K mg base (CXE P w) 5 a.kX a.jc ["_law_one", "_law_other", "_law_much"] (SpM ⟨K,mg⟩ 3 c0):=by
 have S:=Co
 have nY:=vP (P:=P) (w:=w) (base:=base) T
 have nF:=vN (P:=P) (w:=w) (base:=base) T
 exact cc (m:=rZ) T.t4 S (fun cdv A outer s H E hr=>(av (bx (i:=3) S.nd rfl (Or.inr cL) (mQ (nX rfl) uy vf T.xC wc (aQ (aN hr) (ah (i:=0) rfl (Or.inl jL) aq.1 aq.2) ao (fun _ _=>rfl) (fun _ _=>rfl)) v5 v9.1))
   (av (pQ PassesOwn.leaving rfl (kK (aQ (aN hr) (ah (i:=1) rfl (Or.inl iy) aw.1 aw.2) ao (fun _ _=>rfl) (fun _ _=>rfl))) (vQ (qt (n:=2) rfl (bh (bj (i:=4) S.nd rfl (Or.inl cj) (by decide)) (bh (bj (i:=5) S.nd rfl (Or.inl eD) (by decide)) dR (fun x y=>bg x y)) (fun x y=>bg x y))) (pz (n:=2) rfl (bh (bj (i:=4) S.nd rfl (Or.inl cj) (by decide)) (bh (bj (i:=5) S.nd rfl (Or.inl eD) (by decide)) dR (fun x y=>bg x y)) (fun x y=>bg x y)))) (aE (Ai (i:=3) (aN hr) rfl (Or.inr (Or.inl cL)) bP.1 bP.2 (ah (i:=4) rfl (Or.inl cj) au.1 au.2) (az nY (hr.mono (by decide)) jx T.lU T.lM T.lG .nil (fun _=>.nil) aV.pass (ae (D1 (aN hr) (ah (i:=3) rfl (Or.inr (Or.inl cL)) bP.1 bP.2) (ah (i:=4) rfl (Or.inl cj) au.1 au.2) (cQ (ae ao (ae ao ar))) ⟨rfl,rfl,rfl,rfl⟩) (ae (az nF (hr.mono (by decide)) jM T.lB T.lA T.lI .nil (fun _=>.nil) aV.pass (ae (aM (i:=5) rfl (Or.inl eD) iU.1 iU.2) (ae (aM (i:=2) rfl (Or.inl iZ) j8.1 j8.2) ar)) (aG (d:=0) (ai (ai aH)) rfl) pG.1) ar)) (aG (d:=0) (ai (ai aH)) rfl) qq.1))))
   (av (J4 (i:=6) (lo:=7) rfl qc rfl S.nd rfl eT (Du (by rfl) eT (by rfl) (by decide +kernel)) (kK (lT (nE rfl) vg rM T.tE u0 (mQ (CH rfl) Hx vA T.Hh ID (ah (i:=3) rfl (Or.inr (Or.inl cL)) bP.1 bP.2) Jg JU.1) uY vj.1)) (fun _ _ _ _ _=>(bj (i:=7) qc.nd rfl (Or.inl (aI bJ)) (by decide) (Or.inr (aI bJ)))) (fun _ _ _ _ _=>(Hk (qY hr.units (aQ (aN hr) (ah (i:=3) rfl (gE fH) bP.1 bP.2) (ah (i:=7) rfl (Or.inl (aI bJ)) au.1 au.2) (fun _ _=>rfl) (fun _ _=>rfl)) (cQ (ae ao (ae ao ar)))))) (fun _ _ _ _ _=>(cQ (ae (ah (i:=7) rfl (Or.inl (aI bJ)) au.1 au.2) (ae (aQ (aN hr) (ah (i:=3) rfl (gE fH) bP.1 bP.2) (ah (i:=7) rfl (Or.inl (aI bJ)) au.1 au.2) (fun _ _=>rfl) (fun _ _=>rfl)) ar)))))
   (aE (bt (cQ (ae (az nY (hr.mono (by decide)) jx T.lU T.lM T.lG .nil (fun _=>.nil) aV.pass (ae (aQ (aN hr) (ah (i:=0) rfl (Or.inl jL) aq.1 aq.2) ao (fun _ _=>rfl) (fun _ _=>rfl)) (ae (az nF (hr.mono (by decide)) jM T.lB T.lA T.lI .nil (fun _=>.nil) aV.pass (ae (aQ (aN hr) (ah (i:=1) rfl (Or.inl iy) aw.1 aw.2) ao (fun _ _=>rfl) (fun _ _=>rfl)) (ae (aM (i:=2) rfl (Or.inl iZ) j8.1 j8.2) ar)) (aG (d:=0) (ai (ai aH)) rfl) pG.1) ar)) (aG (d:=0) (ai (ai aH)) rfl) qq.1) (ae (mQ gI qm tD T.jq iL (ah (i:=6) rfl (Or.inl eT) fb.1 fb.2) iT iM.1) ar)))))))))
theorem qP (T:Txt K mg a):dw P w K mg base (CXE P w) 5 a.iJ a.gm ["_law_some", "_law_making"] (SpM ⟨K,mg⟩ 2 gd):=by
 have S:=yf
 have nY:=vP (P:=P) (w:=w) (base:=base) T
 have nF:=vN (P:=P) (w:=w) (base:=base) T
 exact cc (m:=nN) T.pV S (fun cdv A outer s H E hr=>(av (bx (i:=2) S.nd rfl (Or.inl cM) (aQ (aN hr) (ah (i:=0) rfl (Or.inl hZ) bR.1 bR.2) ao (fun _ _=>rfl) (fun _ _=>rfl)))
   (av (pQ PassesOwn.leaving rfl (kK (aQ (aN hr) (ah (i:=0) rfl (Or.inl hZ) bR.1 bR.2) ao (fun _ _=>rfl) (fun _ _=>rfl))) (vQ (qt (n:=2) rfl (bh (bj (i:=3) S.nd rfl (Or.inl cY) (by decide)) (bh (bj (i:=4) S.nd rfl (Or.inl dy) (by decide)) dR (fun x y=>bg x y)) (fun x y=>bg x y))) (pz (n:=2) rfl (bh (bj (i:=3) S.nd rfl (Or.inl cY) (by decide)) (bh (bj (i:=4) S.nd rfl (Or.inl dy) (by decide)) dR (fun x y=>bg x y)) (fun x y=>bg x y)))) (aE (bx (i:=2) S.nd rfl (Or.inl cM) (az nY (hr.mono (by decide)) nA T.lU T.lM T.lG .nil (fun _=>.nil) aV.pass (ae (aM (i:=2) rfl (Or.inl cM) jv.1 jv.2) (ae (az nF (hr.mono (by decide)) n6 T.lB T.lA T.lI .nil (fun _=>.nil) aV.pass (ae (aM (i:=4) rfl (Or.inl dy) iU.1 iU.2) (ae (aQ (aN hr) (ah (i:=1) rfl (Or.inl lp) aW.1 aW.2) (ah (i:=3) rfl (Or.inl cY) au.1 au.2) (fun _ _=>rfl) (fun _ _=>rfl)) ar)) (aG (d:=0) (ai (ai aH)) rfl) pG.1) ar)) (aG (d:=0) (ai (ai aH)) rfl) qq.1))))
   (aE (bt (ah (i:=2) rfl (Or.inl cM) jv.1 jv.2))))))
theorem AO (T:Txt K mg a):dw P w K mg base (CXE P w) 5 a.jB a.hV ["_law_some", "_law_making"] (SpM ⟨K,mg⟩ 2 hG):=by
 have S:=AA
 have xW:=yP (P:=P) (w:=w) (base:=base) T
 exact cc (m:=lQ) T.qU S (fun cdv A outer s H E hr=>(av (bx (i:=2) S.nd rfl (Or.inl bY) Mb)
   (av (L4 (i:=3) rfl rfl rfl S.nd rfl kz oM T.vI (Ja T.m7 T.kE) (Mr (i:=2) S.nd rfl (Or.inl bY) xW (hr.mono (by decide)) qH T.u6 T.vv T.uQ (ae (aM (i:=0) rfl (Or.inl oy) bR.1 bR.2) (ae (aM (i:=1) rfl (Or.inl lW) aW.1 aW.2) ar)) (aG (d:=0) (ai (ai aH)) rfl) yT.1) (fun _=>(aE (bx (i:=2) S.nd rfl (Or.inl bY) (si (ae (D9 (cv:=(.ref a.ju)) ix T.cG cE (EG rV T.m7 (v:=.ref a.ju) rfl BQ.1) rfl (Ec T.m7 T.xr T.oA) (ah (i:=3) rfl (Or.inl kz) HL.1 HL.2) cF cI.1) (ae (D9 (cv:=(.ty "ValueError")) ix T.cG cE (En mT T.sR yw (v:=.ty "ValueError") rfl (hd:=yt.1) (hn:=yp)) rfl (Ec T.m7 T.xr T.jI) (ah (i:=3) rfl (Or.inl kz) HL.1 HL.2) cF cI.1) ar)))))) B3.1)
   (aE (bt (ah (i:=2) rfl (Or.inl bY) cV.1 cV.2))))))
theorem yr (T:Txt K mg a):dw P w K mg base (CXE P w) 6 a.iS a.gh ["_law_some", "_law_making", "_law_name_here"] (SpM ⟨K,mg⟩ 3 gc):=by
 have S:=yc
 have Cq:=AO (P:=P) (w:=w) (base:=base) T
 have kf:=sI (P:=P) (w:=w) (base:=base) T
 have nW:=qP (P:=P) (w:=w) (base:=base) T
 exact cc (m:=j9) T.qr S (fun cdv A outer s H E hr=>(av (bx (i:=3) S.nd rfl (Or.inl dv) (mQ (nX rfl) uy kL T.xC wc (ah (i:=1) rfl (Or.inl gv) aW.1 aW.2) v5 v9.1))
   (av (AN (JY (i:=3) rfl (Or.inl dv) iz.1 iz.2 (ah (i:=2) rfl (Or.inl e7) au.1 au.2) ⟨rfl,rfl,rfl,rfl⟩))
   (av (bx (i:=4) S.nd rfl (Or.inl c7) (az Cq (hr.mono (by decide)) mW T.sT T.tu T.ur .nil (fun _=>.nil) aV.pass (ae (aM (i:=0) rfl (Or.inl dY) bR.1 bR.2) (ae (aM (i:=3) rfl (Or.inl dv) iz.1 iz.2) ar)) (aG (d:=0) (ai (ai aH)) rfl) A6.1))
   (av (fB (K4 (aN hr) (ah (i:=2) rfl (Or.inl e7) au.1 au.2) (mQ (nX rfl) uy kL T.xC wc (aQ (aN hr) (ah (i:=0) rfl (Or.inl dY) bR.1 bR.2) ao (fun _ _=>rfl) (fun _ _=>rfl)) v5 v9.1) (by with_unfolding_all rfl)) (aE (bt (FO hr.units (ah (i:=4) rfl (Or.inl c7) cV.1 cV.2) (si (ae j0 (ae j0 ar)))))) cb)
   (aE (bt (az kf (hr.mono (by decide)) oQ T.kT T.ku T.kG .nil (fun _=>.nil) aV.pass (ae (aM (i:=4) rfl (Or.inl c7) cV.1 cV.2) (ae (az nW (hr.mono (by decide)) lX T.mv T.mz T.mE .nil (fun _=>.nil) aV.pass (ae (aM (i:=0) rfl (Or.inl dY) bR.1 bR.2) (ae (aM (i:=1) rfl (Or.inl gv) aW.1 aW.2) ar)) (aG (d:=0) (ai (ai aH)) rfl) rp.1) ar)) (aG (d:=0) (ai (ai aH)) rfl) nM.1))))))))
theorem yB (T:Txt K mg a):dw P w K mg base (CXE P w) 8 a.iI a.gb ["_law_one", "_law_other", "_law_number_here", "_law_word"] (SpM ⟨K,mg⟩ 4 dF):=by
 have S:=yA
 have jt:=wL (P:=P) (w:=w) (base:=base) T
 have Ao:=yh (P:=P) (w:=w) (base:=base) T
 have sC:=vJ (P:=P) (w:=w) (base:=base) T
 have kR:=vE (P:=P) (w:=w) (base:=base) T
 have BR:=Ay (P:=P) (w:=w) (base:=base) T
 have qg:=ug (P:=P) (w:=w) (base:=base) T
 exact cc (m:=om) T.ph S (fun cdv A outer s H E hr=>(av (fB (gz (gx (az jt (hr.mono (by decide)) cu T.fL T.fz T.fD .nil (fun _=>.nil) aV.pass (ae (az sC (hr.mono (by decide)) nD T.oU T.qk T.oT .nil (fun _=>.nil) aV.pass (ae (aM (i:=0) rfl (Or.inl bc) aq.1 aq.2) (ae (aM (i:=1) rfl (Or.inl cH) aw.1 aw.2) ar)) (aG (d:=0) (ai (ai aH)) rfl) vL.1) (ae (az kR (hr.mono (by decide)) eX T.jQ T.jw T.jP .nil (fun _=>.nil) aV.pass (ae (aM (i:=0) rfl (Or.inl bc) aq.1 aq.2) (ae (aM (i:=1) rfl (Or.inl cH) aw.1 aw.2) (ae (cQ (ae ao (ae ao ar))) ar))) (aG (d:=0) (ai (ai (ai aH))) rfl) lP.1) ar)) (aG (d:=0) (ai (ai aH)) rfl) iN.1))) (aE (bt j0)) cb)
   (av (fB (gz (gx (az jt (hr.mono (by decide)) cu T.fL T.fz T.fD .nil (fun _=>.nil) aV.pass (ae (az BR (hr.mono (by decide)) mO T.tP T.tI T.ub .nil (fun _=>.nil) aV.pass (ae (aM (i:=0) rfl (Or.inl bc) aq.1 aq.2) (ae (aM (i:=1) rfl (Or.inl cH) aw.1 aw.2) ar)) (aG (d:=0) (ai (ai aH)) rfl) zM.1) (ae (az kR (hr.mono (by decide)) eX T.jQ T.jw T.jP .nil (fun _=>.nil) aV.pass (ae (aM (i:=0) rfl (Or.inl bc) aq.1 aq.2) (ae (aM (i:=1) rfl (Or.inl cH) aw.1 aw.2) (ae (cQ (ae (zW ao) (ae ao ar))) ar))) (aG (d:=0) (ai (ai (ai aH))) rfl) lP.1) ar)) (aG (d:=0) (ai (ai aH)) rfl) iN.1))) (aE (bt j0)) cb)
   (av (fB (gz (gx (az jt (hr.mono (by decide)) cu T.fL T.fz T.fD .nil (fun _=>.nil) aV.pass (ae (az qg (hr.mono (by decide)) mR T.nj T.nO T.nJ .nil (fun _=>.nil) aV.pass (ae (aM (i:=0) rfl (Or.inl bc) aq.1 aq.2) (ae (aM (i:=2) rfl (Or.inl dW) br.1 br.2) ar)) (aG (d:=0) (ai (ai aH)) rfl) tX.1) (ae (az kR (hr.mono (by decide)) eX T.jQ T.jw T.jP .nil (fun _=>.nil) aV.pass (ae (cQ (ae (cQ (ae ao (ae ao ar))) (ae (cQ ar) ar))) (ae (aM (i:=0) rfl (Or.inl bc) aq.1 aq.2) (ae (aM (i:=2) rfl (Or.inl dW) br.1 br.2) ar))) (aG (d:=0) (ai (ai (ai aH))) rfl) lP.1) ar)) (aG (d:=0) (ai (ai aH)) rfl) iN.1))) (aE (bt j0)) cb)
   (aE (bt (az jt (hr.mono (by decide)) cu T.fL T.fz T.fD .nil (fun _=>.nil) aV.pass (ae (az Ao (hr.mono (by decide)) mj T.qT T.qV T.rG .nil (fun _=>.nil) aV.pass (ae (aM (i:=0) rfl (Or.inl bc) aq.1 aq.2) (ae (aM (i:=3) rfl (Or.inr (Or.inl mX)) dD.1 dD.2) ar)) (aG (d:=0) (ai (ai aH)) rfl) yH.1) (ae (cQ (ae (aQ (aN hr) (ah (i:=0) rfl (Or.inl bc) aq.1 aq.2) ao (fun _ _=>rfl) (fun _ _=>rfl)) (ae (mQ gI qm qL T.jq iL (uv (lo:=4) rfl dX rfl (kK (aQ (aN hr) (ah (i:=0) rfl (Or.inl bc) aq.1 aq.2) ao (fun _ _=>rfl) (fun _ _=>rfl))) (fun _ _ _ _ _=>(vQ (qt (n:=2) rfl (bh (bj (i:=4) dX.nd rfl (Or.inl (aI bE)) (by decide) (Or.inr (aI bE))) (bh (bj (i:=5) dX.nd rfl (Or.inl (aI bT)) (by decide) (Or.inr (aI bT))) dR (fun x y=>bg x y)) (fun x y=>bg x y))) (pz (n:=2) rfl (bh (bj (i:=4) dX.nd rfl (Or.inl (aI bE)) (by decide) (Or.inr (aI bE))) (bh (bj (i:=5) dX.nd rfl (Or.inl (aI bT)) (by decide) (Or.inr (aI bT))) dR (fun x y=>bg x y)) (fun x y=>bg x y))))) (fun _ _ _ _ _=>z8) (fun _ _ _ _ _=>(cQ (ae (eC (eC (ah (i:=3) rfl (gE lg) dD.1 dD.2) nK) (ah (i:=4) rfl (Or.inl (aI bE)) au.1 au.2)) (ae (ah (i:=5) rfl (Or.inl (aI bT)) jg.1 jg.2) ar))))) iT iM.1) ar))) ar)) (aG (d:=0) (ai (ai aH)) rfl) iN.1)))))))
theorem Nl (T:Txt K mg a):dw P w K mg base (CXE P w) 9 a.yK a.vF ["_law_script"] (SpM ⟨K,mg⟩ 1 HH):=by
 have S:=K9
 have BG:=Aj (P:=P) (w:=w) (base:=base) T
 have AY:=yd (P:=P) (w:=w) (base:=base) T
 have rO:=Bk (P:=P) (w:=w) (base:=base) T
 have aX:=iA (P:=P) (w:=w) (base:=base) T
 have kR:=vE (P:=P) (w:=w) (base:=base) T
 have gG:=pZ (P:=P) (w:=w) (base:=base) T
 have sZ:=yB (P:=P) (w:=w) (base:=base) T
 have Ac:=yr (P:=P) (w:=w) (base:=base) T
 have kf:=sI (P:=P) (w:=w) (base:=base) T
 have xW:=yP (P:=P) (w:=w) (base:=base) T
 have nW:=qP (P:=P) (w:=w) (base:=base) T
 exact cc (m:=G0) T.DP S (fun cdv A outer s H E hr=>(av (pQ PassesOwn.leaving rfl (DT zG T.A4 (KC (Fs rfl) Mf Df T.KO Lx ao (KC (EI rfl) Mh CV T.KL MG (lT iE n5 ya T.qW nG (ah (i:=0) rfl (Or.inl kU) cO.1 cO.2) n9 m9.1) ao MJ Lu.1) LF LH.1)) (bj (i:=1) S.nd rfl (Or.inl rD) (by decide)) (av (bx (i:=2) S.nd rfl (Or.inl aO) (az BG (hr.mono (by decide)) vh T.uu T.tQ T.uo .nil (fun _=>.nil) aV.pass (ae (aM (i:=0) rfl (Or.inl kU) cO.1 cO.2) (ae (aM (i:=1) rfl (Or.inl rD) hU.1 hU.2) ar)) (aG (d:=0) (ai (ai aH)) rfl) Au.1))
   (av (bx (i:=3) S.nd rfl (Or.inl bI) (az AY (hr.mono (by decide)) t9 T.rF T.rm T.rB .nil (fun _=>.nil) aV.pass (ae (ah (i:=2) rfl (Or.inl aO) af.1 af.2) (ae (eC ao (az aX (hr.mono (by decide)) dj T.ba T.bb T.aZ .nil (fun _=>.nil) aV.pass (ae (ah (i:=2) rfl (Or.inl aO) af.1 af.2) (ae ao ar)) (aG (d:=0) (ai (ai aH)) rfl) bo.1)) ar)) (aG (d:=0) (ai (ai aH)) rfl) yq.1))
   (av (bx (i:=4) S.nd rfl (Or.inl c8) (az rO (hr.mono (by decide)) jY T.lR T.lD T.lK .nil (fun _=>.nil) aV.pass (ae (ah (i:=2) rfl (Or.inl aO) af.1 af.2) (ae (aM (i:=3) rfl (Or.inl bI) ay.1 ay.2) ar)) (aG (d:=0) (ai (ai aH)) rfl) pE.1))
   (av (bx (i:=5) S.nd rfl (Or.inl fj) (az rO (hr.mono (by decide)) jY T.lR T.lD T.lK .nil (fun _=>.nil) aV.pass (ae (ah (i:=2) rfl (Or.inl aO) af.1 af.2) (ae (aM (i:=3) rfl (Or.inl bI) ay.1 ay.2) ar)) (aG (d:=0) (ai (ai aH)) rfl) pE.1))
   (av (fB (EH hr.units (az aX (hr.mono (by decide)) dj T.ba T.bb T.aZ .nil (fun _=>.nil) aV.pass (ae (ah (i:=2) rfl (Or.inl aO) af.1 af.2) (ae ao ar)) (aG (d:=0) (ai (ai aH)) rfl) bo.1) ao) (aE (bx (i:=5) S.nd rfl (Or.inl fj) (az kR (hr.mono (by decide)) vS T.jQ T.jw T.jP .nil (fun _=>.nil) aV.pass (ae (az rO (hr.mono (by decide)) jY T.lR T.lD T.lK .nil (fun _=>.nil) aV.pass (ae (ah (i:=2) rfl (Or.inl aO) af.1 af.2) (ae (Kl (GX (ah (i:=3) rfl (Or.inl bI) ay.1 ay.2) AJ (zT ao))) ar)) (aG (d:=0) (ai (ai aH)) rfl) pE.1) (ae (aM (i:=4) rfl (Or.inl c8) aq.1 aq.2) (ae (cQ (ae (zW ao) (ae ao ar))) ar))) (aG (d:=0) (ai (ai (ai aH))) rfl) lP.1))) cb)
   (av (bx (i:=6) S.nd rfl (Or.inl i7) (dm (aQ (aN hr) nK (az aX (hr.mono (by decide)) dj T.ba T.bb T.aZ .nil (fun _=>.nil) aV.pass (ae (ah (i:=2) rfl (Or.inl aO) af.1 af.2) (ae ao ar)) (aG (d:=0) (ai (ai aH)) rfl) bo.1) (fun _ _=>rfl) (fun _ _=>rfl)) (eC ao (az aX (hr.mono (by decide)) dj T.ba T.bb T.aZ .nil (fun _=>.nil) aV.pass (ae (ah (i:=2) rfl (Or.inl aO) af.1 af.2) (ae ao ar)) (aG (d:=0) (ai (ai aH)) rfl) bo.1))))
   (av (bx (i:=7) S.nd rfl (Or.inl cD) (FT (cQ (ae ao (ae ao ar)))))
   (av (pQ PassesOwn.leaving rfl (kK (ah (i:=3) rfl (Or.inl bI) ay.1 ay.2)) (bj (i:=8) S.nd rfl (Or.inl iX) (by decide)) (aE (Ai (i:=7) (aN hr) rfl (Or.inl cD) aW.1 aW.2 (ah (i:=8) rfl (Or.inl iX) au.1 au.2) (az gG (hr.mono (by decide)) kJ T.fA T.fK T.fI .nil (fun _=>.nil) aV.pass (ae (ah (i:=2) rfl (Or.inl aO) af.1 af.2) ar) (aG (d:=0) (ai aH) rfl) iB.1))))
   (av (bx (i:=9) S.nd rfl (Or.inl hE) (mQ (nX rfl) uy Bp T.xC wc (ah (i:=7) rfl (Or.inl cD) aW.1 aW.2) v5 v9.1))
   (av (fB (gz (gx (az sZ (hr.mono (by decide)) lC T.mw T.l7 T.mq .nil (fun _=>.nil) aV.pass (ae (aM (i:=4) rfl (Or.inl c8) aq.1 aq.2) (ae (aM (i:=5) rfl (Or.inl fj) aw.1 aw.2) (ae (aQ (aN hr) (si (ae (cQ (ae ao (ae ao ar))) (ae (az gG (hr.mono (by decide)) kJ T.fA T.fK T.fI .nil (fun _=>.nil) aV.pass (ae (ah (i:=2) rfl (Or.inl aO) af.1 af.2) ar) (aG (d:=0) (ai aH) rfl) iB.1) ar))) (mQ uH Dx De T.BS zy (N7 (az aX (hr.mono (by decide)) dj T.ba T.bb T.aZ .nil (fun _=>.nil) aV.pass (ae (ah (i:=2) rfl (Or.inl aO) af.1 af.2) (ae ao ar)) (aG (d:=0) (ai (ai aH)) rfl) bo.1) ao) zE An.1) (fun _ _=>rfl) (fun _ _=>rfl)) (ae (aM (i:=6) rfl (Or.inl i7) dD.1 dD.2) ar)))) (aG (d:=0) (ai (ai (ai (ai aH)))) rfl) qS.1))) (aE (bt j0)) cb)
   (av (fB (zh (rE (gz (gx (az kf (hr.mono (by decide)) xZ T.kT T.ku T.kG .nil (fun _=>.nil) aV.pass (ae (az xW (hr.mono (by decide)) ye T.u6 T.vv T.uQ .nil (fun _=>.nil) aV.pass (ae (aM (i:=4) rfl (Or.inl c8) aq.1 aq.2) (ae (aM (i:=9) rfl (Or.inl hE) iV.1 iV.2) ar)) (aG (d:=0) (ai (ai aH)) rfl) yT.1) (ae (az nW (hr.mono (by decide)) tN T.mv T.mz T.mE .nil (fun _=>.nil) aV.pass (ae (aM (i:=4) rfl (Or.inl c8) aq.1 aq.2) (ae (aM (i:=7) rfl (Or.inl cD) aW.1 aW.2) ar)) (aG (d:=0) (ai (ai aH)) rfl) rp.1) ar)) (aG (d:=0) (ai (ai aH)) rfl) nM.1))) (uL (LM hr.units (ah (i:=9) rfl (Or.inl hE) iV.1 iV.2) (ah (i:=7) rfl (Or.inl cD) aW.1 aW.2))))) (aE (bt j0)) cb)
   (av (fB (gz (gx (az Ac (hr.mono (by decide)) tm T.rh T.rg T.qX .nil (fun _=>.nil) aV.pass (ae (aM (i:=4) rfl (Or.inl c8) aq.1 aq.2) (ae (aM (i:=7) rfl (Or.inl cD) aW.1 aW.2) (ae (aQ (aN hr) (ah (i:=3) rfl (Or.inl bI) ay.1 ay.2) (az aX (hr.mono (by decide)) dj T.ba T.bb T.aZ .nil (fun _=>.nil) aV.pass (ae (ah (i:=2) rfl (Or.inl aO) af.1 af.2) (ae (lT iE n5 ya T.qW nG (ah (i:=3) rfl (Or.inl bI) ay.1 ay.2) n9 m9.1) ar)) (aG (d:=0) (ai (ai aH)) rfl) bo.1) (fun _ _=>rfl) (fun _ _=>rfl)) ar))) (aG (d:=0) (ai (ai (ai aH))) rfl) yg.1))) (aE (bt j0)) cb)
   (aE (fB (gz (gx (az sZ (hr.mono (by decide)) lC T.mw T.l7 T.mq .nil (fun _=>.nil) aV.pass (ae (aM (i:=5) rfl (Or.inl fj) aw.1 aw.2) (ae (aM (i:=4) rfl (Or.inl c8) aq.1 aq.2) (ae (cQ (ae (zW ao) (ae ao ar))) (ae (aM (i:=6) rfl (Or.inl i7) dD.1 dD.2) ar)))) (aG (d:=0) (ai (ai (ai (ai aH)))) rfl) qS.1))) (aE (bt j0)) cb)))))))))))))))
   (aE (bt j0))))
end
end W
set_option maxHeartbeats 1000000
set_option exponentiation.threshold 100000
namespace W
open PySem L2 M
theorem Et {α:Type} (x:α) (xs:List α):atI (x :: xs) 0 = some x:=by
 unfold atI ixN
 rw [if_pos (by decide),if_pos (by simp only [List.length_cons]; omega)]
 rfl
theorem DK {α:Type} (x y:α) (xs:List α):atI (x :: y :: xs) 1 = some y:=by
 unfold atI ixN
 rw [if_pos (by decide),if_pos (by simp only [List.length_cons]; omega)]
 rfl
theorem KN {α:Type} (x y z:α) (xs:List α):atI (x :: y :: z :: xs) 2 = some z:=by
 unfold atI ixN
 rw [if_pos (by decide),if_pos (by simp only [List.length_cons]; omega)]
 rfl
local macro_rules | `(tactic| walk_at "evh")=>`(tactic| simp only [M.GP,M.Ei,M.Gq,M.Km,M.FQ,M.e_C,M.Oh,M.Ol,M.NY,M.NH,M.Hm,M.D6,M.KG,M.NR,M.Ks,M.FJ,M.K3,M.FZ,M.NK,M.K0,M.G6,M.KP,M.Kr,M.Hf,M.gu,M.G4,M.K6,M.KR,M.Gj,M.GK,M.Kz,M.KA,M.Kt,M.Aw,M.Hi,M.Ha,M.Hj,M.G7,M.Kh,M.K5,M.KJ,M.DO,M.FC,M.FY,M.Fv,M.Ej,M.OK,M.NP,M.B4,M.Gg,M.e_J,M.N6,M.NG,M.N4,M.fzK,
 M.opK,M.unK,M.Es,M.asB,M.tupK,M.lstK,M.Mo,M.Nf,M.Lo,M.G9,M.Nj,M.Nk,M.Le,M.ixK,M.dK,M.Fy,M.Eo,M.s1K,M.slK,M.Gp,M.res,M.Sl.a,M.LO.a,M.jD,M.dr,M.stT,M.put,M.GB,M.fOr,M.gOr,M.fIx,M.aA,M.DV,M.Cp,M.Bs,M.zw,M.Cs,M.BL,M.uj,M.nh,M.AQ,M.fLt,M.fLe,M.fGt,M.fGe,M.fEq,M.fNe,M.fIs,M.wI,M.qJ,M.GV,M.Jt,M.HP,M.DC,M.zi,M.pS,M.zQ,M.bB,M.cC,M.aL,M.gM,M.gR,M.mr,M.Ea,M.ck,M.setAt,M.isL,M.EZ,M.kq,M.As,M.xl,
 List.getElem?_cons_zero,List.getElem?_cons_succ,List.set_cons_zero,List.set_cons_succ,List.cons_append,List.nil_append,List.append_nil,List.replicate_succ,List.replicate_zero,List.map_cons,List.map_nil,List.length_cons,List.length_nil,Nat.reduceAdd,Nat.reduceLeDiff,Nat.reduceEqDiff,Nat.reduceLT,if_true,if_false,ite_true,ite_false,Bool.not_true,Bool.not_false,Bool.false_eq_true,Bool.true_and,Bool.and_true,Et,DK,KN,decide_true,decide_false,Nat.le_refl,Nat.zero_le,M.KS,M.IH,M.Fw,M.KY,M.DY,M.DD,M.Hb,M.G3,M.GZ,M.vi,M.LC,M.xK, *])
local macro_rules | `(tactic| walk_at "ev")=>`(tactic| simp only [M.GP,M.Ei,M.Gq,M.Km,M.FQ,M.e_C,M.Oh,M.Ol,M.NY,M.NH,M.Hm,M.D6,M.KG,M.NR,M.Ks,M.FJ,M.K3,M.FZ,M.NK,M.K0,M.G6,M.KP,M.Kr,M.Hf,M.gu,M.G4,M.K6,M.KR,M.Gj,M.GK,M.Kz,M.KA,M.Kt,M.Aw,M.Hi,M.Ha,M.Hj,M.G7,M.Kh,M.K5,M.KJ,M.DO,M.FC,M.FY,M.Fv,M.Ej,M.OK,M.NP,M.B4,M.Gg,M.e_J,M.N6,M.NG,M.N4,M.fzK,
 M.opK,M.unK,M.Es,M.asB,M.tupK,M.lstK,M.Mo,M.Nf,M.Lo,M.G9,M.Nj,M.Nk,M.Le,M.ixK,M.dK,M.Fy,M.Eo,M.s1K,M.slK,M.Gp,M.res,M.Sl.a,M.LO.a,M.jD,M.dr,M.stT,M.put,M.GB,M.fOr,M.gOr,M.fIx,M.aA,M.DV,M.Cp,M.Bs,M.zw,M.Cs,M.BL,M.uj,M.nh,M.AQ,M.fLt,M.fLe,M.fGt,M.fGe,M.fEq,M.fNe,M.fIs,M.wI,M.qJ,M.GV,M.Jt,M.HP,M.DC,M.zi,M.pS,M.zQ,M.bB,M.cC,M.aL,M.gM,M.gR,M.mr,M.Ea,M.ck,M.setAt,M.isL,M.EZ,M.kq,M.As,M.xl,
 List.getElem?_cons_zero,List.getElem?_cons_succ,List.set_cons_zero,List.set_cons_succ,List.cons_append,List.nil_append,List.append_nil,List.replicate_succ,List.replicate_zero,List.map_cons,List.map_nil,List.length_cons,List.length_nil,Nat.reduceAdd,Nat.reduceLeDiff,Nat.reduceEqDiff,Nat.reduceLT,if_true,if_false,ite_true,ite_false,Bool.not_true,Bool.not_false,Bool.false_eq_true,Bool.true_and,Bool.and_true,Et,DK,KN,decide_true,decide_false,Nat.le_refl,Nat.zero_le,M.KS,M.IH,M.Fw,M.KY,M.DY,M.DD,M.Hb,M.G3,M.GZ,M.vi,M.LC,M.xK])
theorem PV {x y:Int} (h:y ≠ 0) (hb:L2.Bd 9000 y):Val gi [.int x,.int y] (.int (cd x y)):=by
 unfold Val gi ja
 walk_at "ev"
 obtain ⟨ρ',h1,q,r,h2⟩:=qB (t:=aK (mOp fNe (aj 1) (mC (A.int 0)))) (b:=aY (bG 2 (mOp nh (aj 0) (aj 1))) (aY (bG 0 (aj 1)) (bG 1 (aj 2)))) (n:=BIG)
  (P:=fun k ρ=>∃ p q r,ρ = [.fr (.int p),.fr (.int q),r] ∧ k = q.natAbs ∧ (∀ o,r ≠ Sl.pv o) ∧ (q = 0 → p = cd x y) ∧ (q ≠ 0 → cd p q = cd x y))
  (Q:=fun ρ=>∃ q r,ρ = [.fr (.int (cd x y)),q,r]) (by
   rintro k ρ ⟨p,q,r,rfl,rfl,hr,h1,h2⟩
   by_cases z:q = 0
   ·left
    subst z
    refine ⟨[.fr (.int p),.fr (.int 0),r],?_,.fr (.int 0),r,by rw [← h1 rfl]⟩
    walk_at "ev"
    try simp
   ·right
    refine ⟨[.fr (.int p),.fr (.int q),r],[.fr (.int q),.fr (.int (p.fmod q)),.fr (.int (p.fmod q))],(p.fmod q).natAbs,?_,.inl ?_,BV p z,q,p.fmod q,_,rfl,rfl,(fun o z=>by cases z),fun e=>?_,fun e=>?_⟩
    ·walk_at "ev"
     simp [z]
    ·walk_at "ev"
     rw [if_pos (by simpa using z)]
     cases r with
     | pv o=>exact absurd rfl (hr o)
     | un=>rfl
     | fr a=>rfl
     | lv o=>rfl
    ·rw [← h2 z]; exact Kd z e
    ·rw [Iv z e]; exact h2 z) (k:=y.natAbs) (ρ:=[.fr (.int x),.fr (.int y),.un]) ⟨x,y,.un,rfl,rfl,(fun o z=>by cases z),fun e=>absurd e h,fun _=>rfl⟩ (Az (Nat.lt_of_lt_of_le hb (Nat.pow_le_pow_right (by decide) (by decide))))
 refine ⟨ρ',?_⟩
 rw [h1]
 subst h2
 rfl
theorem GA {t b:Int} (h:b ≠ 0) (hb:L2.Bd 9000 b):Val dZ [.int t,.int b] (nm (nrm t b)):=by
 unfold Val dZ kM
 walk_at "ev"
 have:=aP (PV (x:=t) h hb)
 simp only [List.map_cons,List.map_nil] at this
 simp only [this]
 walk_at "ev"
 have hc:(cd t b != 0 && fits 9000 (cd t b)) = true:=by
  rw [Bool.and_eq_true]
  exact ⟨by simpa using DN h,dG (show L2.Bd 9000 (cd t b) from Nat.lt_of_le_of_lt (O3 h) hb) (Nat.le_refl _)⟩
 rw [if_pos hc]
 walk_at "ev"
 rw [if_pos hc]
 walk_at "ev"
 exact ⟨_,rfl⟩
theorem fits_of {n m:Nat} {i:Int} (h:L2.Bd m i) (k:m ≤ n):fits n i = true:=dG h k
theorem G5 {x y:Num} {n:Nat} (hx:NB n x) (hy:NB n y) (hn:n ≤ 4000):Val vw [nm x,nm y] (nm (fw x y)):=by
 unfold Val vw Di
 have f1:=fits_of (n:=20000) hx.b1 (by omega)
 have f2:=fits_of (n:=20000) hx.b2 (by omega)
 have f3:=fits_of (n:=20000) hy.b1 (by omega)
 have f4:=fits_of (n:=20000) hy.b2 (by omega)
 have:=aP (GA (t:=x.1 * y.2 + y.1 * x.2) (b:=x.2 * y.2) (Int.mul_ne_zero hx.nz hy.nz) ((hx.b2.mul hy.b2).mono (by omega)))
 simp only [List.map_cons,List.map_nil] at this
 clear hx hy hn
 simp only [nm,List.map_cons,List.map_nil]
 walk_at "evh"
 exact ⟨_,rfl⟩
theorem DL {x y:Num} {n:Nat} (hx:NB n x) (hy:NB n y) (hn:n ≤ 4000):Val qD [nm x,nm y] (nm (dC x y)):=by
 unfold Val qD A2
 have f1:=fits_of (n:=20000) hx.b1 (by omega)
 have f2:=fits_of (n:=20000) hx.b2 (by omega)
 have f3:=fits_of (n:=20000) hy.b1 (by omega)
 have f4:=fits_of (n:=20000) hy.b2 (by omega)
 have:=aP (GA (t:=x.1 * y.1) (b:=x.2 * y.2) (Int.mul_ne_zero hx.nz hy.nz) ((hx.b2.mul hy.b2).mono (by omega)))
 simp only [List.map_cons,List.map_nil] at this
 clear hx hy hn
 simp only [nm,List.map_cons,List.map_nil]
 walk_at "evh"
 exact ⟨_,rfl⟩
theorem Bu {x y:Int} (hb:L2.Bd 9000 y):Val jo [.int x,.int y] (.int (Int.gcd x y)):=by
 unfold Val jo mf
 walk_at "ev"
 obtain ⟨ρ',h1,q,h2,hg⟩:=qB (t:=aK (mOp fNe (aj 1) (mC (A.int 0)))) (b:=HG 0 1 (ag (aj 1) (ag (mOp nh (aj 0) (aj 1)) aD))) (n:=BIG)
  (P:=fun k ρ=>∃ p q,ρ = [.fr (.int p),.fr (.int q)] ∧ k = q.natAbs ∧ Int.gcd p q = Int.gcd x y)
  (Q:=fun ρ=>∃ p,ρ = [.fr (.int p),.fr (.int 0)] ∧ Int.gcd p 0 = Int.gcd x y) (by
   rintro k ρ ⟨p,q,rfl,rfl,h1⟩
   by_cases z:q = 0
   ·left
    subst z
    refine ⟨[.fr (.int p),.fr (.int 0)],?_,p,rfl,h1⟩
    walk_at "ev"
    try simp
   ·right
    refine ⟨[.fr (.int p),.fr (.int q)],[.fr (.int q),.fr (.int (p.fmod q))],(p.fmod q).natAbs,?_,.inl ?_,BV p z,q,p.fmod q,rfl,rfl,?_⟩
    ·walk_at "ev"
     simp [z]
    ·have hz:(q != 0) = true:=by simpa using z
     clear h1 z
     walk_at "evh"
    ·rw [wg,h1]) (k:=y.natAbs) (ρ:=[.fr (.int x),.fr (.int y)]) ⟨x,y,rfl,rfl,rfl⟩ (Az (Nat.lt_of_lt_of_le hb (Nat.pow_le_pow_right (by decide) (by decide))))
 refine ⟨ρ',?_⟩
 rw [h1]
 subst h2
 walk_at "ev"
 have:(if q < 0 then -q else q) = (Int.gcd x y:Int):=by
  rw [← hg,Int.gcd_zero_right]
  split <;> omega
 rw [this]
theorem Bc {t b:Int} (h:b ≠ 0) (hb:L2.Bd 9000 b):Val gY [.int t,.int b] (nm (nrm t b)):=by
 rw [← H9 h]
 unfold Val gY sr
 walk_at "ev"
 have gp:∀ t b:Int,b ≠ 0 → L2.Bd 9000 b → ((Int.gcd t b:Int) != 0 && fits 9000 (Int.gcd t b:Int)) = true:=fun t b h hb=>by
  have h1:Int.gcd t b ≤ b.natAbs:=Int.gcd_le_natAbs_right _ h
  have h0:Int.gcd t b ≠ 0:=fun z=>h (Int.gcd_eq_zero_iff.mp z).2
  rw [Bool.and_eq_true]
  exact ⟨by simpa using h0,dG (show L2.Bd 9000 (Int.gcd t b:Int) from Nat.lt_of_le_of_lt (by simpa using h1) hb) (Nat.le_refl _)⟩
 by_cases c:b < 0
 ·simp only [c,decide_true]
  walk_at "ev"
  have e1:(0:Int) - t = -t:=by omega
  have e2:(0:Int) - b = -b:=by omega
  simp only [e1,e2]
  have:=aP (Bu (x:=-t) (y:=-b) hb.neg)
  simp only [List.map_cons,List.map_nil] at this
  simp only [this]
  have hg:=gp (-t) (-b) (by omega) hb.neg
  have e3:Il t b = ((-t).fdiv (Int.gcd (-t) (-b)),(-b).fdiv (Int.gcd (-t) (-b))):=if_pos c
  rw [e3]
  simp only [nm]
  clear gp hb h c e1 e2 e3
  walk_at "evh"
  exact ⟨_,rfl⟩
 ·simp only [c,decide_false]
  walk_at "ev"
  have:=aP (Bu (x:=t) (y:=b) hb)
  simp only [List.map_cons,List.map_nil] at this
  simp only [this]
  have hg:=gp t b h hb
  have e3:Il t b = (t.fdiv (Int.gcd t b),b.fdiv (Int.gcd t b)):=if_neg c
  rw [e3]
  simp only [nm]
  clear gp hb h c e3
  walk_at "evh"
  exact ⟨_,rfl⟩
theorem CJ {x y:Num} {n:Nat} (hx:NB n x) (hy:NB n y) (hn:n ≤ 4000):Val fO [nm x,nm y] (nm (fw x y)):=by
 unfold Val fO rR
 have f1:=fits_of (n:=20000) hx.b1 (by omega)
 have f2:=fits_of (n:=20000) hx.b2 (by omega)
 have f3:=fits_of (n:=20000) hy.b1 (by omega)
 have f4:=fits_of (n:=20000) hy.b2 (by omega)
 have:=aP (Bc (t:=x.1 * y.2 + y.1 * x.2) (b:=x.2 * y.2) (Int.mul_ne_zero hx.nz hy.nz) ((hx.b2.mul hy.b2).mono (by omega)))
 simp only [List.map_cons,List.map_nil] at this
 clear hx hy hn
 simp only [nm,List.map_cons,List.map_nil]
 walk_at "evh"
 exact ⟨_,rfl⟩
theorem CP {x y:Num} {n:Nat} (hx:NB n x) (hy:NB n y) (hn:n ≤ 4000):Val fS [nm x,nm y] (nm (dC x y)):=by
 unfold Val fS rY
 have f1:=fits_of (n:=20000) hx.b1 (by omega)
 have f2:=fits_of (n:=20000) hx.b2 (by omega)
 have f3:=fits_of (n:=20000) hy.b1 (by omega)
 have f4:=fits_of (n:=20000) hy.b2 (by omega)
 have:=aP (Bc (t:=x.1 * y.1) (b:=x.2 * y.2) (Int.mul_ne_zero hx.nz hy.nz) ((hx.b2.mul hy.b2).mono (by omega)))
 simp only [List.map_cons,List.map_nil] at this
 clear hx hy hn
 simp only [nm,List.map_cons,List.map_nil]
 walk_at "evh"
 exact ⟨_,rfl⟩
def Wl (n:Int) (o:LO):Prop:=∃ f c t:Int,o = .lst [.int f,.int c,.int t] ∧ (f = 0 ∨ f = 1) ∧ (f = 0 → c.natAbs < 10 ^ 18) ∧ 0 ≤ t ∧ t ≤ n
theorem Wl.mono {n m:Int} {o:LO} (h:Wl n o) (k:n ≤ m):Wl m o:=by
 obtain ⟨f,c,t,h1,h2,h3,h4,h5⟩:=h
 exact ⟨f,c,t,h1,h2,h3,h4,by omega⟩
theorem O6:ixN (0 + 1 + 1 + 1) 1 = some 1:=by decide
theorem Oe:ixN (0 + 1 + 1 + 1) 2 = some 2:=by decide
theorem F8 {n:Int} {o:LO} {m:Int} (w:Wl n o) (hn:n < 2 ^ 40) (m0:0 < m) (m1:m < 2 ^ 64):∃ r o',sF aF o [.int m] (.fr (.int r)) o' ∧ 0 ≤ r ∧ r < m ∧ Wl (n + 1) o':=by
 obtain ⟨f,c,t,rfl,hf,hc,t0,t1⟩:=w
 have hm:(m != 0 && fits 9000 m) = true:=by
  rw [Bool.and_eq_true]
  exact ⟨by simp; omega,dG (m:=64) (show m.natAbs < 2 ^ 64 by omega) (by decide)⟩
 have hm0:(m != 0) = true:=by simp; omega
 unfold sF aF oV
 rcases hf with rfl | rfl
 ·have hc:=hc rfl
  have f1:fits 20000 (t + 1) = true:=dG (m:=64) (show (t + 1).natAbs < 2 ^ 64 by omega) (by decide)
  have f2:fits 20000 7919 = true:=dG (m:=64) (show (7919:Int).natAbs < 2 ^ 64 by decide) (by decide)
  have f3:fits 20000 (7919 * (t + 1)) = true:=dG (m:=64) (show (7919 * (t + 1)).natAbs < 2 ^ 64 by omega) (by decide)
  have b1:L2.Bd 128 (7919 * (t + 1) * (t + 1)):=(L2.Bd.mul (m:=64) (n:=64) (show (7919 * (t + 1)).natAbs < 2 ^ 64 by omega) (show (t + 1).natAbs < 2 ^ 64 by omega))
  have b2:L2.Bd 130 (c + 7919 * (t + 1) * (t + 1) + (t + 1)):=((L2.Bd.add (m:=128) (n:=128) (show c.natAbs < 2 ^ 128 by omega) b1).add (n:=128) (show (t + 1).natAbs < 2 ^ 128 by omega)).mono (by decide)
  have f4:fits 20000 (c + 7919 * (t + 1) * (t + 1) + (t + 1)) = true:=dG b2 (by decide)
  have f5:fits 20000 48271 = true:=dG (m:=64) (show (48271:Int).natAbs < 2 ^ 64 by decide) (by decide)
  have hp:(0:Int) < 2305843009213693951:=by decide
  have g1:=Int.emod_nonneg ((c + 7919 * (t + 1) * (t + 1) + (t + 1)) * 48271) (b:=2305843009213693951) (by decide)
  have g2:=Int.emod_lt_of_pos ((c + 7919 * (t + 1) * (t + 1) + (t + 1)) * 48271) hp
  have e1:((c + 7919 * (t + 1) * (t + 1) + (t + 1)) * 48271).fmod 2305843009213693951 = ((c + 7919 * (t + 1) * (t + 1) + (t + 1)) * 48271) % 2305843009213693951:=Int.fmod_eq_emod_of_nonneg _ (by decide)
  have f6:fits 20000 (((c + 7919 * (t + 1) * (t + 1) + (t + 1)) * 48271).fmod 2305843009213693951) = true:=dG (m:=64) (show Int.natAbs _ < 2 ^ 64 by rw [e1]; omega) (by decide)
  have f7:fits 20000 1442695040888963407 = true:=dG (m:=64) (show (1442695040888963407:Int).natAbs < 2 ^ 64 by decide) (by decide)
  have f8:((2305843009213693921:Int) != 0) = true:=by decide
  have f9:((2305843009213693951:Int) != 0) = true:=by decide
  have f10:((64:Int) != 0 && fits 9000 64) = true:=by
   rw [Bool.and_eq_true]
   exact ⟨by decide,dG (m:=64) (show (64:Int).natAbs < 2 ^ 64 by decide) (by decide)⟩
  refine ⟨((((((c + 7919 * (t + 1) * (t + 1) + (t + 1)) * 48271).fmod 2305843009213693951 * 1442695040888963407 + 4321).fmod 2305843009213693921).fdiv 64).fmod m),.lst [.int 0,.int c,.int (t + 1)],?_,Int.fmod_nonneg_of_pos _ m0,Int.fmod_lt_of_pos _ m0,0,c,t + 1,rfl,.inl rfl,fun _=>hc,by omega,by omega⟩
  have d0:decide ((0:Int) = 1) = false:=by decide
  have i2:=Oe
  clear e1 g1 g2 hp b1 b2 hc m0 m1 hn t0 t1 hm
  walk_at "evh"
  exact ⟨_,rfl⟩
 ·refine ⟨_,.lst [.int 1,.int (c.fdiv m),.int t],?_,Int.fmod_nonneg_of_pos c m0,Int.fmod_lt_of_pos c m0,1,c.fdiv m,t,rfl,.inr rfl,fun z=>by omega,t0,by omega⟩
  have d0:decide ((1:Int) = 1) = true:=by decide
  have i1:=O6
  have hf:fits 9000 m = true:=(Bool.and_eq_true_iff.mp hm).2
  clear hc m0 m1 hn t0 t1 hm
  walk_at "evh"
  exact ⟨_,rfl⟩
theorem cw0 {f:Ms} {as:List A} {o o':LO} {r:Rr} {s:Sl} (h:sF f o as s o') (hr:xl s = some r):∀ ρ,fE f [] (.rf 0 :: as.map Rr.fr) (.pv o :: ρ) = some (.ok r,.pv o' :: ρ):=fun ρ=>D4 h hr rfl
theorem cw2 {f:Ms} {as:List A} {o o':LO} {r:Rr} {s:Sl} (h:sF f o as s o') (hr:xl s = some r):∀ a b ρ,fE f [] (.rf 2 :: as.map Rr.fr) (a :: b :: .lv o :: ρ) = some (.ok r,a :: b :: .lv o' :: ρ):=fun a b ρ=>D4 (i:=2) h hr rfl
theorem tk {n:Int} {o:LO} (m:Int) (w:Wl n o) (hn:n < 2 ^ 40) (m0:0 < m) (m1:m < 2 ^ 64):∃ r o',(∀ ρ,fE aF [] [.rf 0,.fr (.int m)] (.pv o :: ρ) = some (.ok (.fr (.int r)),.pv o' :: ρ)) ∧ 0 ≤ r ∧ r < m ∧ Wl (n + 1) o':=by
 obtain ⟨r,o',h,h1,h2,h3⟩:=F8 (m:=m) w hn m0 m1
 exact ⟨r,o',cw0 h rfl,h1,h2,h3⟩
theorem tk2 {n:Int} {o:LO} (m:Int) (w:Wl n o) (hn:n < 2 ^ 40) (m0:0 < m) (m1:m < 2 ^ 64):∃ r o',(∀ a b ρ,fE aF [] [.rf 2,.fr (.int m)] (a :: b :: .lv o :: ρ) = some (.ok (.fr (.int r)),a :: b :: .lv o' :: ρ)) ∧ 0 ≤ r ∧ r < m ∧ Wl (n + 1) o':=by
 obtain ⟨r,o',h,h1,h2,h3⟩:=F8 (m:=m) w hn m0 m1
 exact ⟨r,o',cw2 h rfl,h1,h2,h3⟩
theorem Pg:(10:Int) ^ (8:Int).toNat = 100000000:=by decide
theorem Oc:(10:Int) ^ (18:Int).toNat = 1000000000000000000:=by decide
theorem B9 {n:Int} {o:LO} (w:Wl n o) (hn:n < 2 ^ 39):∃ x o',sF bA o [] (.fr (nm x)) o' ∧ NB 60 x ∧ Wl (n + 3) o':=by
 obtain ⟨r1,o1,c1,a1,b1,w1⟩:=tk 8 w (by omega) (by decide) (by decide)
 have p8:((0:Int) ≤ 8 ∧ (8:Int) ≤ 1000000 ∧ (10:Int).natAbs < 2 ^ 64) = True:=by simp
 have q8:=Pg
 have f1:fits 20000 2 = true:=dG (m:=64) (show (2:Int).natAbs < 2 ^ 64 by decide) (by decide)
 have f2:fits 20000 100000000 = true:=dG (m:=64) (show (100000000:Int).natAbs < 2 ^ 64 by decide) (by decide)
 by_cases h7:r1 = 7
 ·obtain ⟨r2,o2,c2,a2,b2,w2⟩:=tk (2 * 100000000 + 1) w1 (by omega) (by decide) (by decide)
  obtain ⟨r3,o3,c3,a3,b3,w3⟩:=tk 100000000 w2 (by omega) (by decide) (by decide)
  have hb:(1 + r3) ≠ 0:=by omega
  have k:=aP (Bc (t:=r2 - 100000000) (b:=1 + r3) hb (L2.Bd.mono (m:=64) (show (1 + r3).natAbs < 2 ^ 64 by omega) (by decide)))
  refine ⟨nrm (r2 - 100000000) (1 + r3),o3,?_,NB.nrm hb (show (r2 - 100000000).natAbs < 2 ^ 60 by omega) (show (1 + r3).natAbs < 2 ^ 60 by omega),w3.mono (by omega)⟩
  simp only [List.map_cons,List.map_nil] at k
  subst h7
  clear a1 b1 a2 b2 a3 b3 w w1 w2 w3 hn hb
  unfold sF bA gO
  walk_at "evh"
  exact ⟨_,rfl⟩
 ·have d7:decide (r1 = 7) = false:=decide_eq_false h7
  by_cases h4:4 < r1
  ·obtain ⟨r2,o2,c2,a2,b2,w2⟩:=tk 201 w1 (by omega) (by decide) (by decide)
   obtain ⟨r3,o3,c3,a3,b3,w3⟩:=tk 6 w2 (by omega) (by decide) (by decide)
   have hb:(1 + r3) ≠ 0:=by omega
   have k:=aP (Bc (t:=r2 - 100) (b:=1 + r3) hb (L2.Bd.mono (m:=64) (show (1 + r3).natAbs < 2 ^ 64 by omega) (by decide)))
   refine ⟨nrm (r2 - 100) (1 + r3),o3,?_,NB.nrm hb (show (r2 - 100).natAbs < 2 ^ 60 by omega) (show (1 + r3).natAbs < 2 ^ 60 by omega),w3.mono (by omega)⟩
   simp only [List.map_cons,List.map_nil] at k
   clear a1 b1 a2 b2 a3 b3 w w1 w2 w3 hn hb h7
   unfold sF bA gO
   walk_at "evh"
   exact ⟨_,rfl⟩
  ·obtain ⟨r2,o2,c2,a2,b2,w2⟩:=tk 9 w1 (by omega) (by decide) (by decide)
   have hk:Ok (r2 - 4,1):=⟨by show (0:Int) < 1; decide,by show Int.gcd (r2 - 4) 1 = 1; simp⟩
   refine ⟨(r2 - 4,1),o2,?_,⟨hk,show (r2 - 4).natAbs < 2 ^ 60 by omega,show (1:Int).natAbs < 2 ^ 60 by decide⟩,w2.mono (by omega)⟩
   clear a1 b1 a2 b2 w w1 w2 hn h7 hk
   unfold sF bA gO
   walk_at "evh"
   exact ⟨_,rfl⟩
theorem nmb {n:Int} {o:LO} (w:Wl n o) (hn:n < 2 ^ 39):∃ x o',(∀ ρ,fE bA [] [.rf 0] (.pv o :: ρ) = some (.ok (.fr (nm x)),.pv o' :: ρ)) ∧ NB 60 x ∧ Wl (n + 3) o':=by
 obtain ⟨x,o',h,h1,h2⟩:=B9 w hn
 exact ⟨x,o',cw0 h rfl,h1,h2⟩
theorem NI {n:Int} {o:LO} (w:Wl n o) (hn:n < 2 ^ 39):∃ x o',(∀ a b ρ,fE bA [] [.rf 2] (a :: b :: .lv o :: ρ) = some (.ok (.fr (nm x)),a :: b :: .lv o' :: ρ)) ∧ NB 60 x ∧ Wl (n + 3) o':=by
 obtain ⟨x,o',h,h1,h2⟩:=B9 w hn
 exact ⟨x,o',cw2 h rfl,h1,h2⟩
theorem LN (ns:List Int) (k:Int) (k0:0 ≤ k) (k1:k ≤ 1000):∃ o,E2 iw [.lst (ns.map A.int),.int k] o ∧ Wl 17000 o:=by
 have p18:((0:Int) ≤ 18 ∧ (18:Int) ≤ 1000000 ∧ (10:Int).natAbs < 2 ^ 64) = True:=by simp
 have q18:=Oc
 have f1:fits 20000 17 = true:=dG (m:=64) (show (17:Int).natAbs < 2 ^ 64 by decide) (by decide)
 have f2:fits 20000 k = true:=dG (m:=64) (show k.natAbs < 2 ^ 64 by omega) (by decide)
 have l1000:(0 + 1 + 1 + 1 ≤ 1000) = True:=by simp
 have key:∀ c:Int,Wl 17000 (.lst [.int (if decide (1000000000000000000 ≤ (if c < 0 then -c else c)) = true then 1 else 0),.int c,.int (17 * k)]):=fun c=>by
  refine ⟨_,c,17 * k,rfl,?_,fun z=>?_,by omega,by omega⟩
  ·generalize decide (1000000000000000000 ≤ (if c < 0 then -c else c)) = d
   cases d
   ·exact .inl rfl
   ·exact .inr rfl
  ·by_cases h:1000000000000000000 ≤ (if c < 0 then -c else c)
   ·simp [h] at z
   ·split at h <;> omega
 have hlen:((ns.map A.int).length:Int) = (ns.length:Int):=by rw [List.length_map]
 by_cases hk:k < (ns.length:Int)
 ·obtain ⟨j,rfl⟩:∃ j:Nat,k = j:=⟨k.toNat,by omega⟩
  have hj:j < ns.length:=by omega
  have ha:atI (ns.map A.int) (j:Int) = some (.int ns[j]):=AU (by rw [List.getElem?_map,List.getElem?_eq_getElem hj]; rfl)
  refine ⟨_,?_,key ns[j]⟩
  clear key k0 k1
  unfold E2 iw lu
  walk_at "evh"
  exact ⟨_,rfl⟩
 ·refine ⟨_,?_,key 0⟩
  clear key k0 k1
  unfold E2 iw lu
  walk_at "evh"
  exact ⟨_,rfl⟩
theorem DA {z:Str} {r:Int} (h0:0 ≤ r) (h1:r < (z.cps.toList.length:Int)):∃ c,atI z.cps.toList r = some c:=by
 obtain ⟨j,rfl⟩:∃ j:Nat,r = j:=⟨r.toNat,by omega⟩
 have hj:j < z.cps.toList.length:=by omega
 exact ⟨_,AU (List.getElem?_eq_getElem hj)⟩
theorem qw (x y:Str):(x ++ y).length = x.length + y.length:=by
 show (x.cps ++ y.cps).size = x.cps.size + y.cps.size
 simp
theorem Ho (ss ts:List Str):kZ (ss ++ ts) = kZ ss + kZ ts:=by unfold kZ; rw [List.map_append,List.sum_append]
theorem zm (ss:List Str):(Builtin.Str.glued ⟨#[]⟩ ss).length = kZ ss:=by
 rw [size_glued]
 show kZ ss + (ss.length - 1) * 0 = kZ ss
 omega
theorem M4 {n:Int} {o:LO} {m:Int} (w:Wl n o) (hn:n < 2 ^ 38) (m0:4 ≤ m) (m1:m ≤ 100):∃ z o',sF eE o [.int m] (.fr (.str z)) o' ∧ 1 ≤ z.length ∧ (z.length:Int) ≤ m ∧ Wl (n + 200) o':=by
 obtain ⟨r1,o1,c1,a1,b1,w1⟩:=tk 6 w (by omega) (by decide) (by decide)
 obtain ⟨t,ht,t0,t1⟩:∃ t,atI [A.int 4,A.int m] (if decide (r1 = 5) = true then 1 else 0) = some (.int t) ∧ 1 ≤ t ∧ t ≤ m:=by
  by_cases h:r1 = 5
  ·refine ⟨m,?_,by omega,by omega⟩
   simp only [h,decide_true,if_true,DK]
  ·refine ⟨4,?_,by decide,m0⟩
   simp only [h,decide_false,Bool.false_eq_true,if_false,Et]
 obtain ⟨r2,o2,c2,a2,b2,w2⟩:=tk t w1 (by omega) (by omega) (by omega)
 have hsz:(0:Int) ≤ 1 + r2 ∧ 1 + r2 ≤ 101:=⟨by omega,by omega⟩
 obtain ⟨ys,ρ',hc,ss,oz,e1,e2,e3,wz⟩:=ki (G:=bB 4) (t:=rA) (e:=mOp (fOr fIx aA) (aj 2) (aC aF [] (ag (aj 0) (ag (mC (A.int 37)) aD)))) (as:=tR 0 (1 + r2).toNat)
  (fun i acc ρ=>∃ ss oz,acc = ss.map A.str ∧ kZ ss = i ∧ (∃ x,ρ = [.pv oz,.fr (.int m),.fr (.str "abcdefghijklmnopqrstuvwxyz0123456789."),.fr (.int (1 + r2)),x] ∧ ∀ q,x ≠ Sl.pv q) ∧ Wl (n + 2 + i) oz)
  (ρ:=[.pv o2,.fr (.int m),.fr (.str "abcdefghijklmnopqrstuvwxyz0123456789."),.fr (.int (1 + r2)),.un])
  ⟨[],o2,rfl,rfl,⟨.un,rfl,fun q z=>by cases z⟩,w2.mono (by simp; omega)⟩ (by
   rintro i a acc ρ ha ⟨ss,oz,rfl,ez,⟨x,rfl,hx⟩,wz⟩
   have hi:i < 101:=by
    have:=(List.getElem?_eq_some_iff.mp ha).1
    simp [tR] at this
    omega
   obtain ⟨r3,o3,c3,a3,b3,w3⟩:=tk 37 wz (by omega) (by decide) (by decide)
   have h37:(("abcdefghijklmnopqrstuvwxyz0123456789." : Str).cps.toList.length:Int) = 37:=by decide +kernel
   obtain ⟨ch,hch⟩:=DA (z := "abcdefghijklmnopqrstuvwxyz0123456789.") a3 (by omega)
   have hlen:(("abcdefghijklmnopqrstuvwxyz0123456789." : Str).length ≤ 100000) = True:=by simp only [eq_iff_iff,iff_true]; decide +kernel
   refine ⟨[.pv oz,.fr (.int m),.fr (.str "abcdefghijklmnopqrstuvwxyz0123456789."),.fr (.int (1 + r2)),.fr a],?_,.inl ⟨_,.fr (.str ⟨#[ch]⟩),[.pv o3,.fr (.int m),.fr (.str "abcdefghijklmnopqrstuvwxyz0123456789."),.fr (.int (1 + r2)),.fr a],.str ⟨#[ch]⟩,_,rfl,?_,rfl,ss ++ [⟨#[ch]⟩],o3,?_,?_,⟨.fr a,rfl,fun q z=>by cases z⟩,w3.mono (by omega)⟩⟩
   ·cases x with
    | pv q=>exact absurd rfl (hx q)
    | _=>rfl
   ·clear ha hi a3 b3 w3 wz hx c1 c2 w w1 w2 h37
    walk_at "evh"
   ·rw [List.map_append]; rfl
   ·rw [Ho,ez]; rfl)
 obtain ⟨x,e3,_⟩:=e3
 subst e1 e3
 have hlen:(tR 0 (1 + r2).toNat).length = (1 + r2).toNat:=by simp [tR]
 rw [hlen] at e2 wz
 refine ⟨Builtin.Str.glued ⟨#[]⟩ ss,oz,?_,by rw [zm]; omega,by rw [zm]; omega,wz.mono (by omega)⟩
 have k1:((tR 0 (1 + r2).toNat).length ≤ 100000) = True:=by simp only [eq_iff_iff,iff_true]; omega
 have k2:(-(2 ^ 60) ≤ 1 + r2 ∧ 1 + r2 < 2 ^ 60) = True:=by simp only [eq_iff_iff,iff_true]; omega
 have k3:=wd ss
 have k5:(kZ ss + ss.length * (⟨#[]⟩:Str).length ≤ 100000) = True:=by
  simp only [eq_iff_iff,iff_true]
  show kZ ss + ss.length * 0 ≤ 100000
  omega
 have k4:xy "" (.lst (ss.map A.str)) = some (.fr (.str (Builtin.Str.glued ⟨#[]⟩ ss))):=by
  show xy ⟨#[]⟩ (.lst (ss.map A.str)) = _
  unfold xy
  simp only [k3]
  rw [if_pos (of_eq_true k5)]
 clear k3 k5 wz e2 hlen hsz a1 b1 a2 b2 t0 t1 w w1 w2
 unfold sF eE oW
 walk_at "evh"
 simp only [wQ,k1,if_true,List.replicate_succ,List.replicate_zero,List.cons_append,List.nil_append,List.append_nil]
 rw [hc]
 simp only [List.length_cons,List.length_nil,List.take_succ_cons,List.take_zero,k4]
 exact ⟨_,rfl⟩
def sec (z:Str):Option Nat:=z.cps.toList.reverse[1]?
theorem J9 (x:Str) (a b:Nat):sec ((x ++ ⟨#[a]⟩) ++ ⟨#[b]⟩) = some a:=by
 show (((x.cps ++ #[a]) ++ #[b]).toList.reverse)[1]? = some a
 simp
def mu (ss:List Str) (t:Nat):Nat:=ss.countP fun y=>decide (47 + t ≤ (sec y).getD 0)
theorem Kv (ss:List Str) (t:Nat):mu ss t ≤ ss.length:=List.countP_le_length
theorem zJ {ss:List Str} {t:Nat} {z:Str} (hz:z ∈ ss) (hs:sec z = some (47 + t)):mu ss (t + 1) < mu ss t:=by
 unfold mu
 induction ss with
 | nil=>cases hz
 | cons y ss ih =>
  rw [List.countP_cons,List.countP_cons]
  have le:ss.countP (fun y=>decide (47 + (t + 1) ≤ (sec y).getD 0)) ≤ ss.countP (fun y=>decide (47 + t ≤ (sec y).getD 0)):=List.countP_mono_left fun q _ h=>by
   rw [decide_eq_true_eq] at h ⊢; omega
  rcases List.mem_cons.mp hz with e | e
  ·subst e
   have e1:decide (47 + t ≤ (sec z).getD 0) = true:=by rw [hs]; simp
   have e2:decide (47 + (t + 1) ≤ (sec z).getD 0) = false:=by rw [hs]; simp
   rw [e1,e2]
   simp
   omega
  ·have:=ih e
   have d:decide (47 + (t + 1) ≤ (sec y).getD 0) = true → decide (47 + t ≤ (sec y).getD 0) = true:=fun h=>by rw [decide_eq_true_eq] at h ⊢; omega
   cases h1:decide (47 + (t + 1) ≤ (sec y).getD 0) with
   | true=>rw [d h1]; simp; omega
   | false=>simp; split <;> omega
theorem dig:∀ t:Nat,t < 10 → atI ("0123456789" : Str).cps.toList (t:Int) = some (48 + t):=by decide +kernel
theorem PY:atI ("abcdefghij" : Str).cps.toList (0:Int) = some 97:=by decide +kernel
theorem Ez (z:Str):∀ ss:List Str,inV (.str z) (ss.map V.str) = decide (z ∈ ss)
 | []=>by simp [inV]
 | y :: ss=>by
  have ih:=Ez z ss
  unfold inV at ih ⊢
  rw [List.map_cons,List.any_cons,ih]
  show (y == z || decide (z ∈ ss)) = decide (z ∈ y :: ss)
  by_cases c:y = z
  ·subst c; simp
  ·have c2:z ≠ y:=fun e=>c e.symm
   have:(y == z) = false:=by rw [beq_eq_false_iff_ne]; exact c
   rw [this]; simp [c2]
theorem Dq (ss:List Str):(ss.map A.str).all yQ = true:=by
 rw [List.all_eq_true]
 intro v hv
 obtain ⟨z,_,rfl⟩:=List.mem_map.mp hv
 rfl
theorem Gk (z:Str) (ss:List Str):oH false (.str z) (.lst (ss.map A.str)) = some (.fr (.bl (decide (z ∈ ss)))):=by
 unfold oH inA
 simp only [Dq,yQ,Bool.and_self,if_true]
 have e:(ss.map A.str).map C3 = ss.map V.str:=by rw [List.map_map]; rfl
 rw [e]
 show some (Rr.fr (A.bl (if false = true then _ else inV (.str z) (ss.map V.str)))) = _
 rw [if_neg (by decide),Ez]
theorem LP {α:Type} (xs:List α) (x:α):atI (xs ++ [x]) (-1) = some x:=by
 unfold atI ixN
 rw [if_neg (by decide),if_pos (by simp; omega)]
 simp only [List.length_append,List.length_cons,List.length_nil,Option.bind_some]
 have:((-1:Int) + ((xs.length + (0 + 1):Nat):Int)).toNat = xs.length:=by omega
 rw [this]
 simp
theorem nm0 {n:Int} {o:LO} (m:Int) (w:Wl n o) (hn:n < 2 ^ 38) (m0:4 ≤ m) (m1:m ≤ 100):∃ z o',(∀ ρ,fE eE [] [.rf 0,.fr (.int m)] (.pv o :: ρ) = some (.ok (.fr (.str z)),.pv o' :: ρ)) ∧ 1 ≤ z.length ∧ (z.length:Int) ≤ m ∧ Wl (n + 200) o':=by
 obtain ⟨z,o',h,h1,h2,h3⟩:=M4 (m:=m) w hn m0 m1
 exact ⟨z,o',cw0 h rfl,h1,h2,h3⟩
theorem J7 {n:Int} {o:LO} {m:Int} (w:Wl n o) (hn:n < 2 ^ 36) (m0:1 ≤ m) (m1:m ≤ 8):∃ (ss:List Str) (o':LO),sF iK o [.int m] (.lv (.lst (ss.map A.str))) o' ∧ ss.Nodup ∧ (ss.length:Int) = m ∧ (∀ z ∈ ss,z.length ≤ 20 * ss.length) ∧ Wl (n + 2500) o':=by
 obtain ⟨z0,o1,c1,a1,b1,w1⟩:=nm0 20 w (by omega) (by decide) (by decide)
 obtain ⟨ρ',hw,ss,oz,x3,x4,rfl,n1,n2,n3,n4⟩:=qB (t:=aK (mOp fLt (mB1 qJ (aj 2)) (aj 1))) (n:=BIG)
  (b:=(aY (bG 3 (aC eE [] (ag (aj 0) (ag (mC (.int 20)) aD))))
 (aY (sIf (aK (mOp fEq (aC aF [] (ag (aj 0) (ag (mC (.int 3)) aD))) (mC (.int 0)))) (bG 3 (mSl (mOp fX (mOp (fOr fIx aA) (aj 2) (mUn wI (mC (.int 1)))) (mOp (fOr fIx aA) (mC (.str "a0.z")) (aC aF [] (ag (aj 0) (ag (mC (.int 4)) aD))))) js (qu (mC (.int 20))))) bZ)
 (aY (bG 4 (mC (.int 0)))
 (aY (rP BIG (aK (mOp (fOr (oH false) (jW false)) (aj 3) (aj 2))) (aY (bG 3 (mOp fX (mOp fX (mSl (aj 3) js (qu (mC (.int 18)))) (mOp (fOr fIx aA) (mC (.str "0123456789")) (mOp nh (aj 4) (mC (.int 10))))) (mOp (fOr fIx aA) (mC (.str "abcdefghij")) (mOp nh (mOp uj (aj 4) (mC (.int 10))) (mC (.int 10))))))
 (bG 4 (mOp fX (aj 4) (mC (.int 1))))))
 (vD (Bw 2 (oj 2 (aj 3)))))))))
  (P:=fun k ρ=>∃ (ss:List Str) (oz:LO) (x3 x4:Sl),ρ = [.pv oz,.fr (.int m),.lv (.lst (ss.map A.str)),x3,x4] ∧ ss ≠ [] ∧ ss.Nodup ∧ (ss.length:Int) ≤ m ∧ (∀ z ∈ ss,z.length ≤ 20 * ss.length) ∧ Wl (n + 300 * ss.length) oz ∧ (∀ q,x3 ≠ Sl.pv q) ∧ (∀ q,x4 ≠ Sl.pv q) ∧ k = 8 - ss.length)
  (Q:=fun ρ=>∃ (ss:List Str) (oz:LO) (x3 x4:Sl),ρ = [.pv oz,.fr (.int m),.lv (.lst (ss.map A.str)),x3,x4] ∧ ss.Nodup ∧ (ss.length:Int) = m ∧ (∀ z ∈ ss,z.length ≤ 20 * ss.length) ∧ Wl (n + 300 * ss.length) oz)
  (by
   rintro k ρ ⟨ss,oz,x3,x4,rfl,hne,hnd,hle,hlz,wz,h3,h4,rfl⟩
   by_cases hlt:(ss.length:Int) < m
   ·right
    obtain ⟨z1,o2,c2,a2,b2,w2⟩:=nm0 20 wz (by omega) (by decide) (by decide)
    obtain ⟨r3,o3,c3,a3,b3,w3⟩:=tk 3 w2 (by omega) (by decide) (by decide)
    obtain ⟨z,o4,hz,lz,w4⟩:∃ (z:Str) (o4:LO),sIf (aK (mOp fEq (aC aF [] (ag (aj 0) (ag (mC (.int 3)) aD))) (mC (.int 0)))) (bG 3 (mSl (mOp fX (mOp (fOr fIx aA) (aj 2) (mUn wI (mC (.int 1)))) (mOp (fOr fIx aA) (mC (.str "a0.z")) (aC aF [] (ag (aj 0) (ag (mC (.int 4)) aD))))) js (qu (mC (.int 20))))) bZ [.pv o2,.fr (.int m),.lv (.lst (ss.map A.str)),.fr (.str z1),x4] = some (.nx,[.pv o4,.fr (.int m),.lv (.lst (ss.map A.str)),.fr (.str z),x4]) ∧ z.length ≤ 20 * ss.length + 1 ∧ Wl (n + 300 * ss.length + 202) o4:=by
     have lpos:1 ≤ ss.length:=List.length_pos_iff.mpr hne
     by_cases hr:r3 = 0
     ·obtain ⟨r4,o4,c4,a4,b4,w4⟩:=tk 4 w3 (by omega) (by decide) (by decide)
      have h4':(("a0.z" : Str).cps.toList.length:Int) = 4:=by decide +kernel
      obtain ⟨ch,hch⟩:=DA (z := "a0.z") a4 (by omega)
      obtain ⟨pre,last,epl⟩:∃ pre last,ss = pre ++ [last]:=⟨ss.dropLast,ss.getLast hne,(List.dropLast_concat_getLast hne).symm⟩
      have hat:atI (ss.map A.str) (-1) = some (.str last):=by rw [epl,List.map_append]; exact LP _ _
      have hlast:last.length ≤ 20 * ss.length:=hlz last (by rw [epl]; simp)
      have hl1:(("a0.z" : Str).length ≤ 100000) = True:=by simp only [eq_iff_iff,iff_true]; decide +kernel
      have hl2:(last.length + (⟨#[ch]⟩:Str).length ≤ 100000) = True:=by
       simp only [eq_iff_iff,iff_true]
       show last.length + 1 ≤ 100000
       omega
      have hl3:((last ++ (⟨#[ch]⟩:Str)).length ≤ 100000) = True:=by
       simp only [eq_iff_iff,iff_true]
       rw [qw]
       show last.length + 1 ≤ 100000
       omega
      have hng:(-1:Int) = -1:=rfl
      refine ⟨Txt.slice (last ++ ⟨#[ch]⟩) none (some 20),o4,?_,?_,w4.mono (by omega)⟩
      ·subst hr
       clear h4' a4 b4 w4 a3 b3 w3 a2 b2 w2 hlz hle hnd wz h3 hlast epl lpos w w1 c1 a1 b1 hne hlt
       walk_at "ev"
       simp only [c3]
       walk_at "ev"
       simp only [fSl]
       walk_at "evh"
      ·have:=Txt.slice_le (last ++ ⟨#[ch]⟩) none (some 20)
       rw [qw] at this
       have e1:(⟨#[ch]⟩:Str).length = 1:=rfl
       omega
     ·have d0:decide (r3 = 0) = false:=decide_eq_false hr
      refine ⟨z1,o3,?_,by omega,w3.mono (by omega)⟩
      clear a3 b3 w3 a2 b2 w2 hlz hle hnd wz h3 w w1 c1 a1 b1 hne hlt lpos hr
      walk_at "evh"
    obtain ⟨ρ5,hw5,z5,t5,rfl,hn5,lz5⟩:=qB (t:=aK (mOp (fOr (oH false) (jW false)) (aj 3) (aj 2))) (n:=BIG)
     (b:=(aY (bG 3 (mOp fX (mOp fX (mSl (aj 3) js (qu (mC (.int 18)))) (mOp (fOr fIx aA) (mC (.str "0123456789")) (mOp nh (aj 4) (mC (.int 10))))) (mOp (fOr fIx aA) (mC (.str "abcdefghij")) (mOp nh (mOp uj (aj 4) (mC (.int 10))) (mC (.int 10)))))) (bG 4 (mOp fX (aj 4) (mC (.int 1))))))
     (P:=fun k ρ=>∃ (z:Str) (t:Nat),ρ = [.pv o4,.fr (.int m),.lv (.lst (ss.map A.str)),.fr (.str z),.fr (.int t)] ∧ t + k ≤ 9 ∧ z.length ≤ 20 * ss.length + 1 + 2 * t ∧ (t = 0 → k = ss.length + 1) ∧ (1 ≤ t → sec z = some (47 + t) ∧ k = mu ss t))
     (Q:=fun ρ=>∃ (z:Str) (t:Nat),ρ = [.pv o4,.fr (.int m),.lv (.lst (ss.map A.str)),.fr (.str z),.fr (.int t)] ∧ z ∉ ss ∧ z.length ≤ 20 * ss.length + 19)
     (by
      rintro k ρ ⟨z,t,rfl,htk,hlen,ht0,ht1⟩
      have hf:=Gk z ss
      by_cases hin:z ∈ ss
      ·right
       have ht:t < 9:=by
        by_cases h0:t = 0
        ·omega
        ·have:=zJ hin (ht1 (by omega)).1
         have:=(ht1 (by omega)).2
         omega
       have e1:((t:Int)).fmod 10 = t:=by rw [Int.fmod_eq_emod_of_nonneg _ (by decide)]; omega
       have e2:(((t:Int)).fdiv 10).fmod 10 = 0:=by
        rw [Int.fdiv_eq_ediv_of_nonneg _ (by decide),Int.fmod_eq_emod_of_nonneg _ (by decide)]; omega
       have d1:=dig t (by omega)
       have d2:=PY
       have q1:(z.length ≤ 100000) = True:=by simp only [eq_iff_iff,iff_true]; omega
       have sl:=Txt.slice_le z none (some 18)
       have q2:((Txt.slice z none (some 18)).length + (⟨#[48 + t]⟩:Str).length ≤ 100000) = True:=by
        simp only [eq_iff_iff,iff_true]
        show (Txt.slice z none (some 18)).length + 1 ≤ 100000
        omega
       have q3:((Txt.slice z none (some 18) ++ (⟨#[48 + t]⟩:Str)).length + (⟨#[97]⟩:Str).length ≤ 100000) = True:=by
        simp only [eq_iff_iff,iff_true]
        rw [qw]
        show (Txt.slice z none (some 18)).length + 1 + 1 ≤ 100000
        omega
       have q4:(("0123456789" : Str).length ≤ 100000) = True:=by simp only [eq_iff_iff,iff_true]; decide +kernel
       have q5:(("abcdefghij" : Str).length ≤ 100000) = True:=by simp only [eq_iff_iff,iff_true]; decide +kernel
       have q6:((10:Int) != 0) = true:=by decide
       have q7:fits 9000 10 = true:=dG (m:=64) (show (10:Int).natAbs < 2 ^ 64 by decide) (by decide)
       have q8:decide (z ∈ ss) = true:=decide_eq_true hin
       refine ⟨[.pv o4,.fr (.int m),.lv (.lst (ss.map A.str)),.fr (.str z),.fr (.int t)],[.pv o4,.fr (.int m),.lv (.lst (ss.map A.str)),.fr (.str ((Txt.slice z none (some 18) ++ ⟨#[48 + t]⟩) ++ ⟨#[97]⟩)),.fr (.int ((t:Int) + 1))],mu ss (t + 1),?_,.inl ?_,?_,(Txt.slice z none (some 18) ++ ⟨#[48 + t]⟩) ++ ⟨#[97]⟩,t + 1,by simp,?_,?_,fun h=>by omega,fun _=>⟨?_,rfl⟩⟩
       ·clear e1 e2 d1 d2 q1 q2 q3 q4 q5 q6 q7 sl ht0 ht1 hlen htk hin
        walk_at "evh"
       ·clear hf q8 sl ht0 ht1 hlen htk hin ht
        walk_at "ev"
        simp only [e1,e2,q6,q7,q1,fSl,if_true,Bool.and_self]
        walk_at "evh"
       ·by_cases h0:t = 0
        ·have:=Kv ss (t + 1); have:=ht0 h0; omega
        ·have:=zJ hin (ht1 (by omega)).1
         rw [(ht1 (by omega)).2]; exact this
       ·by_cases h0:t = 0
        ·have:=Kv ss (t + 1); omega
        ·have:=zJ hin (ht1 (by omega)).1
         have:=(ht1 (by omega)).2
         omega
       ·rw [qw,qw]
        have e3:(⟨#[48 + t]⟩:Str).length = 1:=rfl
        have e4:(⟨#[97]⟩:Str).length = 1:=rfl
        omega
       ·rw [J9]
        congr 1
        omega
      ·left
       have q8:decide (z ∈ ss) = false:=decide_eq_false hin
       refine ⟨_,?_,z,t,rfl,hin,by omega⟩
       clear ht0 ht1 hlen htk hin
       walk_at "evh") (k:=ss.length + 1) (ρ:=[.pv o4,.fr (.int m),.lv (.lst (ss.map A.str)),.fr (.str z),.fr (.int 0)])
     ⟨z,0,rfl,by omega,by omega,fun _=>rfl,fun h=>by omega⟩ (Az (Nat.lt_of_le_of_lt (show ss.length + 1 ≤ 9 by omega) (Nat.lt_of_lt_of_le (by decide:9 < 2 ^ 4) (Nat.pow_le_pow_right (by decide) (by decide)))))
    refine ⟨[.pv oz,.fr (.int m),.lv (.lst (ss.map A.str)),x3,x4],[.pv o4,.fr (.int m),.lv (.lst ((ss ++ [z5]).map A.str)),.fr (.str z5),.fr (.int t5)],8 - (ss ++ [z5]).length,?_,.inl ?_,?_,ss ++ [z5],o4,_,_,rfl,by simp,?_,?_,?_,?_,(fun q z=>by cases z),(fun q z=>by cases z),rfl⟩
    ·have d0:decide ((ss.length:Int) < m) = true:=decide_eq_true hlt
     have hl:((ss.map A.str).length:Int) = (ss.length:Int):=by rw [List.length_map]
     clear hw5 hz hle hlz wz h3 h4 hnd hlt w w1 c1 a1 b1 w2 w3 w4 c2 c3
     walk_at "evh"
    ·have q1:((ss.map A.str).length ≤ 100000) = True:=by simp only [eq_iff_iff,iff_true,List.length_map]; omega
     have e1:(ss ++ [z5]).map A.str = ss.map A.str ++ [.str z5]:=by rw [List.map_append]; rfl
     have hx3:(match x3 with | Sl.pv o=>none | val=>some (Fl.nx,[Sl.pv o2,Sl.fr (A.int m),Sl.lv (LO.lst (List.map A.str ss)),Sl.fr (A.str z1),x4])) = some (Fl.nx,[Sl.pv o2,Sl.fr (A.int m),Sl.lv (LO.lst (List.map A.str ss)),Sl.fr (A.str z1),x4]):=by cases x3 <;> first | rfl | exact absurd rfl (h3 _)
     have s1:bG 3 (aC eE [] (ag (aj 0) (ag (mC (.int 20)) aD))) [.pv oz,.fr (.int m),.lv (.lst (ss.map A.str)),x3,x4] = some (.nx,[.pv o2,.fr (.int m),.lv (.lst (ss.map A.str)),.fr (.str z1),x4]):=by
      clear hw5 hz
      walk_at "ev"
      simp only [c2]
      cases x3 <;> first | rfl | exact absurd rfl (h3 _)
     have s2:bG 4 (mC (.int 0)) [.pv o4,.fr (.int m),.lv (.lst (ss.map A.str)),.fr (.str z),x4] = some (.nx,[.pv o4,.fr (.int m),.lv (.lst (ss.map A.str)),.fr (.str z),.fr (.int 0)]):=by
      cases x4 <;> first | rfl | exact absurd rfl (h4 _)
     rw [gu,s1]
     simp only
     rw [gu,hz]
     simp only
     rw [gu,s2]
     simp only
     rw [gu,Aw,hw5]
     rw [e1]
     clear hw5 hz s1 s2 hx3 e1
     walk_at "evh"
    ·rw [List.length_append,List.length_singleton]; omega
    ·rw [List.nodup_append]
     exact ⟨hnd,by simp,fun a ha b hb e=>by rw [List.mem_singleton.mp hb] at e; exact hn5 (by rw [← e]; exact ha)⟩
    ·rw [List.length_append,List.length_singleton]; omega
    ·intro y hy
     rw [List.length_append,List.length_singleton]
     rcases List.mem_append.mp hy with h | h
     ·have:=hlz y h; omega
     ·rw [List.mem_singleton.mp h]; omega
    ·rw [List.length_append,List.length_singleton]; exact w4.mono (by omega)
   ·left
    refine ⟨_,?_,ss,oz,x3,x4,rfl,hnd,by omega,hlz,wz⟩
    have d0:decide ((ss.length:Int) < m) = false:=decide_eq_false hlt
    have hl:((ss.map A.str).length:Int) = (ss.length:Int):=by rw [List.length_map]
    clear hle hlz wz h3 h4 hnd hlt w w1 c1 a1 b1
    walk_at "evh") (k:=7) (ρ:=[.pv o1,.fr (.int m),.lv (.lst ([z0].map A.str)),.un,.un])
  ⟨[z0],o1,.un,.un,rfl,by simp,by simp,by simp; omega,(fun z hz=>by rw [List.mem_singleton.mp hz]; simp; omega),w1.mono (by simp),(fun q z=>by cases z),(fun q z=>by cases z),rfl⟩ (Az (by decide))
 refine ⟨ss,oz,?_,n1,n2,n3,n4.mono (by omega)⟩
 have l1:(0 + 1 ≤ 1000) = True:=by simp
 clear n1 n2 n3 n4 w w1 a1 b1
 unfold sF iK n8
 simp only [List.map_cons,List.map_nil] at hw
 walk_at "evh"
 exact ⟨_,rfl⟩
def prA (p:Pr):A:=.tup [.str p.1,nm p.2]
def aB (x:Num) (L:List Pr):A:=.tup [nm x,.tup (L.map prA)]
def ax (ks:List Str) (g:Str → A):List (Key × A):=ks.map fun n=>(Sum.inr n,g n)
theorem ft (ks:List Str) (g:Str → A) (n:Str):qM (ax ks g) (.inr n) = if n ∈ ks then some (g n) else none:=by
 unfold qM ax
 induction ks with
 | nil=>simp
 | cons k ks ih =>
  rw [List.map_cons,List.find?_cons]
  by_cases c:k = n
  ·subst c; simp
  ·have c1:decide ((Sum.inr k:Key) = Sum.inr n) = false:=decide_eq_false fun z=>c (Sum.inr.inj z)
   have c2:¬ n = k:=fun z=>c z.symm
   simp only [c1]
   rw [ih]
   simp [c2]
theorem IY (ks:List Str) (g:Str → A) (n:Str):((ax ks g).any fun kv=>decide (kv.1 = Sum.inr n)) = decide (n ∈ ks):=by
 unfold ax
 induction ks with
 | nil=>simp
 | cons k ks ih =>
  rw [List.map_cons,List.any_cons,ih]
  by_cases c:k = n
  ·subst c; simp
  ·have c1:decide ((Sum.inr k:Key) = Sum.inr n) = false:=decide_eq_false fun z=>c (Sum.inr.inj z)
   have c2:¬ n = k:=fun z=>c z.symm
   simp only [c1,Bool.false_or,List.mem_cons,c2,false_or]
theorem wj (ks:List Str) (g:Str → A) (n:Str) (a:A):xn (ax ks g) (.inr n) a = ax (if n ∈ ks then ks else ks ++ [n]) (fun m=>if m = n then a else g m):=by
 unfold xn
 rw [IY]
 by_cases c:n ∈ ks
 ·rw [if_pos (decide_eq_true c),if_pos c]
  unfold ax
  rw [List.map_map]
  refine List.map_congr_left fun m _=>?_
  show (if (Sum.inr m:Key) = Sum.inr n then (Sum.inr m,a) else (Sum.inr m,g m)) = (Sum.inr m,if m = n then a else g m)
  by_cases z:m = n
  ·subst z; simp
  ·rw [if_neg (fun e=>z (Sum.inr.inj e)),if_neg z]
 ·rw [if_neg (by simpa using c),if_neg c]
  unfold ax
  rw [List.map_append]
  congr 1
  ·refine List.map_congr_left fun m hm=>?_
   show (Sum.inr m,g m) = (Sum.inr m,if m = n then a else g m)
   rw [if_neg fun e:m = n=>c (by rw [← e]; exact hm)]
  ·simp
theorem vO (ks:List Str) (g:Str → A):strKeys (ax ks g) = some ks:=by
 unfold ax
 induction ks with
 | nil=>rfl
 | cons k ks ih=>rw [List.map_cons,strKeys,ih]
theorem uU (ks:List Str) (g:Str → A):(ax ks g).length = ks.length:=by unfold ax; rw [List.length_map]
theorem qi {ks:List Str} {g g':Str → A} (h:∀ n ∈ ks,g n = g' n):ax ks g = ax ks g':=List.map_congr_left fun n hn=>by rw [h n hn]
theorem v8 {ps:List Pr} {n:Str} (h:∀ p ∈ ps,p.1 ≠ n):tot ps n = (0,1):=by
 revert h
 refine snoc_ind (M:=fun ps:List Pr=>(∀ p ∈ ps,p.1 ≠ n) → tot ps n = (0,1)) (fun _=>rfl) (fun l a ih h=>?_) ps
 rw [jN,if_neg (h a (by simp)),ih fun p hp=>h p (List.mem_append_left _ hp)]
theorem take_snoc {α:Type} {l:List α} {i:Nat} {a:α} (h:l[i]? = some a):l.take (i + 1) = l.take i ++ [a]:=by rw [List.take_add_one,h]; rfl
theorem Cv (ps:List Pr) (i:Nat) (n:Str):cnt (ps.take i) n ≤ cnt ps n:=List.Sublist.countP_le (List.take_sublist _ _)
def nz (ps:List Pr) (n:Str):Bool:=!decide (tot ps n = (0,1))
def fh (ps:List Pr) (ss:List Str):List Pr:=(ss.filter (nz ps)).map fun n=>(n,tot ps n)
theorem rising {ss:List Str} (h:ss.Pairwise (fun a b=>leS a b = true)) (nd:ss.Nodup):ss.Pairwise SLt :=
 h.imp₂ (fun a b h1 h2=>⟨by rw [xq,decide_eq_true_eq] at h1; exact h1,h2⟩) nd
theorem Bq {ps:List Pr} {ks:List Str} (nd:ks.Nodup) (hk:∀ n,n ∈ ks ↔ ∃ p ∈ ps,p.1 = n):Canon ps (fh ps (bW ks)):=by
 have hr:=rising (xb ks) ((dN ks).nodup_iff.mpr nd)
 refine ⟨List.pairwise_map.mpr (hr.sublist List.filter_sublist),fun p=>?_⟩
 unfold fh
 rw [List.mem_map]
 constructor
 ·rintro ⟨n,hn,rfl⟩
  have:=(List.mem_filter.mp hn).2
  exact ⟨rfl,by simpa [nz] using this⟩
 ·rintro ⟨e,n0⟩
  refine ⟨p.1,List.mem_filter.mpr ⟨(dN ks).mem_iff.mpr ((hk p.1).mpr ?_),by unfold nz; rw [← e,decide_eq_false n0]; rfl⟩,Prod.ext rfl e.symm⟩
  by_cases c:∃ q ∈ ps,q.1 = p.1
  ·exact c
  ·exact absurd (e.trans (v8 fun q hq z=>c ⟨q,hq,z⟩)) n0
theorem FL {x:Num} {ps:List Pr} {sq:A} {b c:Nat} (hsq:zQ sq = some (ps.map prA)) (nb:∀ p ∈ ps,NB b p.2) (cn:∀ n,cnt ps n ≤ c) (hbc:(b + 1) * c + 1 ≤ 4000) (hb:b ≤ 4000) (hl:ps.length ≤ 60) :
  ∃ L,Val m6 [nm x,sq] (aB x L) ∧ Canon ps L ∧ L.length ≤ ps.length:=by
 obtain ⟨ρ1,hf,ks,x3,x4,rfl,nd,hk,kl,h3,h4⟩:=jy (G:=mr (gM 2 (aL (bB 3) (aL (bB 4) cC))) (gR 2 (aL (bB 3) (aL (bB 4) cC)))) (b:=rJ 2 (aj 3) (aC vw [] (ag (xk (aj 2) (aj 3) (mC (.tup [(.int 0),(.int 1)]))) (ag (aS 4) aD)))) (as:=ps.map prA)
  (fun i ρ=>∃ (ks:List Str) (x3 x4:Sl),ρ = [.fr (nm x),.fr sq,.lv (.dic (ax ks fun n=>nm (tot (ps.take i) n))),x3,x4] ∧ ks.Nodup ∧ (∀ n,n ∈ ks ↔ ∃ p ∈ ps.take i,p.1 = n) ∧ ks.length ≤ i ∧ (∀ q,x3 ≠ Sl.pv q) ∧ (∀ q,x4 ≠ Sl.pv q))
  (ρ:=[.fr (nm x),.fr sq,.lv (.dic []),.un,.un]) ⟨[],.un,.un,rfl,.nil,by simp,by simp,(fun q z=>by cases z),(fun q z=>by cases z)⟩ (by
   rintro i a ρ ha ⟨ks,x3,x4,rfl,nd,hk,kl,h3,h4⟩
   obtain ⟨p,hp,rfl⟩:∃ p,ps[i]? = some p ∧ prA p = a:=by
    rw [List.getElem?_map] at ha
    cases e:ps[i]? with
    | none=>rw [e] at ha; cases ha
    | some p=>rw [e] at ha; exact ⟨p,rfl,Option.some.inj ha⟩
   obtain ⟨n,y⟩:=p
   have hpm:=List.mem_of_getElem? hp
   have ny:=nb _ hpm
   have nt:NB ((b + 1) * c + 1) (tot (ps.take i) n):=(Dn (fun p hp=>nb p (List.mem_of_mem_take hp)) n).mono (by have:=Nat.mul_le_mul_left (b + 1) (Nat.le_trans (Cv ps i n) (cn n)); omega)
   have li:i < ps.length:=(List.getElem?_eq_some_iff.mp hp).1
   have e1:tot (ps.take (i + 1)) n = fw (tot (ps.take i) n) y:=by rw [take_snoc hp,jN,if_pos rfl]
   have e2:∀ m,m ≠ n → tot (ps.take (i + 1)) m = tot (ps.take i) m:=fun m hm=>by rw [take_snoc hp,jN,if_neg (fun z=>hm z.symm)]
   have kp:=aP (G5 (n:=max ((b + 1) * c + 1) b) (nt.mono (Nat.le_max_left _ _)) (ny.mono (Nat.le_max_right _ _)) (by omega))
   simp only [List.map_cons,List.map_nil] at kp
   have hg:=ft ks (fun n=>nm (tot (ps.take i) n)) n
   have hpt:=wj ks (fun n=>nm (tot (ps.take i) n)) n (nm (fw (tot (ps.take i) n) y))
   have hd:ax (if n ∈ ks then ks else ks ++ [n]) (fun m=>if m = n then nm (fw (tot (ps.take i) n) y) else nm (tot (ps.take i) m)) = ax (if n ∈ ks then ks else ks ++ [n]) (fun n=>nm (tot (ps.take (i + 1)) n)):=qi fun m _=>by
    by_cases z:m = n
    ·subst z; rw [if_pos rfl,e1]
    ·rw [if_neg z,e2 m z]
   rw [hd] at hpt
   have hlen:((ax ks fun n=>nm (tot (ps.take i) n)).length ≤ 100000) = True:=by simp only [eq_iff_iff,iff_true,uU]; omega
   refine ⟨[.fr (nm x),.fr sq,.lv (.dic (ax ks fun n=>nm (tot (ps.take i) n))),.fr (.str n),.fr (nm y)],[.fr (nm x),.fr sq,.lv (.dic (ax (if n ∈ ks then ks else ks ++ [n]) fun n=>nm (tot (ps.take (i + 1)) n))),.fr (.str n),.fr (nm y)],?_,.inl ?_,if n ∈ ks then ks else ks ++ [n],.fr (.str n),.fr (nm y),rfl,?_,?_,?_,(fun q z=>by cases z),(fun q z=>by cases z)⟩
   ·simp only [prA]
    cases x3 <;> first | exact absurd rfl (h3 _) | (cases x4 <;> first | exact absurd rfl (h4 _) | rfl)
   ·by_cases z:n ∈ ks
    ·rw [if_pos z] at hg
     clear ha hk h3 h4 kl nd nt ny hpm hp e1 e2 hd nb cn
     walk_at "evh"
    ·rw [if_neg z] at hg
     have et:A.tup [.int 0,.int 1] = nm (tot (ps.take i) n):=by rw [v8 fun p hp e=>z ((hk n).mpr ⟨p,hp,e⟩)]; rfl
     clear ha hk h3 h4 kl nd nt ny hpm hp e1 e2 hd nb cn
     walk_at "evh"
   ·split
    ·exact nd
    ·rename_i z
     rw [List.nodup_append]
     exact ⟨nd,by simp,fun a ha b hb e=>by rw [List.mem_singleton.mp hb] at e; exact z (by rw [← e]; exact ha)⟩
   ·intro m
    rw [take_snoc hp]
    constructor
    ·intro hm
     by_cases c:n ∈ ks
     ·rw [if_pos c] at hm
      obtain ⟨p,h1,h2⟩:=(hk m).mp hm
      exact ⟨p,List.mem_append_left _ h1,h2⟩
     ·rw [if_neg c] at hm
      rcases List.mem_append.mp hm with z | z
      ·obtain ⟨p,h1,h2⟩:=(hk m).mp z
       exact ⟨p,List.mem_append_left _ h1,h2⟩
      ·exact ⟨(n,y),by simp,(List.mem_singleton.mp z).symm⟩
    ·rintro ⟨p,h1,h2⟩
     rcases List.mem_append.mp h1 with z | z
     ·have:=(hk m).mpr ⟨p,z,h2⟩
      split
      ·exact this
      ·exact List.mem_append_left _ this
     ·rw [List.mem_singleton.mp z] at h2
      have h2:n = m:=h2
      subst h2
      split
      ·assumption
      ·simp
   ·split
    ·omega
    ·rw [List.length_append]; simp; omega)
 rw [List.length_map] at hk kl
 rw [List.length_map,List.take_length] at hf
 rw [List.take_length] at hk
 obtain ⟨ys,ρ2,hc,x5,rfl,rfl,_⟩:=ki (G:=bB 5) (t:=aK (mOp fNe (mOp (fOr fIx aA) (aj 2) (aj 5)) (mC (.tup [(.int 0),(.int 1)])))) (e:=dP (ag (aj 5) (ag (mOp (fOr fIx aA) (aj 2) (aj 5)) aD))) (as:=(bW ks).map A.str)
  (fun j acc ρ=>∃ x5:Sl,acc = (fh ps ((bW ks).take j)).map prA ∧ ρ = [.fr (nm x),.fr sq,.lv (.dic (ax ks fun n=>nm (tot ps n))),x3,x4,x5] ∧ ∀ q,x5 ≠ Sl.pv q)
  (ρ:=[.fr (nm x),.fr sq,.lv (.dic (ax ks fun n=>nm (tot ps n))),x3,x4,.un]) ⟨.un,rfl,rfl,fun q z=>by cases z⟩ (by
   rintro j a acc ρ ha ⟨x5,rfl,rfl,h5⟩
   obtain ⟨n,hn,rfl⟩:∃ n,(bW ks)[j]? = some n ∧ A.str n = a:=by
    rw [List.getElem?_map] at ha
    cases e:(bW ks)[j]? with
    | none=>rw [e] at ha; cases ha
    | some p=>rw [e] at ha; exact ⟨p,rfl,Option.some.inj ha⟩
   have hin:n ∈ ks:=(dN ks).mem_iff.mp (List.mem_of_getElem? hn)
   have hg:=ft ks (fun n=>nm (tot ps n)) n
   rw [if_pos hin] at hg
   have hq:eqA (nm (tot ps n)) (.tup [.int 0,.int 1]) = some (decide (tot ps n = (0,1))):=xX _ (0,1)
   have ec:fh ps ((bW ks).take (j + 1)) = fh ps ((bW ks).take j) ++ (if nz ps n = true then [(n,tot ps n)] else []):=by
    unfold fh
    rw [take_snoc hn,List.filter_append,List.map_append]
    by_cases c:nz ps n = true <;> simp [c]
   refine ⟨[.fr (nm x),.fr sq,.lv (.dic (ax ks fun n=>nm (tot ps n))),x3,x4,.fr (.str n)],by cases x5 <;> first | rfl | exact absurd rfl (h5 _),?_⟩
   by_cases c:tot ps n = (0,1)
   ·right
    have d1:decide (tot ps n = (0,1)) = true:=decide_eq_true c
    refine ⟨[.fr (nm x),.fr sq,.lv (.dic (ax ks fun n=>nm (tot ps n))),x3,x4,.fr (.str n)],?_,.fr (.str n),?_,rfl,fun q z=>by cases z⟩
    ·clear ha hin hn ec hf hk h3 h4 h5 kl nd nb cn c
     walk_at "evh"
    ·rw [ec,if_neg (by unfold nz; rw [d1]; decide),List.append_nil]
   ·left
    have d1:decide (tot ps n = (0,1)) = false:=decide_eq_false c
    refine ⟨[.fr (nm x),.fr sq,.lv (.dic (ax ks fun n=>nm (tot ps n))),x3,x4,.fr (.str n)],.fr (prA (n,tot ps n)),[.fr (nm x),.fr sq,.lv (.dic (ax ks fun n=>nm (tot ps n))),x3,x4,.fr (.str n)],prA (n,tot ps n),[.fr (nm x),.fr sq,.lv (.dic (ax ks fun n=>nm (tot ps n))),x3,x4,.fr (.str n)],?_,?_,rfl,.fr (.str n),?_,rfl,fun q z=>by cases z⟩
    ·clear ha hin hn ec hf hk h3 h4 h5 kl nd nb cn c
     walk_at "evh"
    ·simp only [prA]
     clear ha hin hn ec hf hk h3 h4 h5 kl nd nb cn c
     walk_at "evh"
    ·rw [ec,if_pos (by unfold nz; rw [d1]; decide),List.map_append]; rfl)
 have lks:(bW ks).length = ks.length:=(dN ks).length_eq
 have cl:(fh ps (bW ks)).length ≤ ps.length:=by
  unfold fh
  rw [List.length_map]
  have e1:=List.length_filter_le (nz ps) (bW ks)
  omega
 rw [List.length_map,List.take_length] at hc
 refine ⟨fh ps (bW ks),?_,Bq nd hk,cl⟩
 have k1:(((bW ks).map A.str).length ≤ 100000) = True:=by simp only [eq_iff_iff,iff_true,List.length_map]; omega
 have k2:=vO ks (fun n=>nm (tot ps n))
 have k3:(ks.length < 64) = True:=by simp only [eq_iff_iff,iff_true]; omega
 have k4:(0 + 1 + 1 ≤ 1000) = True:=by simp
 have k5:fG (.dic (ax ks fun n=>nm (tot ps n))) = none:=rfl
 have k7:jA (.dic (ax ks fun n=>nm (tot ps n))) = some (.nw (.lst ((bW ks).map A.str))):=by
  unfold jA
  simp only [k2,k3,if_true]
 have k6:(((fh ps (bW ks)).map prA).length ≤ 100000) = True:=by simp only [eq_iff_iff,iff_true,List.length_map]; omega
 clear nb cn hbc hb hl nd hk kl h3 h4 lks k2 k3 cl
 have hs:sq = .lst (ps.map prA) ∨ sq = .tup (ps.map prA):=by
  cases sq <;> first | (cases hsq; done) | skip
  ·exact .inr (by rw [Option.some.inj hsq])
  ·exact .inl (by rw [Option.some.inj hsq])
 clear hsq
 unfold Val m6 xO aB
 simp only [List.map_cons,List.map_nil]
 rcases hs with hs | hs
 all_goals
  subst hs
  walk_at "evh"
  simp only [wQ,k1,if_true,List.replicate_succ,List.replicate_zero,List.cons_append,List.nil_append,List.append_nil]
  rw [hc]
  simp only [List.length_cons,List.length_nil,List.take_succ_cons,List.take_zero,k4]
  exact ⟨_,rfl⟩
structure Sm (b l:Nat) (ss:List Str) (x:Num) (L:List Pr):Prop where
 x:NB b x
 rise:L.Pairwise (fun a b=>SLt a.1 b.1)
 nb:∀ p ∈ L,NB b p.2
 nz:∀ p ∈ L,p.2 ≠ (0,1)
 len:L.length ≤ l
 nms:∀ p ∈ L,p.1 ∈ ss
theorem Sm.oks {b l:Nat} {ss:List Str} {x:Num} {L:List Pr} (h:Sm b l ss x L):∀ p ∈ L,Ok p.2:=fun p hp=>(h.nb p hp).ok
theorem se {L:List Pr} (r:L.Pairwise (fun a b=>SLt a.1 b.1)) (oL:∀ p ∈ L,Ok p.2) (z:∀ p ∈ L,p.2 ≠ (0,1)):Canon L L:=by
 obtain ⟨r1,r2⟩:=uD r
 refine ⟨r,fun p=>⟨fun hp=>⟨?_,z p hp⟩,fun ⟨e,n⟩=>?_⟩⟩
 ·exact xN (oL p hp) (uC oL _) (by rw [so oL,r1 p hp])
 ·by_cases c:∃ q ∈ L,q.1 = p.1
  ·obtain ⟨q,hq,e2⟩:=c
   have:q.2 = p.2:=by
    rw [e]
    exact xN (oL q hq) (uC oL _) (by rw [so oL,← e2,r1 q hq])
   rw [show p = q from Prod.ext e2.symm this.symm]
   exact hq
  ·refine absurd ?_ n
   rw [e]
   exact xN (uC oL _) Aa (by rw [so oL,wb]; exact r2 _ fun q hq z=>c ⟨q,hq,z⟩)
theorem Sm.ext {b l b' l':Nat} {ss ss':List Str} {x y:Num} {L M:List Pr} (h:Sm b l ss x L) (k:Sm b' l' ss' y M) (e:nv x = nv y) (er:∀ n,eN L n = eN M n):aB x L = aB y M:=by
 have e1:x = y:=xN h.x.ok k.x.ok e
 have c1:=se h.rise h.oks h.nz
 have c2:=se k.rise k.oks k.nz
 have:L = M:=Er h.rise k.rise fun p=>by rw [c1.mem,c2.mem,show tot L p.1 = tot M p.1 from xN (uC h.oks _) (uC k.oks _) (by rw [so h.oks,so k.oks,er])]
 rw [e1,this]
theorem Dh {ps L:List Pr} (o:∀ p ∈ ps,Ok p.2) (h:Canon ps L) (n:Str):eN L n = eN ps n:=by
 obtain ⟨r1,r2⟩:=uD h.rise
 by_cases c:∃ q ∈ L,q.1 = n
 ·obtain ⟨q,hq,rfl⟩:=c
  rw [r1 q hq,((h.mem q).mp hq).1,so o]
 ·rw [r2 n fun p hp e=>c ⟨p,hp,e⟩]
  by_cases z:tot ps n = (0,1)
  ·rw [← so o,z,wb]
  ·exact absurd ⟨(n,tot ps n),(h.mem (n,tot ps n)).mpr ⟨rfl,z⟩,rfl⟩ c
theorem Sm.of {b b' c l:Nat} {ss:List Str} {x:Num} {ps L:List Pr} (hx:NB b' x) (nb:∀ p ∈ ps,NB b p.2) (cn:∀ n,cnt ps n ≤ c) (hb:(b + 1) * c + 1 ≤ b') (hl:ps.length ≤ l) (hs:∀ p ∈ ps,p.1 ∈ ss) (hc:Canon ps L) (ll:L.length ≤ ps.length):Sm b' l ss x L ∧ ∀ n,eN L n = eN ps n:=by
 refine ⟨⟨hx,hc.rise,fun p hp=>?_,fun p hp=>((hc.mem p).mp hp).2,by omega,fun p hp=>?_⟩,Dh (fun p hp=>(nb p hp).ok) hc⟩
 ·rw [((hc.mem p).mp hp).1]
  exact (Dn nb p.1).mono (by have:=Nat.mul_le_mul_left (b + 1) (cn p.1); omega)
 ·by_cases z:∃ q ∈ ps,q.1 = p.1
  ·obtain ⟨q,hq,e⟩:=z
   rw [← e]; exact hs q hq
  ·obtain ⟨e,n⟩:=(hc.mem p).mp hp
   exact absurd (e.trans (v8 fun q hq e2=>z ⟨q,hq,e2⟩)) n
theorem BN {L:List Pr} {f:Num} (o:∀ p ∈ L,Ok p.2) (hf:Ok f) (n:Str):eN (L.map fun p=>(p.1,dC p.2 f)) n = eN L n * nv f:=by
 induction L with
 | nil=>show (0:Rat) = 0 * nv f; grind
 | cons p L ih =>
  show (if p.1 = n then nv (dC p.2 f) else 0) + eN (L.map fun p=>(p.1,dC p.2 f)) n = ((if p.1 = n then nv p.2 else 0) + eN L n) * nv f
  rw [ih fun q hq=>o q (List.mem_cons_of_mem _ hq),Dw (o p (by simp)) hf]
  split <;> grind
theorem EE {L:List Pr} (g:Pr → Pr) (hg:∀ p,(g p).1 = p.1) (n:Str):cnt (L.map g) n = cnt L n:=by
 unfold cnt
 rw [List.countP_map]
 congr 1
 funext p
 simp [hg]
theorem DH (L M:List Pr) (n:Str):cnt (L ++ M) n = cnt L n + cnt M n:=List.countP_append
def atR (h:Str → Rat):List Pr → Rat
 | []=>0
 | p :: L=>nv p.2 * h p.1 + atR h L
theorem Eh (h:Str → Rat) (L M:List Pr):atR h (L ++ M) = atR h L + atR h M:=by
 induction L with
 | nil=>show atR h M = 0 + atR h M; grind
 | cons p L ih=>show nv p.2 * h p.1 + atR h (L ++ M) = nv p.2 * h p.1 + atR h L + atR h M; rw [ih]; grind
theorem B8 {b b' c l:Nat} {ss:List Str} {x:Num} {ps:List Pr} {sq:A} (hsq:zQ sq = some (ps.map prA)) (hx:NB b' x) (nb:∀ p ∈ ps,NB b p.2) (cn:∀ n,cnt ps n ≤ c) (hb:(b + 1) * c + 1 ≤ b') (hl:ps.length ≤ l) (hs:∀ p ∈ ps,p.1 ∈ ss) (h4:b' ≤ 4000) (hb4:b ≤ 4000) (hl6:l ≤ 60) :
  ∃ L,Val m6 [nm x,sq] (aB x L) ∧ Sm b' l ss x L ∧ ∀ n,eN L n = eN ps n:=by
 obtain ⟨L,v,hc,ll⟩:=FL (x:=x) hsq nb cn (by omega) hb4 (by omega)
 obtain ⟨s,e⟩:=Sm.of (ss:=ss) hx nb cn hb hl hs hc ll
 exact ⟨L,v,s,e⟩
theorem xm {b l l':Nat} {ss:List Str} {x y:Num} {L M:List Pr} (h:Sm b l ss x L) (k:Sm b l' ss y M) (hb:2 * b + 3 ≤ 4000) (hl:l + l' ≤ 60) :
  ∃ N,Val kA [aB x L,aB y M] (aB (fw x y) N) ∧ Sm (2 * b + 3) (l + l') ss (fw x y) N ∧ ∀ n,eN N n = eN L n + eN M n:=by
 have hl1:=h.len
 have hl2:=k.len
 obtain ⟨N,v,s,e⟩:=B8 (b:=b) (b':=2 * b + 3) (c:=2) (l:=l + l') (ss:=ss) (x:=fw x y) (ps:=L ++ M) (sq:=.tup (L.map prA ++ M.map prA)) (by rw [List.map_append]; rfl) ((h.x.add k.x).mono (by omega))
  (fun p hp=>(List.mem_append.mp hp).elim (h.nb p) (k.nb p)) (fun n=>by rw [DH]; have:=qd h.rise n; have:=qd k.rise n; omega) (by omega) (by rw [List.length_append]; omega)
  (fun p hp=>(List.mem_append.mp hp).elim (h.nms p) (k.nms p)) hb (by omega) hl
 refine ⟨N,?_,s,fun n=>by rw [e,pC]⟩
 have k1:=aP (G5 (n:=b) h.x k.x (by omega))
 have k2:=aP v
 have k3:((L.map prA).length + (M.map prA).length ≤ 100000) = True:=by simp only [eq_iff_iff,iff_true,List.length_map]; omega
 simp only [List.map_cons,List.map_nil] at k1 k2
 clear v s e h k hl1 hl2 hb hl
 unfold Val kA rN
 simp only [aB] at k2 ⊢
 walk_at "evh"
 exact ⟨_,rfl⟩
theorem vM {b l:Nat} {ss:List Str} {x f:Num} {L:List Pr} (h:Sm b l ss x L) (hf:NB b f) (hb:2 * b + 3 ≤ 4000) (hl:l ≤ 60) :
  ∃ N,Val jJ [aB x L,nm f] (aB (dC x f) N) ∧ Sm (2 * b + 3) l ss (dC x f) N ∧ ∀ n,eN N n = eN L n * nv f:=by
 have hl1:=h.len
 obtain ⟨N,v,s,e⟩:=B8 (b:=2 * b + 1) (b':=2 * b + 3) (c:=1) (l:=l) (ss:=ss) (x:=dC x f) (ps:=L.map fun p=>(p.1,dC p.2 f)) (sq:=.lst ((L.map fun p=>(p.1,dC p.2 f)).map prA)) rfl ((h.x.mul hf).mono (by omega))
  (fun p hp=>by obtain ⟨q,hq,rfl⟩:=List.mem_map.mp hp; exact (h.nb q hq).mul hf) (fun n=>by rw [EE (fun p=>(p.1,dC p.2 f)) (fun _=>rfl)]; exact qd h.rise n) (by omega) (by rw [List.length_map]; omega)
  (fun p hp=>by obtain ⟨q,hq,rfl⟩:=List.mem_map.mp hp; exact h.nms q hq) hb (by omega) hl
 refine ⟨N,?_,s,fun n=>by rw [e,BN h.oks hf.ok]⟩
 obtain ⟨ys,ρ2,hc,x2,x3,rfl,rfl,_,_⟩:=ki (G:=mr (gM 2 (aL (bB 2) (aL (bB 3) cC))) (gR 2 (aL (bB 2) (aL (bB 3) cC)))) (t:=rA) (e:=dP (ag (aj 2) (ag (aC qD [] (ag (aS 3) (ag (aS 1) aD))) aD))) (as:=L.map prA)
  (fun j acc ρ=>∃ x2 x3:Sl,acc = ((L.take j).map fun p=>(p.1,dC p.2 f)).map prA ∧ ρ = [.fr (aB x L),.fr (nm f),x2,x3] ∧ (∀ q,x2 ≠ Sl.pv q) ∧ (∀ q,x3 ≠ Sl.pv q))
  (ρ:=[.fr (aB x L),.fr (nm f),.un,.un]) ⟨.un,.un,rfl,rfl,(fun q z=>by cases z),(fun q z=>by cases z)⟩ (by
   rintro j a acc ρ ha ⟨x2,x3,rfl,rfl,h2,h3⟩
   obtain ⟨p,hp,rfl⟩:∃ p,L[j]? = some p ∧ prA p = a:=by
    rw [List.getElem?_map] at ha
    cases e:L[j]? with
    | none=>rw [e] at ha; cases ha
    | some p=>rw [e] at ha; exact ⟨p,rfl,Option.some.inj ha⟩
   have kt:=aP (DL (n:=b) (h.nb p (List.mem_of_getElem? hp)) hf (by omega))
   have l2:(0 + 1 + 1 ≤ 1000) = True:=by simp
   simp only [List.map_cons,List.map_nil] at kt
   refine ⟨[.fr (aB x L),.fr (nm f),.fr (.str p.1),.fr (nm p.2)],?_,.inl ⟨[.fr (aB x L),.fr (nm f),.fr (.str p.1),.fr (nm p.2)],.fr (prA (p.1,dC p.2 f)),[.fr (aB x L),.fr (nm f),.fr (.str p.1),.fr (nm p.2)],prA (p.1,dC p.2 f),[.fr (aB x L),.fr (nm f),.fr (.str p.1),.fr (nm p.2)],rfl,?_,rfl,.fr (.str p.1),.fr (nm p.2),?_,rfl,(fun q z=>by cases z),(fun q z=>by cases z)⟩⟩
   ·simp only [prA]
    cases x2 <;> first | exact absurd rfl (h2 _) | (cases x3 <;> first | exact absurd rfl (h3 _) | rfl)
   ·simp only [prA]
    clear ha hp h2 h3 h hf s e v
    walk_at "evh"
   ·rw [take_snoc hp,List.map_append,List.map_append]; rfl)
 rw [List.length_map,List.take_length] at hc
 have k1:=aP (DL (n:=b) h.x hf (by omega))
 have k2:=aP v
 have k3:((L.map prA).length ≤ 100000) = True:=by simp only [eq_iff_iff,iff_true,List.length_map]; omega
 simp only [List.map_cons,List.map_nil] at k1 k2
 clear v s e h hf hl1 hb hl
 unfold Val jJ pL
 simp only [aB] at k2 hc ⊢
 walk_at "evh"
 simp only [wQ,k3,if_true,List.replicate_succ,List.replicate_zero,List.cons_append,List.nil_append,List.append_nil]
 rw [hc]
 simp only [List.length_cons,List.length_nil,List.take_succ_cons,List.take_zero,k2]
 exact ⟨_,rfl⟩
theorem Hv {b:Nat} (h:1 ≤ b):NB b (-1,1):=(⟨⟨by decide,by decide⟩,show (-1:Int).natAbs < 2 ^ 1 by decide,show (1:Int).natAbs < 2 ^ 1 by decide⟩:NB 1 (-1,1)).mono h
theorem K2:nv (-1,1) = -1:=by decide +kernel
theorem Sm.mono {b b' l l':Nat} {ss:List Str} {x:Num} {L:List Pr} (h:Sm b l ss x L) (k:b ≤ b') (k':l ≤ l'):Sm b' l' ss x L:=⟨h.x.mono k,h.rise,fun p hp=>(h.nb p hp).mono k,h.nz,by have:=h.len; omega,h.nms⟩
theorem Bj {b l l':Nat} {ss:List Str} {x y:Num} {L M:List Pr} (h:Sm b l ss x L) (k:Sm b l' ss y M) (b1:1 ≤ b) (hb:4 * b + 9 ≤ 4000) (hl:l + l' ≤ 60) :
  ∃ N,Val lN [aB x L,aB y M] (aB (fw x (dC y (-1,1))) N) ∧ Sm (4 * b + 9) (l + l') ss (fw x (dC y (-1,1))) N ∧ ∀ n,eN N n = eN L n - eN M n:=by
 obtain ⟨N1,v1,s1,e1⟩:=vM k (Hv b1) (by omega) (by omega)
 obtain ⟨N,v,s,e⟩:=xm (h.mono (show b ≤ 2 * b + 3 by omega) (Nat.le_refl l)) s1 (by omega) hl
 refine ⟨N,?_,s.mono (by omega) (Nat.le_refl _),fun n=>by rw [e,e1,K2]; grind⟩
 have k1:=aP v1
 have k2:=aP v
 simp only [List.map_cons,List.map_nil,nm] at k1 k2
 clear v v1 s s1 e e1 h k hb hl
 unfold Val lN oY
 simp only [List.map_cons,List.map_nil]
 walk_at "evh"
 exact ⟨_,rfl⟩
theorem Dv (t d a b c e:Int) (hd:d ≠ 0) (hb:b ≠ 0) (he:e ≠ 0):Rat.divInt (t * b * e + a * c * d) (d * b * e) = Rat.divInt t d + Rat.divInt a b * Rat.divInt c e:=by
 rw [Rat.divInt_mul_divInt _ _,Rat.divInt_add_divInt _ _ hd (Int.mul_ne_zero hb he)]
 congr 1 <;> grind
theorem BB {b c l:Nat} {ss ks:List Str} {x:Num} {L:List Pr} {g:Str → Num} (h:Sm b l ss x L) (hk:∀ n ∈ ss,n ∈ ks) (hg:∀ n ∈ ks,NB c (g n)) (hb:b + l * (b + c + 2) ≤ 8000) (hn:∀ n ∈ ss,n.length ≤ 1000) :
  ∃ v,Val gQ [aB x L,.dic (ax ks fun n=>nm (g n))] (nm v) ∧ NB (b + l * (b + c + 2)) v ∧ nv v = nv x + atR (fun n=>nv (g n)) L:=by
 obtain ⟨ρ1,hf,t,d,x4,x5,x6,rfl,d0,b1,b2,ev,_,_,_⟩:=jy (G:=mr (gM 2 (aL (bB 4) (aL (bB 5) cC))) (gR 2 (aL (bB 4) (aL (bB 5) cC))))
  (b:=aY (sIf (aK (mOp (fOr (oH true) (jW true)) (aj 4) (aj 1))) (p7 "NoSum" (ag (mJs (mJ (mC (.str "the making lacks the name ")) (mJ (mFv (aj 4)) (i4 [])))) aD)) bZ)
 (aY (bG 6 (mOp (fOr fIx aA) (aj 1) (aj 4)))
 (aY (bG 2 (mOp fX (mOp fi (mOp fi (aj 2) (mOp (fOr fIx aA) (aj 5) (mC (.int 1)))) (mOp (fOr fIx aA) (aj 6) (mC (.int 1)))) (mOp fi (mOp fi (mOp (fOr fIx aA) (aj 5) (mC (.int 0))) (mOp (fOr fIx aA) (aj 6) (mC (.int 0)))) (aj 3))))
 (bG 3 (mOp fi (mOp fi (aj 3) (mOp (fOr fIx aA) (aj 5) (mC (.int 1)))) (mOp (fOr fIx aA) (aj 6) (mC (.int 1)))))))) (as:=L.map prA)
  (fun i ρ=>∃ (t d:Int) (x4 x5 x6:Sl),ρ = [.fr (aB x L),.fr (.dic (ax ks fun n=>nm (g n))),.fr (.int t),.fr (.int d),x4,x5,x6] ∧ d ≠ 0 ∧ L2.Bd (b + i * (b + c + 2)) t ∧ L2.Bd (b + i * (b + c + 2)) d ∧ Rat.divInt t d = nv x + atR (fun n=>nv (g n)) (L.take i) ∧ (∀ q,x4 ≠ Sl.pv q) ∧ (∀ q,x5 ≠ Sl.pv q) ∧ (∀ q,x6 ≠ Sl.pv q))
  (ρ:=[.fr (aB x L),.fr (.dic (ax ks fun n=>nm (g n))),.fr (.int x.1),.fr (.int x.2),.un,.un,.un])
  ⟨x.1,x.2,.un,.un,.un,rfl,h.x.nz,by simpa using h.x.b1,by simpa using h.x.b2,(by show nv x = nv x + 0; grind),(fun q z=>by cases z),(fun q z=>by cases z),(fun q z=>by cases z)⟩ (by
   rintro i a ρ ha ⟨t,d,x4,x5,x6,rfl,d0,b1,b2,ev,h4,h5,h6⟩
   obtain ⟨p,hp,rfl⟩:∃ p,L[i]? = some p ∧ prA p = a:=by
    rw [List.getElem?_map] at ha
    cases e:L[i]? with
    | none=>rw [e] at ha; cases ha
    | some p=>rw [e] at ha; exact ⟨p,rfl,Option.some.inj ha⟩
   have hpm:=List.mem_of_getElem? hp
   have li:i < L.length:=(List.getElem?_eq_some_iff.mp hp).1
   have lm:=h.len
   have hin:p.1 ∈ ks:=hk _ (h.nms p hpm)
   have np:=h.nb p hpm
   have ng:=hg p.1 hin
   have hi8:b + i * (b + c + 2) + (b + c + 2) ≤ 8000:=by
    have:=Nat.mul_le_mul_right (b + c + 2) (show i + 1 ≤ l by omega)
    rw [Nat.add_mul] at this
    omega
   generalize hm:b + i * (b + c + 2) = m at b1 b2 hi8
   have em:b + (i + 1) * (b + c + 2) = m + (b + c + 2):=by rw [← hm,Nat.add_mul]; omega
   have q1:L2.Bd (m + b) (t * p.2.2):=b1.mul np.b2
   have q2:L2.Bd (m + b + c) (t * p.2.2 * (g p.1).2):=q1.mul ng.b2
   have q3:L2.Bd (b + c) (p.2.1 * (g p.1).1):=np.b1.mul ng.b1
   have q4:L2.Bd (b + c + m) (p.2.1 * (g p.1).1 * d):=q3.mul b2
   have q5:L2.Bd (m + b) (d * p.2.2):=b2.mul np.b2
   have q6:L2.Bd (m + b + c) (d * p.2.2 * (g p.1).2):=q5.mul ng.b2
   have q7:L2.Bd (m + b + c + 1) (t * p.2.2 * (g p.1).2 + p.2.1 * (g p.1).1 * d):=(L2.Bd.add q2 (q4.mono (show b + c + m ≤ m + b + c by omega))).mono (by omega)
   have f1:=fits_of (n:=20000) b1 (by omega)
   have f2:=fits_of (n:=20000) b2 (by omega)
   have f3:=fits_of (n:=20000) np.b1 (by omega)
   have f4:=fits_of (n:=20000) np.b2 (by omega)
   have f5:=fits_of (n:=20000) ng.b1 (by omega)
   have f6:=fits_of (n:=20000) ng.b2 (by omega)
   have f7:=fits_of (n:=20000) q1 (by omega)
   have f8:=fits_of (n:=20000) q3 (by omega)
   have f9:=fits_of (n:=20000) q5 (by omega)
   have hgk:=ft ks (fun n=>nm (g n)) p.1
   rw [if_pos hin] at hgk
   refine ⟨[.fr (aB x L),.fr (.dic (ax ks fun n=>nm (g n))),.fr (.int t),.fr (.int d),.fr (.str p.1),.fr (nm p.2),x6],[.fr (aB x L),.fr (.dic (ax ks fun n=>nm (g n))),.fr (.int (t * p.2.2 * (g p.1).2 + p.2.1 * (g p.1).1 * d)),.fr (.int (d * p.2.2 * (g p.1).2)),.fr (.str p.1),.fr (nm p.2),.fr (nm (g p.1))],?_,.inl ?_,_,_,.fr (.str p.1),.fr (nm p.2),.fr (nm (g p.1)),rfl,Int.mul_ne_zero (Int.mul_ne_zero d0 np.nz) ng.nz,?_,?_,?_,(fun q z=>by cases z),(fun q z=>by cases z),(fun q z=>by cases z)⟩
   ·simp only [prA]
    cases x4 <;> first | exact absurd rfl (h4 _) | (cases x5 <;> first | exact absurd rfl (h5 _) | rfl)
   ·have s1:sIf (aK (mOp (fOr (oH true) (jW true)) (aj 4) (aj 1))) (p7 "NoSum" (ag (mJs (mJ (mC (.str "the making lacks the name ")) (mJ (mFv (aj 4)) (i4 [])))) aD)) bZ [.fr (aB x L),.fr (.dic (ax ks fun n=>nm (g n))),.fr (.int t),.fr (.int d),.fr (.str p.1),.fr (nm p.2),x6] = some (.nx,[.fr (aB x L),.fr (.dic (ax ks fun n=>nm (g n))),.fr (.int t),.fr (.int d),.fr (.str p.1),.fr (nm p.2),x6]):=by
     clear h6 h4 h5 q1 q2 q3 q4 q5 q6 q7 f1 f2 f3 f4 f5 f6 f7 f8 f9 ev em hm hi8 b1 b2
     have i1:oH true (.str p.1) (.dic (ax ks fun n=>nm (g n))) = none:=rfl
     have i2:jW true (.str p.1) (.dic (ax ks fun n=>nm (g n))) = some (.fr (.bl false)):=by
      unfold jW
      simp only [kq,hgk]
      rfl
     clear hgk
     walk_at "evh"
    have s2:bG 6 (mOp (fOr fIx aA) (aj 1) (aj 4)) [.fr (aB x L),.fr (.dic (ax ks fun n=>nm (g n))),.fr (.int t),.fr (.int d),.fr (.str p.1),.fr (nm p.2),x6] = some (.nx,[.fr (aB x L),.fr (.dic (ax ks fun n=>nm (g n))),.fr (.int t),.fr (.int d),.fr (.str p.1),.fr (nm p.2),.fr (nm (g p.1))]):=by
     have i1:fIx (.dic (ax ks fun n=>nm (g n))) (.str p.1) = none:=rfl
     clear h4 h5 q1 q2 q3 q4 q5 q6 q7 f1 f2 f3 f4 f5 f6 f7 f8 f9 ev em hm hi8 b1 b2 s1
     walk_at "ev"
     simp only [hgk]
     cases x6 <;> first | rfl | exact absurd rfl (h6 _)
    rw [gu,s1]
    simp only
    rw [gu,s2]
    simp only [nm]
    clear s1 s2 h6 h4 h5 q1 q2 q3 q4 q5 q6 q7 ev em hm hi8 b1 b2 ha hgk hp hpm li lm hin np ng d0 h hk hg
    walk_at "evh"
   ·rw [em]; exact q7.mono (by omega)
   ·rw [em]; exact q6.mono (by omega)
   ·rw [Dv _ _ _ _ _ _ d0 np.nz ng.nz,ev,take_snoc hp,Eh]
    show _ = nv x + (atR (fun n=>nv (g n)) (L.take i) + (nv p.2 * nv (g p.1) + 0))
    unfold nv
    grind)
 have lm:=h.len
 rw [List.length_map,List.take_length] at ev
 rw [List.length_map] at b1 b2
 have hm:b + L.length * (b + c + 2) ≤ b + l * (b + c + 2):=by have:=Nat.mul_le_mul_right (b + c + 2) lm; omega
 refine ⟨nrm t d,?_,NB.nrm d0 (b1.mono hm) (b2.mono hm),by rw [Dk d0,ev]⟩
 have k1:=aP (GA (t:=t) (b:=d) d0 (b2.mono (by omega)))
 simp only [List.map_cons,List.map_nil] at k1
 clear b1 b2 ev d0 h hk hg hb hn lm hm
 unfold Val gQ tY
 simp only [aB] at hf ⊢
 have ex:nm x = .tup [.int x.1,.int x.2]:=rfl
 simp only [ex] at hf ⊢
 clear ex
 walk_at "evh"
 exact ⟨_,rfl⟩
theorem CL {n:Int} {o:LO} {ss:List Str} (w:Wl n o) (hn:n < 2 ^ 36) (nd:ss.Nodup) (hl:ss.length ≤ 8):∃ (x:Num) (L:List Pr) (o':LO),sF eU o [.lst (ss.map A.str)] (.fr (aB x L)) o' ∧ Sm 60 ss.length ss x L ∧ Wl (n + 40) o':=by
 have lks:(bW ss).length = ss.length:=(dN ss).length_eq
 obtain ⟨ρ1,hf,L,o1,x3,x4,rfl,w1,sl,nb,nz,h3,h4⟩:=jy (G:=bB 3) (b:=sIf (aK (mOp fGt (aC aF [] (ag (aj 0) (ag (mC (.int 3)) aD))) (mC (.int 0)))) (aY (bG 4 (aC bA [] (ag (aj 0) aD)))
 (sIf (aK (mOp fNe (aj 4) (dP (ag (mC (.int 0)) (ag (mC (.int 1)) aD))))) (vD (Bw 2 (oj 2 (dP (ag (aj 3) (ag (aj 4) aD)))))) bZ)) bZ) (as:=(bW ss).map A.str)
  (fun i ρ=>∃ (L:List Pr) (o1:LO) (x3 x4:Sl),ρ = [.pv o1,.fr (.lst (ss.map A.str)),.lv (.lst (L.map prA)),x3,x4] ∧ Wl (n + 4 * i) o1 ∧ (L.map Prod.fst).Sublist ((bW ss).take i) ∧ (∀ p ∈ L,NB 60 p.2) ∧ (∀ p ∈ L,p.2 ≠ (0,1)) ∧ (∀ q,x3 ≠ Sl.pv q) ∧ (∀ q,x4 ≠ Sl.pv q))
  (ρ:=[.pv o,.fr (.lst (ss.map A.str)),.lv (.lst []),.un,.un]) ⟨[],o,.un,.un,rfl,w.mono (by omega),by simp,(fun p hp=>by cases hp),(fun p hp=>by cases hp),(fun q z=>by cases z),(fun q z=>by cases z)⟩ (by
   rintro i a ρ ha ⟨L,o1,x3,x4,rfl,w1,sl,nb,nz,h3,h4⟩
   obtain ⟨m,hm,rfl⟩:∃ m,(bW ss)[i]? = some m ∧ A.str m = a:=by
    rw [List.getElem?_map] at ha
    cases e:(bW ss)[i]? with
    | none=>rw [e] at ha; cases ha
    | some p=>rw [e] at ha; exact ⟨p,rfl,Option.some.inj ha⟩
   have li:i < (bW ss).length:=(List.getElem?_eq_some_iff.mp hm).1
   have lL:L.length ≤ i:=by have:=sl.length_le; rw [List.length_map,List.length_take] at this; omega
   have hlen:((L.map prA).length ≤ 100000) = True:=by simp only [eq_iff_iff,iff_true,List.length_map]; omega
   have l2:(0 + 1 + 1 ≤ 1000) = True:=by simp
   have ts:(bW ss).take (i + 1) = (bW ss).take i ++ [m]:=take_snoc hm
   obtain ⟨r1,o2,c1,a1,b1,w2⟩:=tk 3 w1 (by omega) (by decide) (by decide)
   refine ⟨[.pv o1,.fr (.lst (ss.map A.str)),.lv (.lst (L.map prA)),.fr (.str m),x4],?_⟩
   have hg:bB 3 (.str m) [.pv o1,.fr (.lst (ss.map A.str)),.lv (.lst (L.map prA)),x3,x4] = some [.pv o1,.fr (.lst (ss.map A.str)),.lv (.lst (L.map prA)),.fr (.str m),x4]:=by cases x3 <;> first | rfl | exact absurd rfl (h3 _)
   by_cases hr:0 < r1
   ·have d1:decide (0 < r1) = true:=decide_eq_true hr
    obtain ⟨x,o3,c2,nx,w3⟩:=nmb w2 (by omega)
    have hq:eqA (nm x) (.tup [.int 0,.int 1]) = some (decide (x = (0,1))):=xX _ (0,1)
    by_cases z:x = (0,1)
    ·have d2:decide (x = (0,1)) = true:=decide_eq_true z
     refine ⟨[.pv o3,.fr (.lst (ss.map A.str)),.lv (.lst (L.map prA)),.fr (.str m),.fr (nm x)],hg,.inl ?_,L,o3,_,_,rfl,w3.mono (by omega),by rw [ts]; exact sl.trans (List.sublist_append_left _ _),nb,nz,(fun q z=>by cases z),(fun q z=>by cases z)⟩
     clear ha h3 sl nb nz ts li lL w1 w2 w3 nx a1 b1 hm hg z
     cases x4 <;> first | exact absurd rfl (h4 _) | (clear h4; walk_at "evh")
    ·have d2:decide (x = (0,1)) = false:=decide_eq_false z
     refine ⟨[.pv o3,.fr (.lst (ss.map A.str)),.lv (.lst ((L ++ [(m,x)]).map prA)),.fr (.str m),.fr (nm x)],hg,.inl ?_,L ++ [(m,x)],o3,_,_,rfl,w3.mono (by omega),?_,?_,?_,(fun q z=>by cases z),(fun q z=>by cases z)⟩
     ·have e1:(L ++ [(m,x)]).map prA = L.map prA ++ [.tup [.str m,nm x]]:=by rw [List.map_append]; rfl
      clear ha h3 sl nb nz ts li lL w1 w2 w3 nx a1 b1 hm hg z
      cases x4 <;> first | exact absurd rfl (h4 _) | (clear h4; walk_at "evh")
     ·rw [ts,List.map_append]; exact sl.append (List.Sublist.refl _)
     ·intro p hp
      rcases List.mem_append.mp hp with h | h
      ·exact nb p h
      ·rw [List.mem_singleton.mp h]; exact nx
     ·intro p hp
      rcases List.mem_append.mp hp with h | h
      ·exact nz p h
      ·rw [List.mem_singleton.mp h]; exact z
   ·have d1:decide (0 < r1) = false:=decide_eq_false hr
    refine ⟨[.pv o2,.fr (.lst (ss.map A.str)),.lv (.lst (L.map prA)),.fr (.str m),x4],hg,.inl ?_,L,o2,_,_,rfl,w2.mono (by omega),by rw [ts]; exact sl.trans (List.sublist_append_left _ _),nb,nz,(fun q z=>by cases z),h4⟩
    clear ha h3 h4 sl nb nz ts li lL w1 w2 a1 b1 hm hg
    walk_at "evh")
 rw [List.length_map] at w1 sl
 rw [List.take_length] at sl
 obtain ⟨x,o2,c2,nx,w2⟩:=nmb w1 (by omega)
 have hr:=rising (xb ss) ((dN ss).nodup_iff.mpr nd)
 have lL:=sl.length_le
 rw [List.length_map] at lL
 refine ⟨x,L,o2,?_,⟨nx,List.pairwise_map.mp (hr.sublist sl),nb,nz,by omega,fun p hp=>(dN ss).mem_iff.mp (sl.subset (List.mem_map_of_mem hp))⟩,w2.mono (by omega)⟩
 have k3:(ss.length < 64) = True:=by simp only [eq_iff_iff,iff_true]; omega
 have l2:(0 + 1 + 1 ≤ 1000) = True:=by simp
 have l0:(0 ≤ 1000) = True:=by simp
 have k5:fG (.lst (ss.map A.str)) = some (.nw (.lst ((bW ss).map A.str))):=by
  unfold fG
  simp only [wd,k3,if_true]
 clear w w1 w2 hn nd hl lks sl nb nz h3 h4 nx hr lL k3
 unfold sF eU sA aB
 simp only [List.map_cons,List.map_nil]
 walk_at "evh"
 exact ⟨_,rfl⟩
def cl (w n:Str):Str:=(w ++ ⟨#[46]⟩) ++ n
theorem Iz {a b:Str} (h:a.cps.toList = b.cps.toList):a = b:=by
 obtain ⟨⟨a⟩⟩:=a
 obtain ⟨⟨b⟩⟩:=b
 exact congrArg Str.mk (congrArg Array.mk h)
theorem IG (a b:Str):(a ++ b).cps.toList = a.cps.toList ++ b.cps.toList:=by
 show (a.cps ++ b.cps).toList = _
 simp
theorem JK (w n:Str):E9 [w,⟨#[46]⟩,n] = cl w n:=by
 apply Iz
 unfold E9 cl
 simp only [List.foldl_cons,List.foldl_nil,IG]
 rfl
def cls (w:Str) (L:List Pr):List Pr:=L.map fun p=>(cl w p.1,p.2)
theorem AK {b l:Nat} {ss:List Str} {x:Num} {L:List Pr} {w:Str} (h:Sm b l ss x L) (hl:l ≤ 60) (hn:∀ n ∈ ss,n.length ≤ 1000) (hw:w.length ≤ 1000):Val j6 [aB x L,.str w] (aB x (cls w L)):=by
 obtain ⟨ys,ρ2,hc,x2,x3,rfl,rfl,_,_⟩:=ki (G:=mr (gM 2 (aL (bB 2) (aL (bB 3) cC))) (gR 2 (aL (bB 2) (aL (bB 3) cC)))) (t:=rA) (e:=dP (ag (mJs (mJ (mFv (aj 1)) (mJ (mC (.str ".")) (mJ (mFv (aj 2)) (i4 []))))) (ag (aj 3) aD))) (as:=L.map prA)
  (fun j acc ρ=>∃ x2 x3:Sl,acc = (cls w (L.take j)).map prA ∧ ρ = [.fr (aB x L),.fr (.str w),x2,x3] ∧ (∀ q,x2 ≠ Sl.pv q) ∧ (∀ q,x3 ≠ Sl.pv q))
  (ρ:=[.fr (aB x L),.fr (.str w),.un,.un]) ⟨.un,.un,rfl,rfl,(fun q z=>by cases z),(fun q z=>by cases z)⟩ (by
   rintro j a acc ρ ha ⟨x2,x3,rfl,rfl,h2,h3⟩
   obtain ⟨p,hp,rfl⟩:∃ p,L[j]? = some p ∧ prA p = a:=by
    rw [List.getElem?_map] at ha
    cases e:L[j]? with
    | none=>rw [e] at ha; cases ha
    | some p=>rw [e] at ha; exact ⟨p,rfl,Option.some.inj ha⟩
   have l2:(0 + 1 + 1 ≤ 1000) = True:=by simp
   have z1:(w.length ≤ 1000) = True:=by simp [hw]
   have z2:(p.1.length ≤ 1000) = True:=by simp [hn p.1 (h.nms p (List.mem_of_getElem? hp))]
   have z3:((("." : String):Str).length ≤ 1000) = True:=by simp only [eq_iff_iff,iff_true]; decide +kernel
   have z4:E9 [w,(("." : String):Str),p.1] = cl w p.1:=by rw [← JK]; congr 1
   refine ⟨[.fr (aB x L),.fr (.str w),.fr (.str p.1),.fr (nm p.2)],?_,.inl ⟨[.fr (aB x L),.fr (.str w),.fr (.str p.1),.fr (nm p.2)],.fr (prA (cl w p.1,p.2)),[.fr (aB x L),.fr (.str w),.fr (.str p.1),.fr (nm p.2)],prA (cl w p.1,p.2),[.fr (aB x L),.fr (.str w),.fr (.str p.1),.fr (nm p.2)],rfl,?_,rfl,.fr (.str p.1),.fr (nm p.2),?_,rfl,(fun q z=>by cases z),(fun q z=>by cases z)⟩⟩
   ·simp only [prA]
    cases x2 <;> first | exact absurd rfl (h2 _) | (cases x3 <;> first | exact absurd rfl (h3 _) | rfl)
   ·simp only [prA]
    clear ha hp h2 h3 h hn hw
    walk_at "evh"
   ·unfold cls
    rw [take_snoc hp,List.map_append,List.map_append]; rfl)
 rw [List.length_map,List.take_length] at hc
 have hl1:=h.len
 have k3:((L.map prA).length ≤ 100000) = True:=by simp only [eq_iff_iff,iff_true,List.length_map]; omega
 have l2:(0 + 1 + 1 ≤ 1000) = True:=by simp
 clear h hl hl1 hn hw
 unfold Val j6 nZ
 simp only [aB] at hc ⊢
 simp only [List.map_cons,List.map_nil]
 walk_at "evh"
 simp only [wQ,k3,if_true,List.replicate_succ,List.replicate_zero,List.cons_append,List.nil_append,List.append_nil]
 rw [hc]
 simp only [List.length_cons,List.length_nil,List.take_succ_cons,List.take_zero]
 exact ⟨_,rfl⟩
theorem Jj (i j:Str):eqA (.str i) (.str j) = some (decide (i = j)):=by
 unfold eqA
 simp only [toD]
 rw [if_pos (by simp [D.depth])]
 simp [D.eq,Bool.beq_eq_decide_eq]
theorem Ee (i:Int):Val j5 [.int i] (.bl true):=⟨[.fr (.int i)],rfl⟩
theorem v_is (x y:Num):Val gf [nm x,nm y] (.bl (decide (x = y))):=by
 have k1:=aP (Ee x.1)
 have k2:=aP (Ee x.2)
 have e:=xX x y
 have l2:decide (((0 + 1 + 1:Nat):Int) = 2) = true:=by decide
 unfold Val gf uO
 simp only [nm,List.map_cons,List.map_nil] at e k1 k2 ⊢
 walk_at "evh"
 exact ⟨_,rfl⟩
theorem tq {x:Num} {L:List Pr} (hl:L.length ≤ 900):Val dg [aB x L,aB x L] (.bl true):=by
 have hlz:(Cm (L.map prA) (L.map prA)).length = L.length:=by simp [Cm]
 obtain ⟨ρ1,hf,x2,x3,rfl,h2,h3⟩:=jy (G:=mr (gM 2 (aL (bB 2) (aL (bB 3) cC))) (gR 2 (aL (bB 2) (aL (bB 3) cC))))
  (b:=aY (sIf (mOr (jR (aK (mB1 (vi .tuple) (aj 2)))) (mOr (aK (mOp fNe (mB1 qJ (aj 2)) (mC (.int 2)))) (jR (aK (mB1 (vi .str) (mOp (fOr fIx aA) (aj 2) (mC (.int 0)))))))) (cK (mC (.bl false))) bZ)
 (sIf (mOr (aK (mOp fNe (mOp (fOr fIx aA) (aj 2) (mC (.int 0))) (mOp (fOr fIx aA) (aj 3) (mC (.int 0))))) (jR (aK (aC gf [] (ag (mOp (fOr fIx aA) (aj 2) (mC (.int 1))) (ag (mOp (fOr fIx aA) (aj 3) (mC (.int 1))) aD)))))) (cK (mC (.bl false))) bZ)) (as:=Cm (L.map prA) (L.map prA))
  (fun i ρ=>∃ x2 x3:Sl,ρ = [.fr (aB x L),.fr (aB x L),x2,x3] ∧ (∀ q,x2 ≠ Sl.pv q) ∧ (∀ q,x3 ≠ Sl.pv q))
  (ρ:=[.fr (aB x L),.fr (aB x L),.un,.un]) ⟨.un,.un,rfl,(fun q z=>by cases z),(fun q z=>by cases z)⟩ (by
   rintro i a ρ ha ⟨x2,x3,rfl,h2,h3⟩
   obtain ⟨p,rfl⟩:∃ p,a = .tup [prA p,prA p]:=by
    unfold Cm at ha
    rw [List.getElem?_map] at ha
    cases e:((L.map prA).zip (L.map prA))[i]? with
    | none=>rw [e] at ha; cases ha
    | some q =>
     rw [e] at ha
     cases ha
     obtain ⟨z1,z2⟩:=List.getElem?_zip_eq_some.mp e
     rw [z1] at z2
     have z3:q.1 = q.2:=Option.some.inj z2
     rw [List.getElem?_map] at z1
     cases e2:L[i]? with
     | none=>rw [e2] at z1; cases z1
     | some p =>
      rw [e2] at z1
      have z1:prA p = q.1:=Option.some.inj z1
      exact ⟨p,by show A.tup [q.1,q.2] = _; rw [← z3,← z1]⟩
   have k1:=aP (v_is p.2 p.2)
   rw [decide_eq_true (rfl:p.2 = p.2)] at k1
   have e1:eqA (.str p.1) (.str p.1) = some true:=by rw [Jj]; simp
   have l2:decide (((0 + 1 + 1:Nat):Int) = 2) = true:=by decide
   simp only [List.map_cons,List.map_nil] at k1
   refine ⟨[.fr (aB x L),.fr (aB x L),.fr (prA p),.fr (prA p)],[.fr (aB x L),.fr (aB x L),.fr (prA p),.fr (prA p)],?_,.inl ?_,.fr (prA p),.fr (prA p),rfl,(fun q z=>by cases z),(fun q z=>by cases z)⟩
   ·cases x2 <;> first | exact absurd rfl (h2 _) | (cases x3 <;> first | exact absurd rfl (h3 _) | rfl)
   ·simp only [prA]
    clear ha h2 h3
    walk_at "evh")
 have k1:=aP (v_is x x)
 rw [decide_eq_true (rfl:x = x)] at k1
 have l2:decide (((0 + 1 + 1:Nat):Int) = 2) = true:=by decide
 have l3:decide ((((L.map prA).length:Nat):Int) = (((L.map prA).length:Nat):Int)) = true:=by simp
 clear h2 h3 hlz
 unfold Val dg mD
 simp only [List.map_cons,List.map_nil,aB] at k1 hf ⊢
 walk_at "evh"
 exact ⟨_,rfl⟩
theorem Fm (L:List Pr):jX (L.map prA) = some (L.map fun p=>(Sum.inr p.1,nm p.2)):=by
 induction L with
 | nil=>rfl
 | cons p L ih=>rw [List.map_cons,List.map_cons,prA,jX,ih]; rfl
theorem wG:∀ (X acc:List (Key × A)),((acc ++ X).map (·.1)).Nodup → wY acc X = acc ++ X
 | [],acc,_=>by simp [wY]
 | (y,a) :: X,acc,h=>by
  have e:xn acc y a = acc ++ [(y,a)]:=by
   unfold xn
   rw [if_neg]
   rw [List.any_eq_true]
   rintro ⟨kv,h1,h2⟩
   rw [List.map_append,List.nodup_append] at h
   exact h.2.2 kv.1 (List.mem_map_of_mem h1) y (by simp) (of_decide_eq_true h2)
  show wY (xn acc y a) X = _
  rw [e,wG X (acc ++ [(y,a)]) (by simpa using h)]
  simp
theorem E6 {ks:List Str} (h:ks.Nodup):(ks.map (Sum.inr:Str → Key)).Nodup:=List.pairwise_map.mpr (h.imp fun n e=>n (Sum.inr.inj e))
theorem names_nodup {L:List Pr} (r:L.Pairwise (fun a b=>SLt a.1 b.1)):(L.map Prod.fst).Nodup:=List.pairwise_map.mpr (r.imp fun h=>h.2)
theorem EC {b l:Nat} {ss:List Str} {x:Num} {L:List Pr} (h:Sm b l ss x L) (hl:l ≤ 900):my (.tup (L.map prA)) = some (.nw (.dic (ax (L.map Prod.fst) fun n=>nm (tot L n)))):=by
 have hl1:=h.len
 have c:=se h.rise h.oks h.nz
 have e:(L.map fun p=>((Sum.inr p.1:Key),nm p.2)) = ax (L.map Prod.fst) fun n=>nm (tot L n):=by
  unfold ax
  rw [List.map_map]
  refine List.map_congr_left fun p hp=>?_
  show (Sum.inr p.1,nm p.2) = (Sum.inr p.1,nm (tot L p.1))
  rw [← ((c.mem p).mp hp).1]
 unfold my
 simp only
 rw [if_pos (by rw [List.length_map]; omega),Fm]
 simp only
 rw [wG _ [] (by rw [List.nil_append,e]; unfold ax; rw [List.map_map]; exact E6 (names_nodup h.rise)),List.nil_append,e]
theorem D2 {b l l':Nat} {ss:List Str} {x y f:Num} {L M:List Pr} (h:Sm b l ss x L) (k:Sm b l' ss y M) (hf:NB b f) (hb:6 * b + 9 ≤ 4000) (hl:l + l' ≤ 60) :
  ∃ N,Val c0 [aB x L,aB y M,nm f] (aB (fw x (dC y f)) N) ∧ Sm (6 * b + 9) (l + l') ss (fw x (dC y f)) N ∧ ∀ n,eN N n = eN L n + eN M n * nv f:=by
 have hl1:=h.len
 have hl2:=k.len
 let M':List Pr:=M.map fun p=>(p.1,dC p.2 f)
 let ps:List Pr:=L ++ M'
 have hpsl:ps.length = L.length + M.length:=by show (L ++ M').length = _; rw [List.length_append]; simp [M']
 have nb:∀ p ∈ ps,NB (2 * b + 1) p.2:=fun p hp=>by
  rcases List.mem_append.mp hp with z | z
  ·exact (h.nb p z).mono (by omega)
  ·obtain ⟨q,hq,rfl⟩:=List.mem_map.mp z
   exact ((k.nb q hq).mul hf).mono (by omega)
 have cn:∀ n,cnt ps n ≤ 2:=fun n=>by
  show cnt (L ++ M') n ≤ 2
  rw [DH,EE (fun p=>(p.1,dC p.2 f)) (fun _=>rfl)]
  have:=qd h.rise n
  have:=qd k.rise n
  omega
 have nbt:∀ i n,NB (4 * b + 5) (tot (ps.take i) n):=fun i n=>(Dn (fun p hp=>nb p (List.mem_of_mem_take hp)) n).mono (by
  have:=Nat.mul_le_mul_left (2 * b + 1 + 1) (Nat.le_trans (Cv ps i n) (cn n)); omega)
 have hat:∀ i p,M[i]? = some p → ps[L.length + i]? = some (p.1,dC p.2 f):=fun i p hp=>by
  show (L ++ M')[L.length + i]? = _
  rw [List.getElem?_append_right (by omega),Nat.add_sub_cancel_left]
  show (M.map fun p=>(p.1,dC p.2 f))[i]? = _
  rw [List.getElem?_map,hp]; rfl
 obtain ⟨ρ1,hfo,ks,x4,x5,rfl,nd,hk,kl,h4,h5⟩:=jy (G:=mr (gM 2 (aL (bB 4) (aL (bB 5) cC))) (gR 2 (aL (bB 4) (aL (bB 5) cC)))) (b:=rJ 3 (aj 4) (aC fO [] (ag (xk (aj 3) (aj 4) (dP (ag (mC (.int 0)) (ag (mC (.int 1)) aD)))) (ag (aC fS [] (ag (aS 5) (ag (aS 2) aD))) aD)))) (as:=M.map prA)
  (fun i ρ=>∃ (ks:List Str) (x4 x5:Sl),ρ = [.fr (aB x L),.fr (aB y M),.fr (nm f),.lv (.dic (ax ks fun n=>nm (tot (ps.take (L.length + i)) n))),x4,x5,.un] ∧ ks.Nodup ∧ (∀ n,n ∈ ks ↔ ∃ p ∈ ps.take (L.length + i),p.1 = n) ∧ ks.length ≤ L.length + i ∧ (∀ q,x4 ≠ Sl.pv q) ∧ (∀ q,x5 ≠ Sl.pv q))
  (ρ:=[.fr (aB x L),.fr (aB y M),.fr (nm f),.lv (.dic (ax (L.map Prod.fst) fun n=>nm (tot L n))),.un,.un,.un]) ⟨L.map Prod.fst,.un,.un,(by rw [Nat.add_zero]; show _ = _; rw [show ps.take L.length = L from List.take_left]),names_nodup h.rise,(fun n=>by rw [Nat.add_zero,show ps.take L.length = L from List.take_left,List.mem_map]),by simp,(fun q z=>by cases z),(fun q z=>by cases z)⟩ (by
   rintro i a ρ ha ⟨ks,x4,x5,rfl,nd,hk,kl,h4,h5⟩
   obtain ⟨p,hp,rfl⟩:∃ p,M[i]? = some p ∧ prA p = a:=by
    rw [List.getElem?_map] at ha
    cases e:M[i]? with
    | none=>rw [e] at ha; cases ha
    | some p=>rw [e] at ha; exact ⟨p,rfl,Option.some.inj ha⟩
   obtain ⟨n,y0⟩:=p
   have hpm:=List.mem_of_getElem? hp
   have nz:=k.nb _ hpm
   have nt:=nbt (L.length + i) n
   have li:i < M.length:=(List.getElem?_eq_some_iff.mp hp).1
   have hps:ps[L.length + i]? = some (n,dC y0 f):=hat i (n,y0) hp
   have et:ps.take (L.length + (i + 1)) = ps.take (L.length + i) ++ [(n,dC y0 f)]:=take_snoc hps
   have e1:tot (ps.take (L.length + (i + 1))) n = fw (tot (ps.take (L.length + i)) n) (dC y0 f):=by rw [et,jN,if_pos rfl]
   have e2:∀ m,m ≠ n → tot (ps.take (L.length + (i + 1))) m = tot (ps.take (L.length + i)) m:=fun m hm=>by rw [et,jN,if_neg (fun z=>hm z.symm)]
   have km:=aP (CP (n:=b) nz hf (by omega))
   have ka:=aP (CJ (n:=4 * b + 5) nt ((nz.mul hf).mono (by omega)) (by omega))
   simp only [List.map_cons,List.map_nil] at km ka
   have l2:(0 + 1 + 1 ≤ 1000) = True:=by simp
   have hg:=ft ks (fun n=>nm (tot (ps.take (L.length + i)) n)) n
   have hpt:=wj ks (fun n=>nm (tot (ps.take (L.length + i)) n)) n (nm (fw (tot (ps.take (L.length + i)) n) (dC y0 f)))
   have hd:ax (if n ∈ ks then ks else ks ++ [n]) (fun m=>if m = n then nm (fw (tot (ps.take (L.length + i)) n) (dC y0 f)) else nm (tot (ps.take (L.length + i)) m)) = ax (if n ∈ ks then ks else ks ++ [n]) (fun n=>nm (tot (ps.take (L.length + (i + 1))) n)):=qi fun m _=>by
    by_cases z:m = n
    ·subst z; rw [if_pos rfl,e1]
    ·rw [if_neg z,e2 m z]
   rw [hd] at hpt
   have hlen:((ax ks fun n=>nm (tot (ps.take (L.length + i)) n)).length ≤ 100000) = True:=by simp only [eq_iff_iff,iff_true,uU]; omega
   refine ⟨[.fr (aB x L),.fr (aB y M),.fr (nm f),.lv (.dic (ax ks fun n=>nm (tot (ps.take (L.length + i)) n))),.fr (.str n),.fr (nm y0),.un],[.fr (aB x L),.fr (aB y M),.fr (nm f),.lv (.dic (ax (if n ∈ ks then ks else ks ++ [n]) fun n=>nm (tot (ps.take (L.length + (i + 1))) n))),.fr (.str n),.fr (nm y0),.un],?_,.inl ?_,if n ∈ ks then ks else ks ++ [n],.fr (.str n),.fr (nm y0),rfl,?_,?_,?_,(fun q z=>by cases z),(fun q z=>by cases z)⟩
   ·simp only [prA]
    cases x4 <;> first | exact absurd rfl (h4 _) | (cases x5 <;> first | exact absurd rfl (h5 _) | rfl)
   ·by_cases z0:n ∈ ks
    ·rw [if_pos z0] at hg
     clear ha hk h4 h5 kl nd nt nz hpm hp e1 e2 hd nb cn nbt hat h k hf et hps
     walk_at "evh"
    ·rw [if_neg z0] at hg
     have et0:A.tup [.int 0,.int 1] = nm (tot (ps.take (L.length + i)) n):=by rw [v8 fun p hp e=>z0 ((hk n).mpr ⟨p,hp,e⟩)]; rfl
     clear ha hk h4 h5 kl nd nt nz hpm hp e1 e2 hd nb cn nbt hat h k hf et hps
     walk_at "evh"
   ·split
    ·exact nd
    ·rename_i z
     rw [List.nodup_append]
     exact ⟨nd,by simp,fun a ha b hb e=>by rw [List.mem_singleton.mp hb] at e; exact z (by rw [← e]; exact ha)⟩
   ·intro m
    rw [et]
    constructor
    ·intro hm
     by_cases c:n ∈ ks
     ·rw [if_pos c] at hm
      obtain ⟨p,h1,h2⟩:=(hk m).mp hm
      exact ⟨p,List.mem_append_left _ h1,h2⟩
     ·rw [if_neg c] at hm
      rcases List.mem_append.mp hm with z | z
      ·obtain ⟨p,h1,h2⟩:=(hk m).mp z
       exact ⟨p,List.mem_append_left _ h1,h2⟩
      ·exact ⟨(n,dC y0 f),by simp,(List.mem_singleton.mp z).symm⟩
    ·rintro ⟨p,h1,h2⟩
     rcases List.mem_append.mp h1 with z | z
     ·have:=(hk m).mpr ⟨p,z,h2⟩
      split
      ·exact this
      ·exact List.mem_append_left _ this
     ·rw [List.mem_singleton.mp z] at h2
      have h2:n = m:=h2
      subst h2
      split
      ·assumption
      ·simp
   ·split
    ·omega
    ·rw [List.length_append]; simp; omega)
 rw [List.length_map] at hk kl
 rw [List.length_map,show ps.take (L.length + M.length) = ps by rw [← hpsl,List.take_length]] at hfo
 rw [show ps.take (L.length + M.length) = ps by rw [← hpsl,List.take_length]] at hk
 obtain ⟨ys,ρ2,hc,x7,rfl,rfl,_⟩:=ki (G:=bB 7) (t:=aK (mOp fNe (mOp (fOr fIx aA) (aj 3) (aj 7)) (dP (ag (mC (.int 0)) (ag (mC (.int 1)) aD))))) (e:=dP (ag (aj 7) (ag (mOp (fOr fIx aA) (aj 3) (aj 7)) aD))) (as:=(bW ks).map A.str)
  (fun j acc ρ=>∃ x7:Sl,acc = (fh ps ((bW ks).take j)).map prA ∧ ρ = [.fr (aB x L),.fr (aB y M),.fr (nm f),.lv (.dic (ax ks fun n=>nm (tot ps n))),x4,x5,.un,x7] ∧ ∀ q,x7 ≠ Sl.pv q)
  (ρ:=[.fr (aB x L),.fr (aB y M),.fr (nm f),.lv (.dic (ax ks fun n=>nm (tot ps n))),x4,x5,.un,.un]) ⟨.un,rfl,rfl,fun q z=>by cases z⟩ (by
   rintro j a acc ρ ha ⟨x7,rfl,rfl,h7⟩
   obtain ⟨n,hn,rfl⟩:∃ n,(bW ks)[j]? = some n ∧ A.str n = a:=by
    rw [List.getElem?_map] at ha
    cases e:(bW ks)[j]? with
    | none=>rw [e] at ha; cases ha
    | some p=>rw [e] at ha; exact ⟨p,rfl,Option.some.inj ha⟩
   have hin:n ∈ ks:=(dN ks).mem_iff.mp (List.mem_of_getElem? hn)
   have hg:=ft ks (fun n=>nm (tot ps n)) n
   rw [if_pos hin] at hg
   have l2:(0 + 1 + 1 ≤ 1000) = True:=by simp
   have hq:eqA (nm (tot ps n)) (.tup [.int 0,.int 1]) = some (decide (tot ps n = (0,1))):=xX _ (0,1)
   have ec:fh ps ((bW ks).take (j + 1)) = fh ps ((bW ks).take j) ++ (if W.nz ps n = true then [(n,tot ps n)] else []):=by
    unfold fh
    rw [take_snoc hn,List.filter_append,List.map_append]
    by_cases c:W.nz ps n = true <;> simp [c]
   refine ⟨[.fr (aB x L),.fr (aB y M),.fr (nm f),.lv (.dic (ax ks fun n=>nm (tot ps n))),x4,x5,.un,.fr (.str n)],by cases x7 <;> first | rfl | exact absurd rfl (h7 _),?_⟩
   by_cases c:tot ps n = (0,1)
   ·right
    have d1:decide (tot ps n = (0,1)) = true:=decide_eq_true c
    refine ⟨[.fr (aB x L),.fr (aB y M),.fr (nm f),.lv (.dic (ax ks fun n=>nm (tot ps n))),x4,x5,.un,.fr (.str n)],?_,.fr (.str n),?_,rfl,fun q z=>by cases z⟩
    ·clear ha hin hn ec hfo hk h4 h5 h7 kl nd nb cn nbt hat h k hf c
     generalize tot ps n = tt at *
     walk_at "evh"
    ·rw [ec,if_neg (by unfold W.nz; rw [d1]; decide),List.append_nil]
   ·left
    have d1:decide (tot ps n = (0,1)) = false:=decide_eq_false c
    refine ⟨[.fr (aB x L),.fr (aB y M),.fr (nm f),.lv (.dic (ax ks fun n=>nm (tot ps n))),x4,x5,.un,.fr (.str n)],.fr (prA (n,tot ps n)),[.fr (aB x L),.fr (aB y M),.fr (nm f),.lv (.dic (ax ks fun n=>nm (tot ps n))),x4,x5,.un,.fr (.str n)],prA (n,tot ps n),[.fr (aB x L),.fr (aB y M),.fr (nm f),.lv (.dic (ax ks fun n=>nm (tot ps n))),x4,x5,.un,.fr (.str n)],?_,?_,rfl,.fr (.str n),?_,rfl,fun q z=>by cases z⟩
    ·clear ha hin hn ec hfo hk h4 h5 h7 kl nd nb cn nbt hat h k hf c
     walk_at "evh"
    ·simp only [prA]
     clear ha hin hn ec hfo hk h4 h5 h7 kl nd nb cn nbt hat h k hf c
     walk_at "evh"
    ·rw [ec,if_pos (by unfold W.nz; rw [d1]; decide),List.map_append]; rfl)
 have lks:(bW ks).length = ks.length:=(dN ks).length_eq
 have cl:(fh ps (bW ks)).length ≤ ps.length:=by
  unfold fh
  rw [List.length_map]
  have e1:=List.length_filter_le (W.nz ps) (bW ks)
  omega
 rw [List.length_map,List.take_length] at hc
 have hcan:=Bq (ps:=ps) nd hk
 obtain ⟨sm,er⟩:=Sm.of (b:=2 * b + 1) (b':=6 * b + 9) (c:=2) (l:=l + l') (ss:=ss) (x:=fw x (dC y f)) (((h.x.mono (show b ≤ 2 * b + 1 by omega)).add (k.x.mul hf)).mono (by omega)) nb cn (by omega) (by omega) (fun p hp=>by
  rcases List.mem_append.mp hp with z | z
  ·exact h.nms p z
  ·obtain ⟨q,hq,rfl⟩:=List.mem_map.mp z
   exact k.nms q hq) hcan cl
 refine ⟨fh ps (bW ks),?_,sm,fun n=>by rw [er,show ps = L ++ M' from rfl,pC,BN k.oks hf.ok]⟩
 have kd:=EC h (by omega)
 have km:=aP (CP (n:=b) k.x hf (by omega))
 have ka:=aP (CJ (n:=2 * b + 1) (h.x.mono (by omega)) ((k.x.mul hf).mono (by omega)) (by omega))
 have kdd:kY (.tup (L.map prA)) = none:=rfl
 have k1:(((bW ks).map A.str).length ≤ 100000) = True:=by simp only [eq_iff_iff,iff_true,List.length_map]; omega
 have k3:(ks.length < 64) = True:=by simp only [eq_iff_iff,iff_true]; omega
 have k4:(0 + 1 + 1 ≤ 1000) = True:=by simp
 have k8:uX (.dic (ax ks fun n=>nm (tot ps n))) = some (.nw (.lst (ks.map A.str))):=by
  unfold uX
  simp only [vO]
 have k9:zi (.dic (ax ks fun n=>nm (tot ps n))) = none:=rfl
 have k7:fG (.lst (ks.map A.str)) = some (.nw (.lst ((bW ks).map A.str))):=by
  unfold fG
  simp only [wd,k3,if_true]
 have k6:(((fh ps (bW ks)).map prA).length ≤ 100000) = True:=by simp only [eq_iff_iff,iff_true,List.length_map]; omega
 clear nb cn hb hl nd hk kl h4 h5 lks k3 cl nbt hat hcan sm er h k hf hpsl hl1 hl2
 generalize hps:tot ps = tps at *
 unfold Val c0 rZ
 simp only [List.map_cons,List.map_nil,aB] at kd km ka kdd hfo hc ⊢
 walk_at "evh"
 simp only [wQ,k1,if_true,List.replicate_succ,List.replicate_zero,List.cons_append,List.nil_append,List.append_nil]
 rw [hc]
 simp only [List.length_cons,List.length_nil,List.take_succ_cons,List.take_zero,k4]
 walk_at "evh"
 exact ⟨_,rfl⟩
theorem NB.Pn {b n:Nat} {x y:Num} (hx:NB b x) (hy:NB n y):NB (b + n + 1) (fw x y):=by
 have:=hx.nz
 exact NB.nrm (Int.mul_ne_zero hx.nz hy.nz) ((L2.Bd.add (hx.b1.mul hy.b2) ((hy.b1.mul hx.b2).mono (show n + b ≤ b + n by omega))).mono (by omega)) ((hx.b2.mul hy.b2).mono (by omega))
theorem NB.Mv {b n:Nat} {x y:Num} (hx:NB b x) (hy:NB n y):NB (b + n) (dC x y):=NB.nrm (Int.mul_ne_zero hx.nz hy.nz) (hx.b1.mul hy.b1) (hx.b2.mul hy.b2)
theorem Eb {b c l:Nat} {ss ks:List Str} {x:Num} {L:List Pr} {g:Str → Num} (h:Sm b l ss x L) (hk:∀ p ∈ L,p.1 ∈ ks) (hg:∀ n ∈ ks,NB c (g n)) (hb:b + l * (b + c + 1) ≤ 3000) (hc:c ≤ 3000) :
  ∃ v,Val gd [aB x L,.dic (ax ks fun n=>nm (g n))] (nm v) ∧ Ok v ∧ nv v = nv x + atR (fun n=>nv (g n)) L:=by
 obtain ⟨ρ1,hf,v,x3,x4,rfl,nbv,ev,_,_⟩:=jy (G:=mr (gM 2 (aL (bB 3) (aL (bB 4) cC))) (gR 2 (aL (bB 3) (aL (bB 4) cC))))
  (b:=bG 2 (aC fO [] (ag (aS 2) (ag (aC fS [] (ag (aS 4) (ag (mOp (fOr fIx aA) (aj 1) (aj 3)) aD))) aD)))) (as:=L.map prA)
  (fun i ρ=>∃ (v:Num) (x3 x4:Sl),ρ = [.fr (aB x L),.fr (.dic (ax ks fun n=>nm (g n))),.fr (nm v),x3,x4] ∧ NB (b + i * (b + c + 1)) v ∧ nv v = nv x + atR (fun n=>nv (g n)) (L.take i) ∧ (∀ q,x3 ≠ Sl.pv q) ∧ (∀ q,x4 ≠ Sl.pv q))
  (ρ:=[.fr (aB x L),.fr (.dic (ax ks fun n=>nm (g n))),.fr (nm x),.un,.un])
  ⟨x,.un,.un,rfl,by simpa using h.x,(by show nv x = nv x + 0; grind),(fun q z=>by cases z),(fun q z=>by cases z)⟩ (by
   rintro i a ρ ha ⟨v,x3,x4,rfl,nbv,ev,h3,h4⟩
   obtain ⟨p,hp,rfl⟩:∃ p,L[i]? = some p ∧ prA p = a:=by
    rw [List.getElem?_map] at ha
    cases e:L[i]? with
    | none=>rw [e] at ha; cases ha
    | some p=>rw [e] at ha; exact ⟨p,rfl,Option.some.inj ha⟩
   have hpm:=List.mem_of_getElem? hp
   have li:i < L.length:=(List.getElem?_eq_some_iff.mp hp).1
   have lm:=h.len
   have hin:p.1 ∈ ks:=hk p hpm
   have np:=h.nb p hpm
   have ng:=hg p.1 hin
   have hi8:b + i * (b + c + 1) + (b + c + 1) ≤ 3000:=by
    have:=Nat.mul_le_mul_right (b + c + 1) (show i + 1 ≤ l by omega)
    rw [Nat.add_mul] at this
    omega
   generalize hm:b + i * (b + c + 1) = m at nbv hi8
   have em:b + (i + 1) * (b + c + 1) = m + (b + c + 1):=by rw [← hm,Nat.add_mul]; omega
   have hgk:=ft ks (fun n=>nm (g n)) p.1
   rw [if_pos hin] at hgk
   have i1:fIx (.dic (ax ks fun n=>nm (g n))) (.str p.1) = none:=rfl
   have km:=aP (CP (n:=max b c) (np.mono (Nat.le_max_left _ _)) (ng.mono (Nat.le_max_right _ _)) (by omega))
   have ka:=aP (CJ (n:=max m (b + c)) (nbv.mono (Nat.le_max_left _ _)) ((np.Mv ng).mono (Nat.le_max_right _ _)) (by omega))
   simp only [List.map_cons,List.map_nil] at km ka
   refine ⟨[.fr (aB x L),.fr (.dic (ax ks fun n=>nm (g n))),.fr (nm v),.fr (.str p.1),.fr (nm p.2)],[.fr (aB x L),.fr (.dic (ax ks fun n=>nm (g n))),.fr (nm (fw v (dC p.2 (g p.1)))),.fr (.str p.1),.fr (nm p.2)],?_,.inl ?_,_,.fr (.str p.1),.fr (nm p.2),rfl,?_,?_,(fun q z=>by cases z),(fun q z=>by cases z)⟩
   ·simp only [prA]
    cases x3 <;> first | exact absurd rfl (h3 _) | (cases x4 <;> first | exact absurd rfl (h4 _) | rfl)
   ·clear ha h3 h4 ev em hm hi8 nbv hp hpm li lm hin np ng h hk hg
    walk_at "evh"
   ·rw [em]; exact (nbv.Pn (np.Mv ng)).mono (by omega)
   ·rw [wF nbv.ok (np.Mv ng).ok,Dw np.ok ng.ok,ev,take_snoc hp,Eh]
    show _ = nv x + (atR (fun n=>nv (g n)) (L.take i) + (nv p.2 * nv (g p.1) + 0))
    grind)
 rw [List.length_map,List.take_length] at ev
 refine ⟨v,?_,nbv.ok,ev⟩
 clear nbv ev h hk hg hb hc
 unfold Val gd nN
 simp only [aB] at hf ⊢
 walk_at "evh"
 exact ⟨_,rfl⟩
theorem yE {b c l:Nat} {ss ks:List Str} {x:Num} {L:List Pr} {g:Str → Num} (h:Sm b l ss x L) (hk:∃ p ∈ L,p.1 ∉ ks) (hg:∀ n ∈ ks,NB c (g n)) (hb:b + l * (b + c + 2) ≤ 8000) (hn:∀ p ∈ L,p.1.length ≤ 1000) :
  IE gQ [aB x L,.dic (ax ks fun n=>nm (g n))] "NoSum" := by
 obtain ⟨j,hj,hjn,hjp⟩:∃ j,∃ (hj:j < L.length),L[j].1 ∉ ks ∧ ∀ i (hi:i < j),(L[i]'(by omega)).1 ∈ ks:=by
  clear h hn
  induction L with
  | nil=>obtain ⟨p,hp,_⟩:=hk; cases hp
  | cons p L ih =>
   by_cases z:p.1 ∈ ks
   ·obtain ⟨q,hq,hqn⟩:=hk
    obtain ⟨j,hj,h1,h2⟩:=ih ⟨q,(List.mem_cons.mp hq).resolve_left (fun e=>hqn (by rw [e]; exact z)),hqn⟩
    refine ⟨j + 1,by simpa using hj,by simpa using h1,fun i hi=>?_⟩
    cases i with
    | zero=>exact z
    | succ i=>exact h2 i (by omega)
   ·exact ⟨0,by simp,z,fun i hi=>by omega⟩
 obtain ⟨ρ',hf⟩:=Jn (x := "NoSum") (G:=mr (gM 2 (aL (bB 4) (aL (bB 5) cC))) (gR 2 (aL (bB 4) (aL (bB 5) cC))))
  (b:=aY (sIf (aK (mOp (fOr (oH true) (jW true)) (aj 4) (aj 1))) (p7 "NoSum" (ag (mJs (mJ (mC (.str "the making lacks the name ")) (mJ (mFv (aj 4)) (i4 [])))) aD)) bZ)
 (aY (bG 6 (mOp (fOr fIx aA) (aj 1) (aj 4)))
 (aY (bG 2 (mOp fX (mOp fi (mOp fi (aj 2) (mOp (fOr fIx aA) (aj 5) (mC (.int 1)))) (mOp (fOr fIx aA) (aj 6) (mC (.int 1)))) (mOp fi (mOp fi (mOp (fOr fIx aA) (aj 5) (mC (.int 0))) (mOp (fOr fIx aA) (aj 6) (mC (.int 0)))) (aj 3))))
 (bG 3 (mOp fi (mOp fi (aj 3) (mOp (fOr fIx aA) (aj 5) (mC (.int 1)))) (mOp (fOr fIx aA) (aj 6) (mC (.int 1)))))))) (as:=L.map prA)
  (fun i ρ=>∃ (t d:Int) (x4 x5 x6:Sl),ρ = [.fr (aB x L),.fr (.dic (ax ks fun n=>nm (g n))),.fr (.int t),.fr (.int d),x4,x5,x6] ∧ L2.Bd (b + i * (b + c + 2)) t ∧ L2.Bd (b + i * (b + c + 2)) d ∧ (∀ q,x4 ≠ Sl.pv q) ∧ (∀ q,x5 ≠ Sl.pv q) ∧ (∀ q,x6 ≠ Sl.pv q))
  (ρ:=[.fr (aB x L),.fr (.dic (ax ks fun n=>nm (g n))),.fr (.int x.1),.fr (.int x.2),.un,.un,.un]) j
  ⟨x.1,x.2,.un,.un,.un,rfl,by simpa using h.x.b1,by simpa using h.x.b2,(fun q z=>by cases z),(fun q z=>by cases z),(fun q z=>by cases z)⟩ (by
   rintro i a ρ hij ha ⟨t,d,x4,x5,x6,rfl,b1,b2,h4,h5,h6⟩
   obtain ⟨p,hp,rfl⟩:∃ p,L[i]? = some p ∧ prA p = a:=by
    rw [List.getElem?_map] at ha
    cases e:L[i]? with
    | none=>rw [e] at ha; cases ha
    | some p=>rw [e] at ha; exact ⟨p,rfl,Option.some.inj ha⟩
   have hpm:=List.mem_of_getElem? hp
   have li:i < L.length:=(List.getElem?_eq_some_iff.mp hp).1
   have lm:=h.len
   have hin:p.1 ∈ ks:=by
    have:=hjp i hij
    rwa [(List.getElem?_eq_some_iff.mp hp).2] at this
   have np:=h.nb p hpm
   have ng:=hg p.1 hin
   have hi8:b + i * (b + c + 2) + (b + c + 2) ≤ 8000:=by
    have:=Nat.mul_le_mul_right (b + c + 2) (show i + 1 ≤ l by omega)
    rw [Nat.add_mul] at this
    omega
   generalize hm:b + i * (b + c + 2) = m at b1 b2 hi8
   have em:b + (i + 1) * (b + c + 2) = m + (b + c + 2):=by rw [← hm,Nat.add_mul]; omega
   have q1:L2.Bd (m + b) (t * p.2.2):=b1.mul np.b2
   have q2:L2.Bd (m + b + c) (t * p.2.2 * (g p.1).2):=q1.mul ng.b2
   have q3:L2.Bd (b + c) (p.2.1 * (g p.1).1):=np.b1.mul ng.b1
   have q4:L2.Bd (b + c + m) (p.2.1 * (g p.1).1 * d):=q3.mul b2
   have q5:L2.Bd (m + b) (d * p.2.2):=b2.mul np.b2
   have q6:L2.Bd (m + b + c) (d * p.2.2 * (g p.1).2):=q5.mul ng.b2
   have q7:L2.Bd (m + b + c + 1) (t * p.2.2 * (g p.1).2 + p.2.1 * (g p.1).1 * d):=(L2.Bd.add q2 (q4.mono (show b + c + m ≤ m + b + c by omega))).mono (by omega)
   have f1:=fits_of (n:=20000) b1 (by omega)
   have f2:=fits_of (n:=20000) b2 (by omega)
   have f3:=fits_of (n:=20000) np.b1 (by omega)
   have f4:=fits_of (n:=20000) np.b2 (by omega)
   have f5:=fits_of (n:=20000) ng.b1 (by omega)
   have f6:=fits_of (n:=20000) ng.b2 (by omega)
   have f7:=fits_of (n:=20000) q1 (by omega)
   have f8:=fits_of (n:=20000) q3 (by omega)
   have f9:=fits_of (n:=20000) q5 (by omega)
   have hgk:=ft ks (fun n=>nm (g n)) p.1
   rw [if_pos hin] at hgk
   refine ⟨[.fr (aB x L),.fr (.dic (ax ks fun n=>nm (g n))),.fr (.int t),.fr (.int d),.fr (.str p.1),.fr (nm p.2),x6],[.fr (aB x L),.fr (.dic (ax ks fun n=>nm (g n))),.fr (.int (t * p.2.2 * (g p.1).2 + p.2.1 * (g p.1).1 * d)),.fr (.int (d * p.2.2 * (g p.1).2)),.fr (.str p.1),.fr (nm p.2),.fr (nm (g p.1))],?_,.inl ?_,_,_,.fr (.str p.1),.fr (nm p.2),.fr (nm (g p.1)),rfl,?_,?_,(fun q z=>by cases z),(fun q z=>by cases z),(fun q z=>by cases z)⟩
   ·simp only [prA]
    cases x4 <;> first | exact absurd rfl (h4 _) | (cases x5 <;> first | exact absurd rfl (h5 _) | rfl)
   ·have s1:sIf (aK (mOp (fOr (oH true) (jW true)) (aj 4) (aj 1))) (p7 "NoSum" (ag (mJs (mJ (mC (.str "the making lacks the name ")) (mJ (mFv (aj 4)) (i4 [])))) aD)) bZ [.fr (aB x L),.fr (.dic (ax ks fun n=>nm (g n))),.fr (.int t),.fr (.int d),.fr (.str p.1),.fr (nm p.2),x6] = some (.nx,[.fr (aB x L),.fr (.dic (ax ks fun n=>nm (g n))),.fr (.int t),.fr (.int d),.fr (.str p.1),.fr (nm p.2),x6]):=by
     clear h6 h4 h5 q1 q2 q3 q4 q5 q6 q7 f1 f2 f3 f4 f5 f6 f7 f8 f9 em hm hi8 b1 b2
     have i1:oH true (.str p.1) (.dic (ax ks fun n=>nm (g n))) = none:=rfl
     have i2:jW true (.str p.1) (.dic (ax ks fun n=>nm (g n))) = some (.fr (.bl false)):=by
      unfold jW
      simp only [kq,hgk]
      rfl
     clear hgk
     walk_at "evh"
    have s2:bG 6 (mOp (fOr fIx aA) (aj 1) (aj 4)) [.fr (aB x L),.fr (.dic (ax ks fun n=>nm (g n))),.fr (.int t),.fr (.int d),.fr (.str p.1),.fr (nm p.2),x6] = some (.nx,[.fr (aB x L),.fr (.dic (ax ks fun n=>nm (g n))),.fr (.int t),.fr (.int d),.fr (.str p.1),.fr (nm p.2),.fr (nm (g p.1))]):=by
     have i1:fIx (.dic (ax ks fun n=>nm (g n))) (.str p.1) = none:=rfl
     clear h4 h5 q1 q2 q3 q4 q5 q6 q7 f1 f2 f3 f4 f5 f6 f7 f8 f9 em hm hi8 b1 b2 s1
     walk_at "ev"
     simp only [hgk]
     cases x6 <;> first | rfl | exact absurd rfl (h6 _)
    rw [gu,s1]
    simp only
    rw [gu,s2]
    simp only [nm]
    clear s1 s2 h6 h4 h5 q1 q2 q3 q4 q5 q6 q7 em hm hi8 b1 b2 ha hgk hp hpm li lm hin np ng h hk hg hjp hjn
    walk_at "evh"
   ·rw [em]; exact q7.mono (by omega)
   ·rw [em]; exact q6.mono (by omega))
  (by
   rintro ρ ⟨t,d,x4,x5,x6,rfl,b1,b2,h4,h5,h6⟩
   have hp:L[j]? = some L[j]:=by simp [hj]
   generalize L[j] = p at hp hjn
   have hgk:=ft ks (fun n=>nm (g n)) p.1
   rw [if_neg hjn] at hgk
   have z2:(p.1.length ≤ 1000) = True:=by simp [hn p (List.mem_of_getElem? hp)]
   have z3:((("the making lacks the name " : String):Str).length ≤ 1000) = True:=by simp only [eq_iff_iff,iff_true]; decide +kernel
   refine ⟨prA p,[.fr (aB x L),.fr (.dic (ax ks fun n=>nm (g n))),.fr (.int t),.fr (.int d),.fr (.str p.1),.fr (nm p.2),x6],[.fr (aB x L),.fr (.dic (ax ks fun n=>nm (g n))),.fr (.int t),.fr (.int d),.fr (.str p.1),.fr (nm p.2),x6],by rw [List.getElem?_map,hp]; rfl,?_,?_⟩
   ·simp only [prA]
    cases x4 <;> first | exact absurd rfl (h4 _) | (cases x5 <;> first | exact absurd rfl (h5 _) | rfl)
   ·have i1:oH true (.str p.1) (.dic (ax ks fun n=>nm (g n))) = none:=rfl
    have i2:jW true (.str p.1) (.dic (ax ks fun n=>nm (g n))) = some (.fr (.bl true)):=by
     unfold jW
     simp only [kq,hgk]
     rfl
    clear h4 h5 h6 b1 b2 h hk hg hb hn hjp hjn hp hgk
    walk_at "evh") (by simpa using hj)
 clear h hk hg hb hn hjn hjp hj
 unfold IE gQ tY
 simp only [aB] at hf ⊢
 have ex:nm x = .tup [.int x.1,.int x.2]:=rfl
 simp only [ex] at hf ⊢
 clear ex
 walk_at "evh"
 exact ⟨_,rfl⟩
theorem Ln {x v:Num} {L:List Pr} {d:A} (h:Val gQ [aB x L,d] (nm v)):Val hG [aB x L,d] (nm v):=by
 have k1:=aP h
 clear h
 unfold Val hG lQ
 simp only [List.map_cons,List.map_nil] at k1 ⊢
 walk_at "evh"
 exact ⟨_,rfl⟩
theorem Bf {x:Num} {L:List Pr} {d:A} (h:IE gQ [aB x L,d] "NoSum"):E2 hG [aB x L,d] (.lst [.bl true,.bl true]):=by
 have k1:=HX h
 have s1:Jw "NoSum" "NoSum" = true:=by unfold Jw; simp
 have s2:EN "NoSum" true "NoSum" = some true:=by unfold EN; simp
 have l2:(0 + 1 + 1 ≤ 1000) = True:=by simp
 clear h
 unfold E2 hG lQ
 simp only [List.map_cons,List.map_nil] at k1 ⊢
 walk_at "evh"
 exact ⟨_,rfl⟩
theorem CY (ks:List Str) (g:Str → A) (n:Str):(ax ks g).filter (fun kv=>decide (kv.1 ≠ Sum.inr n)) = ax (ks.filter fun m=>decide (m ≠ n)) g:=by
 unfold ax
 induction ks with
 | nil=>rfl
 | cons k ks ih =>
  rw [List.map_cons,List.filter_cons,List.filter_cons,ih]
  by_cases c:k = n
  ·subst c; simp
  ·have:(Sum.inr k:Key) ≠ Sum.inr n:=fun e=>c (Sum.inr.inj e)
   simp [c]
theorem J5 {b l:Nat} {ss:List Str} {x:Num} {L:List Pr} (h:Sm b l ss x L) (n:Str):jW false (.str n) (.dic (ax (L.map Prod.fst) fun n=>nm (tot L n))) = some (.fr (.bl (decide (n ∈ L.map Prod.fst)))):=by
 unfold jW
 simp only [kq]
 rw [ft]
 by_cases c:n ∈ L.map Prod.fst
 ·rw [if_pos c,decide_eq_true c]; rfl
 ·rw [if_neg c,decide_eq_false c]; rfl
theorem JO {b c l:Nat} {ss ks:List Str} {x:Num} {L:List Pr} {g:Str → Num} {n:Str} (h:Sm b l ss x L) (hk:∀ p ∈ L,p.1 ∈ ks) (hg:∀ n ∈ ks,NB c (g n)) (hn:n ∈ ks) (hb:b + l * (b + c + 2) ≤ 3000) (hc:c ≤ 3000) (hl:l ≤ 60) (hln:∀ p ∈ L,p.1.length ≤ 1000) :
  Val gc [aB x L,.dic (ax ks fun n=>nm (g n)),.str n] (.bl true):=by
 have hg2:∀ m ∈ ks.filter (fun m=>decide (m ≠ n)),NB c (g m):=fun m hm=>hg m (List.mem_filter.mp hm).1
 have hgk:=ft ks (fun n=>nm (g n)) n
 rw [if_pos hn] at hgk
 have hfd:=CY ks (fun n=>nm (g n)) n
 have kd:=EC h (by omega)
 have kdd:kY (.tup (L.map prA)) = none:=rfl
 have kin:=J5 h n
 have kl1:oH false (.str n) (.dic (ax (L.map Prod.fst) fun n=>nm (tot L n))) = none:=rfl
 have ke:kY (.dic (ax ks fun n=>nm (g n))) = some (.nw (.dic (ax ks fun n=>nm (g n)))):=rfl
 have hbl:b + l * (b + c + 1) ≤ 3000:=by have:=Nat.mul_le_mul_left l (show b + c + 1 ≤ b + c + 2 by omega); omega
 by_cases z:n ∈ L.map Prod.fst
 ·rw [decide_eq_true z] at kin
  obtain ⟨p,hp,hpn⟩:=List.mem_map.mp z
  have k1:=ED (Bf (yE h ⟨p,hp,fun hm=>by have:=(List.mem_filter.mp hm).2; simp [hpn] at this⟩ hg2 (by omega) hln))
  have eq:eqA (.lst [.bl true,.bl true]) (.lst [.bl true,.bl true]) = some true:=by rfl
  have l2:(0 + 1 + 1 ≤ 1000) = True:=by simp
  clear h hk hg hn hb hc hl hln hg2 z hp hpn hbl
  unfold Val gc j9
  simp only [List.map_cons,List.map_nil,aB] at k1 ⊢
  walk_at "evh"
  exact ⟨_,rfl⟩
 ·rw [decide_eq_false z] at kin
  have hk2:∀ p ∈ L,p.1 ∈ ks.filter (fun m=>decide (m ≠ n)):=fun p hp=>List.mem_filter.mpr ⟨hk p hp,by simp; exact fun e=>z (List.mem_map.mpr ⟨p,hp,e⟩)⟩
  obtain ⟨v1,h1,n1,e1⟩:=BB (ss:=L.map Prod.fst) (ks:=ks.filter fun m=>decide (m ≠ n)) (c:=c) (g:=g) ⟨h.x,h.rise,h.nb,h.nz,h.len,fun p hp=>List.mem_map_of_mem hp⟩ (fun m hm=>by obtain ⟨p,hp,rfl⟩:=List.mem_map.mp hm; exact hk2 p hp) hg2 (by omega) (fun m hm=>by obtain ⟨p,hp,rfl⟩:=List.mem_map.mp hm; exact hln p hp)
  obtain ⟨v2,h2,n2,e2⟩:=Eb h hk hg hbl hc
  have ev:v1 = v2:=xN n1.ok n2 (by rw [e1,e2])
  subst ev
  have k1:=aP (Ln h1)
  have k2:=aP h2
  have k3:=aP (v_is v1 v1)
  rw [decide_eq_true (rfl:v1 = v1)] at k3
  clear h hk hg hn hb hc hl hln hg2 z hbl hk2 h1 n1 e1 h2 n2 e2
  unfold Val gc j9
  simp only [List.map_cons,List.map_nil,aB] at k1 k2 k3 ⊢
  walk_at "evh"
  exact ⟨_,rfl⟩
theorem CZ {b:Nat} (h:1 ≤ b):NB b (1,1):=(⟨⟨by decide,by decide⟩,show (1:Int).natAbs < 2 ^ 1 by decide,show (1:Int).natAbs < 2 ^ 1 by decide⟩:NB 1 (1,1)).mono h
theorem Gi:nv (1,1) = 1:=by decide +kernel
theorem MI {b:Nat} (h:1 ≤ b) (ss:List Str):Sm b 0 ss (0,1) []:=⟨(NB.zero (n:=0)).mono h,.nil,(fun p hp=>by cases hp),(fun p hp=>by cases hp),Nat.le_refl _,(fun p hp=>by cases hp)⟩
theorem Ey {b l l':Nat} {ss:List Str} {x y f:Num} {L M:List Pr} {w:Str} (h:Sm b l ss x L) (k:Sm b l' ss y M) (hf:NB b f) (b1:1 ≤ b) (hb:6 * b + 9 ≤ 4000) (hl:l + l' ≤ 60) (hn:∀ n ∈ ss,n.length ≤ 900) (hw:w.length ≤ 50) :
  Val dF [aB x L,aB y M,nm f,.str w] (.bl true):=by
 obtain ⟨N1,vp,sp,ep⟩:=xm h k (by omega) hl
 obtain ⟨N1',vd1,sd1,ed1⟩:=D2 h k (CZ b1) hb hl
 obtain ⟨N2,vm,sm,em⟩:=Bj h k b1 (by omega) hl
 obtain ⟨N2',vd2,sd2,ed2⟩:=D2 h k (Hv b1) hb hl
 obtain ⟨N3,vt,st,et⟩:=vM h hf (by omega) (by omega)
 obtain ⟨N3',vd3,sd3,ed3⟩:=D2 (MI b1 ss) h hf hb (by omega)
 have q1:aB (fw x (dC y (1,1))) N1' = aB (fw x y) N1:=sd1.ext sp (by rw [wF h.x.ok (k.x.mul (CZ b1)).ok,Dw k.x.ok (CZ b1).ok,wF h.x.ok k.x.ok,Gi]; grind) (fun n=>by rw [ed1,ep,Gi]; grind)
 have q2:aB (fw x (dC y (-1,1))) N2' = aB (fw x (dC y (-1,1))) N2:=sd2.ext sm rfl (fun n=>by rw [ed2,em,K2]; grind)
 have q3:aB (fw (0,1) (dC x f)) N3' = aB (dC x f) N3:=sd3.ext st (by rw [wF Aa (h.x.mul hf).ok,wb]; grind) (fun n=>by rw [ed3,et]; show (0:Rat) + _ = _; grind)
 rw [q1] at vd1
 rw [q2] at vd2
 rw [q3] at vd3
 have hl1:=h.len
 have vc:=AK (w:=w) h (by omega) (fun n hm=>by have:=hn n hm; omega) (by omega)
 have a1:=aP vp
 have a2:∀ ρ,fE c0 [] [.fr (aB x L),.fr (aB y M),.fr (.tup [.int 1,.int 1])] ρ = some (.ok (.fr (aB (fw x y) N1)),ρ):=aP vd1
 have a3:=aP (tq (x:=fw x y) (L:=N1) (by have:=sp.len; omega))
 have a4:=aP vm
 have a5:∀ ρ,fE c0 [] [.fr (aB x L),.fr (aB y M),.fr (.tup [.int (-1),.int 1])] ρ = some (.ok (.fr (aB (fw x (dC y (-1,1))) N2)),ρ):=aP vd2
 have a6:=aP (tq (x:=fw x (dC y (-1,1))) (L:=N2) (by have:=sm.len; omega))
 have a7:=aP vt
 have a8:∀ ρ,fE c0 [] [.fr (.tup [.tup [.int 0,.int 1],.tup []]),.fr (aB x L),.fr (nm f)] ρ = some (.ok (.fr (aB (dC x f) N3)),ρ):=aP vd3
 have a9:=aP (tq (x:=dC x f) (L:=N3) (by have:=st.len; omega))
 have a10:=aP vc
 have hcl:(cls w L).length = L.length:=by unfold cls; rw [List.length_map]
 have a11:∀ ρ,fE dg [] [.fr (aB x (cls w L)),.fr (.tup [nm x,.tup ((cls w L).map prA)])] ρ = some (.ok (.fr (.bl true)),ρ):=aP (tq (x:=x) (L:=cls w L) (by omega))
 obtain ⟨ys,ρ2,hc,x4,x5,rfl,rfl,_,_⟩:=ki (G:=mr (gM 2 (aL (bB 4) (aL (bB 5) cC))) (gR 2 (aL (bB 4) (aL (bB 5) cC)))) (t:=rA) (e:=dP (ag (mOp fX (mOp fX (aj 3) (mC (.str "."))) (aj 4)) (ag (aj 5) aD))) (as:=L.map prA)
  (fun j acc ρ=>∃ x4 x5:Sl,acc = (cls w (L.take j)).map prA ∧ ρ = [.fr (aB x L),.fr (aB y M),.fr (nm f),.fr (.str w),x4,x5] ∧ (∀ q,x4 ≠ Sl.pv q) ∧ (∀ q,x5 ≠ Sl.pv q))
  (ρ:=[.fr (aB x L),.fr (aB y M),.fr (nm f),.fr (.str w),.un,.un]) ⟨.un,.un,rfl,rfl,(fun q z=>by cases z),(fun q z=>by cases z)⟩ (by
   rintro j a acc ρ ha ⟨x4,x5,rfl,rfl,h4,h5⟩
   obtain ⟨p,hp,rfl⟩:∃ p,L[j]? = some p ∧ prA p = a:=by
    rw [List.getElem?_map] at ha
    cases e:L[j]? with
    | none=>rw [e] at ha; cases ha
    | some p=>rw [e] at ha; exact ⟨p,rfl,Option.some.inj ha⟩
   have l2:(0 + 1 + 1 ≤ 1000) = True:=by simp
   have z3:(("." : String):Str).length = 1:=by decide +kernel
   have z5:((("." : String):Str)) = ⟨#[46]⟩:=by decide +kernel
   have z1:(w.length + (⟨#[46]⟩:Str).length ≤ 100000) = True:=by rw [← z5,z3]; simp only [eq_iff_iff,iff_true]; omega
   have z2:((w ++ ⟨#[46]⟩).length + p.1.length ≤ 100000) = True:=by
    have:=hn p.1 (h.nms p (List.mem_of_getElem? hp))
    have e:=qw w ⟨#[46]⟩
    have e2:(⟨#[46]⟩:Str).length = 1:=rfl
    simp only [eq_iff_iff,iff_true]; omega
   have z6:w ++ ⟨#[46]⟩ ++ p.1 = cl w p.1:=rfl
   refine ⟨[.fr (aB x L),.fr (aB y M),.fr (nm f),.fr (.str w),.fr (.str p.1),.fr (nm p.2)],?_,.inl ⟨[.fr (aB x L),.fr (aB y M),.fr (nm f),.fr (.str w),.fr (.str p.1),.fr (nm p.2)],.fr (prA (cl w p.1,p.2)),[.fr (aB x L),.fr (aB y M),.fr (nm f),.fr (.str w),.fr (.str p.1),.fr (nm p.2)],prA (cl w p.1,p.2),[.fr (aB x L),.fr (aB y M),.fr (nm f),.fr (.str w),.fr (.str p.1),.fr (nm p.2)],rfl,?_,rfl,.fr (.str p.1),.fr (nm p.2),?_,rfl,(fun q z=>by cases z),(fun q z=>by cases z)⟩⟩
   ·simp only [prA]
    cases x4 <;> first | exact absurd rfl (h4 _) | (cases x5 <;> first | exact absurd rfl (h5 _) | rfl)
   ·simp only [prA]
    clear ha hp h4 h5 h k hf hn hw z3 a1 a2 a3 a4 a5 a6 a7 a8 a9 a10 a11 sp ep sd1 ed1 sm em sd2 ed2 st et sd3 ed3 vp vd1 vm vd2 vt vd3 vc q1 q2 q3
    walk_at "evh"
   ·unfold cls
    rw [take_snoc hp,List.map_append,List.map_append]; rfl)
 rw [List.length_map,List.take_length] at hc
 have k3:((L.map prA).length ≤ 100000) = True:=by simp only [eq_iff_iff,iff_true,List.length_map]; omega
 have l0:(0 ≤ 1000) = True:=by simp
 have l2:(0 + 1 + 1 ≤ 1000) = True:=by simp
 clear h k hf b1 hb hl hn hw vp sp ep vd1 sd1 ed1 vm sm em vd2 sd2 ed2 vt st et vd3 sd3 ed3 q1 q2 q3 hl1 vc hcl
 unfold Val dF om
 simp only [List.map_cons,List.map_nil,aB] at a1 a2 a3 a4 a5 a6 a7 a8 a9 a10 a11 hc ⊢
 walk_at "evh"
 simp only [wQ,k3,if_true,List.replicate_succ,List.replicate_zero,List.cons_append,List.nil_append,List.append_nil]
 rw [hc]
 simp only [List.length_cons,List.length_nil,List.take_succ_cons,List.take_zero]
 walk_at "evh"
 exact ⟨_,rfl⟩
def st1:Ms:=(bG 2 (aC iw [] (ag (aS 0) (ag (aS 1) aD))))
def st2:Ms:=(bG 3 (aC iK [] (ag (aj 2) (ag (mOp fX (mC (.int 1)) (aC aF [] (ag (aj 2) (ag (mC (.int 6)) aD)))) aD))))
def st3:Ms:=(bG 4 (aC eU [] (ag (aj 2) (ag (aS 3) aD))))
def st4:Ms:=(bG 5 (aC eU [] (ag (aj 2) (ag (aS 3) aD))))
def st5:Ms:=(sIf (aK (mOp fEq (aC aF [] (ag (aj 2) (ag (mC (.int 4)) aD))) (mC (.int 0)))) (bG 5 (aC c0 [] (ag (aC eU [] (ag (aj 2) (ag (mFz (mSl (aj 3) js (qu (mC (.int 1))))) aD))) (ag (aS 4) (ag (dP (ag (mUn wI (mC (.int 1))) (ag (mC (.int 1)) aD))) aD))))) bZ)
def st6:Ms:=(bG 6 (mOp fi (mOp (fOr fIx aA) (mC (.str "abcdefghijklmnopqrstuvwxyz")) (aC aF [] (ag (aj 2) (ag (mC (.int 26)) aD)))) (mOp fX (mC (.int 1)) (aC aF [] (ag (aj 2) (ag (mC (.int 8)) aD))))))
def st7:Ms:=(bG 7 (xo "z.more" (dP (ag (mC (.int 1)) (ag (mC (.int 2)) aD)))))
def st8:Ms:=(vV (sH (aj 3)) (bB 8) (rJ 7 (aj 8) (aC bA [] (ag (aj 2) aD))))
def st9:Ms:=(bG 9 (mB1 (gOr kY my) (aj 7)))
def HZ:Ms:=(sIf (jR (aK (aC dF [] (ag (aS 4) (ag (aS 5) (ag (mOp (fOr fIx aA) (xt (ag (dP (ag (mC (.int 0)) (ag (mC (.int 1)) aD))) (ag (aC bA [] (ag (aj 2) aD)) aD))) (mB1 DC (mOp fGt (aC aF [] (ag (aj 2) (ag (mC (.int 4)) aD))) (mC (.int 0))))) (ag (aS 6) aD))))))) (cK (mC (.bl false))) bZ)
def IX:Ms:=(sIf (mOr (jR (aK (aC gf [] (ag (aC gQ [] (ag (aS 4) (ag (aS 9) aD))) (ag (aC gd [] (ag (aS 4) (ag (aS 7) aD))) aD))))) (aK (mOp (fOr fNe xH) (aj 9) (aj 7)))) (cK (mC (.bl false))) bZ)
def JB:Ms:=(sIf (jR (aK (aC gc [] (ag (aS 4) (ag (aS 7) (ag (mOp (fOr fIx aA) (aj 3) (aC aF [] (ag (aj 2) (ag (mB1 qJ (aj 3)) aD)))) aD)))))) (cK (mC (.bl false))) bZ)
def J3:Ms:=(sIf (jR (aK (aC dF [] (ag (aS 5) (ag (aS 4) (ag (dP (ag (mUn wI (mC (.int 1))) (ag (mC (.int 2)) aD))) (ag (aS 6) aD))))))) (cK (mC (.bl false))) bZ)
def bd:Ms:=(aY st1 (aY st2 (aY st3 (aY st4 (aY st5 (aY st6 (aY st7 (aY st8 (aY st9 (aY HZ (aY IX (aY JB J3))))))))))))
theorem Js (ss:List Str) (h:1 ≤ ss.length):Fg (ss.map A.str) none (some 1) = (ss.take 1).map A.str:=by
 have e:HT.sIx (ss.map A.str).length (ss.map A.str).length (some 1) = min 1 (ss.map A.str).length:=HT.HU _ _ 1
 unfold Fg
 rw [e,show HT.sIx (ss.map A.str).length 0 none = 0 from rfl,List.length_map,Nat.min_eq_left h,List.drop_zero,List.map_take]
theorem yY {kb:List (Key × A)} {g:Str → Num}:∀ (ks:List Str),(∀ n ∈ ks,qM kb (.inr n) = some (nm (g n))) → uc kb (ax ks fun n=>nm (g n)) = some true
 | [],_=>rfl
 | k :: ks,h=>by
  show uc kb ((Sum.inr k,nm (g k)) :: ax ks fun n=>nm (g n)) = some true
  unfold uc
  rw [h k (by simp)]
  simp only
  rw [xX,yY ks fun n hn=>h n (List.mem_cons_of_mem _ hn)]
  simp
theorem ne_self (ks:List Str) (g:Str → Num):xH (.dic (ax ks fun n=>nm (g n))) (.dic (ax ks fun n=>nm (g n))) = some (.fr (.bl false)):=by
 unfold xH
 simp only [J0]
 rw [yY ks fun n hn=>by rw [ft,if_pos hn]]
 simp
theorem Sm.sub {b l:Nat} {ss ss':List Str} {x:Num} {L:List Pr} (h:Sm b l ss x L) (k:∀ n ∈ ss,n ∈ ss'):Sm b l ss' x L:=⟨h.x,h.rise,h.nb,h.nz,h.len,fun p hp=>k _ (h.nms p hp)⟩
theorem Ig {b:Nat} (h:2 ≤ b):NB b (-1,2):=(⟨⟨by decide,by decide⟩,show (-1:Int).natAbs < 2 ^ 2 by decide,show (2:Int).natAbs < 2 ^ 2 by decide⟩:NB 2 (-1,2)).mono h
theorem Og {b:Nat} (h:2 ≤ b):NB b (1,2):=(⟨⟨by decide,by decide⟩,show (1:Int).natAbs < 2 ^ 2 by decide,show (2:Int).natAbs < 2 ^ 2 by decide⟩:NB 2 (1,2)).mono h
theorem F0 (sc:A) (k:Int) (ns:List Int) (hsc:sc = .lst (ns.map A.int)) (k0:0 ≤ k) (k1:k ≤ 1000) (x2 x3 x4 x5 x6 x7 x8 x9:Sl) (h2:∀ q,x2 ≠ Sl.pv q) (h3:∀ q,x3 ≠ Sl.pv q) (h4:∀ q,x4 ≠ Sl.pv q) (h5:∀ q,x5 ≠ Sl.pv q) (h6:∀ q,x6 ≠ Sl.pv q) (h7:∀ q,x7 ≠ Sl.pv q) (h8:∀ q,x8 ≠ Sl.pv q) (h9:∀ q,x9 ≠ Sl.pv q) :
  ∃ y2 y3 y4 y5 y6 y7 y8 y9:Sl,bd [.fr sc,.fr (.int k),x2,x3,x4,x5,x6,x7,x8,x9] = some (.nx,[.fr sc,.fr (.int k),y2,y3,y4,y5,y6,y7,y8,y9]) ∧ (∀ q,y2 ≠ Sl.pv q) ∧ (∀ q,y3 ≠ Sl.pv q) ∧ (∀ q,y4 ≠ Sl.pv q) ∧ (∀ q,y5 ≠ Sl.pv q) ∧ (∀ q,y6 ≠ Sl.pv q) ∧ (∀ q,y7 ≠ Sl.pv q) ∧ (∀ q,y8 ≠ Sl.pv q) ∧ (∀ q,y9 ≠ Sl.pv q):=by
 obtain ⟨o,vo,w0⟩:=LN ns k k0 k1
 have ko:=ED vo
 rw [← hsc] at ko
 have s1:st1 [.fr sc,.fr (.int k),x2,x3,x4,x5,x6,x7,x8,x9] = some (.nx,[.fr sc,.fr (.int k),.lv o,x3,x4,x5,x6,x7,x8,x9]):=by
  clear hsc h3 h4 h5 h6 h7 h8 h9 w0 vo
  simp only [List.map_cons,List.map_nil] at ko
  unfold st1
  cases x2 <;> first | exact absurd rfl (h2 _) | (clear h2; walk_at "evh")
 clear ko vo h2
 obtain ⟨r1,o1,c1,a1,b1,w1⟩:=tk2 6 w0 (by omega) (by decide) (by decide)
 obtain ⟨ss,o2,vn,nd,ln,lz,w2⟩:=J7 (m:=1 + r1) w1 (by omega) (by omega) (by omega)
 have c2:=cw2 vn rfl
 have s2:st2 [.fr sc,.fr (.int k),.lv o,x3,x4,x5,x6,x7,x8,x9] = some (.nx,[.fr sc,.fr (.int k),.lv o2,.lv (.lst (ss.map A.str)),x4,x5,x6,x7,x8,x9]):=by
  clear hsc h4 h5 h6 h7 h8 h9 w0 vn nd ln lz w2 w1 a1 b1 s1
  simp only [List.map_cons,List.map_nil] at c2
  unfold st2
  cases x3 <;> first | exact absurd rfl (h3 _) | (clear h3; walk_at "evh")
 clear c1 c2 vn h3
 have sl:ss.length ≤ 8:=by omega
 have sl1:1 ≤ ss.length:=by omega
 obtain ⟨x1,L1,o3,vs1,m1,w3⟩:=CL w2 (by omega) nd sl
 have c3:=cw2 vs1 rfl
 have s3:st3 [.fr sc,.fr (.int k),.lv o2,.lv (.lst (ss.map A.str)),x4,x5,x6,x7,x8,x9] = some (.nx,[.fr sc,.fr (.int k),.lv o3,.fr (.lst (ss.map A.str)),.fr (aB x1 L1),x5,x6,x7,x8,x9]):=by
  clear hsc h5 h6 h7 h8 h9 w0 nd ln lz w2 w1 a1 b1 s1 s2 vs1 m1 w3 sl sl1
  simp only [List.map_cons,List.map_nil] at c3
  unfold st3
  cases x4 <;> first | exact absurd rfl (h4 _) | (clear h4; walk_at "evh")
 clear c3 vs1 h4
 obtain ⟨x2',L2,o4,vs2,m2,w4⟩:=CL w3 (by omega) nd sl
 have c4:=cw2 vs2 rfl
 have s4:st4 [.fr sc,.fr (.int k),.lv o3,.fr (.lst (ss.map A.str)),.fr (aB x1 L1),x5,x6,x7,x8,x9] = some (.nx,[.fr sc,.fr (.int k),.lv o4,.fr (.lst (ss.map A.str)),.fr (aB x1 L1),.fr (aB x2' L2),x6,x7,x8,x9]):=by
  clear hsc h6 h7 h8 h9 w0 nd ln lz w2 w1 a1 b1 s1 s2 s3 vs2 m1 m2 w3 w4 sl sl1
  simp only [List.map_cons,List.map_nil] at c4
  unfold st4
  cases x5 <;> first | exact absurd rfl (h5 _) | (clear h5; walk_at "evh")
 clear c4 vs2 h5
 have m1':Sm 400 9 ss x1 L1:=m1.mono (by omega) (by omega)
 obtain ⟨y,M,o5,s5,mM,w5⟩:∃ (y:Num) (M:List Pr) (o5:LO),st5 [.fr sc,.fr (.int k),.lv o4,.fr (.lst (ss.map A.str)),.fr (aB x1 L1),.fr (aB x2' L2),x6,x7,x8,x9] = some (.nx,[.fr sc,.fr (.int k),.lv o5,.fr (.lst (ss.map A.str)),.fr (aB x1 L1),.fr (aB y M),x6,x7,x8,x9]) ∧ Sm 400 9 ss y M ∧ Wl 30000 o5:=by
  obtain ⟨r2,o6,c5,a2,b2,w6⟩:=tk2 4 w4 (by omega) (by decide) (by decide)
  by_cases hr:r2 = 0
  ·have d1:decide (r2 = 0) = true:=decide_eq_true hr
   obtain ⟨x3',L3,o7,vs3,m3,w7⟩:=CL (ss:=ss.take 1) w6 (by omega) (nd.sublist (List.take_sublist _ _)) (by rw [List.length_take]; omega)
   have m3':Sm 60 1 ss x3' L3:=(m3.mono (Nat.le_refl _) (by rw [List.length_take]; omega)).sub fun n hn=>List.mem_of_mem_take hn
   obtain ⟨N,vd,sd,_⟩:=D2 m3' (m1.mono (Nat.le_refl 60) sl) (Hv (by omega)) (by omega) (by omega)
   have c6:=cw2 vs3 rfl
   have kd:∀ ρ,fE c0 [] [.fr (aB x3' L3),.fr (aB x1 L1),.fr (.tup [.int (-1),.int 1])] ρ = some (.ok (.fr (aB (fw x3' (dC x1 (-1,1))) N)),ρ):=aP vd
   have ec:=Js ss sl1
   have l2:(0 + 1 + 1 ≤ 1000) = True:=by simp
   have es:fSl (.lst (ss.map A.str)) none (some 1) = some (.nw (.lst ((ss.take 1).map A.str))):=by
    unfold fSl
    simp only [ec]
   refine ⟨_,_,o7,?_,sd.mono (by omega) (by omega),w7.mono (by omega)⟩
   clear hsc h6 h7 h8 h9 w0 nd ln lz w2 w1 a1 b1 s1 s2 s3 s4 m1 m2 w3 w4 sl sl1 m1' a2 b2 w6 vs3 m3 w7 m3' vd sd ec hr
   simp only [List.map_cons,List.map_nil] at c6
   unfold st5
   walk_at "evh"
  ·have d1:decide (r2 = 0) = false:=decide_eq_false hr
   refine ⟨x2',L2,o6,?_,m2.mono (by omega) (by omega),w6.mono (by omega)⟩
   clear hsc h6 h7 h8 h9 w0 nd ln lz w2 w1 a1 b1 s1 s2 s3 s4 m1 m2 w3 w4 sl sl1 m1' a2 b2 w6 hr
   unfold st5
   walk_at "evh"
 clear m2 w4
 obtain ⟨w,o8,s6,hw,w8⟩:∃ (w:Str) (o8:LO),st6 [.fr sc,.fr (.int k),.lv o5,.fr (.lst (ss.map A.str)),.fr (aB x1 L1),.fr (aB y M),x6,x7,x8,x9] = some (.nx,[.fr sc,.fr (.int k),.lv o8,.fr (.lst (ss.map A.str)),.fr (aB x1 L1),.fr (aB y M),.fr (.str w),x7,x8,x9]) ∧ w.length ≤ 50 ∧ Wl 30002 o8:=by
  obtain ⟨r2,o6,c5,a2,b2,w6⟩:=tk2 26 w5 (by omega) (by decide) (by decide)
  obtain ⟨r3,o7,c6,a3,b3,w7⟩:=tk2 8 w6 (by omega) (by decide) (by decide)
  have h26:((("abcdefghijklmnopqrstuvwxyz" : String):Str).cps.toList.length:Int) = 26:=by decide +kernel
  obtain ⟨ch,hch⟩:=DA (z := "abcdefghijklmnopqrstuvwxyz") a2 (by omega)
  have hlen:((("abcdefghijklmnopqrstuvwxyz" : String):Str).length ≤ 100000) = True:=by simp only [eq_iff_iff,iff_true]; decide +kernel
  have hm:(1 ≤ 1 + r3 ∧ 1 + r3 ≤ 1000 ∧ (⟨#[ch]⟩:Str).length ≤ 1000) = True:=by
   simp only [eq_iff_iff,iff_true]
   exact ⟨by omega,by omega,by show (1:Nat) ≤ 1000; omega⟩
  refine ⟨Txt.mul ⟨#[ch]⟩ (1 + r3),o7,?_,?_,w7.mono (by omega)⟩
  ·clear hsc h7 h8 h9 w0 nd ln lz w2 w1 a1 b1 s1 s2 s3 s4 s5 m1 w3 sl sl1 m1' a2 b2 a3 b3 w6 w7 h26 mM w5
   unfold st6
   cases x6 <;> first | exact absurd rfl (h6 _) | (clear h6; walk_at "evh")
  ·have e:=PyProof.Rows.len_mul ⟨#[ch]⟩ (1 + r3)
   rw [show ((⟨#[ch]⟩:Str).length:Int) = 1 from rfl,if_neg (by simp; omega)] at e
   omega
 clear h6
 have s7:st7 [.fr sc,.fr (.int k),.lv o8,.fr (.lst (ss.map A.str)),.fr (aB x1 L1),.fr (aB y M),.fr (.str w),x7,x8,x9] = some (.nx,[.fr sc,.fr (.int k),.lv o8,.fr (.lst (ss.map A.str)),.fr (aB x1 L1),.fr (aB y M),.fr (.str w),.lv (.dic (ax ["z.more"] fun _=>nm (1,2))),x8,x9]):=by
  have l2:(0 + 1 + 1 ≤ 1000) = True:=by simp
  have ed:ax [(("z.more" : String):Str)] (fun _=>nm (1,2)) = [(.inr (("z.more" : String):Str),.tup [.int 1,.int 2])]:=rfl
  clear hsc h8 h9 w0 nd ln lz w2 w1 a1 b1 s1 s2 s3 s4 s5 s6 m1 w3 sl sl1 m1' mM w5 w8 hw
  unfold st7
  cases x7 <;> first | exact absurd rfl (h7 _) | (clear h7; walk_at "evh")
 obtain ⟨ρ1,hf,ks,g,o9,y8,rfl,nk,hk,kl,hg,w9,h8'⟩:=jy (G:=bB 8) (b:=rJ 7 (aj 8) (aC bA [] (ag (aj 2) aD))) (as:=ss.map A.str)
  (fun i ρ=>∃ (ks:List Str) (g:Str → Num) (o9:LO) (y8:Sl),ρ = [.fr sc,.fr (.int k),.lv o9,.fr (.lst (ss.map A.str)),.fr (aB x1 L1),.fr (aB y M),.fr (.str w),.lv (.dic (ax ks fun n=>nm (g n))),y8,x9] ∧ ks.Nodup ∧ (∀ n,n ∈ ks ↔ n = "z.more" ∨ n ∈ ss.take i) ∧ ks.length ≤ i + 1 ∧ (∀ n,NB 60 (g n)) ∧ Wl (40000 + 3 * i) o9 ∧ (∀ q,y8 ≠ Sl.pv q))
  (ρ:=[.fr sc,.fr (.int k),.lv o8,.fr (.lst (ss.map A.str)),.fr (aB x1 L1),.fr (aB y M),.fr (.str w),.lv (.dic (ax ["z.more"] fun _=>nm (1,2))),x8,x9])
  ⟨["z.more"],fun _=>(1,2),o8,x8,rfl,by simp,(fun n=>by simp),by simp,(fun n=>Og (by omega)),w8.mono (by omega),h8⟩ (by
   clear s1 s2 s3 s4 s5 s6 s7 h7 h8
   rintro i a ρ ha ⟨ks,g,o9,y8,rfl,nk,hk,kl,hg,w9,h8⟩
   obtain ⟨n,hm,rfl⟩:∃ m,ss[i]? = some m ∧ A.str m = a:=by
    rw [List.getElem?_map] at ha
    cases e:ss[i]? with
    | none=>rw [e] at ha; cases ha
    | some p=>rw [e] at ha; exact ⟨p,rfl,Option.some.inj ha⟩
   have li:i < ss.length:=(List.getElem?_eq_some_iff.mp hm).1
   obtain ⟨x,o10,c9,nx,w10⟩:=NI w9 (by omega)
   have hpt:=wj ks (fun m=>nm (g m)) n (nm x)
   have hd:ax (if n ∈ ks then ks else ks ++ [n]) (fun m=>if m = n then nm x else nm (g m)) = ax (if n ∈ ks then ks else ks ++ [n]) (fun m=>nm (if m = n then x else g m)):=qi fun m _=>by
    by_cases z:m = n
    ·rw [if_pos z,if_pos z]
    ·rw [if_neg z,if_neg z]
   rw [hd] at hpt
   have hlen:((ax ks fun m=>nm (g m)).length ≤ 100000) = True:=by simp only [eq_iff_iff,iff_true,uU]; omega
   refine ⟨[.fr sc,.fr (.int k),.lv o9,.fr (.lst (ss.map A.str)),.fr (aB x1 L1),.fr (aB y M),.fr (.str w),.lv (.dic (ax ks fun n=>nm (g n))),.fr (.str n),x9],[.fr sc,.fr (.int k),.lv o10,.fr (.lst (ss.map A.str)),.fr (aB x1 L1),.fr (aB y M),.fr (.str w),.lv (.dic (ax (if n ∈ ks then ks else ks ++ [n]) (fun m=>nm (if m = n then x else g m)))),.fr (.str n),x9],?_,.inl ?_,if n ∈ ks then ks else ks ++ [n],fun m=>if m = n then x else g m,o10,.fr (.str n),rfl,?_,?_,?_,?_,w10.mono (by omega),(fun q z=>by cases z)⟩
   ·cases y8 <;> first | rfl | exact absurd rfl (h8 _)
   ·clear ha hm h8 hd li hg nx w9 w10 nd hk nk kl hsc h9 w0 ln lz w2 w1 a1 b1 m1 w3 sl sl1 m1' mM w5 w8 hw
    walk_at "evh"
   ·split
    ·exact nk
    ·rename_i z
     rw [List.nodup_append]
     exact ⟨nk,by simp,fun a ha b hb e=>by rw [List.mem_singleton.mp hb] at e; exact z (by rw [← e]; exact ha)⟩
   ·intro m
    rw [take_snoc hm,List.mem_append,List.mem_singleton]
    constructor
    ·intro hmm
     by_cases c:n ∈ ks
     ·rw [if_pos c] at hmm
      rcases (hk m).mp hmm with z | z
      ·exact .inl z
      ·exact .inr (.inl z)
     ·rw [if_neg c] at hmm
      rcases List.mem_append.mp hmm with z | z
      ·rcases (hk m).mp z with z | z
       ·exact .inl z
       ·exact .inr (.inl z)
      ·exact .inr (.inr (List.mem_singleton.mp z))
    ·intro hmm
     have old:m ∈ ks → m ∈ (if n ∈ ks then ks else ks ++ [n]):=fun z=>by
      split
      ·exact z
      ·exact List.mem_append_left _ z
     rcases hmm with z | z | z
     ·exact old ((hk m).mpr (.inl z))
     ·exact old ((hk m).mpr (.inr z))
     ·subst z
      split
      ·assumption
      ·simp
   ·split
    ·omega
    ·rw [List.length_append]; simp; omega
   ·intro m
    show NB 60 (if m = n then x else g m)
    split
    ·exact nx
    ·exact hg m)
 rw [List.length_map] at w9 kl hk
 rw [List.take_length] at hk
 have s8:st8 [.fr sc,.fr (.int k),.lv o8,.fr (.lst (ss.map A.str)),.fr (aB x1 L1),.fr (aB y M),.fr (.str w),.lv (.dic (ax ["z.more"] fun _=>nm (1,2))),x8,x9] = some (.nx,[.fr sc,.fr (.int k),.lv o9,.fr (.lst (ss.map A.str)),.fr (aB x1 L1),.fr (aB y M),.fr (.str w),.lv (.dic (ax ks fun n=>nm (g n))),y8,x9]):=by
  rw [← hf]; rfl
 clear hf h8
 have s9:st9 [.fr sc,.fr (.int k),.lv o9,.fr (.lst (ss.map A.str)),.fr (aB x1 L1),.fr (aB y M),.fr (.str w),.lv (.dic (ax ks fun n=>nm (g n))),y8,x9] = some (.nx,[.fr sc,.fr (.int k),.lv o9,.fr (.lst (ss.map A.str)),.fr (aB x1 L1),.fr (aB y M),.fr (.str w),.lv (.dic (ax ks fun n=>nm (g n))),y8,.lv (.dic (ax ks fun n=>nm (g n)))]):=by
  have e1:kY (.dic (ax ks fun n=>nm (g n))) = some (.nw (.dic (ax ks fun n=>nm (g n)))):=rfl
  clear hsc h8' w0 nd ln lz w2 w1 a1 b1 s1 s2 s3 s4 s5 s6 s7 s8 m1 w3 sl sl1 m1' mM w5 w8 hw nk hk kl hg w9
  unfold st9
  cases x9 <;> first | exact absurd rfl (h9 _) | (clear h9; walk_at "evh")
 clear h9 h7
 have hlz:∀ n ∈ ss,n.length ≤ 900:=fun n hn=>by have:=lz n hn; have:=Nat.mul_le_mul_left 20 sl; omega
 have hL1:∀ p ∈ L1,p.1 ∈ ks:=fun p hp=>(hk _).mpr (.inr (m1.nms p hp))
 obtain ⟨o10,s10,w10⟩:∃ o10:LO,HZ [.fr sc,.fr (.int k),.lv o9,.fr (.lst (ss.map A.str)),.fr (aB x1 L1),.fr (aB y M),.fr (.str w),.lv (.dic (ax ks fun n=>nm (g n))),y8,.lv (.dic (ax ks fun n=>nm (g n)))] = some (.nx,[.fr sc,.fr (.int k),.lv o10,.fr (.lst (ss.map A.str)),.fr (aB x1 L1),.fr (aB y M),.fr (.str w),.lv (.dic (ax ks fun n=>nm (g n))),y8,.lv (.dic (ax ks fun n=>nm (g n)))]) ∧ Wl 50000 o10:=by
  obtain ⟨f,o6,c5,nf,w6⟩:=NI w9 (by omega)
  obtain ⟨r3,o7,c6,a3,b3,w7⟩:=tk2 4 w6 (by omega) (by decide) (by decide)
  obtain ⟨f',ht,nf'⟩:∃ f',atI [A.tup [A.int 0,A.int 1],nm f] (if decide (0 < r3) = true then 1 else 0) = some (nm f') ∧ NB 60 f':=by
   by_cases h:0 < r3
   ·exact ⟨f,by simp only [h,decide_true,if_true,DK],nf⟩
   ·exact ⟨(0,1),by simp only [h,decide_false,Bool.false_eq_true,if_false,Et]; rfl,(NB.zero (n:=0)).mono (by omega)⟩
  have kr:=aP (Ey (w:=w) m1' mM (nf'.mono (show 60 ≤ 400 by omega)) (by omega) (by omega) (by omega) hlz hw)
  have l2:(0 + 1 + 1 ≤ 1000) = True:=by simp
  refine ⟨o7,?_,w7.mono (by omega)⟩
  simp only [List.map_cons,List.map_nil] at kr
  clear hsc h8' w0 nd ln lz w2 w1 a1 b1 s1 s2 s3 s4 s5 s6 s7 s8 s9 m1 w3 sl sl1 m1' mM w5 w8 hw nk hk kl hg w9 hlz hL1 nf w6 a3 b3 w7 nf'
  unfold HZ
  walk_at "evh"
 have s11:IX [.fr sc,.fr (.int k),.lv o10,.fr (.lst (ss.map A.str)),.fr (aB x1 L1),.fr (aB y M),.fr (.str w),.lv (.dic (ax ks fun n=>nm (g n))),y8,.lv (.dic (ax ks fun n=>nm (g n)))] = some (.nx,[.fr sc,.fr (.int k),.lv o10,.fr (.lst (ss.map A.str)),.fr (aB x1 L1),.fr (aB y M),.fr (.str w),.fr (.dic (ax ks fun n=>nm (g n))),y8,.fr (.dic (ax ks fun n=>nm (g n)))]):=by
  obtain ⟨v1,h1,n1,e1⟩:=BB (c:=60) (g:=g) (ks:=ks) m1 (fun n hn=>(hk n).mpr (.inr hn)) (fun n _=>hg n) (by have:=Nat.mul_le_mul_right (60 + 60 + 2) sl; omega) (fun n hn=>by have:=hlz n hn; omega)
  obtain ⟨v2,h2,n2,e2⟩:=Eb (c:=60) (g:=g) (ks:=ks) m1 hL1 (fun n _=>hg n) (by have:=Nat.mul_le_mul_right (60 + 60 + 1) sl; omega) (by omega)
  have ev:v1 = v2:=xN n1.ok n2 (by rw [e1,e2])
  subst ev
  have c1:=aP h1
  have c2:=aP h2
  have c3:=aP (v_is v1 v1)
  rw [decide_eq_true (rfl:v1 = v1)] at c3
  have e3:=ne_self ks g
  have e4:eqA (.dic (ax ks fun n=>nm (g n))) (.dic (ax ks fun n=>nm (g n))) = none:=by
   unfold eqA
   simp only [toD]
  simp only [List.map_cons,List.map_nil] at c1 c2 c3
  clear hsc h8' w0 nd ln lz w2 w1 a1 b1 s1 s2 s3 s4 s5 s6 s7 s8 s9 s10 m1 w3 sl sl1 m1' mM w5 w8 hw nk hk kl hg w9 hlz hL1 w10 h1 n1 e1 h2 n2 e2
  unfold IX
  generalize hD:A.dic (ax ks fun n=>nm (g n)) = D at *
  have hLO:LO.a (.dic (ax ks fun n=>nm (g n))) = D:=hD
  walk_at "evh"
 obtain ⟨o11,s12,w11⟩:∃ o11:LO,JB [.fr sc,.fr (.int k),.lv o10,.fr (.lst (ss.map A.str)),.fr (aB x1 L1),.fr (aB y M),.fr (.str w),.fr (.dic (ax ks fun n=>nm (g n))),y8,.fr (.dic (ax ks fun n=>nm (g n)))] = some (.nx,[.fr sc,.fr (.int k),.lv o11,.fr (.lst (ss.map A.str)),.fr (aB x1 L1),.fr (aB y M),.fr (.str w),.fr (.dic (ax ks fun n=>nm (g n))),y8,.fr (.dic (ax ks fun n=>nm (g n)))]) ∧ Wl 50001 o11:=by
  obtain ⟨r3,o7,c6,a3,b3,w7⟩:=tk2 ((ss.map A.str).length:Int) w10 (by omega) (by rw [List.length_map]; omega) (by rw [List.length_map]; omega)
  rw [List.length_map] at b3
  obtain ⟨j,rfl⟩:∃ j:Nat,r3 = j:=⟨r3.toNat,by omega⟩
  have hj:j < ss.length:=by omega
  have ha:atI (ss.map A.str) (j:Int) = some (.str ss[j]):=AU (by rw [List.getElem?_map,List.getElem?_eq_getElem hj]; rfl)
  have kl2:=aP (JO (c:=60) (g:=g) (ks:=ks) (n:=ss[j]) m1 hL1 (fun n _=>hg n) ((hk _).mpr (.inr (List.getElem_mem hj))) (by have:=Nat.mul_le_mul_right (60 + 60 + 2) sl; omega) (by omega) (by omega) (fun p hp=>by have:=hlz _ (m1.nms p hp); omega))
  refine ⟨o7,?_,w7.mono (by omega)⟩
  simp only [List.map_cons,List.map_nil] at kl2
  clear hsc h8' w0 nd ln lz w2 w1 a1 b1 s1 s2 s3 s4 s5 s6 s7 s8 s9 s10 s11 m1 w3 sl sl1 m1' mM w5 w8 hw nk hk kl hg w9 hlz hL1 w10 a3 b3 w7
  unfold JB
  walk_at "evh"
 have s13:J3 [.fr sc,.fr (.int k),.lv o11,.fr (.lst (ss.map A.str)),.fr (aB x1 L1),.fr (aB y M),.fr (.str w),.fr (.dic (ax ks fun n=>nm (g n))),y8,.fr (.dic (ax ks fun n=>nm (g n)))] = some (.nx,[.fr sc,.fr (.int k),.lv o11,.fr (.lst (ss.map A.str)),.fr (aB x1 L1),.fr (aB y M),.fr (.str w),.fr (.dic (ax ks fun n=>nm (g n))),y8,.fr (.dic (ax ks fun n=>nm (g n)))]):=by
  have kr:∀ ρ,fE dF [] [.fr (aB y M),.fr (aB x1 L1),.fr (.tup [.int (-1),.int 2]),.fr (.str w)] ρ = some (.ok (.fr (.bl true)),ρ):=aP (Ey (w:=w) mM m1' (Ig (by omega)) (by omega) (by omega) (by omega) hlz hw)
  have l2:(0 + 1 + 1 ≤ 1000) = True:=by simp
  clear hsc h8' w0 nd ln lz w2 w1 a1 b1 s1 s2 s3 s4 s5 s6 s7 s8 s9 s10 s11 s12 m1 w3 sl sl1 m1' mM w5 w8 hw nk hk kl hg w9 hlz hL1 w10 w11
  unfold J3
  walk_at "evh"
 refine ⟨.lv o11,.fr (.lst (ss.map A.str)),.fr (aB x1 L1),.fr (aB y M),.fr (.str w),.fr (.dic (ax ks fun n=>nm (g n))),y8,.fr (.dic (ax ks fun n=>nm (g n))),?_,(fun q z=>by cases z),(fun q z=>by cases z),(fun q z=>by cases z),(fun q z=>by cases z),(fun q z=>by cases z),(fun q z=>by cases z),h8',(fun q z=>by cases z)⟩
 unfold bd
 rw [gu,s1]; simp only
 rw [gu,s2]; simp only
 rw [gu,s3]; simp only
 rw [gu,s4]; simp only
 rw [gu,s5]; simp only
 rw [gu,s6]; simp only
 rw [gu,s7]; simp only
 rw [gu,s8]; simp only
 rw [gu,s9]; simp only
 rw [gu,s10]; simp only
 rw [gu,s11]; simp only
 rw [gu,s12]; simp only
 rw [s13]
theorem law_true:∀ ns:List Int,ns.length ≤ 63 → ∃ ρ,HH [.fr (.lst (ns.map A.int))] = some (.rt (.fr (.bl true)),ρ):=by
 intro ns hns
 generalize hsc:A.lst (ns.map A.int) = sc
 let top:Int:=if (if (24:Int) < ((ns.map A.int).length:Int) then 24 else ((ns.map A.int).length:Int)) > 1 then (if (24:Int) < ((ns.map A.int).length:Int) then 24 else ((ns.map A.int).length:Int)) else 1
 have ht:top ≤ 100 ∧ 1 ≤ top:=by
  show (if (if (24:Int) < ((ns.map A.int).length:Int) then 24 else ((ns.map A.int).length:Int)) > 1 then (if (24:Int) < ((ns.map A.int).length:Int) then 24 else ((ns.map A.int).length:Int)) else 1) ≤ 100 ∧ 1 ≤ (if (if (24:Int) < ((ns.map A.int).length:Int) then 24 else ((ns.map A.int).length:Int)) > 1 then (if (24:Int) < ((ns.map A.int).length:Int) then 24 else ((ns.map A.int).length:Int)) else 1)
  rw [List.length_map]
  constructor <;> (repeat' split) <;> omega
 obtain ⟨ρ',hf,x1,x2,x3,x4,x5,x6,x7,x8,x9,rfl,_⟩:=jy (G:=bB 1) (b:=bd) (as:=tR 0 top.toNat)
  (fun i ρ=>∃ x1 x2 x3 x4 x5 x6 x7 x8 x9:Sl,ρ = [.fr sc,x1,x2,x3,x4,x5,x6,x7,x8,x9] ∧ (∀ q,x1 ≠ Sl.pv q) ∧ (∀ q,x2 ≠ Sl.pv q) ∧ (∀ q,x3 ≠ Sl.pv q) ∧ (∀ q,x4 ≠ Sl.pv q) ∧ (∀ q,x5 ≠ Sl.pv q) ∧ (∀ q,x6 ≠ Sl.pv q) ∧ (∀ q,x7 ≠ Sl.pv q) ∧ (∀ q,x8 ≠ Sl.pv q) ∧ (∀ q,x9 ≠ Sl.pv q))
  (ρ:=[.fr sc,.un,.un,.un,.un,.un,.un,.un,.un,.un]) ⟨.un,.un,.un,.un,.un,.un,.un,.un,.un,rfl,(fun q z=>by cases z),(fun q z=>by cases z),(fun q z=>by cases z),(fun q z=>by cases z),(fun q z=>by cases z),(fun q z=>by cases z),(fun q z=>by cases z),(fun q z=>by cases z),(fun q z=>by cases z)⟩ (by
   rintro i a ρ ha ⟨x1,x2,x3,x4,x5,x6,x7,x8,x9,rfl,h1,h2,h3,h4,h5,h6,h7,h8,h9⟩
   have hi:i < top.toNat:=by
    have:=(List.getElem?_eq_some_iff.mp ha).1
    simp [tR] at this
    omega
   obtain rfl:a = .int i:=by
    unfold tR at ha
    rw [List.getElem?_map,List.getElem?_range hi] at ha
    simp at ha
    exact ha.symm
   obtain ⟨y2,y3,y4,y5,y6,y7,y8,y9,e,g2,g3,g4,g5,g6,g7,g8,g9⟩:=F0 sc i ns hsc.symm (by omega) (by omega) x2 x3 x4 x5 x6 x7 x8 x9 h2 h3 h4 h5 h6 h7 h8 h9
   exact ⟨[.fr sc,.fr (.int i),x2,x3,x4,x5,x6,x7,x8,x9],_,by cases x1 <;> first | rfl | exact absurd rfl (h1 _),.inl e,.fr (.int i),y2,y3,y4,y5,y6,y7,y8,y9,rfl,(fun q z=>by cases z),g2,g3,g4,g5,g6,g7,g8,g9⟩)
 have q2:(-(2 ^ 60) ≤ top ∧ top < 2 ^ 60) = True:=by simp only [eq_iff_iff,iff_true]; omega
 subst hsc
 clear ht
 unfold HH G0
 unfold bd st1 st2 st3 st4 st5 st6 st7 st8 st9 HZ IX JB J3 at hf
 simp only [top] at q2 hf
 walk_at "evh"
 exact ⟨_,rfl⟩
end W
set_option maxHeartbeats 4000000
namespace W
open PySem L2
def chk (K:PySem.W.Frag):Bool :=
 (PySem.W.nsIn K mainGlobals "FitError" == some (some (.ref (gA K "FitError")))) &&
 (PySem.W.nsIn K mainGlobals "NoSum" == some (some (.ref (gA K "NoSum")))) &&
 (PySem.W.nsIn K mainGlobals "ZERO" == some (some (.ref (gA K "ZERO")))) &&
 (PySem.W.nsIn K mainGlobals "MINUS_ONE" == some (some (.ref (gA K "MINUS_ONE")))) &&
 (PySem.W.nsIn K mainGlobals "len" == some none) &&
 (PySem.W.nsIn K mainGlobals "isinstance" == some none) &&
 (PySem.W.nsIn K mainGlobals "abs" == some none) &&
 (PySem.W.nsIn K mainGlobals "max" == some none) &&
 (PySem.W.nsIn K mainGlobals "min" == some none) &&
 (PySem.W.nsIn K mainGlobals "int" == some none) &&
 (PySem.W.nsIn K mainGlobals "bool" == some none) &&
 (PySem.W.nsIn K mainGlobals "str" == some none) &&
 (PySem.W.nsIn K mainGlobals "tuple" == some none) &&
 (PySem.W.nsIn K mainGlobals "list" == some none) &&
 (PySem.W.nsIn K mainGlobals "dict" == some none) &&
 (PySem.W.nsIn K mainGlobals "range" == some none) &&
 (PySem.W.nsIn K mainGlobals "ValueError" == some none) &&
 (PySem.W.nsIn K mainGlobals "sorted" == some none) &&
 (PySem.W.nsIn K mainGlobals "zip" == some none) &&
 AW K (gA K "ZERO") (0) (1) &&
 AW K (gA K "MINUS_ONE") (-1) (1) &&
 (PySem.W.excIn K (gA K "NoSum") D3 "ValueError.__new__" == true) &&
 (PySem.W.findIn K (.ref (gA K "NoSum")) "__getattribute__" == some (some (.builtin "BaseException.__getattribute__"))) &&
 (PySem.W.findIn K (.ref (gA K "NoSum")) "__getattr__" == some none) &&
 (PySem.W.findIn K (.ref (gA K "NoSum")) "__class__" == some (some (.builtin "object.__class__"))) &&
 (PySem.W.specialIn K (.builtin "object.__class__") "__get__" == some (some (.builtin "getset_descriptor.__get__"))) &&
 (PySem.W.takesIn K (.builtin "object.__class__") == some true) &&
 (PySem.W.mroIn K (gA K "NoSum") (.type "object") == some true) &&
 (PySem.W.mroIn K (gA K "NoSum") (.type "BaseException") == some true) &&
 (PySem.W.kitOne K (.ref (gA K "NoSum")) (.type "ValueError") == some true) &&
 (PySem.W.exmOne K (.ref (gA K "NoSum")) (.ref (gA K "FitError")) == some true)
def dsL:List (Str × Stmt):=[("common_divisor",di),("lowest_terms",dq),("plus",uI),("times",qx),("sum_of",dI),("sum_plus",hB),("sum_minus",eJ),("sum_times",dA),("sum_at",eZ),("sum_called",eV),("_law_well",dE),("_law_take",eG),("_law_common",fg),("_law_num",gZ),("_law_add",jj),("_law_mul",jk),("_law_number",dJ),("_law_whole",eM),("_law_is",gk),("_law_name",cp),("_law_names",cf),("_law_is_sum",bL),("_law_sum",cX),("_law_due",bM),("_law_value",cJ),("_law_told",cq),("_law_lacks",bS),("_law_right",bD),("law",du)]
theorem Nb {K:PySem.W.Frag} {h:Heap} {mg:Str → Option Value} (X:K.In h) (G:h.Ns mainGlobals mg) (e:hkO dsL chk K = hkV dsL) :
  ∃ a:Adr,Txt K mg a ∧ mg "law" = some (.ref a.yK) ∧ ∀ (s:Shared) (v:Value),BindsTo s a.vF ⟨[v],[]⟩ [("_law_script",v)]:=by
 obtain ⟨e1,e2⟩:=Prod.mk.inj e
 simp only [dsL,List.map_cons,List.map_nil,List.cons.injEq,and_true] at e1
 obtain ⟨h_common_divisor,h_lowest_terms,h_plus,h_times,h_sum_of,h_sum_plus,h_sum_minus,h_sum_times,h_sum_at,h_sum_called,h__law_well,h__law_take,h__law_common,h__law_num,h__law_add,h__law_mul,h__law_number,h__law_whole,h__law_is,h__law_name,h__law_names,h__law_is_sum,h__law_sum,h__law_due,h__law_value,h__law_told,h__law_lacks,h__law_right,h_law⟩:=e1
 simp only [chk,Bool.and_eq_true,beq_iff_eq] at e2
 obtain ⟨⟨⟨⟨⟨⟨⟨⟨⟨⟨⟨⟨⟨⟨⟨⟨⟨⟨⟨⟨⟨⟨⟨⟨⟨⟨⟨⟨⟨⟨q0,q1⟩,q2⟩,q3⟩,q4⟩,q5⟩,q6⟩,q7⟩,q8⟩,q9⟩,q10⟩,q11⟩,q12⟩,q13⟩,q14⟩,q15⟩,q16⟩,q17⟩,q18⟩,q19⟩,q20⟩,q21⟩,q22⟩,q23⟩,q24⟩,q25⟩,q26⟩,q27⟩,q28⟩,q29⟩,q30⟩:=e2
 obtain ⟨u9,dk,jh⟩:=bz h_common_divisor
 have u3:=jh.binds (ps:=["a", "b"]) fun _ _ _ _ _ _ us hl=>match us,hl with | [_,_],_=>rfl
 obtain ⟨wU,eB,kD⟩:=bz h_lowest_terms
 have xS:=kD.binds (ps:=["top", "bottom"]) fun _ _ _ _ _ _ us hl=>match us,hl with | [_,_],_=>rfl
 obtain ⟨L6,vz,CO⟩:=bz h_plus
 have Mz:=CO.binds (ps:=["a", "b"]) fun _ _ _ _ _ _ us hl=>match us,hl with | [_,_],_=>rfl
 obtain ⟨JZ,qE,Ah⟩:=bz h_times
 have Je:=Ah.binds (ps:=["a", "b"]) fun _ _ _ _ _ _ us hl=>match us,hl with | [_,_],_=>rfl
 obtain ⟨Gy,mL,wt⟩:=bz h_sum_of
 have He:=wt.binds (ps:=["number", "pairs"]) fun _ _ _ _ _ _ us hl=>match us,hl with | [_,_],_=>rfl
 obtain ⟨Dt,jm,sh⟩:=bz h_sum_plus
 have CA:=sh.binds (ps:=["a", "b"]) fun _ _ _ _ _ _ us hl=>match us,hl with | [_,_],_=>rfl
 obtain ⟨Cu,il,p6⟩:=bz h_sum_minus
 have Ce:=p6.binds (ps:=["a", "b"]) fun _ _ _ _ _ _ us hl=>match us,hl with | [_,_],_=>rfl
 obtain ⟨Br,ik,qh⟩:=bz h_sum_times
 have Cg:=qh.binds (ps:=["a", "number"]) fun _ _ _ _ _ _ us hl=>match us,hl with | [_,_],_=>rfl
 obtain ⟨GW,m8,xD⟩:=bz h_sum_at
 have HI:=xD.binds (ps:=["a", "making"]) fun _ _ _ _ _ _ us hl=>match us,hl with | [_,_],_=>rfl
 obtain ⟨zD,gr,nI⟩:=bz h_sum_called
 have zR:=nI.binds (ps:=["a", "word"]) fun _ _ _ _ _ _ us hl=>match us,hl with | [_,_],_=>rfl
 obtain ⟨Ct,ib,pj⟩:=bz h__law_well
 have BU:=pj.binds (ps:=["_law_script", "_law_k"]) fun _ _ _ _ _ _ us hl=>match us,hl with | [_,_],_=>rfl
 obtain ⟨BZ,hY,pH⟩:=bz h__law_take
 have BO:=pH.binds (ps:=["_law_well_here", "_law_many"]) fun _ _ _ _ _ _ us hl=>match us,hl with | [_,_],_=>rfl
 obtain ⟨ym,ff,lY⟩:=bz h__law_common
 have yi:=lY.binds (ps:=["_law_one", "_law_other"]) fun _ _ _ _ _ _ us hl=>match us,hl with | [_,_],_=>rfl
 obtain ⟨DF,i5,sG⟩:=bz h__law_num
 have C6:=sG.binds (ps:=["_law_top", "_law_bottom"]) fun _ _ _ _ _ _ us hl=>match us,hl with | [_,_],_=>rfl
 obtain ⟨CK,jf,rS⟩:=bz h__law_add
 have DE:=rS.binds (ps:=["_law_one", "_law_other"]) fun _ _ _ _ _ _ us hl=>match us,hl with | [_,_],_=>rfl
 obtain ⟨CF,ji,sk⟩:=bz h__law_mul
 have CC:=sk.binds (ps:=["_law_one", "_law_other"]) fun _ _ _ _ _ _ us hl=>match us,hl with | [_,_],_=>rfl
 obtain ⟨yk,e9,mB⟩:=bz h__law_number
 have yz:=mB.binds (ps:=["_law_well_here"]) fun _ _ _ _ _ _ us hl=>match us,hl with | [_],_=>rfl
 obtain ⟨AZ,gn,nS⟩:=bz h__law_whole
 have AF:=nS.binds (ps:=["_law_found"]) fun _ _ _ _ _ _ us hl=>match us,hl with | [_],_=>rfl
 obtain ⟨EX,kj,uP⟩:=bz h__law_is
 have Fp:=uP.binds (ps:=["_law_found", "_law_due_here"]) fun _ _ _ _ _ _ us hl=>match us,hl with | [_,_],_=>rfl
 obtain ⟨Cc,hJ,qe⟩:=bz h__law_name
 have Bh:=qe.binds (ps:=["_law_well_here", "_law_most"]) fun _ _ _ _ _ _ us hl=>match us,hl with | [_,_],_=>rfl
 obtain ⟨A8,gq,nV⟩:=bz h__law_names
 have zu:=nV.binds (ps:=["_law_well_here", "_law_many"]) fun _ _ _ _ _ _ us hl=>match us,hl with | [_,_],_=>rfl
 obtain ⟨yj,fc,lZ⟩:=bz h__law_is_sum
 have yn:=lZ.binds (ps:=["_law_found", "_law_due_here"]) fun _ _ _ _ _ _ us hl=>match us,hl with | [_,_],_=>rfl
 obtain ⟨C9,i8,sN⟩:=bz h__law_sum
 have CU:=sN.binds (ps:=["_law_well_here", "_law_names_here"]) fun _ _ _ _ _ _ us hl=>match us,hl with | [_,_],_=>rfl
 obtain ⟨C4,jc,sf⟩:=bz h__law_due
 have CD:=sf.binds (ps:=["_law_one", "_law_other", "_law_much"]) fun _ _ _ _ _ _ us hl=>match us,hl with | [_,_,_],_=>rfl
 obtain ⟨AL,gm,nU⟩:=bz h__law_value
 have Ba:=nU.binds (ps:=["_law_some", "_law_making"]) fun _ _ _ _ _ _ us hl=>match us,hl with | [_,_],_=>rfl
 obtain ⟨Bi,hV,pD⟩:=bz h__law_told
 have Cf:=pD.binds (ps:=["_law_some", "_law_making"]) fun _ _ _ _ _ _ us hl=>match us,hl with | [_,_],_=>rfl
 obtain ⟨zY,gh,ou⟩:=bz h__law_lacks
 have A0:=ou.binds (ps:=["_law_some", "_law_making", "_law_name_here"]) fun _ _ _ _ _ _ us hl=>match us,hl with | [_,_,_],_=>rfl
 obtain ⟨z7,gb,nB⟩:=bz h__law_right
 have AX:=nB.binds (ps:=["_law_one", "_law_other", "_law_number_here", "_law_word"]) fun _ _ _ _ _ _ us hl=>match us,hl with | [_,_,_,_],_=>rfl
 obtain ⟨Kq,vF,DU⟩:=bz h_law
 have NJ:=DU.binds (ps:=["_law_script"]) fun _ _ _ _ _ _ us hl=>match us,hl with | [_],_=>rfl
 refine ⟨{ eh:=gA K "common_divisor",dk:=dk,fC:=gA K "lowest_terms",eB:=eB,xu:=gA K "plus",vz:=vz,sS:=gA K "times",qE:=qE,pJ:=gA K "sum_of",mL:=mL,kB:=gA K "sum_plus",jm:=jm,jK:=gA K "sum_minus",il:=il,jC:=gA K "sum_times",ik:=ik,qj:=gA K "sum_at",m8:=m8,iH:=gA K "sum_called",gr:=gr,jT:=gA K "_law_well",ib:=ib,jS:=gA K "_law_take",hY:=hY,gP:=gA K "_law_common",ff:=ff,kC:=gA K "_law_num",i5:=i5,kN:=gA K "_law_add",jf:=jf,kn:=gA K "_law_mul",ji:=ji,gL:=gA K "_law_number",e9:=e9,iG:=gA K "_law_whole",gn:=gn,mS:=gA K "_law_is",kj:=kj,jG:=gA K "_law_name",hJ:=hJ,iP:=gA K "_law_names",gq:=gq,gJ:=gA K "_law_is_sum",fc:=fc,kW:=gA K "_law_sum",i8:=i8,kX:=gA K "_law_due",jc:=jc,iJ:=gA K "_law_value",gm:=gm,jB:=gA K "_law_told",hV:=hV,iS:=gA K "_law_lacks",gh:=gh,iI:=gA K "_law_right",gb:=gb,yK:=gA K "law",vF:=vF,rT:=gA K "FitError",ju:=gA K "NoSum",wx:=gA K "ZERO",ly:=gA K "MINUS_ONE" },?_,PySem.W.mg_of X G Kq,?_⟩
 ·exact {
  lJ:=PySem.W.mg_of X G u9
  kP:=jh
  lF:=jh.kp
  lV:=u3
  gT:=PySem.W.mg_of X G wU
  mZ:=kD
  gS:=kD.kp
  gV:=xS
  zx:=PySem.W.mg_of X G L6
  Cb:=CO
  Ae:=CO.kp
  Af:=Mz
  xF:=PySem.W.mg_of X G JZ
  zp:=Ah
  wM:=Ah.kp
  wH:=Je
  u7:=PySem.W.mg_of X G Gy
  wm:=wt
  uE:=wt.kp
  uF:=He
  oU:=PySem.W.mg_of X G Dt
  tU:=sh
  qk:=sh.kp
  oT:=CA
  tP:=PySem.W.mg_of X G Cu
  rC:=p6
  tI:=p6.kp
  ub:=Ce
  nj:=PySem.W.mg_of X G Br
  rH:=qh
  nO:=qh.kp
  nJ:=Cg
  u6:=PySem.W.mg_of X G GW
  wB:=xD
  vv:=xD.kp
  uQ:=HI
  qT:=PySem.W.mg_of X G zD
  pf:=nI
  qV:=nI.kp
  rG:=zR
  uu:=PySem.W.mg_of X G Ct
  rq:=pj
  tQ:=pj.kp
  uo:=BU
  ba:=PySem.W.mg_of X G BZ
  qR:=pH
  bb:=pH.kp
  aZ:=BO
  p0:=PySem.W.mg_of X G ym
  oF:=lY
  qp:=lY.kp
  oZ:=yi
  jO:=PySem.W.mg_of X G DF
  ux:=sG
  jE:=sG.kp
  jH:=C6
  lU:=PySem.W.mg_of X G CK
  uq:=rS
  lM:=rS.kp
  lG:=DE
  lB:=PySem.W.mg_of X G CF
  uk:=sk
  lA:=sk.kp
  lI:=CC
  fA:=PySem.W.mg_of X G yk
  oE:=mB
  fK:=mB.kp
  fI:=yz
  mH:=PySem.W.mg_of X G AZ
  qf:=nS
  mm:=nS.kp
  l9:=AF
  kT:=PySem.W.mg_of X G EX
  vG:=uP
  ku:=uP.kp
  kG:=Fp
  nQ:=PySem.W.mg_of X G Cc
  rj:=qe
  oo:=qe.kp
  nu:=Bh
  rF:=PySem.W.mg_of X G A8
  pF:=nV
  rm:=nV.kp
  rB:=zu
  fL:=PySem.W.mg_of X G yj
  oG:=lZ
  fz:=lZ.kp
  fD:=yn
  lR:=PySem.W.mg_of X G C9
  tO:=sN
  lD:=sN.kp
  lK:=CU
  jQ:=PySem.W.mg_of X G C4
  t4:=sf
  jw:=sf.kp
  jP:=CD
  mv:=PySem.W.mg_of X G AL
  pV:=nU
  mz:=nU.kp
  mE:=Ba
  sT:=PySem.W.mg_of X G Bi
  qU:=pD
  tu:=pD.kp
  ur:=Cf
  rh:=PySem.W.mg_of X G zY
  qr:=ou
  rg:=ou.kp
  qX:=A0
  mw:=PySem.W.mg_of X G z7
  ph:=nB
  l7:=nB.kp
  mq:=AX
  Mw:=PySem.W.mg_of X G Kq
  DP:=DU
  LS:=DU.kp
  LA:=NJ
  qW:=PySem.W.mg_none_of X G q4
  cG:=PySem.W.mg_none_of X G q5
  HK:=PySem.W.mg_none_of X G q6
  KO:=PySem.W.mg_none_of X G q7
  KL:=PySem.W.mg_none_of X G q8
  BS:=PySem.W.mg_none_of X G q9
  FF:=PySem.W.mg_none_of X G q10
  K1:=PySem.W.mg_none_of X G q11
  jq:=PySem.W.mg_none_of X G q12
  Hh:=PySem.W.mg_none_of X G q13
  xC:=PySem.W.mg_none_of X G q14
  A4:=PySem.W.mg_none_of X G q15
  sR:=PySem.W.mg_none_of X G q16
  tE:=PySem.W.mg_none_of X G q17
  Kf:=PySem.W.mg_none_of X G q18
  vI:=PySem.W.mg_of X G q0
  m7:=PySem.W.mg_of X G q1
  AG:=PySem.W.mg_of X G q2
  tL:=PySem.W.mg_of X G q3
  zz:=M.FA fun H=>zc q19 H
  tW:=M.FA fun H=>zc q20 H
  Cd:=q21
  xr:=⟨q22,q23,q24,q25,q26,q27,q28⟩
  oA:=M.Ga _ _
  jI:=q29
  kE:=q30 }
 ·obtain ⟨oc,od,kV,doc,pm,an,cdv,ct,osl,rfl,lk,hcd⟩:=DU.ex
  exact fun s v=>.of_eq rfl
end W
open PySem PySem.W PyProof.Rows L2
set_option maxRecDepth 100000 in
set_option maxHeartbeats 0 in
theorem PySem.Challenge.cw_fitwhatever_k05_sums_reckoned_holds : PySem.Challenge.rw_fitwhatever_k05_sums_reckoned.Holds := by
 w_on
 refine holds_law (by decide +kernel) fun said=>?_
 refine holds_open (q:=W.qOf PySem.Challenge.pw_fitwhatever_k05_sums_reckoned) (loose:=W.Kb PySem.Challenge.pw_fitwhatever_k05_sums_reckoned) (Xt:=fun s=>xlAt (W.qOf PySem.Challenge.pw_fitwhatever_k05_sums_reckoned) [] s && recOk (RowW.records _) s) (XP:=XL (W.qOf PySem.Challenge.pw_fitwhatever_k05_sums_reckoned) []) (Yf:=Hook.obs (W.hk W.dsL W.chk)) (Ya:=Hook.val (W.hk W.dsL W.chk)) (YP:=Hook.says (W.hk W.dsL W.chk)) (N:=20000) (fun w=>by kernel_rfl) (Hook.of _) (Hook.keeps _) (fun s e=>xl_of s (Bool.and_eq_true_iff.mp e).1) XL.keeps (by rfl) (by rfl) (by rfl) (fun s e=>recFacts_of (Bool.and_eq_true_iff.mp e).2) (by rfl) said (by decide +kernel) ⟨rfl,rfl,rfl,rfl,rfl,by decide +kernel⟩ ?hw ?hc
 case hw=>w_witness2
 case hc =>
  refine W.Hl (l:=PySem.Challenge.rw_fitwhatever_k05_sums_reckoned) (n:=63) (k:=9) (x := "_law_script") (sp:=M.Fx) rfl (by decide) rfl ⟨rfl,by decide,by decide⟩ (fun w mg fa h Y G hfa=>?_) (fun _ _ a ns hl _ hS=>⟨a,ns,rfl,hS,hl,fun _=>rfl⟩)
  obtain ⟨K,e,KX⟩:=Y
  obtain ⟨a,T,e,hb⟩:=W.Nb KX G e
  have z:=(show mg "law" = some (.ref fa) from hfa).symm.trans e
  cases z
  exact ⟨K,KX,a.vF,hb,fun base _ _=>M.Ma (W.Nl T) W.law_true⟩
#print axioms PySem.Challenge.cw_fitwhatever_k05_sums_reckoned_holds
