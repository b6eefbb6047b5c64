import PyProof.Rows.All
import Wide.All
import OpenK.AllK
import Wide.FinOn
import Lean
import PyProof.EqAt
import PyProof.EqKinds
import PyProof.TupleCall
import PySem.Challenge.RW_fitwhatever_k06_whole_sums_by_makings
set_option Elab.async false
set_option linter.all false
set_option maxRecDepth 100000
namespace L2
open PySem PySem.Spec PyProof.Rows
abbrev Key := Sum Int Str
def keyIs : Key → Value → Bool
  | .inl k, v => Value.isInt k v
  | .inr x, v => Value.isStrOf x v
def keyH (w : World) : Key → Int
  | .inl k => hashInt k
  | .inr x => hashStr w x
theorem keyIs_shape : ∀ {k : Key} {v : Value}, keyIs k v = true → (∃ i t, k = Sum.inl i ∧ v = Value.int i t) ∨ (∃ x t, k = Sum.inr x ∧ v = Value.str x t)
  | .inl i, v, h => by
    obtain ⟨t, e⟩ := Value.isInt_shape (k := i) (v := v) h
    exact .inl ⟨i, t, rfl, e⟩
  | .inr x, v, h => by
    obtain ⟨t, e⟩ := Value.isStrOf_shape (x := x) (v := v) h
    exact .inr ⟨x, t, rfl, e⟩
theorem keyIs_int (i : Int) (t : Tok) : keyIs (.inl i) (.int i t) = true := by simp [keyIs, Value.isInt]
theorem keyIs_str (x : Str) (t : Tok) : keyIs (.inr x) (.str x t) = true := by simp [keyIs, Value.isStrOf]
theorem key_ll (a b : Int) : decide ((Sum.inl a : Key) = Sum.inl b) = (a == b) := by
  by_cases e : a = b
  · subst e; simp
  · have h : ¬ (Sum.inl a : Key) = Sum.inl b := fun q => e (Sum.inl.inj q)
    rw [decide_eq_false h]
    exact (beq_eq_false_iff_ne.mpr e).symm
theorem key_rr (a b : Str) : decide ((Sum.inr a : Key) = Sum.inr b) = decide (a = b) := by
  by_cases e : a = b
  · subst e; simp
  · have h : ¬ (Sum.inr a : Key) = Sum.inr b := fun q => e (Sum.inr.inj q)
    rw [decide_eq_false h, decide_eq_false e]
theorem key_lr (a : Int) (b : Str) : decide ((Sum.inl a : Key) = Sum.inr b) = false := decide_eq_false (fun q => nomatch q)
theorem key_rl (a : Str) (b : Int) : decide ((Sum.inr a : Key) = Sum.inl b) = false := decide_eq_false (fun q => nomatch q)
def mixKind (prog : Program) (w : World) : PySem.KeyKind prog w Key where
  is := keyIs
  hash := keyH w
  inj := fun v a b ha hb => by
    rcases keyIs_shape ha with ⟨i, t, rfl, rfl⟩ | ⟨x, t, rfl, rfl⟩
    · rcases keyIs_shape hb with ⟨j, u, rfl, e⟩ | ⟨y, u, rfl, e⟩
      · injection e with e1 _; rw [e1]
      · exact nomatch e
    · rcases keyIs_shape hb with ⟨j, u, rfl, e⟩ | ⟨y, u, rfl, e⟩
      · exact nomatch e
      · injection e with e1 _; rw [e1]
  byValue := fun k v h => by
    rcases keyIs_shape h with ⟨i, t, rfl, rfl⟩ | ⟨x, t, rfl, rfl⟩ <;> rfl
  pyHash := fun hv h => by
    rcases keyIs_shape hv with ⟨i, t, rfl, rfl⟩ | ⟨x, t, rfl, rfl⟩
    · exact wpAny_pyHash_int h
    · exact wpAny_pyHash_str h
  eqBool := fun hu hv h => by
    rcases keyIs_shape hu with ⟨i, t, rfl, rfl⟩ | ⟨x, t, rfl, rfl⟩
    · rcases keyIs_shape hv with ⟨j, u, rfl, rfl⟩ | ⟨y, u, rfl, rfl⟩
      · rw [key_ll] at h; exact wpAny_eqBool_int h
      · rw [key_lr] at h; exact SeqAt.EqAt.int_str i t y u _ _ _ _ h
    · rcases keyIs_shape hv with ⟨j, u, rfl, rfl⟩ | ⟨y, u, rfl, rfl⟩
      · rw [key_rl] at h; exact SeqAt.EqAt.str_int x t j u _ _ _ _ h
      · rw [key_rr] at h; exact wpAny_eqBool_str h
  «strs» := fun k x t v h => by
    rcases keyIs_shape h with ⟨i, u, rfl, e⟩ | ⟨y, u, rfl, e⟩
    · exact nomatch e
    · injection e with e1 _
      subst e1
      cases v <;> rfl
theorem mixKind_int (prog : Program) (w : World) (i : Int) (t : Tok) : (mixKind prog w).is (.inl i) (.int i t) = true := keyIs_int i t
theorem mixKind_str (prog : Program) (w : World) (x : Str) (t : Tok) : (mixKind prog w).is (.inr x) (.str x t) = true := keyIs_str x t
end L2
namespace L2
open PySem PySem.Spec PyProof.Rows
inductive V where
  | non | bl (b : Bool) | int (i : Int) | str (x : Str) | byt (b : Array UInt8) | flt (b : UInt64) | ref (a : Addr) | ty (n : String)
  deriving DecidableEq
def RelV : V → Value → Prop
  | .non, u => u = Value.none
  | .bl b, u => u = Value.bool b
  | .int i, u => ∃ t, u = Value.int i t
  | .str x, u => ∃ t, u = Value.str x t
  | .byt b, u => ∃ t, u = Value.bytes b t
  | .flt b, u => ∃ t, u = Value.float b t
  | .ref a, u => u = Value.ref a
  | .ty n, u => u = Value.type n
abbrev Vals : List V → List Value → Prop := Paired RelV
theorem Vals.length {xs : List V} {us : List Value} (r : Vals xs us) : xs.length = us.length := Paired.length r
theorem Vals.get : ∀ {xs : List V} {us : List Value} {i : Nat} {x : V}, Vals xs us → xs[i]? = some x → ∃ u, us[i]? = some u ∧ RelV x u
  | _, _, _, _, .nil, e => by simp at e
  | _, _, 0, _, .cons r _, e => by simp at e; subst e; exact ⟨_, rfl, r⟩
  | _, _, i + 1, x, .cons _ t, e => by
    obtain ⟨u, h1, h2⟩ := Vals.get (i := i) (x := x) t (by simpa using e)
    exact ⟨u, by simpa using h1, h2⟩
theorem Vals.set {x : V} {u : Value} (r : RelV x u) : ∀ {xs : List V} {us : List Value} (i : Nat), Vals xs us → Vals (xs.set i x) (us.set i u)
  | _, _, _, .nil => .nil
  | _, _, 0, .cons _ t => .cons r t
  | _, _, i + 1, .cons q t => .cons q (Vals.set r i t)
theorem Vals.append : ∀ {xs ys : List V} {us ws : List Value}, Vals xs us → Vals ys ws → Vals (xs ++ ys) (us ++ ws)
  | _, _, _, _, .nil, s => s
  | _, _, _, _, .cons r t, s => .cons r (Vals.append t s)
theorem Vals.take : ∀ {xs : List V} {us : List Value} (n : Nat), Vals xs us → Vals (xs.take n) (us.take n)
  | _, _, 0, _ => .nil
  | _, _, _ + 1, .nil => .nil
  | _, _, n + 1, .cons r t => .cons r (Vals.take n t)
theorem Vals.drop : ∀ {xs : List V} {us : List Value} (n : Nat), Vals xs us → Vals (xs.drop n) (us.drop n)
  | _, _, 0, r => r
  | _, _, _ + 1, .nil => .nil
  | _, _, n + 1, .cons _ t => Vals.drop n t
def RelO : Option V → Option Value → Prop
  | some v, some u => RelV v u
  | none, none => True
  | _, _ => False
def KV {κ : Type} : List (κ × V) → List (κ × Value) → Prop := Paired fun (p : κ × V) (q : κ × Value) => p.1 = q.1 ∧ RelV p.2 q.2
def kV : Key → V
  | .inl i => .int i
  | .inr x => .str x
inductive HO where
    | lst (xs : List V)
    | tup (xs : List V)
    | dK (kvs : List (Key × V)) | dT (kvs : List (List Key × V))
    | set (S : Int → Bool) (n : Nat)
    | ins (C dx : Addr) (fs : List (Str × V))
    | own (x : Addr)
    | xd (fs : List (Str × V))
    | met (f x : Addr)
    | rng (lo hi : Int)
    | frz (o : Obj) (u : HO)
    | tbl (ps : Array Value)
    | ext (φ : Heap → Prop)
abbrev Hp := Addr → Option HO
def upd (H : Hp) (a : Addr) (o : HO) : Hp := fun b => if b = a then some o else H b
theorem upd_same {H : Hp} {a : Addr} {o : HO} : upd H a o a = some o := by unfold upd; rw [if_pos rfl]
theorem upd_ne {H : Hp} {a b : Addr} {o : HO} (h : b ≠ a) : upd H a o b = H b := by unfold upd; rw [if_neg h]
theorem ne_of {H : Hp} {a b : Addr} {o u : HO} (h : H a = some o) (h' : H b = some u) (d : o ≠ u) : a ≠ b := by
  intro e; subst e; rw [h] at h'; exact d (Option.some.inj h')
theorem ne_of_none {H : Hp} {a b : Addr} {o : HO} (h : H a = some o) (h' : H b = none) : a ≠ b := by
  intro e; subst e; rw [h] at h'; cases h'
section
variable (P : Program) (w : World)
def ObjOk (H : Hp) (h : Heap) (a : Addr) : HO → Prop
  | .lst xs => xs.length ≤ sizeLine ∧ ∃ (its : List Value) (n : Nat), Vals xs its ∧ h.get? a = some { cls := .type "list", data := .seq its.toArray n }
  | .tup xs => xs.length ≤ sizeLine ∧ ∃ its : List Value, Vals xs its ∧ IsTup h a its.toArray
  | .dK kvs => kvs.length ≤ sizeLine ∧ (a == sysModules) = false ∧ ∃ vs, KV kvs vs ∧ h.DictOf (mixKind P w) a vs
  | .dT kvs => kvs.length ≤ sizeLine ∧ (a == sysModules) = false ∧ ∃ xs : List (List Key × Addr × Value),
      Paired (fun (p : List Key × V) (q : List Key × Addr × Value) => p.1 = q.1 ∧ H q.2.1 = some (.tup (p.1.map kV)) ∧ RelV p.2 q.2.2) kvs xs ∧
      ∃ o es ep, h.get? a = some o ∧ o.ExactDict ∧ o.data = .dict es ep ∧ es.toList = xs.map (entryOfKey (tupleKind (mixKind P w))) ∧ (xs.map (·.1)).Nodup
  | .set S n => h.SetOf (intKind P w) a S n
  | .ins C dx fs => H dx = some (.own a) ∧ fs.length ≤ 1000 ∧ dx ≠ a ∧ h.get? a = some (PySem.W.instObj C dx) ∧
      ∃ mA, h.Ns1 dx mA ∧ (∀ f, RelO (fs.lookup f) (mA f)) ∧ PySem.Within mA (fs.map (·.1))
  | .own _ => ∃ o, h.get? a = some o
  | .xd fs => ∃ mA, h.Ns1 a mA ∧ ∀ f, RelO (fs.lookup f) (mA f)
  | .rng lo hi => ∃ t u v, h.get? a = some { cls := .type "range", data := .fields #[.int lo t, .int hi u, .int 1 v] }
  | .frz o u => h.get? a = some o ∧ ObjOk H h a u
  | .tbl ps => h.get? a = some { cls := .none, data := .fields ps }
  | .met f x => h.get? a = some (PySem.W.methodObj (.ref f) (.ref x))
  | .ext φ => φ h ∧ (∃ o, h.get? a = some o) ∧ ∀ h1 h2 : Heap, φ h1 → (∀ o, h1.get? a = some o → h2.get? a = some o) → φ h2
def HOk (H : Hp) (h : Heap) : Prop := ∀ a o, H a = some o → ObjOk P w H h a o
end
section
variable {P : Program} {w : World} {H H' : Hp} {h h' : Heap} {a : Addr} {o : HO}
theorem ObjOk.lt (x : ObjOk P w H h a o) : a < h.objs.size := by
  cases o with
  | lst xs => obtain ⟨_, _, _, _, e⟩ := x; exact Heap.lt_size e
  | tup xs => obtain ⟨_, _, _, p⟩ := x; exact p.lt
  | dK kvs => obtain ⟨_, _, _, _, o, _, _, e, _⟩ := x; exact Heap.lt_size e
  | dT kvs => obtain ⟨_, _, _, _, o, _, _, e, _⟩ := x; exact Heap.lt_size e
  | set S n => obtain ⟨o, _, _, _, e, _⟩ := x; exact Heap.lt_size e
  | ins C dx fs => obtain ⟨_, _, _, e, _⟩ := x; exact Heap.lt_size e
  | own y => obtain ⟨_, e⟩ := x; exact Heap.lt_size e
  | xd fs => obtain ⟨_, ⟨_, _, _, e, _⟩, _⟩ := x; exact Heap.lt_size e
  | rng lo hi => obtain ⟨_, _, _, e⟩ := x; exact Heap.lt_size e
  | frz ob u => obtain ⟨e, _⟩ := x; exact Heap.lt_size e
  | tbl ps => exact Heap.lt_size (show h.get? a = some _ from x)
  | met f y => exact Heap.lt_size (show h.get? a = some _ from x)
  | ext φ => obtain ⟨_, ⟨_, e⟩, _⟩ := x; exact Heap.lt_size e
theorem Paired.mapP {α β : Type} {F G : α → β → Prop} : ∀ {l₁ : List α} {l₂ : List β}, Paired F l₁ l₂ → (∀ a b, F a b → G a b) → Paired G l₁ l₂
  | _, _, .nil, _ => .nil
  | _, _, .cons r t, f => .cons (f _ _ r) (Paired.mapP t f)
theorem ObjOk.stay (x : ObjOk P w H h a o) (k : ∀ b u, (b = a ∨ H b = some (.own a)) → h.get? b = some u → h'.get? b = some u)
    (ho : ∀ b, H b = some (.own a) → H' b = some (.own a)) (ht : ∀ b xs, H b = some (.tup xs) → H' b = some (.tup xs)) : ObjOk P w H' h' a o := by
  induction o with
  | lst xs => obtain ⟨z, its, n, r, e⟩ := x; exact ⟨z, its, n, r, k _ _ (.inl rfl) e⟩
  | tup xs => obtain ⟨z, its, r, ob, e, c⟩ := x; exact ⟨z, its, r, ob, k _ _ (.inl rfl) e, c⟩
  | dK kvs => obtain ⟨z, y, vs, r, ob, es, ep, e, c⟩ := x; exact ⟨z, y, vs, r, ob, es, ep, k _ _ (.inl rfl) e, c⟩
  | dT kvs =>
    obtain ⟨z, y, xs, r, ob, es, ep, e, c⟩ := x
    exact ⟨z, y, xs, Paired.mapP r fun p q z => ⟨z.1, ht _ _ z.2.1, z.2.2⟩, ob, es, ep, k _ _ (.inl rfl) e, c⟩
  | set S n => obtain ⟨ob, es, ep, t, e, c⟩ := x; exact ⟨ob, es, ep, t, k _ _ (.inl rfl) e, c⟩
  | ins C dx fs =>
    obtain ⟨d, z, ne, e, mA, ⟨od, es, ep, e2, c⟩, r⟩ := x
    exact ⟨ho _ d, z, ne, k _ _ (.inl rfl) e, mA, ⟨od, es, ep, k _ _ (.inr d) e2, c⟩, r⟩
  | own y => obtain ⟨ob, e⟩ := x; exact ⟨ob, k _ _ (.inl rfl) e⟩
  | xd fs => obtain ⟨mA, ⟨od, es, ep, e, c⟩, r⟩ := x; exact ⟨mA, ⟨od, es, ep, k _ _ (.inl rfl) e, c⟩, r⟩
  | rng lo hi => obtain ⟨t, u, v, e⟩ := x; exact ⟨t, u, v, k _ _ (.inl rfl) e⟩
  | frz ob u ih => obtain ⟨e, q⟩ := x; exact ⟨k _ _ (.inl rfl) e, ih q⟩
  | tbl ps =>
    have e : h.get? a = some { cls := .none, data := .fields ps } := x
    show h'.get? a = some { cls := .none, data := .fields ps }
    exact k a _ (.inl rfl) e
  | met f y =>
    have e : h.get? a = some (PySem.W.methodObj (.ref f) (.ref y)) := x
    show h'.get? a = some (PySem.W.methodObj (.ref f) (.ref y))
    exact k a _ (.inl rfl) e
  | ext φ => obtain ⟨p, ⟨o, e⟩, st⟩ := x; exact ⟨st _ _ p fun o q => k _ _ (.inl rfl) q, ⟨o, k _ _ (.inl rfl) e⟩, st⟩
theorem HOk.lt (x : HOk P w H h) (e : H a = some o) : a < h.objs.size := (x a o e).lt
theorem HOk.fresh (x : HOk P w H h) (e : h.objs.size ≤ a) : H a = none := by
  cases q : H a with
  | none => rfl
  | some u => exact absurd (Nat.lt_of_lt_of_le (x.lt q) e) (Nat.lt_irrefl _)
theorem HOk.kept (x : HOk P w H h) (k : ∀ b u, h.get? b = some u → h'.get? b = some u) : HOk P w H h' := fun a o e =>
  (x a o e).stay (fun b u _ q => k b u q) (fun _ q => q) fun _ _ q => q
theorem HOk.laid (x : HOk P w H h) (k : ∀ b u, h.get? b = some u → h'.get? b = some u) (hp : h.objs.size ≤ a) (new : ObjOk P w (upd H a o) h' a o) : HOk P w (upd H a o) h' := fun b u e => by
  have hn := x.fresh hp
  by_cases hb : b = a
  · subst hb; rw [upd_same] at e; cases e; exact new
  · rw [upd_ne hb] at e
    exact (x b u e).stay (fun c v _ q => k c v q) (fun c q => by rw [upd_ne (ne_of_none q hn)]; exact q) fun c xs q => by rw [upd_ne (ne_of_none q hn)]; exact q
end
def Rd (H : Hp) (a : Addr) (u : HO) : Prop := H a = some u ∨ ∃ o, H a = some (.frz o u)
theorem Rd.ok {P : Program} {w : World} {H : Hp} {h : Heap} {a : Addr} {u : HO} (r : Rd H a u) (x : HOk P w H h) : ObjOk P w H h a u := by
  rcases r with r | ⟨o, r⟩
  · exact x a u r
  · obtain ⟨_, q⟩ := x a _ r
    exact q
def Mut : Option HO → Prop
  | some (.lst _) => True
  | some (.dK _) => True
  | some (.dT _) => True
  | some (.set _ _) => True
  | some (.ins _ _ _) => True
  | some (.ext _) => True
  | _ => False
section
variable {P : Program} {w : World} {H : Hp} {h h' : Heap} {x e : Addr} {o' : HO}
theorem HOk.write (ok : HOk P w H h) (mu : Mut (H x)) (he : e = x ∨ H e = some (.own x)) (k : ∀ b u, b ≠ e → h.get? b = some u → h'.get? b = some u) (heo : ∃ u, h'.get? e = some u)
    (new : ObjOk P w (upd H x o') h' x o') : HOk P w (upd H x o') h' := fun b u q => by
  have nown : ∀ c y, H c = some (.own y) → c ≠ x := fun c y r z => by subst z; rw [r] at mu; exact mu
  have ntup : ∀ c xs, H c = some (.tup xs) → c ≠ x := fun c xs r z => by subst z; rw [r] at mu; exact mu
  by_cases hb : b = x
  · subst hb; rw [upd_same] at q; cases q; exact new
  · rw [upd_ne hb] at q
    by_cases hbe : b = e
    · have q' : H b = some (.own x) := by
        rcases he with z | z
        · exact absurd (hbe.trans z) hb
        · rw [hbe]; exact z
      rw [q] at q'; cases q'
      obtain ⟨v, hv⟩ := heo
      exact ⟨v, by rw [hbe]; exact hv⟩
    · refine (ok b u q).stay (fun c v hc r => k c v ?_ r) (fun c r => by rw [upd_ne (nown c b r)]; exact r) fun c xs r => by rw [upd_ne (ntup c xs r)]; exact r
      rcases hc with rfl | hc
      · exact hbe
      · rintro rfl
        rcases he with z | z
        · exact nown c b hc z
        · rw [hc] at z; cases z; exact hb rfl
end
structure Un (fs ex : List Addr) (H H' : Hp) (h h' : Heap) : Prop where
  keep : ∀ b o, h.get? b = some o → H b = none → b ∉ fs → b ∉ ex → h'.get? b = some o
  slot : ∀ b o, h.get? b = some o → H b = none → b ∈ fs → b ∉ ex → ∃ sl, h'.get? b = some { o with slots := sl }
  free : ∀ b o, h.get? b = some o → H b = none → b ∉ ex → H' b = none
  there : ∀ b o, h.get? b = some o → b ∉ ex → ∃ o', h'.get? b = some o'
  tups : ∀ b xs, H b = some (.tup xs) → H' b = some (.tup xs)
  frzs : ∀ b o u, H b = some (.frz o u) → H' b = some (.frz o u)
  tbls : ∀ b ps, H b = some (.tbl ps) → ∃ more, H' b = some (.tbl (ps ++ more))
section
variable {fs fs' ex ex' : List Addr} {H H1 H2 : Hp} {h h1 h2 h' : Heap} {a x e : Addr} {o : HO}
theorem Un.any (u : Un fs ex H H1 h h1) {b : Addr} {ob : Obj} (q : h.get? b = some ob) (n : H b = none) (hx : b ∉ ex) : ∃ sl, h1.get? b = some { ob with slots := sl } := by
  by_cases hb : b ∈ fs
  · exact u.slot b ob q n hb hx
  · exact ⟨ob.slots, u.keep b ob q n hb hx⟩
theorem Un.kept (k : ∀ b u, h.get? b = some u → h'.get? b = some u) : Un fs ex H H h h' :=
  ⟨fun b ob q _ _ _ => k b ob q, fun b ob q _ _ _ => ⟨ob.slots, k b ob q⟩, fun _ _ _ n _ => n, fun b ob q _ => ⟨ob, k b ob q⟩, fun _ _ q => q, fun _ _ _ q => q, fun _ ps q => ⟨#[], by rw [q]; simp⟩⟩
theorem Un.refl : Un fs ex H H h h := Un.kept fun _ _ q => q
theorem Un.laid (k : ∀ b u, h.get? b = some u → h'.get? b = some u) (hp : h.objs.size ≤ a) (hn : H a = none) : Un fs ex H (upd H a o) h h' where
  keep := fun b u q _ _ _ => k b u q
  slot := fun b u q _ _ _ => ⟨u.slots, k b u q⟩
  free := fun b u q n _ => by rw [upd_ne (Nat.ne_of_lt (Nat.lt_of_lt_of_le (Heap.lt_size q) hp))]; exact n
  there := fun b u q _ => ⟨u, k b u q⟩
  tups := fun b xs q => by rw [upd_ne (ne_of_none q hn)]; exact q
  frzs := fun b u xs q => by rw [upd_ne (ne_of_none q hn)]; exact q
  tbls := fun b ps q => ⟨#[], by rw [upd_ne (ne_of_none q hn), q]; simp⟩
theorem Un.write (mu : Mut (H x)) (he : e = x ∨ H e = some (.own x)) (k : ∀ b u, b ≠ e → h.get? b = some u → h'.get? b = some u) (heo : ∃ u, h'.get? e = some u) : Un fs ex H (upd H x o) h h' := by
  have hx : ∀ b, H b = none → b ≠ x := fun b n z => by subst z; rw [n] at mu; exact mu
  have hb : ∀ b, H b = none → b ≠ e := fun b n z => by
    subst z
    rcases he with r | r
    · exact hx b n r
    · rw [n] at r; cases r
  have hm : ∀ b u, H b = some u → ¬ Mut (some u) → b ≠ x := fun b u q nm z => by subst z; rw [q] at mu; exact nm mu
  refine ⟨fun b u q n _ _ => k b u (hb b n) q, fun b u q n _ _ => ⟨u.slots, k b u (hb b n) q⟩, fun b u q n _ => by rw [upd_ne (hx b n)]; exact n, fun b u q _ => ?_,
    fun b xs q => by rw [upd_ne (hm b _ q fun z => z)]; exact q, fun b u xs q => by rw [upd_ne (hm b _ q fun z => z)]; exact q, fun b ps q => ⟨#[], by rw [upd_ne (hm b _ q fun z => z), q]; simp⟩⟩
  by_cases hbe : b = e
  · subst hbe; exact heo
  · exact ⟨u, k b u hbe q⟩
end
def trk (h : Heap) (H : Hp) : List Addr := (List.range h.objs.size).filter fun a => (H a).isSome
def hidT (h : Heap) (H : Hp) : Heap := PySem.W.hideAll h (trk h H)
theorem hidT_size (h : Heap) (H : Hp) : (hidT h H).objs.size = h.objs.size := PySem.W.hideAll_size _ _
theorem hidT_get {h : Heap} {H : Hp} {b : Addr} {o : Obj} (e : h.get? b = some o) (n : H b = none) : (hidT h H).get? b = some o :=
  PySem.W.hideAll_get _ e fun hm => by
    have q : (H b).isSome = true := (List.mem_filter.mp hm).2
    rw [n] at q; simp at q
theorem of_hidT {h : Heap} {H : Hp} {b : Addr} {o : Obj} (e : (hidT h H).get? b = some o) : h.get? b = some o ∧ H b = none := by
  have e' : h.get? b = some o := PySem.W.of_hideAll (trk h H) e
  refine ⟨e', ?_⟩
  cases q : H b with
  | none => rfl
  | some x =>
    have hm : b ∈ trk h H := List.mem_filter.mpr ⟨List.mem_range.mpr (Heap.lt_size e'), by simp [q]⟩
    have z : (hidT h H).get? b = none := PySem.W.hideAll_none (trk h H) hm
    rw [z] at e; cases e
def allNews (g h : Heap) (L : Addr) : List (Addr × Obj) := (List.range h.objs.size).filterMap fun a => if a = L ∨ (g.get? a).isSome = true then none else (h.get? a).map fun o => (a, o)
def rest (g h : Heap) (L d : Addr) : List (Addr × Obj) := (allNews g h L).filter fun p => decide (p.1 ≠ d)
end L2
namespace L2
open PySem PySem.Spec PyProof.Rows
structure Mod (K : PySem.W.Frag) (mg : Str → Option Value) (base : Heap) : Prop where
  kin : K.In base
  glob : base.Ns mainGlobals mg
  blt : ∃ mb, base.Ns builtinsNs mb ∧ ∀ x : Str, x ≠ "__name__" → mb x = bootBuiltins x
  nolimit : base.NoLimit
structure Cx where
  prog : Program
  w : World
  K : PySem.W.Frag
  mg : Str → Option Value
  base : Heap
  A : Around
  N : List Str
  s₀ : Shared
  H₀ : Hp
  env : Env
  outer : List Env
  stack : List Env
  ex : List Addr
  fn : Str → Bool
  calm : Bool
  pn : List (Addr × Obj)
  xe : Value → Shared → Prop
def frs (l : List Env) : List Addr := l.filterMap (·.frame)
abbrev Cx.fs (X : Cx) : List Addr := frs X.outer
def Vis (sc : Scope) (x : Str) : Prop := sc.names.lookup x = some .local ∨ sc.names.lookup x = some .cell ∨ sc.names.lookup x = some .free
def Loc (sc : Scope) (x : Str) : Prop := sc.names.lookup x = some .local ∨ sc.names.lookup x = some .cell
def Look (env : Env) (h : Heap) (m : Str → Option Value) (x : Str) (u : Value) : Prop :=
  (env.kindOf x = some .local ∧ m x = some u) ∨ ((env.kindOf x = some .cell ∨ env.kindOf x = some .free) ∧ ∃ c, env.cells.lookup x = some c ∧ h.IsCell c (some u))
structure Cx.Ok (X : Cx) : Prop where
  mod : Mod X.K X.mg X.base
  kind : X.env.scope.kind = .function
  glob : X.env.globals = mainGlobals
  blt : X.env.builtins = builtinsNs
  above : X.s₀.heap.objs.size ≤ X.env.locals
  inj : ∀ x y c, X.env.cells.lookup x = some c → X.env.cells.lookup y = some c → x = y
  has : ∀ x, (X.env.kindOf x = some .cell ∨ X.env.kindOf x = some .free) → ∃ c, X.env.cells.lookup x = some c
  cab : ∀ x c, X.fn x = true → X.env.cells.lookup x = some c → X.s₀.heap.objs.size ≤ c
  hd : X.calm = true → X.A.handled = none
  frames : X.A.frames = some X.stack
  stk : X.stack = X.outer ∨ (X.stack = X.env :: X.outer ∧ X.env.frame = some X.env.locals)
  exf : ∀ b ∈ X.ex, b ≠ X.env.locals ∧ ∀ x c, X.env.cells.lookup x = some c → c ≠ b
  bs : ∀ b o, X.base.get? b = some o → X.s₀.heap.get? b = some o ∧ X.H₀ b = none
  bsz : X.base.objs.size ≤ X.s₀.heap.objs.size
  noex : ∀ b o, X.base.get? b = some o → b ∉ X.ex
  exfs : ∀ b ∈ X.ex, b ∉ X.fs
  funs : X.s₀.heap.FunFrames X.base X.outer
  frf : ∀ b ∈ X.fs, X.H₀ b = none
structure Inv (X : Cx) (pins : List (Addr × Obj)) (σ : List (Option V)) (H : Hp) (s : Shared) : Prop where
  ok : X.Ok
  os : s.os = X.s₀.os
  bare : AllBare s.gens
  base : Un X.fs X.ex X.H₀ H X.s₀.heap s.heap
  loc : ∃ m, s.heap.Ns X.env.locals m ∧ ∀ (i : Nat) (x : Str) (v : V), X.N[i]? = some x → σ[i]? = some (some v) → Vis X.env.scope x → ∃ u, RelV v u ∧ Look X.env s.heap m x u
  cell : ∀ x c, X.env.cells.lookup x = some c → ∃ v, s.heap.IsCell c v
  free : H X.env.locals = none
  freeC : ∀ x c, X.env.cells.lookup x = some c → H c = none
  pin : ∀ p ∈ X.pn ++ pins, s.heap.get? p.1 = some p.2 ∧ H p.1 = none ∧ p.1 ≠ X.env.locals ∧ p.1 ∉ X.fs ∧ ∀ v, p.2.data ≠ .cell v
  hok : HOk X.prog X.w H s.heap
  len : σ.length = X.N.length
section
variable {X : Cx} {pins : List (Addr × Obj)} {σ : List (Option V)} {H H' : Hp} {s : Shared} {h' : Heap}
theorem Cx.Ok.nofr (ok : X.Ok) {b : Addr} {o : Obj} (e : X.base.get? b = some o) : b ∉ X.fs := fun hb => by
  have := (ok.funs.mem hb).1
  rw [e] at this; cases this
theorem Inv.bs (I : Inv X pins σ H s) : ∀ b o, X.base.get? b = some o → s.heap.get? b = some o ∧ H b = none := fun b o e =>
  ⟨I.base.keep b o (I.ok.bs b o e).1 (I.ok.bs b o e).2 (I.ok.nofr e) (I.ok.noex b o e), I.base.free b o (I.ok.bs b o e).1 (I.ok.bs b o e).2 (I.ok.noex b o e)⟩
theorem Inv.bk (I : Inv X pins σ H s) : ∀ b o, X.base.get? b = some o → s.heap.get? b = some o := fun b o e => (I.bs b o e).1
theorem Inv.mod (I : Inv X pins σ H s) : Mod X.K X.mg X.base := I.ok.mod
theorem Inv.kIn (I : Inv X pins σ H s) : X.K.In s.heap := I.ok.mod.kin.keeps I.bk
theorem Inv.lt (I : Inv X pins σ H s) : X.env.locals < s.heap.objs.size := let ⟨_, hn, _⟩ := I.loc; hn.lt
theorem Inv.sz (I : Inv X pins σ H s) : X.s₀.heap.objs.size ≤ s.heap.objs.size := Nat.le_trans I.ok.above (Nat.le_of_lt I.lt)
theorem Inv.nofs (I : Inv X pins σ H s) {a : Addr} (h : s.heap.objs.size ≤ a) : a ∉ X.fs := fun hb => by
  obtain ⟨_, o, ho, _⟩ := I.ok.funs.mem hb
  exact absurd (Nat.lt_of_lt_of_le (Heap.lt_size ho) (Nat.le_trans I.sz h)) (Nat.lt_irrefl _)
theorem Inv.cne (I : Inv X pins σ H s) : ∀ x c, X.env.cells.lookup x = some c → c ≠ X.env.locals := fun x c e z => by
  obtain ⟨v, o, ho, hd⟩ := I.cell x c e
  obtain ⟨m, ⟨o', es, ep, ho', hd', _⟩, _⟩ := I.loc
  rw [z, ho'] at ho; cases ho; rw [hd'] at hd; cases hd
theorem Inv.funs (I : Inv X pins σ H s) : s.heap.FunFrames X.base X.outer := by
  have all : ∀ (l : List Env), (∀ b ∈ frs l, b ∈ X.fs) → X.s₀.heap.FunFrames X.base l → s.heap.FunFrames X.base l := by
    intro l
    induction l with
    | nil => intro _ _; trivial
    | cons env r ih =>
      intro hs hl
      obtain ⟨hk, ⟨L, o, hf, hn, ho, hd⟩, hr⟩ := hl
      have hL : L ∈ X.fs := hs L (by unfold frs; rw [List.filterMap_cons, hf]; exact List.mem_cons_self)
      obtain ⟨sl, e⟩ := I.base.slot L o ho (I.ok.frf L hL) hL fun z => I.ok.exfs L z hL
      exact ⟨hk, ⟨L, _, hf, hn, e, hd⟩, ih (fun b hb => hs b (by unfold frs; rw [List.filterMap_cons, hf]; exact List.mem_cons_of_mem _ hb)) hr⟩
  exact all X.outer (fun _ hb => hb) I.ok.funs
theorem Inv.stack (I : Inv X pins σ H s) : s.heap.FunFrames X.base X.stack := by
  rcases I.ok.stk with e | ⟨e, hf⟩
  · rw [e]; exact I.funs
  · rw [e]
    obtain ⟨m, hn, _⟩ := I.loc
    refine .cons (by rw [I.ok.kind]; decide) hf hn ?_ I.funs
    exact Heap.get?_none_of_le (Nat.le_trans I.ok.bsz I.ok.above)
theorem Inv.stkSub (I : Inv X pins σ H s) : ∀ b ∈ frs X.stack, b ∈ X.env.locals :: X.fs := fun b hb => by
  rcases I.ok.stk with e | ⟨e, hf⟩
  · rw [e] at hb; exact List.mem_cons_of_mem _ hb
  · rw [e] at hb
    unfold frs at hb
    rw [List.filterMap_cons, hf] at hb
    exact hb
theorem Inv.stkFree (I : Inv X pins σ H s) : ∀ b ∈ frs X.stack, H b = none := fun b hb => by
  rcases List.mem_cons.mp (I.stkSub b hb) with e | hb
  · rw [e]; exact I.free
  · obtain ⟨_, o, ho, _⟩ := I.ok.funs.mem hb
    exact I.base.free b o ho (I.ok.frf b hb) fun z => I.ok.exfs b z hb
theorem Inv.step {g' : Array GenState} {t' : Nat} {d' : Drawn} {ch : List Addr} (I : Inv X pins σ H s)
    (hch : ∀ b ∈ ch, (b ∈ X.ex ∨ X.s₀.heap.objs.size ≤ b) ∧ b ≠ X.env.locals ∧ (∀ x c, X.env.cells.lookup x = some c → c ≠ b) ∧ ∀ p ∈ X.pn ++ pins, p.1 ≠ b)
    (keep : ∀ b o, b ≠ X.env.locals → b ∉ X.fs → b ∉ ch → s.heap.get? b = some o → H b = none → h'.get? b = some o)
    (slot : ∀ b o, b ≠ X.env.locals → b ∈ X.fs → b ∉ ch → s.heap.get? b = some o → H b = none → ∃ sl, h'.get? b = some { o with slots := sl }) (free : ∀ b o, b ∉ ch → s.heap.get? b = some o → H b = none → H' b = none)
    (there : ∀ b o, b ∉ ch → s.heap.get? b = some o → ∃ o', h'.get? b = some o')
    (tups : ∀ b xs, H b = some (.tup xs) → H' b = some (.tup xs)) (frzs : ∀ b o u, H b = some (.frz o u) → H' b = some (.frz o u)) (tbls : ∀ b ps, H b = some (.tbl ps) → ∃ more, H' b = some (.tbl (ps ++ more)))
    (ns : ∀ m, s.heap.Ns X.env.locals m → h'.Ns X.env.locals m) (hok : HOk X.prog X.w H' h') (hg : AllBare g') :
    Inv X pins σ H' { s with heap := h', gens := g', drawn := d', toks := t' } := by
  have neL : ∀ b o, X.s₀.heap.get? b = some o → b ≠ X.env.locals := fun b o e => Nat.ne_of_lt (Nat.lt_of_lt_of_le (Heap.lt_size e) I.ok.above)
  have neC : ∀ b o, X.s₀.heap.get? b = some o → b ∉ X.ex → b ∉ ch := fun b o e hx hb => by
    rcases (hch b hb).1 with z | z
    · exact hx z
    · exact absurd (Nat.lt_of_lt_of_le (Heap.lt_size e) z) (Nat.lt_irrefl _)
  have cellK : ∀ x c, X.env.cells.lookup x = some c → ∀ v, s.heap.IsCell c v → h'.IsCell c v := fun x c e v ⟨o, ho, hd⟩ => by
    have nch : c ∉ ch := fun z => (hch c z).2.2.1 x c e rfl
    by_cases hc : c ∈ X.fs
    · obtain ⟨sl, q⟩ := slot c o (I.cne x c e) hc nch ho (I.freeC x c e)
      exact ⟨_, q, hd⟩
    · exact ⟨o, keep c o (I.cne x c e) hc nch ho (I.freeC x c e), hd⟩
  refine ⟨I.ok, I.os, hg, ⟨fun b o e n hb hx => ?_, fun b o e n hb hx => ?_, fun b o e n hx => ?_, fun b o e hx => ?_, fun b xs e => tups b xs (I.base.tups b xs e), fun b o xs e => frzs b o xs (I.base.frzs b o xs e), fun b ps e => ?_⟩, ?_, fun x c e => ?_, ?_, fun x c e => ?_, fun p hp => ?_, hok, I.len⟩
  · exact keep b o (neL b o e) hb (neC b o e hx) (I.base.keep b o e n hb hx) (I.base.free b o e n hx)
  · obtain ⟨sl, e1⟩ := I.base.slot b o e n hb hx
    obtain ⟨sl', e2⟩ := slot b _ (neL b o e) hb (neC b o e hx) e1 (I.base.free b o e n hx)
    exact ⟨sl', e2⟩
  · obtain ⟨o', e1⟩ := I.base.there b o e hx
    exact free b o' (neC b o e hx) e1 (I.base.free b o e n hx)
  · obtain ⟨o', e1⟩ := I.base.there b o e hx
    exact there b o' (neC b o e hx) e1
  · obtain ⟨m1, e1⟩ := I.base.tbls b ps e
    obtain ⟨m2, e2⟩ := tbls b _ e1
    exact ⟨m1 ++ m2, by rw [e2, Array.append_assoc]⟩
  · obtain ⟨m, hn, hl⟩ := I.loc
    refine ⟨m, ns m hn, fun i x v e1 e2 e3 => ?_⟩
    obtain ⟨u, r, l⟩ := hl i x v e1 e2 e3
    refine ⟨u, r, ?_⟩
    rcases l with l | ⟨k, c, e, z⟩
    · exact .inl l
    · exact .inr ⟨k, c, e, cellK x c e _ z⟩
  · obtain ⟨v, z⟩ := I.cell x c e
    exact ⟨v, cellK x c e v z⟩
  · obtain ⟨m, ⟨o, _, _, ho, _⟩, _⟩ := I.loc
    exact free _ o (fun z => (hch _ z).2.1 rfl) ho I.free
  · obtain ⟨v, o, ho, hd⟩ := I.cell x c e
    exact free c o (fun z => (hch c z).2.2.1 x c e rfl) ho (I.freeC x c e)
  · obtain ⟨e, n, ne, nf, d⟩ := I.pin p hp
    have nch : p.1 ∉ ch := fun z => (hch p.1 z).2.2.2 p hp rfl
    exact ⟨keep p.1 p.2 ne nf nch e n, free p.1 p.2 nch e n, ne, nf, d⟩
theorem Inv.un {t' : Nat} (I : Inv X pins σ H s) (u : Un X.fs [] H H' s.heap h') (hok : HOk X.prog X.w H' h') : Inv X pins σ H' { s with heap := h', toks := t' } := by
  obtain ⟨m, ⟨o, es, ep, ho, r⟩, _⟩ := id I.loc
  obtain ⟨sl, hL⟩ := u.any ho I.free (by simp)
  exact I.step (g' := s.gens) (d' := s.drawn) (ch := []) (fun _ z => nomatch z) (fun b o _ hb _ e n => u.keep b o e n hb (by simp)) (fun b o _ hb _ e n => u.slot b o e n hb (by simp)) (fun b o _ e n => u.free b o e n (by simp)) (fun b o _ e => u.there b o e (by simp)) u.tups u.frzs u.tbls (fun m' hm => by
    obtain ⟨o', es', ep', ho', r'⟩ := hm
    rw [ho] at ho'; cases ho'
    exact ⟨_, es', ep', hL, r'⟩) hok I.bare
theorem Inv.call {g' : Array GenState} {t' : Nat} {d' : Drawn} {ch : List Addr} (I : Inv X pins σ H s) (u : Un (frs X.stack) ch H H' s.heap h') (hok : HOk X.prog X.w H' h') (hg : AllBare g')
    (hch : ∀ b ∈ ch, (b ∈ X.ex ∨ X.s₀.heap.objs.size ≤ b) ∧ b ≠ X.env.locals ∧ (∀ x c, X.env.cells.lookup x = some c → c ≠ b) ∧ ∀ p ∈ X.pn ++ pins, p.1 ≠ b) :
    Inv X pins σ H' { s with heap := h', gens := g', drawn := d', toks := t' } := by
  obtain ⟨m, ⟨o, es, ep, ho, r⟩, _⟩ := id I.loc
  obtain ⟨sl, hL⟩ := u.any ho I.free fun z => (hch _ z).2.1 rfl
  exact I.step (ch := ch) hch (fun b o hL hb hc e n => u.keep b o e n (fun z => (List.mem_cons.mp (I.stkSub b z)).elim hL hb) hc) (fun b o _ _ hc e n => u.any e n hc) (fun b o hc e n => u.free b o e n hc) (fun b o hc e => u.there b o e hc) u.tups u.frzs u.tbls (fun m' hm => by
    obtain ⟨o', es', ep', ho', r'⟩ := hm
    rw [ho] at ho'; cases ho'
    exact ⟨_, es', ep', hL, r'⟩) hok hg
theorem Inv.turned {t' : Nat} {it : Addr} (I : Inv X pins σ H s) (k : ∀ b o, b ≠ it → s.heap.get? b = some o → h'.get? b = some o) (hn : H it = none) (hL : it ≠ X.env.locals)
    (h1 : it ∈ X.ex ∨ X.s₀.heap.objs.size ≤ it) (h2 : ∀ x c, X.env.cells.lookup x = some c → c ≠ it) (h3 : ∀ p ∈ X.pn ++ pins, p.1 ≠ it) : Inv X pins σ H { s with heap := h', toks := t' } := by
  have nit : ∀ b u, H b = some u → b ≠ it := fun b u e z => by rw [z, hn] at e; cases e
  refine I.step (g' := s.gens) (d' := s.drawn) (ch := [it]) (fun b hb => ?_) (fun b o _ _ hc e _ => k b o (fun z => hc (by simp [z])) e) (fun b o _ _ hc e _ => ⟨o.slots, k b o (fun z => hc (by simp [z])) e⟩) (fun _ _ _ _ n => n)
    (fun b o hc e => ⟨o, k b o (fun z => hc (by simp [z])) e⟩) (fun _ _ e => e) (fun _ _ _ e => e) (fun b ps e => ⟨#[], by rw [e]; simp⟩) (fun m hm => ?_) (fun b u e => ?_) I.bare
  · have e : b = it := by simpa using hb
    subst e
    exact ⟨h1, hL, h2, h3⟩
  · obtain ⟨o, es, ep, ho, r⟩ := hm
    exact ⟨o, es, ep, k _ o (Ne.symm hL) ho, r⟩
  · refine (I.hok b u e).stay (fun c v hc q => k c v ?_ q) (fun _ q => q) fun _ _ q => q
    rcases hc with z | z
    · rw [z]; exact nit b u e
    · exact nit c _ z
theorem Inv.tok (I : Inv X pins σ H s) (t : Nat) : Inv X pins σ H { s with toks := t } := I.un (h' := s.heap) (t' := t) Un.refl I.hok
theorem Inv.kept {t' : Nat} (I : Inv X pins σ H s) (k : ∀ b u, s.heap.get? b = some u → h'.get? b = some u) : Inv X pins σ H { s with heap := h', toks := t' } := I.un (Un.kept k) (I.hok.kept k)
theorem Inv.laid {a : Addr} {o : HO} {t' : Nat} (I : Inv X pins σ H s) (k : ∀ b u, s.heap.get? b = some u → h'.get? b = some u) (hp : s.heap.objs.size ≤ a) (new : ObjOk X.prog X.w (upd H a o) h' a o) :
    Inv X pins σ (upd H a o) { s with heap := h', toks := t' } := I.un (Un.laid k hp (I.hok.fresh hp)) (I.hok.laid k hp new)
theorem Inv.write {x e : Addr} {o : HO} {t' : Nat} (I : Inv X pins σ H s) (mu : Mut (H x)) (he : e = x ∨ H e = some (.own x)) (k : ∀ b u, b ≠ e → s.heap.get? b = some u → h'.get? b = some u) (heo : ∃ u, h'.get? e = some u)
    (new : ObjOk X.prog X.w (upd H x o) h' x o) : Inv X pins σ (upd H x o) { s with heap := h', toks := t' } := I.un (Un.write mu he k heo) (I.hok.write mu he k heo new)
theorem Inv.pins_of {pins' : List (Addr × Obj)} (I : Inv X pins σ H s) (h : ∀ p ∈ pins', s.heap.get? p.1 = some p.2 ∧ H p.1 = none ∧ p.1 ≠ X.env.locals ∧ p.1 ∉ X.fs ∧ ∀ v, p.2.data ≠ .cell v) : Inv X pins' σ H s :=
  ⟨I.ok, I.os, I.bare, I.base, I.loc, I.cell, I.free, I.freeC, fun p hp => (List.mem_append.mp hp).elim (fun z => I.pin p (List.mem_append_left _ z)) (h p), I.hok, I.len⟩
theorem nodup_ix {N : List Str} (hN : N.Nodup) {i j : Nat} {x : Str} (a : N[i]? = some x) (b : N[j]? = some x) : i = j := by
  obtain ⟨h1, e1⟩ := List.getElem?_eq_some_iff.mp a
  obtain ⟨h2, e2⟩ := List.getElem?_eq_some_iff.mp b
  exact (List.getElem_inj hN).mp (e1.trans e2.symm)
theorem store_ok2 {M : Model} {A : Around} {E : Value → Shared → Prop} {i : Nat} {x : Str} {v : V} {u : Value} {Q : Unit → Shared → Prop} (I : Inv X pins σ H s) (hN : X.N.Nodup) (hi : X.N[i]? = some x) (hx : Loc X.env.scope x) (r : RelV v u)
    (h : ∀ s', Inv X pins (σ.set i (some v)) H s' → (∃ a, Heap.SameBut a s.heap s'.heap ∧ (a = X.env.locals ∨ X.env.cells.lookup x = some a)) → Q () s') (hf : X.fn x = true ∨ X.env.scope.names.lookup x = some .local := by first | exact .inl rfl | exact .inr rfl | assumption) : wpAny M A (storeName X.env x u) Q E s := by
  obtain ⟨m, hn, hl⟩ := id I.loc
  have hcls : (X.env.scope.kind == .class || (X.env.scope.kind == .module && X.env.locals != X.env.globals)) = false := by rw [I.ok.kind]; rfl
  have hiσ : i < σ.length := by rw [I.len]; exact (List.getElem?_eq_some_iff.mp hi).1
  have cne := I.cne
  have tracked : ∀ {a : Addr} {h' : Heap}, (∃ o, s.heap.get? a = some o ∧ H a = none) → Heap.SameBut a s.heap h' → HOk X.prog X.w H h' := fun {a h'} ha hs b ob e => by
    obtain ⟨_, _, hfree⟩ := ha
    refine (I.hok b ob e).stay (fun c w' hc q => (hs.2 c ?_).trans q) (fun _ q => q) fun _ _ q => q
    rintro rfl
    rcases hc with rfl | hc
    · rw [hfree] at e; cases e
    · rw [hfree] at hc; cases hc
  rcases hx with hk | hk
  · refine wpAny_storeName_local hk hn (fun h' hn' hs => ?_) hcls
    obtain ⟨oL, _, _, hoL, _⟩ := id hn
    refine h _ ⟨I.ok, I.os, I.bare, ⟨fun b o e n hb hx => ?_, fun b o e n hb hx => ?_, I.base.free, fun b o e hx => ?_, I.base.tups, I.base.frzs, I.base.tbls⟩, ⟨_, hn', fun j y v' e1 e2 e3 => ?_⟩, fun y c e => ?_, I.free, I.freeC, fun p hp => ?_, tracked ⟨oL, hoL, I.free⟩ hs, by simpa using I.len⟩ ⟨_, hs, .inl rfl⟩
    · exact (hs.2 b (Nat.ne_of_lt (Nat.lt_of_lt_of_le (Heap.lt_size e) I.ok.above))).trans (I.base.keep b o e n hb hx)
    · obtain ⟨sl, e1⟩ := I.base.slot b o e n hb hx
      exact ⟨sl, (hs.2 b (Nat.ne_of_lt (Nat.lt_of_lt_of_le (Heap.lt_size e) I.ok.above))).trans e1⟩
    · obtain ⟨o', e1⟩ := I.base.there b o e hx
      exact ⟨o', (hs.2 b (Nat.ne_of_lt (Nat.lt_of_lt_of_le (Heap.lt_size e) I.ok.above))).trans e1⟩
    · by_cases hj : j = i
      · subst hj
        rw [hi] at e1; cases e1
        rw [List.getElem?_set_self hiσ] at e2
        cases e2
        exact ⟨u, r, .inl ⟨hk, by simp⟩⟩
      · rw [List.getElem?_set_ne (Ne.symm hj)] at e2
        obtain ⟨u', r', q⟩ := hl j y v' e1 e2 e3
        refine ⟨u', r', ?_⟩
        rcases q with ⟨k, e⟩ | ⟨k, c, e, z⟩
        · refine .inl ⟨k, ?_⟩
          have : y ≠ x := fun e => hj (nodup_ix hN e1 (e ▸ hi))
          simp [this, e]
        · exact .inr ⟨k, c, e, z.sameBut hs (cne y c e)⟩
    · obtain ⟨w', z⟩ := I.cell y c e
      exact ⟨w', z.sameBut hs (cne y c e)⟩
    · obtain ⟨e, n, ne, nf, d⟩ := I.pin p hp
      exact ⟨(hs.2 p.1 ne).trans e, n, ne, nf, d⟩
  · have hfn : X.fn x = true := by
      rcases hf with z | z
      · exact z
      · rw [z] at hk; cases hk
    obtain ⟨c, hc⟩ := I.ok.has x (.inl hk)
    obtain ⟨w', z⟩ := I.cell x c hc
    refine wpAny_storeName_cell I.ok.kind hk hc z (fun h' hc' hs => ?_)
    obtain ⟨oc, hoc, hocd⟩ := id z
    refine h { s with heap := h' } ⟨I.ok, I.os, I.bare, ⟨fun b o e n hb hx => ?_, fun b o e n hb hx => ?_, I.base.free, fun b o e hx => ?_, I.base.tups, I.base.frzs, I.base.tbls⟩, ⟨m, hn.sameBut hs (Ne.symm (cne x c hc)), fun j y v' e1 e2 e3 => ?_⟩, fun y c' e => ?_, I.free, I.freeC, fun p hp => ?_, tracked ⟨oc, hoc, I.freeC x c hc⟩ hs, by simpa using I.len⟩ ⟨c, hs, .inr hc⟩
    · exact (hs.2 b (Nat.ne_of_lt (Nat.lt_of_lt_of_le (Heap.lt_size e) (I.ok.cab x c hfn hc)))).trans (I.base.keep b o e n hb hx)
    · obtain ⟨sl, e1⟩ := I.base.slot b o e n hb hx
      exact ⟨sl, (hs.2 b (Nat.ne_of_lt (Nat.lt_of_lt_of_le (Heap.lt_size e) (I.ok.cab x c hfn hc)))).trans e1⟩
    · obtain ⟨o', e1⟩ := I.base.there b o e hx
      exact ⟨o', (hs.2 b (Nat.ne_of_lt (Nat.lt_of_lt_of_le (Heap.lt_size e) (I.ok.cab x c hfn hc)))).trans e1⟩
    · by_cases hj : j = i
      · subst hj
        rw [hi] at e1; cases e1
        rw [List.getElem?_set_self hiσ] at e2
        cases e2
        exact ⟨u, r, .inr ⟨.inl hk, c, hc, hc'⟩⟩
      · rw [List.getElem?_set_ne (Ne.symm hj)] at e2
        obtain ⟨u', r', q⟩ := hl j y v' e1 e2 e3
        refine ⟨u', r', ?_⟩
        rcases q with q | ⟨k, c', e, z'⟩
        · exact .inl q
        · refine .inr ⟨k, c', e, z'.sameBut hs ?_⟩
          rintro rfl
          exact hj (nodup_ix hN e1 (I.ok.inj _ _ _ e hc ▸ hi))
    · by_cases hcc : c' = c
      · subst hcc; exact ⟨_, hc'⟩
      · obtain ⟨w2, z2⟩ := I.cell y c' e
        exact ⟨w2, z2.sameBut hs hcc⟩
    · obtain ⟨e, n, ne, nf, d⟩ := I.pin p hp
      refine ⟨(hs.2 p.1 ?_).trans e, n, ne, nf, d⟩
      intro q
      rw [q, hoc] at e
      have q' : oc = p.2 := Option.some.inj e
      exact d w' (by rw [← q']; exact hocd)
theorem store_ok {M : Model} {A : Around} {E : Value → Shared → Prop} {i : Nat} {x : Str} {v : V} {u : Value} {Q : Unit → Shared → Prop} (I : Inv X pins σ H s) (hN : X.N.Nodup) (hi : X.N[i]? = some x) (hx : Loc X.env.scope x) (r : RelV v u)
    (h : ∀ s', Inv X pins (σ.set i (some v)) H s' → Q () s') (hf : X.fn x = true ∨ X.env.scope.names.lookup x = some .local := by first | exact .inl rfl | exact .inr rfl | assumption) : wpAny M A (storeName X.env x u) Q E s :=
  store_ok2 I hN hi hx r (fun s' I' _ => h s' I') hf
theorem Inv.call' {s' : Shared} {ch : List Addr} (I : Inv X pins σ H s) (ho : s'.os = s.os) (u : Un (frs X.stack) ch H H' s.heap s'.heap) (hok : HOk X.prog X.w H' s'.heap) (hg : AllBare s'.gens)
    (hch : ∀ b ∈ ch, (b ∈ X.ex ∨ X.s₀.heap.objs.size ≤ b) ∧ b ≠ X.env.locals ∧ (∀ x c, X.env.cells.lookup x = some c → c ≠ b) ∧ ∀ p ∈ X.pn ++ pins, p.1 ≠ b) : Inv X pins σ H' s' := by
  obtain ⟨h', g', d', t', o'⟩ := s'
  have e : o' = s.os := ho
  subst e
  exact I.call (g' := g') (t' := t') (d' := d') u hok hg hch
end
abbrev XK := Value → Option Addr → Hp → Prop
abbrev St := List (Option V)
abbrev VK := V → Hp → Prop
abbrev TE := St → Hp → VK → Prop
abbrev TT := St → Hp → (Bool → Hp → Prop) → Prop
abbrev TA := St → Hp → (List V → Hp → Prop) → Prop
structure Ends where
  nx : St → Hp → Prop
  rt : VK
  bk : St → Hp → Prop := fun _ _ => False
  ct : St → Hp → Prop := fun _ _ => False
abbrev TS := Ends → St → Hp → Prop
def EP (X : Cx) (pins : List (Addr × Obj)) (σ : St) (Q : VK) (u : Value) (s' : Shared) : Prop := ∃ v H', Inv X pins σ H' s' ∧ RelV v u ∧ Q v H'
def TP (X : Cx) (pins : List (Addr × Obj)) (σ : St) (Q : Bool → Hp → Prop) (b : Bool) (s' : Shared) : Prop := ∃ H', Inv X pins σ H' s' ∧ Q b H'
def AP (X : Cx) (pins : List (Addr × Obj)) (σ : St) (Q : List V → Hp → Prop) (us : List Value) (s' : Shared) : Prop := ∃ vs H', Inv X pins σ H' s' ∧ Vals vs us ∧ Q vs H'
def SP (X : Cx) (pins : List (Addr × Obj)) (D : Ends) (f : Flow) (s' : Shared) : Prop :=
  match f with
  | .next => ∃ σ' H', Inv X pins σ' H' s' ∧ D.nx σ' H'
  | .brk => ∃ σ' H', Inv X pins σ' H' s' ∧ D.bk σ' H'
  | .cont => ∃ σ' H', Inv X pins σ' H' s' ∧ D.ct σ' H'
  | .ret u => ∃ v σ' H', Inv X pins σ' H' s' ∧ RelV v u ∧ D.rt v H'
def PE (X : Cx) (e : Expr) (t : TE) : Prop :=
  ∀ (pins : List (Addr × Obj)) (s : Shared) (σ : St) (H : Hp) (Q : VK), Inv X pins σ H s → t σ H Q → wpAny (model X.prog X.w) X.A (eval e X.env) (EP X pins σ Q) X.xe s
def PT (X : Cx) (e : Expr) (t : TT) : Prop :=
  ∀ (pins : List (Addr × Obj)) (s : Shared) (σ : St) (H : Hp) (Q : Bool → Hp → Prop), Inv X pins σ H s → t σ H Q → wpAny (model X.prog X.w) X.A (isTrue e X.env (eval e X.env)) (TP X pins σ Q) X.xe s
def PW (X : Cx) (e : Expr) (t : TT) : Prop :=
  ∀ (whole : Sem Value) (pins : List (Addr × Obj)) (s : Shared) (σ : St) (H : Hp) (Q : Bool → Hp → Prop), Inv X pins σ H s → t σ H Q → wpAny (model X.prog X.w) X.A (isTrue e X.env whole) (TP X pins σ Q) X.xe s
theorem PW.pt {X : Cx} {e : Expr} {t : TT} (h : PW X e t) : PT X e t := h _
def PA (X : Cx) (es : List Expr) (t : TA) : Prop :=
  ∀ (pos : Pos) (pins : List (Addr × Obj)) (s : Shared) (σ : St) (H : Hp) (Q : List V → Hp → Prop), Inv X pins σ H s → t σ H Q → wpAny (model X.prog X.w) X.A (spliced (backTo pos (starEach es X.env))) (AP X pins σ Q) X.xe s
def PS (X : Cx) (st : Stmt) (t : TS) : Prop :=
  ∀ (pins : List (Addr × Obj)) (s : Shared) (σ : St) (H : Hp) (D : Ends), Inv X pins σ H s → t D σ H → wpAny (model X.prog X.w) X.A (exec st X.env) (SP X pins D) X.xe s
def PSs (X : Cx) (st : List Stmt) (t : TS) : Prop :=
  ∀ (pins : List (Addr × Obj)) (s : Shared) (σ : St) (H : Hp) (D : Ends), Inv X pins σ H s → t D σ H → wpAny (model X.prog X.w) X.A (execs st X.env) (SP X pins D) X.xe s
theorem thn {α : Type} {t : Sem α} {Q Q' : α → Shared → Prop} {M : Model} {A : Around} {E : Value → Shared → Prop} {s : Shared} (h : wpAny M A t Q E s) (hQ : ∀ a s, Q a s → Q' a s) : wpAny M A t Q' E s := wpAny_mono h hQ fun _ _ x => x
end L2
namespace L2
open PySem PySem.Spec PyProof.Rows
section
variable {X : Cx}
theorem bin {a b : Expr} {ta tb : TE} (ha : PE X a ta) (hb : PE X b tb) {pins : List (Addr × Obj)} {s : Shared} {σ : St} {H : Hp} {R : V → V → Hp → Prop} (I : Inv X pins σ H s) (h : ta σ H fun x H1 => tb σ H1 fun y H2 => R x y H2)
    {α : Type} {Q : α → Shared → Prop} {f : Value → Value → Sem α}
    (hf : ∀ v u s2 x y H2, Inv X pins σ H2 s2 → RelV x v → RelV y u → R x y H2 → wpAny (model X.prog X.w) X.A (f v u) Q X.xe s2) :
    wpAny (model X.prog X.w) X.A (eval a X.env) (fun v s₁ => wpAny (model X.prog X.w) X.A (eval b X.env) (fun u s₂ => wpAny (model X.prog X.w) X.A (f v u) Q X.xe s₂) X.xe s₁) X.xe s := by
  refine thn (ha pins s σ H _ I h) fun v s1 ⟨x, H1, I1, r1, q1⟩ => ?_
  refine thn (hb pins s1 σ H1 _ I1 q1) fun u s2 ⟨y, H2, I2, r2, q2⟩ => ?_
  exact hf v u s2 x y H2 I2 r1 r2 q2
def tVar (i : Nat) : TE := fun σ H Q => ∃ v, σ[i]? = some (some v) ∧ Q v H
def tC (v : V) : TE := fun _ H Q => Q v H
theorem pe_var {i : Nat} {x : Str} {pos : Pos} (hN : X.N[i]? = some x) (hv : Vis X.env.scope x) (hd : (x == ("__debug__" : Str)) = false := by decide) (hcd : (x == ("__classdict__" : Str)) = false := by decide) : PE X (.Name x pos) (tVar i) := by
  intro pins s σ H Q I h
  obtain ⟨v, e, h⟩ := h
  obtain ⟨m, hn, hl⟩ := I.loc
  obtain ⟨u, r, l⟩ := hl i x v hN e hv
  have fin : EP X pins σ Q u s := ⟨v, H, I, r, h⟩
  rcases l with ⟨hk, hm⟩ | ⟨hk, c, hc, hcell⟩
  · exact wpAny_Name (wpAny_loadName_local I.ok.kind hk hn hm fin) hd
  · rcases hk with hk | hk
    · exact wpAny_Name (wpAny_loadName_cell I.ok.kind hk hc hcell fin) hd
    · exact wpAny_Name (wpAny_loadName_free I.ok.kind hk hc hcell fin hcd) hd
theorem pe_int {i j pos} : PE X (.Constant (.int i) j pos) (tC (.int i)) := fun _ _ _ H _ I h => wpAny_Constant_int ⟨.int i, H, I.tok _, ⟨_, rfl⟩, h⟩
theorem pe_bl {b j pos} : PE X (.Constant (.bool b) j pos) (tC (.bl b)) := fun _ _ _ H _ I h => Constant_bool ⟨.bl b, H, I, rfl, h⟩
theorem pe_str {x j pos} : PE X (.Constant (.str x) j pos) (tC (.str x)) := fun _ _ _ H _ I h => Calls.Constant_str ⟨.str x, H, I.tok _, ⟨_, rfl⟩, h⟩
def Gl (X : Cx) (x : Str) : Prop := X.env.kindOf x = some .globalImplicit
theorem ld_glob {E : Value → Shared → Prop} {pins : List (Addr × Obj)} {s : Shared} {σ : St} {H : Hp} {x : Str} {u : Value} {pos : Pos} {Q : Value → Shared → Prop} (I : Inv X pins σ H s) (hg : Gl X x) (hm : X.mg x = some u) (h : Q u s)
    (hd : (x == ("__debug__" : Str)) = false := by decide) : wpAny (model X.prog X.w) X.A (eval (.Name x pos) X.env) Q E s :=
  Calls.Name_function_global I.ok.kind hg (Calls.loadGlobal_global (by rw [I.ok.glob]; exact I.mod.glob.keeps I.bk) hm h) hd
theorem ld_blt {E : Value → Shared → Prop} {pins : List (Addr × Obj)} {s : Shared} {σ : St} {H : Hp} {x : Str} {u : Value} {pos : Pos} {Q : Value → Shared → Prop} (I : Inv X pins σ H s) (hg : Gl X x) (hm : X.mg x = none) (hv : bootBuiltins x = some u) (h : Q u s)
    (hn : x ≠ "__name__" := by decide) (hd : (x == ("__debug__" : Str)) = false := by decide) : wpAny (model X.prog X.w) X.A (eval (.Name x pos) X.env) Q E s := by
  obtain ⟨mb, h1, h2⟩ := I.mod.blt
  exact Calls.Name_function_global I.ok.kind hg (Calls.loadGlobal_builtin (by rw [I.ok.glob]; exact I.mod.glob.keeps I.bk) hm (by rw [I.ok.blt]; exact h1.keeps I.bk) ((h2 x hn).trans hv) h) hd
theorem pe_glob {x : Str} {v : V} {u : Value} {pos : Pos} (hg : Gl X x) (hm : X.mg x = some u) (r : RelV v u) (hd : (x == ("__debug__" : Str)) = false := by decide) : PE X (.Name x pos) (tC v) :=
  fun _ _ _ H _ I h => ld_glob I hg hm ⟨v, H, I, r, h⟩ hd
variable {a b : Expr} {ta tb : TE} {pos : Pos}
def PC (X : Cx) (op : CmpOp) (a b : Expr) (t : TE) : Prop :=
  ∀ (pins : List (Addr × Obj)) (s : Shared) (σ : St) (H : Hp) (Q : VK), Inv X pins σ H s → t σ H Q →
    wpAny (model X.prog X.w) X.A (eval a X.env) (fun v s₁ => wpAny (model X.prog X.w) X.A (eval b X.env) (fun u s₂ => wpAny (model X.prog X.w) X.A (compareOp op v u) (EP X pins σ Q) X.xe s₂) X.xe s₁) X.xe s
def tB (t : TE) : TT := fun σ H Q => t σ H fun x H1 => ∃ c, x = .bl c ∧ Q c H1
theorem pt_cmp {op : CmpOp} {t : TE} (h : PC X op a b t) (h1 : behindInMarks op b = false := by first | exact nobehind _ (by decide) (by decide) | rfl) : PT X (.Compare a [op] [b] pos) (tB t) := by
  intro pins s σ H Q I hw
  refine wpAny_isTrue_Compare1 (thn (h pins s σ H _ I hw) fun v s1 h1 => thn h1 fun u s2 h2 => thn h2 fun c s3 ⟨x, H1, I1, r1, q1⟩ => ?_) h1
  obtain ⟨d, rfl, q⟩ := q1
  cases r1
  exact wpAny_truthy_bool ⟨H1, I1, q⟩
theorem pt_val {e : Expr} {t : TE} (h : PE X e t) (he : ∀ whole, isTrue e X.env whole = (do let v ← whole; standAt e.pos; holding [v] (truthy v)) := by intro _; rfl) : PT X e (tB t) := by
  intro pins s σ H Q I hw
  refine isTrue_plain (thn (h pins s σ H _ I hw) fun v s1 ⟨x, H1, I1, r1, q1⟩ => ?_) (he _)
  obtain ⟨d, rfl, q⟩ := q1
  cases r1
  exact wpAny_truthy_bool ⟨H1, I1, q⟩
variable {tA tB' : TT} {rest : List Expr}
def tOr (t u : TT) : TT := fun σ H Q => t σ H fun c H1 => if c = true then Q true H1 else u σ H1 Q
def tNot (t : TT) : TT := fun σ H Q => t σ H fun c H1 => Q (!c) H1
theorem pw_or1 (ha : PT X a tA) : PW X (.BoolOp .Or [a] pos) tA := by
  intro wh pins s σ H Q I h
  refine isTrue_or (thn (ha pins s σ H Q I h) fun c s1 e => ?_)
  cases c with
  | false => exact isTrue_or_nil e
  | true => exact e
theorem pw_or (ha : PT X a tA) (hb : PW X (.BoolOp .Or (b :: rest) pos) tB') : PW X (.BoolOp .Or (a :: b :: rest) pos) (tOr tA tB') := by
  intro wh pins s σ H Q I h
  refine isTrue_or (thn (ha pins s σ H _ I h) fun c s1 ⟨H1, I1, q1⟩ => ?_)
  cases c with
  | true => exact ⟨H1, I1, q1⟩
  | false => exact hb wh pins s1 σ H1 Q I1 q1
theorem pt_not (ha : PT X a tA) : PT X (.UnaryOp .Not a pos) (tNot tA) := by
  intro pins s σ H Q I h
  exact isTrue_not (ha pins s σ H (fun c H1 => Q (!c) H1) I h)
def tAndV (ta tb : TE) : TE := fun σ H Q => ta σ H fun x H1 => ∃ c, x = .bl c ∧ if c = true then tb σ H1 Q else Q (.bl false) H1
theorem pe_one {op} {t : TE} (h : PE X a t) : PE X (.BoolOp op [a] pos) t := fun pins s σ H Q I hw => BoolOp_one (h pins s σ H Q I hw)
theorem pe_and (ha : PE X a ta) (hb : PE X (.BoolOp .And (b :: rest) pos) tb) : PE X (.BoolOp .And (a :: b :: rest) pos) (tAndV ta tb) := by
  intro pins s σ H Q I h
  refine BoolOp_and (thn (ha pins s σ H _ I h) fun v s1 ⟨x, H1, I1, r1, q1⟩ => ?_)
  obtain ⟨c, rfl, q1⟩ := q1
  cases r1
  refine wpAny_truthy_bool ?_
  cases c with
  | true => exact hb pins s1 σ H1 Q I1 q1
  | false => exact ⟨.bl false, H1, I1, rfl, q1⟩
end
end L2
namespace L2
open PySem PySem.Spec PyProof.Rows
def SqL (K : PySem.W.Frag) (H : Hp) (a : Addr) (xs : List V) : Prop :=
  Rd H a (.lst xs) ∨
    ∃ (o : Obj) (its : Array Value) (n : Nat), K.lookup a = some o ∧ o.cls = .type "list" ∧ o.dict = none ∧ o.data = .seq its n ∧ its.size ≤ sizeLine ∧ Vals xs its.toList
def SqT (K : PySem.W.Frag) (H : Hp) (a : Addr) (xs : List V) : Prop :=
  Rd H a (.tup xs) ∨
    ∃ (o : Obj) (its : Array Value) (n : Nat), K.lookup a = some o ∧ o.cls = .type "tuple" ∧ o.data = .seq its n ∧ its.size ≤ sizeLine ∧ Vals xs its.toList
def absV : Value → Option V
  | .none => some .non
  | .bool b => some (.bl b)
  | .int i _ => some (.int i)
  | .str x _ => some (.str x)
  | .bytes b _ => some (.byt b)
  | .float b _ => some (.flt b)
  | .ref a => some (.ref a)
  | .type n => some (.ty n)
  | _ => none
theorem RelV.abs {x : V} {u : Value} (r : RelV x u) : absV u = some x := by
  cases x with
  | non => cases r; rfl
  | bl _ => cases r; rfl
  | int _ => obtain ⟨t, rfl⟩ := r; rfl
  | str _ => obtain ⟨t, rfl⟩ := r; rfl
  | byt _ => obtain ⟨t, rfl⟩ := r; rfl
  | flt _ => obtain ⟨t, rfl⟩ := r; rfl
  | ref _ => cases r; rfl
  | ty _ => cases r; rfl
theorem RelV.inj {x y : V} {u : Value} (r : RelV x u) (q : RelV y u) : x = y := Option.some.inj (r.abs.symm.trans q.abs)
theorem Vals.inj : ∀ {xs ys : List V} {us : List Value}, Vals xs us → Vals ys us → xs = ys
  | _, _, _, .nil, .nil => rfl
  | _, _, _, .cons r t, .cons r' t' => by rw [r.inj r', Vals.inj t t']
section
variable {X : Cx} {pins : List (Addr × Obj)} {σ : St} {H : Hp} {s : Shared} {a : Addr} {xs ys : List V}
theorem Inv.list (I : Inv X pins σ H s) (h : SqL X.K H a xs) : ∃ its : List Value, Vals xs its ∧ PlainL s.heap a its.toArray ∧ xs.length ≤ sizeLine := by
  rcases h with h | ⟨o, its, n, hk, hc, hd, hs, hz, r⟩
  · obtain ⟨z, its, n, r, e⟩ := h.ok I.hok
    exact ⟨its, r, ⟨_, n, e, rfl, rfl, rfl⟩, z⟩
  · refine ⟨its.toList, r, ⟨o, n, I.kIn a o hk, hc, hd, by simpa using hs⟩, ?_⟩
    have e := r.length
    simp only [Array.length_toList] at e
    omega
theorem Inv.tuple (I : Inv X pins σ H s) (h : SqT X.K H a xs) : ∃ its : List Value, Vals xs its ∧ IsTup s.heap a its.toArray ∧ xs.length ≤ sizeLine := by
  rcases h with h | ⟨o, its, n, hk, hc, hs, hz, r⟩
  · obtain ⟨z, its, r, p⟩ := h.ok I.hok
    exact ⟨its, r, p, z⟩
  · refine ⟨its.toList, r, ⟨o, I.kIn a o hk, hc, n, by simpa using hs⟩, ?_⟩
    have e := r.length
    simp only [Array.length_toList] at e
    omega
theorem Inv.list_inj (I : Inv X pins σ H s) (h : SqL X.K H a xs) (h' : SqL X.K H a ys) : xs = ys := by
  obtain ⟨its, r, ⟨o, n, e, _, _, d⟩, _⟩ := I.list h
  obtain ⟨its', r', ⟨o', n', e', _, _, d'⟩, _⟩ := I.list h'
  rw [e] at e'; cases e'
  rw [d] at d'
  injection d' with d1 _
  have : its = its' := by simpa using congrArg Array.toList d1
  subst this
  exact r.inj r'
theorem Inv.tuple_inj (I : Inv X pins σ H s) (h : SqT X.K H a xs) (h' : SqT X.K H a ys) : xs = ys := by
  obtain ⟨its, r, ⟨o, e, _, n, d⟩, _⟩ := I.tuple h
  obtain ⟨its', r', ⟨o', e', _, n', d'⟩, _⟩ := I.tuple h'
  rw [e] at e'; cases e'
  rw [d] at d'
  injection d' with d1 _
  have : its = its' := by simpa using congrArg Array.toList d1
  subst this
  exact r.inj r'
end
section
variable {X : Cx} {st : Stmt} {rest : List Stmt} {t u : TS} {e : Expr} {te : TE} {pos : Pos}
def tNext : TS := fun D σ H => D.nx σ H
def tSeq (t u : TS) : TS := fun D σ H => t { D with nx := u D } σ H
theorem pss_nil : PSs X [] tNext := fun _ _ σ H _ I h => wpAny_execs_nil ⟨σ, H, I, h⟩
theorem pss_cons (h1 : PS X st t) (h2 : PSs X rest u) : PSs X (st :: rest) (tSeq t u) := by
  intro pins s σ H D I h
  refine wpAny_execs_cons (thn (h1 pins s σ H { D with nx := u D } I h) fun f s1 q => ?_)
  cases f with
  | next =>
    obtain ⟨σ', H', I', q⟩ := q
    exact h2 pins s1 σ' H' D I' q
  | ret v => exact q
  | brk => exact q
  | cont => exact q
theorem pss_one (h1 : PS X st t) : PSs X [st] t := by
  intro pins s σ H D I h
  refine wpAny_execs_cons (thn (h1 pins s σ H D I h) fun f s1 q => ?_)
  cases f with
  | next => exact wpAny_execs_nil q
  | ret v => exact q
  | brk => exact q
  | cont => exact q
theorem Inv.quiet {pins : List (Addr × Obj)} {σ : St} {H : Hp} {s : Shared} (I : Inv X pins σ H s) : interactive X.env = false := by simp [interactive, I.ok.kind]
def tDrop (te : TE) : TS := fun D σ H => te σ H fun _ H1 => D.nx σ H1
theorem ps_expr (he : PE X e te) (hs : swapsWith e none pos.line X.env = pure false := by rfl) : PS X (.Expr e pos) (tDrop te) := by
  intro pins s σ H D I h
  exact wpAny_Expr_any (thn (he pins s σ H _ I h) fun v s1 ⟨x, H1, I1, r1, q1⟩ => ⟨σ, H1, I1, q1⟩) I.quiet hs
def tRet (te : TE) : TS := fun D σ H => te σ H D.rt
theorem ps_ret (he : PE X e te) : PS X (.Return (some e) pos) (tRet te) := by
  intro pins s σ H D I h
  exact wpAny_Return_some (thn (he pins s σ H _ I h) fun v s1 ⟨x, H1, I1, r1, q1⟩ => ⟨x, σ, H1, I1, r1, q1⟩)
def tIfS (c : TT) (t u : TS) : TS := fun D σ H => c σ H fun b H1 => if b = true then t D σ H1 else u D σ H1
theorem ps_if {c : Expr} {a b : List Stmt} {tc : TT} (hc : PT X c tc) (ha : PSs X a t) (hb : PSs X b u) : PS X (.If c a b pos) (tIfS tc t u) := by
  intro pins s σ H D I h
  refine wpAny_If (thn (hc pins s σ H _ I h) fun d s1 ⟨H1, I1, q1⟩ => ?_)
  cases d with
  | true => exact ha pins s1 σ H1 D I1 q1
  | false => exact hb pins s1 σ H1 D I1 q1
end
abbrev TG := V → St → Hp → (St → Hp → Prop) → Prop
abbrev TGs := List V → St → Hp → (St → Hp → Prop) → Prop
def PG (X : Cx) (target : Expr) (t : TG) : Prop :=
  ∀ (pins : List (Addr × Obj)) (s : Shared) (σ : St) (H : Hp) (v : V) (u : Value) (Q : St → Hp → Prop), Inv X pins σ H s → RelV v u → t v σ H Q →
    wpAny (model X.prog X.w) X.A (assign target X.env u) (fun _ s' => ∃ σ' H', Inv X pins σ' H' s' ∧ Q σ' H') X.xe s
def PGs (X : Cx) (ts : List Expr) (t : TGs) : Prop :=
  ∀ (pins : List (Addr × Obj)) (s : Shared) (σ : St) (H : Hp) (vs : List V) (us : List Value) (Q : St → Hp → Prop), Inv X pins σ H s → Vals vs us → t vs σ H Q →
    wpAny (model X.prog X.w) X.A (assignInOrder ((assignEach ts X.env).map (·.2)) us) (fun _ s' => ∃ σ' H', Inv X pins σ' H' s' ∧ Q σ' H') X.xe s
abbrev TSet := V → V → V → Hp → (Hp → Prop) → Prop
def PSet (X : Cx) (t : TSet) : Prop :=
  ∀ (pins : List (Addr × Obj)) (s : Shared) (σ : St) (H : Hp) (o i v : V) (ov iv u : Value) (Q : Hp → Prop), Inv X pins σ H s → RelV o ov → RelV i iv → RelV v u → t o i v H Q →
    wpAny (model X.prog X.w) X.A (setItem ov iv u) (fun _ s' => ∃ H', Inv X pins σ H' s' ∧ Q H') X.xe s
section
variable {X : Cx} {pos : Pos}
def gName (i : Nat) : TG := fun v σ H Q => Q (σ.set i (some v)) H
theorem pg_name {i : Nat} {x : Str} (hN : X.N.Nodup) (hi : X.N[i]? = some x) (hx : Loc X.env.scope x) (hf : X.fn x = true ∨ X.env.scope.names.lookup x = some .local := by first | exact .inl rfl | exact .inr rfl | assumption) : PG X (.Name x pos) (gName i) := by
  intro pins s σ H v u Q I r h
  exact wpAny_assign_Name (store_ok I hN hi hx r (fun s' I' => ⟨_, H, I', h⟩) hf)
def gNil : TGs := fun vs σ H Q => vs = [] ∧ Q σ H
def gCons (t : TG) (u : TGs) : TGs := fun vs σ H Q => ∃ v r, vs = v :: r ∧ t v σ H fun σ' H' => u r σ' H' Q
theorem pgs_nil : PGs X [] gNil := by
  intro pins s σ H vs us Q I r h
  obtain ⟨e, h⟩ := h
  subst e
  cases r
  exact assignInOrder_nil ⟨σ, H, I, h⟩
theorem pgs_cons {e : Expr} {es : List Expr} {t : TG} {u : TGs} (h1 : PG X e t) (h2 : PGs X es u)
    (hs : (assignEach (e :: es) X.env).map (·.2) = assign e X.env :: (assignEach es X.env).map (·.2) := by rfl) : PGs X (e :: es) (gCons t u) := by
  intro pins s σ H vs us Q I r h
  obtain ⟨v, vr, e1, h⟩ := h
  subst e1
  cases r with
  | cons r rr =>
    rw [hs]
    refine assignInOrder_cons (thn (h1 pins s σ H _ _ _ I r h) fun _ s1 ⟨σ1, H1, I1, q1⟩ => ?_)
    exact h2 pins s1 σ1 H1 _ _ Q I1 rr q1
def gTup (K : PySem.W.Frag) (n : Nat) (t : TGs) : TG := fun v σ H Q => ∃ a xs, v = .ref a ∧ SqT K H a xs ∧ xs.length = n ∧ t xs σ H Q
theorem pg_tup {es : List Expr} {k : Nat} {t : TGs} {n : Nat} (hc : X.calm = true) (h : PGs X es t)
    (hn : (assignEach es X.env).length = n := by rfl) (hst : (assignEach es X.env).findIdx? (·.1) = none := by rfl) : PG X (.Tuple es k pos) (gTup X.K n t) := by
  intro pins s σ H v u Q I r hw
  obtain ⟨a, xs, e1, hq, hl, hw⟩ := hw
  subst e1
  cases r
  obtain ⟨its, rv, ht, hz⟩ := I.tuple hq
  refine assign_Tuple_tuple (I.ok.hd hc) ht (by simp [hn, ← hl, rv.length]) hst fun h' hx => ?_
  have I1 : Inv X pins σ H { s with heap := h' } := I.kept (t' := s.toks) fun b o e => hx b o (Nat.ne_of_lt (Heap.lt_size e)) e
  exact h pins _ σ H xs _ Q I1 (by simpa using rv) hw
def gSub (to ti : TE) (t : TSet) : TG := fun v σ H Q => to σ H fun o H1 => ti σ H1 fun i H2 => t o i v H2 fun H3 => Q σ H3
theorem pg_sub {o i : Expr} {to ti : TE} {t : TSet} (ho : PE X o to) (hi : PE X i ti) (hs : PSet X t)
    (ha : ∀ v, assign (.Subscript o i pos) X.env v = (do
      let ov ← holding [v] (eval o X.env)
      let iv ← holding [v, ov] (eval i X.env)
      standAt pos
      holding [v, ov, iv] (setItem ov iv v)
      release [v, ov, iv] []) := by intro _; rfl) : PG X (.Subscript o i pos) (gSub to ti t) := by
  intro pins s σ H v u Q I r h
  rw [ha]
  refine wpAny_bind (wpAny_holding (thn (ho pins s σ H _ I h) fun ov s1 ⟨x, H1, I1, r1, q1⟩ => ?_))
  refine wpAny_bind (wpAny_holding (thn (hi pins s1 σ H1 _ I1 q1) fun iv s2 ⟨y, H2, I2, r2, q2⟩ => ?_))
  refine wpAny_bind (wpAny_standAt (wpAny_bind (wpAny_holding (thn (hs pins s2 σ H2 x y v ov iv u _ I2 r1 r2 r q2) fun _ s3 ⟨H3, I3, q3⟩ => ?_))))
  exact wpAny_release ⟨σ, H3, I3, q3⟩
def tAsg (te : TE) (g : TG) : TS := fun D σ H => te σ H fun x H1 => g x σ H1 D.nx
theorem ps_asg {tg e : Expr} {te : TE} {g : TG} (he : PE X e te) (hg : PG X tg g) (hs : swapsWithSole [tg] e pos.line X.env = pure false := by rfl) (hw : swappedStores [tg] e X.env = pure none := by rfl)
    (h1 : (assignEach [tg] X.env).map (·.2) = [assign tg X.env] := by rfl) : PS X (.Assign [tg] e pos) (tAsg te g) := by
  intro pins s σ H D I h
  refine wpAny_Assign_stores (thn (he pins s σ H _ I h) fun v s1 ⟨x, H1, I1, r1, q1⟩ => ?_) hs hw
  rw [h1]
  exact thn (hg pins s1 σ H1 x v _ I1 r1 q1) fun _ s2 q => q
theorem ps_set {i : Nat} {x : Str} {e : Expr} {te : TE} {pos' : Pos} (hN : X.N.Nodup) (hi : X.N[i]? = some x) (hx : Loc X.env.scope x) (he : PE X e te) (hs : swapsWith e (some (.Name x pos')) pos.line X.env = pure false := by rfl) (hf : X.fn x = true ∨ X.env.scope.names.lookup x = some .local := by first | exact .inl rfl | exact .inr rfl | assumption) :
    PS X (.Assign [.Name x pos'] e pos) (tAsg te (gName i)) := by
  intro pins s σ H D I h
  refine wpAny_Assign_Name (thn (he pins s σ H _ I h) fun v s1 ⟨y, H1, I1, r1, q1⟩ => ?_) hs
  exact store_ok I1 hN hi hx r1 (fun s2 I2 => ⟨_, H1, I2, q1⟩) hf
def tPar (i j : Nat) (ta : TA) : TS := fun D σ H => ta σ H fun vs H1 => ∃ v w, vs = [v, w] ∧ D.nx ((σ.set i (some v)).set j (some w)) H1
theorem ps_par {i j : Nat} {x y : Str} {a b : Expr} {ta : TA} {px py pt : Pos} {kt k2 pt2} (hc : X.calm = true) (hN : X.N.Nodup) (hi : X.N[i]? = some x) (hj : X.N[j]? = some y) (hij : i ≠ j)
    (hx : X.env.scope.names.lookup x = some .local) (hy : X.env.scope.names.lookup y = some .local) (ha : PA X [a, b] ta)
    (hw : swappedStores [.Tuple [.Name x px, .Name y py] kt pt] (.Tuple [a, b] k2 pt2) X.env = pure (some [x, y]))
    (hs : swapsWithSole [.Tuple [.Name x px, .Name y py] kt pt] (.Tuple [a, b] k2 pt2) pos.line X.env = pure false := by rfl) :
    PS X (.Assign [.Tuple [.Name x px, .Name y py] kt pt] (.Tuple [a, b] k2 pt2) pos) (tPar i j ta) := by
  intro pins s σ H D I h
  rw [exec_Assign_arm]
  refine wpAny_bind (wpAny_standAt ?_)
  rw [hs]
  refine wpAny_bind (wpAny_pure ?_)
  rw [if_neg (by decide)]
  refine wpAny_bind (Tuple_ (thn (ha _ pins s σ H _ I h) fun us s1 ⟨vs, H1, I1, r1, q1⟩ => ?_))
  obtain ⟨v, w, e1, q1⟩ := q1
  subst e1
  obtain ⟨u1, u2, rfl, rv, rw'⟩ : ∃ u1 u2, us = [u1, u2] ∧ RelV v u1 ∧ RelV w u2 := by
    cases r1 with
    | cons p q =>
      cases q with
      | cons p' q' =>
        cases q'
        exact ⟨_, _, rfl, p, p'⟩
  refine wpAny_newObj_type ?_ (by show 2 ≤ sizeLine; decide)
  have I2 : Inv X pins σ H1 { s1 with heap := s1.heap.push { cls := .type "tuple", data := .seq [u1, u2].toArray } } := I1.kept (t' := s1.toks) fun b o e => Heap.get?_push_of_some _ e
  rw [hw]
  refine wpAny_bind (wpAny_pure ?_)
  show wpAny (model X.prog X.w) X.A (do rule "assign.swapped-stores"; let items ← unpackItems (.ref s1.heap.objs.size) 2 none; assignInOrder [fun v => bindName X.env y v, fun v => bindName X.env x v] items.reverse; pure Flow.next) _ _ _
  refine wpAny_bind (wpAny_rule (wpAny_bind (unpackItems_tuple (items := #[u1, u2]) (I.ok.hd hc) (IsTup.new s1.heap _) fun h' hx' => ?_)))
  have I3 := I2.kept (h' := h') (t' := s1.toks) fun b o e => hx' b o (Nat.ne_of_lt (Heap.lt_size e)) e
  show wpAny _ _ (assignInOrder [fun v => bindName X.env y v, fun v => bindName X.env x v] [u2, u1] >>= fun _ => pure Flow.next) _ _ _
  refine wpAny_bind (assignInOrder_cons (wpAny_bindName (store_ok I3 hN hj (.inl hy) rw' (fun s2 I4 => ?_) (.inr hy))))
  refine assignInOrder_cons (wpAny_bindName (store_ok I4 hN hi (.inl hx) rv (fun s3 I5 => assignInOrder_nil (wpAny_pure ?_)) (.inr hx)))
  rw [List.set_comm _ _ (Ne.symm hij)] at I5
  exact ⟨_, H1, I5, q1⟩
end
section
variable {X : Cx} {pos : Pos}
def tWhile (c : TT) (tb : TS) : TS := fun D σ H => ∃ W : Nat → St → Hp → Prop, (∃ m, W m σ H) ∧ ∀ m σ H, W m σ H →
  c σ H fun b H1 => if b = true then ∃ N : St → Hp → Prop, (∀ σ' H', N σ' H' → ∃ m', m' < m ∧ W m' σ' H') ∧ tb { D with nx := N, ct := N, bk := D.nx } σ H1 else D.nx σ H1
theorem ps_while {c : Expr} {body : List Stmt} {tc : TT} {tb : TS} (hp : PassesOwn (model X.prog X.w) X.A X.env X.xe) (hc : PT X c tc) (hb : PSs X body tb) : PS X (.While c body [] pos) (tWhile tc tb) := by
  intro pins s σ H D I h
  obtain ⟨W, ⟨m0, w0⟩, turn⟩ := h
  refine wpAny_While (codeAny_whileLoop (fun n s' => ∃ σ' H', Inv X pins σ' H' s' ∧ W n σ' H') ?_ m0 ⟨σ, H, I, w0⟩)
  rintro n s1 ⟨σ1, H1, I1, w1⟩
  refine wpAny_passesOwn hp (thn (hc pins s1 σ1 H1 _ I1 (turn n σ1 H1 w1)) fun b s2 ⟨H2, I2, q2⟩ => ?_)
  cases b with
  | true =>
    obtain ⟨N, hN, q2⟩ := q2
    rw [if_pos rfl]
    refine wpAny_passesOwn hp (thn (hb pins s2 σ1 H2 _ I2 q2) fun f s3 q3 => ?_)
    cases f with
    | next =>
      obtain ⟨σ3, H3, I3, n3⟩ := q3
      obtain ⟨m', hm, w3⟩ := hN σ3 H3 n3
      exact ⟨m', hm, σ3, H3, I3, w3⟩
    | cont =>
      obtain ⟨σ3, H3, I3, n3⟩ := q3
      obtain ⟨m', hm, w3⟩ := hN σ3 H3 n3
      exact ⟨m', hm, σ3, H3, I3, w3⟩
    | brk => exact q3
    | ret v => exact q3
  | false =>
    rw [if_neg Bool.false_ne_true]
    exact wpAny_execs_nil ⟨σ1, H2, I2, q2⟩
end
structure It where
  go : Nat → Hp → Prop
  yld : Nat → Hp → V → Hp → Prop
  stop : Nat → Hp → Prop
def FpOk (X : Cx) (pins : List (Addr × Obj)) (H : Hp) (b : Addr) : Prop :=
  H b = none ∧ b ≠ X.env.locals ∧ b ∉ X.fs ∧ (b ∈ X.ex ∨ X.s₀.heap.objs.size ≤ b) ∧ (∀ x c, X.env.cells.lookup x = some c → c ≠ b) ∧ ∀ p ∈ X.pn ++ pins, p.1 ≠ b
theorem Inv.fpOk {X : Cx} {pins : List (Addr × Obj)} {σ : St} {H H' : Hp} {s : Shared} {b : Addr} (I : Inv X pins σ H s) (hb : s.heap.objs.size ≤ b) (hn : H' b = none) : FpOk X pins H' b := by
  refine ⟨hn, Nat.ne_of_gt (Nat.lt_of_lt_of_le I.lt hb), I.nofs hb, .inr (Nat.le_trans I.sz hb), fun x c e z => ?_, fun p hp z => ?_⟩
  · obtain ⟨v, q⟩ := I.cell x c e
    exact absurd (Nat.lt_of_lt_of_le q.lt (by rw [z]; exact hb)) (Nat.lt_irrefl _)
  · exact absurd (Nat.lt_of_lt_of_le (Heap.lt_size (I.pin p hp).1) (by rw [z]; exact hb)) (Nat.lt_irrefl _)
structure Turn (P : Program) (w : World) (K : PySem.W.Frag) (tg : Expr) (J : It) (fp : List Addr) (it : Addr) (tn : Nat → Heap → Prop) : Prop where
  mem : it ∈ fp
  obj : ∀ i h, tn i h → ∀ b ∈ fp, ∃ o, h.get? b = some o ∧ ∀ v, o.data ≠ .cell v
  keep : ∀ i h h', tn i h → (∀ b ∈ fp, ∀ o, h.get? b = some o → h'.get? b = some o) → tn i h'
  item : ∀ (X : Cx), X.prog = P → X.w = w → X.K = K → X.calm = true → ∀ (i : Nat) (pins : List (Addr × Obj)) (s : Shared) (σ : St) (H : Hp) (E : Value → Shared → Prop), Inv X pins σ H s → (∀ b ∈ fp, FpOk X pins H b) → tn i s.heap → J.go i H →
    wpAny (model P w) X.A (pyNext (.ref it)) (fun r s1 => ∃ u, r = some u ∧
      wpAny (model P w) X.A (letOwnedTupleGo tg (.ref it) u) (fun _ s2 => ∃ x H', Inv X pins σ H' s2 ∧ RelV x u ∧ J.yld i H x H' ∧ tn (i + 1) s2.heap ∧ ∀ b ∈ fp, H' b = none) E s1) E s
  done : ∀ (X : Cx), X.prog = P → X.w = w → X.K = K → X.calm = true → ∀ (i : Nat) (pins : List (Addr × Obj)) (s : Shared) (σ : St) (H : Hp) (E : Value → Shared → Prop), Inv X pins σ H s → (∀ b ∈ fp, FpOk X pins H b) → tn i s.heap → J.stop i H →
    wpAny (model P w) X.A (pyNext (.ref it)) (fun r s1 => r = none ∧ Inv X pins σ H s1) E s
  self : ∀ (A : Around) (i : Nat) (s : Shared) (Q : Value → Shared → Prop) (E : Value → Shared → Prop), tn i s.heap → Q (.ref it) s → wpAny (model P w) A (pyIter (.ref it)) Q E s
abbrev TI := St → Hp → (It → Hp → Prop) → Prop
def PIE (X : Cx) (pins : List (Addr × Obj)) (σ : St) (tg : Expr) (R : It → Hp → Prop) (itv : Value) (s2 : Shared) : Prop :=
  ∃ (it : Addr) (fp : List Addr) (tn : Nat → Heap → Prop) (J : It) (H' : Hp), itv = .ref it ∧ Inv X pins σ H' s2 ∧ Turn X.prog X.w X.K tg J fp it tn ∧ tn 0 s2.heap ∧ (∀ b ∈ fp, FpOk X pins H' b) ∧ R J H'
def PI (X : Cx) (tg iter : Expr) (wi : TI) : Prop :=
  ∀ (pins : List (Addr × Obj)) (s : Shared) (σ : St) (H : Hp) (R : It → Hp → Prop), Inv X pins σ H s → wi σ H R →
    wpAny (model X.prog X.w) X.A (eval iter X.env) (fun v s1 => wpAny (model X.prog X.w) X.A (pyIter v) (PIE X pins σ tg R) X.xe s1) X.xe s
theorem go_of {M : Model} {A : Around} {E : Value → Shared → Prop} {s : Shared} {tg : Expr} {it : Addr} {u : Value} {o : Obj} {n : String} {vs : Array Value} {Q : Unit → Shared → Prop} (ho : s.heap.get? it = some o) (hc : o.cls = .type n) (hd : o.data = .fields vs)
    (hn : ["enumerate", "zip", "dict_itemiterator", "dict_reverseitemiterator", "odict_iterator", "itertools.zip_longest", "itertools.pairwise"].contains n = false) (hQ : Q () s) : wpAny M A (letOwnedTupleGo tg (.ref it) u) Q E s := by
  unfold letOwnedTupleGo
  cases tg <;> first
    | exact wpAny_pure hQ
    | (cases u <;> first
        | exact wpAny_pure hQ
        | (refine wpAny_bind (wpAny_load ho ?_)
           rw [hc, hd]
           show wpAny M A (if (["enumerate", "zip", "dict_itemiterator", "dict_reverseitemiterator", "odict_iterator", "itertools.zip_longest", "itertools.pairwise"].contains n && vs[0]? == some (rawInt _)) = true then _ else _) Q E s
           rw [if_neg (by intro h; rw [hn, Bool.false_and] at h; cases h)]
           exact wpAny_pure hQ))
def Itl (K : PySem.W.Frag) (a : Addr) : It :=
  ⟨fun i H => ∃ xs x, SqL K H a xs ∧ xs[i]? = some x, fun i H x H' => H' = H ∧ ∀ xs, SqL K H a xs → xs[i]? = some x, fun i H => ∃ xs, SqL K H a xs ∧ xs.length ≤ i⟩
def Itt (K : PySem.W.Frag) (a : Addr) : It :=
  ⟨fun i H => ∃ xs x, SqT K H a xs ∧ xs[i]? = some x, fun i H x H' => H' = H ∧ ∀ xs, SqT K H a xs → xs[i]? = some x, fun i H => ∃ xs, SqT K H a xs ∧ xs.length ≤ i⟩
def Itr (lo : Int) (n : Nat) : It := ⟨fun i _ => i < n, fun i H x H' => H' = H ∧ x = .int (lo + i), fun i _ => n ≤ i⟩
theorem turn_list {P : Program} {w : World} {K : PySem.W.Frag} {tg : Expr} (a it : Addr) : Turn P w K tg (Itl K a) [it] it (fun i h => h.IsListIter it a i) where
  mem := by simp
  obj := fun i h st b hb => by
    have e : b = it := by simpa using hb
    subst e
    obtain ⟨o, e, c, d⟩ := st
    exact ⟨o, e, fun v z => by rw [d] at z; cases z⟩
  keep := fun i h h' st k => st.at fun o e => k it (by simp) o e
  item := by
    intro X hP hw hK hc i pins s σ H E I hf st hg
    subst hP hw hK
    obtain ⟨xs, x, hq, hx⟩ := hg
    obtain ⟨its, rv, p, hz⟩ := I.list hq
    obtain ⟨u, hu, ru⟩ := rv.get hx
    obtain ⟨f0, f1, f2, f3, f4, f5⟩ := hf it (by simp)
    refine wpAny_pyNext_list_item st p.isList (x := u) (by simpa using hu) fun h' st' sb => ?_
    have I1 : Inv X pins σ H { s with heap := h' } := I.turned (t' := s.toks) (fun b o hb e => (sb.2 b hb).trans e) f0 f1 f3 f4 f5
    obtain ⟨o, e, c, d⟩ := id st'
    exact ⟨u, rfl, go_of (s := { s with heap := h' }) e c d (by decide) ⟨x, H, I1, ru, ⟨rfl, fun ys hy => by rw [I.list_inj hy hq]; exact hx⟩, st', fun b hb => (hf b hb).1⟩⟩
  done := by
    intro X hP hw hK hc i pins s σ H E I hf st hg
    subst hP hw hK
    obtain ⟨xs, hq, hx⟩ := hg
    obtain ⟨its, rv, p, hz⟩ := I.list hq
    obtain ⟨f0, f1, f2, f3, f4, f5⟩ := hf it (by simp)
    have hl := rv.length
    exact wpAny_pyNext_list_end (I.ok.hd hc) st p.isList (by simp; omega) fun h' eb => ⟨rfl, I.turned (t' := s.toks) (fun b o hb e => eb b o hb e) f0 f1 f3 f4 f5⟩
  self := fun _ _ _ _ _ st h => wpAny_pyIter_listiter st h
theorem turn_tuple {P : Program} {w : World} {K : PySem.W.Frag} {tg : Expr} (a it : Addr) : Turn P w K tg (Itt K a) [it] it (fun i h => h.IsTupleIter it a i) where
  mem := by simp
  obj := fun i h st b hb => by
    have e : b = it := by simpa using hb
    subst e
    obtain ⟨o, e, c, d⟩ := st
    exact ⟨o, e, fun v z => by rw [d] at z; cases z⟩
  keep := fun i h h' st k => st.at fun o e => k it (by simp) o e
  item := by
    intro X hP hw hK hc i pins s σ H E I hf st hg
    subst hP hw hK
    obtain ⟨xs, x, hq, hx⟩ := hg
    obtain ⟨its, rv, p, hz⟩ := I.tuple hq
    obtain ⟨u, hu, ru⟩ := rv.get hx
    obtain ⟨f0, f1, f2, f3, f4, f5⟩ := hf it (by simp)
    refine wpAny_pyNext_tuple_item st (show s.heap.IsTuple a its.toArray from p) (x := u) (by simpa using hu) fun h' st' sb => ?_
    have I1 : Inv X pins σ H { s with heap := h' } := I.turned (t' := s.toks) (fun b o hb e => (sb.2 b hb).trans e) f0 f1 f3 f4 f5
    obtain ⟨o, e, c, d⟩ := id st'
    exact ⟨u, rfl, go_of (s := { s with heap := h' }) e c d (by decide) ⟨x, H, I1, ru, ⟨rfl, fun ys hy => by rw [I.tuple_inj hy hq]; exact hx⟩, st', fun b hb => (hf b hb).1⟩⟩
  done := by
    intro X hP hw hK hc i pins s σ H E I hf st hg
    subst hP hw hK
    obtain ⟨xs, hq, hx⟩ := hg
    obtain ⟨its, rv, p, hz⟩ := I.tuple hq
    obtain ⟨f0, f1, f2, f3, f4, f5⟩ := hf it (by simp)
    have hl := rv.length
    exact wpAny_pyNext_tuple_end (I.ok.hd hc) st (show s.heap.IsTuple a its.toArray from p) (by simp; omega) fun h' eb => ⟨rfl, I.turned (t' := s.toks) (fun b o hb e => eb b o hb e) f0 f1 f3 f4 f5⟩
  self := fun _ _ _ _ _ st h => wpAny_pyIter_tupleiter st h
theorem turn_range {P : Program} {w : World} {K : PySem.W.Frag} {tg : Expr} (it : Addr) (lo : Int) (n : Nat) : Turn P w K tg (Itr lo n) [it] it (fun i h => IsRangeIter h it (lo + (i : Nat) * 1) ((n : Int) - (i : Nat)) 1) where
  mem := by simp
  obj := fun i h st b hb => by
    have e : b = it := by simpa using hb
    subst e
    exact ⟨_, st, fun v z => by
      have z' : Data.fields _ = Data.cell v := z
      cases z'⟩
  keep := fun i h h' st k => k it (by simp) _ st
  item := by
    intro X hP hw hK hc i pins s σ H E I hf st hg
    subst hP hw hK
    obtain ⟨f0, f1, f2, f3, f4, f5⟩ := hf it (by simp)
    have W := Walks.range (prog := X.prog) (w := X.w) (I.ok.hd hc) it lo 1 n
    refine W.item i s _ _ hg st fun v h' tk hv st' kk => ?_
    obtain ⟨t, rfl⟩ := hv
    have I1 : Inv X pins σ H { s with heap := h', toks := tk } := I.turned (fun b o hb e => kk b o (by simpa using hb) e) f0 f1 f3 f4 f5
    refine ⟨_, rfl, go_of (s := { s with heap := h', toks := tk }) (n := "range_iterator") st' rfl rfl (by decide) ⟨.int (lo + i), H, I1, ⟨t, ?_⟩, ⟨rfl, rfl⟩, st', fun b hb => (hf b hb).1⟩⟩
    rw [Int.mul_one]
  done := by
    intro X hP hw hK hc i pins s σ H E I hf st hg
    subst hP hw hK
    obtain ⟨f0, f1, f2, f3, f4, f5⟩ := hf it (by simp)
    exact wpAny_pyNext_range_end (I.ok.hd hc) st (by have : n ≤ i := hg; omega) fun h' eb => ⟨rfl, I.turned (t' := s.toks) (fun b o hb e => eb b o hb e) f0 f1 f3 f4 f5⟩
  self := fun _ _ _ _ _ st h => wpAny_pyIter_rangeiter st h
end L2
namespace L2
open PySem PySem.Spec PyProof.Rows
section
variable {X : Cx} {tg : Expr}
theorem range_it {pins : List (Addr × Obj)} {σ : St} {H : Hp} {s : Shared} {R : It → Hp → Prop} {E : Value → Shared → Prop} {lo hi : Int} {t u v : Tok} {tk : Nat} (I : Inv X pins σ H s) (h1 : -(2 ^ 62) ≤ lo) (h2 : lo < 2 ^ 62) (h3 : -(2 ^ 62) ≤ hi) (h4 : hi < 2 ^ 62)
    (q : R (Itr lo (hi - lo).toNat) H) : wpAny (model X.prog X.w) X.A (pyIter (.ref s.heap.objs.size)) (PIE X pins σ tg R) E { s with heap := s.heap.push { cls := .type "range", data := .fields #[.int lo t, .int hi u, .int 1 v] }, toks := tk } := by
  refine wpAny_pyIter_range (IsRange.new ..) (small_one h1 h2 h3 h4) ?_
  have I1 : Inv X pins σ H { s with heap := s.heap.push { cls := .type "range", data := .fields #[.int lo t, .int hi u, .int 1 v] }, toks := tk } := I.kept fun b o e => Heap.get?_push_of_some _ e
  refine ⟨(s.heap.push { cls := .type "range", data := .fields #[.int lo t, .int hi u, .int 1 v] }).objs.size, [(s.heap.push { cls := .type "range", data := .fields #[.int lo t, .int hi u, .int 1 v] }).objs.size], _, _, H, rfl,
    I1.kept (t' := tk) fun b o e => Heap.get?_push_of_some _ e, turn_range _ lo (hi - lo).toNat, ?_, fun b hb => ?_, q⟩
  · have e1 : lo + ((0 : Nat) : Int) * 1 = lo := by simp
    have e2 : (((hi - lo).toNat : Nat) : Int) - ((0 : Nat) : Int) = Builtin.Range.rangeSize lo hi 1 := by rw [rangeSize_one]; split <;> omega
    show IsRangeIter _ _ (lo + ((0 : Nat) : Int) * 1) ((((hi - lo).toNat : Nat) : Int) - ((0 : Nat) : Int)) 1
    rw [e1, e2]
    exact Heap.get?_push_size _ rfl
  · have e : b = (s.heap.push { cls := .type "range", data := .fields #[.int lo t, .int hi u, .int 1 v] }).objs.size := by simpa using hb
    subst e
    exact I1.fpOk (Nat.le_refl _) (I1.hok.fresh (Nat.le_refl _))
def iRng1 (ta : TA) : TI := fun σ H R => ta σ H fun vs H1 => ∃ j : Int, vs = [.int j] ∧ -(2 ^ 62) ≤ j ∧ j < 2 ^ 62 ∧ R (Itr 0 j.toNat) H1
theorem pi_range1 {a : Expr} {ta : TA} {p pos : Pos} (hg : Gl X "range") (hm : X.mg "range" = none) (ha : PA X [a] ta) (hs : starEach [a] X.env = [(false, eval a X.env)] := by rfl) : PI X tg (.Call (.Name "range" p) [a] [] pos) (iRng1 ta) := by
  intro pins s σ H R I h
  refine Call_ (ld_blt I hg hm boot_range (PyProof.Rows.callWith_type1 (thn (ha pos pins s σ H _ I h) fun us s1 ⟨vs, H1, I1, r1, q1⟩ => ?_) hs rfl))
  obtain ⟨j, e, q1, q2, q⟩ := q1
  subst e
  cases r1 with
  | cons r rr =>
    cases rr
    obtain ⟨t, rfl⟩ := r
    exact call_range_1 (range_it I1 (by omega) (by omega) q1 q2 (by simpa using q))
def tFor (wi : TI) (g : TG) (tb : TS) : TS := fun D σ H => wi σ H fun J H1 => ∃ W : Nat → Nat → St → Hp → Prop, (∃ m, W 0 m σ H1) ∧ ∀ i m σ H, W i m σ H →
  (J.stop i H ∧ D.nx σ H) ∨ (J.go i H ∧ ∃ N : St → Hp → Prop, (∀ σ' H', N σ' H' → ∃ m', m' < m ∧ W (i + 1) m' σ' H') ∧ ∀ x H', J.yld i H x H' → g x σ H' fun σ2 H2 => tb { D with nx := N, ct := N, bk := D.nx } σ2 H2)
def pinsAt (fp : List Addr) (h : Heap) : List (Addr × Obj) := fp.filterMap fun b => (h.get? b).map fun o => (b, o)
theorem mem_pinsAt {fp : List Addr} {h : Heap} {b : Addr} {o : Obj} (hb : b ∈ fp) (e : h.get? b = some o) : (b, o) ∈ pinsAt fp h := List.mem_filterMap.mpr ⟨b, hb, by rw [e]; rfl⟩
theorem of_pinsAt {fp : List Addr} {h : Heap} {p : Addr × Obj} (hp : p ∈ pinsAt fp h) : p.1 ∈ fp ∧ h.get? p.1 = some p.2 := by
  obtain ⟨b, hb, e⟩ := List.mem_filterMap.mp hp
  cases q : h.get? b with
  | none => rw [q] at e; cases e
  | some o =>
    rw [q] at e
    have e' : (b, o) = p := Option.some.inj e
    subst e'
    exact ⟨hb, q⟩
theorem Inv.pinned {pins : List (Addr × Obj)} {σ : St} {H : Hp} {s : Shared} {fp : List Addr} (I : Inv X pins σ H s) (hf : ∀ b ∈ fp, FpOk X pins H b) (ho : ∀ b ∈ fp, ∃ o, s.heap.get? b = some o ∧ ∀ v, o.data ≠ .cell v) : Inv X (pins ++ pinsAt fp s.heap) σ H s :=
  I.pins_of fun p hp => (List.mem_append.mp hp).elim (fun z => I.pin p (List.mem_append_right _ z)) fun z => by
    obtain ⟨hb, e⟩ := of_pinsAt z
    obtain ⟨f0, f1, f2, _⟩ := hf p.1 hb
    obtain ⟨o, e', d⟩ := ho p.1 hb
    rw [e] at e'; cases e'
    exact ⟨e, f0, f1, f2, d⟩
theorem Inv.unpinned {pins pl : List (Addr × Obj)} {σ : St} {H : Hp} {s : Shared} (I : Inv X (pins ++ pl) σ H s) : Inv X pins σ H s := I.pins_of fun p hp => I.pin p (List.mem_append_right _ (List.mem_append_left _ hp))
theorem ps_for {iter : Expr} {body : List Stmt} {wi : TI} {g : TG} {tb : TS} {pos : Pos} (hp : PassesOwn (model X.prog X.w) X.A X.env X.xe) (hc : X.calm = true) (hi : PI X tg iter wi) (hg : PG X tg g) (hb : PSs X body tb)
    (hs : ∀ x, foldedSetIterable iter X.env x = pure x := by intro _; rfl) : PS X (.For tg iter body [] pos) (tFor wi g tb) := by
  intro pins s σ H D I h
  refine wpAny_For (thn (hi pins s σ H _ I h) fun v s1 h1 => thn h1 fun itv s2 h2 => ?_) hs
  obtain ⟨it, fp, tn, J, H2, e, I2, T, st2, f2, W, ⟨m0, w0⟩, turn⟩ := h2
  subst e
  have stat : ∀ {H' : Hp}, (∀ b ∈ fp, H' b = none) → ∀ b ∈ fp, FpOk X pins H' b := fun hn b hb => ⟨hn b hb, (f2 b hb).2⟩
  refine codeAny_forLoop_any (fun n s' => ∃ i σ' H', Inv X pins σ' H' s' ∧ tn i s'.heap ∧ (∀ b ∈ fp, H' b = none) ∧ W i n σ' H') ?_ m0 ⟨0, σ, H2, I2, st2, fun b hb => (f2 b hb).1, w0⟩
  rintro n s3 ⟨i, σ3, H3, I3, st3, fr3, w3⟩
  rcases turn i n σ3 H3 w3 with ⟨stop, qn⟩ | ⟨go, N, hN, step⟩
  · refine wpAny_passesOwn hp (thn (T.done X rfl rfl rfl hc i pins s3 σ3 H3 X.xe I3 (stat fr3) st3 stop) fun r s4 ⟨hr, I4⟩ => ?_)
    subst hr
    exact wpAny_execs_nil ⟨σ3, H3, I4, qn⟩
  · refine wpAny_passesOwn hp (thn (T.item X rfl rfl rfl hc i pins s3 σ3 H3 X.xe I3 (stat fr3) st3 go) fun r s4 ⟨u, hr, h4⟩ => ?_)
    subst hr
    refine wpAny_passesOwn hp (thn h4 fun _ s5 ⟨x, H5, I5, r5, y5, st5, fr5⟩ => ?_)
    have I5' := I5.pinned (stat fr5) (T.obj _ _ st5)
    refine wpAny_passesOwn hp (thn (hg _ s5 σ3 H5 x u _ I5' r5 (step x H5 y5)) fun _ s6 ⟨σ6, H6, I6, q6⟩ => ?_)
    refine wpAny_passesOwn hp (thn (hb _ s6 σ6 H6 _ I6 q6) fun f s7 q7 => ?_)
    have again : ∀ {σ7 : St} {H7 : Hp}, Inv X (pins ++ pinsAt fp s5.heap) σ7 H7 s7 → N σ7 H7 → ∃ m, m < n ∧ ∃ i σ' H', Inv X pins σ' H' s7 ∧ tn i s7.heap ∧ (∀ b ∈ fp, H' b = none) ∧ W i m σ' H' := fun {σ7 H7} I7 n7 => by
      obtain ⟨m', hm, w7⟩ := hN σ7 H7 n7
      refine ⟨m', hm, i + 1, σ7, H7, I7.unpinned, T.keep _ _ _ st5 fun b hb o e => (I7.pin (b, o) (List.mem_append_right _ (List.mem_append_right _ (mem_pinsAt hb e)))).1, fun b hb => ?_, w7⟩
      obtain ⟨o, e, d⟩ := T.obj _ _ st5 b hb
      exact (I7.pin (b, o) (List.mem_append_right _ (List.mem_append_right _ (mem_pinsAt hb e)))).2.1
    cases f with
    | next => obtain ⟨σ7, H7, I7, n7⟩ := q7; exact again I7 n7
    | cont => obtain ⟨σ7, H7, I7, n7⟩ := q7; exact again I7 n7
    | brk => obtain ⟨σ7, H7, I7, q7⟩ := q7; exact ⟨σ7, H7, I7.unpinned, q7⟩
    | ret v => obtain ⟨x7, σ7, H7, I7, r7, q7⟩ := q7; exact ⟨x7, σ7, H7, I7.unpinned, r7, q7⟩
end
end L2
namespace L2
open PySem PySem.Spec PyProof.Rows
abbrev R2 := V → V → Hp → VK → Prop
def OpR (X : Cx) (f : Value → Value → Sem Value) (r : R2) : Prop :=
  ∀ (pins : List (Addr × Obj)) (s : Shared) (σ : St) (H : Hp) (x y : V) (v u : Value) (Q : VK), Inv X pins σ H s → RelV x v → RelV y u → r x y H Q →
    wpAny (model X.prog X.w) X.A (f v u) (EP X pins σ Q) X.xe s
def UnR (X : Cx) (f : Value → Sem Value) (r : V → Hp → VK → Prop) : Prop :=
  ∀ (pins : List (Addr × Obj)) (s : Shared) (σ : St) (H : Hp) (x : V) (v : Value) (Q : VK), Inv X pins σ H s → RelV x v → r x H Q →
    wpAny (model X.prog X.w) X.A (f v) (EP X pins σ Q) X.xe s
def CallR (X : Cx) (f : Value) (r : List V → Hp → VK → Prop) : Prop :=
  ∀ (pins : List (Addr × Obj)) (s : Shared) (σ : St) (H : Hp) (xs : List V) (us : List Value) (Q : VK), Inv X pins σ H s → Vals xs us → r xs H Q →
    wpAny (model X.prog X.w) X.A (call f us) (EP X pins σ Q) X.xe s
def tOp (r : R2) (ta tb : TE) : TE := fun σ H Q => ta σ H fun x H1 => tb σ H1 fun y H2 => r x y H2 Q
def tUn (r : V → Hp → VK → Prop) (ta : TE) : TE := fun σ H Q => ta σ H fun x H1 => r x H1 Q
def rI (C : Int → Int → Prop) (g : Int → Int → V) : R2 := fun x y H Q => ∃ i j, x = .int i ∧ y = .int j ∧ C i j ∧ Q (g i j) H
def rI0 (g : Int → Int → V) : R2 := fun x y H Q => ∃ i j, x = .int i ∧ y = .int j ∧ Q (g i j) H
def rU (g : Int → V) : V → Hp → VK → Prop := fun x H Q => ∃ i, x = .int i ∧ Q (g i) H
section
variable {X : Cx} {a b c : Expr} {ta tb tc : TE} {pos : Pos}
theorem binT (ha : PE X a ta) (hb : PE X b tb) {pins : List (Addr × Obj)} {s : Shared} {σ : St} {H : Hp} {R : V → V → Hp → Prop} (I : Inv X pins σ H s)
    (h : ta σ H fun x H1 => tb σ H1 fun y H2 => R x y H2) {Q : Value → Shared → Prop} {f : Value → Value → Sem Value}
    (hf : ∀ v u s2 x y H2, Inv X pins σ H2 s2 → RelV x v → RelV y u → R x y H2 → wpAny (model X.prog X.w) X.A (f v u) Q X.xe s2) :
    wpAny (model X.prog X.w) X.A (eval a X.env) (fun v s₁ => wpAny (model X.prog X.w) X.A (eval b X.env) (fun u s₂ => wpAny (model X.prog X.w) X.A (f v u) Q X.xe s₂) X.xe s₁) X.xe s := by
  refine thn (ha pins s σ H _ I h) fun v s1 ⟨x, H1, I1, r1, q1⟩ => ?_
  refine thn (hb pins s1 σ H1 _ I1 q1) fun u s2 ⟨y, H2, I2, r2, q2⟩ => ?_
  exact hf v u s2 x y H2 I2 r1 r2 q2
theorem pe_op {op : Operator} {r : R2} (ho : OpR X (binaryOp op) r) (ha : PE X a ta) (hb : PE X b tb) : PE X (.BinOp a op b pos) (tOp r ta tb) := by
  intro pins s σ H Q I h
  exact wpAny_BinOp (binT ha hb I h fun v u s2 x y H2 I2 rx ry q => ho pins s2 σ H2 x y v u Q I2 rx ry q)
theorem pe_un {op : UnaryOp} {r : V → Hp → VK → Prop} (ho : UnR X (unaryOp op) r) (ha : PE X a ta) : PE X (.UnaryOp op a pos) (tUn r ta) := by
  intro pins s σ H Q I h
  exact UnaryOp_ (thn (ha pins s σ H _ I h) fun v s1 ⟨x, H1, I1, r1, q1⟩ => ho pins s1 σ H1 x v Q I1 r1 q1)
theorem opI {f : Value → Value → Sem Value} {C : Int → Int → Prop} {g : Int → Int → Int}
    (rule : ∀ (i j : Int) (t u : Tok) (s : Shared) (Q : Value → Shared → Prop) (E : Value → Shared → Prop), C i j → Q (.int (g i j) s.toks) { s with toks := s.toks + 1 } → wpAny (model X.prog X.w) X.A (f (.int i t) (.int j u)) Q E s) :
    OpR X f (rI C fun i j => .int (g i j)) := by
  intro pins s σ H x y v u Q I rx ry h
  obtain ⟨i, j, rfl, rfl, hc, q⟩ := h
  obtain ⟨t, rfl⟩ := rx
  obtain ⟨t', rfl⟩ := ry
  exact rule i j t t' s _ _ hc ⟨.int (g i j), H, I.tok _, ⟨_, rfl⟩, q⟩
theorem opI0 {f : Value → Value → Sem Value} {g : Int → Int → Int}
    (rule : ∀ (i j : Int) (t u : Tok) (s : Shared) (Q : Value → Shared → Prop) (E : Value → Shared → Prop), Q (.int (g i j) s.toks) { s with toks := s.toks + 1 } → wpAny (model X.prog X.w) X.A (f (.int i t) (.int j u)) Q E s) :
    OpR X f (rI0 fun i j => .int (g i j)) := by
  intro pins s σ H x y v u Q I rx ry h
  obtain ⟨i, j, rfl, rfl, q⟩ := h
  obtain ⟨t, rfl⟩ := rx
  obtain ⟨t', rfl⟩ := ry
  exact rule i j t t' s _ _ ⟨.int (g i j), H, I.tok _, ⟨_, rfl⟩, q⟩
theorem opB0 {f : Value → Value → Sem Value} {g : Int → Int → Bool}
    (rule : ∀ (i j : Int) (t u : Tok) (s : Shared) (Q : Value → Shared → Prop) (E : Value → Shared → Prop), Q (.bool (g i j)) s → wpAny (model X.prog X.w) X.A (f (.int i t) (.int j u)) Q E s) :
    OpR X f (rI0 fun i j => .bl (g i j)) := by
  intro pins s σ H x y v u Q I rx ry h
  obtain ⟨i, j, rfl, rfl, q⟩ := h
  obtain ⟨t, rfl⟩ := rx
  obtain ⟨t', rfl⟩ := ry
  exact rule i j t t' s _ _ ⟨.bl (g i j), H, I, rfl, q⟩
def CPow (i j : Int) : Prop := 0 ≤ j ∧ j ≤ 1000000 ∧ i.natAbs < 2 ^ 64
theorem op_add : OpR X (binaryOp .Add) (rI0 fun i j => .int (i + j)) := opI0 fun _ _ _ _ _ _ _ q => add_int q
theorem op_sub : OpR X (binaryOp .Sub) (rI0 fun i j => .int (i - j)) := opI0 fun _ _ _ _ _ _ _ q => sub_int q
theorem op_modN : OpR X (binaryOp .Mod) (rI (fun _ j => j ≠ 0) fun i j => .int (i.fmod j)) := opI fun _ _ _ _ _ _ _ hc q => mod_int' hc q
theorem op_pow : OpR X (binaryOp .Pow) (rI CPow fun i j => .int (i ^ j.toNat)) := opI fun _ _ _ _ _ _ _ hc q => pow_int_small hc.1 hc.2.1 hc.2.2 q
theorem unI {f : Value → Sem Value} {g : Int → Int}
    (rule : ∀ (i : Int) (t : Tok) (s : Shared) (Q : Value → Shared → Prop) (E : Value → Shared → Prop), Q (.int (g i) s.toks) { s with toks := s.toks + 1 } → wpAny (model X.prog X.w) X.A (f (.int i t)) Q E s) :
    UnR X f (rU fun i => .int (g i)) := by
  intro pins s σ H x v Q I rx h
  obtain ⟨i, rfl, q⟩ := h
  obtain ⟨t, rfl⟩ := rx
  exact rule i t s _ _ ⟨.int (g i), H, I.tok _, ⟨_, rfl⟩, q⟩
theorem un_neg : UnR X (unaryOp .USub) (rU fun i => .int (-i)) := unI fun _ _ _ _ _ q => neg_int q
end
section
variable {X : Cx} {a b c : Expr} {ta tb tc : TE} {pos : Pos}
theorem op_lt : OpR X (compareOp .Lt) (rI0 fun i j => .bl (decide (i < j))) := opB0 fun _ _ _ _ _ _ _ q => lt_int q
theorem op_gt : OpR X (compareOp .Gt) (rI0 fun i j => .bl (decide (j < i))) := opB0 fun _ _ _ _ _ _ _ q => gt_int q
theorem op_ge : OpR X (compareOp .GtE) (rI0 fun i j => .bl (decide (j ≤ i))) := opB0 fun _ _ _ _ _ _ _ q => ge_int q
theorem nomark (b : Expr) {op : CmpOp} (h : op ≠ .In := by decide) (h2 : op ≠ .NotIn := by decide) : behindInMarks op b = false := by
  have e1 : (op == CmpOp.In) = false := by cases op <;> first | rfl | exact absurd rfl h
  have e2 : (op == CmpOp.NotIn) = false := by cases op <;> first | rfl | exact absurd rfl h2
  cases b <;> simp [behindInMarks, e1, e2]
theorem pe_cmpR {op : CmpOp} {r : R2} (ho : OpR X (compareOp op) r) (ha : PE X a ta) (hb : PE X b tb) (hm : behindInMarks op b = false) : PE X (.Compare a [op] [b] pos) (tOp r ta tb) := by
  intro pins s σ H Q I h
  exact wpAny_Compare1 (binT ha hb I h fun v u s2 x y H2 I2 rx ry q => ho pins s2 σ H2 x y v u Q I2 rx ry q) hm
def tTest (t : TE) : TT := fun σ H Q => t σ H fun x H' => ∃ k, x = .bl k ∧ Q k H'
theorem pt_cmpR {op : CmpOp} {r : R2} (ho : OpR X (compareOp op) r) (ha : PE X a ta) (hb : PE X b tb) (hm : behindInMarks op b = false) : PT X (.Compare a [op] [b] pos) (tTest (tOp r ta tb)) := by
  intro pins s σ H Q I h
  refine wpAny_isTrue_Compare1 (thn (ha pins s σ H _ I h) fun v s1 ⟨x, H1, I1, r1, q1⟩ => thn (hb pins s1 σ H1 _ I1 q1) fun u s2 ⟨y, H2, I2, r2, q2⟩ =>
    thn (ho pins s2 σ H2 x y v u _ I2 r1 r2 q2) fun c s3 ⟨z, H3, I3, r3, k, e, q3⟩ => ?_) hm
  subst e
  cases r3
  exact wpAny_truthy_bool ⟨H3, I3, q3⟩
theorem line63 : (sizeLine : Nat) < 2 ^ 63 := by rw [sizeLine_eq]; decide
theorem op_add_str : OpR X (binaryOp .Add) (fun x y H Q => ∃ i j, x = .str i ∧ y = .str j ∧ i.length + j.length ≤ sizeLine ∧ Q (.str (i ++ j)) H) := by
  intro pins s σ H x y v u Q I rx ry h
  obtain ⟨i, j, rfl, rfl, hz, q⟩ := h
  obtain ⟨t, rfl⟩ := rx
  obtain ⟨t', rfl⟩ := ry
  exact add_str (fun t' tk => ⟨.str (i ++ j), H, I.tok _, ⟨_, rfl⟩, q⟩) hz
theorem vals1 {x : V} {us : List Value} (r : Vals [x] us) : ∃ u, us = [u] ∧ RelV x u := by
  cases r with
  | cons r1 r2 => cases r2; exact ⟨_, rfl, r1⟩
theorem vals2 {x y : V} {us : List Value} (r : Vals [x, y] us) : ∃ u w', us = [u, w'] ∧ RelV x u ∧ RelV y w' := by
  cases r with
  | cons r1 r2 =>
    cases r2 with
    | cons r3 r4 => cases r4; exact ⟨_, _, rfl, r1, r3⟩
theorem call_abs : CallR X (.builtin "abs") (fun xs H Q => ∃ i, xs = [.int i] ∧ Q (.int (if i < 0 then -i else i)) H) := by
  intro pins s σ H xs us Q I r h
  obtain ⟨i, rfl, q⟩ := h
  obtain ⟨u, rfl, t, rfl⟩ := vals1 r
  exact call_abs_int fun u tk => ⟨.int (if i < 0 then -i else i), H, I.tok _, ⟨_, rfl⟩, q⟩
theorem call_max2 (hc : X.calm = true) : CallR X (.builtin "max") (fun xs H Q => ∃ i j, xs = [.int i, .int j] ∧ Q (.int (if j > i then j else i)) H) := by
  intro pins s σ H xs us Q I r h
  obtain ⟨i, j, rfl, q⟩ := h
  obtain ⟨u, w', rfl, ⟨t, rfl⟩, ⟨t', rfl⟩⟩ := vals2 r
  refine max_two_ints (I.ok.hd hc) fun h' tk k => ⟨_, H, I.kept k, ?_, q⟩
  by_cases hj : j > i
  · rw [if_pos hj, if_pos hj]; exact ⟨_, rfl⟩
  · rw [if_neg hj, if_neg hj]; exact ⟨_, rfl⟩
theorem call_min2 (hc : X.calm = true) : CallR X (.builtin "min") (fun xs H Q => ∃ i j, xs = [.int i, .int j] ∧ Q (.int (if j < i then j else i)) H) := by
  intro pins s σ H xs us Q I r h
  obtain ⟨i, j, rfl, q⟩ := h
  obtain ⟨u, w', rfl, ⟨t, rfl⟩, ⟨t', rfl⟩⟩ := vals2 r
  refine min_two_ints (I.ok.hd hc) fun h' tk k => ⟨_, H, I.kept k, ?_, q⟩
  by_cases hj : j < i
  · rw [if_pos hj, if_pos hj]; exact ⟨_, rfl⟩
  · rw [if_neg hj, if_neg hj]; exact ⟨_, rfl⟩
theorem call_int1 : CallR X (.type "int") (fun xs H Q => (∃ i, xs = [.int i] ∧ Q (.int i) H) ∨ ∃ k, xs = [.bl k] ∧ Q (.int (if k then 1 else 0)) H) := by
  intro pins s σ H xs us Q I r h
  rcases h with ⟨i, rfl, q⟩ | ⟨k, rfl, q⟩
  · obtain ⟨u, rfl, t, rfl⟩ := vals1 r
    exact call_int_int ⟨.int i, H, I, ⟨_, rfl⟩, q⟩
  · obtain ⟨u, rfl, r1⟩ := vals1 r
    cases r1
    exact call_int_bool ⟨.int (if k then 1 else 0), H, I.tok _, ⟨_, rfl⟩, q⟩
def LenV (K : PySem.W.Frag) (x : V) (H : Hp) (n : Nat) : Prop :=
  match x with
  | .str y => y.length ≤ sizeLine ∧ n = y.length
  | .byt y => y.size ≤ sizeLine ∧ n = y.size
  | .ref p => (∃ xs, SqL K H p xs ∧ n = xs.length) ∨ ∃ xs, SqT K H p xs ∧ n = xs.length
  | _ => False
theorem call_len : CallR X (.builtin "len") (fun xs H Q => ∃ x n, xs = [x] ∧ LenV X.K x H n ∧ Q (.int n) H) := by
  intro pins s σ H xs us Q I r h
  obtain ⟨x, n, rfl, e, q⟩ := h
  obtain ⟨u, rfl, rx⟩ := vals1 r
  have hl := line63
  have hs : sizeLine = 16777216 := sizeLine_eq
  cases x with
  | str y =>
    obtain ⟨t, rfl⟩ := rx
    obtain ⟨hy, e'⟩ : y.length ≤ sizeLine ∧ n = y.length := e
    subst e'
    exact len_str (by omega) ⟨.int _, H, I.tok _, ⟨_, rfl⟩, q⟩
  | byt y =>
    obtain ⟨t, rfl⟩ := rx
    obtain ⟨hy, e'⟩ : y.size ≤ sizeLine ∧ n = y.size := e
    subst e'
    exact PySem.W.len_bytes (by omega) ⟨.int _, H, I.tok _, ⟨_, rfl⟩, q⟩
  | ref p =>
    cases rx
    have e' : (∃ xs, SqL X.K H p xs ∧ n = xs.length) ∨ ∃ xs, SqT X.K H p xs ∧ n = xs.length := e
    rcases e' with ⟨xs, hx, e'⟩ | ⟨xs, hx, e'⟩
    · subst e'
      obtain ⟨its, r', pl, hz⟩ := I.list hx
      have hlen := r'.length
      exact Calls.call_len_list pl.isList (by simp only [List.size_toArray]; omega) ⟨.int xs.length, H, I.tok _, ⟨_, by simp only [List.size_toArray]; rw [hlen]⟩, q⟩
    · subst e'
      obtain ⟨its, r', pl, hz⟩ := I.tuple hx
      have hlen := r'.length
      exact len_tuple pl (by simp only [List.size_toArray]; omega) ⟨.int xs.length, H, I.tok _, ⟨_, by simp only [List.size_toArray]; rw [hlen]⟩, q⟩
  | _ => exact (show False from e).elim
end
end L2
namespace L2
open PySem PySem.Spec PyProof.Rows
theorem RelO.some_of {v : V} {o : Option Value} (r : RelO (some v) o) : ∃ u, o = some u ∧ RelV v u := by
  cases o with
  | none => exact (show False from r).elim
  | some u => exact ⟨u, rfl, r⟩
end L2
namespace L2
open PySem PySem.Spec PyProof.Rows
structure Room (k : Nat) (A : Around) : Prop where
  hd : A.handled = none
  dp : A.depth + 3 * k + 5 < recursionLimit
  un : A.units + 16 * k + 200 < cLine
theorem Room.mono {j k : Nat} {A : Around} (r : Room k A) (h : j ≤ k) : Room j A := ⟨r.hd, by have := r.dp; omega, by have := r.un; omega⟩
theorem Room.deeper {k : Nat} {A : Around} (r : Room (k + 1) A) (env : Env) : Room k (A.deeper env) :=
  ⟨r.hd, by have := r.dp; show A.depth + 1 + 3 * k + 5 < _; omega, by have := r.un; show A.units + 3 + 16 * k + 200 < _; omega⟩
theorem Room.depth {k : Nat} {A : Around} (r : Room k A) : A.depth < recursionLimit := by have := r.dp; omega
theorem Room.units {k : Nat} {A : Around} (r : Room k A) : A.units + 64 < cLine := by have := r.un; omega
def tNil : TA := fun _ H Q => Q [] H
def tCons (ta : TE) (tr : TA) : TA := fun σ H Q => ta σ H fun x H1 => tr σ H1 fun xs H2 => Q (x :: xs) H2
section
variable {X : Cx} {e : Expr} {es : List Expr} {te : TE} {t : TA} {pos : Pos}
theorem pa_nil : PA X [] tNil := fun _ _ _ _ H Q I h => Calls.spliced_nil ⟨[], H, I, .nil, h⟩
theorem pa_cons (ha : PE X e te) (hr : PA X es t) (hs : starEach (e :: es) X.env = (false, eval e X.env) :: starEach es X.env := by rfl) : PA X (e :: es) (tCons te t) := by
  intro pos pins s σ H Q I h
  rw [hs]
  show wpAny _ _ (spliced ((false, eval e X.env) :: backTo pos (starEach es X.env))) _ _ s
  refine Calls.spliced_cons (thn (ha pins s σ H _ I h) fun u s1 ⟨x, H1, I1, r1, q1⟩ => ?_)
  exact thn (hr pos pins s1 σ H1 _ I1 q1) fun us s2 ⟨xs, H2, I2, r2, q2⟩ => ⟨x :: xs, H2, I2, .cons r1 r2, q2⟩
def tTup (t : TA) : TE := fun σ H Q => t σ H fun xs H1 => xs.length ≤ sizeLine ∧ ∀ p, H1 p = none → Q (.ref p) (upd H1 p (.tup xs))
def tLst (t : TA) : TE := fun σ H Q => t σ H fun xs H1 => xs.length ≤ sizeLine ∧ ∀ p, H1 p = none → Q (.ref p) (upd H1 p (.lst xs))
theorem pe_tup {x1} (h : PA X es t) : PE X (.Tuple es x1 pos) (tTup t) := by
  intro pins s σ H Q I hq
  refine wpAny_Tuple_spliced (thn (h pos pins s σ H _ I hq) fun us s1 ⟨xs, H1, I1, r, z, q⟩ => ⟨by rw [← r.length]; exact z, ?_⟩)
  have hf : H1 s1.heap.objs.size = none := I1.hok.fresh (Nat.le_refl _)
  refine ⟨.ref s1.heap.objs.size, upd H1 s1.heap.objs.size (.tup xs), I1.laid (t' := s1.toks) (fun b u e => Heap.get?_push_of_some _ e) (Nat.le_refl _) ?_, rfl, q _ hf⟩
  exact ⟨z, us, r, ⟨_, Heap.get?_push_size _ rfl, rfl, _, rfl⟩⟩
theorem pe_lst (h : PA X es t) : PE X (.List es pos) (tLst t) := by
  intro pins s σ H Q I hq
  refine wpAny_List_spliced (thn (h pos pins s σ H _ I hq) fun us s1 ⟨xs, H1, I1, r, z, q⟩ => ⟨by rw [← r.length]; exact z, ?_⟩)
  have hf : H1 s1.heap.objs.size = none := I1.hok.fresh (Nat.le_refl _)
  refine ⟨.ref s1.heap.objs.size, upd H1 s1.heap.objs.size (.lst xs), I1.laid (t' := s1.toks) (fun b u e => Heap.get?_push_of_some _ e) (Nat.le_refl _) ?_, rfl, q _ hf⟩
  exact ⟨z, us, 0, r, Heap.get?_push_size _ rfl⟩
end
abbrev Sp := List V → Hp → VK → XK → Prop
abbrev CXT := List Env → Hp → Shared → XK → Value → Shared → Prop
structure Env0 (P : Program) (w : World) (K : PySem.W.Frag) (mg : Str → Option Value) (base : Heap) (A : Around) (outer : List Env) (s : Shared) (H : Hp) : Prop where
  frames : A.frames = some outer
  mod : Mod K mg base
  bs : ∀ b o, base.get? b = some o → s.heap.get? b = some o ∧ H b = none
  bsz : base.objs.size ≤ s.heap.objs.size
  funs : s.heap.FunFrames base outer
  frf : ∀ b ∈ frs outer, H b = none
  hok : HOk P w H s.heap
  bare : AllBare s.gens
def CE (outer : List Env) (P : Program) (w : World) (H : Hp) (s : Shared) (Q : VK) (u : Value) (s' : Shared) : Prop :=
  ∃ v H', s'.os = s.os ∧ AllBare s'.gens ∧ Un (frs outer) [] H H' s.heap s'.heap ∧ HOk P w H' s'.heap ∧ RelV v u ∧ Q v H'
def CR (CX : CXT) (outer : List Env) (P : Program) (w : World) (H : Hp) (s : Shared) (Q : VK) (E : XK) (r : Result) (s' : Shared) : Prop :=
  match r with
  | .ok (.ret u) => CE outer P w H s Q u s'
  | .ok _ => False
  | .error e => CX outer H s E e s'
structure FnOk (P : Program) (w : World) (K : PySem.W.Frag) (mg : Str → Option Value) (base : Heap) (CX : CXT) (k : Nat) (f : Addr) (fd : FuncData) (ps : List Str) (sp : Sp) : Prop where
  len : ∀ vs H Q E, sp vs H Q E → vs.length = ps.length
  run : ∀ (A : Around) (outer : List Env) (s : Shared) (H : Hp) (args : Args) (us : List Value) (vs : List V) (Q : VK) (E : XK), Room k A → Env0 P w K mg base A outer s H → BindsTo s fd args (ps.zip us) → Vals vs us → sp vs H Q E →
    codeAny (model P w) A (.call (.ref f) args) (CR CX outer P w H s Q E) s
theorem FnOk.imp {P : Program} {w : World} {K : PySem.W.Frag} {mg : Str → Option Value} {base : Heap} {CX : CXT} {k : Nat} {f : Addr} {fd : FuncData} {ps : List Str} {sp sp' : Sp} (F : FnOk P w K mg base CX k f fd ps sp)
    (h : ∀ vs H Q E, sp' vs H Q E → sp vs H Q E) : FnOk P w K mg base CX k f fd ps sp' :=
  ⟨fun vs H Q E q => F.len vs H Q E (h _ _ _ _ q), fun A outer s H args us vs Q E hr he hb hv hs => F.run A outer s H args us vs Q E hr he hb hv (h _ _ _ _ hs)⟩
section
variable {X : Cx} {pins : List (Addr × Obj)} {σ : St} {H : Hp} {s s' : Shared}
theorem Inv.env0 (I : Inv X pins σ H s) : Env0 X.prog X.w X.K X.mg X.base X.A X.stack s H :=
  ⟨I.ok.frames, I.ok.mod, I.bs, Nat.le_trans I.ok.bsz I.sz, I.stack, I.stkFree, I.hok, I.bare⟩
theorem Inv.after {Q : VK} {u : Value} (I : Inv X pins σ H s) (h : CE X.stack X.prog X.w H s Q u s') : EP X pins σ Q u s' := by
  obtain ⟨v, H', os, bare, un, hok, r, q⟩ := h
  obtain ⟨hh, g, d, t, os'⟩ := s'
  obtain rfl : os' = s.os := os
  exact ⟨v, H', I.call (h' := hh) (g' := g) (d' := d) (t' := t) (ch := []) un hok bare (fun b z => absurd z (by simp)), r, q⟩
end
def tCall (sp : Sp) (dvs : List V) (E : XK) (t : TA) : TE := fun σ H Q => t σ H fun vs H1 => sp (vs ++ dvs) H1 Q E
def Binds (K : PySem.W.Frag) (fd : FuncData) (ps : List Str) (ds : List Value) : Prop :=
  ∀ (s : Shared) (us : List Value), K.In s.heap → (us ++ ds).length = ps.length → BindsTo s fd ⟨us, []⟩ (ps.zip (us ++ ds))
theorem Binds.all {K : PySem.W.Frag} {fd : FuncData} {ps : List Str} (h : ∀ us : List Value, us.length = ps.length → bindArgs fd ⟨us, []⟩ = pure (ps.zip us)) : Binds K fd ps [] := fun s us _ hl => by
  rw [List.append_nil] at hl ⊢
  exact .of_eq (h us hl)
def Passes (CX : CXT) (X : Cx) (E : XK) : Prop := ∀ (pins : List (Addr × Obj)) (σ : St) (H : Hp) (s : Shared) (e : Value) (s' : Shared), Inv X pins σ H s → CX X.stack H s E e s' → X.xe e s'
section
variable {X : Cx} {CX : CXT} {k : Nat} {f C : Addr} {fd : FuncData} {ps : List Str} {sp : Sp} {dvs : List V} {ds : List Value} {E : XK} {x m : Str} {p pos apos : Pos} {e o : Expr} {es : List Expr} {ta : TE} {t : TA}
theorem run_fn {pins : List (Addr × Obj)} {σ : St} {H : Hp} {s : Shared} {Q : VK} {us : List Value} {vs : List V} (F : FnOk X.prog X.w X.K X.mg X.base CX k f fd ps sp) (hr : Room k X.A) (hb : Binds X.K fd ps ds) (hd : Vals dvs ds) (hx : Passes CX X E)
    (I : Inv X pins σ H s) (r : Vals vs us) (h : sp (vs ++ dvs) H Q E) : wpAny (model X.prog X.w) X.A (call (.ref f) us) (EP X pins σ Q) X.xe s := by
  have r2 : Vals (vs ++ dvs) (us ++ ds) := r.append hd
  have hl : (us ++ ds).length = ps.length := by rw [← r2.length]; exact F.len _ _ _ _ h
  refine wpAny_call (codeAny_mono (F.run X.A X.stack s H ⟨us, []⟩ (us ++ ds) (vs ++ dvs) Q E hr I.env0 (hb s us I.kIn hl) r2 h) fun r s' hq => ?_)
  cases r with
  | error e => exact hx pins σ H s e s' I hq
  | ok fl =>
    cases fl with
    | ret u => exact I.after hq
    | next => exact False.elim hq
    | brk => exact False.elim hq
    | cont => exact False.elim hq
theorem pe_call (F : FnOk X.prog X.w X.K X.mg X.base CX k f fd ps sp) (hr : Room k X.A) (hg : Gl X x) (hm : X.mg x = some (.ref f)) (hk : PySem.W.keepIn X.K (.ref f) = true) (hb : Binds X.K fd ps ds) (hd : Vals dvs ds) (hx : Passes CX X E)
    (ha : PA X (e :: es) t) (hdb : (x == ("__debug__" : Str)) = false := by decide) (he : starEach (e :: es) X.env = (false, eval e X.env) :: starEach es X.env := by rfl) (hpl : (backTo pos (starEach es X.env)).any (·.1) = false := by rfl) :
    PE X (.Call (.Name x p) (e :: es) [] pos) (tCall sp dvs E t) := by
  intro pins s σ H Q I h
  refine wpAny_Call_Name_kw (ld_glob I hg hm ?_ hdb)
  refine PySem.W.callWith_K (h₀ := X.base) I.ok.mod.kin hk (thn (ha pos pins s σ H _ I h) fun us s1 ⟨vs, H1, I1, r, q⟩ => ⟨I1.kIn, ?_⟩) he hpl
  exact run_fn F hr hb hd hx I1 r q
end
structure FnScope (N P : List Str) (sc : Scope) : Prop where
  kind : sc.kind = .function
  co : sc.isCoroutine = false
  gen : sc.isGenerator = false
  nd : N.Nodup
  pre : N.take P.length = P
  par : ∀ x ∈ P, sc.names.lookup x = some .local ∨ sc.names.lookup x = some .cell
  nofree : ∀ y ∈ sc.names, y.2 ≠ .free
theorem bindL_out {kindOf : Str → Option NameKind} {x : Str} : ∀ {binds : List (Str × Value)} {m : Str → Option Value}, (∀ v, (x, v) ∉ binds) → bindL kindOf binds m x = m x
  | [], _, _ => rfl
  | (n, v) :: r, m, h => by
    unfold bindL
    rw [bindL_out fun w hw => h w (List.mem_cons_of_mem _ hw)]
    split
    · have : x ≠ n := by rintro rfl; exact h v List.mem_cons_self
      simp [this]
    · rfl
theorem bindC_out {kindOf : Str → Option NameKind} {x : Str} : ∀ {binds : List (Str × Value)} {m : Str → Option Value}, (∀ v, (x, v) ∉ binds) → bindC kindOf binds m x = m x
  | [], _, _ => rfl
  | (n, v) :: r, m, h => by
    unfold bindC
    rw [bindC_out fun w hw => h w (List.mem_cons_of_mem _ hw)]
    split
    · rfl
    · have : x ≠ n := by rintro rfl; exact h v List.mem_cons_self
      simp [this]
theorem bindL_get {kindOf : Str → Option NameKind} {x : Str} {v : Value} : ∀ {P : List Str} {vs : List Value} {i : Nat} {m : Str → Option Value}, P.Nodup → P[i]? = some x → vs[i]? = some v → kindOf x = some .local →
    bindL kindOf (P.zip vs) m x = some v
  | [], _, _, _, _, h, _, _ => by simp at h
  | _ :: _, [], _, _, _, _, h, _ => by simp at h
  | p :: P, w :: vs, 0, m, nd, h1, h2, hk => by
    simp at h1 h2; subst h1; subst h2
    show bindL kindOf ((p, w) :: P.zip vs) m p = _
    unfold bindL
    rw [bindL_out fun v hv => (List.nodup_cons.mp nd).1 (List.of_mem_zip hv).1, if_pos hk]
    simp
  | p :: P, w :: vs, i + 1, m, nd, h1, h2, hk => by
    show bindL kindOf ((p, w) :: P.zip vs) m x = _
    unfold bindL
    exact bindL_get (i := i) (List.nodup_cons.mp nd).2 (by simpa using h1) (by simpa using h2) hk
theorem bindC_get {kindOf : Str → Option NameKind} {x : Str} {v : Value} : ∀ {P : List Str} {vs : List Value} {i : Nat} {m : Str → Option Value}, P.Nodup → P[i]? = some x → vs[i]? = some v → kindOf x ≠ some .local →
    bindC kindOf (P.zip vs) m x = some v
  | [], _, _, _, _, h, _, _ => by simp at h
  | _ :: _, [], _, _, _, _, h, _ => by simp at h
  | p :: P, w :: vs, 0, m, nd, h1, h2, hk => by
    simp at h1 h2; subst h1; subst h2
    show bindC kindOf ((p, w) :: P.zip vs) m p = _
    unfold bindC
    rw [bindC_out fun v hv => (List.nodup_cons.mp nd).1 (List.of_mem_zip hv).1, if_neg hk]
    simp
  | p :: P, w :: vs, i + 1, m, nd, h1, h2, hk => by
    show bindC kindOf ((p, w) :: P.zip vs) m x = _
    unfold bindC
    exact bindC_get (i := i) (List.nodup_cons.mp nd).2 (by simpa using h1) (by simpa using h2) hk
def start (N : List Str) (vs : List V) : St := vs.map some ++ List.replicate (N.length - vs.length) none
def cxOf (CX : CXT) (P : Program) (w : World) (K : PySem.W.Frag) (mg : Str → Option Value) (base : Heap) (N : List Str) (qual : Str) (scope : Scope) (f : Addr) (cd : Value) (A : Around) (outer : List Env) (s : Shared) (H : Hp) (E : XK) : Cx where
  prog := P
  w := w
  K := K
  mg := mg
  base := base
  A := A.deeper (envOfC qual scope s.heap.objs.size f cd)
  N := N
  s₀ := s
  H₀ := H
  env := envOfC qual scope s.heap.objs.size f cd
  outer := outer
  stack := envOfC qual scope s.heap.objs.size f cd :: outer
  ex := []
  calm := true
  fn := fun _ => true
  pn := []
  xe := fun e s' => wpAny (model P w) (A.deeper (envOfC qual scope s.heap.objs.size f cd)) (leaving (envOfC qual scope s.heap.objs.size f cd) e) (fun _ s'' => CX outer H s E e s'') (fun e' s'' => CX outer H s E e' s'') s'
theorem cell_has {sc : Scope} {n : Nat} {x : Str} (h : sc.names.lookup x = some .cell) : ∃ c, (cellsFrom n sc.names []).lookup x = some c := by
  have q := PySem.W.cellsFrom_some sc.names n [] (.inl h)
  exact Option.isSome_iff_exists.mp q
theorem inv_start {CX : CXT} {P : Program} {w : World} {K : PySem.W.Frag} {mg : Str → Option Value} {base : Heap} {N ps : List Str} {qual : Str} {scope : Scope} {f : Addr} {cd : Value} {A : Around} {outer : List Env} {s s1 : Shared} {H : Hp} {E : XK} {us : List Value} {vs : List V}
    (S : FnScope N ps scope) (hd : A.handled = none) (e0 : Env0 P w K mg base A outer s H) (hl : vs.length = ps.length) (r : Vals vs us)
    (x : InCallC s s.heap.objs.size (bindL (envOfC qual scope s.heap.objs.size f cd).kindOf (ps.zip us) fun _ => none) (cellsFrom (s.heap.objs.size + 1) scope.names []) (bindC (envOfC qual scope s.heap.objs.size f cd).kindOf (ps.zip us) fun _ => none) s1) :
    Inv (cxOf CX P w K mg base N qual scope f cd A outer s H E) [] (start N vs) H s1 := by
  have hpl : ps.length ≤ N.length := by have := congrArg List.length S.pre; rw [List.length_take] at this; omega
  obtain ⟨h1, tk, rfl, hk⟩ := x.done
  have noA : ∀ b : Addr, b ∉ (cxOf CX P w K mg base N qual scope f cd A outer s H E).ex := fun b z => absurd (show b ∈ ([] : List Addr) from z) (by simp)
  refine ⟨⟨e0.mod, S.kind, rfl, rfl, Nat.le_refl _, fun y z c h1 h2 => ?_, fun y hy => ?_, fun y c _ h => ?_, fun _ => hd, Around.frames_deeper e0.frames, .inr ⟨rfl, rfl⟩, fun b z => absurd z (noA b), e0.bs, e0.bsz, fun b _ _ => noA b, fun b z => absurd z (noA b), e0.funs, e0.frf⟩,
    rfl, e0.bare, Un.kept hk, ⟨_, x.toInCall.ns, fun i y v h1 h2 h3 => ?_⟩, fun y c h => ⟨_, x.cell y c h⟩, e0.hok.fresh (Nat.le_refl _), fun y c h => ?_, fun p hp => absurd (show p ∈ ([] : List (Addr × Obj)) from hp) (by simp), e0.hok.kept hk, ?_⟩
  · exact name_of_addr x.apart (PySem.mem_of_lookup h1) (PySem.mem_of_lookup h2)
  · have hy : scope.names.lookup y = some .cell ∨ scope.names.lookup y = some .free := hy
    rcases hy with hy | hy
    · exact cell_has hy
    · exact absurd rfl (S.nofree _ (PySem.mem_of_lookup hy))
  · exact Nat.le_of_lt (x.above y c (PySem.mem_of_lookup h))
  · have hi : i < vs.length := by
      unfold start at h2
      by_cases hi : i < vs.length
      · exact hi
      · rw [List.getElem?_append_right (by simpa using hi)] at h2
        rw [List.getElem?_replicate] at h2
        split at h2 <;> cases h2
    have ha : vs[i]? = some v := by
      unfold start at h2
      rw [List.getElem?_append_left (by simpa using hi), List.getElem?_map] at h2
      cases e : vs[i]? with
      | none => rw [e] at h2; cases h2
      | some a => rw [e] at h2; cases h2; rfl
    obtain ⟨u, hu, rv⟩ := r.get ha
    have hp : ps[i]? = some y := by
      rw [← S.pre, List.getElem?_take_of_lt (by omega)]; exact h1
    have ndP : ps.Nodup := by rw [← S.pre]; exact S.nd.sublist (List.take_sublist _ _)
    refine ⟨u, rv, ?_⟩
    rcases S.par y (List.mem_of_getElem? hp) with k | k
    · exact .inl ⟨k, bindL_get ndP hp hu k⟩
    · obtain ⟨c, e⟩ := cell_has (n := s.heap.objs.size + 1) k
      refine .inr ⟨.inl k, c, e, ?_⟩
      have q := x.cell y c e
      rw [bindC_get ndP hp hu (by show scope.names.lookup y ≠ _; rw [k]; decide)] at q
      exact q
  · exact e0.hok.fresh (Nat.le_of_lt (x.above y c (PySem.mem_of_lookup h)))
  · unfold start
    show _ = N.length
    rw [List.length_append, List.length_map, List.length_replicate]
    omega
theorem fn_of {CX : CXT} {P : Program} {w : World} {K : PySem.W.Frag} {mg : Str → Option Value} {base : Heap} {k : Nat} {f : Addr} {name qual : Str} {params : Arguments} {body : List Stmt} {scope : Scope} {dV kV doc pm cdv ct oc : Value} {an od : Option Addr}
    {osl : Array (Option Value)} {N ps : List Str} {sp : Sp} (lk : K.lookup f = some ⟨oc, od, .func (PySem.W.fnOf name qual params body scope dV kV doc pm an cdv ct), osl⟩) (hcd : PySem.W.codeIn K cdv qual = true) (S : FnScope N ps scope)
    (len : ∀ vs H Q E, sp vs H Q E → vs.length = ps.length)
    (hbody : ∀ (A : Around) (outer : List Env) (s : Shared) (H : Hp) (vs : List V) (Q : VK) (E : XK), Room k (A.deeper (envOfC qual scope s.heap.objs.size f cdv)) → sp vs H Q E →
      ∃ t, PSs (cxOf CX P w K mg base N qual scope f cdv A outer s H E) body t ∧ t { nx := fun _ H' => Q .non H', rt := Q } (start N vs) H) :
    FnOk P w K mg base CX (k + 1) f (PySem.W.fnOf name qual params body scope dV kV doc pm an cdv ct) ps sp := by
  refine ⟨len, fun A outer s H args us vs Q E hr e0 hb r hsp => ?_⟩
  have hl := len _ _ _ _ hsp
  have KX : K.In s.heap := e0.mod.kin.keeps fun b o e => (e0.bs b o e).1
  have lim : s.heap.NoLimit := e0.mod.nolimit.keeps fun b o e => (e0.bs b o e).1
  have hkind : ∀ y ∈ ps.zip us, scope.names.lookup y.1 = some .local ∨ (scope.names.lookup y.1 = some .cell ∧ ((cellsFrom (s.heap.objs.size + 1) scope.names []).lookup y.1).isSome = true) := fun ⟨n, v⟩ hy => by
    rcases S.par n (List.of_mem_zip hy).1 with q | q
    · exact .inl q
    · exact .inr ⟨q, PySem.W.cellsFrom_some _ _ _ (.inl q)⟩
  refine codeAny_call_function hr.depth (KX _ _ lk) rfl S.co S.gen rfl (PySem.W.codeRec_of KX hcd) (hb _ _ _ _ ?_)
  refine wpAny_newFunctionEnv_cells S.kind hkind fun env he s1 x => ?_
  subst he
  refine ⟨lim.keeps x.toInCall.keep, codeAny_func ?_⟩
  obtain ⟨t, ht, hq⟩ := hbody A outer s H vs Q E (hr.deeper _) hsp
  have I : Inv (cxOf CX P w K mg base N qual scope f cdv A outer s H E) [] (start N vs) H s1 := inv_start S hr.hd e0 hl r x
  refine wpAny_mono (ht [] s1 (start N vs) H _ I hq) (fun fl s' hs => ?_) fun e s' hs => hs
  have fin : ∀ {σ' : St} {H' : Hp} {v : V} {u : Value}, Inv (cxOf CX P w K mg base N qual scope f cdv A outer s H E) [] σ' H' s' → RelV v u → Q v H' → CE outer P w H s Q u s' :=
    fun {σ' H' v u} J rv q => ⟨v, H', J.os, J.bare, J.base, J.hok, rv, q⟩
  cases fl with
  | ret u =>
    obtain ⟨v, σ', H', J, rv, q⟩ := hs
    exact fin J rv q
  | next =>
    obtain ⟨σ', H', J, q⟩ := hs
    exact fin (v := V.non) (u := Value.none) J rfl q
  | brk =>
    obtain ⟨_, _, _, q⟩ := hs
    exact False.elim q
  | cont =>
    obtain ⟨_, _, _, q⟩ := hs
    exact False.elim q
end L2
namespace L2
open PySem PySem.Spec PyProof.Rows
section
variable {X : Cx} {x : Str} {p pos : Pos} {e : Expr} {es : List Expr} {t : TA} {id T : String} {r : List V → Hp → VK → Prop}
def tCB (r : List V → Hp → VK → Prop) (t : TA) : TE := fun σ H Q => t σ H fun vs H1 => r vs H1 Q
theorem pe_callB (hc : CallR X (.builtin id) r) (hg : Gl X x) (hm : X.mg x = none) (hv : bootBuiltins x = some (.builtin id)) (ha : PA X (e :: es) t) (hn : x ≠ "__name__" := by decide) (hdb : (x == ("__debug__" : Str)) = false := by decide)
    (he : starEach (e :: es) X.env = (false, eval e X.env) :: starEach es X.env := by rfl) (hpl : (backTo pos (starEach es X.env)).any (·.1) = false := by rfl) : PE X (.Call (.Name x p) (e :: es) [] pos) (tCB r t) := by
  intro pins s σ H Q I h
  refine wpAny_Call_Name_kw (ld_blt I hg hm hv ?_ hn hdb)
  exact PyProof.Rows.callWith_builtin1 (thn (ha pos pins s σ H _ I h) fun us s1 ⟨vs, H1, I1, r1, q1⟩ => hc pins s1 σ H1 vs us Q I1 r1 q1) he hpl
theorem pe_callTy (hc : CallR X (.type T) r) (hg : Gl X x) (hm : X.mg x = none) (hv : bootBuiltins x = some (.type T)) (ha : PA X (e :: es) t) (hn : x ≠ "__name__" := by decide) (hdb : (x == ("__debug__" : Str)) = false := by decide)
    (he : starEach (e :: es) X.env = (false, eval e X.env) :: starEach es X.env := by rfl) (hpl : (backTo pos (starEach es X.env)).any (·.1) = false := by rfl) : PE X (.Call (.Name x p) (e :: es) [] pos) (tCB r t) := by
  intro pins s σ H Q I h
  refine wpAny_Call_Name_kw (ld_blt I hg hm hv ?_ hn hdb)
  exact PyProof.Rows.callWith_type1 (thn (ha pos pins s σ H _ I h) fun us s1 ⟨vs, H1, I1, r1, q1⟩ => hc pins s1 σ H1 vs us Q I1 r1 q1) he hpl
end
end L2
namespace HT
open PySem PyProof.Rows
section
variable {prog : Program} {w : World} {A : Around} {E : Value → Shared → Prop} {s : Shared}
theorem cat_tup {t b : Addr} {vs ws : List Value} {Q : Value → Shared → Prop} (ht : IsTup s.heap t vs.toArray) (hb : IsTup s.heap b ws.toArray) (hv : vs ≠ [])
    (h1 : ws = [] → Q (.ref t) s) (h2 : ws ≠ [] → Q (.ref s.heap.objs.size) { s with heap := s.heap.push { cls := .type "tuple", data := .seq (vs ++ ws).toArray } })
    (hsz : vs.length + ws.length ≤ sizeLine) : wpAny (model prog w) A (binaryOp .Add (.ref t) (.ref b)) Q E s := by
  obtain ⟨⟨cls, dd, data, sl⟩, ho, hc, n, hd⟩ := id ht
  obtain ⟨⟨cls2, dd2, data2, sl2⟩, ho2, hc2, n2, hd2⟩ := id hb
  simp only at hc hd hc2 hd2
  subst hc hd hc2 hd2
  have e : vs.toArray ++ ws.toArray = (vs ++ ws).toArray := by simp
  by_cases hw : ws = []
  · exact concat_meets ⟨_, ho, rfl⟩ ⟨_, ho2, rfl⟩ noFill_tuple_add seq_tuple_add PySem.F.slot_tuple_add PySem.F.entry_tuple_add (PySem.F.args_tuple_add_2 _ _)
      (tuple_addW1 t b vs.toArray ws.toArray n n2 dd dd2 sl sl2 (by simpa using hv) (by simp [hw])) ⟨ho, ho2, h1 hw⟩
  · refine concat_meets ⟨_, ho, rfl⟩ ⟨_, ho2, rfl⟩ noFill_tuple_add seq_tuple_add PySem.F.slot_tuple_add PySem.F.entry_tuple_add (PySem.F.args_tuple_add_2 _ _)
      (tuple_addW2 t b vs.toArray ws.toArray n n2 dd dd2 sl sl2 (by simpa using hv) (by simpa using hw) (by rw [List.size_toArray, List.size_toArray]; exact hsz)) ⟨ho, ho2, ?_⟩
    rw [e]
    exact h2 hw
def sIx (n d : Nat) : Option Int → Nat
  | none => d
  | some v => if v < 0 then (v + (n : Int)).toNat else min v.toNat n
theorem sIx_le (n d : Nat) (hd : d ≤ n) (o : Option Int) : sIx n d o ≤ n := by
  cases o with
  | none => exact hd
  | some v =>
    show (if v < 0 then (v + (n : Int)).toNat else min v.toNat n) ≤ n
    by_cases hv : v < 0
    · rw [if_pos hv]; omega
    · rw [if_neg hv]; exact Nat.min_le_right _ _
theorem clip_eq (v : Int) (n d : Nat) : (if v < 0 then max (v + (n : Int)) 0 else min v (n : Int)) = ((sIx n d (some v) : Nat) : Int) := by
  show (if v < 0 then max (v + (n : Int)) 0 else min v (n : Int)) = (((if v < 0 then (v + (n : Int)).toNat else min v.toNat n) : Nat) : Int)
  by_cases hv : v < 0
  · simp only [if_pos hv]; omega
  · simp only [if_neg hv]; omega
theorem adjust_gen (lo hi : Option Int) (n : Nat) : Builtin.Slice.sliceAdjust lo hi 1 (n : Int) = (((sIx n 0 lo : Nat) : Int), ((sIx n n hi : Nat) : Int)) := by
  have h1 : ¬ ((1 : Int) < 0) := by omega
  unfold Builtin.Slice.sliceAdjust
  simp only [h1, if_false]
  refine Prod.ext ?_ ?_
  · cases lo with
    | none => rfl
    | some v => exact clip_eq v n 0
  · cases hi with
    | none => rfl
    | some v => exact clip_eq v n n
theorem places_gen (i j : Nat) : Builtin.Slice.slicePlaces (i : Int) (j : Int) 1 = j - i := by
  unfold Builtin.Slice.slicePlaces
  have h1 : (1 : Int) > 0 := by omega
  simp only [h1, if_true, Int.ediv_one]
  split <;> omega
theorem slicePart_ {v : Value} {o : Option Int} {Q : Option Int → Shared → Prop} (p : IsPart v o) (h : Q o s) : wpAny (model prog w) A (Builtin.Slice.slicePartIndex v) Q E s := by
  cases p with
  | none => exact slicePart_none h
  | int i t => exact slicePart_int h
theorem sliceApplied_gen {sl : Addr} {vl vu : Value} {lo hi : Option Int} {n : Nat} {Q : Int × Int × Nat → Shared → Prop} (hs : s.heap.IsSliceOf sl vl vu .none) (pl : IsPart vl lo) (pu : IsPart vu hi)
    (h : Q (((sIx n 0 lo : Nat) : Int), 1, sIx n n hi - sIx n 0 lo) s) : wpAny (model prog w) A (Builtin.Slice.sliceApplied (.ref sl) (pure (n : Int))) Q E s := by
  obtain ⟨os, hos, hcs, hds⟩ := id hs
  unfold Builtin.Slice.sliceApplied Builtin.Slice.sliceFields
  refine wpAny_bind (wpAny_bind (wpAny_field hos hds (x := vl) rfl (wpAny_bind (wpAny_field hos hds (x := vu) rfl (wpAny_bind (wpAny_field hos hds (x := .none) rfl (wpAny_pure ?_)))))))
  refine wpAny_bind (slicePart_none ?_)
  show wpAny _ _ (if ((1 : Int) == 0) = true then _ else _) _ _ s
  rw [if_neg (by decide)]
  refine wpAny_bind (slicePart_ pl (wpAny_bind (slicePart_ pu (wpAny_bind (wpAny_pure ?_)))))
  show wpAny _ _ (match Builtin.Slice.sliceAdjust lo hi 1 (n : Int) with | (lo, hi) => pure (lo, (1 : Int), Builtin.Slice.slicePlaces lo hi 1)) _ _ s
  rw [adjust_gen lo hi n]
  show wpAny _ _ (pure (((sIx n 0 lo : Nat) : Int), (1 : Int), Builtin.Slice.slicePlaces ((sIx n 0 lo : Nat) : Int) ((sIx n n hi : Nat) : Int) 1)) _ _ s
  rw [places_gen]
  exact wpAny_pure h
theorem pick_gen (xs : Array Value) (i k : Nat) : ((List.range k).filterMap fun (m : Nat) => xs[((i : Int) + (m : Int) * 1).toNat]?).toArray = ((xs.toList.drop i).take k).toArray := by
  have e : (fun (m : Nat) => xs[((i : Int) + (m : Int) * 1).toNat]?) = fun m => xs[i + m]? := by
    funext m
    have : ((i : Int) + (m : Int) * 1).toNat = i + m := by omega
    rw [this]
  rw [e]
  have := pick_run xs i k
  rw [List.filterMap_map] at this
  have e2 : ((fun x => xs[x]?) ∘ fun x => i + x) = fun m => xs[i + m]? := rfl
  rw [e2] at this
  rw [this]
theorem getItem_tuple_cut {t sl : Addr} {items : Array Value} {vl vu : Value} {lo hi : Option Int} {Q : Value → Shared → Prop} (ht : IsTup s.heap t items) (hs : s.heap.IsSliceOf sl vl vu .none) (pl : IsPart vl lo) (pu : IsPart vu hi)
    (hw : ¬ (sIx items.size 0 lo = 0 ∧ sIx items.size items.size hi = items.size))
    (h : Q (.ref s.heap.objs.size) { s with heap := s.heap.push { cls := .type "tuple", data := .seq ((items.toList.drop (sIx items.size 0 lo)).take (sIx items.size items.size hi - sIx items.size 0 lo)).toArray } })
    (hsz : items.size ≤ sizeLine) : wpAny (model prog w) A (getItem (.ref t) (.ref sl)) Q E s := by
  have htake : sizeOk (.seq ((items.toList.drop (sIx items.size 0 lo)).take (sIx items.size items.size hi - sIx items.size 0 lo)).toArray) := by
    show ((items.toList.drop (sIx items.size 0 lo)).take (sIx items.size items.size hi - sIx items.size 0 lo)).toArray.size ≤ sizeLine
    rw [List.size_toArray, List.length_take, List.length_drop, Array.length_toList]
    omega
  have hj : sIx items.size items.size hi ≤ items.size := sIx_le _ _ (Nat.le_refl _) hi
  obtain ⟨os, hos, hcs, hds⟩ := id hs
  have hTs : s.TypeIs (.ref sl) "slice" := ⟨os, hos, hcs⟩
  unfold getItem
  try with_reducible refine wpAny_holding ?_
  first | refine wpAny_bind (wpAny_pure ?_) | skip
  refine wpAny_bind (wpAny_sequenceKey ht.typeIs (by decide) ?_)
  refine wpAny_bind (wpAny_callSpecial?_slot (name := Str.ofString "__getitem__") ht.typeIs PyProof.Rows.slot_tuple_getitem
    (wpAny_call_entry PyProof.Rows.slot_tuple_getitem ht.typeIs entry_tuple_getitem ?_ (args_tuple_getitem _ _)))
  show wpAny _ _ (Builtin.Tuple.tupleItemsOf (.ref t) >>= _) _ _ s
  refine wpAny_bind (tupleItemsOf_ ht ?_)
  refine wpAny_bind (wpAny_typeOf hTs ?_)
  rw [if_pos (by decide)]
  refine wpAny_bind (sliceApplied_gen hs pl pu ?_)
  have hno : ¬ ((((sIx items.size 0 lo : Nat) : Int) == 0 && (1 : Int) == 1 && (sIx items.size items.size hi - sIx items.size 0 lo) == items.size) = true) := by
    intro q
    rw [Bool.and_eq_true, Bool.and_eq_true] at q
    have q1 : ((sIx items.size 0 lo : Nat) : Int) = 0 := eq_of_beq q.1.1
    have q2 : sIx items.size items.size hi - sIx items.size 0 lo = items.size := eq_of_beq q.2
    exact hw ⟨by omega, by omega⟩
  show wpAny _ _ (if (((sIx items.size 0 lo : Nat) : Int) == 0 && (1 : Int) == 1 && (sIx items.size items.size hi - sIx items.size 0 lo) == items.size) = true then _ else _) _ _ s
  rw [if_neg hno, pick_gen]
  first
    | exact wpAny_bind (m := Builtin.Tuple.tupleExact _) (wpAny_newObj_type (wpAny_pure ⟨_, rfl, wpAny_pure h⟩) htake)
    | exact wpAny_bind (m := Builtin.Tuple.tupleExact _) (wpAny_newObj_type (wpAny_bind (wpAny_pure (wpAny_pure ⟨_, rfl, wpAny_pure h⟩))) htake)
    | exact wpAny_bind (wpAny_bind (m := Builtin.Tuple.tupleExact _) (wpAny_newObj_type (wpAny_pure (wpAny_pure ⟨_, rfl, wpAny_pure h⟩)) htake))
    | exact wpAny_bind (wpAny_bind (m := Builtin.Tuple.tupleExact _) (wpAny_newObj_type (wpAny_pure ⟨_, rfl, wpAny_pure h⟩) htake))
end
end HT
namespace L2
open PySem PySem.Spec PyProof.Rows
abbrev TO := St → Hp → (Option Int → Hp → Prop) → Prop
def PO (X : Cx) (e : Option Expr) (t : TO) : Prop :=
  ∀ (pins : List (Addr × Obj)) (s : Shared) (σ : St) (H : Hp) (Q : Option Int → Hp → Prop), Inv X pins σ H s → t σ H Q →
    wpAny (model X.prog X.w) X.A (evalPart e X.env) (fun u s' => ∃ o H', Inv X pins σ H' s' ∧ IsPart u o ∧ Q o H') X.xe s
def tNoPart : TO := fun _ H Q => Q none H
def tPart (t : TE) : TO := fun σ H Q => t σ H fun x H1 => ∃ i, x = .int i ∧ Q (some i) H1
section
variable {X : Cx} {e : Expr} {te : TE} {lo hi : Option Expr} {tl th : TO} {pos p2 : Pos}
theorem po_none : PO X none tNoPart := by
  intro pins s σ H Q I h
  rw [evalPart_none]
  exact wpAny_pure ⟨none, H, I, .none, h⟩
theorem po_some (h : PE X e te) : PO X (some e) (tPart te) := by
  intro pins s σ H Q I hw
  rw [evalPart_some]
  refine thn (h pins s σ H _ I hw) fun u s1 ⟨x, H1, I1, r1, q1⟩ => ?_
  obtain ⟨i, rfl, q⟩ := q1
  obtain ⟨t, rfl⟩ := r1
  exact ⟨some i, H1, I1, .int i t, q⟩
def SlR (X : Cx) (r : V → Option Int → Option Int → Hp → VK → Prop) : Prop :=
  ∀ (pins : List (Addr × Obj)) (s : Shared) (σ : St) (H : Hp) (x : V) (v vl vu : Value) (lo hi : Option Int) (sl : Addr) (Q : VK), Inv X pins σ H s → RelV x v → s.heap.IsSliceOf sl vl vu .none → IsPart vl lo → IsPart vu hi → r x lo hi H Q →
    ∃ T id, typeLookup (.type T) "__getitem__" = pure (some (.builtin id)) ∧ s.TypeIs v T ∧ wpAny (model X.prog X.w) X.A (getItem v (.ref sl)) (EP X pins σ Q) X.xe s
theorem SlR.or {r r' : V → Option Int → Option Int → Hp → VK → Prop} (h : SlR X r) (h' : SlR X r') : SlR X (fun x lo hi H Q => r x lo hi H Q ∨ r' x lo hi H Q) := by
  intro pins s σ H x v vl vu lo hi sl Q I rx hs pl pu q
  rcases q with q | q
  · exact h pins s σ H x v vl vu lo hi sl Q I rx hs pl pu q
  · exact h' pins s σ H x v vl vu lo hi sl Q I rx hs pl pu q
def tSl (r : V → Option Int → Option Int → Hp → VK → Prop) (te : TE) (tl th : TO) : TE := fun σ H Q => te σ H fun x H1 => tl σ H1 fun l H2 => th σ H2 fun u H3 => r x l u H3 Q
theorem pe_slice {r : V → Option Int → Option Int → Hp → VK → Prop} (hr : SlR X r) (he : PE X e te) (hl : PO X lo tl) (hu : PO X hi th) : PE X (.Subscript e (.Slice lo hi none p2) pos) (tSl r te tl th) := by
  intro pins s σ H Q I h
  refine Subscript_ (thn (he pins s σ H _ I h) fun v s1 ⟨x, H1, I1, r1, q1⟩ => ?_)
  refine wpAny_Slice (thn (hl pins s1 σ H1 _ I1 q1) fun vl s2 ⟨l, H2, I2, pl, q2⟩ => thn (hu pins s2 σ H2 _ I2 q2) fun vu s3 ⟨u, H3, I3, pu, q3⟩ => ?_)
  rw [evalPart_none]
  refine wpAny_pure ?_
  have I4 : Inv X pins σ H3 { s3 with heap := s3.heap.push { cls := .type "slice", data := .fields #[vl, vu, .none] } } := I3.kept (t' := s3.toks) fun b ob q => Heap.get?_push_of_some _ q
  obtain ⟨T, id, hT, ht, hg⟩ := hr pins { s3 with heap := s3.heap.push { cls := .type "slice", data := .fields #[vl, vu, .none] } } σ H3 x v vl vu l u s3.heap.objs.size Q I4 r1 (Heap.IsSliceOf.new ..) pl pu q3
  show wpAny (model X.prog X.w) X.A (subscriptTail e (.Slice lo hi none p2) v (.ref s3.heap.objs.size)) (EP X pins σ Q) X.xe { s3 with heap := s3.heap.push { cls := .type "slice", data := .fields #[vl, vu, .none] } }
  exact tail_any (ops := [.ref s3.heap.objs.size, v]) ht hT hg (by with_unfolding_all rfl)
def cutV (xs : List V) (lo hi : Option Int) : List V := (xs.drop (HT.sIx xs.length 0 lo)).take (HT.sIx xs.length xs.length hi - HT.sIx xs.length 0 lo)
theorem cutV_length (xs : List V) (lo hi : Option Int) : (cutV xs lo hi).length ≤ xs.length := by
  unfold cutV
  rw [List.length_take, List.length_drop]
  omega
def rSlT (K : PySem.W.Frag) : V → Option Int → Option Int → Hp → VK → Prop := fun x lo hi H Q => ∃ a xs, x = .ref a ∧ SqT K H a xs ∧
  ¬ (HT.sIx xs.length 0 lo = 0 ∧ HT.sIx xs.length xs.length hi = xs.length) ∧ ∀ p, H p = none → Q (.ref p) (upd H p (.tup (cutV xs lo hi)))
theorem sl_tup : SlR X (rSlT X.K) := by
  intro pins s σ H x v vl vu lo hi sl Q I rx hs pl pu h
  obtain ⟨a, xs, rfl, hx, hw, q⟩ := h
  cases rx
  obtain ⟨its, r, ht, hz⟩ := I.tuple hx
  have hlen : its.toArray.size = xs.length := by rw [List.size_toArray]; exact r.length.symm
  refine ⟨"tuple", _, PyProof.Rows.slot_tuple_getitem.lookup, ht.typeIs, ?_⟩
  refine HT.getItem_tuple_cut ht hs pl pu (by rw [hlen]; exact hw) ?_ (by rw [hlen]; exact hz)
  rw [hlen]
  refine ⟨.ref s.heap.objs.size, _, I.laid (t' := s.toks) (o := .tup (cutV xs lo hi)) (fun b ob q => Heap.get?_push_of_some _ q) (Nat.le_refl _) ?_, rfl, q _ (I.hok.fresh (Nat.le_refl _))⟩
  exact ⟨Nat.le_trans (cutV_length xs lo hi) hz, _, (r.drop (HT.sIx xs.length 0 lo)).take (HT.sIx xs.length xs.length hi - HT.sIx xs.length 0 lo), IsTup.new _ _⟩
def rCatT (K : PySem.W.Frag) : R2 := fun x y H Q => ∃ a b xs ys, x = .ref a ∧ y = .ref b ∧ SqT K H a xs ∧ SqT K H b ys ∧ xs ≠ [] ∧ xs.length + ys.length ≤ sizeLine ∧
  (ys = [] → Q (.ref a) H) ∧ (ys ≠ [] → ∀ p, H p = none → Q (.ref p) (upd H p (.tup (xs ++ ys))))
theorem Vals.nil_iff {xs : List V} {us : List Value} (r : Vals xs us) : us = [] ↔ xs = [] := by
  cases r with
  | nil => simp
  | cons _ _ => simp
theorem op_catT : OpR X (binaryOp .Add) (rCatT X.K) := by
  intro pins s σ H x y v u Q I rx ry h
  obtain ⟨a, b, xs, ys, rfl, rfl, ha, hb, hx, hz, q1, q2⟩ := h
  cases rx
  cases ry
  obtain ⟨its, r1, p1, _⟩ := I.tuple ha
  obtain ⟨its2, r2, p2, _⟩ := I.tuple hb
  refine HT.cat_tup p1 p2 (fun z => hx (r1.nil_iff.mp z)) (fun z => ⟨.ref a, H, I, rfl, q1 (r2.nil_iff.mp z)⟩) (fun z => ?_) (by rw [← r1.length, ← r2.length]; exact hz)
  refine ⟨.ref s.heap.objs.size, _, I.laid (t' := s.toks) (o := .tup (xs ++ ys)) (fun b ob q => Heap.get?_push_of_some _ q) (Nat.le_refl _) ?_, rfl, q2 (fun w => z (r2.nil_iff.mpr w)) _ (I.hok.fresh (Nat.le_refl _))⟩
  exact ⟨by rw [List.length_append]; exact hz, _, r1.append r2, IsTup.new _ _⟩
end
end L2
namespace L2
open PySem PySem.Spec PyProof.Rows
def ixN (n : Nat) (i : Int) : Option Nat := if 0 ≤ i then (if i < n then some i.toNat else none) else if -(n : Int) ≤ i then some (i + n).toNat else none
def atI {α : Type} (xs : List α) (i : Int) : Option α := (ixN xs.length i).bind fun j => xs[j]?
theorem ixN_seq {n : Nat} {i : Int} {j : Nat} (h : ixN n i = some j) : seqIndex? i n = some j ∧ j < n ∧ -(n : Int) ≤ i ∧ i < n := by
  unfold ixN at h
  by_cases h0 : 0 ≤ i
  · rw [if_pos h0] at h
    by_cases h1 : i < n
    · rw [if_pos h1] at h
      have e : i.toNat = j := Option.some.inj h
      exact ⟨by rw [seqIndex_of h0 h1, e], by omega, by omega, h1⟩
    · rw [if_neg h1] at h; cases h
  · rw [if_neg h0] at h
    by_cases h1 : -(n : Int) ≤ i
    · rw [if_pos h1] at h
      have e : (i + n).toNat = j := Option.some.inj h
      exact ⟨by rw [seqIndex_neg (by omega) h1, e], by omega, h1, by omega⟩
    · rw [if_neg h1] at h; cases h
theorem atI_get {α : Type} {xs : List α} {i : Int} {v : α} (h : atI xs i = some v) : ∃ j, seqIndex? i xs.length = some j ∧ xs[j]? = some v ∧ j < xs.length ∧ -(xs.length : Int) ≤ i ∧ i < xs.length := by
  unfold atI at h
  cases e : ixN xs.length i with
  | none => rw [e] at h; cases h
  | some j =>
    rw [e] at h
    obtain ⟨h1, h2, h3, h4⟩ := ixN_seq e
    exact ⟨j, h1, h, h2, h3, h4⟩
theorem atI_nat {α : Type} {xs : List α} {j : Nat} {v : α} (h : xs[j]? = some v) : atI xs (j : Int) = some v := by
  have hj : j < xs.length := (List.getElem?_eq_some_iff.mp h).1
  have e : ixN xs.length (j : Int) = some j := by
    unfold ixN
    rw [if_pos (by omega), if_pos (by omega)]; simp
  unfold atI; rw [e]; exact h
def PlainIx (b : Expr) : Prop := ∀ o i, subscripted b false o i = operate [o, i] (getItem o i)
def IxR (X : Cx) (r : R2) : Prop :=
  ∀ (value slice : Expr) (pins : List (Addr × Obj)) (s : Shared) (σ : St) (H : Hp) (x y : V) (v u : Value) (Q : VK), Inv X pins σ H s → RelV x v → RelV y u → r x y H Q →
    subscripted slice false v u = operate [v, u] (getItem v u) → wpAny (model X.prog X.w) X.A (subscriptTail value slice v u) (EP X pins σ Q) X.xe s
def MtR (X : Cx) (id : String) (r : V → List V → Hp → VK → Prop) : Prop :=
  ∀ (pins : List (Addr × Obj)) (s : Shared) (σ : St) (H : Hp) (x : V) (xs : List V) (v : Value) (us : List Value) (Q : VK), Inv X pins σ H s → RelV x v → Vals xs us → r x xs H Q →
    wpAny (model X.prog X.w) X.A (call (.builtin id) (v :: us)) (EP X pins σ Q) X.xe s
section
variable {X : Cx} {a b : Expr} {ta tb : TE} {pos : Pos}
theorem IxR.or {r r' : R2} (h : IxR X r) (h' : IxR X r') : IxR X (fun x y H Q => r x y H Q ∨ r' x y H Q) := by
  intro value slice pins s σ H x y v u Q I rx ry q hs
  rcases q with q | q
  · exact h value slice pins s σ H x y v u Q I rx ry q hs
  · exact h' value slice pins s σ H x y v u Q I rx ry q hs
theorem pe_ix {r : R2} (hr : IxR X r) (ha : PE X a ta) (hb : PE X b tb) (hs : PlainIx b) : PE X (.Subscript a b pos) (tOp r ta tb) := by
  intro pins s σ H Q I h
  exact Subscript_ (binT ha hb I h fun v u s2 x y H2 I2 rx ry q => hr a b pins s2 σ H2 x y v u Q I2 rx ry q (hs _ _))
def rIxL (K : PySem.W.Frag) : R2 := fun x y H Q => ∃ p xs i v, x = .ref p ∧ y = .int i ∧ SqL K H p xs ∧ atI xs i = some v ∧ Q v H
def rIxT (K : PySem.W.Frag) : R2 := fun x y H Q => ∃ p xs i v, x = .ref p ∧ y = .int i ∧ SqT K H p xs ∧ atI xs i = some v ∧ Q v H
def rIxS : R2 := fun x y H Q => ∃ z i c, x = .str z ∧ y = .int i ∧ z.length ≤ sizeLine ∧ atI z.cps.toList i = some c ∧ Q (.str ⟨#[c]⟩) H
theorem ix_list : IxR X (rIxL X.K) := by
  intro value slice pins s σ H x y v u Q I rx ry h hs
  obtain ⟨p, xs, i, z, rfl, rfl, hq, he, q⟩ := h
  cases rx
  obtain ⟨t, rfl⟩ := ry
  obtain ⟨its, r, pl, hz⟩ := I.list hq
  obtain ⟨j, h1, h2, h3, h4, h5⟩ := atI_get he
  obtain ⟨w, ew, rw'⟩ := r.get h2
  have hl := r.length
  have hn := line63
  have fin : EP X pins σ Q w s := ⟨z, H, I, rw', q⟩
  by_cases h0 : 0 ≤ i
  · have hj : i.toNat = j := by
      rw [seqIndex_of h0 h5] at h1
      exact Option.some.inj h1
    exact item_listR pl.isList h0 (by omega) (by rw [hj]; simpa using ew) fin hs
  · have hj : (i + (its.toArray.size : Int)).toNat = j := by
      rw [seqIndex_neg (by omega) h4] at h1
      rw [List.size_toArray, ← hl]
      exact Option.some.inj h1
    exact subscriptTail_builtinR (x := w) pl.isList.typeIs slot_list_getitem.lookup
      (wpAny_getItem_list_neg (Q := fun r s' => r = w ∧ EP X pins σ Q r s') pl.isList (by omega) (by rw [List.size_toArray] <;> omega) (by omega) (by rw [hj]; simpa using ew) ⟨rfl, fin⟩) hs
theorem ix_tup : IxR X (rIxT X.K) := by
  intro value slice pins s σ H x y v u Q I rx ry h hs
  obtain ⟨p, xs, i, z, rfl, rfl, hq, he, q⟩ := h
  cases rx
  obtain ⟨t, rfl⟩ := ry
  obtain ⟨its, r, pl, hz⟩ := I.tuple hq
  obtain ⟨j, h1, h2, h3, h4, h5⟩ := atI_get he
  obtain ⟨w, ew, rw'⟩ := r.get h2
  have hl := r.length
  have hn := line63
  have fin : EP X pins σ Q w s := ⟨z, H, I, rw', q⟩
  exact subscriptTail_builtinR (x := w) pl.typeIs slot_tuple_getitem.lookup
    (getItem_tuple (j := j) (Q := fun r s' => r = w ∧ EP X pins σ Q r s') pl (by omega) (by omega) (by rw [List.size_toArray, ← hl]; exact h1) (by simpa using ew) ⟨rfl, fin⟩) hs
theorem ix_str : IxR X rIxS := by
  intro value slice pins s σ H x y v u Q I rx ry h hs
  obtain ⟨z, i, c, rfl, rfl, hz, he, q⟩ := h
  obtain ⟨t, rfl⟩ := rx
  obtain ⟨t', rfl⟩ := ry
  obtain ⟨j, h1, h2, h3, h4, h5⟩ := atI_get he
  have hl : z.cps.toList.length = z.length := by simp [Str.length]
  rw [hl] at h1 h4 h5
  have hn := line63
  exact tail_any (typeIs_str s z t) slot_str_getitem.lookup (getItem_str (c := c) (by
    have e1 : decide (i < -(2 ^ 63 : Int)) = false := decide_eq_false (by omega)
    have e2 : decide (i ≥ 2 ^ 63) = false := decide_eq_false (by omega)
    rw [e1, e2, Bool.or_false]) (by rw [h1]; simpa using h2) ⟨.str ⟨#[c]⟩, H, I.tok _, ⟨_, rfl⟩, q⟩) hs
def rIx (K : PySem.W.Frag) : R2 := fun x y H Q => rIxL K x y H Q ∨ rIxT K x y H Q ∨ rIxS x y H Q
theorem ix_seq : IxR X (rIx X.K) := ix_list.or (ix_tup.or ix_str)
theorem mapSeq_set (its : List Value) (n j : Nat) (u : Value) : Obj.mapSeq (·.setIfInBounds j u) { cls := .type "list", data := .seq its.toArray n } = { cls := .type "list", data := .seq (its.set j u).toArray n } := by
  simp [Obj.mapSeq]
theorem Inv.lst {pins : List (Addr × Obj)} {σ : St} {H : Hp} {s : Shared} {p : Addr} {xs : List V} (I : Inv X pins σ H s) (h : H p = some (.lst xs)) :
    ∃ (its : List Value) (n : Nat), Vals xs its ∧ s.heap.get? p = some { cls := .type "list", data := .seq its.toArray n } ∧ xs.length ≤ sizeLine := by
  obtain ⟨z, its, n, r, e⟩ := I.hok p _ h
  exact ⟨its, n, r, e, z⟩
theorem Inv.lstUpd {pins : List (Addr × Obj)} {σ : St} {H : Hp} {s : Shared} {p : Addr} {xs ys : List V} {its its' : List Value} {n n' : Nat} {f : Obj → Obj} (I : Inv X pins σ H s) (h : H p = some (.lst xs))
    (ho : s.heap.get? p = some { cls := .type "list", data := .seq its.toArray n }) (hf : f { cls := .type "list", data := .seq its.toArray n } = { cls := .type "list", data := .seq its'.toArray n' }) (r : Vals ys its') (hz : ys.length ≤ sizeLine) (t : Nat) :
    Inv X pins σ (upd H p (.lst ys)) { s with heap := s.heap.update p f, toks := t } := by
  have e : (s.heap.update p f).get? p = some { cls := .type "list", data := .seq its'.toArray n' } := by
    rw [Heap.get?_update_self f ho (by rw [hf] <;> rfl), hf]
  refine I.write (x := p) (e := p) (by rw [h]; trivial) (.inl rfl) (fun b u hb q => (Heap.get?_update_other _ _ (Ne.symm hb)).trans q) ⟨_, e⟩ ?_
  exact ⟨hz, its', n', r, e⟩
def rSetL : V → V → V → Hp → (Hp → Prop) → Prop := fun o i v H Q => ∃ p xs k j, o = .ref p ∧ i = .int k ∧ H p = some (.lst xs) ∧ ixN xs.length k = some j ∧ Q (upd H p (.lst (xs.set j v)))
theorem set_list : PSet X rSetL := by
  intro pins s σ H o i v ov iv u Q I ro ri rv h
  obtain ⟨p, xs, k, j, rfl, rfl, hp, hj, q⟩ := h
  cases ro
  obtain ⟨t, rfl⟩ := ri
  obtain ⟨its, n, r, ho, hz⟩ := I.lst hp
  obtain ⟨h1, h2, h3, h4⟩ := ixN_seq hj
  have hl := r.length
  have hn := line63
  have I' : Inv X pins σ (upd H p (.lst (xs.set j v))) { s with heap := s.heap.update p (Obj.mapSeq (·.setIfInBounds j u)) } :=
    I.lstUpd hp ho (mapSeq_set its n j u) (r.set rv j) (by rw [List.length_set]; exact hz) s.toks
  by_cases h0 : 0 ≤ k
  · have hk : k.toNat = j := by
      rw [seqIndex_of h0 h4] at h1
      exact Option.some.inj h1
    exact PySem.W.ki_setAt ho h0 (by omega) (by rw [List.size_toArray, ← hl]; exact h4) (by rw [hk]; exact ⟨_, I', q⟩)
  · have hk : (k + (its.toArray.size : Int)).toNat = j := by
      rw [seqIndex_neg (by omega) h3] at h1
      rw [List.size_toArray, ← hl]
      exact Option.some.inj h1
    exact PySem.W.ki_setBack ho (by omega) (by rw [List.size_toArray, ← hl]; exact h3) (by omega) (by rw [hk]; exact ⟨_, I', q⟩)
theorem slice_bounds (lo hi : Option Int) (n : Nat) : (sliceBounds lo hi none n).1 = ((HT.sIx n 0 lo : Nat) : Int) ∧ (sliceBounds lo hi none n).2.1 = ((HT.sIx n n hi : Nat) : Int) ∧ (sliceBounds lo hi none n).2.2 = 1 := by
  refine ⟨?_, ?_, rfl⟩
  · cases lo with
    | none => simp [sliceBounds, HT.sIx]
    | some i =>
      simp only [sliceBounds, HT.sIx, Option.getD_none, show (1 : Int) > 0 by decide, if_true]
      by_cases h : i < 0
      · simp only [h, if_true] <;> omega
      · simp only [h, if_false] <;> omega
  · cases hi with
    | none => simp [sliceBounds, HT.sIx]
    | some i =>
      simp only [sliceBounds, HT.sIx, Option.getD_none, show (1 : Int) > 0 by decide, if_true]
      by_cases h : i < 0
      · simp only [h, if_true] <;> omega
      · simp only [h, if_false] <;> omega
theorem slicePick_cut (its : List Value) (lo hi : Option Int) : slicePick its.toArray lo hi none = ((its.drop (HT.sIx its.length 0 lo)).take (HT.sIx its.length its.length hi - HT.sIx its.length 0 lo)).toArray := by
  obtain ⟨h1, h2, h3⟩ := slice_bounds lo hi its.toArray.size
  unfold slicePick
  rw [h1, h2, h3]
  simp only [sliceRange_one, pick_run, List.size_toArray] <;> rfl
def rSlL (K : PySem.W.Frag) : V → Option Int → Option Int → Hp → VK → Prop := fun x lo hi H Q => ∃ a xs, x = .ref a ∧ SqL K H a xs ∧ ∀ p, H p = none → Q (.ref p) (upd H p (.lst (cutV xs lo hi)))
theorem sl_list : SlR X (rSlL X.K) := by
  intro pins s σ H x v vl vu lo hi sl Q I rx hs pl pu h
  obtain ⟨a, xs, rfl, hx, q⟩ := h
  cases rx
  obtain ⟨its, r, ht, hz⟩ := I.list hx
  have hlen := r.length
  refine ⟨"list", _, slot_list_getitem.lookup, ht.isList.typeIs, ?_⟩
  refine wpAny_getItem_list_slice ht.isList hs pl pu .none (by simp) ?_ (by rw [List.size_toArray] <;> omega)
  rw [slicePick_cut, ← hlen]
  refine ⟨.ref s.heap.objs.size, _, I.laid (t' := s.toks) (o := .lst (cutV xs lo hi)) (fun b ob q => Heap.get?_push_of_some _ q) (Nat.le_refl _) ?_, rfl, q _ (I.hok.fresh (Nat.le_refl _))⟩
  exact ⟨Nat.le_trans (cutV_length xs lo hi) hz, _, 0, (r.drop (HT.sIx xs.length 0 lo)).take (HT.sIx xs.length xs.length hi - HT.sIx xs.length 0 lo), Heap.get?_push_size _ rfl⟩
def flatV : V → Bool
  | .non => true
  | .bl _ => true
  | .int _ => true
  | .str _ => true
  | _ => false
def eqV : V → V → Bool
  | .non, .non => true
  | .bl a, .bl b => a == b
  | .bl a, .int b => (if a then 1 else 0) == b
  | .int a, .bl b => a == (if b then 1 else 0)
  | .int a, .int b => a == b
  | .str a, .str b => a == b
  | _, _ => false
theorem eqAt_V {A : Around} {s : Shared} {y x : V} {u v : Value} (ry : RelV y u) (rx : RelV x v) (fy : flatV y = true) (fx : flatV x = true) : SeqAt.EqAt A s u v (eqV y x) := by
  cases y with
  | non =>
    cases ry
    cases x with
    | non => cases rx; exact SeqAt.EqAt.same _
    | bl b => cases rx; exact SeqAt.EqAt.none_bool b
    | int b => obtain ⟨t, rfl⟩ := rx; exact SeqAt.EqAt.none_int b t
    | str b => obtain ⟨t, rfl⟩ := rx; exact SeqAt.EqAt.none_str b t
    | _ => exact absurd (show false = true from fx) Bool.false_ne_true
  | bl a =>
    cases ry
    cases x with
    | non => cases rx; exact SeqAt.EqAt.bool_none a
    | bl b => cases rx; exact SeqAt.EqAt.bool_bool a b
    | int b => obtain ⟨t, rfl⟩ := rx; exact SeqAt.EqAt.bool_int a b t
    | str b => obtain ⟨t, rfl⟩ := rx; exact SeqAt.EqAt.bool_str a b t
    | _ => exact absurd (show false = true from fx) Bool.false_ne_true
  | int a =>
    obtain ⟨t', rfl⟩ := ry
    cases x with
    | non => cases rx; exact SeqAt.EqAt.int_none a t'
    | bl b => cases rx; exact SeqAt.EqAt.int_bool a t' b
    | int b => obtain ⟨t, rfl⟩ := rx; exact SeqAt.EqAt.int_int a t' b t
    | str b => obtain ⟨t, rfl⟩ := rx; exact SeqAt.EqAt.int_str a t' b t
    | _ => exact absurd (show false = true from fx) Bool.false_ne_true
  | str a =>
    obtain ⟨t', rfl⟩ := ry
    cases x with
    | non => cases rx; exact SeqAt.EqAt.str_none a t'
    | bl b => cases rx; exact SeqAt.EqAt.str_bool a t' b
    | int b => obtain ⟨t, rfl⟩ := rx; exact SeqAt.EqAt.str_int a t' b t
    | str b => obtain ⟨t, rfl⟩ := rx; exact SeqAt.EqAt.str_str a t' b t
    | _ => exact absurd (show false = true from fx) Bool.false_ne_true
  | _ => exact absurd (show false = true from fy) Bool.false_ne_true
def eqU (x : V) (u : Value) : Bool := match u with
  | .none => eqV .non x
  | .bool b => eqV (.bl b) x
  | .int i _ => eqV (.int i) x
  | .str z _ => eqV (.str z) x
  | _ => false
theorem eqU_of {x y : V} {u : Value} (r : RelV y u) (f : flatV y = true) : eqU x u = eqV y x := by
  cases y with
  | non => cases r; rfl
  | bl b => cases r; rfl
  | int i => obtain ⟨t, rfl⟩ := r; rfl
  | str z => obtain ⟨t, rfl⟩ := r; rfl
  | _ => exact absurd (show false = true from f) Bool.false_ne_true
theorem any_eqU {x : V} : ∀ {xs : List V} {us : List Value}, Vals xs us → xs.all flatV = true → us.any (eqU x) = xs.any fun y => eqV y x
  | _, _, .nil, _ => rfl
  | y :: xs, u :: us, .cons r t, f => by
    rw [List.all_cons, Bool.and_eq_true] at f
    rw [List.any_cons, List.any_cons, eqU_of r f.1, any_eqU t f.2]
theorem mem_eqAt {A : Around} {s : Shared} {x : V} {v : Value} (rx : RelV x v) (fx : flatV x = true) : ∀ {xs : List V} {us : List Value}, Vals xs us → xs.all flatV = true → ∀ u ∈ us, SeqAt.EqAt A s u v (eqU x u)
  | _, _, .nil, _ => fun u hu => by cases hu
  | y :: xs, u :: us, .cons r t, f => fun u' hu => by
    rw [List.all_cons, Bool.and_eq_true] at f
    rcases List.mem_cons.mp hu with rfl | hu
    · rw [eqU_of r f.1]; exact eqAt_V r rx f.1 fx
    · exact mem_eqAt rx fx t f.2 u' hu
def inV (x : V) (xs : List V) : Bool := xs.any fun y => eqV y x
def rIn (K : PySem.W.Frag) (neg : Bool) : R2 := fun x y H Q => ∃ p xs, y = .ref p ∧ (SqL K H p xs ∨ SqT K H p xs) ∧ flatV x = true ∧ xs.all flatV = true ∧ Q (.bl (if neg then !inV x xs else inV x xs)) H
theorem op_in_seq : OpR X (compareOp .In) (rIn X.K false) := by
  intro pins s σ H x y v u Q I rx ry h
  obtain ⟨p, xs, rfl, hq, fx, fs, q⟩ := h
  cases ry
  rcases hq with hq | hq
  · obtain ⟨its, r, pl, hz⟩ := I.list hq
    refine SeqAt.in_listAt (eqU x) pl.isList (fun w hw => mem_eqAt rx fx r fs w (by simpa using hw)) ⟨.bl _, H, I, rfl, ?_⟩
    rw [show its.toArray.any (eqU x) = its.any (eqU x) by simp, any_eqU r fs]
    exact q
  · obtain ⟨its, r, pl, hz⟩ := I.tuple hq
    refine SeqAt.in_tupleAt (eqU x) pl (fun w hw => mem_eqAt rx fx r fs w (by simpa using hw)) ⟨.bl _, H, I, rfl, ?_⟩
    rw [show its.toArray.any (eqU x) = its.any (eqU x) by simp, any_eqU r fs]
    exact q
theorem op_notIn_seq : OpR X (compareOp .NotIn) (rIn X.K true) := by
  intro pins s σ H x y v u Q I rx ry h
  obtain ⟨p, xs, rfl, hq, fx, fs, q⟩ := h
  cases ry
  rcases hq with hq | hq
  · obtain ⟨its, r, pl, hz⟩ := I.list hq
    refine SeqAt.notIn_listAt (eqU x) pl.isList (fun w hw => mem_eqAt rx fx r fs w (by simpa using hw)) ⟨.bl _, H, I, rfl, ?_⟩
    rw [show its.toArray.any (eqU x) = its.any (eqU x) by simp, any_eqU r fs]
    exact q
  · obtain ⟨its, r, pl, hz⟩ := I.tuple hq
    refine SeqAt.notIn_tupleAt (eqU x) pl (fun w hw => mem_eqAt rx fx r fs w (by simpa using hw)) ⟨.bl _, H, I, rfl, ?_⟩
    rw [show its.toArray.any (eqU x) = its.any (eqU x) by simp, any_eqU r fs]
    exact q
theorem call_list_of : CallR X (.type "list") (fun xs H Q => ∃ p ys, xs = [.ref p] ∧ (SqL X.K H p ys ∨ SqT X.K H p ys) ∧ ∀ l, H l = none → Q (.ref l) (upd H l (.lst ys))) := by
  intro pins s σ H xs us Q I r h
  obtain ⟨p, ys, rfl, hq, q⟩ := h
  obtain ⟨u, rfl, rx⟩ := vals1 r
  cases rx
  have fin : ∀ (its : List Value), Vals ys its → ys.length ≤ sizeLine → ∀ (h' : Heap) (c' : Nat), (∀ b o', s.heap.get? b = some o' → h'.get? b = some o') →
      h'.get? s.heap.objs.size = some { cls := .type "list", dict := none, data := .seq its.toArray c', slots := #[] } → EP X pins σ Q (.ref s.heap.objs.size) { s with heap := h' } := fun its r' hz h' c' kp e =>
    ⟨.ref s.heap.objs.size, _, I.laid (t' := s.toks) kp (Nat.le_refl _) (show ObjOk X.prog X.w _ h' _ (.lst ys) from ⟨hz, its, c', r', e⟩), rfl, q _ (I.hok.fresh (Nat.le_refl _))⟩
  rcases hq with hq | hq
  · obtain ⟨its, r', pl, hz⟩ := I.list hq
    have hlen := r'.length
    obtain ⟨o, ho, hc, n, hd⟩ := pl.isList
    exact call_list_seq p (.inl rfl) ho hc hd (fun h' c' kp e => fin its r' hz h' c' kp e) (by simp only [List.size_toArray] <;> omega)
  · obtain ⟨its, r', pl, hz⟩ := I.tuple hq
    have hlen := r'.length
    obtain ⟨o, ho, hc, n, hd⟩ := pl
    exact call_list_seq p (.inr rfl) ho hc hd (fun h' c' kp e => fin its r' hz h' c' kp e) (by simp only [List.size_toArray] <;> omega)
theorem call_tuple_of : CallR X (.type "tuple") (fun xs H Q => ∃ p ys, xs = [.ref p] ∧ ((SqL X.K H p ys ∧ ∀ l, H l = none → Q (.ref l) (upd H l (.tup ys))) ∨ (SqT X.K H p ys ∧ Q (.ref p) H))) := by
  intro pins s σ H xs us Q I r h
  obtain ⟨p, ys, rfl, h⟩ := h
  obtain ⟨u, rfl, rx⟩ := vals1 r
  cases rx
  rcases h with ⟨hq, q⟩ | ⟨hq, q⟩
  · obtain ⟨its, r', pl, hz⟩ := I.list hq
    have hlen := r'.length
    refine call_tuple_list pl.isList (fun h' kp => ?_) (by simp only [List.size_toArray] <;> omega)
    have I1 : Inv X pins σ H { s with heap := h' } := I.kept (t' := s.toks) kp
    have I2 : Inv X pins σ (upd H h'.objs.size (.tup ys)) { s with heap := h'.push { cls := .type "tuple", data := .seq its.toArray } } :=
      I1.laid (t' := s.toks) (fun b o e => Heap.get?_push_of_some _ e) (Nat.le_refl _) (show ObjOk X.prog X.w _ _ _ (.tup ys) from ⟨hz, its, r', IsTup.new _ _⟩)
    exact ⟨.ref h'.objs.size, _, I2, rfl, q _ (I1.hok.fresh (Nat.le_refl _))⟩
  · obtain ⟨its, r', pl, hz⟩ := I.tuple hq
    exact call_tuple_same pl ⟨.ref p, H, I, rfl, q⟩
def tyV (K : PySem.W.Frag) (T : String) (x : V) (H : Hp) : Prop := match x with
  | .str _ => T = "str"
  | .int _ => T = "int"
  | .ref p => (T = "list" ∧ ∃ xs, SqL K H p xs) ∨ (T = "tuple" ∧ ∃ o, K.lookup p = some o ∧ o.cls = .type "tuple" ∧ o.dict = none) ∨
      (T = "dict" ∧ ((∃ kvs, H p = some (.dK kvs)) ∨ ∃ kvs, H p = some (.dT kvs))) ∨ (T = "set" ∧ ∃ S n, H p = some (.set S n))
  | _ => False
theorem tyV_is {pins : List (Addr × Obj)} {σ : St} {H : Hp} {s : Shared} {T : String} {x : V} {v : Value} (I : Inv X pins σ H s) (r : RelV x v) (ty : tyV X.K T x H) :
    s.TypeIs v T ∧ ∀ a, v = .ref a → ∃ ob, s.heap.get? a = some ob ∧ ob.dict = none := by
  cases x with
  | str z =>
    obtain ⟨t, rfl⟩ := r
    cases (show T = "str" from ty)
    exact ⟨typeIs_str s z t, fun _ e => nomatch e⟩
  | int i =>
    obtain ⟨t, rfl⟩ := r
    cases (show T = "int" from ty)
    exact ⟨typeIs_int s i t, fun _ e => nomatch e⟩
  | ref p =>
    cases r
    rcases ty with ⟨rfl, xs, hq⟩ | ⟨rfl, o, hk, hc, hd⟩ | ⟨rfl, hk⟩ | ⟨rfl, S, n, hk⟩
    · obtain ⟨its, _, pl, _⟩ := I.list hq
      refine ⟨pl.isList.typeIs, fun a e => ?_⟩
      cases e
      obtain ⟨o, n, e, c, hd, _⟩ := pl
      exact ⟨o, e, hd⟩
    · refine ⟨⟨o, I.kIn p o hk, hc⟩, fun a e => ?_⟩
      cases e
      exact ⟨o, I.kIn _ o hk, hd⟩
    · have z : ∃ o, s.heap.get? p = some o ∧ o.ExactDict := by
        rcases hk with ⟨kvs, hk⟩ | ⟨kvs, hk⟩
        · obtain ⟨_, _, _, _, o, _, _, e, ex, _⟩ := I.hok p _ hk
          exact ⟨o, e, ex⟩
        · obtain ⟨_, _, _, _, o, _, _, e, ex, _⟩ := I.hok p _ hk
          exact ⟨o, e, ex⟩
      obtain ⟨o, e, ex⟩ := z
      refine ⟨⟨o, e, ex.1⟩, fun a e2 => ?_⟩
      cases e2
      exact ⟨o, e, ex.2.1⟩
    · obtain ⟨o, _, _, _, e, ex, _⟩ := I.hok p _ hk
      refine ⟨⟨o, e, ex.1⟩, fun a e2 => ?_⟩
      cases e2
      exact ⟨o, e, ex.2.1⟩
  | _ => exact False.elim ty
def tBM (K : PySem.W.Frag) (T : String) (r : V → List V → Hp → VK → Prop) (to : TE) (t : TA) : TE := fun σ H Q => to σ H fun x H1 => tyV K T x H1 ∧ t σ H1 fun xs H2 => r x xs H2 Q
variable {o e : Expr} {es : List Expr} {to : TE} {t : TA} {name : Str} {apos cpos : Pos} {T id : String} {r : V → List V → Hp → VK → Prop}
theorem pe_bm (pa : PlainAttrs T) (slot : Slot T name id) (hty : typeOf (.builtin id) = pure (.type "method_descriptor")) (hm : MtR X id r) (ho : PE X o to) (ha : PA X (e :: es) t)
    (hbase : attributeBase o name X.env (eval o X.env) = eval o X.env := by rfl)
    (hfew : ((backTo cpos (starEach (e :: es) X.env)).all (fun x => !x.1) && (backToKw cpos (keywordEach [] X.env)).all (fun x => x.1.isSome)
      && decide ((e :: es).length + ([] : List Keyword).length + (if ([] : List Keyword).isEmpty then 0 else 1) < 30)) = true := by rfl)
    (hline : (apos.endLine == cpos.line) = true := by rfl) (hs : starEach (e :: es) X.env = (false, eval e X.env) :: starEach es X.env := by rfl) (hplain : (backTo cpos (starEach es X.env)).any (·.1) = false := by rfl) :
    PE X (.Call (.Attribute o name apos) (e :: es) [] cpos) (tBM X.K T r to t) := by
  intro pins s σ H Q I h
  refine wpAny_Call_method_late hbase hfew hline rfl (thn (ho pins s σ H _ I h) fun v s1 ⟨x, H1, I1, r1, ty, q1⟩ => ?_)
  obtain ⟨h1, h2⟩ := tyV_is I1 r1 ty
  refine ⟨T, id, pa, slot, hty, h1, h2, ?_⟩
  have hA := ha cpos pins s1 σ H1 _ I1 q1
  rw [hs] at hA ⊢
  refine Calls.callWith_builtin (by show (false || (backTo cpos (starEach es X.env)).any (·.1)) = false; rw [hplain] <;> rfl) (Calls.evalArgs_plain ?_)
  exact thn hA fun us s2 ⟨vs, H2, I2, r2, q2⟩ => hm pins s2 σ H2 x vs v us Q I2 r1 r2 q2
end
end L2
namespace L2
open PySem PySem.Spec PyProof.Rows
def MtM (X : Cx) (id : String) (r : V → List V → Hp → VK → Prop) : Prop :=
  ∀ (pins : List (Addr × Obj)) (s : Shared) (σ : St) (H : Hp) (x : V) (xs : List V) (v : Value) (us : List Value) (Q : VK), Inv X pins σ H s → RelV x v → Vals xs us → r x xs H Q →
    wpAny (model X.prog X.w) X.A (call (.builtin id) (v :: us)) (EP X pins σ Q) X.xe s
theorem Vals.one : ∀ {x : V} {us : List Value}, Vals [x] us → ∃ u, us = [u] ∧ RelV x u
  | _, _, .cons r .nil => ⟨_, rfl, r⟩
theorem Vals.reverse {xs : List V} {us : List Value} (h : Vals xs us) : Vals xs.reverse us.reverse := by
  induction h with
  | nil => exact .nil
  | cons r t ih => rw [List.reverse_cons, List.reverse_cons]; exact Vals.append ih (.cons r .nil)
section
variable {X : Cx} {pins : List (Addr × Obj)} {σ : St} {H : Hp} {s : Shared} {l b : Addr} {xs ys zs : List V}
theorem Inv.lset {its its' : List Value} {n : Nat} {f : Array Value → Array Value} {t' : Nat} (I : Inv X pins σ H s) (hH : H l = some (.lst xs))
    (e : s.heap.get? l = some { cls := .type "list", data := .seq its.toArray n }) (hf : f its.toArray = its'.toArray) (hv : Vals ys its') (hz : ys.length ≤ sizeLine) :
    Inv X pins σ (upd H l (.lst ys)) { s with heap := s.heap.update l (Obj.mapSeq f), toks := t' } := by
  have q := PySem.IsL.update e f
  rw [hf] at q
  refine I.write (x := l) (e := l) (by rw [hH]; exact trivial) (.inl rfl) (fun b' u hb hu => (Heap.get?_update_other s.heap (Obj.mapSeq f) (Ne.symm hb)).trans hu) ⟨_, q⟩ ?_
  exact ⟨hz, its', _, hv, q⟩
theorem Inv.fresh (I : Inv X pins σ H s) : H s.heap.objs.size = none := I.hok.fresh (Nat.le_refl _)
theorem Inv.lstM (I : Inv X pins σ H s) (hH : H l = some (.lst xs)) : xs.length ≤ sizeLine ∧ ∃ (its : List Value) (n : Nat), Vals xs its ∧ xs.length = its.length ∧ s.heap.get? l = some { cls := .type "list", data := .seq its.toArray n } := by
  obtain ⟨z, its, n, r, e⟩ := I.hok l _ hH
  exact ⟨z, its, n, r, r.length, e⟩
end
section
variable {X : Cx}
def rAppend : V → List V → Hp → VK → Prop := fun x vs H Q => ∃ l xs y, x = .ref l ∧ vs = [y] ∧ H l = some (.lst xs) ∧ xs.length < sizeLine ∧ Q .non (upd H l (.lst (xs ++ [y])))
theorem mt_append : MtM X "list.append" rAppend := by
  intro pins s σ H x vs v us Q I rx rv h
  obtain ⟨l, xs, y, rfl, rfl, hH, hz, q⟩ := h
  cases rx
  obtain ⟨u, rfl, ru⟩ := rv.one
  obtain ⟨z, its, n, r, hl, e⟩ := I.lstM hH
  refine call_meets F.slot_list_append ⟨_, e, rfl⟩ F.entry_list_append (F.args_list_append_2 _ _) (PySem.list_append l its.toArray n u (by rw [List.size_toArray]; omega)) ⟨e, ?_⟩
  refine ⟨.non, _, I.lset (its' := its ++ [u]) hH e (by simp) (r.append (.cons ru .nil)) ?_, rfl, q⟩
  rw [List.length_append, List.length_singleton]
  omega
end
section
variable {prog : Program} {w : World} {A : Around} {E : Value → Shared → Prop} {s : Shared}
set_option maxRecDepth 100000 in
end
end L2
namespace L2
open PySem PySem.Spec PyProof.Rows
section
variable {κ : Type} [DecidableEq κ]
def valV (kvs : List (κ × V)) (k : κ) : Option V := (kvs.find? fun kv => decide (kv.1 = k)).map (·.2)
def putK (kvs : List (κ × V)) (k : κ) (v : V) : List (κ × V) :=
  if (kvs.any fun kv => decide (kv.1 = k)) = true then kvs.map (fun kv => if kv.1 = k then (kv.1, v) else kv) else kvs ++ [(k, v)]
theorem valV_pos {p : κ × V} {r : List (κ × V)} {k : κ} (e : p.1 = k) : valV (p :: r) k = some p.2 := by simp [valV, List.find?_cons, e]
theorem valV_neg {p : κ × V} {r : List (κ × V)} {k : κ} (e : ¬ p.1 = k) : valV (p :: r) k = valV r k := by simp [valV, List.find?_cons, e]
theorem valV_any (k : κ) : ∀ kvs : List (κ × V), (kvs.any fun kv => decide (kv.1 = k)) = (valV kvs k).isSome
  | [] => rfl
  | p :: r => by
    rw [List.any_cons]
    by_cases e : p.1 = k
    · simp only [valV_pos e, decide_eq_true e, Bool.true_or, Option.isSome_some]
    · rw [valV_neg e, decide_eq_false e, Bool.false_or]; exact valV_any k r
theorem length_putK (kvs : List (κ × V)) (k : κ) (v : V) : (putK kvs k v).length ≤ kvs.length + 1 := by
  unfold putK
  split
  · rw [List.length_map]; omega
  · rw [List.length_append, List.length_cons, List.length_nil]; omega
theorem RelO.isSome_eq {o : Option V} {u : Option Value} (r : RelO o u) : o.isSome = u.isSome := by
  cases o with
  | none => cases u with
    | none => rfl
    | some _ => exact (show False from r).elim
  | some _ => cases u with
    | none => exact (show False from r).elim
    | some _ => rfl
theorem RelO.getD {o : Option V} {u : Option Value} {d : V} {d' : Value} (r : RelO o u) (rd : RelV d d') : RelV (o.getD d) (u.getD d') := by
  cases o with
  | none => cases u with
    | none => exact rd
    | some _ => exact (show False from r).elim
  | some _ => cases u with
    | none => exact (show False from r).elim
    | some _ => exact r
theorem KV.val {kvs : List (κ × V)} {vs : List (κ × Value)} (r : KV kvs vs) (k : κ) : RelO (valV kvs k) (valueAt vs k) := by
  unfold KV at r
  induction r with
  | nil => exact True.intro
  | @cons p q ps qs h t ih =>
    obtain ⟨h1, h2⟩ := h
    by_cases e : p.1 = k
    · have e' : q.1 = k := h1.symm.trans e
      have b : valueAt (q :: qs) k = some q.2 := by simp [valueAt, List.find?_cons, e']
      rw [valV_pos e, b]; exact h2
    · have e' : ¬ q.1 = k := fun z => e (h1.trans z)
      have b : valueAt (q :: qs) k = valueAt qs k := by simp [valueAt, List.find?_cons, e']
      rw [valV_neg e, b]; exact ih
theorem KV.any {kvs : List (κ × V)} {vs : List (κ × Value)} (r : KV kvs vs) (k : κ) : (kvs.any fun kv => decide (kv.1 = k)) = vs.any fun kv => decide (kv.1 = k) := by
  unfold KV at r
  induction r with
  | nil => rfl
  | cons h t ih => rw [List.any_cons, List.any_cons, ih, h.1]
theorem KV.repl {kvs : List (κ × V)} {vs : List (κ × Value)} (r : KV kvs vs) (k : κ) {y : V} {u : Value} (ry : RelV y u) :
    KV (kvs.map fun kv => if kv.1 = k then (kv.1, y) else kv) (vs.map fun kv => if kv.1 = k then (kv.1, u) else kv) := by
  unfold KV at r ⊢
  induction r with
  | nil => exact .nil
  | @cons p q ps qs h t ih =>
    rw [List.map_cons, List.map_cons]
    refine .cons ?_ ih
    obtain ⟨h1, h2⟩ := h
    by_cases e : p.1 = k
    · rw [if_pos e, if_pos (h1.symm.trans e)]; exact ⟨h1, ry⟩
    · rw [if_neg e, if_neg (fun z => e (h1.trans z))]; exact ⟨h1, h2⟩
theorem KV.put {kvs : List (κ × V)} {vs : List (κ × Value)} (r : KV kvs vs) (k : κ) {y : V} {u : Value} (ry : RelV y u) : KV (putK kvs k y) (stored vs k u) := by
  unfold putK stored
  rw [r.any k]
  by_cases e : (vs.any fun kv => decide (kv.1 = k)) = true
  · rw [if_pos e, if_pos e]; exact r.repl k ry
  · rw [if_neg e, if_neg e]; exact Paired.snoc r ⟨rfl, ry⟩
theorem KV.keys {kvs : List (κ × V)} {vs : List (κ × Value)} (r : KV kvs vs) : kvs.map (·.1) = vs.map (·.1) := by
  unfold KV at r
  induction r with
  | nil => rfl
  | cons h t ih => rw [List.map_cons, List.map_cons, ih, h.1]
theorem KV.length {kvs : List (κ × V)} {vs : List (κ × Value)} (r : KV kvs vs) : kvs.length = vs.length := Paired.length r
end
theorem kV_is {P : Program} {w : World} {k : Key} {u : Value} (r : RelV (kV k) u) : (mixKind P w).is k u = true := by
  cases k with
  | inl i => obtain ⟨t, e⟩ := (show ∃ t, u = Value.int i t from r); subst e; exact mixKind_int P w i t
  | inr x => obtain ⟨t, e⟩ := (show ∃ t, u = Value.str x t from r); subst e; exact mixKind_str P w x t
theorem items_are {P : Program} {w : World} : ∀ {ks : List Key} {us : List Value}, Vals (ks.map kV) us → ItemsAre (mixKind P w) ks us
  | [], _, r => by rw [List.map_nil] at r; cases r; exact .nil
  | k :: ks, _, r => by
    rw [List.map_cons] at r
    cases r with
    | cons h t => exact .cons (kV_is h) (items_are t)
abbrev KT (H : Hp) : List (List Key × V) → List (List Key × Addr × Value) → Prop := Paired fun p q => p.1 = q.1 ∧ H q.2.1 = some (.tup (p.1.map kV)) ∧ RelV p.2 q.2.2
theorem KT.val {H : Hp} {kvs : List (List Key × V)} {xs : List (List Key × Addr × Value)} (r : KT H kvs xs) (k : List Key) : RelO (valV kvs k) ((atKey xs k).map (·.2)) := by
  induction r with
  | nil => exact True.intro
  | @cons p q ps qs h t ih =>
    obtain ⟨h1, _, h2⟩ := h
    by_cases e : p.1 = k
    · have e' : q.1 = k := h1.symm.trans e
      have b : atKey (q :: qs) k = some q.2 := by simp [atKey, List.find?_cons, e']
      rw [valV_pos e, b]; exact h2
    · have e' : ¬ q.1 = k := fun z => e (h1.trans z)
      have b : atKey (q :: qs) k = atKey qs k := by simp [atKey, List.find?_cons, e']
      rw [valV_neg e, b]; exact ih
theorem KT.repl {H : Hp} {kvs : List (List Key × V)} {xs : List (List Key × Addr × Value)} (r : KT H kvs xs) (k : List Key) {y : V} {u : Value} (ry : RelV y u) :
    KT H (kvs.map fun kv => if kv.1 = k then (kv.1, y) else kv) (xs.map (putAt k u)) := by
  induction r with
  | nil => exact .nil
  | @cons p q ps qs h t ih =>
    rw [List.map_cons, List.map_cons]
    refine .cons ?_ ih
    obtain ⟨h1, h2, h3⟩ := h
    unfold putAt
    by_cases e : p.1 = k
    · rw [if_pos e, if_pos (h1.symm.trans e)]; exact ⟨h1, h2, ry⟩
    · rw [if_neg e, if_neg (fun z => e (h1.trans z))]; exact ⟨h1, h2, h3⟩
theorem KT.put {H : Hp} {kvs : List (List Key × V)} {xs : List (List Key × Addr × Value)} (r : KT H kvs xs) (k : List Key) {b : Addr} {y : V} {u : Value} (hb : H b = some (.tup (k.map kV))) (ry : RelV y u) :
    KT H (putK kvs k y) (storedH xs k b u) := by
  have e : (kvs.any fun kv => decide (kv.1 = k)) = (atKey xs k).isSome := by
    rw [valV_any, (r.val k).isSome_eq, Option.isSome_map]
  unfold putK storedH
  rw [e]
  by_cases q : (atKey xs k).isSome = true
  · rw [if_pos q, if_pos q]; exact r.repl k ry
  · rw [if_neg q, if_neg q]; exact Paired.snoc r ⟨rfl, hb, ry⟩
theorem KT.keeps {H H' : Hp} {kvs : List (List Key × V)} {xs : List (List Key × Addr × Value)} (r : KT H kvs xs) (ht : ∀ b ys, H b = some (.tup ys) → H' b = some (.tup ys)) : KT H' kvs xs :=
  Paired.mapP r fun _ _ z => ⟨z.1, ht _ _ z.2.1, z.2.2⟩
section
variable {P : Program} {w : World} {H : Hp} {h : Heap} {a : Addr}
theorem rd_of {u : HO} (ok : HOk P w H h) (e : Rd H a u) : ObjOk P w H h a u := e.ok ok
theorem dk_rd {kvs : List (Key × V)} (ok : HOk P w H h) (e : Rd H a (.dK kvs)) : kvs.length ≤ sizeLine ∧ (a == sysModules) = false ∧ ∃ vs, KV kvs vs ∧ h.DictOf (mixKind P w) a vs :=
  show ObjOk P w H h a (.dK kvs) from rd_of ok e
theorem dk_of {kvs : List (Key × V)} (ok : HOk P w H h) (e : H a = some (.dK kvs)) : kvs.length ≤ sizeLine ∧ (a == sysModules) = false ∧ ∃ vs, KV kvs vs ∧ h.DictOf (mixKind P w) a vs := dk_rd ok (.inl e)
theorem key_of {ks : List Key} (ok : HOk P w H h) (e : H a = some (.tup (ks.map kV))) : (tupleKind (mixKind P w)).is h ks a := by
  obtain ⟨_, its, r, o, h1, h2, n, h3⟩ := (show ObjOk P w H h a (.tup (ks.map kV)) from ok a _ e)
  exact ⟨o, its.toArray, n, h1, h2, h3, by simpa using items_are r⟩
theorem dt_rd {kvs : List (List Key × V)} (ok : HOk P w H h) (e : Rd H a (.dT kvs)) : kvs.length ≤ sizeLine ∧ (a == sysModules) = false ∧
    ∃ xs, KT H kvs xs ∧ h.DictOfH (tupleKind (mixKind P w)) a xs := by
  obtain ⟨z, y, xs, r, o, es, ep, h1, h2, h3, h4, h5⟩ := (show ObjOk P w H h a (.dT kvs) from rd_of ok e)
  refine ⟨z, y, xs, r, o, es, ep, h1, h2, h3, h4, fun x hx => ?_, h5⟩
  have all : ∀ {l : List (List Key × V)} {m : List (List Key × Addr × Value)}, KT H l m → ∀ x ∈ m, (tupleKind (mixKind P w)).is h x.1 x.2.1 := by
    intro l m q
    induction q with
    | nil => intro x hx; exact nomatch hx
    | @cons p q ps qs hq t ih =>
      intro x hx
      rcases List.mem_cons.mp hx with e | hx
      · subst e
        exact key_of ok (by rw [← hq.1]; exact hq.2.1)
      · exact ih x hx
  exact all r x hx
theorem dt_of {kvs : List (List Key × V)} (ok : HOk P w H h) (e : H a = some (.dT kvs)) : kvs.length ≤ sizeLine ∧ (a == sysModules) = false ∧
    ∃ xs, KT H kvs xs ∧ h.DictOfH (tupleKind (mixKind P w)) a xs := dt_rd ok (.inl e)
end
def DGet (H : Hp) (a : Addr) (y : V) (r : Option V) : Prop :=
  (∃ kvs k, Rd H a (.dK kvs) ∧ y = kV k ∧ r = valV kvs k) ∨ ∃ kvs k b, Rd H a (.dT kvs) ∧ y = .ref b ∧ H b = some (.tup (k.map kV)) ∧ r = valV kvs k
def DPut (H : Hp) (a : Addr) (y v : V) (H' : Hp) : Prop :=
  (∃ kvs k, H a = some (.dK kvs) ∧ y = kV k ∧ kvs.length < sizeLine ∧ H' = upd H a (.dK (putK kvs k v))) ∨
  ∃ kvs k b, H a = some (.dT kvs) ∧ y = .ref b ∧ H b = some (.tup (k.map kV)) ∧ kvs.length < sizeLine ∧ H' = upd H a (.dT (putK kvs k v))
section
variable {X : Cx} {pins : List (Addr × Obj)} {σ : St} {H : Hp} {s : Shared} {a : Addr} {y v : V} {u r : Value} {o : Option V} {A : Around} {E : Value → Shared → Prop}
theorem Inv.big (I : Inv X pins σ H s) : sysModules < s.heap.objs.size := by
  have h : mainGlobals < s.heap.objs.size := (I.mod.glob.keeps I.bk).lt
  exact Nat.lt_trans (by decide) h
theorem d_getItem {Q : Value → Shared → Prop} (hu : A.units + 1 < cLine) (I : Inv X pins σ H s) (g : DGet H a y (some v)) (ry : RelV y u) (h : ∀ w' s', Inv X pins σ H s' → RelV v w' → Q w' s') :
    wpAny (model X.prog X.w) A (getItem (.ref a) u) Q E s := by
  rcases g with ⟨kvs, k, e, ey, l⟩ | ⟨kvs, k, b, e, ey, eb, l⟩
  · subst ey
    obtain ⟨z, hd, vs, rel, dd⟩ := dk_rd I.hok e
    obtain ⟨w', hw, rw'⟩ := RelO.some_of (v := v) (o := valueAt vs k) (by rw [l]; exact rel.val k)
    exact wpAny_getItem_of (kV_is ry) dd.mapOf hw (h w' _ (I.tok _) rw')
  · subst ey
    cases (show u = Value.ref b from ry)
    obtain ⟨z, hd, xs, rel, dd⟩ := dt_rd I.hok e
    obtain ⟨w', hw, rw'⟩ := RelO.some_of (v := v) (o := (atKey xs k).map (·.2)) (by rw [l]; exact rel.val k)
    obtain ⟨p, hp, hp2⟩ := Option.map_eq_some_iff.mp hw
    refine wpAny_getItem_heap (tupleKind_room_in1 hu) (key_of I.hok eb) dd hp ?_
    rw [hp2]
    exact h w' _ (I.tok _) rw'
theorem d_in {Q : Value → Shared → Prop} (hu : A.units + 1 < cLine) (I : Inv X pins σ H s) (g : DGet H a y o) (ry : RelV y u) (h : ∀ s', Inv X pins σ H s' → Q (.bool o.isSome) s') :
    wpAny (model X.prog X.w) A (compareOp .In u (.ref a)) Q E s := by
  rcases g with ⟨kvs, k, e, ey, l⟩ | ⟨kvs, k, b, e, ey, eb, l⟩
  · subst ey
    obtain ⟨z, hd, vs, rel, dd⟩ := dk_rd I.hok e
    refine wpAny_in_of (kV_is ry) hd dd.mapOf ?_
    rw [← (rel.val k).isSome_eq, ← l]
    exact h _ (I.tok _)
  · subst ey
    cases (show u = Value.ref b from ry)
    obtain ⟨z, hd, xs, rel, dd⟩ := dt_rd I.hok e
    refine wpAny_in_heap (tupleKind_room_in1 hu) (key_of I.hok eb) hd dd ?_
    have q := (rel.val k).isSome_eq
    rw [Option.isSome_map] at q
    rw [← q, ← l]
    exact h _ (I.tok _)
theorem d_notIn {Q : Value → Shared → Prop} (hu : A.units + 1 < cLine) (I : Inv X pins σ H s) (g : DGet H a y o) (ry : RelV y u) (h : ∀ s', Inv X pins σ H s' → Q (.bool (!o.isSome)) s') :
    wpAny (model X.prog X.w) A (compareOp .NotIn u (.ref a)) Q E s := by
  rcases g with ⟨kvs, k, e, ey, l⟩ | ⟨kvs, k, b, e, ey, eb, l⟩
  · subst ey
    obtain ⟨z, hd, vs, rel, dd⟩ := dk_rd I.hok e
    refine wpAny_notIn_of (kV_is ry) hd dd.mapOf ?_
    rw [← (rel.val k).isSome_eq, ← l]
    exact h _ (I.tok _)
  · subst ey
    cases (show u = Value.ref b from ry)
    obtain ⟨z, hd, xs, rel, dd⟩ := dt_rd I.hok e
    refine wpAny_notIn_heap (tupleKind_room_in1 hu) (key_of I.hok eb) hd dd ?_
    have q := (rel.val k).isSome_eq
    rw [Option.isSome_map] at q
    rw [← q, ← l]
    exact h _ (I.tok _)
theorem d_write {h' : Heap} {t' : Nat} {ob : HO} (I : Inv X pins σ H s) (mu : Mut (H a)) (hs : Heap.SameBut a s.heap h') (he : ∃ q, h'.get? a = some q) (new : ObjOk X.prog X.w (upd H a ob) h' a ob) :
    Inv X pins σ (upd H a ob) { s with heap := h', toks := t' } :=
  I.write (x := a) (e := a) mu (.inl rfl) (fun b q hb z => (hs.2 b hb).trans z) he new
theorem dk_new {P : Program} {w : World} {H' : Hp} {h' : Heap} {kvs : List (Key × V)} {vs : List (Key × Value)} (z : kvs.length ≤ sizeLine) (hd : (a == sysModules) = false) (rel : KV kvs vs) (dd : h'.DictOf (mixKind P w) a vs) :
    ObjOk P w H' h' a (.dK kvs) := ⟨z, hd, vs, rel, dd⟩
theorem d_setItem {H' : Hp} {Q : Unit → Shared → Prop} (hu : A.units + 1 < cLine) (I : Inv X pins σ H s) (g : DPut H a y v H') (ry : RelV y u) (rv : RelV v r) (h : ∀ s', Inv X pins σ H' s' → Q () s') :
    wpAny (model X.prog X.w) A (setItem (.ref a) u r) Q E s := by
  rcases g with ⟨kvs, k, e, ey, l, eH⟩ | ⟨kvs, k, b, e, ey, eb, l, eH⟩
  · subst ey eH
    obtain ⟨z, hd, vs, rel, dd⟩ := dk_of I.hok e
    have hz : vs.length ≤ sizeLine := by rw [← rel.length]; exact z
    have hl : (putK kvs k v).length ≤ sizeLine := by have := length_putK kvs k v; omega
    refine wpAny_setItem_pairs (hsz := hz) (kV_is ry) dd fun h' dd' hs => h _ ?_
    have he : ∃ q, h'.get? a = some q := let ⟨q, _, _, hq, _⟩ := dd'; ⟨q, hq⟩
    exact d_write I (by rw [e]; exact True.intro) hs he (dk_new hl hd (rel.put k rv) dd')
  · subst ey eH
    cases (show u = Value.ref b from ry)
    obtain ⟨z, hd, xs, rel, dd⟩ := dt_of I.hok e
    have hz : xs.length ≤ sizeLine := by rw [← Paired.length rel]; exact z
    have hl : (putK kvs k v).length ≤ sizeLine := by have := length_putK kvs k v; omega
    refine wpAny_setItem_heap (hsz := hz) (tupleKind_room_in1 hu) (key_of I.hok eb) dd fun h' dd' hs => h _ ?_
    obtain ⟨q, es, ep, hq, h2, h3, h4, _, h5⟩ := dd'
    refine d_write I (by rw [e]; exact True.intro) hs ⟨q, hq⟩ ⟨hl, hd, _, (rel.put k eb rv).keeps fun c ys ec => ?_, q, es, ep, hq, h2, h3, h4, h5⟩
    rw [upd_ne (ne_of ec e (fun z => nomatch z))]
    exact ec
end
def NoSl (i : Expr) : Prop := ∀ ov iv, subscripted i false ov iv = operate [ov, iv] (getItem ov iv)
theorem subD_of {prog : Program} {w : World} {A : Around} {E : Value → Shared → Prop} {s : Shared} {env : Env} {value slice : Expr} {pos : Pos} {T id : String} {Q : Value → Shared → Prop}
    (hl : typeLookup (.type T) "__getitem__" = pure (some (.builtin id))) (hs : NoSl slice)
    (h : wpAny (model prog w) A (eval value env) (fun o s₁ => wpAny (model prog w) A (eval slice env) (fun i s₂ => s₂.TypeIs o T ∧ wpAny (model prog w) A (getItem o i) Q E s₂) E s₁) E s) :
    wpAny (model prog w) A (eval (.Subscript value slice pos) env) Q E s := by
  refine Subscript_ (wpAny_mono h (fun o s₁ h₁ => wpAny_mono h₁ (fun i s₂ h₂ => ?_) fun _ _ x => x) fun _ _ x => x)
  obtain ⟨hT, h₂⟩ := h₂
  unfold subscriptTail
  refine wpAny_bind ?_
  rw [getitemInPython_of_ne hT.not_modules]
  refine wpAny_bind (wpAny_specialOf hT hl ?_)
  have fin : wpAny (model prog w) A (subscripted slice false o i) (fun r s₃ => wpAny (model prog w) A (letTemporaryGo value o r >>= fun _ => pure r) Q E s₃) E s₂ := by
    rw [hs o i]
    exact wpAny_operating (wpAny_mono h₂ (fun r s₃ h₃ => wpAny_bind (wpAny_letTemporaryGo (wpAny_pure h₃))) fun _ _ x => x)
  first
    | exact wpAny_pure (wpAny_bind fin)
    | exact wpAny_bind (wpAny_pure (wpAny_bind fin))
    | exact wpAny_bind fin
theorem dict_typeIs {X : Cx} {pins : List (Addr × Obj)} {σ : St} {H : Hp} {s : Shared} {a : Addr} {y : V} {o : Option V} (I : Inv X pins σ H s) (g : DGet H a y o) : s.TypeIs (.ref a) "dict" := by
  rcases g with ⟨kvs, k, e, _, _⟩ | ⟨kvs, k, b, e, _, _, _⟩
  · obtain ⟨_, _, vs, _, dd⟩ := dk_rd I.hok e
    exact dd.typeIs
  · obtain ⟨_, _, xs, _, dd⟩ := dt_rd I.hok e
    exact dd.typeIs
def tDGet (td ty : TE) : TE := fun σ H Q => td σ H fun x H1 => ty σ H1 fun y H2 => ∃ a v, x = .ref a ∧ DGet H2 a y (some v) ∧ Q v H2
def tDIn (ty td : TE) : TE := fun σ H Q => ty σ H fun y H1 => td σ H1 fun x H2 => ∃ a o, x = .ref a ∧ DGet H2 a y o ∧ Q (.bl o.isSome) H2
def tDNotIn (ty td : TE) : TE := fun σ H Q => ty σ H fun y H1 => td σ H1 fun x H2 => ∃ a o, x = .ref a ∧ DGet H2 a y o ∧ Q (.bl (!o.isSome)) H2
def sDPut (td ty tv : TE) : TS := fun D σ H => tv σ H fun v H1 => td σ H1 fun x H2 => ty σ H2 fun y H3 => ∃ a H4, x = .ref a ∧ DPut H3 a y v H4 ∧ D.nx σ H4
section
variable {X : Cx} {o i e value : Expr} {pos pos' tpos : Pos} {td ty tv : TE}
theorem pe_dget (hu : X.A.units + 1 < cLine) (ho : PE X o td) (hi : PE X i ty) (hs : NoSl i) : PE X (.Subscript o i pos) (tDGet td ty) := by
  intro pins s σ H Q I h
  refine subD_of PySem.F.slot_dict_getitem.lookup hs (thn (ho pins s σ H _ I h) fun u s1 ⟨x, H1, I1, rx, q1⟩ => thn (hi pins s1 σ H1 _ I1 q1) fun iv s2 ⟨y, H2, I2, ry, a, v, ex, g, q2⟩ => ?_)
  subst ex
  obtain rfl : u = Value.ref a := rx
  exact ⟨dict_typeIs I2 g, d_getItem hu I2 g ry fun w' s3 I3 rw' => ⟨v, H2, I3, rw', q2⟩⟩
theorem pc_din (hu : X.A.units + 1 < cLine) (hi : PE X i ty) (ho : PE X o td) : PC X .In i o (tDIn ty td) := by
  intro pins s σ H Q I h
  refine thn (hi pins s σ H _ I h) fun iv s1 ⟨y, H1, I1, ry, q1⟩ => thn (ho pins s1 σ H1 _ I1 q1) fun u s2 ⟨x, H2, I2, rx, a, ov, ex, g, q2⟩ => ?_
  subst ex
  obtain rfl : u = Value.ref a := rx
  exact d_in hu I2 g ry fun s3 I3 => ⟨.bl ov.isSome, H2, I3, rfl, q2⟩
theorem pc_dnotin (hu : X.A.units + 1 < cLine) (hi : PE X i ty) (ho : PE X o td) : PC X .NotIn i o (tDNotIn ty td) := by
  intro pins s σ H Q I h
  refine thn (hi pins s σ H _ I h) fun iv s1 ⟨y, H1, I1, ry, q1⟩ => thn (ho pins s1 σ H1 _ I1 q1) fun u s2 ⟨x, H2, I2, rx, a, ov, ex, g, q2⟩ => ?_
  subst ex
  obtain rfl : u = Value.ref a := rx
  exact d_notIn hu I2 g ry fun s3 I3 => ⟨.bl (!ov.isSome), H2, I3, rfl, q2⟩
theorem ps_dput (hu : X.A.units + 1 < cLine) (ho : PE X o td) (hi : PE X i ty) (hv : PE X value tv) (hs : swapsWith value (some (.Subscript o i pos')) pos.line X.env = pure false) :
    PS X (.Assign [.Subscript o i pos'] value pos) (sDPut td ty tv) := by
  intro pins s σ H D I h
  refine wpAny_Assign_Subscript (thn (hv pins s σ H _ I h) fun r s1 ⟨v, H1, I1, rv, q1⟩ => thn (ho pins s1 σ H1 _ I1 q1) fun u s2 ⟨x, H2, I2, rx, q2⟩ => thn (hi pins s2 σ H2 _ I2 q2) fun iv s3 ⟨y, H3, I3, ry, a, H4, ex, g, q3⟩ => ?_) hs
  subst ex
  obtain rfl : u = Value.ref a := rx
  exact d_setItem hu I3 g ry rv fun s4 I4 => ⟨σ, H4, I4, q3⟩
end
theorem dk_empty {P : Program} {w : World} {H : Hp} (h : Heap) (hb : sysModules < h.objs.size) : ObjOk P w H (h.push { cls := .type "dict", data := .dict #[] }) h.objs.size (.dK []) :=
  ⟨Nat.zero_le _, beq_eq_false_iff_ne.mpr (Ne.symm (Nat.ne_of_lt hb)), [], .nil, Heap.DictOf.new h⟩
def tDNewK : TE := fun _ H Q => ∀ p, H p = none → Q (.ref p) (upd H p (.dK []))
section
variable {X : Cx} {pos : Pos}
theorem pe_dnewK : PE X (.Dict [] [] pos) tDNewK := fun pins s σ H Q I h =>
  wpAny_Dict_empty ⟨.ref s.heap.objs.size, _, I.laid (a := s.heap.objs.size) (o := .dK []) (t' := s.toks) (fun _ _ q => Heap.get?_push_of_some _ q) (Nat.le_refl _) (dk_empty s.heap I.big), rfl, h _ (I.hok.fresh (Nat.le_refl _))⟩
end
structure M1 (X : Cx) (o : Expr) (m : Str) (apos : Pos) (e : Expr) (cpos : Pos) : Prop where
  base : attributeBase o m X.env (eval o X.env) = eval o X.env
  few : ((backTo cpos (starEach [e] X.env)).all (fun x => !x.1) && (backToKw cpos (keywordEach [] X.env)).all (fun x => x.1.isSome)
    && decide (([e] : List Expr).length + ([] : List Keyword).length + (if ([] : List Keyword).isEmpty then 0 else 1) < 30)) = true
  line : (apos.endLine == cpos.line) = true
  trees : backTo cpos (starEach [e] X.env) = [(false, eval e X.env)]
structure M2 (X : Cx) (o : Expr) (m : Str) (apos : Pos) (e f : Expr) (cpos : Pos) : Prop where
  base : attributeBase o m X.env (eval o X.env) = eval o X.env
  few : ((backTo cpos (starEach [e, f] X.env)).all (fun x => !x.1) && (backToKw cpos (keywordEach [] X.env)).all (fun x => x.1.isSome)
    && decide (([e, f] : List Expr).length + ([] : List Keyword).length + (if ([] : List Keyword).isEmpty then 0 else 1) < 30)) = true
  line : (apos.endLine == cpos.line) = true
  trees : backTo cpos (starEach [e, f] X.env) = [(false, eval e X.env), (false, eval f X.env)]
def IsD (H : Hp) (a : Addr) : Prop := (∃ kvs, Rd H a (.dK kvs)) ∨ ∃ kvs, Rd H a (.dT kvs)
theorem isD_at {X : Cx} {pins : List (Addr × Obj)} {σ : St} {H : Hp} {s : Shared} {a : Addr} (I : Inv X pins σ H s) (d : IsD H a) :
    s.TypeIs (.ref a) "dict" ∧ (∀ b, Value.ref a = .ref b → ∃ ob, s.heap.get? b = some ob ∧ ob.dict = none) ∧ (a == sysModules) = false := by
  rcases d with ⟨kvs, e⟩ | ⟨kvs, e⟩
  · obtain ⟨_, hd, vs, _, dd⟩ := dk_rd I.hok e
    refine ⟨dd.typeIs, fun b q => ?_, hd⟩
    cases q
    obtain ⟨ob, _, _, h1, h2, _⟩ := dd
    exact ⟨ob, h1, h2.2.1⟩
  · obtain ⟨_, hd, xs, _, dd⟩ := dt_rd I.hok e
    refine ⟨dd.typeIs, fun b q => ?_, hd⟩
    cases q
    obtain ⟨ob, _, _, h1, h2, _⟩ := dd
    exact ⟨ob, h1, h2.2.1⟩
section
variable {X : Cx} {pins : List (Addr × Obj)} {σ : St} {H : Hp} {s : Shared} {a : Addr} {y d : V} {u r : Value} {o : Option V} {A : Around} {E : Value → Shared → Prop}
theorem d_get2 {Q : Value → Shared → Prop} (hu : A.units + 1 < cLine) (I : Inv X pins σ H s) (g : DGet H a y o) (ry : RelV y u) (rd : RelV d r) (h : ∀ w' s', Inv X pins σ H s' → RelV (o.getD d) w' → Q w' s') :
    wpAny (model X.prog X.w) A (call (.builtin "dict.get") [.ref a, u, r]) Q E s := by
  rcases g with ⟨kvs, k, e, ey, l⟩ | ⟨kvs, k, b, e, ey, eb, l⟩
  · subst ey
    obtain ⟨z, hd, vs, rel, dd⟩ := dk_rd I.hok e
    refine call_meetsIn PySem.F.slot_dict_get dd.typeIs PySem.F.entry_dict_get (PySem.F.args_dict_get_3 _ _ _) (meets_dict_get_default (mixKind X.prog X.w) a (kV_is ry) hd r) ⟨_, dd.mapOf, h _ _ (I.tok _) ?_⟩
    rw [l]
    exact (rel.val k).getD rd
  · subst ey
    cases (show u = Value.ref b from ry)
    obtain ⟨z, hd, xs, rel, dd⟩ := dt_rd I.hok e
    refine call_meetsIn PySem.F.slot_dict_get dd.typeIs PySem.F.entry_dict_get (PySem.F.args_dict_get_3 _ _ _) (meetsH_dict_get_default (tupleKind (mixKind X.prog X.w)) a b hd r) ⟨tupleKind_room_in1 hu, k, xs, key_of I.hok eb, dd, h _ _ (I.tok _) ?_⟩
    rw [l]
    exact (rel.val k).getD rd
end
def tDGet2 (td ty tx : TE) : TE := fun σ H Q => td σ H fun x H1 => ∃ a, x = .ref a ∧ IsD H1 a ∧ ty σ H1 fun y H2 => tx σ H2 fun z H3 => ∃ o, DGet H3 a y o ∧ Q (o.getD z) H3
section
variable {X : Cx} {o e f : Expr} {apos cpos : Pos} {td ty tx : TE}
theorem pe_dget2 (hu : X.A.units + 1 < cLine) (ho : PE X o td) (he : PE X e ty) (hf : PE X f tx) (m : M2 X o "get" apos e f cpos) : PE X (.Call (.Attribute o "get" apos) [e, f] [] cpos) (tDGet2 td ty tx) := by
  intro pins s σ H Q I h
  refine wpAny_Call_method m.base m.few m.line PySem.F.plainAttrs_dict PySem.F.slot_dict_get PySem.F.type_dict_get (thn (ho pins s σ H _ I h) fun u s1 ⟨x, H1, I1, rx, a, ex, d, q1⟩ => ?_)
  subst ex
  obtain rfl : u = Value.ref a := rx
  obtain ⟨t1, t2, _⟩ := isD_at I1 d
  refine ⟨t1, t2, ?_⟩
  rw [m.trees]
  refine Calls.callWith_builtin rfl (Calls.evalArgs_plain (Calls.spliced_cons (thn (he pins s1 σ H1 _ I1 q1) fun iv s2 ⟨y, H2, I2, ry, q2⟩ =>
    Calls.spliced_cons (thn (hf pins s2 σ H2 _ I2 q2) fun fv s3 ⟨z, H3, I3, rz, ov, g, q3⟩ => Calls.spliced_nil ?_))))
  exact d_get2 hu I3 g ry rz fun w' s4 I4 rw' => ⟨_, H3, I4, rw', q3⟩
end
end L2
namespace Att
open PySem PySem.W PySem.Calls PyProof.Rows
theorem ints_of_wellAll {P : Params} {h : Heap} : ∀ (ns : List Int) (vs : List Value), WellAll P h vs (ns.map WData.int) → IntsAre vs ns := by
  intro ns
  induction ns with
  | nil =>
    intro vs w
    rw [List.map_nil] at w
    cases w
    exact .nil
  | cons n ns ih =>
    intro vs w
    rw [List.map_cons] at w
    cases w with
    | cons a b =>
      cases a
      exact .cons _ _ (ih _ b)
theorem script_of {l : OpenLaw} {n : Nat} (hn : l.most = some n) {P : Params} {h : Heap} {args : List WData} {vals : List Value}
    (hpre : l.row.toRowW.claim.pre args = true) (hwl : WellAll P h vals args) :
    ∃ a vs ns, vals = [Value.ref a] ∧ args = [WData.list (ns.map WData.int)] ∧ h.get? a = some { cls := .type "list", data := .seq vs.toArray } ∧ IntsAre vs ns ∧ ns.length ≤ n := by
  have hsh : WShape.hasAll [] args [.list .int] = true := (pre_splitW hpre).1
  have hc : l.pre.holds [] { args := args } = true := (pre_splitW hpre).2
  obtain ⟨d, r, rfl, h1, h2⟩ := hasAllW_cons hsh
  obtain rfl := hasAllW_nil h2
  obtain ⟨xs, rfl, h3⟩ := hasW_list h1
  obtain ⟨ns, rfl⟩ := items_int h3
  have hlen : ns.length ≤ n := by
    unfold OpenLaw.pre at hc
    have h4 : (WTm.not (.lt (.lit (.int (n : Int))) (.len (.arg 0)))).holds [] { args := [.list (ns.map .int)] } = true := by
      have h4 := (holds_andW hc).1
      rw [hn] at h4
      exact h4
    have h5 := condW_of h4 (w_not (w_lt w_lit (w_len_list (w_arg rfl))))
    rw [List.length_map] at h5
    refine Nat.le_of_not_lt fun q => ?_
    have q' : (n : Int) < ((ns.length : Nat) : Int) := by omega
    first
      | (rw [decide_eq_true q'] at h5; exact absurd h5 (by decide))
      | (simp at h5; omega)
  cases hwl with
  | cons w1 w2 =>
    cases w2
    cases w1 with
    | list ho hall => exact ⟨_, _, ns, rfl, rfl, ho, ints_of_wellAll ns _ hall, hlen⟩
theorem post_true (l : OpenLaw) (args : List WData) : l.row.toRowW.claim.post args (.bool true) args = true :=
  postW_of (r := l.row.toRowW) (X := (true == true))
    (show WShape.has [] (.bool true) .bool = true by first | rfl | decide | simp [WShape.has, WShape.arms, WShape.armsAll])
    (show (WTm.eq .res (.lit (.bool true))).value [] { args := args, res := some (.bool true), after := args } = some (.bool (true == true)) from w_eq_bool (w_res rfl) w_lit) rfl
theorem attach_call {l : OpenLaw} {n : Nat} {q : Program} {loose : List Str} {XP : (Str → Option Value) → Heap → Prop} {YP : World → Heap → Prop} {d : DefRec}
    (hn : l.most = some n) (hdf : d.params.defaults = [])
    (call : ∀ (w : World) (s₀ s₁ : Shared) (mg mb : Str → Option Value) (fa : Addr) (o : Obj) (pm cd doc : Value) (a : Addr) (vs : List Value) (ns : List Int),
      Ground q loose [] XP w s₀ mg mb s₁.heap → YP w s₁.heap →
      s₁.heap.get? fa = some o → o.data = .func (docDef d.name d.params d.body d.scope pm cd doc) → s₁.heap.CodeRec cd d.name → mg d.name = some (.ref fa) →
      s₁.heap.get? a = some { cls := .type "list", data := .seq vs.toArray } → IntsAre vs ns → ns.length ≤ n → s₁.gens = #[] →
      codeAny (model l.prog w) callerA (.call (.ref fa) ⟨[.ref a], []⟩) (fun r s' => r = .ok (.ret (.bool true)) ∧ OldK s₁.heap s'.heap ∧ s'.os = s₁.os ∧ AllBare s'.gens) s₁) :
    WalkO q loose XP YP l.row.toRowW d [] (fun f vs => PySem.call f vs) := by
  intro w s₀ s₁ mg mb G Y fa o pm cd doc dV kV ho hd hcd hD hmg hg args vals as hpre hlay hrd hwl hlo
  obtain rfl : dV = .none := Dflts.none hD hdf
  obtain rfl : kV = .none := Dflts.noKw hD
  obtain ⟨a, vs, ns, rfl, rfl, hobj, hints, hlen⟩ := script_of hn hpre hwl
  refine enter_call (codeAny_mono (call w s₀ s₁ mg mb fa o pm cd doc a vs ns G Y ho (fd_plain hd) hcd hmg hobj hints hlen hg) fun r s' hq => ?_)
  obtain ⟨rfl, h2, h3, h4⟩ := hq
  exact ⟨.inl ⟨.bool true, .bool true, [], rfl, fun _ => rfl, .bool true, post_true l _, fun _ => ⟨List.Pairwise.nil, fun _ hm => (nomatch hm)⟩⟩, h2, h3, h4⟩
end Att
namespace L2
open PySem PySem.Spec PyProof.Rows
theorem vals_ints : ∀ {vs : List Value} {ns : List Int}, IntsAre vs ns → Vals (ns.map V.int) vs
  | _, _, .nil => .nil
  | _, _, .cons n t h => .cons ⟨t, rfl⟩ (vals_ints h)
def Only (H : Hp) : Prop := ∀ b, H b = none ∨ ∃ o xs, H b = some (.frz o (.lst xs))
theorem law_call {P : Program} {w : World} {K : PySem.W.Frag} {mg mb : Str → Option Value} {CX : CXT} {k : Nat} {fa a : Addr} {fd : FuncData} {x : Str} {sp : Sp} {s₁ : Shared} {vs : List Value} {ns : List Int}
    (KX : K.In s₁.heap) (hns : s₁.heap.Ns mainGlobals mg) (hb : s₁.heap.Ns builtinsNs mb) (hbb : ∀ x : Str, x ≠ "__name__" → mb x = bootBuiltins x) (hlim : s₁.heap.NoLimit) (hg : s₁.gens = #[])
    (ha : s₁.heap.get? a = some { cls := .type "list", data := .seq vs.toArray }) (hi : IntsAre vs ns) (hl : ns.length ≤ sizeLine) (hr : Room k callerA)
    (F : ∀ base : Heap, K.In base → base.Ns mainGlobals mg → FnOk P w K mg base CX k fa fd [x] sp) (hbind : ∀ (s : Shared) (u : Value), BindsTo s fd ⟨[u], []⟩ [(x, u)])
    (hsp : ∀ H : Hp, Only H → SqL K H a (ns.map V.int) → sp [.ref a] H (fun v _ => v = .bl true) fun _ _ _ => False)
    (hCX : ∀ H e s', CX [] H s₁ (fun _ _ _ => False) e s' → False) :
    codeAny (model P w) callerA (.call (.ref fa) ⟨[.ref a], []⟩) (fun r s' => r = .ok (.ret (.bool true)) ∧ OldK s₁.heap s'.heap ∧ s'.os = s₁.os ∧ AllBare s'.gens) s₁ := by
  have rv := vals_ints hi
  have lenV := hi.length
  have core : ∀ H : Hp, Only H → SqL K H a (ns.map V.int) → HOk P w H s₁.heap → (∀ b, H b ≠ none → b = a) → (H a ≠ none → K.lookup a = none) →
      codeAny (model P w) callerA (.call (.ref fa) ⟨[.ref a], []⟩) (fun r s' => r = .ok (.ret (.bool true)) ∧ OldK s₁.heap s'.heap ∧ s'.os = s₁.os ∧ AllBare s'.gens) s₁ := by
    intro H hO hS hok hA hK
    have base_of : ∀ {b : Addr} {o : Obj}, s₁.heap.get? b = some o → H b = none → (hidT s₁.heap H).get? b = some o := fun e n => hidT_get e n
    have noA : ∀ {b : Addr} {o : Obj} {es : Array DictEntry} {ep : Nat}, s₁.heap.get? b = some o → o.data = .dict es ep → H b = none := fun {b o es ep} e d => by
      cases q : H b with
      | none => rfl
      | some u =>
        have e' : b = a := hA b (by rw [q]; simp)
        subst e'
        rw [ha] at e; cases e
        have d' : Data.seq vs.toArray _ = Data.dict es ep := d
        cases d'
    have nsK : ∀ {b : Addr} {m : Str → Option Value}, s₁.heap.Ns b m → (hidT s₁.heap H).Ns b m := fun {b m} ⟨o, es, ep, e, d, r⟩ => ⟨o, es, ep, base_of e (noA e d), d, r⟩
    have hKb : K.In (hidT s₁.heap H) := fun b o e => base_of (KX b o e) (by
      cases q : H b with
      | none => rfl
      | some u =>
        have e' : b = a := hA b (by rw [q]; simp)
        subst e'
        rw [hK (by rw [q]; simp)] at e; cases e)
    have hM : Mod K mg (hidT s₁.heap H) := ⟨hKb, nsK hns, ⟨mb, nsK hb, hbb⟩, let ⟨mc, h1, h2⟩ := hlim; ⟨mc, nsK h1, h2⟩⟩
    have e0 : Env0 P w K mg (hidT s₁.heap H) callerA [] s₁ H := ⟨rfl, hM, fun b o e => of_hidT e, Nat.le_of_eq (hidT_size _ _), trivial, fun b hb => absurd (show b ∈ ([] : List Addr) from hb) (by simp), hok, .of_eq hg⟩
    refine codeAny_mono ((F _ hKb (nsK hns)).run callerA [] s₁ H ⟨[.ref a], []⟩ [.ref a] [.ref a] _ _ hr e0 (hbind s₁ (.ref a)) (.cons rfl .nil) (hsp H hO hS)) fun r s' h => ?_
    cases r with
    | error e => exact (hCX H e s' h).elim
    | ok fl =>
      cases fl with
      | next => exact False.elim h
      | brk => exact False.elim h
      | cont => exact False.elim h
      | ret u =>
        obtain ⟨v, H', os, bare, un, hok', r', q⟩ := h
        have q' : v = .bl true := q
        subst q'
        obtain rfl : u = Value.bool true := r'
        refine ⟨rfl, OldK.of_keep fun b o e => ?_, os, bare⟩
        cases q : H b with
        | none => exact un.keep b o e q (by intro z; exact absurd (show b ∈ ([] : List Addr) from z) (by simp)) (by simp)
        | some u =>
          rcases hO b with z | ⟨ob, xs, z⟩
          · rw [q] at z; cases z
          · have z2 := un.frzs b ob _ z
            obtain ⟨e1, _⟩ := hok b _ z
            obtain ⟨e2, _⟩ := hok' b _ z2
            rw [e] at e1; cases e1
            exact e2
  cases hk : K.lookup a with
  | some o =>
    have e := KX a o hk
    rw [ha] at e
    cases e
    refine core (fun _ => none) (fun _ => .inl rfl) (.inr ⟨_, vs.toArray, _, hk, rfl, rfl, rfl, by rw [List.size_toArray, lenV]; exact hl, by simpa using rv⟩) (fun b u z => by have z' : (none : Option HO) = some u := z; cases z') (fun b z => absurd rfl z) fun z => absurd rfl z
  | none =>
    refine core (fun b => if b = a then some (.frz { cls := .type "list", data := .seq vs.toArray } (.lst (ns.map V.int))) else none) (fun b => ?_) (.inl (.inr ⟨{ cls := .type "list", data := .seq vs.toArray }, if_pos rfl⟩)) (fun b u z => ?_) (fun b z => ?_) fun _ => hk
    · by_cases hb : b = a
      · exact .inr ⟨_, _, if_pos hb⟩
      · exact .inl (if_neg hb)
    · by_cases hb : b = a
      · have z' := (if_pos hb).symm.trans z
        cases z'
        subst hb
        exact ⟨ha, by rw [List.length_map]; exact hl, vs, _, rv, ha⟩
      · have z' := (if_neg hb).symm.trans z
        cases z'
    · by_cases hb : b = a
      · exact hb
      · exact absurd (if_neg hb) z
end L2
namespace L2
open PySem PySem.Spec PyProof.Rows
theorem walk_of {l : PySem.W.OpenLaw} {n k : Nat} {q : Program} {loose : List Str} {XP : (Str → Option Value) → Heap → Prop} {YP : World → Heap → Prop} {d : DefRec} {K : Params → PySem.W.Frag} {CX : World → CXT} {sp : World → Sp} {x : Str}
    (hn : l.most = some n) (hn2 : n ≤ sizeLine) (hdf : d.params.defaults = []) (hr : Room k callerA)
    (hY : ∀ (w : World) (h : Heap), YP w h → (K w.params).In h)
    (F : ∀ (w : World) (mg : Str → Option Value) (fa : Addr) (h : Heap), (K w.params).In h → h.Ns mainGlobals mg → mg d.name = some (.ref fa) →
      ∃ fd : FuncData, (∀ (s : Shared) (u : Value), BindsTo s fd ⟨[u], []⟩ [(x, u)]) ∧
        ∀ base : Heap, (K w.params).In base → base.Ns mainGlobals mg → FnOk l.prog w (K w.params) mg base (CX w) k fa fd [x] (sp w))
    (hsp : ∀ (w : World) (H : Hp) (a : Addr) (ns : List Int), ns.length ≤ n → Only H → SqL (K w.params) H a (ns.map V.int) → sp w [.ref a] H (fun v _ => v = .bl true) fun _ _ _ => False)
    (hCX : ∀ (w : World) (H : Hp) (s : Shared) (e : Value) (s' : Shared), CX w [] H s (fun _ _ _ => False) e s' → False) :
    PySem.W.WalkO q loose XP YP l.row.toRowW d [] (fun f vs => PySem.call f vs) := by
  refine Att.attach_call hn hdf fun w s₀ s₁ mg mb fa o pm cd doc a vs ns G Y ho hd hcd hmg hobj hints hlen hg => ?_
  have KX := hY w _ Y
  obtain ⟨fd, hb, hF⟩ := F w mg fa _ KX G.T.g hmg
  exact law_call KX G.T.g G.T.b G.T.builtins G.T.nolimit hg hobj hints (Nat.le_trans hlen hn2) hr hF hb (fun H hO hS => hsp w H a ns hlen hO hS) fun H e s' => hCX w H s₁ e s'
end L2
namespace L2
open PySem PySem.Spec PyProof.Rows
def defArgs (s : Stmt) : Arguments := match s with
  | .FunctionDef _ a _ _ _ _ _ _ _ _ => a
  | _ => { posonlyargs := [], args := [], vararg := none, kwonlyargs := [], kw_defaults := [], kwarg := none, defaults := [] }
def defBody (s : Stmt) : List Stmt := match s with
  | .FunctionDef _ _ b _ _ _ _ _ _ _ => b
  | _ => []
def defScope (s : Stmt) : Scope := match s with
  | .FunctionDef _ _ _ _ _ _ sc _ _ _ => sc
  | _ => { kind := .function, names := [], isGenerator := false, isCoroutine := false }
abbrev E0 : XK := fun _ _ _ => False
theorem hu_of {A : Around} {k : Nat} (hr : Room k A) : A.units + 1 < cLine := Nat.lt_of_le_of_lt (Nat.add_le_add_left (by decide : 1 ≤ 64) _) hr.units
section
variable {X : Cx}
theorem pv (i : Nat) {x : Str} {pos : Pos} (hN : X.N[i]? = some x := by rfl) (hv : Vis X.env.scope x := by first | exact Or.inl rfl | exact Or.inr (Or.inl rfl) | exact Or.inr (Or.inr rfl)) (hd : (x == ("__debug__" : Str)) = false := by decide)
    (hcd : (x == ("__classdict__" : Str)) = false := by decide) : PE X (.Name x pos) (tVar i) := pe_var hN hv hd hcd
end
def Same (H H' : Hp) : Prop := ∀ b o, H b = some o → H' b = some o
end L2
set_option maxHeartbeats 4000000
namespace L2
open PySem PySem.Spec PyProof.Rows PySem.W
open PySem.Builtin.ObjectAttr (find dataDescriptor? getOf)
open PySem.Builtin.Getset_descriptor (descrGet descrGetter descrCheckInstance descrNameAndClass)
section
variable {prog : Program} {w : World} {A : Around} {E : Value → Shared → Prop} {h : Heap} {g : Array GenState} {d : Drawn} {t : Nat} {os : OsState} {K : Frag} {x C : Addr}
def ExcAt (a C : Addr) (h : Heap) : Prop := ∃ oa, h.get? a = some oa ∧ oa.cls = .ref C
end
end L2
namespace L2
open PySem PySem.Spec PyProof.Rows
abbrev veMro : List Value := [.type "ValueError", .type "Exception", .type "BaseException", .type "object"]
theorem own_obj {K : PySem.W.Frag} {h : Heap} {C : Addr} {bmB : List Value} {newId : String} (X : K.In h) (q : PySem.W.excIn K C bmB newId = true) :
    ∃ bm N nm qn bs hdct sn sub ab col dd k0 k1 k2 k3 k5 mN, h.get? C = some (excClassObj nm qn C N bs bm hdct sn sub ab col dd k0 k1 k2 k3 k5 newId) ∧ h.Ns N mN ∧ mN "__init__" = none ∧ OwnTail h bmB bm := by
  unfold PySem.W.excIn at q
  split at q
  case h_2 => cases q
  rename_i dd cd sl lk
  split at q
  case h_2 => cases q
  rename_i C1 bm k0 k1 k2 k3 n k5 em es
  rw [Bool.and_eq_true, Bool.and_eq_true, Bool.and_eq_true, Bool.and_eq_true, Bool.and_eq_true, beq_iff_eq, beq_iff_eq, beq_iff_eq, Bool.not_eq_true'] at q
  obtain ⟨⟨⟨⟨⟨rfl, rfl⟩, nd⟩, tl⟩, ok⟩, ni⟩ := q
  obtain ⟨nm, bs, mro, ns, qn, hd, sn, sub, ab, col, del⟩ := cd
  have em : mro = .ref C1 :: bm := em
  have nd : del = false := nd
  subst em nd
  have esl : sl = #[k0, k1, k2, k3, some (.builtin n), k5] := by
    obtain ⟨l⟩ := sl
    have es : l = [k0, k1, k2, k3, some (.builtin n), k5] := es
    rw [es]
  subst esl
  exact ⟨bm, ns, nm, qn, bs, hd, sn, sub, ab, col, dd, k0, k1, k2, k3, k5, _, X _ _ lk, .of_isNs (PySem.W.isNs_of_in X ok), PySem.W.nsMap_none_of_in X ok ni, PySem.W.tail_of_in X tl⟩
theorem ObjOk.is {P : Program} {w : World} {H : Hp} {h : Heap} {a : Addr} {o : HO} (x : ObjOk P w H h a o) : ∃ ob, h.get? a = some ob := by
  cases o with
  | lst xs => obtain ⟨_, _, _, _, e⟩ := x; exact ⟨_, e⟩
  | tup xs => obtain ⟨_, _, _, ob, e, _⟩ := x; exact ⟨_, e⟩
  | dK kvs => obtain ⟨_, _, _, _, ob, _, _, e, _⟩ := x; exact ⟨_, e⟩
  | dT kvs => obtain ⟨_, _, _, _, ob, _, _, e, _⟩ := x; exact ⟨_, e⟩
  | set S n => obtain ⟨ob, _, _, _, e, _⟩ := x; exact ⟨_, e⟩
  | ins C dx fs => obtain ⟨_, _, _, e, _⟩ := x; exact ⟨_, e⟩
  | own y => obtain ⟨_, e⟩ := x; exact ⟨_, e⟩
  | xd fs => obtain ⟨_, ⟨_, _, _, e, _⟩, _⟩ := x; exact ⟨_, e⟩
  | rng lo hi => obtain ⟨_, _, _, e⟩ := x; exact ⟨_, e⟩
  | frz ob u => obtain ⟨e, _⟩ := x; exact ⟨_, e⟩
  | tbl ps => exact ⟨_, x⟩
  | met f y => exact ⟨_, x⟩
  | ext φ => obtain ⟨_, ⟨_, e⟩, _⟩ := x; exact ⟨_, e⟩
theorem ObjOk.none_no {P : Program} {w : World} {H : Hp} {h : Heap} {a : Addr} {o : HO} {A : Prop} (x : ObjOk P w H h a o) (g : h.get? a = none) : A := by
  obtain ⟨ob, e⟩ := x.is
  rw [g] at e; cases e
structure Fly (P : Program) (w : World) (outer : List Env) (H : Hp) (s : Shared) (a C : Addr) (H' : Hp) (s' : Shared) : Prop where
  os : s'.os = s.os
  bare : AllBare s'.gens
  un : Un (frs outer) [] H H' s.heap s'.heap
  hok : HOk P w H' s'.heap
  new : s.heap.get? a = none
  free : H' a = none
  fl : ∃ (base : Heap) (a0 : Value), Heap.FlyingW base outer a (.ref C) a0 s'.heap ∧
    ∀ b o, s'.heap.get? b = some o → (H' b ≠ none ∨ ((∃ ob, s.heap.get? b = some ob) ∧ b ∉ frs outer)) → base.get? b = some o
def CXE (P : Program) (w : World) : CXT := fun outer H s E ev s' => ∃ (a C : Addr) (H' : Hp), ev = .ref a ∧ Fly P w outer H s a C H' s' ∧ E (.ref C) none H'
section
variable {P : Program} {w : World} {outer : List Env} {H H' : Hp} {s s' : Shared} {a C : Addr}
theorem hok_base {h h' base : Heap} (x : HOk P w H h) (hb : ∀ b o, h.get? b = some o → H b ≠ none → base.get? b = some o) (st : base.StaysIn h') : HOk P w H h' := fun b u e => by
  refine (x b u e).stay (fun c v hc q => st c v (hb c v q ?_)) (fun _ q => q) fun _ _ q => q
  rcases hc with z | z
  · rw [z, e]; intro k; cases k
  · rw [z]; intro k; cases k
theorem frs_mem {l : List Env} {h base : Heap} (f : h.FunFrames base l) {b : Addr} (hb : b ∈ frs l) : base.get? b = none ∧ ∃ o, h.get? b = some o ∧ ∀ vs, o.data ≠ .fields vs := f.mem hb
theorem fly_leave {M : Model} {A : Around} {E : Value → Shared → Prop} {Q : Unit → Shared → Prop} {env : Env} {L : Addr} {Hc : Hp} {sc : Shared}
    (hA : A.frames = some (env :: outer)) (hf : env.frame = some L) (hL : s.heap.get? L = none) (fF : ∀ b ∈ frs outer, H b = none) (fT : ∀ b ∈ frs outer, ∃ o, s.heap.get? b = some o)
    (u : Un (frs outer) [] H Hc s.heap sc.heap) (ho : sc.os = s.os) (x : Fly P w (env :: outer) Hc sc a C H' s')
    (q : ∀ s'', Fly P w outer H s a C H' s'' → Q () s'') : wpAny M A (leaving env (.ref a)) Q E s' := by
  obtain ⟨base, a0, fl, hb⟩ := x.fl
  have ef : frs (env :: outer) = L :: frs outer := by unfold frs; rw [List.filterMap_cons, hf]
  refine wpAny_leaves_onW hA hf fl fun h' fl' up => q _ ?_
  have old : ∀ b ob, s.heap.get? b = some ob → b ≠ L := fun b ob e z => by rw [z, hL] at e; cases e
  have inb : ∀ b ob o, s.heap.get? b = some ob → b ∉ frs outer → s'.heap.get? b = some o → base.get? b = some o := fun b ob o e n e' => by
    obtain ⟨oc, ec⟩ := u.there b ob e (fun z => nomatch z)
    refine hb b o e' (.inr ⟨⟨oc, ec⟩, ?_⟩)
    rw [ef]
    exact fun z => (List.mem_cons.mp z).elim (old b ob e) n
  have fdata : ∀ b o, b ∈ frs outer → s'.heap.get? b = some o → ∀ vs, o.data ≠ .fields vs := fun b o m e => by
    obtain ⟨_, o2, e2, nf⟩ := frs_mem fl.2.2.1 (show b ∈ frs (env :: outer) by rw [ef]; exact List.mem_cons_of_mem _ m)
    rw [e2] at e; cases e; exact nf
  refine ⟨x.os.trans ho, x.bare, ⟨fun b o e n nb nx => ?_, fun b o e n mb nx => ?_, fun b o e n nx => ?_, fun b o e nx => ?_, fun b xs e => x.un.tups b xs (u.tups b xs e), fun b o v e => x.un.frzs b o v (u.frzs b o v e), fun b ps e => ?_⟩, hok_base x.hok (fun b o e n => hb b o e (.inl n)) fl'.1, ?_, x.free, base, a0, fl', fun b o e r => ?_⟩
  · have e1 := x.un.keep b o (u.keep b o e n nb nx) (u.free b o e n nx) (by rw [ef]; exact fun z => (List.mem_cons.mp z).elim (old b o e) nb) nx
    exact fl'.1 b o (inb b o o e nb e1)
  · obtain ⟨sl, e1⟩ := u.slot b o e n mb nx
    obtain ⟨sl2, e2⟩ := x.un.slot b _ e1 (u.free b o e n nx) (by rw [ef]; exact List.mem_cons_of_mem _ mb) nx
    obtain ⟨sl3, e3⟩ := up b _ e2 (fdata b _ mb e2)
    exact ⟨sl3, e3⟩
  · obtain ⟨oc, ec⟩ := u.there b o e nx
    exact x.un.free b oc ec (u.free b o e n nx) nx
  · obtain ⟨oc, ec⟩ := u.there b o e nx
    obtain ⟨o2, e2⟩ := x.un.there b oc ec nx
    by_cases mb : b ∈ frs outer
    · obtain ⟨sl, e3⟩ := up b o2 e2 (fdata b o2 mb e2)
      exact ⟨_, e3⟩
    · exact ⟨o2, fl'.1 b o2 (inb b o o2 e mb e2)⟩
  · obtain ⟨m1, e1⟩ := u.tbls b ps e
    obtain ⟨m2, e2⟩ := x.un.tbls b _ e1
    exact ⟨m1 ++ m2, by rw [e2, Array.append_assoc]⟩
  · cases z : s.heap.get? a with
    | none => rfl
    | some oa =>
      obtain ⟨o1, e1⟩ := u.there a oa z (fun z => nomatch z)
      rw [x.new] at e1; cases e1
  · have e : h'.get? b = some o := e
    have key : ∀ o2, s'.heap.get? b = some o2 → base.get? b = some o2 → base.get? b = some o := fun o2 e2 e3 => by
      have := fl'.1 b o2 e3
      rw [e] at this; cases this; exact e3
    rcases r with r | ⟨⟨ob, eb⟩, nb⟩
    · cases z : H' b with
      | none => exact absurd z r
      | some v =>
        have lt := x.hok.lt z
        obtain ⟨o2, e2⟩ : ∃ o2, s'.heap.get? b = some o2 := by
          cases g : s'.heap.get? b with
          | some o2 => exact ⟨o2, rfl⟩
          | none => exact (x.hok b v z).none_no g
        exact key o2 e2 (hb b o2 e2 (.inl r))
    · obtain ⟨oc, ec⟩ := u.there b ob eb (fun z => nomatch z)
      obtain ⟨o2, e2⟩ := x.un.there b oc ec (fun z => nomatch z)
      exact key o2 e2 (inb b ob o2 eb nb e2)
theorem fly_made {M : Model} {A : Around} {E : Value → Shared → Prop} {Q : Unit → Shared → Prop} {env : Env} {L : Addr} {Hc : Hp} {sc : Shared} {h1 base0 : Heap} {vs : List Value}
    (hA : A.frames = some (env :: outer)) (hf : env.frame = some L) (hL : s.heap.get? L = none) (u : Un (frs outer) [] H Hc s.heap sc.heap) (ho : sc.os = s.os) (bare : AllBare sc.gens) (hok : HOk P w Hc sc.heap)
    (fr : sc.heap.FunFrames base0 (env :: outer)) (fU : ∀ b ∈ frs (env :: outer), Hc b = none) (hx : Heap.MadeExcOf sc.heap h1 a (.ref C) vs)
    (q : ∀ s'', Fly P w outer H s a C Hc s'' → Q () s'') : wpAny M A (leaving env (.ref a)) Q E { sc with heap := h1 } := by
  have ef : frs (env :: outer) = L :: frs outer := by unfold frs; rw [List.filterMap_cons, hf]
  have old : ∀ b ob, s.heap.get? b = some ob → b ≠ L := fun b ob e z => by rw [z, hL] at e; cases e
  have inb : ∀ b o, sc.heap.get? b = some o → b ∉ frs (env :: outer) → (PySem.W.hideAll sc.heap (frs (env :: outer))).get? b = some o := fun b o e n => PySem.W.hideAll_get _ e n
  have trk : ∀ b, Hc b ≠ none → b ∉ frs (env :: outer) := fun b n m => n (fU b m)
  have fdata : ∀ b o, b ∈ frs (env :: outer) → sc.heap.get? b = some o → ∀ vs, o.data ≠ .fields vs := fun b o m e => by
    obtain ⟨_, o2, e2, nf⟩ := frs_mem fr m
    rw [e2] at e; cases e; exact nf
  refine wpAny_leaves_madeW (base := PySem.W.hideAll sc.heap (frs (env :: outer))) hA hf (fun b o z => PySem.W.of_hideAll _ z) (PySem.W.funFrames_hide fr fun en he b hb => List.mem_filterMap.mpr ⟨en, he, hb⟩) hx fun h' t fl _ _ up => q _ ?_
  have notin : ∀ b ob, s.heap.get? b = some ob → b ∉ frs outer → b ∉ frs (env :: outer) := fun b ob e n => by rw [ef]; exact fun z => (List.mem_cons.mp z).elim (old b ob e) n
  refine ⟨ho, bare, ⟨fun b o e n nb nx => ?_, fun b o e n mb nx => ?_, fun b o e n nx => u.free b o e n nx, fun b o e nx => ?_, u.tups, u.frzs, u.tbls⟩, hok_base hok (fun b o e n => inb b o e (trk b n)) fl.1, ?_, ?_, _, _, fl, fun b o e r => ?_⟩
  · exact fl.1 b o (inb b o (u.keep b o e n nb nx) (notin b o e nb))
  · obtain ⟨sl, e1⟩ := u.slot b o e n mb nx
    obtain ⟨sl3, e3⟩ := up b _ (hx.keeps _ _ e1) (fdata b _ (by rw [ef]; exact List.mem_cons_of_mem _ mb) e1)
    exact ⟨sl3, e3⟩
  · obtain ⟨o2, e2⟩ := u.there b o e nx
    by_cases mb : b ∈ frs (env :: outer)
    · obtain ⟨sl, e3⟩ := up b o2 (hx.keeps _ _ e2) (fdata b o2 mb e2)
      exact ⟨_, e3⟩
    · exact ⟨o2, fl.1 b o2 (inb b o2 e2 mb)⟩
  · cases z : s.heap.get? a with
    | none => rfl
    | some oa =>
      obtain ⟨o1, e1⟩ := u.there a oa z (fun z => nomatch z)
      rw [hx.new] at e1; cases e1
  · cases z : Hc a with
    | none => rfl
    | some v => exact (hok a v z).none_no hx.new
  · have e : h'.get? b = some o := e
    have key : ∀ o2, sc.heap.get? b = some o2 → b ∉ frs (env :: outer) → (PySem.W.hideAll sc.heap (frs (env :: outer))).get? b = some o := fun o2 e2 n => by
      have e3 := inb b o2 e2 n
      have := fl.1 b o2 e3
      rw [e] at this; cases this; exact e3
    rcases r with r | ⟨⟨ob, eb⟩, nb⟩
    · cases z : Hc b with
      | none => exact absurd z r
      | some v =>
        obtain ⟨o2, e2⟩ := (hok b v z).is
        exact key o2 e2 (trk b r)
    · obtain ⟨o2, e2⟩ := u.there b ob eb (fun z => nomatch z)
      exact key o2 e2 (notin b ob eb nb)
end
structure Xc (X : Cx) (E : XK) : Prop where
  pass : Passes (CXE X.prog X.w) X E
  made : ∀ (pins : List (Addr × Obj)) (σ : St) (H : Hp) (s : Shared) (h' : Heap) (e C : Addr) (vs : List Value), Inv X pins σ H s → Heap.MadeExcOf s.heap h' e (.ref C) vs → E (.ref C) none H → X.xe (.ref e) { s with heap := h' }
theorem Inv.fresh0 {X : Cx} {pins : List (Addr × Obj)} {σ : St} {H : Hp} {s : Shared} (I : Inv X pins σ H s) : X.s₀.heap.get? X.env.locals = none := Heap.get?_none_of_le I.ok.above
theorem xc_of {P : Program} {w : World} {K : PySem.W.Frag} {mg : Str → Option Value} {base : Heap} {N : List Str} {qual : Str} {scope : Scope} {f : Addr} {cd : Value} {A : Around} {outer : List Env} {s : Shared} {H : Hp} {E : XK} :
    Xc (cxOf (CXE P w) P w K mg base N qual scope f cd A outer s H E) E := by
  refine ⟨fun pins σ Hc sc e s' I x => ?_, fun pins σ Hc sc h' e C vs I hx q => ?_⟩
  · obtain ⟨a, C, H', rfl, fl, q⟩ := x
    exact fly_leave (L := (envOfC qual scope s.heap.objs.size f cd).locals) I.ok.frames rfl I.fresh0 I.ok.frf (fun b hb => let ⟨_, o, ho, _⟩ := I.ok.funs.mem hb; ⟨o, ho⟩) I.base I.os fl fun s'' fl' => ⟨a, C, H', rfl, fl', q⟩
  · exact fly_made (L := (envOfC qual scope s.heap.objs.size f cd).locals) I.ok.frames rfl I.fresh0 I.base I.os I.bare I.hok I.stack I.stkFree hx fun s'' fl' => ⟨e, C, Hc, rfl, fl', q⟩
def tRaise (C : Addr) (E : XK) (t : TA) : TS := fun _ σ H => t σ H fun vs H1 => vs.length ≤ sizeLine ∧ E (.ref C) none H1
theorem ps_raise {X : Cx} {E : XK} {x : Str} {C : Addr} {e : Expr} {es : List Expr} {t : TA} {np cpos pos : Pos} (xc : Xc X E) (hc : X.calm = true) (hg : Gl X x) (hm : X.mg x = some (.ref C)) (hex : PySem.W.excIn X.K C veMro "ValueError.__new__" = true)
    (ha : PA X (e :: es) t) (hd : (x == ("__debug__" : Str)) = false := by decide) (he : starEach (e :: es) X.env = (false, eval e X.env) :: starEach es X.env := by rfl) (hpl : (backTo cpos (starEach es X.env)).any (·.1) = false := by rfl) :
    PS X (.Raise (some (.Call (.Name x np) (e :: es) [] cpos)) none pos) (tRaise C E t) := by
  intro pins s σ H D I h
  obtain ⟨tl, N, nm, q, bs, hdct, sn, sub, ab, col, dd, k0, k1, k2, k3, k5, mN, hC, hN, hni, T⟩ := own_obj I.ok.mod.kin hex
  refine wpAny_Raise_call_subT (nm := nm) (q := q) (N := N) (bs := bs) (hdct := hdct) (sn := sn) (sub := sub) (ab := ab) (col := col) (dd := dd) (k0 := k0) (k1 := k1) (k2 := k2) (k3 := k3) (k5 := k5) (bm := tl) (mN := mN) F.excBase_ValueError (T.hasType F.excBase_ValueError.hasBase) (I.ok.hd hc) (by rw [he]; show (false || (backTo cpos (starEach es X.env)).any (·.1)) = false; rw [hpl]; rfl) hni (ld_glob I hg hm ⟨rfl, ?_⟩ hd)
  have h1 := ha cpos pins s σ H _ I h
  rw [he] at h1 ⊢
  refine Calls.evalArgs_plain (wpAny_mono h1 (fun us s2 h2 => ?_) fun _ _ y => y)
  obtain ⟨vs, H2, I2, r2, hl, q2⟩ := h2
  exact ⟨rfl, by rw [← r2.length]; exact hl, I2.bk _ _ hC, hN.keeps I2.bk, T.keeps I2.bk, fun h' ex hx => xc.made pins σ H2 s2 h' ex C us I2 hx q2⟩
end L2
namespace L2
open PySem PySem.Spec PyProof.Rows
abbrev XS := Value → St → Hp → Prop
abbrev TX := Ends → XS → St → Hp → Prop
section
variable {X : Cx}
variable {k : Nat} {f C : Addr} {fd : FuncData} {ps : List Str} {sp : Sp} {dvs : List V} {ds : List Value} {x m : Str} {p pos apos : Pos} {e o : Expr} {es : List Expr} {ta : TE} {t : TA}
def excO (a C : Addr) : HO := .ext (ExcAt a C)
end
end L2
namespace L2
open PySem PySem.Spec PyProof.Rows
def Bd (n : Nat) (x : Int) : Prop := x.natAbs < 2 ^ n
theorem Bd.mono {m n : Nat} {x : Int} (h : Bd m x) (k : m ≤ n) : Bd n x := Nat.lt_of_lt_of_le h (Nat.pow_le_pow_right (by decide) k)
theorem Bd.bits {n : Nat} {x : Int} (h : Bd n x) : Builtin.Int.intBits x ≤ n := by
  unfold Builtin.Int.intBits
  split
  · exact Nat.zero_le _
  · rename_i z
    have h0 : x.natAbs ≠ 0 := fun q => z (by simp [Int.natAbs_eq_zero.mp q])
    exact (Nat.log2_lt h0).mpr h
theorem Bd.mulOk {m n : Nat} {x y : Int} (h : Bd m x) (k : Bd n y) (hs : m + n ≤ 134217728) : IntMulOk x y := IntMulOk.of_le h.bits k.bits hs
theorem Bd.mul {m n : Nat} {x y : Int} (h : Bd m x) (k : Bd n y) : Bd (m + n) (x * y) := by
  unfold Bd at *
  rw [Int.natAbs_mul, Nat.pow_add]
  exact Nat.mul_lt_mul'' h k
theorem Bd.add {m n : Nat} {x y : Int} (h : Bd m x) (k : Bd n y) : Bd (max m n + 1) (x + y) := by
  have h1 := h.mono (Nat.le_max_left m n)
  have k1 := k.mono (Nat.le_max_right m n)
  unfold Bd at *
  have := Int.natAbs_add_le x y
  rw [Nat.pow_succ]
  omega
theorem Bd.neg {n : Nat} {x : Int} (h : Bd n x) : Bd n (-x) := by unfold Bd at *; rwa [Int.natAbs_neg]
theorem Bd.log {n : Nat} {x : Int} (h : Bd n x) (hn : n ≤ 9000) : x.natAbs.log2 < 9000 := by
  by_cases z : x.natAbs = 0
  · rw [z]; decide
  · exact Nat.lt_of_lt_of_le ((Nat.log2_lt z).mpr h) hn
section
variable {X : Cx}
def CDv (_ j : Int) : Prop := j ≠ 0 ∧ Bd 9000 j
theorem op_mulB : OpR X (binaryOp .Mult) (rI IntMulOk fun i j => .int (i * j)) := opI fun _ _ _ _ _ _ _ hc q => mul_int q hc
theorem op_fdivB : OpR X (binaryOp .FloorDiv) (rI CDv fun i j => .int (i.fdiv j)) := opI fun _ _ _ _ _ _ _ hc q => floordiv_int hc.1 q (.inl (PyProof.noPylong_of_log2 (hc.2.log (Nat.le_refl _))))
end
inductive D where
  | non | bl (b : Bool) | int (i : Int) | str (x : Str) | tup (ds : List D) | lst (ds : List D)
mutual
def D.eq : D → D → Bool
  | .non, .non => true
  | .bl a, .bl b => a == b
  | .bl a, .int b => (if a then 1 else 0) == b
  | .int a, .bl b => a == (if b then 1 else 0)
  | .int a, .int b => a == b
  | .str a, .str b => a == b
  | .tup xs, .tup ys => D.eqs xs ys
  | .lst xs, .lst ys => D.eqs xs ys
  | _, _ => false
def D.eqs : List D → List D → Bool
  | [], [] => true
  | x :: xs, y :: ys => D.eq x y && D.eqs xs ys
  | _, _ => false
end
mutual
def D.depth : D → Nat
  | .tup xs => D.depths xs + 1
  | .lst xs => D.depths xs + 1
  | _ => 0
def D.depths : List D → Nat
  | [] => 0
  | x :: xs => max (D.depth x) (D.depths xs)
end
mutual
theorem D.eq_refl : ∀ d : D, D.eq d d = true
  | .non => rfl
  | .bl b => by simp [D.eq]
  | .int i => by simp [D.eq]
  | .str x => by simp [D.eq]
  | .tup xs => by rw [D.eq]; exact D.eqs_refl xs
  | .lst xs => by rw [D.eq]; exact D.eqs_refl xs
theorem D.eqs_refl : ∀ ds : List D, D.eqs ds ds = true
  | [] => rfl
  | x :: xs => by rw [D.eqs, D.eq_refl x, D.eqs_refl xs]; rfl
end
mutual
inductive Den (K : PySem.W.Frag) (H : Hp) : V → D → Prop
  | non : Den K H .non .non
  | bl (b : Bool) : Den K H (.bl b) (.bl b)
  | int (i : Int) : Den K H (.int i) (.int i)
  | str (x : Str) : Den K H (.str x) (.str x)
  | tup {a : Addr} {xs : List V} {ds : List D} (e : SqT K H a xs) (r : Dens K H xs ds) : Den K H (.ref a) (.tup ds)
  | lst {a : Addr} {xs : List V} {ds : List D} (e : SqL K H a xs) (r : Dens K H xs ds) : Den K H (.ref a) (.lst ds)
inductive Dens (K : PySem.W.Frag) (H : Hp) : List V → List D → Prop
  | nil : Dens K H [] []
  | cons {x : V} {d : D} {xs : List V} {ds : List D} (h : Den K H x d) (r : Dens K H xs ds) : Dens K H (x :: xs) (d :: ds)
end
theorem Dens.len {K : PySem.W.Frag} {H : Hp} : ∀ {xs : List V} {ds : List D}, Dens K H xs ds → xs.length = ds.length
  | _, _, .nil => rfl
  | _, _, .cons _ r => by rw [List.length_cons, List.length_cons, r.len]
theorem Dens.at {K : PySem.W.Frag} {H : Hp} : ∀ {xs : List V} {ds : List D} (j : Nat) {x : V} {d : D}, Dens K H xs ds → xs[j]? = some x → ds[j]? = some d → Den K H x d
  | _, _, 0, _, _, .cons h _, e1, e2 => by cases e1; cases e2; exact h
  | _, _, j + 1, _, _, .cons _ r, e1, e2 => r.at j e1 e2
theorem D.depths_at : ∀ {ds : List D} (j : Nat) {d : D}, ds[j]? = some d → D.depth d ≤ D.depths ds
  | x :: xs, 0, _, e => by cases e; exact Nat.le_max_left _ _
  | x :: xs, j + 1, _, e => Nat.le_trans (D.depths_at (ds := xs) j e) (Nat.le_max_right _ _)
theorem D.eqs_all : ∀ (xs ys : List D), D.eqs xs ys = ((List.range (min xs.length ys.length)).all (fun j => D.eq (xs.getD j .non) (ys.getD j .non)) && xs.length == ys.length)
  | [], [] => rfl
  | [], _ :: _ => rfl
  | _ :: _, [] => rfl
  | x :: xs, y :: ys => by
    rw [D.eqs, D.eqs_all xs ys, List.length_cons, List.length_cons, Nat.succ_min_succ, List.range_succ_eq_map, List.all_cons, List.all_map]
    have e : (xs.length + 1 == ys.length + 1) = (xs.length == ys.length) := by
      rw [Bool.eq_iff_iff]; simp
    rw [e, Bool.and_assoc]
    rfl
section
variable {X : Cx} {pins : List (Addr × Obj)} {σ : St} {H : Hp} {s : Shared}
theorem seq_not {a : Addr} {xs ys : List V} (I : Inv X pins σ H s) (h1 : SqT X.K H a xs) (h2 : SqL X.K H a ys) : False := by
  obtain ⟨_, _, ⟨o, e, c, _⟩, _⟩ := I.tuple h1
  obtain ⟨_, _, ⟨o', n', e', c', _, d'⟩, _⟩ := I.list h2
  rw [e] at e'; cases e'
  rw [c] at c'
  injection c' with q
  exact absurd q (by decide)
mutual
theorem Den.inj (I : Inv X pins σ H s) : ∀ {v : V} {d e : D}, Den X.K H v d → Den X.K H v e → d = e
  | _, _, _, .non, h => by cases h; rfl
  | _, _, _, .bl b, h => by cases h; rfl
  | _, _, _, .int i, h => by cases h; rfl
  | _, _, _, .str x, h => by cases h; rfl
  | _, _, _, .tup e r, h => by
    cases h with
    | tup e' r' => cases I.tuple_inj e e'; rw [Dens.inj I r r']
    | lst e' r' => exact (seq_not I e e').elim
  | _, _, _, .lst e r, h => by
    cases h with
    | lst e' r' => cases I.list_inj e e'; rw [Dens.inj I r r']
    | tup e' r' => exact (seq_not I e' e).elim
theorem Dens.inj (I : Inv X pins σ H s) : ∀ {v : List V} {d e : List D}, Dens X.K H v d → Dens X.K H v e → d = e
  | _, _, _, .nil, h => by cases h; rfl
  | _, _, _, .cons a r, h => by
    cases h with
    | cons a' r' => rw [Den.inj I a a', Dens.inj I r r']
end
theorem eqAt_flat (I : Inv X pins σ H s) {A : Around} {x y : V} {d e : D} {u v : Value} (hu : A.units < cLine) (hf : flatV x = true) (hd : Den X.K H x d) (he : Den X.K H y e) (ru : RelV x u) (rv : RelV y v) : SeqAt.EqAt A s u v (D.eq d e) := by
  cases hd with
  | tup => cases hf
  | lst => cases hf
  | non  =>
    cases he with
    | tup q r => cases ru; cases rv; rw [D.eq.eq_def]; obtain ⟨_, _, p, _⟩ := I.tuple q; exact .none_tuple p hu
    | lst q r => cases ru; cases rv; rw [D.eq.eq_def]; obtain ⟨_, _, p, _⟩ := I.list q; exact .none_list p.isList hu
    | non  => exact eqAt_V ru rv rfl rfl
    | bl b1 => exact eqAt_V ru rv rfl rfl
    | int i1 => exact eqAt_V ru rv rfl rfl
    | str x1 => exact eqAt_V ru rv rfl rfl
  | bl b0 =>
    cases he with
    | tup q r => cases ru; cases rv; rw [D.eq.eq_def]; obtain ⟨_, _, p, _⟩ := I.tuple q; exact .bool_tuple _ p hu
    | lst q r => cases ru; cases rv; rw [D.eq.eq_def]; obtain ⟨_, _, p, _⟩ := I.list q; exact .bool_list _ p.isList hu
    | non  => exact eqAt_V ru rv rfl rfl
    | bl b1 => exact eqAt_V ru rv rfl rfl
    | int i1 => exact eqAt_V ru rv rfl rfl
    | str x1 => exact eqAt_V ru rv rfl rfl
  | int i0 =>
    cases he with
    | tup q r => obtain ⟨_, rfl⟩ := ru; cases rv; rw [D.eq.eq_def]; obtain ⟨_, _, p, _⟩ := I.tuple q; exact .int_tuple _ _ p hu
    | lst q r => obtain ⟨_, rfl⟩ := ru; cases rv; rw [D.eq.eq_def]; obtain ⟨_, _, p, _⟩ := I.list q; exact .int_list _ _ p.isList hu
    | non  => exact eqAt_V ru rv rfl rfl
    | bl b1 => exact eqAt_V ru rv rfl rfl
    | int i1 => exact eqAt_V ru rv rfl rfl
    | str x1 => exact eqAt_V ru rv rfl rfl
  | str x0 =>
    cases he with
    | tup q r => obtain ⟨_, rfl⟩ := ru; cases rv; rw [D.eq.eq_def]; obtain ⟨_, _, p, _⟩ := I.tuple q; exact .str_tuple _ _ p hu
    | lst q r => obtain ⟨_, rfl⟩ := ru; cases rv; rw [D.eq.eq_def]; obtain ⟨_, _, p, _⟩ := I.list q; exact .str_list _ _ p.isList hu
    | non  => exact eqAt_V ru rv rfl rfl
    | bl b1 => exact eqAt_V ru rv rfl rfl
    | int i1 => exact eqAt_V ru rv rfl rfl
    | str x1 => exact eqAt_V ru rv rfl rfl
theorem Vals.getA {xs : List V} {us : List Value} (r : Vals xs us) {j : Nat} (hj : j < us.toArray.size) : ∃ x, xs[j]? = some x ∧ RelV x us.toArray[j] := by
  have hl := r.length
  have hj' : j < us.length := by simpa using hj
  have hx : j < xs.length := by omega
  obtain ⟨u, e, ru⟩ := r.get (List.getElem?_eq_getElem hx)
  rw [List.getElem?_eq_getElem hj'] at e
  cases e
  exact ⟨xs[j], List.getElem?_eq_getElem hx, by simpa using ru⟩
theorem Dens.getD {K : PySem.W.Frag} {H : Hp} {xs : List V} {ds : List D} (r : Dens K H xs ds) {j : Nat} {x : V} (e : xs[j]? = some x) : Den K H x (ds.getD j .non) ∧ D.depth (ds.getD j .non) ≤ D.depths ds := by
  have hj : j < ds.length := by rw [← r.len]; exact (List.getElem?_eq_some_iff.mp e).1
  have e2 : ds[j]? = some ds[j] := List.getElem?_eq_getElem hj
  have e3 : ds.getD j .non = ds[j] := by rw [List.getD_eq_getElem?_getD, e2]; rfl
  rw [e3]
  exact ⟨r.at j e e2, D.depths_at j e2⟩
theorem eqs_of (I : Inv X pins σ H s) {n : Nat} (ih : ∀ {A : Around} {x y : V} {d e : D} {u v : Value}, A.units + n < cLine → D.depth d ≤ n → Den X.K H x d → Den X.K H y e → RelV x u → RelV y v → SeqAt.EqAt A s u v (D.eq d e))
    {A : Around} (hu : A.units + (n + 1) < cLine) {xs ys : List V} {ds es : List D} {us vs : List Value} (hn : D.depths ds ≤ n) (r : Dens X.K H xs ds) (q : Dens X.K H ys es) (ru : Vals xs us) (rv : Vals ys vs) :
    ∀ j (h1 : j < us.toArray.size) (h2 : j < vs.toArray.size), SeqAt.EqAt A.in1 s us.toArray[j] vs.toArray[j] (D.eq (ds.getD j .non) (es.getD j .non)) := fun j h1 h2 => by
  obtain ⟨x, ex, rx⟩ := ru.getA h1
  obtain ⟨y, ey, ry⟩ := rv.getA h2
  obtain ⟨d1, d2⟩ := r.getD ex
  exact ih (by show A.units + 1 + n < cLine; omega) (Nat.le_trans d2 hn) d1 (q.getD ey).1 rx ry
theorem eqAt_den (I : Inv X pins σ H s) : ∀ (n : Nat) {A : Around} {x y : V} {d e : D} {u v : Value}, A.units + n < cLine → D.depth d ≤ n → Den X.K H x d → Den X.K H y e → RelV x u → RelV y v → SeqAt.EqAt A s u v (D.eq d e) := by
  intro n
  induction n with
  | zero =>
    intro A x y d e u v hu hn hd he ru rv
    cases id hd with
    | tup => simp [D.depth] at hn
    | lst => simp [D.depth] at hn
    | _ => exact eqAt_flat I hu rfl hd he ru rv
  | succ n ih =>
    intro A x y d e u v hu hn hd he ru rv
    have hu0 : A.units < cLine := by omega
    cases id hd with
    | @tup a xs ds ea r =>
      cases ru
      obtain ⟨us, rus, p, _⟩ := I.tuple ea
      cases id he with
      | @tup b ys es eb r2 =>
        cases rv
        obtain ⟨vs, rvs, p2, _⟩ := I.tuple eb
        by_cases hab : a = b
        · subst hab
          rw [hd.inj I he, D.eq_refl]
          exact .same _
        · refine .of_refs hab ?_
          rw [D.eq.eq_def]
          simp only []
          rw [D.eqs_all]
          have l1 : us.toArray.size = ds.length := by rw [List.size_toArray, ← rus.length, r.len]
          have l2 : vs.toArray.size = es.length := by rw [List.size_toArray, ← rvs.length, r2.len]
          rw [← l1, ← l2]
          exact .tuples p p2 hu0 (eqs_of I ih hu (by rw [D.depth] at hn; omega) r r2 rus rvs)
      | @lst b ys es eb r2 =>
        cases rv
        obtain ⟨vs, rvs, p2, _⟩ := I.list eb
        rw [D.eq.eq_def]
        exact .tuple_list p p2.isList hu0
      | non  => cases rv; rw [D.eq.eq_def]; exact .tuple_none p hu0
      | bl b0 => cases rv; rw [D.eq.eq_def]; exact .tuple_bool _ p hu0
      | int i0 => obtain ⟨_, rfl⟩ := rv; rw [D.eq.eq_def]; exact .tuple_int _ _ p hu0
      | str x0 => obtain ⟨_, rfl⟩ := rv; rw [D.eq.eq_def]; exact .tuple_str _ _ p hu0
    | @lst a xs ds ea r =>
      cases ru
      obtain ⟨us, rus, p, _⟩ := I.list ea
      cases id he with
      | @lst b ys es eb r2 =>
        cases rv
        obtain ⟨vs, rvs, p2, _⟩ := I.list eb
        by_cases hab : a = b
        · subst hab
          rw [hd.inj I he, D.eq_refl]
          exact .same _
        · refine .of_refs hab ?_
          rw [D.eq.eq_def]
          simp only []
          rw [D.eqs_all]
          have l1 : us.toArray.size = ds.length := by rw [List.size_toArray, ← rus.length, r.len]
          have l2 : vs.toArray.size = es.length := by rw [List.size_toArray, ← rvs.length, r2.len]
          rw [← l1, ← l2]
          by_cases hl : us.toArray.size = vs.toArray.size
          · have e1 : (us.toArray.size == vs.toArray.size) = true := beq_iff_eq.mpr hl
            rw [e1, Bool.and_true, ← hl, Nat.min_self]
            exact .lists p.isList p2.isList hl hu0 (eqs_of I ih hu (by rw [D.depth] at hn; omega) r r2 rus rvs)
          · have e1 : (us.toArray.size == vs.toArray.size) = false := beq_eq_false_iff_ne.mpr hl
            rw [e1, Bool.and_false]
            exact .lists_lengths p.isList p2.isList (by simpa using hl) hu0
      | @tup b ys es eb r2 =>
        cases rv
        obtain ⟨vs, rvs, p2, _⟩ := I.tuple eb
        rw [D.eq.eq_def]
        exact .list_tuple p.isList p2 hu0
      | non  => cases rv; rw [D.eq.eq_def]; exact .list_none p.isList hu0
      | bl b0 => cases rv; rw [D.eq.eq_def]; exact .list_bool _ p.isList hu0
      | int i0 => obtain ⟨_, rfl⟩ := rv; rw [D.eq.eq_def]; exact .list_int _ _ p.isList hu0
      | str x0 => obtain ⟨_, rfl⟩ := rv; rw [D.eq.eq_def]; exact .list_str _ _ p.isList hu0
    | _ => exact eqAt_flat I hu0 rfl hd he ru rv
end
end L2
namespace L2
open PySem PySem.Spec PyProof.Rows
section
variable {X : Cx} {pins : List (Addr × Obj)} {σ : St} {H : Hp} {s : Shared}
theorem rcAt_den (I : Inv X pins σ H s) {n : Nat} {A : Around} {x y : V} {d e : D} {u v : Value} (hu : A.units + n < cLine) (hn : D.depth d ≤ n) (hd : Den X.K H x d) (he : Den X.K H y e) (ru : RelV x u) (rv : RelV y v) : SeqAt.RcAt A s u v (D.eq d e) := by
  have hu0 : A.units < cLine := by omega
  cases id hd with
  | non  =>
    cases ru
    cases id he with
    | non  => cases rv; rw [D.eq.eq_def]; exact .none_none
    | bl y1 => cases rv; rw [D.eq.eq_def]; exact .none_bool _
    | int y1 => obtain ⟨_, rfl⟩ := rv; rw [D.eq.eq_def]; exact .none_int _ _
    | str y1 => obtain ⟨_, rfl⟩ := rv; rw [D.eq.eq_def]; exact .none_str _ _
    | @tup b ys es eb r2 => cases rv; rw [D.eq.eq_def]; obtain ⟨_, _, p2, _⟩ := I.tuple eb; exact .none_tuple p2 hu0
    | @lst b ys es eb r2 => cases rv; rw [D.eq.eq_def]; obtain ⟨_, _, p2, _⟩ := I.list eb; exact .none_list p2.isList hu0
  | bl x1 =>
    cases ru
    cases id he with
    | non  => cases rv; rw [D.eq.eq_def]; exact .bool_none _
    | bl y1 => cases rv; rw [D.eq.eq_def]; exact .bool_bool _ _
    | int y1 => obtain ⟨_, rfl⟩ := rv; rw [D.eq.eq_def]; exact .bool_int _ _ _
    | str y1 => obtain ⟨_, rfl⟩ := rv; rw [D.eq.eq_def]; exact .bool_str _ _ _
    | @tup b ys es eb r2 => cases rv; rw [D.eq.eq_def]; obtain ⟨_, _, p2, _⟩ := I.tuple eb; exact .bool_tuple _ p2 hu0
    | @lst b ys es eb r2 => cases rv; rw [D.eq.eq_def]; obtain ⟨_, _, p2, _⟩ := I.list eb; exact .bool_list _ p2.isList hu0
  | int x1 =>
    obtain ⟨_, rfl⟩ := ru
    cases id he with
    | non  => cases rv; rw [D.eq.eq_def]; exact .int_none _ _
    | bl y1 => cases rv; rw [D.eq.eq_def]; exact .int_bool _ _ _
    | int y1 => obtain ⟨_, rfl⟩ := rv; rw [D.eq.eq_def]; exact .int_int _ _ _ _
    | str y1 => obtain ⟨_, rfl⟩ := rv; rw [D.eq.eq_def]; exact .int_str _ _ _ _
    | @tup b ys es eb r2 => cases rv; rw [D.eq.eq_def]; obtain ⟨_, _, p2, _⟩ := I.tuple eb; exact .int_tuple _ _ p2 hu0
    | @lst b ys es eb r2 => cases rv; rw [D.eq.eq_def]; obtain ⟨_, _, p2, _⟩ := I.list eb; exact .int_list _ _ p2.isList hu0
  | str x1 =>
    obtain ⟨_, rfl⟩ := ru
    cases id he with
    | non  => cases rv; rw [D.eq.eq_def]; exact .str_none _ _
    | bl y1 => cases rv; rw [D.eq.eq_def]; exact .str_bool _ _ _
    | int y1 => obtain ⟨_, rfl⟩ := rv; rw [D.eq.eq_def]; exact .str_int _ _ _ _
    | str y1 => obtain ⟨_, rfl⟩ := rv; rw [D.eq.eq_def]; exact .str_str _ _ _ _
    | @tup b ys es eb r2 => cases rv; rw [D.eq.eq_def]; obtain ⟨_, _, p2, _⟩ := I.tuple eb; exact .str_tuple _ _ p2 hu0
    | @lst b ys es eb r2 => cases rv; rw [D.eq.eq_def]; obtain ⟨_, _, p2, _⟩ := I.list eb; exact .str_list _ _ p2.isList hu0
  | @tup a xs ds ea r =>
    cases ru
    obtain ⟨us, rus, p, _⟩ := I.tuple ea
    cases id he with
    | non  => cases rv; rw [D.eq.eq_def]; exact .tuple_none p hu0
    | bl y1 => cases rv; rw [D.eq.eq_def]; exact .tuple_bool _ p hu0
    | int y1 => obtain ⟨_, rfl⟩ := rv; rw [D.eq.eq_def]; exact .tuple_int _ _ p hu0
    | str y1 => obtain ⟨_, rfl⟩ := rv; rw [D.eq.eq_def]; exact .tuple_str _ _ p hu0
    | @tup b ys es eb r2 =>
      cases rv
      obtain ⟨vs, rvs, p2, _⟩ := I.tuple eb
      rw [D.depth] at hn
      obtain ⟨n, rfl⟩ : ∃ m, n = m + 1 := ⟨n - 1, by omega⟩
      rw [D.eq.eq_def]
      simp only []
      rw [D.eqs_all]
      have l1 : us.toArray.size = ds.length := by rw [List.size_toArray, ← rus.length, r.len]
      have l2 : vs.toArray.size = es.length := by rw [List.size_toArray, ← rvs.length, r2.len]
      rw [← l1, ← l2]
      exact .tuples p p2 hu0 (eqs_of I (eqAt_den I n) hu (by omega) r r2 rus rvs)
    | @lst b ys es eb r2 => cases rv; rw [D.eq.eq_def]; obtain ⟨_, _, p2, _⟩ := I.list eb; exact .tuple_list p p2.isList hu0
  | @lst a xs ds ea r =>
    cases ru
    obtain ⟨us, rus, p, _⟩ := I.list ea
    cases id he with
    | non  => cases rv; rw [D.eq.eq_def]; exact .list_none p.isList hu0
    | bl y1 => cases rv; rw [D.eq.eq_def]; exact .list_bool _ p.isList hu0
    | int y1 => obtain ⟨_, rfl⟩ := rv; rw [D.eq.eq_def]; exact .list_int _ _ p.isList hu0
    | str y1 => obtain ⟨_, rfl⟩ := rv; rw [D.eq.eq_def]; exact .list_str _ _ p.isList hu0
    | @tup b ys es eb r2 => cases rv; rw [D.eq.eq_def]; obtain ⟨_, _, p2, _⟩ := I.tuple eb; exact .list_tuple p.isList p2 hu0
    | @lst b ys es eb r2 =>
      cases rv
      obtain ⟨vs, rvs, p2, _⟩ := I.list eb
      rw [D.depth] at hn
      obtain ⟨n, rfl⟩ : ∃ m, n = m + 1 := ⟨n - 1, by omega⟩
      rw [D.eq.eq_def]
      simp only []
      rw [D.eqs_all]
      have l1 : us.toArray.size = ds.length := by rw [List.size_toArray, ← rus.length, r.len]
      have l2 : vs.toArray.size = es.length := by rw [List.size_toArray, ← rvs.length, r2.len]
      rw [← l1, ← l2]
      by_cases hl : us.toArray.size = vs.toArray.size
      · have e1 : (us.toArray.size == vs.toArray.size) = true := beq_iff_eq.mpr hl
        rw [e1, Bool.and_true, ← hl, Nat.min_self]
        exact .lists p.isList p2.isList hl hu0 (eqs_of I (eqAt_den I n) hu (by omega) r r2 rus rvs)
      · have e1 : (us.toArray.size == vs.toArray.size) = false := beq_eq_false_iff_ne.mpr hl
        rw [e1, Bool.and_false]
        exact .lists_lengths p.isList p2.isList (by simpa using hl) hu0
theorem rcNeAt_den (I : Inv X pins σ H s) {n : Nat} {A : Around} {x y : V} {d e : D} {u v : Value} (hu : A.units + n < cLine) (hn : D.depth d ≤ n) (hd : Den X.K H x d) (he : Den X.K H y e) (ru : RelV x u) (rv : RelV y v) : SeqAt.RcNeAt A s u v (!D.eq d e) := by
  have hu0 : A.units < cLine := by omega
  cases id hd with
  | non  =>
    cases ru
    cases id he with
    | non  => cases rv; rw [D.eq.eq_def]; exact .none_none
    | bl y1 => cases rv; rw [D.eq.eq_def]; exact .none_bool _
    | int y1 => obtain ⟨_, rfl⟩ := rv; rw [D.eq.eq_def]; exact .none_int _ _
    | str y1 => obtain ⟨_, rfl⟩ := rv; rw [D.eq.eq_def]; exact .none_str _ _
    | @tup b ys es eb r2 => cases rv; rw [D.eq.eq_def]; obtain ⟨_, _, p2, _⟩ := I.tuple eb; exact .none_tuple p2 hu0
    | @lst b ys es eb r2 => cases rv; rw [D.eq.eq_def]; obtain ⟨_, _, p2, _⟩ := I.list eb; exact .none_list p2.isList hu0
  | bl x1 =>
    cases ru
    cases id he with
    | non  => cases rv; rw [D.eq.eq_def]; exact .bool_none _
    | bl y1 => cases rv; rw [D.eq.eq_def]; exact .bool_bool _ _
    | int y1 => obtain ⟨_, rfl⟩ := rv; rw [D.eq.eq_def]; exact .bool_int _ _ _
    | str y1 => obtain ⟨_, rfl⟩ := rv; rw [D.eq.eq_def]; exact .bool_str _ _ _
    | @tup b ys es eb r2 => cases rv; rw [D.eq.eq_def]; obtain ⟨_, _, p2, _⟩ := I.tuple eb; exact .bool_tuple _ p2 hu0
    | @lst b ys es eb r2 => cases rv; rw [D.eq.eq_def]; obtain ⟨_, _, p2, _⟩ := I.list eb; exact .bool_list _ p2.isList hu0
  | int x1 =>
    obtain ⟨_, rfl⟩ := ru
    cases id he with
    | non  => cases rv; rw [D.eq.eq_def]; exact .int_none _ _
    | bl y1 => cases rv; rw [D.eq.eq_def]; exact .int_bool _ _ _
    | int y1 => obtain ⟨_, rfl⟩ := rv; rw [D.eq.eq_def]; exact .int_int _ _ _ _
    | str y1 => obtain ⟨_, rfl⟩ := rv; rw [D.eq.eq_def]; exact .int_str _ _ _ _
    | @tup b ys es eb r2 => cases rv; rw [D.eq.eq_def]; obtain ⟨_, _, p2, _⟩ := I.tuple eb; exact .int_tuple _ _ p2 hu0
    | @lst b ys es eb r2 => cases rv; rw [D.eq.eq_def]; obtain ⟨_, _, p2, _⟩ := I.list eb; exact .int_list _ _ p2.isList hu0
  | str x1 =>
    obtain ⟨_, rfl⟩ := ru
    cases id he with
    | non  => cases rv; rw [D.eq.eq_def]; exact .str_none _ _
    | bl y1 => cases rv; rw [D.eq.eq_def]; exact .str_bool _ _ _
    | int y1 => obtain ⟨_, rfl⟩ := rv; rw [D.eq.eq_def]; exact .str_int _ _ _ _
    | str y1 => obtain ⟨_, rfl⟩ := rv; rw [D.eq.eq_def]; exact .str_str _ _ _ _
    | @tup b ys es eb r2 => cases rv; rw [D.eq.eq_def]; obtain ⟨_, _, p2, _⟩ := I.tuple eb; exact .str_tuple _ _ p2 hu0
    | @lst b ys es eb r2 => cases rv; rw [D.eq.eq_def]; obtain ⟨_, _, p2, _⟩ := I.list eb; exact .str_list _ _ p2.isList hu0
  | @tup a xs ds ea r =>
    cases ru
    obtain ⟨us, rus, p, _⟩ := I.tuple ea
    cases id he with
    | non  => cases rv; rw [D.eq.eq_def]; exact .tuple_none p hu0
    | bl y1 => cases rv; rw [D.eq.eq_def]; exact .tuple_bool _ p hu0
    | int y1 => obtain ⟨_, rfl⟩ := rv; rw [D.eq.eq_def]; exact .tuple_int _ _ p hu0
    | str y1 => obtain ⟨_, rfl⟩ := rv; rw [D.eq.eq_def]; exact .tuple_str _ _ p hu0
    | @tup b ys es eb r2 =>
      cases rv
      obtain ⟨vs, rvs, p2, _⟩ := I.tuple eb
      rw [D.depth] at hn
      obtain ⟨n, rfl⟩ : ∃ m, n = m + 1 := ⟨n - 1, by omega⟩
      rw [D.eq.eq_def]
      simp only []
      rw [D.eqs_all]
      have l1 : us.toArray.size = ds.length := by rw [List.size_toArray, ← rus.length, r.len]
      have l2 : vs.toArray.size = es.length := by rw [List.size_toArray, ← rvs.length, r2.len]
      rw [← l1, ← l2]
      exact .tuples p p2 hu0 (eqs_of I (eqAt_den I n) hu (by omega) r r2 rus rvs)
    | @lst b ys es eb r2 => cases rv; rw [D.eq.eq_def]; obtain ⟨_, _, p2, _⟩ := I.list eb; exact .tuple_list p p2.isList hu0
  | @lst a xs ds ea r =>
    cases ru
    obtain ⟨us, rus, p, _⟩ := I.list ea
    cases id he with
    | non  => cases rv; rw [D.eq.eq_def]; exact .list_none p.isList hu0
    | bl y1 => cases rv; rw [D.eq.eq_def]; exact .list_bool _ p.isList hu0
    | int y1 => obtain ⟨_, rfl⟩ := rv; rw [D.eq.eq_def]; exact .list_int _ _ p.isList hu0
    | str y1 => obtain ⟨_, rfl⟩ := rv; rw [D.eq.eq_def]; exact .list_str _ _ p.isList hu0
    | @tup b ys es eb r2 => cases rv; rw [D.eq.eq_def]; obtain ⟨_, _, p2, _⟩ := I.tuple eb; exact .list_tuple p.isList p2 hu0
    | @lst b ys es eb r2 =>
      cases rv
      obtain ⟨vs, rvs, p2, _⟩ := I.list eb
      rw [D.depth] at hn
      obtain ⟨n, rfl⟩ : ∃ m, n = m + 1 := ⟨n - 1, by omega⟩
      rw [D.eq.eq_def]
      simp only []
      rw [D.eqs_all]
      have l1 : us.toArray.size = ds.length := by rw [List.size_toArray, ← rus.length, r.len]
      have l2 : vs.toArray.size = es.length := by rw [List.size_toArray, ← rvs.length, r2.len]
      rw [← l1, ← l2]
      by_cases hl : us.toArray.size = vs.toArray.size
      · have e1 : (us.toArray.size == vs.toArray.size) = true := beq_iff_eq.mpr hl
        rw [e1, Bool.and_true, ← hl, Nat.min_self]
        exact .lists p.isList p2.isList hl hu0 (eqs_of I (eqAt_den I n) hu (by omega) r r2 rus rvs)
      · have e1 : (us.toArray.size == vs.toArray.size) = false := beq_eq_false_iff_ne.mpr hl
        rw [e1, Bool.and_false]
        exact .lists_lengths p.isList p2.isList (by simpa using hl) hu0
def rEqD (K : PySem.W.Frag) : R2 := fun x y H Q => ∃ d e, Den K H x d ∧ Den K H y e ∧ D.depth d ≤ 40 ∧ Q (.bl (D.eq d e)) H
def rNeD (K : PySem.W.Frag) : R2 := fun x y H Q => ∃ d e, Den K H x d ∧ Den K H y e ∧ D.depth d ≤ 40 ∧ Q (.bl (!D.eq d e)) H
theorem op_eqD (hu : X.A.units + 64 < cLine) : OpR X (compareOp .Eq) (rEqD X.K) := by
  intro pins s σ H x y v u Q I rx ry h
  obtain ⟨d, e, hd, he, dp, q⟩ := h
  exact rcAt_den I (n := 64) hu (by omega) hd he rx ry _ _ _ _ ⟨.bl _, H, I, rfl, q⟩
theorem op_neD (hu : X.A.units + 64 < cLine) : OpR X (compareOp .NotEq) (rNeD X.K) := by
  intro pins s σ H x y v u Q I rx ry h
  obtain ⟨d, e, hd, he, dp, q⟩ := h
  exact rcNeAt_den I (n := 64) hu (by omega) hd he rx ry _ _ _ _ ⟨.bl _, H, I, rfl, q⟩
end
end L2
namespace L2
open PySem PySem.Spec PyProof.Rows
theorem bt_len : bootBuiltins "len" = some (.builtin "len") := by decide +kernel
theorem bt_abs : bootBuiltins "abs" = some (.builtin "abs") := by decide +kernel
theorem bt_max : bootBuiltins "max" = some (.builtin "max") := by decide +kernel
theorem bt_min : bootBuiltins "min" = some (.builtin "min") := by decide +kernel
theorem bt_sorted : bootBuiltins "sorted" = some (.builtin "sorted") := by decide +kernel
theorem bt_int : bootBuiltins "int" = some (.type "int") := by decide +kernel
theorem bt_tuple : bootBuiltins "tuple" = some (.type "tuple") := by decide +kernel
theorem bt_list : bootBuiltins "list" = some (.type "list") := by decide +kernel
theorem pass0E {P : Program} {w : World} {X : Cx} : Passes (CXE P w) X E0 := fun _ _ _ _ _ _ _ ⟨_, _, _, _, _, z⟩ => z.elim
structure FunD (K : PySem.W.Frag) (x qual : Str) (st : Stmt) (f : Addr) (fd : FuncData) (dV : Value) : Prop where
  ex : ∃ (oc : Value) (od : Option Addr) (kV doc pm : Value) (an : Option Addr) (cdv ct : Value) (osl : Array (Option Value)),
    fd = PySem.W.fnOf x qual (defArgs st) (defBody st) (defScope st) dV kV doc pm an cdv ct ∧ K.lookup f = some ⟨oc, od, .func fd, osl⟩ ∧ PySem.W.codeIn K cdv qual = true
  kp : PySem.W.keepIn K (.ref f) = true
section
variable {P : Program} {w : World} {K : PySem.W.Frag} {mg : Str → Option Value} {base : Heap} {dV : Value}
theorem FunD.ok {x qual : Str} {st : Stmt} {f : Addr} {fd : FuncData} {N ps : List Str} {k : Nat} {sp : Sp} (F : FunD K x qual st f fd dV) (S : FnScope N ps (defScope st)) (len : ∀ vs H Q E, sp vs H Q E → vs.length = ps.length)
    (hbody : ∀ (cdv : Value) (A : Around) (outer : List Env) (s : Shared) (H : Hp) (vs : List V) (Q : VK) (E : XK), Room k (A.deeper (envOfC qual (defScope st) s.heap.objs.size f cdv)) → sp vs H Q E →
      ∃ t, PSs (cxOf (CXE P w) P w K mg base N qual (defScope st) f cdv A outer s H E) (defBody st) t ∧ t { nx := fun _ H' => Q .non H', rt := Q } (start N vs) H) : FnOk P w K mg base (CXE P w) (k + 1) f fd ps sp := by
  obtain ⟨oc, od, kV, doc, pm, an, cdv, ct, osl, rfl, lk, hcd⟩ := F.ex
  exact fn_of lk hcd S len fun A outer s H vs Q E hr hsp => hbody cdv A outer s H vs Q E hr hsp
theorem FunD.binds {x qual : Str} {st : Stmt} {f : Addr} {fd : FuncData} {ps : List Str} (F : FunD K x qual st f fd dV)
    (h : ∀ (kV doc pm : Value) (an : Option Addr) (cdv ct : Value) (us : List Value), us.length = ps.length → bindArgs (PySem.W.fnOf x qual (defArgs st) (defBody st) (defScope st) dV kV doc pm an cdv ct) ⟨us, []⟩ = pure (ps.zip us)) : Binds K fd ps [] := by
  obtain ⟨oc, od, kV, doc, pm, an, cdv, ct, osl, rfl, lk, hcd⟩ := F.ex
  exact Binds.all fun us hl => h kV doc pm an cdv ct us hl
theorem fund_mk {x qual : Str} {st : Stmt} {f : Addr} {oc : Value} {od an : Option Addr} {osl : Array (Option Value)} {kV doc pm cdv ct : Value}
    (l : K.lookup f = some ⟨oc, od, .func (PySem.W.fnOf x qual (defArgs st) (defBody st) (defScope st) dV kV doc pm an cdv ct), osl⟩) (c : PySem.W.codeIn K cdv qual = true) (k : PySem.W.keepIn K (.ref f) = true) :
    FunD K x qual st f (PySem.W.fnOf x qual (defArgs st) (defBody st) (defScope st) dV kV doc pm an cdv ct) dV := ⟨⟨_, _, _, _, _, _, _, _, _, rfl, l, c⟩, k⟩
end
end L2
namespace L2
open PySem PySem.Spec PyProof.Rows
section
variable {K : PySem.W.Frag} {D : Ends} {σ : St} {H : Hp} {Q : VK} {QT : Bool → Hp → Prop} {QA : List V → Hp → Prop} {QS : St → Hp → Prop} {E : XK} {EX : XS} {ta tb tc te : TE} {tt tu : TT} {t u : TS} {tA tr : TA} {tx : TX} {g : TG} {gs : TGs} {i j n : Nat} {v x y : V} {vs : List V} {r r' : R2} {C : Addr} {sp : Sp} {dvs : List V}
def ForB (J : It) (g : TG) (tb : TS) (D : Ends) (σ : St) (H : Hp) : Prop := ∃ W : Nat → Nat → St → Hp → Prop, (∃ m, W 0 m σ H) ∧ ∀ i m σ H, W i m σ H →
  (J.stop i H ∧ D.nx σ H) ∨ (J.go i H ∧ ∃ N : St → Hp → Prop, (∀ σ' H', N σ' H' → ∃ m', m' < m ∧ W (i + 1) m' σ' H') ∧ ∀ x H', J.yld i H x H' → g x σ H' fun σ2 H2 => tb { D with nx := N, ct := N, bk := D.nx } σ2 H2)
end
end L2
namespace L2
open PySem PySem.Spec PyProof.Rows
@[irreducible] def QS (X : Cx) (s : Stmt) (t : TS) : Prop := PS X s t
@[irreducible] def QT (X : Cx) (s : Expr) (t : TT) : Prop := PT X s t
@[irreducible] def QA (X : Cx) (s : List Expr) (t : TA) : Prop := PA X s t
set_option autoImplicit true
set_option relaxedAutoImplicit true
end L2
namespace L2
open PySem PySem.Spec PyProof.Rows
section
variable {prog : Program} {w : World} {A : Around} {R : Result → Shared → Prop} {s : Shared}
theorem compLoop_any {elt target iter : Expr} {ifs : List Expr} {scope : Scope} {pos : Pos} {it acc : Value} {env : Env} (I : Nat → Shared → Prop)
    (turn : ∀ n s, I n s → wpAny (model prog w) A (pyNext it) (fun r s₁ => match r with
      | none => R (.ok .next) s₁
      | some v => wpAny (model prog w) A (letOwnedTupleGo target it v) (fun _ s₁' => wpAny (model prog w) A (assign target env v) (fun _ s₂ =>
          wpAny (model prog w) A (forIn ifs true fun c r => if r = true then do let ok ← isTrue c env (eval c env); pure (ForInStep.yield ok) else pure (ForInStep.yield r)) (fun ok s₃ =>
            if ok = true then wpAny (model prog w) A (eval elt env) (fun x s₄ =>
              wpAny (model prog w) A (call (.builtin "list.append") [acc, x]) (fun _ s₅ => ∃ m, m < n ∧ I m s₅) (fun _ _ => False) s₄) (fun _ _ => False) s₃
            else ∃ m, m < n ∧ I m s₃) (fun _ _ => False) s₂) (fun _ _ => False) s₁') (fun _ _ => False) s₁) (fun _ _ => False) s)
    (n : Nat) (h : I n s) : codeAny (model prog w) A (.compLoop (.ListComp elt [⟨target, iter, ifs, 0⟩] scope pos) 0 it acc env) R s := by
  refine codeAny_loop rfl I (fun n s hI => ?_) n h
  show wpAny _ A ((compTurn (.ListComp elt [⟨target, iter, ifs, 0⟩] scope pos) 0 it acc env).onRaise (fun x => do noteFrame x env; theTreesLotGoes x)) _ _ s
  refine wpAny_noted ?_
  rw [compTurn_list]
  refine wpAny_bind (wpAny_standAt (wpAny_bind (wpAny_mono (turn n s hI) (fun r s₁ h₁ => ?_) fun _ _ h' => h'.elim)))
  cases r with
  | none => exact wpAny_pure h₁
  | some v =>
    refine wpAny_bind (wpAny_mono h₁ (fun _ s₁' h₁' => ?_) fun _ _ h' => h'.elim)
    refine wpAny_bind (wpAny_mono h₁' (fun _ s₂ h₂ => wpAny_bind (wpAny_mono h₂ (fun ok s₃ h₃ => ?_) fun _ _ h' => h'.elim)) fun _ _ h' => h'.elim)
    cases ok with
    | false => exact wpAny_pure ⟨rfl, h₃⟩
    | true =>
      exact wpAny_bind (wpAny_bind (wpAny_mono h₃ (fun x s₄ h₄ => wpAny_bind (wpAny_mono h₄ (fun _ s₅ h₅ => wpAny_pure (wpAny_pure ⟨rfl, h₅⟩)) fun _ _ h' => h'.elim)) fun _ _ h' => h'.elim))
end
theorem forIn_cl {env : Env} {f : Str × NameKind → List (Str × Addr) → Sem (ForInStep (List (Str × Addr)))}
    (hf : ∀ x cs, f x cs = if (x.2 == NameKind.free) = true then (do let c ← cellOf env x.1; pure (ForInStep.yield ((x.1, c) :: cs))) else pure (ForInStep.yield cs)) :
    ∀ (l : List (Str × NameKind)) (cs : List (Str × Addr)), (∀ x ∈ l, x.2 = .free → ∃ c, env.cells.lookup x.1 = some c) →
      ∃ cl, forIn l cs f = (pure cl : Sem _) ∧ (∀ x c, cl.lookup x = some c → cs.lookup x = some c ∨ env.cells.lookup x = some c) ∧
        (∀ x, (∃ c, cs.lookup x = some c) ∨ (x, NameKind.free) ∈ l → ∃ c, cl.lookup x = some c)
  | [], cs, _ => ⟨cs, rfl, fun _ _ h => .inl h, fun x h => h.elim id (fun z => by cases z)⟩
  | (n, k) :: l, cs, h => by
    rw [List.forIn_cons, hf]
    by_cases hk : k = .free
    · subst hk
      obtain ⟨c, hc⟩ := h (n, .free) List.mem_cons_self rfl
      obtain ⟨cl, e, h1, h2⟩ := forIn_cl hf l ((n, c) :: cs) fun x hx => h x (List.mem_cons_of_mem _ hx)
      refine ⟨cl, ?_, fun x c' q => ?_, fun x q => h2 x ?_⟩
      · have e1 : cellOf env n = pure c := by unfold cellOf; rw [hc]
        simp only [beq_self_eq_true, if_true, e1, pure_bind]
        exact e
      · rcases h1 x c' q with z | z
        · rw [List.lookup_cons] at z
          by_cases hx : (x == n) = true
          · rw [hx] at z
            have : x = n := eq_of_beq hx
            subst this
            exact .inr (by rw [hc]; exact z)
          · rw [Bool.eq_false_iff.mpr hx] at z
            exact .inl z
        · exact .inr z
      · rcases q with ⟨c', z⟩ | z
        · left
          rw [List.lookup_cons]
          cases x == n with
          | true => exact ⟨c, rfl⟩
          | false => exact ⟨c', z⟩
        · rcases List.mem_cons.mp z with z | z
          · left
            cases z
            rw [List.lookup_cons, beq_self_eq_true]
            exact ⟨c, rfl⟩
          · exact .inr z
    · obtain ⟨cl, e, h1, h2⟩ := forIn_cl hf l cs fun x hx => h x (List.mem_cons_of_mem _ hx)
      refine ⟨cl, ?_, h1, fun x q => h2 x ?_⟩
      · have e1 : ((n, k).2 == NameKind.free) = false := by
          cases k <;> first | rfl | exact absurd rfl hk
        rw [e1]
        simp only [Bool.false_eq_true, if_false, pure_bind]
        exact e
      · rcases q with z | z
        · exact .inl z
        · rcases List.mem_cons.mp z with z | z
          · cases z; exact absurd rfl hk
          · exact .inr z
theorem closure_of {scope : Scope} {env : Env} (h : ∀ x ∈ scope.names, x.2 = .free → ∃ c, env.cells.lookup x.1 = some c) :
    ∃ cl, closureFor scope env = pure cl ∧ (∀ x c, cl.lookup x = some c → env.cells.lookup x = some c) ∧ (∀ x, (x, NameKind.free) ∈ scope.names → ∃ c, cl.lookup x = some c) := by
  obtain ⟨cl, e, h1, h2⟩ := forIn_cl (env := env) (fun _ _ => rfl) scope.names [] h
  refine ⟨cl, ?_, fun x c q => (h1 x c q).elim (fun z => by cases z) id, fun x q => h2 x (.inr q)⟩
  unfold closureFor
  exact (congrArg (fun z : Sem (List (Str × Addr)) => z >>= fun r => pure r) e).trans (by rw [pure_bind])
section
variable {env : Env}
def relF (env : Env) : Str × NameKind → Str × NameKind := fun (n, k) => if (k == .free && env.scope.kind == .function && env.kindOf n == some .cell) then (n, .cell) else (n, k)
theorem relF_fst (p : Str × NameKind) : (relF env p).1 = p.1 := by
  obtain ⟨n, k⟩ := p
  show (if _ then _ else _ : Str × NameKind).1 = n
  split <;> rfl
theorem relF_snd (p : Str × NameKind) : (relF env p).2 = p.2 ∨ (p.2 = .free ∧ (relF env p).2 = .cell) := by
  obtain ⟨n, k⟩ := p
  show (if _ then _ else _ : Str × NameKind).2 = k ∨ _
  split
  · rename_i h
    right
    rw [Bool.and_eq_true, Bool.and_eq_true] at h
    refine ⟨eq_of_beq h.1.1, ?_⟩
    show (if _ then _ else _ : Str × NameKind).2 = _
    rw [if_pos (by rw [Bool.and_eq_true, Bool.and_eq_true]; exact h)]
  · left; rfl
theorem lookup_relF : ∀ {names : List (Str × NameKind)} {x : Str} {k : NameKind}, names.lookup x = some k → (names.map (relF env)).lookup x = some k ∨ (k = .free ∧ (names.map (relF env)).lookup x = some .cell)
  | [], _, _, h => by cases h
  | p :: r, x, k, h => by
    rw [List.map_cons]
    obtain ⟨n, k0⟩ := p
    have e1 := relF_fst (env := env) (n, k0)
    have e2 := relF_snd (env := env) (n, k0)
    generalize relF env (n, k0) = q at e1 e2 ⊢
    obtain ⟨n', k'⟩ := q
    have e1 : n' = n := e1
    subst e1
    rw [List.lookup_cons] at h ⊢
    cases hx : x == n' with
    | true =>
      rw [hx] at h
      cases h
      rcases e2 with e2 | ⟨e2, e3⟩
      · left; exact congrArg some e2
      · right; exact ⟨e2, congrArg some e3⟩
    | false =>
      rw [hx] at h
      exact lookup_relF h
theorem lookup_relF_of : ∀ {names : List (Str × NameKind)} {x : Str} {k : NameKind}, (names.map (relF env)).lookup x = some k → names.lookup x = some k ∨ (k = .cell ∧ names.lookup x = some .free)
  | [], _, _, h => by cases h
  | p :: r, x, k, h => by
    rw [List.map_cons] at h
    obtain ⟨n, k0⟩ := p
    have e1 := relF_fst (env := env) (n, k0)
    have e2 := relF_snd (env := env) (n, k0)
    generalize relF env (n, k0) = q at e1 e2 h
    obtain ⟨n', k'⟩ := q
    have e1 : n' = n := e1
    subst e1
    rw [List.lookup_cons] at h ⊢
    cases hx : x == n' with
    | true =>
      rw [hx] at h
      cases h
      rcases e2 with e2 | ⟨e2, e3⟩
      · left; exact congrArg some e2.symm
      · right; exact ⟨e3, congrArg some e2⟩
    | false =>
      rw [hx] at h
      exact lookup_relF_of h
theorem rel_local {sc : Scope} {x : Str} (h : sc.names.lookup x = some .local) : (relabel sc env).names.lookup x = some .local := by
  rcases lookup_relF (env := env) h with z | ⟨z, _⟩
  · exact z
  · cases z
theorem rel_glob {sc : Scope} {x : Str} (h : sc.names.lookup x = some .globalImplicit) : (relabel sc env).names.lookup x = some .globalImplicit := by
  rcases lookup_relF (env := env) h with z | ⟨z, _⟩
  · exact z
  · cases z
theorem rel_free {sc : Scope} {x : Str} (h : sc.names.lookup x = some .free) : Vis (relabel sc env) x := by
  rcases lookup_relF (env := env) h with z | ⟨_, z⟩
  · exact .inr (.inr z)
  · exact .inr (.inl z)
end
structure CompSc (N0 N : List Str) (k : Nat) (sc de : Scope) : Prop where
  kind : sc.kind = .function
  cell : ∀ y ∈ sc.names, y.2 ≠ .cell
  names : ∀ y ∈ sc.names, y.2 = .local → sc.names.lookup y.1 = some .local
  len : N.length = N0.length + k
  nd : N.Nodup
  old : ∀ p ∈ (N.take N0.length).zip N0, p.1 = p.2 ∨ sc.names.lookup p.1 = none
  nl : ∀ n ∈ N.take N0.length, sc.names.lookup n ≠ some .local
  fr : ∀ y ∈ sc.names, y.2 = .free → de.names.lookup y.1 = some .cell ∨ de.names.lookup y.1 = some .free
def cxC (X : Cx) (N : List Str) (sc : Scope) (cl : List (Str × Addr)) (C : Addr) (s : Shared) (H : Hp) (ex : List Addr) : Cx where
  prog := X.prog
  w := X.w
  K := X.K
  mg := X.mg
  base := X.base
  A := X.A
  N := N
  s₀ := s
  H₀ := H
  env := compEnvC sc cl C X.env
  outer := X.stack
  stack := X.stack
  ex := ex
  fn := fun _ => false
  calm := X.calm
  pn := []
  xe := fun _ _ => False
theorem mem_of_lookupK {names : List (Str × NameKind)} {x : Str} {k : NameKind} (h : names.lookup x = some k) : (x, k) ∈ names := PySem.mem_of_lookup h
section
variable {X : Cx} {pins : List (Addr × Obj)} {σ : St} {H : Hp} {s : Shared} {N : List Str} {k : Nat} {sc : Scope} {cl : List (Str × Addr)} {C : Addr} {fp : List Addr} {h1 : Heap} {tk : Nat}
theorem inv_comp (I : Inv X pins σ H s) (S : CompSc X.N N k sc X.env.scope) (hcl1 : ∀ x c, cl.lookup x = some c → X.env.cells.lookup x = some c)
    (hcl2 : ∀ x, (x, NameKind.free) ∈ sc.names → ∃ c, cl.lookup x = some c) (hC : s.heap.objs.size ≤ C) (hf : ∀ b ∈ fp, FpOk X pins H b) (hfp : ∀ b ∈ fp, b < s.heap.objs.size)
    (hk : ∀ b o, s.heap.get? b = some o → h1.get? b = some o) (hn : ∃ m, h1.Ns C m) :
    Inv (cxC X N sc cl C s H fp) (X.pn ++ pins) (σ ++ List.replicate k none) H { s with heap := h1, toks := tk } := by
  have oldlt : ∀ b o, s.heap.get? b = some o → b ≠ C := fun b o e => Nat.ne_of_lt (Nat.lt_of_lt_of_le (Heap.lt_size e) hC)
  have kind : ∀ x, ((cxC X N sc cl C s H fp).env.kindOf x = some .cell ∨ (cxC X N sc cl C s H fp).env.kindOf x = some .free) → sc.names.lookup x = some .free := fun x hx => by
    rcases hx with hx | hx
    · rcases lookup_relF_of (env := X.env) hx with z | ⟨_, z⟩
      · exact absurd rfl (S.cell _ (mem_of_lookupK z))
      · exact z
    · rcases lookup_relF_of (env := X.env) hx with z | ⟨z, _⟩
      · exact z
      · cases z
  refine ⟨⟨I.ok.mod, S.kind, I.ok.glob, I.ok.blt, hC, fun x y c h1 h2 => I.ok.inj x y c (hcl1 _ _ h1) (hcl1 _ _ h2), fun x hx => hcl2 x (mem_of_lookupK (kind x hx)), fun x c z _ => absurd (show false = true from z) Bool.false_ne_true,
    I.ok.hd, I.ok.frames, .inl rfl, fun b hb => ⟨Nat.ne_of_lt (Nat.lt_of_lt_of_le (hfp b hb) hC), fun x c e => (hf b hb).2.2.2.2.1 x c (hcl1 _ _ e)⟩, I.bs, Nat.le_trans I.ok.bsz I.sz, fun b o e hb => ?_, fun b hb hb2 => ?_, I.stack, I.stkFree⟩,
    rfl, I.bare, Un.kept hk, ?_, fun x c e => ?_, I.hok.fresh hC, fun x c e => I.freeC x c (hcl1 _ _ e), fun p hp => ?_, I.hok.kept hk, ?_⟩
  · rcases (hf b hb).2.2.2.1 with z | z
    · exact I.ok.noex b o e z
    · exact absurd (Nat.lt_of_lt_of_le (Heap.lt_size e) (Nat.le_trans I.ok.bsz z)) (Nat.lt_irrefl _)
  · rcases List.mem_cons.mp (I.stkSub b hb2) with z | z
    · exact (hf b hb).2.1 z
    · exact (hf b hb).2.2.1 z
  · obtain ⟨m, hn⟩ := hn
    refine ⟨m, hn, fun i x v e1 e2 e3 => ?_⟩
    have hi : i < σ.length := by
      by_cases hi : i < σ.length
      · exact hi
      · rw [List.getElem?_append_right (by omega), List.getElem?_replicate] at e2
        split at e2 <;> cases e2
    rw [List.getElem?_append_left hi] at e2
    have hi0 : i < X.N.length := by rw [← I.len]; exact hi
    have hiN : (N.take X.N.length)[i]? = some x := by rw [List.getElem?_take_of_lt hi0]; exact e1
    have nloc := S.nl x (List.mem_of_getElem? hiN)
    have hfree : sc.names.lookup x = some .free := by
      rcases e3 with z | z | z
      · rcases lookup_relF_of (env := X.env) z with z | ⟨z, _⟩
        · exact absurd z nloc
        · cases z
      · exact kind x (.inl z)
      · exact kind x (.inr z)
    have hX : X.N[i]? = some x := by
      have hz : ((N.take X.N.length).zip X.N)[i]? = some (x, X.N[i]) := by
        rw [List.getElem?_zip_eq_some]
        exact ⟨hiN, List.getElem?_eq_getElem hi0⟩
      rcases S.old _ (List.mem_of_getElem? hz) with z | z
      · have z : x = X.N[i] := z
        rw [List.getElem?_eq_getElem hi0, ← z]
      · have z : sc.names.lookup x = none := z
        rw [hfree] at z; cases z
    obtain ⟨m0, hn0, hl0⟩ := I.loc
    have vis : Vis X.env.scope x := by
      rcases S.fr _ (mem_of_lookupK hfree) rfl with z | z
      · exact .inr (.inl z)
      · exact .inr (.inr z)
    obtain ⟨u, r, l⟩ := hl0 i x v hX e2 vis
    refine ⟨u, r, .inr ⟨?_, ?_⟩⟩
    · rcases rel_free (env := X.env) hfree with z | z | z
      · rcases lookup_relF_of (env := X.env) z with z | ⟨z, _⟩
        · rw [hfree] at z; cases z
        · cases z
      · exact .inl z
      · exact .inr z
    · rcases l with ⟨z, _⟩ | ⟨_, c, ec, ic⟩
      · have z : X.env.scope.names.lookup x = some .local := z
        rcases S.fr _ (mem_of_lookupK hfree) rfl with z2 | z2
        · have z2 : X.env.scope.names.lookup x = some .cell := z2
          rw [z] at z2; cases z2
        · have z2 : X.env.scope.names.lookup x = some .free := z2
          rw [z] at z2; cases z2
      · obtain ⟨c', ec'⟩ := hcl2 x (mem_of_lookupK hfree)
        have := hcl1 _ _ ec'
        rw [ec] at this
        cases this
        obtain ⟨o, ho, hd⟩ := ic
        exact ⟨c, ec', o, hk _ _ ho, hd⟩
  · obtain ⟨v, o, ho, hd⟩ := I.cell x c (hcl1 _ _ e)
    exact ⟨v, o, hk _ _ ho, hd⟩
  · have hp : p ∈ X.pn ++ pins := hp
    obtain ⟨e, n, ne, nf, d⟩ := I.pin p hp
    refine ⟨hk _ _ e, n, oldlt _ _ e, fun hb => ?_, d⟩
    rcases List.mem_cons.mp (I.stkSub _ hb) with z | z
    · exact ne z
    · exact nf z
  · show (σ ++ List.replicate k none).length = N.length
    rw [List.length_append, List.length_replicate, I.len, S.len]
theorem comp_end {H' : Hp} {σ' : St} {s' : Shared} {D : Addr} {ys : List V} {its : List Value} (I : Inv X pins σ H s) (I' : Inv (cxC X N sc cl C s H fp) (X.pn ++ pins) σ' H' s') (hD : s.heap.objs.size ≤ D) (hDn : H' D = none)
    (pl : s'.heap.PlainList D its.toArray) (rv : Vals ys its) (hl : ys.length ≤ sizeLine) (hf : ∀ b ∈ fp, FpOk X pins H b) : Inv X pins σ (upd H' D (.lst ys)) s' := by
  obtain ⟨n, hpl⟩ := pl
  have u := I'.base
  have ne : ∀ b o, s.heap.get? b = some o → b ≠ D := fun b o e => Nat.ne_of_lt (Nat.lt_of_lt_of_le (Heap.lt_size e) hD)
  have nH : ∀ b o, H' b = some o → b ≠ D := fun b o e => ne_of_none e hDn
  refine I.call' I'.os ⟨u.keep, u.slot, fun b o e n nx => ?_, u.there, fun b xs e => ?_, fun b o v e => ?_, fun b ps e => ?_⟩ (fun b o e => ?_) I'.bare (ch := fp) fun b hb => ?_
  · rw [upd_ne (ne b o e)]; exact u.free b o e n nx
  · have := u.tups b xs e
    rw [upd_ne (nH _ _ this)]; exact this
  · have := u.frzs b o v e
    rw [upd_ne (nH _ _ this)]; exact this
  · obtain ⟨more, this⟩ := u.tbls b ps e
    exact ⟨more, by rw [upd_ne (nH _ _ this)]; exact this⟩
  · by_cases hb : b = D
    · subst hb
      rw [upd_same] at e
      cases e
      exact ⟨hl, its, n, rv, hpl⟩
    · rw [upd_ne hb] at e
      exact (I'.hok b o e).stay (fun _ _ _ q => q) (fun c q => by rw [upd_ne (nH _ _ q)]; exact q) fun c xs q => by rw [upd_ne (nH _ _ q)]; exact q
  · obtain ⟨f0, f1, f2, f3, f4, f5⟩ := hf b hb
    exact ⟨f3, f1, f4, f5⟩
end
theorem Inv.nofs_stack {X : Cx} {pins : List (Addr × Obj)} {σ : St} {H : Hp} {s : Shared} (I : Inv X pins σ H s) {a : Addr} (h : s.heap.objs.size ≤ a) : a ∉ frs X.stack := fun hb => by
  rcases List.mem_cons.mp (I.stkSub a hb) with z | z
  · exact absurd (Nat.lt_of_lt_of_le I.lt (by rw [← z]; exact h)) (Nat.lt_irrefl _)
  · exact I.nofs h z
def PF (X : Cx) (ifs : List Expr) (t : TT) : Prop := ∀ (pins : List (Addr × Obj)) (s : Shared) (σ : St) (H : Hp) (Q : Bool → Hp → Prop), Inv X pins σ H s → t σ H Q →
  wpAny (model X.prog X.w) X.A (forIn ifs true fun c r => if r = true then do let ok ← isTrue c X.env (eval c X.env); pure (ForInStep.yield ok) else pure (ForInStep.yield r)) (TP X pins σ Q) X.xe s
def tTrue : TT := fun _ H Q => Q true H
theorem pf_nil {X : Cx} : PF X [] tTrue := fun _ _ _ H _ I h => wpAny_tests_nil ⟨H, I, h⟩
theorem pf_one {X : Cx} {c : Expr} {t : TT} (hc : PT X c t) : PF X [c] t := fun pins s σ H Q I h => wpAny_tests_one (hc pins s σ H Q I h)
def CompB (J : It) (g : TG) (tt : TT) (te : TE) (Q : VK) (σ : St) (H : Hp) : Prop := ∃ W : Nat → Nat → St → List V → Hp → Prop, (∃ m, W 0 m σ [] H) ∧ ∀ i m σ ys H, W i m σ ys H → ys.length ≤ sizeLine ∧
  ((J.stop i H ∧ ∀ r, H r = none → Q (.ref r) (upd H r (.lst ys))) ∨
   (J.go i H ∧ ∃ N : St → List V → Hp → Prop, (∀ σ' ys' H', N σ' ys' H' → ∃ m', m' < m ∧ W (i + 1) m' σ' ys' H') ∧
     ∀ x H', J.yld i H x H' → g x σ H' fun σ2 H2 => tt σ2 H2 fun b H3 => if b = true then te σ2 H3 fun y H4 => N σ2 (ys ++ [y]) H4 else N σ2 ys H3))
def tComp (n : Nat) (wi : TI) (g : TG) (tt : TT) (te : TE) : TE := fun σ H Q => wi σ H fun J H1 => CompB J g tt te Q (σ ++ List.replicate n none) H1
section
variable {X : Cx} {pins : List (Addr × Obj)} {σ : St} {H : Hp} {s : Shared} {N : List Str} {k : Nat} {sc : Scope} {cl : List (Str × Addr)} {C : Addr} {fp : List Addr} {J : It} {it : Addr} {tn : Nat → Heap → Prop}
  {tg elt iter : Expr} {ifs : List Expr} {pos : Pos} {g : TG} {tt : TT} {te : TE} {Q : VK} {E : Value → Shared → Prop} {RR : Value → Addr → Result → Shared → Prop}
theorem comp_block (hc : X.calm = true) (S : CompSc X.N N k sc X.env.scope) (hcl1 : ∀ x c, cl.lookup x = some c → X.env.cells.lookup x = some c)
    (hcl2 : ∀ x, (x, NameKind.free) ∈ sc.names → ∃ c, cl.lookup x = some c) (I : Inv X pins σ H s) (T : Turn X.prog X.w X.K tg J fp it tn) (st : tn 0 s.heap) (hf : ∀ b ∈ fp, FpOk X pins H b)
    (B : CompB J g tt te Q (σ ++ List.replicate k none) H)
    (hg : ∀ C, PG (cxC X N sc cl C s H fp) tg g) (ht : ∀ C, PF (cxC X N sc cl C s H fp) ifs tt) (he : ∀ C, PE (cxC X N sc cl C s H fp) elt te)
    (hRR : ∀ D C s' H' ys, Inv X pins σ (upd H' D (.lst ys)) s' → s.heap.objs.size ≤ C → upd H' D (.lst ys) C = none → (∃ m, s'.heap.Ns C m) → Q (.ref D) (upd H' D (.lst ys)) → RR (.ref D) C (.ok .next) s') :
    wpAny (model X.prog X.w) X.A (newList []) (fun acc s₃ => wpAny (model X.prog X.w) X.A (newFunctionEnv sc X.env.globals cl [] X.env.qual none .none (some X.env)) (fun cenv s₄ =>
      codeAny (model X.prog X.w) X.A (.compStart (.ListComp elt [⟨tg, iter, ifs, 0⟩] sc pos) 0 (.ref it) acc { cenv with scope := relabel sc X.env }) (RR acc cenv.locals) s₄) E s₃) E s := by
  refine wpAny_newObj_type (wpAny_newFunctionEnv S.cell (by intro y hy; simp at hy) (fun h₁ hns₁ hsb₁ => ?_) S.kind)
  dsimp only at hns₁ hsb₁ ⊢
  generalize hH2 : s.heap.push { cls := .type "list", dict := none, data := .seq ([] : List Value).toArray } = H2 at hns₁ hsb₁ ⊢
  have hC : H2.objs.size = s.heap.objs.size + 1 := by rw [← hH2, Heap.size_push]
  have hDC : s.heap.objs.size ≠ H2.objs.size := by rw [hC]; exact Nat.ne_of_lt (Nat.lt_succ_self _)
  have hCle : s.heap.objs.size ≤ H2.objs.size := by rw [hC]; exact Nat.le_succ _
  have below : ∀ b, b < s.heap.objs.size → b ≠ H2.objs.size ∧ b ≠ s.heap.objs.size := fun b hb => ⟨by rw [hC]; exact Nat.ne_of_lt (Nat.lt_succ_of_lt hb), Nat.ne_of_lt hb⟩
  have old : ∀ b o, s.heap.get? b = some o → h₁.get? b = some o := fun b o e => hsb₁.extBut b o (below b (Heap.lt_size e)).1 (Heap.get?_push_of_some _ (hH2 ▸ Heap.get?_push_of_some _ e))
  have hacc : h₁.PlainList s.heap.objs.size #[] := ⟨_, hsb₁.extBut _ _ hDC (Heap.get?_push_of_some _ (hH2 ▸ Heap.get?_push_size _ rfl))⟩
  have hfp : ∀ b ∈ fp, b < s.heap.objs.size := fun b hb => let ⟨o, e, _⟩ := T.obj 0 _ st b hb; Heap.lt_size e
  have st1 : tn 0 h₁ := T.keep _ _ _ st fun b hb o e => old b o e
  have I0 := inv_comp (tk := s.toks + ([] : List (Str × Value)).length) I S hcl1 hcl2 hCle hf hfp old ⟨_, hns₁⟩
  generalize H2.objs.size = C at hns₁ hsb₁ hC hDC hCle below I0 ⊢
  generalize hD : s.heap.objs.size = D at hC hDC hCle below hacc hfp ⊢
  have hDle : s.heap.objs.size ≤ D := by rw [hD]; exact Nat.le_refl _
  have fpok : ∀ {H' : Hp} {o : Obj}, (∀ b ∈ fp, H' b = none) → ∀ b ∈ fp, FpOk (cxC X N sc cl C s H fp) ((X.pn ++ pins) ++ [(D, o)]) H' b := fun {H' o} hn b hb => by
    obtain ⟨f0, f1, f2, f3, f4, f5⟩ := hf b hb
    refine ⟨hn b hb, (below b (hfp b hb)).1, fun z => ?_, .inl hb, fun x c e => f4 x c (hcl1 _ _ e), fun p hp => ?_⟩
    · rcases List.mem_cons.mp (I.stkSub b z) with z | z
      · exact f1 z
      · exact f2 z
    · have hp : p ∈ (X.pn ++ pins) ++ [(D, o)] := hp
      rcases List.mem_append.mp hp with z | z
      · exact f5 p z
      · have : p = (D, o) := by simpa using z
        rw [this]
        exact Ne.symm (below b (hfp b hb)).2
  have loop : ∀ s₃ : Shared, s₃ = { s with heap := h₁, toks := s.toks + ([] : List (Str × Value)).length } →
      codeAny (model X.prog X.w) X.A (.compLoop (.ListComp elt [⟨tg, iter, ifs, 0⟩] sc pos) 0 (.ref it) (.ref D) (compEnvC sc cl C X.env)) (RR (.ref D) C) s₃ := by
    rintro s₃ rfl
    obtain ⟨W, ⟨m0, w0⟩, step⟩ := B
    refine compLoop_any (fun n s' => ∃ i σ' H' ys its, Inv (cxC X N sc cl C s H fp) (X.pn ++ pins) σ' H' s' ∧ tn i s'.heap ∧ (∀ b ∈ fp, H' b = none) ∧ H' D = none ∧ s'.heap.PlainList D (its : List Value).toArray ∧ Vals ys its ∧ W i n σ' ys H') ?_ m0
      ⟨0, _, H, [], [], I0, st1, fun b hb => (hf b hb).1, I.hok.fresh hDle, hacc, .nil, w0⟩
    rintro n s3 ⟨i, σ3, H3, ys, its, I3, st3, fr3, hD3, ⟨nn, pl3⟩, rv3, w3⟩
    obtain ⟨hl, cs⟩ := step i n σ3 ys H3 w3
    have pinD : ∀ {σ' : St} {H' : Hp} {s' : Shared} {o : Obj}, Inv (cxC X N sc cl C s H fp) (X.pn ++ pins) σ' H' s' → H' D = none → s'.heap.get? D = some o → (∀ v, o.data ≠ .cell v) → Inv (cxC X N sc cl C s H fp) ((X.pn ++ pins) ++ [(D, o)]) σ' H' s' := fun {σ' H' s' o} I' hn e d =>
      I'.pins_of fun p hp => (List.mem_append.mp hp).elim (fun z => I'.pin p (List.mem_append_right _ z)) fun z => by
        have : p = (D, o) := by simpa using z
        subst this
        exact ⟨e, hn, hDC, fun z => I.nofs_stack hDle z, d⟩
    have I3p := pinD I3 hD3 pl3 fun v z => by cases z
    rcases cs with ⟨stop, q⟩ | ⟨go, NN, hN, nx⟩
    · refine thn (T.done (cxC X N sc cl C s H fp) rfl rfl rfl hc i _ s3 σ3 H3 _ I3p (fpok fr3) st3 stop) fun r s4 ⟨hr, I4⟩ => ?_
      subst hr
      have d4 := I4.pin (D, _) (List.mem_append_right _ (List.mem_append_right _ (List.mem_singleton.mpr rfl)))
      have I5 := comp_end I I4.unpinned hDle d4.2.1 ⟨nn, d4.1⟩ rv3 hl hf
      refine hRR D C s4 H3 ys I5 (by rw [hD]; exact hCle) ?_ (let ⟨m, hm, _⟩ := I4.loc; ⟨m, hm⟩) (q D d4.2.1)
      rw [upd_ne (Ne.symm hDC)]
      exact I4.free
    · refine thn (T.item (cxC X N sc cl C s H fp) rfl rfl rfl hc i _ s3 σ3 H3 _ I3p (fpok fr3) st3 go) fun r s4 ⟨u, hr, h4⟩ => ?_
      subst hr
      refine thn h4 fun _ s5 ⟨x, H5, I5, r5, y5, st5, fr5⟩ => ?_
      have I5' := I5.pinned (fpok fr5) (T.obj _ _ st5)
      refine thn (hg C _ s5 σ3 H5 x u _ I5' r5 (nx x H5 y5)) fun _ s6 ⟨σ6, H6, I6, q6⟩ => ?_
      refine thn (ht C _ s6 σ6 H6 _ I6 q6) fun b s7 ⟨H7, I7, q7⟩ => ?_
      have itK : ∀ {s8 : Shared} {H8 : Hp}, Inv (cxC X N sc cl C s H fp) (((X.pn ++ pins) ++ [(D, ({ cls := .type "list", data := .seq its.toArray nn } : Obj))]) ++ pinsAt fp s5.heap) σ6 H8 s8 → tn (i + 1) s8.heap ∧ ∀ b ∈ fp, H8 b = none := fun {s8 H8} I8 => by
        refine ⟨T.keep _ _ _ st5 fun b hb o e => (I8.pin (b, o) (List.mem_append_right _ (List.mem_append_right _ (mem_pinsAt hb e)))).1, fun b hb => ?_⟩
        obtain ⟨o, e, d⟩ := T.obj _ _ st5 b hb
        exact (I8.pin (b, o) (List.mem_append_right _ (List.mem_append_right _ (mem_pinsAt hb e)))).2.1
      cases b with
      | false =>
        have q7 : NN σ6 ys H7 := by simpa using q7
        obtain ⟨m', hm, w7⟩ := hN _ _ _ q7
        obtain ⟨t7, f7⟩ := itK I7
        have d7 := I7.pin (D, _) (List.mem_append_right _ (List.mem_append_left _ (List.mem_append_right _ (List.mem_singleton.mpr rfl))))
        show ∃ m, m < n ∧ _
        exact ⟨m', hm, i + 1, σ6, H7, ys, its, I7.unpinned.unpinned, t7, f7, d7.2.1, ⟨nn, d7.1⟩, rv3, w7⟩
      | true =>
        have q7 : te σ6 H7 fun y H4 => NN σ6 (ys ++ [y]) H4 := by simpa using q7
        show wpAny _ _ _ _ _ _
        refine thn (he C _ s7 σ6 H7 _ I7 q7) fun yv s8 ⟨y, H8, I8, r8, q8⟩ => ?_
        obtain ⟨m', hm, w9⟩ := hN _ _ _ q8
        obtain ⟨t8, f8⟩ := itK I8
        have d8 := I8.pin (D, _) (List.mem_append_right _ (List.mem_append_left _ (List.mem_append_right _ (List.mem_singleton.mpr rfl))))
        refine wpAny_list_append_plain (hsz := by rw [List.size_toArray, ← rv3.length]; exact hl) ⟨nn, d8.1⟩ fun h9 pl9 sb9 => ?_
        have I9 : Inv (cxC X N sc cl C s H fp) (X.pn ++ pins) σ6 H8 { s8 with heap := h9 } := I8.unpinned.unpinned.turned (t' := s8.toks) (it := D) (fun b o hb e => (sb9.2 b hb).trans e) d8.2.1 hDC (.inr hDle) (fun x c e z => ?_) (fun p hp z => ?_)
        · refine ⟨m', hm, i + 1, σ6, H8, ys ++ [y], its ++ [yv], I9, T.keep _ _ _ t8 fun b hb o e => (sb9.2 b (below b (hfp b hb)).2).trans e, f8, d8.2.1, ?_, rv3.append (.cons r8 .nil), w9⟩
          rw [← List.push_toArray]
          exact pl9
        · obtain ⟨v, q⟩ := I.cell x c (hcl1 _ _ e)
          exact absurd (Nat.lt_of_lt_of_le q.lt (by rw [z]; exact hDle)) (Nat.lt_irrefl _)
        · have hp : p ∈ X.pn ++ pins := hp
          exact absurd (Nat.lt_of_lt_of_le (Heap.lt_size (I.pin p hp).1) (by rw [z]; exact hDle)) (Nat.lt_irrefl _)
  exact codeAny_compStart_list (loop _ rfl) (T.self _ _ _ _ _ st1 (loop _ rfl))
end
section
variable {X : Cx} {N : List Str} {k : Nat} {sc : Scope} {tg elt iter : Expr} {ifs : List Expr} {pos : Pos} {g : TG} {tt : TT} {te : TE} {wi : TI}
theorem comp_cells {pins : List (Addr × Obj)} {σ : St} {H : Hp} {s : Shared} (I : Inv X pins σ H s) (S : CompSc X.N N k sc X.env.scope) :
    ∃ cl, closureFor sc X.env = pure cl ∧ (∀ x c, cl.lookup x = some c → X.env.cells.lookup x = some c) ∧ (∀ x, (x, NameKind.free) ∈ sc.names → ∃ c, cl.lookup x = some c) :=
  closure_of fun x hx e => I.ok.has x.1 (S.fr x hx e)
theorem Inv.letGo {pins : List (Addr × Obj)} {σ : St} {H H0 : Hp} {s s0 : Shared} {h' : Heap} {C : Addr} (I0 : Inv X pins σ H0 s0) {σ' : St} (I : Inv X pins σ' H s) (hC : s0.heap.objs.size ≤ C) (hn : H C = none) (sb : Heap.SameBut C s.heap h') : Inv X pins σ' H { s with heap := h' } :=
  I.turned (t' := s.toks) (it := C) (fun b o hb e => (sb.2 b hb).trans e) hn (Nat.ne_of_gt (Nat.lt_of_lt_of_le I0.lt hC)) (.inr (Nat.le_trans I0.sz hC))
    (fun x c e z => by
      obtain ⟨v, q⟩ := I0.cell x c e
      exact absurd (Nat.lt_of_lt_of_le q.lt (by rw [z]; exact hC)) (Nat.lt_irrefl _))
    (fun p hp z => absurd (Nat.lt_of_lt_of_le (Heap.lt_size (I0.pin p hp).1) (by rw [z]; exact hC)) (Nat.lt_irrefl _))
theorem pe_comp (hc : X.calm = true) (S : CompSc X.N N k sc X.env.scope) (hi : PI X tg iter wi) (hg : ∀ cl C s H fp, PG (cxC X N sc cl C s H fp) tg g) (ht : ∀ cl C s H fp, PF (cxC X N sc cl C s H fp) ifs tt)
    (he : ∀ cl C s H fp, PE (cxC X N sc cl C s H fp) elt te) (hs : ∀ x, foldedSetIterable iter X.env x = pure x := by intro _; rfl) : PE X (.ListComp elt [⟨tg, iter, ifs, 0⟩] sc pos) (tComp k wi g tt te) := by
  intro pins s σ H Q I h
  obtain ⟨cl, hclos, h1, h2⟩ := comp_cells I S
  rw [eval_ListComp]
  refine wpAny_comprehension_free (use := none) rfl hs hclos S.kind S.names (thn (hi pins s σ H _ I h) fun v s1 q1 => thn q1 fun itv s2 q2 => ?_)
  obtain ⟨it, fp, tn, J, H2, rfl, I2, T, st2, f2, B⟩ := q2
  refine comp_block (RR := fun acc C => compPost (model X.prog X.w) X.A X.xe none (EP X pins σ Q) acc C) hc S h1 h2 I2 T st2 f2 B (fun C => hg cl C s2 H2 fp) (fun C => ht cl C s2 H2 fp) (fun C => he cl C s2 H2 fp) ?_
  intro D C s' H' ys I' hC hn hm q
  obtain ⟨m, hm⟩ := hm
  exact ⟨m, hm, fun h' sb => ⟨.ref D, _, I2.letGo I' hC hn sb, rfl, q⟩⟩
theorem ps_comp {i : Nat} {x : Str} {px spos : Pos} (hc : X.calm = true) (S : CompSc X.N N k sc X.env.scope) (hN : X.N.Nodup) (hx : X.N[i]? = some x) (hl : X.env.scope.names.lookup x = some .local)
    (hsw : swapsWith (.ListComp elt [⟨tg, iter, ifs, 0⟩] sc pos) (some (.Name x px)) spos.line X.env = pure true) (hi : PI X tg iter wi) (hg : ∀ cl C s H fp, PG (cxC X N sc cl C s H fp) tg g) (ht : ∀ cl C s H fp, PF (cxC X N sc cl C s H fp) ifs tt)
    (he : ∀ cl C s H fp, PE (cxC X N sc cl C s H fp) elt te) (hs : ∀ x, foldedSetIterable iter X.env x = pure x := by intro _; rfl) : PS X (.Assign [.Name x px] (.ListComp elt [⟨tg, iter, ifs, 0⟩] sc pos) spos) (tAsg (tComp k wi g tt te) (gName i)) := by
  intro pins s σ H D0 I h
  obtain ⟨cl, hclos, h1, h2⟩ := comp_cells I S
  rw [exec_Assign_Name_used _ _ _ _ hsw]
  refine wpAny_bind (wpAny_standAt (wpAny_bind ?_))
  show wpAny _ X.A (do let _ ← comprehension (.ListComp elt [⟨tg, iter, ifs, 0⟩] sc pos) sc X.env _ (newList []) false (eval iter X.env) (some (assign (.Name x px) X.env))) _ _ s
  refine wpAny_bind (thn (wpAny_comprehension_free (use := some (assign (.Name x px) X.env)) (Q := fun _ s' => SP X pins D0 .next s') rfl hs hclos S.kind S.names
    (thn (hi pins s σ H _ I h) fun v s1 q1 => thn q1 fun itv s2 q2 => ?_)) fun _ s' hq => wpAny_pure (wpAny_pure hq))
  obtain ⟨it, fp, tn, J, H2, rfl, I2, T, st2, f2, B⟩ := q2
  refine comp_block (RR := fun acc C => compPost (model X.prog X.w) X.A X.xe (some (assign (.Name x px) X.env)) (fun _ s' => SP X pins D0 .next s') acc C) hc S h1 h2 I2 T st2 f2 B (fun C => hg cl C s2 H2 fp) (fun C => ht cl C s2 H2 fp) (fun C => he cl C s2 H2 fp) ?_
  intro D C s' H' ys I' hC hn hm q
  obtain ⟨m, hm⟩ := hm
  show wpAny _ X.A (assign (.Name x px) X.env (.ref D)) _ _ _
  refine wpAny_assign_Name (store_ok2 I' hN hx (.inl hl) (v := .ref D) rfl (fun s'' I'' ch => ?_) (.inr hl))
  obtain ⟨a, sb, ha⟩ := ch
  refine ⟨m, hm.sameBut sb ?_, fun h' sb' => ⟨_, _, I2.letGo I'' hC hn sb', q⟩⟩
  rintro rfl
  rcases ha with z | z
  · exact absurd (Nat.lt_of_lt_of_le I2.lt (by rw [← z]; exact hC)) (Nat.lt_irrefl _)
  · obtain ⟨v, q⟩ := I2.cell x _ z
    exact absurd (Nat.lt_of_lt_of_le q.lt hC) (Nat.lt_irrefl _)
end
end L2
namespace L2
open PySem PySem.Spec PyProof.Rows
section
variable {prog : Program} {w : World} {A : Around} {E : Value → Shared → Prop}
theorem draw_list {it l : Addr} {items : Array Value} (hne : l ≠ it) : ∀ (n i : Nat) (s : Shared) (Q : List Value → Shared → Prop), s.heap.IsListIter it l i → s.heap.IsList l items → i + n ≤ items.size →
    (∀ h', h'.IsListIter it l (i + n) → Heap.SameBut it s.heap h' → Q ((items.toList.drop i).take n) { s with heap := h' }) → wpAny (model prog w) A (draw (.ref it) n) Q E s
  | 0, i, s, Q, hit, _, _, hQ => by
    show wpAny _ _ (pure []) Q E s
    exact wpAny_pure (by simpa using hQ s.heap hit (Heap.SameBut.refl ..))
  | n + 1, i, s, Q, hit, ht, hle, hQ => by
    have hlt : i < items.size := by omega
    show wpAny _ _ (pyNext (.ref it) >>= _) Q E s
    refine wpAny_bind (wpAny_pyNext_list_item hit ht (x := items[i]) (by simp [hlt]) fun h₁ hit₁ hs₁ => ?_)
    refine wpAny_bind (wpAny_holding (draw_list hne n (i + 1) _ _ hit₁ (ht.extBut hs₁.extBut hne) (by omega) fun h₂ hit₂ hs₂ => wpAny_pure ?_))
    have hd : items.toList.drop i = items[i] :: items.toList.drop (i + 1) := by simp [List.drop_eq_getElem_cons, hlt]
    have := hQ h₂ (by rw [show i + (n + 1) = i + 1 + n by omega]; exact hit₂) (hs₁.trans hs₂)
    rw [hd, List.take_succ_cons] at this
    exact this
theorem unpackItems_list {s : Shared} {l : Addr} {items : Array Value} {Q : List Value → Shared → Prop} (hh : A.handled = none) (ht : s.heap.IsList l items)
    (hQ : ∀ h', Heap.ExtBut s.heap.objs.size s.heap h' → Q items.toList { s with heap := h' }) : wpAny (model prog w) A (unpackItems (.ref l) items.size none) Q E s := by
  have hlt : l ≠ s.heap.objs.size := by obtain ⟨o, ho, _⟩ := ht; exact Nat.ne_of_lt (Heap.lt_size ho)
  have htp : ∀ ob, (s.heap.push ob).IsList l items := fun ob => by obtain ⟨o, ho, r⟩ := ht; exact ⟨o, Heap.get?_push_of_some _ ho, r⟩
  unfold unpackItems
  refine wpAny_bind ?_
  · unfold notIterableAtAll
    refine wpAny_bind (wpAny_specialOf ht.typeIs slot_list_iter.lookup ?_)
    refine wpAny_pure ?_
    simp only [Bool.false_eq_true, if_false]
    refine wpAny_bind (wpAny_holding (wpAny_pyIter_list ht ?_))
    refine wpAny_bind (wpAny_holding (draw_list hlt items.size 0 _ _ ⟨_, Heap.get?_push_size _ rfl, rfl, rfl⟩ (htp _) (by omega) fun h₁ hit₁ hs₁ => ?_))
    have hall : List.take items.size (List.drop 0 items.toList) = items.toList := by
      rw [List.drop_zero]; exact List.take_of_length_le (by simp)
    rw [hall]
    rw [if_neg (by simp)]
    have ht₁ : h₁.IsList l items := (htp _).extBut hs₁.extBut hlt
    refine wpAny_bind (wpAny_holding (wpAny_pyNext_list_end hh hit₁ ht₁ (by simp) fun h₂ he₂ => ?_))
    simp only [Option.isSome_none, Bool.false_eq_true, if_false]
    refine wpAny_pure (hQ h₂ fun b o hb e => he₂ b o hb (hs₁.extBut b o hb (Heap.get?_push_of_some _ e)))
end
section
variable {X : Cx} {pos : Pos}
def gLst (K : PySem.W.Frag) (n : Nat) (t : TGs) : TG := fun v σ H Q => ∃ a xs, v = .ref a ∧ SqL K H a xs ∧ xs.length = n ∧ t xs σ H Q
theorem pg_lst {es : List Expr} {k : Nat} {t : TGs} {n : Nat} (hc : X.calm = true) (h : PGs X es t)
    (hn : (assignEach es X.env).length = n := by rfl) (hst : (assignEach es X.env).findIdx? (·.1) = none := by rfl) : PG X (.Tuple es k pos) (gLst X.K n t) := by
  intro pins s σ H v u Q I r hw
  obtain ⟨a, xs, e1, hq, hl, hw⟩ := hw
  subst e1
  cases r
  obtain ⟨its, rv, ht, hz⟩ := I.list hq
  rw [assign_Tuple]
  refine wpAny_bind (wpAny_standAt ?_)
  unfold unpack
  have e : (assignEach es X.env).length = its.toArray.size := by rw [hn, ← hl, rv.length, List.size_toArray]
  rw [e, hst]
  refine wpAny_bind (wpAny_holding (unpackItems_list (I.ok.hd hc) ht.isList fun h' hx => ?_))
  have I1 : Inv X pins σ H { s with heap := h' } := I.kept (t' := s.toks) fun b o e => hx b o (Nat.ne_of_lt (Heap.lt_size e)) e
  exact h pins _ σ H xs _ Q I1 (by simpa using rv) hw
def tRev (K : PySem.W.Frag) (te : TE) : TE := fun σ H Q => te σ H fun x H1 => ∃ a xs, x = .ref a ∧ SqL K H1 a xs ∧ ∀ p, H1 p = none → Q (.ref p) (upd H1 p (.lst xs.reverse))
theorem fm_some {α β : Type} {f : α → Option β} {g : α → β} : ∀ {l : List α}, (∀ x ∈ l, f x = some (g x)) → l.filterMap f = l.map g
  | [], _ => rfl
  | x :: l, h => by rw [List.filterMap_cons, h x List.mem_cons_self, List.map_cons, fm_some fun y hy => h y (List.mem_cons_of_mem _ hy)]
theorem rangeRev {α : Type} (l : List α) : ((List.range l.length).map fun (k : Nat) => (((l.length : Int) - 1) + -1 * (k : Int)).toNat).filterMap (fun i => l[i]?) = l.reverse := by
  rw [List.filterMap_map]
  cases l with
  | nil => rfl
  | cons a l' =>
    generalize hl : a :: l' = l
    rw [fm_some (g := fun k => (l.reverse[k]?).getD a)]
    · apply List.ext_getElem?
      intro i
      rw [List.getElem?_map]
      by_cases hi : i < l.length
      · rw [List.getElem?_range hi]
        have : i < l.reverse.length := by rw [List.length_reverse]; exact hi
        simp only [Option.map_some, List.getElem?_eq_getElem this, Option.getD_some]
      · rw [List.getElem?_eq_none (by simpa using hi), List.getElem?_eq_none (by simpa using hi)]; rfl
    · intro k hk
      have := List.mem_range.mp hk
      show l[(((l.length : Int) - 1) + -1 * (k : Int)).toNat]? = _
      rw [show (((l.length : Int) - 1) + -1 * (k : Int)).toNat = l.length - 1 - k by omega]
      rw [List.getElem?_reverse this, List.getElem?_eq_getElem (by omega : l.length - 1 - k < l.length)]
      rfl
theorem slicePick_rev (its : List Value) : slicePick its.toArray none none (some (-1)) = its.reverse.toArray := by
  unfold slicePick
  have e : sliceBounds none none (some (-1)) its.toArray.size = ((its.length : Int) - 1, -1, -1) := by
    rw [List.size_toArray]; rfl
  rw [e]
  unfold sliceRange
  have e2 : (if (-1 : Int) > 0 then (if (its.length : Int) - 1 < -1 then ((-1 : Int) - ((its.length : Int) - 1) + -1 - 1) / -1 else 0) else (if (its.length : Int) - 1 > -1 then ((its.length : Int) - 1 - -1 - -1 - 1) / (- -1) else 0)).toNat = its.length := by
    rw [if_neg (by decide), show (- -1 : Int) = 1 by decide, Int.ediv_one]
    split <;> omega
  simp only [e2]
  congr 1
  have := rangeRev its
  simpa using this
theorem pe_rev {e se : Expr} {te : TE} {p2 : Pos} (he : PE X e te) (hs : PE X se (tC (.int (-1)))) : PE X (.Subscript e (.Slice none none (some se) p2) pos) (tRev X.K te) := by
  intro pins s σ H Q I h
  refine Subscript_ (thn (he pins s σ H _ I h) fun v s1 ⟨x, H1, I1, r1, q1⟩ => ?_)
  obtain ⟨a, xs, rfl, hx, q⟩ := q1
  cases r1
  refine wpAny_Slice ?_
  rw [evalPart_none]
  refine wpAny_pure ?_
  refine wpAny_pure ?_
  rw [evalPart_some]
  refine thn (hs pins s1 σ H1 (fun y H2 => y = .int (-1) ∧ H2 = H1) I1 ⟨rfl, rfl⟩) fun sv s3 ⟨y, H3, I3, r3, e3⟩ => ?_
  obtain ⟨rfl, rfl⟩ := e3
  obtain ⟨t, rfl⟩ := r3
  have I4 : Inv X pins σ H3 { s3 with heap := s3.heap.push { cls := .type "slice", data := .fields #[.none, .none, .int (-1) t] } } := I3.kept (t' := s3.toks) fun b ob q => Heap.get?_push_of_some _ q
  obtain ⟨its, r, ht, hz⟩ := I4.list hx
  have hlen := r.length
  show wpAny (model X.prog X.w) X.A (subscriptTail e (.Slice none none (some se) p2) (.ref a) (.ref s3.heap.objs.size)) (EP X pins σ Q) X.xe { s3 with heap := s3.heap.push { cls := .type "slice", data := .fields #[.none, .none, .int (-1) t] } }
  refine tail_any (ops := [.ref a, .ref s3.heap.objs.size]) ht.isList.typeIs slot_list_getitem.lookup ?_ (by with_unfolding_all rfl)
  refine wpAny_getItem_list_slice ht.isList (Heap.IsSliceOf.new ..) .none .none (.int (-1) t) (by simp) ?_ (by rw [List.size_toArray] <;> omega)
  rw [slicePick_rev]
  refine ⟨.ref _, _, I4.laid (t' := s3.toks) (o := .lst xs.reverse) (fun b ob q => Heap.get?_push_of_some _ q) (Nat.le_refl _) ?_, rfl, q _ (I4.hok.fresh (Nat.le_refl _))⟩
  exact ⟨by rw [List.length_reverse]; exact hz, _, 0, r.reverse, Heap.get?_push_size _ rfl⟩
theorem pe_m1 {j : Nat} {p1 : Pos} : PE X (.UnaryOp .USub (.Constant (.int 1) j p1) pos) (tC (.int (-1))) := by
  intro pins s σ H Q I h
  exact pe_un un_neg pe_int pins s σ H Q I ⟨1, rfl, h⟩
end
theorem swaps_true {env : Env} {elt : Expr} {gs : List Comprehension} {sc : Scope} {pos px : Pos} {x : Str} {line : Nat} (h1 : env.blockKind = .function) (h2 : env.kindOf x = some .local) (h3 : (px.line == pos.line) = true)
    (h4 : (sc.names.any fun p => p.1 == x && (p.2 == .local || p.2 == .cell)) = false) : swapsWith (.ListComp elt gs sc pos) (some (.Name x px)) line env = pure true := by
  unfold swapsWith
  show (pure (env.blockKind == .function && env.kindOf x == some .local && px.line == pos.line && !(sc.names.any fun p => p.1 == x && (p.2 == .local || p.2 == .cell))) : Sem Bool) = pure true
  rw [h1, h2, h3, h4]
  rfl
end L2
namespace L2
open PySem PySem.Spec PyProof.Rows PySem.W
section
variable {X : Cx} {tg : Expr}
def iSeq (K : PySem.W.Frag) (tl : TE) : TI := fun σ H R => tl σ H fun x H1 => ∃ a, x = .ref a ∧ (((∃ xs, SqL K H1 a xs) ∧ R (Itl K a) H1) ∨ ((∃ xs, SqT K H1 a xs) ∧ R (Itt K a) H1))
theorem pi_seq {l : Expr} {tl : TE} (hl : PE X l tl) : PI X tg l (iSeq X.K tl) := by
  intro pins s σ H R I h
  refine thn (hl pins s σ H _ I h) fun v s1 ⟨x, H1, I1, r1, q1⟩ => ?_
  obtain ⟨a, rfl, ⟨⟨xs, hq⟩, q⟩ | ⟨⟨xs, hq⟩, q⟩⟩ := q1
  · cases r1
    obtain ⟨its, rv, p, hz⟩ := I1.list hq
    refine wpAny_pyIter_list p.isList ⟨s1.heap.objs.size, [s1.heap.objs.size], _, _, H1, rfl, I1.kept (t' := s1.toks) fun b o e => Heap.get?_push_of_some _ e, turn_list a _, ⟨_, Heap.get?_push_size _ rfl, rfl, rfl⟩, fun b hb => ?_, q⟩
    rw [List.mem_singleton.mp hb]
    exact I1.fpOk (Nat.le_refl _) I1.fresh
  · cases r1
    obtain ⟨its, rv, p, hz⟩ := I1.tuple hq
    refine wpAny_pyIter_tuple (show s1.heap.IsTuple a its.toArray from p) ⟨s1.heap.objs.size, [s1.heap.objs.size], _, _, H1, rfl, I1.kept (t' := s1.toks) fun b o e => Heap.get?_push_of_some _ e, turn_tuple a _, ⟨_, Heap.get?_push_size _ rfl, rfl, rfl⟩, fun b hb => ?_, q⟩
    rw [List.mem_singleton.mp hb]
    exact I1.fpOk (Nat.le_refl _) I1.fresh
theorem Inv.free_at {pins : List (Addr × Obj)} {σ : St} {H : Hp} {s : Shared} {a : Addr} (I : Inv X pins σ H s) (hf : ∀ b o, s.heap.get? b = some o → b ≠ a) : H a = none := by
  cases e : H a with
  | none => rfl
  | some u =>
    obtain ⟨ob, z⟩ := (I.hok a u e).is
    exact absurd rfl (hf a ob z)
theorem Inv.laid2 {pins : List (Addr × Obj)} {σ : St} {H : Hp} {s : Shared} {a : Addr} {o : HO} {t' : Nat} {h' : Heap} (I : Inv X pins σ H s) (k : ∀ b u, s.heap.get? b = some u → h'.get? b = some u) (hf : ∀ b o, s.heap.get? b = some o → b ≠ a)
    (new : ObjOk X.prog X.w (upd H a o) h' a o) : Inv X pins σ (upd H a o) { s with heap := h', toks := t' } := by
  have hn := I.free_at hf
  refine I.un ⟨fun b u e _ _ _ => k b u e, fun b u e _ _ _ => ⟨u.slots, k b u e⟩, fun b u e n _ => by rw [upd_ne (hf b u e)]; exact n, fun b u e _ => ⟨u, k b u e⟩, fun b xs e => by rw [upd_ne (ne_of_none e hn)]; exact e, fun b u v e => by rw [upd_ne (ne_of_none e hn)]; exact e,
    fun b ps e => ⟨#[], by rw [upd_ne (ne_of_none e hn), e]; simp⟩⟩ fun b u e => ?_
  by_cases hb : b = a
  · subst hb; rw [upd_same] at e; cases e; exact new
  · rw [upd_ne hb] at e
    exact (I.hok b u e).stay (fun c v _ q => k c v q) (fun c q => by rw [upd_ne (ne_of_none q hn)]; exact q) fun c xs q => by rw [upd_ne (ne_of_none q hn)]; exact q
theorem strsAre_of {ss : List Str} : ∀ {us : List Value}, Vals (ss.map V.str) us → StrsAre us ss := by
  induction ss with
  | nil => intro us r; rw [List.map_nil] at r; cases r; exact .nil
  | cons n ns ih =>
    intro us r
    rw [List.map_cons] at r
    cases r with
    | cons r1 r2 =>
      obtain ⟨t, e⟩ := r1
      subst e
      exact .cons n t (ih r2)
theorem of_strsAre : ∀ {ss : List Str} {us : List Value}, StrsAre us ss → Vals (ss.map V.str) us
  | _, _, .nil => .nil
  | _, _, .cons y t r => .cons ⟨t, rfl⟩ (of_strsAre r)
def rSorted (K : PySem.W.Frag) : List V → Hp → VK → Prop := fun vs H Q => ∃ a ss, vs = [.ref a] ∧ (SqL K H a (ss.map V.str) ∨ ∃ kvs, H a = some (.dK kvs) ∧ kvs.map (·.1) = ss.map Sum.inr) ∧ ss.length < 64 ∧
  ∀ r ss', H r = none → ss'.Perm ss → sortedS ss' = true → Q (.ref r) (upd H r (.lst (ss'.map V.str)))
theorem line64 : 64 ≤ sizeLine := by rw [sizeLine_eq]; decide
theorem keys_vals {P : Program} {w : World} {ss : List Str} {vs : List (Key × Value)} {acc : Array Value} (e : vs.map (·.1) = ss.map Sum.inr)
    (h : ItemsOf (fun i v => ∃ k x, vs[i]? = some (k, x) ∧ (mixKind P w).is k v = true) acc vs.length) : StrsAre acc.toList ss := by
  obtain ⟨hs, hi⟩ := h
  have hl : ss.length = vs.length := by have := congrArg List.length e; simpa using this.symm
  have key : ∀ (j : Nat) (v : Value), acc.toList[j]? = some v → ∃ (x : Str) (t : Tok), ss[j]? = some x ∧ v = Value.str x t := fun j v hv => by
    obtain ⟨k, x, hx, hk⟩ := hi j v (by rw [← Array.getElem?_toList]; exact hv)
    have hk : keyIs k v = true := hk
    have e2 : (vs.map (·.1))[j]? = some k := by rw [List.getElem?_map, hx]; rfl
    rw [e, List.getElem?_map] at e2
    cases ez : ss[j]? with
    | none => rw [ez] at e2; cases e2
    | some z =>
      rw [ez] at e2
      have e3 : k = Sum.inr z := (Option.some.inj e2).symm
      subst e3
      rcases keyIs_shape hk with ⟨i, t, q, _⟩ | ⟨y, t, q, rfl⟩
      · cases q
      · cases q
        exact ⟨z, t, rfl, rfl⟩
  have hl2 : acc.toList.length = ss.length := by rw [Array.length_toList, hs, hl]
  clear hs hi e hl
  generalize acc.toList = l at key hl2
  induction l generalizing ss with
  | nil =>
    cases ss with
    | nil => exact .nil
    | cons a b => cases hl2
  | cons v l ih =>
    cases ss with
    | nil => cases hl2
    | cons z ss =>
      obtain ⟨x, t, hx, rfl⟩ := key 0 v rfl
      have hx : z = x := Option.some.inj hx
      subst hx
      exact .cons z t (ih (fun j u hu => key (j + 1) u hu) (by simpa using hl2))
theorem call_sortedS (hc : X.calm = true) : CallR X (.builtin "sorted") (rSorted X.K) := by
  intro pins s σ H vs us Q I rv h
  obtain ⟨a, ss, rfl, hq, h64, q⟩ := h
  obtain ⟨u, rfl, ru⟩ := rv.one
  cases ru
  rcases hq with hq | ⟨kvs, hd, ek⟩
  · obtain ⟨its, r, p, hz⟩ := I.list hq
    have hS := strsAre_of r
    have hlen : its.length = ss.length := by have := r.length; simpa using this.symm
    refine sorted_strs p.isList hS (by omega) fun out ss' a1 a2 a3 => ?_
    obtain ⟨e, he⟩ := sortedAll_at s.heap its out
    refine ⟨.ref _, _, I.laid (t' := s.toks) (o := .lst (ss'.map V.str)) (fun b o z => sortedAll_old z) (Nat.le_succ _) ⟨?_, out.toList, e, of_strsAre a1, by simpa using he⟩, rfl, q _ ss' (I.hok.fresh (Nat.le_succ _)) a2 a3⟩
    rw [List.length_map, a2.length_eq]
    exact Nat.le_trans (Nat.le_of_lt h64) line64
  · obtain ⟨hz, lo, vs, kv, hD⟩ := dk_of I.hok hd
    obtain ⟨ep, hat⟩ := hD.dictAt
    have ek2 : vs.map (·.1) = ss.map Sum.inr := by rw [← kv.keys]; exact ek
    have hlen : vs.length = ss.length := by have := congrArg List.length ek2; simpa using this
    refine Calls.call_function_entry kind_sorted plain_sorted entry_sorted (args_sorted1 _) ?_
    unfold Builtin.«sorted»
    refine wpAny_bind (m := checkCount "sorted" 1 1 _) (wpAny_pure ?_)
    refine wpAny_bind (kdu_collect (A := X.A.in1) (kdl_dict (knd := mixKind X.prog X.w) (kvs := vs) (ep := ep) lo) (I.ok.hd hc) hat (by have := line64; omega) fun h' tk acc hk hacc => ?_)
    have hS := keys_vals ek2 hacc
    have hl2 : acc.toList.length = ss.length := by rw [Array.length_toList, hacc.1, hlen]
    refine wpAny_bind (wpAny_newList ?_ (by have := line64; omega))
    have hoL : (h'.push (seqObj "list" acc.toList.toArray 0)).get? h'.objs.size = some (seqObj "list" acc.toList.toArray 0) := Heap.get?_push_size _ rfl
    refine wpAny_bind (wpAny_holding (wpAny_call_entry slot_list_sort ⟨_, hoL, rfl⟩ entry_list_sort (list_sort_treeK strKind_oneLt hoL hS.keysOf (fun v₁ v₂ rest e => keyKind_strs (by rw [← e]; exact hS)) (by omega) fun st' hp hs => ⟨_, rfl, ?_⟩) (args_list_sort _)))
    obtain ⟨ss', b1, b2, b3⟩ := sorted_out_str hS hp hs
    obtain ⟨e, he⟩ := sortedHeap_at (vs := acc.toList) (n := 0) (out := (arrOf st').map (·.2)) hoL
    have hf : ∀ b o, s.heap.get? b = some o → b ≠ h'.objs.size := fun b o z => Nat.ne_of_lt (Heap.lt_size (hk b o z))
    refine wpAny_pure ⟨_, rfl, .ref _, _, I.laid2 (t' := tk) (a := h'.objs.size) (o := .lst (ss'.map V.str)) (fun b o z => ?_) hf ⟨?_, ((arrOf st').map (·.2)).toList, e, of_strsAre b1, ?_⟩, rfl, q _ ss' (I.free_at hf) b2 b3⟩
    · rw [sortedHeap_old (hf b o z) (by rw [size_push']; exact Nat.lt_succ_of_lt (Heap.lt_size (hk b o z)))]
      exact Heap.get?_push_of_some _ (hk b o z)
    · rw [List.length_map, b2.length_eq]
      exact Nat.le_trans (Nat.le_of_lt h64) line64
    · rw [Array.toArray_toList]
      exact he
def rSlS : V → Option Int → Option Int → Hp → VK → Prop := fun x lo hi H Q => ∃ z, x = .str z ∧ z.length ≤ sizeLine ∧ Q (.str (Txt.slice z lo hi)) H
theorem part_val {v : Value} {o : Option Int} (p : IsPart v o) : ∃ l : Option (Int × Tok), v = partValue l ∧ l.map (·.1) = o := by
  cases p with
  | none => exact ⟨none, rfl, rfl⟩
  | int i t => exact ⟨some (i, t), rfl, rfl⟩
theorem sl_str : SlR X rSlS := by
  intro pins s σ H x v vl vu lo hi sl Q I rx hs pl pu h
  obtain ⟨z, rfl, hz, q⟩ := h
  obtain ⟨t, rfl⟩ := rx
  obtain ⟨l, rfl, rfl⟩ := part_val pl
  obtain ⟨u, rfl, rfl⟩ := part_val pu
  refine ⟨"str", _, F.slot_str_getitem.lookup, typeIs_str _ _ _, wpAny_getItem_str_slice (l := l) (u := u) (st := none) hs rfl ?_⟩
  exact post_val_or_str ⟨Nat.le_trans (Txt.slice_le z _ _) hz, fun t' k => ⟨.str _, H, I.tok _, ⟨t', rfl⟩, q⟩⟩
def lens (ss : List Str) : Nat := (ss.map (fun z => z.length)).sum
theorem strsAre_pairs : ∀ {us : List Value} {ss : List Str}, StrsAre us ss → ∃ l : List (Str × Tok), us = strValues l ∧ l.map (·.1) = ss
  | _, _, .nil => ⟨[], rfl, rfl⟩
  | _, _, .cons y t r => by
    obtain ⟨l, e1, e2⟩ := strsAre_pairs r
    exact ⟨(y, t) :: l, by rw [e1]; rfl, by rw [List.map_cons, e2]⟩
end
end L2
namespace L2
open PySem PySem.Spec PyProof.Rows PySem.W
section
variable {X : Cx} {pos : Pos}
abbrev TJ := St → Hp → (List Str → Hp → Prop) → Prop
def PJ (X : Cx) (es : List Expr) (t : TJ) : Prop := ∀ (out : Str) (pins : List (Addr × Obj)) (s : Shared) (σ : St) (H : Hp) (Q : VK), out.length + 1000 * es.length ≤ sizeLine → Inv X pins σ H s →
  t σ H (fun zs H' => Q (.str (zs.foldl (fun a b => a ++ b) out)) H') → wpAny (model X.prog X.w) X.A (joinParts out (evalEach es X.env)) (EP X pins σ Q) X.xe s
theorem len_app (x y : Str) : (x ++ y).length = x.length + y.length := by
  show (x.cps ++ y.cps).size = x.cps.size + y.cps.size
  simp
theorem pj_nil : PJ X [] (fun _ H R => R [] H) := fun out pins s σ H Q hl I h => joinParts_nil (show EP X pins σ Q _ _ from ⟨.str out, H, I.tok _, ⟨_, rfl⟩, h⟩) (by simpa using hl)
def tJ (te : TE) (t : TJ) : TJ := fun σ H R => te σ H fun x H1 => ∃ z, x = .str z ∧ z.length ≤ 1000 ∧ t σ H1 fun zs H2 => R (z :: zs) H2
theorem pj_cons {e : Expr} {es : List Expr} {te : TE} {t : TJ} (h1 : PE X e te) (h2 : PJ X es t) (hs : evalEach (e :: es) X.env = eval e X.env :: evalEach es X.env := by rfl) : PJ X (e :: es) (tJ te t) := by
  intro out pins s σ H Q hl I h
  rw [hs]
  refine joinParts_cons (thn (h1 pins s σ H _ I h) fun v s1 ⟨x, H1, I1, r1, q1⟩ => ?_)
  obtain ⟨z, rfl, hz, q⟩ := q1
  obtain ⟨tk, rfl⟩ := r1
  rw [List.length_cons] at hl
  have e1 := len_app out z
  exact ⟨by omega, h2 (out ++ z) pins s1 σ H1 Q (by omega) I1 q⟩
def tFv (te : TE) : TE := fun σ H Q => te σ H fun x H1 => ∃ z, x = .str z ∧ z.length ≤ 1000 ∧ Q (.str z) H1
theorem pe_fv {e : Expr} {te : TE} (h1 : PE X e te) : PE X (.FormattedValue e (-1) none pos) (tFv te) := by
  intro pins s σ H Q I h
  refine FormattedValue_plain (thn (h1 pins s σ H _ I h) fun v s1 ⟨x, H1, I1, r1, q1⟩ => ?_)
  obtain ⟨z, rfl, hz, q⟩ := q1
  obtain ⟨tk, rfl⟩ := r1
  have l1 : 1000 ≤ sizeLine := by rw [sizeLine_eq]; decide
  exact formatField_str (fun t' k => ⟨.str z, H1, I1.tok _, ⟨t', rfl⟩, q⟩) (Nat.le_trans hz l1)
def catS (zs : List Str) : Str := zs.foldl (fun a b => a ++ b) Str.empty
def tJoined (t : TJ) : TE := fun σ H Q => t σ H fun zs H1 => Q (.str (catS zs)) H1
theorem pe_js {v1 v2 : Expr} {es : List Expr} {t : TJ} (h : PJ X (v1 :: v2 :: es) t) (hl : (v1 :: v2 :: es).length ≤ 100 := by decide) (hs : evalEach (v1 :: v2 :: es) X.env = eval v1 X.env :: eval v2 X.env :: evalEach es X.env := by rfl) : PE X (.JoinedStr (v1 :: v2 :: es) pos) (tJoined t) := by
  intro pins s σ H Q I hw
  refine JoinedStr_many ?_
  rw [← hs]
  refine h Str.empty pins s σ H Q ?_ I hw
  have : 200000 ≤ sizeLine := by rw [sizeLine_eq]; decide
  show 0 + 1000 * _ ≤ _
  omega
end
end L2
namespace L2
open PySem PySem.Spec PyProof.Rows PySem.W
section
variable {X : Cx} {pins : List (Addr × Obj)} {σ : St} {H : Hp} {s : Shared} {d : Addr} {ob : Obj} {kvs : List (Key × V)}
theorem Inv.swap {o o' : HO} (I : Inv X pins σ H s) (e : H d = some o) (n1 : ∀ xs, o ≠ .tup xs) (n2 : ∀ y, o ≠ .own y) (n3 : ∀ ps, o ≠ .tbl ps) (h0 : ∀ u v, X.H₀ d ≠ some (.frz u v)) (new : ObjOk X.prog X.w (upd H d o') s.heap d o') : Inv X pins σ (upd H d o') s := by
  have nd : ∀ b, H b = none → b ≠ d := fun b hb z => by rw [z, e] at hb; cases hb
  refine ⟨I.ok, I.os, I.bare, ⟨I.base.keep, I.base.slot, fun b u q n hx => ?_, I.base.there, fun b xs q => ?_, fun b u v q => ?_, fun b ps q => ?_⟩, I.loc, I.cell, ?_, fun x c q => ?_, fun p hp => ?_, fun b u q => ?_, I.len⟩
  · have := I.base.free b u q n hx
    rw [upd_ne (nd b this)]; exact this
  · have := I.base.tups b xs q
    rw [upd_ne (fun z => by rw [z, e] at this; exact n1 _ (Option.some.inj this))]; exact this
  · have := I.base.frzs b u v q
    rw [upd_ne (fun z => by rw [z] at q; exact h0 _ _ q)]; exact this
  · obtain ⟨more, this⟩ := I.base.tbls b ps q
    exact ⟨more, by rw [upd_ne (fun z => by rw [z, e] at this; exact n3 _ (Option.some.inj this))]; exact this⟩
  · rw [upd_ne (nd _ I.free)]; exact I.free
  · have := I.freeC x c q
    rw [upd_ne (nd _ this)]; exact this
  · obtain ⟨q1, q2, q3⟩ := I.pin p hp
    exact ⟨q1, by rw [upd_ne (nd _ q2)]; exact q2, q3⟩
  · by_cases hb : b = d
    · subst hb
      rw [upd_same] at q
      cases q
      exact new
    · rw [upd_ne hb] at q
      refine (I.hok b u q).stay (fun _ _ _ z => z) (fun c z => ?_) fun c xs z => ?_
      · rw [upd_ne (fun y => by rw [y, e] at z; exact n2 _ (Option.some.inj z))]; exact z
      · rw [upd_ne (fun y => by rw [y, e] at z; exact n1 _ (Option.some.inj z))]; exact z
theorem Inv.freeze (I : Inv X pins σ H s) (e : H d = some (.dK kvs)) : (∀ u v, X.H₀ d ≠ some (.frz u v)) ∧ ∃ ob, s.heap.get? d = some ob ∧ Inv X pins σ (upd H d (.frz ob (.dK kvs))) s := by
  have h0 : ∀ u v, X.H₀ d ≠ some (.frz u v) := fun u v z => by
    have := I.base.frzs d u v z
    rw [e] at this; cases this
  obtain ⟨ob, hob⟩ := (I.hok d _ e).is
  exact ⟨h0, ob, hob, I.swap e (fun _ z => by cases z) (fun _ z => by cases z) (fun _ z => by cases z) h0 ⟨hob, I.hok d _ e⟩⟩
theorem Inv.thaw (I : Inv X pins σ H s) (e : H d = some (.frz ob (.dK kvs))) (h0 : ∀ u v, X.H₀ d ≠ some (.frz u v)) : Inv X pins σ (upd H d (.dK kvs)) s :=
  I.swap e (fun _ z => by cases z) (fun _ z => by cases z) (fun _ z => by cases z) h0 (I.hok d _ e).2
end
def Itk (d : Addr) (ob : Obj) (kvs : List (Key × V)) : It :=
  ⟨fun i H => H d = some (.frz ob (.dK kvs)) ∧ i < kvs.length, fun i H x H' => H' = H ∧ ∃ p, kvs[i]? = some p ∧ x = kV p.1, fun i H => H d = some (.frz ob (.dK kvs)) ∧ kvs.length ≤ i⟩
theorem key_rel {P : Program} {w : World} {k : Key} {v : Value} (h : (mixKind P w).is k v = true) : RelV (kV k) v := by
  have h : keyIs k v = true := h
  rcases keyIs_shape h with ⟨i, t, rfl, rfl⟩ | ⟨y, t, rfl, rfl⟩
  · exact ⟨t, rfl⟩
  · exact ⟨t, rfl⟩
theorem turn_keys {P : Program} {w : World} {K : PySem.W.Frag} {x : Str} {px : Pos} {d it : Addr} {ob : Obj} {kvs : List (Key × V)} {vs : List (Key × Value)} {ep : Nat} (kv : KV kvs vs)
    (hD : ∀ h : Heap, h.get? d = some ob → h.DictAt (mixKind P w) d vs ep) : Turn P w K (.Name x px) (Itk d ob kvs) [it] it (fun i h => h.IsKeyIter it d i vs.length ep) where
  mem := by simp
  obj := fun i h st b hb => by
    rw [List.mem_singleton.mp hb]
    obtain ⟨o, e, c, dt⟩ := st
    exact ⟨o, e, fun v z => by rw [dt] at z; cases z⟩
  keep := fun i h h' st k => by
    obtain ⟨o, e, r⟩ := st
    exact ⟨o, k it (by simp) o e, r⟩
  item := by
    intro X hP hw hK hc i pins s σ H E I hf st hg
    subst hP hw hK
    obtain ⟨e, hi⟩ := hg
    obtain ⟨f0, f1, f2, f3, f4, f5⟩ := hf it (by simp)
    have hl : kvs.length = vs.length := by have := congrArg List.length kv.keys; simpa using this
    have hob := (I.hok d _ e).1
    obtain ⟨⟨k, v⟩, hx⟩ : ∃ p, vs[i]? = some p := ⟨vs[i]'(by omega), by simp [show i < vs.length by omega]⟩
    refine wpAny_pyNext_dict_item st (hD _ hob) hx fun key h' hkey st' sb => ?_
    have I1 : Inv X pins σ H { s with heap := h' } := I.turned (t' := s.toks) (fun b o hb e => (sb.2 b hb).trans e) f0 f1 f3 f4 f5
    refine ⟨key, rfl, wpAny_pure ⟨kV k, H, I1, key_rel hkey, ⟨rfl, ?_⟩, st', fun b hb => (hf b hb).1⟩⟩
    have e2 : (kvs.map (·.1))[i]? = some k := by rw [kv.keys, List.getElem?_map, hx]; rfl
    rw [List.getElem?_map] at e2
    cases ez : kvs[i]? with
    | none => rw [ez] at e2; cases e2
    | some p => rw [ez] at e2; exact ⟨p, rfl, by rw [← Option.some.inj e2]⟩
  done := by
    intro X hP hw hK hc i pins s σ H E I hf st hg
    subst hP hw hK
    obtain ⟨e, hi⟩ := hg
    obtain ⟨f0, f1, f2, f3, f4, f5⟩ := hf it (by simp)
    have hl : kvs.length = vs.length := by have := congrArg List.length kv.keys; simpa using this
    exact wpAny_pyNext_dict_end (I.ok.hd hc) st (hD _ (I.hok d _ e).1) (by simp; omega) fun h' eb => ⟨rfl, I.turned (t' := s.toks) (fun b o hb e => eb b o hb e) f0 f1 f3 f4 f5⟩
  self := fun _ _ _ _ _ st h => wpAny_pyIter_keyiter st h
section
variable {X : Cx}
def iKeys (te : TE) : TI := fun σ H R => te σ H fun x H1 => ∃ d kvs, x = .ref d ∧ H1 d = some (.dK kvs) ∧ ∀ ob, R (Itk d ob kvs) (upd H1 d (.frz ob (.dK kvs)))
theorem pi_dict {l : Expr} {te : TE} {x : Str} {px : Pos} (hl : PE X l te) : PI X (.Name x px) l (iKeys te) := by
  intro pins s σ H R I h
  refine thn (hl pins s σ H _ I h) fun v s1 ⟨y, H1, I1, r1, q1⟩ => ?_
  obtain ⟨d, kvs, rfl, hd, q⟩ := q1
  cases r1
  obtain ⟨hz, lo, vs, kv, hD⟩ := dk_of I1.hok hd
  obtain ⟨ep, hat⟩ := hD.dictAt
  obtain ⟨h0, ob, hob, I2⟩ := I1.freeze hd
  refine wpAny_pyIter_dict lo hat ?_
  refine ⟨s1.heap.objs.size, [s1.heap.objs.size], _, _, _, rfl, I2.kept (t' := s1.toks) fun b o e => Heap.get?_push_of_some _ e, turn_keys (it := s1.heap.objs.size) (vs := vs) (ep := ep) kv (fun h e => ?_), ⟨_, Heap.get?_push_size _ rfl, rfl, rfl⟩, fun b hb => ?_, q ob⟩
  · obtain ⟨o, es, e1, r⟩ := hat
    rw [hob] at e1
    cases e1
    exact ⟨ob, es, e, r⟩
  · rw [List.mem_singleton.mp hb]
    exact I2.fpOk (Nat.le_refl _) I2.fresh
def Ends.thaw (D : Ends) (d : Addr) (kvs : List (Key × V)) : Ends where
  nx := fun σ H => (∃ ob, H d = some (.frz ob (.dK kvs))) ∧ D.nx σ (upd H d (.dK kvs))
  rt := fun v H => (∃ ob, H d = some (.frz ob (.dK kvs))) ∧ D.rt v (upd H d (.dK kvs))
  bk := fun σ H => (∃ ob, H d = some (.frz ob (.dK kvs))) ∧ D.bk σ (upd H d (.dK kvs))
  ct := fun σ H => (∃ ob, H d = some (.frz ob (.dK kvs))) ∧ D.ct σ (upd H d (.dK kvs))
def tThaw (t : TS) : TS := fun D σ H => ∃ d kvs, H d = some (.dK kvs) ∧ t (D.thaw d kvs) σ H
theorem ps_thaw {st : Stmt} {t : TS} (h : PS X st t) : PS X st (tThaw t) := by
  intro pins s σ H D I hw
  obtain ⟨d, kvs, e, hw⟩ := hw
  have h0 := (I.freeze e).1
  refine thn (h pins s σ H _ I hw) fun f s' q => ?_
  cases f with
  | next => obtain ⟨σ', H', I', ⟨ob, e'⟩, q⟩ := q; exact ⟨σ', _, I'.thaw e' h0, q⟩
  | brk => obtain ⟨σ', H', I', ⟨ob, e'⟩, q⟩ := q; exact ⟨σ', _, I'.thaw e' h0, q⟩
  | cont => obtain ⟨σ', H', I', ⟨ob, e'⟩, q⟩ := q; exact ⟨σ', _, I'.thaw e' h0, q⟩
  | ret u => obtain ⟨v, σ', H', I', r, ⟨ob, e'⟩, q⟩ := q; exact ⟨v, σ', _, I'.thaw e' h0, r, q⟩
end
end L2
namespace W
theorem fmod_neg_range (p : Int) {q : Int} (h : q < 0) : q < p.fmod q ∧ p.fmod q ≤ 0 := by
  rw [Int.fmod_eq_emod]
  have h1 := Int.emod_nonneg p (show q ≠ 0 by omega)
  have h2 := Int.emod_lt_of_neg p h
  by_cases d : q ∣ p
  · rw [if_pos (Or.inr d), Int.emod_eq_zero_of_dvd d]; omega
  · rw [if_neg (by intro z; rcases z with z | z; omega; exact d z)]
    have h3 : p % q ≠ 0 := fun z => d (Int.dvd_of_emod_eq_zero z)
    omega
theorem fmod_abs (p : Int) {q : Int} (h : q ≠ 0) : (p.fmod q).natAbs < q.natAbs := by
  rcases Int.lt_or_gt_of_ne h with z | z
  · have := fmod_neg_range p z; omega
  · have h1 := Int.fmod_lt_of_pos p z
    have h2 := Int.fmod_nonneg_of_pos p z
    omega
theorem gcd_fmod (p q : Int) : Int.gcd q (p.fmod q) = Int.gcd p q := by
  have h : p.fmod q = p - p.fdiv q * q := by rw [Int.fmod_def, Int.mul_comm]
  rw [h, Int.gcd_sub_mul_right_right, Int.gcd_comm]
def cd (x y : Int) : Int := if y < 0 then -(Int.gcd x y : Int) else (Int.gcd x y : Int)
theorem cd_zero {p q : Int} (h : q ≠ 0) (z : p.fmod q = 0) : q = cd p q := by
  have e := gcd_fmod p q
  rw [z, Int.gcd_zero_right] at e
  unfold cd
  rw [← e]
  split <;> omega
theorem cd_step {p q : Int} (h : q ≠ 0) (z : p.fmod q ≠ 0) : cd q (p.fmod q) = cd p q := by
  unfold cd
  rw [gcd_fmod]
  rcases Int.lt_or_gt_of_ne h with g | g
  · have := fmod_neg_range p g
    rw [if_pos (by omega), if_pos g]
  · have h2 := Int.fmod_nonneg_of_pos p g
    rw [if_neg (by omega), if_neg (by omega)]
theorem cd_dvd_left (x y : Int) : cd x y ∣ x := by
  unfold cd; split
  · exact (Int.neg_dvd).mpr (Int.gcd_dvd_left x y)
  · exact Int.gcd_dvd_left x y
theorem cd_dvd_right (x y : Int) : cd x y ∣ y := by
  unfold cd; split
  · exact (Int.neg_dvd).mpr (Int.gcd_dvd_right x y)
  · exact Int.gcd_dvd_right x y
theorem cd_ne {x y : Int} (h : y ≠ 0) : cd x y ≠ 0 := by
  have := Int.gcd_pos_of_ne_zero_right x h
  unfold cd; split <;> omega
theorem cd_abs (x y : Int) : (cd x y).natAbs = Int.gcd x y := by unfold cd; split <;> omega
theorem cd_le {x y : Int} (h : y ≠ 0) : (cd x y).natAbs ≤ y.natAbs := by
  rw [cd_abs]
  have h1 : Int.gcd x y ∣ y.natAbs := Int.natCast_dvd_natCast.mp (Int.dvd_natAbs.mpr (Int.gcd_dvd_right x y))
  exact Nat.le_of_dvd (by omega) h1
abbrev Num := Int × Int
def nrm (t b : Int) : Num := (t.fdiv (cd t b), b.fdiv (cd t b))
def lnum (t b : Int) : Num := if b < 0 then ((-t).fdiv (Int.gcd (-t) (-b)), (-b).fdiv (Int.gcd (-t) (-b))) else (t.fdiv (Int.gcd t b), b.fdiv (Int.gcd t b))
theorem fdiv_neg_neg {t g : Int} (hg : g ≠ 0) (d : g ∣ t) : (-t).fdiv g = t.fdiv (-g) := by
  obtain ⟨k, rfl⟩ := d
  have e1 : -(g * k) = g * (-k) := by rw [Int.mul_neg]
  have e2 : g * k = (-g) * (-k) := by rw [Int.neg_mul_neg]
  rw [e1, Int.mul_fdiv_cancel_left _ hg, e2, Int.mul_fdiv_cancel_left _ (by omega)]
theorem lnum_eq {t b : Int} (h : b ≠ 0) : lnum t b = nrm t b := by
  unfold lnum nrm cd
  by_cases z : b < 0
  · rw [if_pos z, if_pos z, Int.gcd_neg, Int.neg_gcd]
    have g0 := Int.gcd_pos_of_ne_zero_right t h
    rw [fdiv_neg_neg (by omega) (Int.gcd_dvd_left t b), fdiv_neg_neg (by omega) (Int.gcd_dvd_right t b)]
  · rw [if_neg z, if_neg z]
end W
namespace W
open L2
def Ok (q : Num) : Prop := 0 < q.2 ∧ Int.gcd q.1 q.2 = 1
theorem fdiv_cd {t b : Int} (h : b ≠ 0) : cd t b * (nrm t b).1 = t ∧ cd t b * (nrm t b).2 = b := by
  have h0 := cd_ne (x := t) h
  obtain ⟨k, hk⟩ := cd_dvd_left t b
  obtain ⟨m, hm⟩ := cd_dvd_right t b
  have e1 : t.fdiv (cd t b) = k := by
    have := Int.mul_fdiv_cancel_left k h0
    rwa [← hk] at this
  have e2 : b.fdiv (cd t b) = m := by
    have := Int.mul_fdiv_cancel_left m h0
    rwa [← hm] at this
  exact ⟨by show cd t b * t.fdiv (cd t b) = t; rw [e1]; exact hk.symm, by show cd t b * b.fdiv (cd t b) = b; rw [e2]; exact hm.symm⟩
theorem cd_sign {t b : Int} (h : b ≠ 0) : (0 < b → 0 < cd t b) ∧ (b < 0 → cd t b < 0) := by
  have := Int.gcd_pos_of_ne_zero_right t h
  unfold cd
  constructor
  · intro z; rw [if_neg (by omega)]; omega
  · intro z; rw [if_pos z]; omega
theorem nrm_pos {t b : Int} (h : b ≠ 0) : 0 < (nrm t b).2 := by
  obtain ⟨_, e⟩ := fdiv_cd (t := t) h
  obtain ⟨s1, s2⟩ := cd_sign (t := t) h
  rcases Int.lt_or_gt_of_ne h with z | z
  · have c := s2 z
    rcases Int.lt_or_le 0 (nrm t b).2 with q | q
    · exact q
    · have := Int.mul_nonneg_of_nonpos_of_nonpos (Int.le_of_lt c) q
      omega
  · have c := s1 z
    rcases Int.lt_or_le 0 (nrm t b).2 with q | q
    · exact q
    · have := Int.mul_nonpos_of_nonneg_of_nonpos (Int.le_of_lt c) q
      omega
theorem nrm_ok {t b : Int} (h : b ≠ 0) : Ok (nrm t b) := by
  refine ⟨nrm_pos h, ?_⟩
  obtain ⟨e1, e2⟩ := fdiv_cd (t := t) h
  have g : Int.gcd (cd t b * (nrm t b).1) (cd t b * (nrm t b).2) = (cd t b).natAbs * Int.gcd (nrm t b).1 (nrm t b).2 := Int.gcd_mul_left _ _ _
  rw [e1, e2, cd_abs] at g
  have p := Int.gcd_pos_of_ne_zero_right t h
  have : Int.gcd t b * 1 = Int.gcd t b * Int.gcd (nrm t b).1 (nrm t b).2 := by rw [Nat.mul_one]; exact g
  exact (Nat.eq_of_mul_eq_mul_left p this).symm
theorem abs_le_mul {c x : Int} (h : c ≠ 0) : x.natAbs ≤ (c * x).natAbs := by
  rw [Int.natAbs_mul]
  exact Nat.le_mul_of_pos_left _ (by omega)
theorem nrm_bd {t b : Int} {m n : Nat} (h : b ≠ 0) (h1 : Bd m t) (h2 : Bd n b) : Bd m (nrm t b).1 ∧ Bd n (nrm t b).2 := by
  obtain ⟨e1, e2⟩ := fdiv_cd (t := t) h
  have a1 := abs_le_mul (x := (nrm t b).1) (cd_ne (x := t) h)
  have a2 := abs_le_mul (x := (nrm t b).2) (cd_ne (x := t) h)
  rw [e1] at a1; rw [e2] at a2
  exact ⟨Nat.lt_of_le_of_lt a1 h1, Nat.lt_of_le_of_lt a2 h2⟩
structure NB (n : Nat) (q : Num) : Prop where
  ok : Ok q
  b1 : Bd n q.1
  b2 : Bd n q.2
theorem NB.mono {m n : Nat} {q : Num} (h : NB m q) (k : m ≤ n) : NB n q := ⟨h.ok, h.b1.mono k, h.b2.mono k⟩
theorem NB.nz {n : Nat} {q : Num} (h : NB n q) : q.2 ≠ 0 := by have := h.ok.1; omega
theorem NB.nrm {t b : Int} {n : Nat} (h : b ≠ 0) (h1 : Bd n t) (h2 : Bd n b) : NB n (nrm t b) := ⟨nrm_ok h, (nrm_bd h h1 h2).1, (nrm_bd h h1 h2).2⟩
def nAdd (x y : Num) : Num := nrm (x.1 * y.2 + y.1 * x.2) (x.2 * y.2)
def nMul (x y : Num) : Num := nrm (x.1 * y.1) (x.2 * y.2)
theorem NB.add {n : Nat} {x y : Num} (h : NB n x) (k : NB n y) : NB (2 * n + 1) (nAdd x y) :=
  .nrm (Int.mul_ne_zero h.nz k.nz) (((h.b1.mul k.b2).add (k.b1.mul h.b2)).mono (by omega)) ((h.b2.mul k.b2).mono (by omega))
theorem NB.mul {n : Nat} {x y : Num} (h : NB n x) (k : NB n y) : NB (2 * n + 1) (nMul x y) :=
  .nrm (Int.mul_ne_zero h.nz k.nz) ((h.b1.mul k.b1).mono (by omega)) ((h.b2.mul k.b2).mono (by omega))
theorem NB.zero {n : Nat} : NB (n + 1) (0, 1) := ⟨⟨by decide, by decide⟩, Nat.lt_of_lt_of_le (by decide) (Nat.pow_le_pow_right (by decide) (Nat.le_add_left 1 n)), Nat.lt_of_lt_of_le (by decide : 1 < 2 ^ 1) (Nat.pow_le_pow_right (by decide) (Nat.le_add_left 1 n))⟩
end W
namespace W
open L2
def nv (x : Num) : Rat := Rat.divInt x.1 x.2
theorem nv_nrm {t b : Int} (h : b ≠ 0) : nv (nrm t b) = Rat.divInt t b := by
  obtain ⟨e1, e2⟩ := fdiv_cd (t := t) h
  have p := nrm_pos (t := t) h
  unfold nv
  rw [Rat.divInt_eq_divInt_iff (by omega) h]
  generalize (nrm t b).1 = k at e1 ⊢
  generalize (nrm t b).2 = m at e2 p ⊢
  rw [← e1]
  rw [show k * b = k * (cd t b * m) from by rw [e2]]
  rw [Int.mul_left_comm, Int.mul_assoc]
theorem nv_add {x y : Num} (h : Ok x) (k : Ok y) : nv (nAdd x y) = nv x + nv y := by
  have h1 := h.1; have k1 := k.1
  unfold nAdd
  rw [nv_nrm (Int.mul_ne_zero (by omega) (by omega))]
  exact (Rat.divInt_add_divInt _ _ (by omega) (by omega)).symm
theorem nv_mul {x y : Num} (h : Ok x) (k : Ok y) : nv (nMul x y) = nv x * nv y := by
  have h1 := h.1; have k1 := k.1
  unfold nMul
  rw [nv_nrm (Int.mul_ne_zero (by omega) (by omega))]
  exact (Rat.divInt_mul_divInt _ _).symm
theorem ok_add {x y : Num} (h : Ok x) (k : Ok y) : Ok (nAdd x y) := nrm_ok (Int.mul_ne_zero (by have := h.1; omega) (by have := k.1; omega))
theorem ok_mul {x y : Num} (h : Ok x) (k : Ok y) : Ok (nMul x y) := nrm_ok (Int.mul_ne_zero (by have := h.1; omega) (by have := k.1; omega))
theorem idvd {a b c : Int} (h : a ∣ b * c) (g : Int.gcd a b = 1) : a ∣ c := by
  have h1 : a.natAbs ∣ b.natAbs * c.natAbs := by rw [← Int.natAbs_mul]; exact Int.natAbs_dvd_natAbs.mpr h
  exact Int.natAbs_dvd_natAbs.mp (Nat.Coprime.dvd_of_dvd_mul_left (show Nat.Coprime a.natAbs b.natAbs from g) h1)
theorem nv_eq {x y : Num} (h : Ok x) (k : Ok y) (e : nv x = nv y) : x = y := by
  have h1 := h.1; have k1 := k.1
  unfold nv at e
  rw [Rat.divInt_eq_divInt_iff (by omega) (by omega)] at e
  have d1 : x.2 ∣ y.2 := idvd (show x.2 ∣ x.1 * y.2 from ⟨y.1, by rw [e, Int.mul_comm]⟩) (by rw [Int.gcd_comm]; exact h.2)
  have d2 : y.2 ∣ x.2 := idvd (show y.2 ∣ y.1 * x.2 from ⟨x.1, by rw [← e, Int.mul_comm]⟩) (by rw [Int.gcd_comm]; exact k.2)
  have e2 : x.2 = y.2 := Int.dvd_antisymm (by omega) (by omega) d1 d2
  rw [e2] at e
  have e1 : x.1 = y.1 := Int.eq_of_mul_eq_mul_right (by omega) e
  exact Prod.ext e1 e2
theorem nv_zero : nv (0, 1) = 0 := by decide +kernel
theorem ok_zero : Ok (0, 1) := ⟨by decide, by decide⟩
end W
set_option maxHeartbeats 1000000
namespace W
open L2 PySem
theorem NB.add2 {m n : Nat} {x y : Num} (h : NB m x) (k : NB n y) : NB (m + n + 1) (nAdd x y) :=
  .nrm (Int.mul_ne_zero h.nz k.nz) (((h.b1.mul k.b2).add ((k.b1.mul h.b2).mono (n := m + n) (by omega))).mono (by omega)) ((h.b2.mul k.b2).mono (by omega))
abbrev Pr := Str × Num
def tot (ps : List Pr) (n : Str) : Num := ps.foldl (fun acc p => if p.1 = n then nAdd acc p.2 else acc) (0, 1)
def cnt (ps : List Pr) (n : Str) : Nat := ps.countP (fun p => decide (p.1 = n))
theorem tot_snoc (ps : List Pr) (p : Pr) (n : Str) : tot (ps ++ [p]) n = if p.1 = n then nAdd (tot ps n) p.2 else tot ps n := by unfold tot; rw [List.foldl_append]; rfl
theorem snoc_ind {α : Type} {M : List α → Prop} (h0 : M []) (h1 : ∀ l a, M l → M (l ++ [a])) : ∀ l, M l := by
  intro l
  rw [← List.reverse_reverse l]
  induction l.reverse with
  | nil => exact h0
  | cons a r ih => rw [List.reverse_cons]; exact h1 _ _ ih
theorem tot_nb {b : Nat} {ps : List Pr} (h : ∀ p ∈ ps, NB b p.2) (n : Str) : NB ((b + 1) * cnt ps n + 1) (tot ps n) := by
  revert n h
  revert ps
  intro ps
  refine snoc_ind (M := fun ps : List Pr => (∀ p ∈ ps, NB b p.2) → ∀ n, NB ((b + 1) * cnt ps n + 1) (tot ps n)) ?_ ?_ ps
  all_goals clear ps
  case refine_1 => exact fun _ n => NB.zero (n := 0)
  case refine_2 =>
   intro l a ih h n
   have i1 := ih (fun p hp => h p (List.mem_append_left _ hp)) n
   have i2 := h a (by simp)
   rw [tot_snoc]
   have e : cnt (l ++ [a]) n = cnt l n + (if a.1 = n then 1 else 0) := by unfold cnt; rw [List.countP_append]; simp [List.countP_cons]
   rw [e]
   by_cases c : a.1 = n
   · rw [if_pos c, if_pos c]
     refine (i1.add2 i2).mono ?_
     rw [Nat.mul_add, Nat.mul_one]; omega
   · rw [if_neg c, if_neg c]
     exact i1
theorem tot_ok {ps : List Pr} (h : ∀ p ∈ ps, Ok p.2) (n : Str) : Ok (tot ps n) := by
  revert h
  refine snoc_ind (M := fun ps : List Pr => (∀ p ∈ ps, Ok p.2) → Ok (tot ps n)) (fun _ => ok_zero) (fun l a ih h => ?_) ps
  rw [tot_snoc]
  have i1 := ih (fun p hp => h p (List.mem_append_left _ hp))
  by_cases c : a.1 = n
  · rw [if_pos c]; exact ok_add i1 (h a (by simp))
  · rw [if_neg c]; exact i1
def rsum : List Pr → Str → Rat
  | [], _ => 0
  | p :: r, n => (if p.1 = n then nv p.2 else 0) + rsum r n
theorem rsum_append (ps qs : List Pr) (n : Str) : rsum (ps ++ qs) n = rsum ps n + rsum qs n := by
  induction ps with
  | nil => show rsum qs n = 0 + rsum qs n; grind
  | cons p r ih =>
    show (if p.1 = n then nv p.2 else 0) + rsum (r ++ qs) n = (if p.1 = n then nv p.2 else 0) + rsum r n + rsum qs n
    rw [ih]; grind
theorem rsum_reverse (ps : List Pr) (n : Str) : rsum ps.reverse n = rsum ps n := by
  induction ps with
  | nil => rfl
  | cons p r ih =>
    rw [List.reverse_cons, rsum_append, ih]
    show rsum r n + ((if p.1 = n then nv p.2 else 0) + 0) = (if p.1 = n then nv p.2 else 0) + rsum r n
    grind
theorem nv_tot {ps : List Pr} (h : ∀ p ∈ ps, Ok p.2) (n : Str) : nv (tot ps n) = rsum ps n := by
  revert h
  refine snoc_ind (M := fun ps : List Pr => (∀ p ∈ ps, Ok p.2) → nv (tot ps n) = rsum ps n) (fun _ => ?_) (fun l a ih h => ?_) ps
  · exact nv_zero
  · have i1 := ih (fun p hp => h p (List.mem_append_left _ hp))
    have o1 := tot_ok (fun p hp => h p (List.mem_append_left _ hp)) n
    rw [tot_snoc, rsum_append, ← i1]
    show _ = nv (tot l n) + ((if a.1 = n then nv a.2 else 0) + 0)
    by_cases c : a.1 = n
    · rw [if_pos c, if_pos c, nv_add o1 (h a (by simp))]; grind
    · rw [if_neg c, if_neg c]; grind
theorem tot_reverse {ps : List Pr} (h : ∀ p ∈ ps, Ok p.2) (n : Str) : tot ps.reverse n = tot ps n :=
  nv_eq (tot_ok (fun p hp => h p (List.mem_reverse.mp hp)) n) (tot_ok h n) (by rw [nv_tot (fun p hp => h p (List.mem_reverse.mp hp)), nv_tot h, rsum_reverse])
def SLt (a b : Str) : Prop := ¬ b.cps.toList < a.cps.toList ∧ a ≠ b
theorem sle_antisymm {a b : Str} (h : ¬ b.cps.toList < a.cps.toList) (k : ¬ a.cps.toList < b.cps.toList) : a = b := by
  have e : a.cps.toList = b.cps.toList := List.le_antisymm (List.not_lt.mp h) (List.not_lt.mp k)
  obtain ⟨⟨x⟩⟩ := a
  obtain ⟨⟨y⟩⟩ := b
  have e : x = y := e
  rw [e]
theorem SLt.asymm {a b : Str} (h : SLt a b) (k : SLt b a) : False := h.2 (sle_antisymm h.1 k.1)
theorem rows_eq {α : Type} {f : α → Str} : ∀ {l m : List α}, l.Pairwise (fun a b => SLt (f a) (f b)) → m.Pairwise (fun a b => SLt (f a) (f b)) → (∀ a, a ∈ l ↔ a ∈ m) → l = m
  | [], m, _, _, h => by
    cases m with
    | nil => rfl
    | cons b m => exact absurd ((h b).mpr (by simp)) (by simp)
  | a :: l, [], _, _, h => absurd ((h a).mp (by simp)) (by simp)
  | a :: l, b :: m, hl, hm, h => by
    rw [List.pairwise_cons] at hl hm
    have hab : a = b := by
      rcases List.mem_cons.mp ((h a).mp (by simp)) with e | e
      · exact e
      · rcases List.mem_cons.mp ((h b).mpr (by simp)) with e' | e'
        · exact e'.symm
        · exact (SLt.asymm (hm.1 a e) (hl.1 b e')).elim
    subst hab
    rw [rows_eq hl.2 hm.2 fun c => ⟨fun hc => ?_, fun hc => ?_⟩]
    · rcases List.mem_cons.mp ((h c).mp (List.mem_cons_of_mem _ hc)) with e | e
      · subst e; exact ((hl.1 c hc).2 rfl).elim
      · exact e
    · rcases List.mem_cons.mp ((h c).mpr (List.mem_cons_of_mem _ hc)) with e | e
      · subst e; exact ((hm.1 c hc).2 rfl).elim
      · exact e
structure Canon (ps L : List Pr) : Prop where
  rise : L.Pairwise (fun a b => SLt a.1 b.1)
  mem : ∀ p : Pr, p ∈ L ↔ (p.2 = tot ps p.1 ∧ p.2 ≠ (0, 1))
theorem Canon.eq {ps L M : List Pr} (h : Canon ps L) (k : Canon ps M) : L = M := rows_eq h.rise k.rise fun p => by rw [h.mem, k.mem]
theorem Canon.rev {ps L : List Pr} (o : ∀ p ∈ ps, Ok p.2) (h : Canon ps.reverse L) : Canon ps L := ⟨h.rise, fun p => by rw [h.mem, tot_reverse o]⟩
theorem rsum_rise : ∀ {L : List Pr}, L.Pairwise (fun a b => SLt a.1 b.1) → (∀ p ∈ L, rsum L p.1 = nv p.2) ∧ ∀ n, (∀ p ∈ L, p.1 ≠ n) → rsum L n = 0
  | [], _ => ⟨fun p hp => (by cases hp), fun n _ => rfl⟩
  | q :: L, h => by
    rw [List.pairwise_cons] at h
    obtain ⟨i1, i2⟩ := rsum_rise h.2
    refine ⟨fun p hp => ?_, fun n hn => ?_⟩
    · rcases List.mem_cons.mp hp with e | e
      · subst e
        show (if p.1 = p.1 then nv p.2 else 0) + rsum L p.1 = nv p.2
        rw [if_pos rfl, i2 p.1 fun r hr z => (h.1 r hr).2 z.symm]
        grind
      · show (if q.1 = p.1 then nv q.2 else 0) + rsum L p.1 = nv p.2
        rw [if_neg (h.1 p e).2, i1 p e]
        grind
    · show (if q.1 = n then nv q.2 else 0) + rsum L n = 0
      rw [if_neg (hn q (by simp)), i2 n fun p hp => hn p (List.mem_cons_of_mem _ hp)]
      grind
theorem cnt_self {L : List Pr} (h : L.Pairwise (fun a b => SLt a.1 b.1)) (n : Str) : cnt L n ≤ 1 := by
  induction L with
  | nil => exact Nat.zero_le _
  | cons q L ih =>
    rw [List.pairwise_cons] at h
    unfold cnt
    rw [List.countP_cons]
    by_cases c : q.1 = n
    · have : L.countP (fun p => decide (p.1 = n)) = 0 := List.countP_eq_zero.mpr fun p hp => by
        have := (h.1 p hp).2
        simp only [decide_eq_true_eq]
        exact fun z => this (c.trans z.symm)
      rw [this]; simp [c]
    · have := ih h.2
      unfold cnt at this
      simp [c]; exact this
end W
namespace M
open PySem L2
inductive A where
  | non | bl (b : Bool) | int (i : Int) | str (x : Str) | tup (xs : List A) | lst (xs : List A) | dic (kvs : List (Key × A)) | exc (c : Str)
structure Kx where
  K : PySem.W.Frag
  mg : Str → Option Value
mutual
inductive RA (k : Kx) (G : Hp) : V → A → Prop
  | non : RA k G .non .non
  | bl (b : Bool) : RA k G (.bl b) (.bl b)
  | int (i : Int) : RA k G (.int i) (.int i)
  | str (x : Str) : RA k G (.str x) (.str x)
  | tup {p : Addr} {vs : List V} {as : List A} (e : SqT k.K G p vs) (r : RAs k G vs as) : RA k G (.ref p) (.tup as)
  | lst {p : Addr} {vs : List V} {as : List A} (e : SqL k.K G p vs) (r : RAs k G vs as) : RA k G (.ref p) (.lst as)
  | dic {p : Addr} {vs : List (Key × V)} {as : List (Key × A)} (e : Rd G p (.dK vs)) (r : RKs k G vs as) : RA k G (.ref p) (.dic as)
  | exc {p C : Addr} {c : Str} (e : G p = some (excO p C)) (m : k.mg c = some (.ref C)) : RA k G (.ref p) (.exc c)
inductive RAs (k : Kx) (G : Hp) : List V → List A → Prop
  | nil : RAs k G [] []
  | cons {v : V} {a : A} {vs : List V} {as : List A} (h : RA k G v a) (r : RAs k G vs as) : RAs k G (v :: vs) (a :: as)
inductive RKs (k : Kx) (G : Hp) : List (Key × V) → List (Key × A) → Prop
  | nil : RKs k G [] []
  | cons {y : Key} {v : V} {a : A} {vs : List (Key × V)} {as : List (Key × A)} (h : RA k G v a) (r : RKs k G vs as) : RKs k G ((y, v) :: vs) ((y, a) :: as)
end
def dkOf : HO → Option (List (Key × V))
  | .dK kvs => some kvs
  | .frz _ (.dK kvs) => some kvs
  | _ => none
def Oq (o o' : HO) : Prop := o' = o ∨ ∃ kvs, dkOf o = some kvs ∧ dkOf o' = some kvs
theorem dk_rd {G : Hp} {b : Addr} {o : HO} {kvs : List (Key × V)} (h : G b = some o) (e : dkOf o = some kvs) : Rd G b (.dK kvs) := by
  unfold dkOf at e
  split at e
  · cases e; exact .inl h
  · cases e; exact .inr ⟨_, h⟩
  · cases e
theorem rd_dk {G : Hp} {b : Addr} {kvs : List (Key × V)} (h : Rd G b (.dK kvs)) : ∃ o, G b = some o ∧ dkOf o = some kvs := by
  rcases h with h | ⟨o, h⟩
  · exact ⟨_, h, rfl⟩
  · exact ⟨_, h, rfl⟩
def Sq (G G' : Hp) : Prop := ∀ b o, G b = some o → ∃ o', G' b = some o' ∧ Oq o o'
theorem Sq.of {G G' : Hp} (h : Same G G') : Sq G G' := fun b o e => ⟨o, h b o e, .inl rfl⟩
theorem Sq.refl (G : Hp) : Sq G G := fun b o e => ⟨o, e, .inl rfl⟩
theorem Sq.keep {G G' : Hp} (h : Sq G G') {b : Addr} {o : HO} (e : G b = some o) (n : dkOf o = none) : G' b = some o := by
  obtain ⟨o', h1, h2⟩ := h b o e
  rcases h2 with rfl | ⟨kvs, h3, _⟩
  · exact h1
  · rw [n] at h3; cases h3
theorem Sq.rdD {G G' : Hp} (h : Sq G G') {b : Addr} {kvs : List (Key × V)} (r : Rd G b (.dK kvs)) : Rd G' b (.dK kvs) := by
  obtain ⟨o, e, d⟩ := rd_dk r
  obtain ⟨o', h1, h2⟩ := h b o e
  rcases h2 with rfl | ⟨kvs', h3, h4⟩
  · exact dk_rd h1 d
  · rw [d] at h3; cases h3; exact dk_rd h1 h4
theorem sqT_sm {K : PySem.W.Frag} {G G' : Hp} {p : Addr} {vs : List V} (h : Sq G G') (q : SqT K G p vs) : SqT K G' p vs := q.imp (fun r => by
  rcases r with r | ⟨o, r⟩
  · exact .inl (h.keep r rfl)
  · exact .inr ⟨o, h.keep r rfl⟩) id
theorem sqL_sm {K : PySem.W.Frag} {G G' : Hp} {p : Addr} {vs : List V} (h : Sq G G') (q : SqL K G p vs) : SqL K G' p vs := q.imp (fun r => by
  rcases r with r | ⟨o, r⟩
  · exact .inl (h.keep r rfl)
  · exact .inr ⟨o, h.keep r rfl⟩) id
section
variable {k : Kx} {G G' : Hp}
mutual
theorem RA.sm (s : Sq G G') : ∀ {v : V} {a : A}, RA k G v a → RA k G' v a
  | _, _, .non => .non
  | _, _, .bl b => .bl b
  | _, _, .int i => .int i
  | _, _, .str x => .str x
  | _, _, .tup e r => .tup (sqT_sm s e) (RAs.sm s r)
  | _, _, .lst e r => .lst (sqL_sm s e) (RAs.sm s r)
  | _, _, .dic e r => .dic (s.rdD e) (RKs.sm s r)
  | _, _, .exc e m => .exc (s.keep e rfl) m
theorem RAs.sm (s : Sq G G') : ∀ {vs : List V} {as : List A}, RAs k G vs as → RAs k G' vs as
  | _, _, .nil => .nil
  | _, _, .cons h r => .cons (RA.sm s h) (RAs.sm s r)
theorem RKs.sm (s : Sq G G') : ∀ {vs : List (Key × V)} {as : List (Key × A)}, RKs k G vs as → RKs k G' vs as
  | _, _, .nil => .nil
  | _, _, .cons h r => .cons (RA.sm s h) (RKs.sm s r)
end
theorem RAs.len : ∀ {vs : List V} {as : List A}, RAs k G vs as → vs.length = as.length
  | _, _, .nil => rfl
  | _, _, .cons _ r => by rw [List.length_cons, List.length_cons, r.len]
theorem RAs.ta : ∀ {vs : List V} {as : List A} {i : Nat} {a : A}, RAs k G vs as → as[i]? = some a → ∃ v, vs[i]? = some v ∧ RA k G v a
  | _, _, _, _, .nil, e => by simp at e
  | _, _, 0, _, .cons h _, e => by cases e; exact ⟨_, rfl, h⟩
  | _, _, i + 1, _, .cons _ r, e => r.ta (i := i) e
theorem RAs.app : ∀ {vs us : List V} {as bs : List A}, RAs k G vs as → RAs k G us bs → RAs k G (vs ++ us) (as ++ bs)
  | _, _, _, _, .nil, s => s
  | _, _, _, _, .cons h r, s => .cons h (r.app s)
theorem RAs.snoc {vs : List V} {as : List A} {v : V} {a : A} (r : RAs k G vs as) (h : RA k G v a) : RAs k G (vs ++ [v]) (as ++ [a]) := r.app (.cons h .nil)
theorem RAs.rev : ∀ {vs : List V} {as : List A}, RAs k G vs as → RAs k G vs.reverse as.reverse
  | _, _, .nil => .nil
  | _, _, .cons h r => by rw [List.reverse_cons, List.reverse_cons]; exact r.rev.snoc h
theorem RAs.take : ∀ {vs : List V} {as : List A} (n : Nat), RAs k G vs as → RAs k G (vs.take n) (as.take n)
  | _, _, 0, _ => .nil
  | _, _, _ + 1, .nil => .nil
  | _, _, n + 1, .cons h r => .cons h (r.take n)
theorem RAs.drop : ∀ {vs : List V} {as : List A} (n : Nat), RAs k G vs as → RAs k G (vs.drop n) (as.drop n)
  | _, _, 0, r => r
  | _, _, _ + 1, .nil => .nil
  | _, _, n + 1, .cons _ r => r.drop n
theorem RAs.set {v : V} {a : A} (h : RA k G v a) : ∀ {vs : List V} {as : List A} (i : Nat), RAs k G vs as → RAs k G (vs.set i v) (as.set i a)
  | _, _, _, .nil => .nil
  | _, _, 0, .cons _ r => .cons h r
  | _, _, i + 1, .cons q r => .cons q (r.set h i)
theorem RAs.strs : ∀ {vs : List V} {ss : List Str}, RAs k G vs (ss.map A.str) → vs = ss.map V.str
  | _, [], .nil => rfl
  | _, _ :: ss, .cons h r => by cases h; rw [r.strs (ss := ss)]; rfl
theorem RAs.ofStrs : ∀ (ss : List Str), RAs k G (ss.map V.str) (ss.map A.str)
  | [] => .nil
  | s :: ss => .cons (.str s) (RAs.ofStrs ss)
def getK {α : Type} (as : List (Key × α)) (y : Key) : Option α := (as.find? fun kv => decide (kv.1 = y)).map (·.2)
def putA {α : Type} (as : List (Key × α)) (y : Key) (a : α) : List (Key × α) :=
  if (as.any fun kv => decide (kv.1 = y)) = true then as.map fun kv => if kv.1 = y then (kv.1, a) else kv else as ++ [(y, a)]
theorem RKs.len : ∀ {vs : List (Key × V)} {as : List (Key × A)}, RKs k G vs as → vs.length = as.length
  | _, _, .nil => rfl
  | _, _, .cons _ r => by rw [List.length_cons, List.length_cons, r.len]
theorem RKs.keys : ∀ {vs : List (Key × V)} {as : List (Key × A)}, RKs k G vs as → vs.map (·.1) = as.map (·.1)
  | _, _, .nil => rfl
  | _, _, .cons _ r => by rw [List.map_cons, List.map_cons, r.keys]
theorem RKs.app : ∀ {vs us : List (Key × V)} {as bs : List (Key × A)}, RKs k G vs as → RKs k G us bs → RKs k G (vs ++ us) (as ++ bs)
  | _, _, _, _, .nil, s => s
  | _, _, _, _, .cons h r, s => .cons h (r.app s)
theorem RKs.get : ∀ {vs : List (Key × V)} {as : List (Key × A)} (y : Key), RKs k G vs as → (∃ v a, valV vs y = some v ∧ getK as y = some a ∧ RA k G v a) ∨ (valV vs y = none ∧ getK as y = none)
  | _, _, y, .nil => .inr ⟨rfl, rfl⟩
  | _, _, y, .cons (y := z) (v := v) (a := a) (vs := vs) (as := as) h r => by
    unfold valV getK
    by_cases c : z = y
    · left; exact ⟨v, a, by simp [List.find?_cons, c], by simp [List.find?_cons, c], h⟩
    · have := RKs.get y r
      unfold valV getK at this
      simpa [List.find?_cons, c] using this
theorem RKs.any : ∀ {vs : List (Key × V)} {as : List (Key × A)} (y : Key), RKs k G vs as → (vs.any fun kv => decide (kv.1 = y)) = (as.any fun kv => decide (kv.1 = y))
  | _, _, y, .nil => rfl
  | _, _, y, .cons h r => by rw [List.any_cons, List.any_cons, RKs.any y r]
theorem RKs.mapPut {v : V} {a : A} (y : Key) (h : RA k G v a) : ∀ {vs : List (Key × V)} {as : List (Key × A)}, RKs k G vs as → RKs k G (vs.map fun kv => if kv.1 = y then (kv.1, v) else kv) (as.map fun kv => if kv.1 = y then (kv.1, a) else kv)
  | _, _, .nil => .nil
  | _, _, .cons (y := z) q r => by
    rw [List.map_cons, List.map_cons]
    by_cases c : z = y
    · simp only [c, if_true]; exact .cons h (RKs.mapPut y h r)
    · simp only [c, if_false]; exact .cons q (RKs.mapPut y h r)
theorem RKs.put {vs : List (Key × V)} {as : List (Key × A)} {v : V} {a : A} (y : Key) (r : RKs k G vs as) (h : RA k G v a) : RKs k G (putK vs y v) (putA as y a) := by
  unfold putK putA
  rw [r.any y]
  split
  · exact RKs.mapPut y h r
  · exact r.app (.cons h .nil)
end
def cut (H : Hp) (L : List Addr) : Hp := fun a => if a ∈ L then none else H a
theorem cut_in {H : Hp} {L : List Addr} {a : Addr} (h : a ∈ L) : cut H L a = none := if_pos h
theorem cut_out {H : Hp} {L : List Addr} {a : Addr} (h : a ∉ L) : cut H L a = H a := if_neg h
theorem cut_same (H : Hp) (L : List Addr) : Sq (cut H L) H := Sq.of fun b o e => by
  unfold cut at e
  split at e
  · cases e
  · exact e
theorem cut_mono {H : Hp} {L L' : List Addr} (h : ∀ a, a ∈ L' → a ∈ L) : Sq (cut H L) (cut H L') := Sq.of fun b o e => by
  by_cases c : b ∈ L
  · rw [cut_in c] at e; cases e
  · rw [cut_out c] at e
    rw [cut_out fun z => c (h b z)]; exact e
inductive LO where
  | lst (xs : List A) | dic (kvs : List (Key × A))
def LO.a : LO → A
  | .lst xs => .lst xs
  | .dic kvs => .dic kvs
inductive Sl where
  | un | fr (a : A) | lv (o : LO) | pv (o : LO)
inductive LR (k : Kx) (G H : Hp) (p : Addr) : LO → Prop
  | lst {vs : List V} {as : List A} (e : H p = some (.lst vs)) (r : RAs k G vs as) : LR k G H p (.lst as)
  | dic {vs : List (Key × V)} {as : List (Key × A)} (e : H p = some (.dK vs)) (r : RKs k G vs as) : LR k G H p (.dic as)
inductive SlR (k : Kx) (G H : Hp) : Option V → Sl → List Addr → Prop
  | un (x : Option V) : SlR k G H x .un []
  | fr {v : V} {a : A} (h : RA k G v a) : SlR k G H (some v) (.fr a) []
  | lv {p : Addr} {o : LO} (h : LR k G H p o) : SlR k G H (some (.ref p)) (.lv o) [p]
  | pv {p : Addr} {o : LO} (h : LR k G H p o) : SlR k G H (some (.ref p)) (.pv o) [p]
inductive SlRs (k : Kx) (G H : Hp) : St → List Sl → List Addr → Prop
  | nil : SlRs k G H [] [] []
  | cons {x : Option V} {s : Sl} {σ : St} {ρ : List Sl} {L L' : List Addr} (h : SlR k G H x s L) (r : SlRs k G H σ ρ L') : SlRs k G H (x :: σ) (s :: ρ) (L ++ L')
section
variable {k : Kx} {G G' H H' : Hp} {L : List Addr}
theorem LR.is {p : Addr} {o : LO} (h : LR k G H p o) : ∃ u, H p = some u := by cases h with | lst e _ => exact ⟨_, e⟩ | dic e _ => exact ⟨_, e⟩
theorem LR.sm (s : Sq G G') {p : Addr} {o : LO} (e : ∀ u, H p = some u → H' p = some u) (h : LR k G H p o) : LR k G' H' p o := by
  cases h with
  | lst q r => exact .lst (e _ q) (r.sm s)
  | dic q r => exact .dic (e _ q) (r.sm s)
theorem SlR.is {x : Option V} {t : Sl} (h : SlR k G H x t L) : ∀ p ∈ L, ∃ u, H p = some u := by
  cases h with
  | un => intro p hp; cases hp
  | fr => intro p hp; cases hp
  | lv h => intro p hp; rw [List.mem_singleton.mp hp]; exact h.is
  | pv h => intro p hp; rw [List.mem_singleton.mp hp]; exact h.is
theorem SlR.sm (s : Sq G G') {x : Option V} {t : Sl} (e : ∀ p ∈ L, ∀ u, H p = some u → H' p = some u) (h : SlR k G H x t L) : SlR k G' H' x t L := by
  cases h with
  | un => exact .un _
  | fr h => exact .fr (h.sm s)
  | lv h => exact .lv (h.sm s (e _ (List.mem_singleton.mpr rfl)))
  | pv h => exact .pv (h.sm s (e _ (List.mem_singleton.mpr rfl)))
theorem SlRs.is : ∀ {σ : St} {ρ : List Sl} {L : List Addr}, SlRs k G H σ ρ L → ∀ p ∈ L, ∃ u, H p = some u
  | _, _, _, .nil, p, hp => by cases hp
  | _, _, _, .cons h r, p, hp => (List.mem_append.mp hp).elim (h.is p) (r.is p)
theorem SlRs.sm (s : Sq G G') : ∀ {σ : St} {ρ : List Sl} {L : List Addr}, (∀ p ∈ L, ∀ u, H p = some u → H' p = some u) → SlRs k G H σ ρ L → SlRs k G' H' σ ρ L
  | _, _, _, _, .nil => .nil
  | _, _, _, e, .cons h r => .cons (h.sm s fun p hp => e p (List.mem_append_left _ hp)) (r.sm s fun p hp => e p (List.mem_append_right _ hp))
theorem SlRs.len : ∀ {σ : St} {ρ : List Sl} {L : List Addr}, SlRs k G H σ ρ L → σ.length = ρ.length
  | _, _, _, .nil => rfl
  | _, _, _, .cons _ r => by rw [List.length_cons, List.length_cons, r.len]
theorem SlRs.at : ∀ {σ : St} {ρ : List Sl} {L : List Addr} {i : Nat} {s : Sl}, SlRs k G H σ ρ L → ρ[i]? = some s →
    ∃ x L1 L2 L3, σ[i]? = some x ∧ SlR k G H x s L2 ∧ L = L1 ++ L2 ++ L3 ∧ ∀ {G' H' : Hp} {y : Option V} {t : Sl} {L' : List Addr}, Sq G G' → (∀ p ∈ L1 ++ L3, ∀ u, H p = some u → H' p = some u) → SlR k G' H' y t L' → SlRs k G' H' (σ.set i y) (ρ.set i t) (L1 ++ L' ++ L3)
  | _, _, _, _, _, .nil, e => by simp at e
  | _, _, _, 0, _, .cons (x := x) (L := L) (L' := L') h r, e => by
    cases e
    refine ⟨x, [], L, L', rfl, h, by simp, fun sm e q => ?_⟩
    simp only [List.set_cons_zero, List.nil_append]
    exact .cons q (r.sm sm (by simpa using e))
  | _, _, _, i + 1, _, .cons (L := L) h r, e => by
    obtain ⟨x, L1, L2, L3, e1, e2, e3, e4⟩ := SlRs.at (i := i) r e
    refine ⟨x, L ++ L1, L2, L3, e1, e2, by rw [e3]; simp, fun sm e q => ?_⟩
    simp only [List.set_cons_succ]
    have := SlRs.cons (h.sm sm fun p hp => e p (by simp [hp])) (e4 sm (fun p hp => e p (by rcases List.mem_append.mp hp with z | z <;> simp [z])) q)
    simpa [List.append_assoc] using this
theorem SlRs.app : ∀ {σ τ : St} {ρ θ : List Sl} {L L' : List Addr}, SlRs k G H σ ρ L → SlRs k G H τ θ L' → SlRs k G H (σ ++ τ) (ρ ++ θ) (L ++ L')
  | _, _, _, _, _, _, .nil, s => s
  | _, _, _, _, _, _, .cons h r, s => by have := SlRs.cons h (r.app s); simpa [List.append_assoc] using this
theorem SlRs.split : ∀ {σ τ : St} {ρ θ : List Sl} {L : List Addr}, σ.length = ρ.length → SlRs k G H (σ ++ τ) (ρ ++ θ) L → ∃ L1 L2, L = L1 ++ L2 ∧ SlRs k G H σ ρ L1 ∧ SlRs k G H τ θ L2
  | [], _, [], _, L, _, h => ⟨[], L, rfl, .nil, h⟩
  | x :: σ, τ, s :: ρ, θ, _, e, .cons (L := L) h r => by
    obtain ⟨L1, L2, e1, r1, r2⟩ := SlRs.split (by simpa using e) r
    exact ⟨L ++ L1, L2, by rw [e1]; simp, .cons h r1, r2⟩
  | _ :: _, _, [], _, _, e, _ => by simp at e
  | [], _, _ :: _, _, _, e, _ => by simp at e
theorem SlRs.frs : ∀ {vs : List V} {as : List A}, RAs k G vs as → SlRs k G H (vs.map some) (as.map Sl.fr) []
  | _, _, .nil => .nil
  | _, _, .cons h r => SlRs.cons (L := []) (.fr h) (SlRs.frs r)
theorem SlRs.ofFrs : ∀ {vs : List V} {as : List A} {L : List Addr}, SlRs k G H (vs.map some) (as.map Sl.fr) L → L = [] ∧ RAs k G vs as
  | [], [], _, .nil => ⟨rfl, .nil⟩
  | v :: vs, a :: as, _, .cons h r => by
    cases h with
    | fr h =>
      obtain ⟨e, q⟩ := SlRs.ofFrs r
      exact ⟨by rw [e]; rfl, .cons h q⟩
end
end M
namespace M
open PySem L2
structure Cn extends Kx where
  σ0 : St
  H0 : Hp
  Lp : List Addr
  Hd : List Addr
  Wk : List (Addr × HO)
def Cn.g (c : Cn) (H : Hp) (L : List Addr) : Hp := cut H (L ++ c.Hd)
structure Fr (c : Cn) (H : Hp) : Prop where
  st : ∀ b o, c.H0 b = some o → ∃ u, H b = some u ∧ (b ∉ c.Lp → (∀ w, (b, w) ∉ c.Wk) → u = o)
  pk : ∀ p ∈ c.Wk, H p.1 = some p.2 ∧ (∃ ob vs, p.2 = .frz ob (.dK vs)) ∧ p.1 ∉ c.Hd
theorem Fr.new {c : Cn} {H : Hp} {p : Addr} {o : HO} (f : Fr c H) (h : H p = none) : Fr c (upd H p o) := ⟨fun b u e => by
  obtain ⟨w, h1, h2⟩ := f.st b u e
  exact ⟨w, by rw [upd_ne (ne_of_none h1 h)]; exact h1, h2⟩, fun q hq => by
  obtain ⟨h1, h2⟩ := f.pk q hq
  exact ⟨by rw [upd_ne (ne_of_none h1 h)]; exact h1, h2⟩⟩
theorem Fr.fresh {c : Cn} {H : Hp} {p : Addr} (f : Fr c H) (h : H p = none) : c.H0 p = none := by
  cases e : c.H0 p with
  | none => rfl
  | some o => obtain ⟨u, h1, _⟩ := f.st p o e; rw [h] at h1; cases h1
def keepP (σ0 σ : St) (ρ : List Sl) : Prop := ∀ (i : Nat) (o : LO), ρ[i]? = some (Sl.pv o) → σ[i]? = σ0[i]?
structure BdL (c : Cn) (σ : St) (H : Hp) (ρ : List Sl) (τ : St) (θ : List Sl) (L : List Addr) : Prop where
  nd : L.Nodup
  rel : SlRs c.toKx (c.g H L) H (τ ++ σ) (θ ++ ρ) L
  own : ∀ p ∈ L, p ∈ c.Lp ∨ c.H0 p = none
  fr : Fr c H
  kp : keepP c.σ0 σ ρ
  lt : τ.length = θ.length
  hd : ∀ p ∈ c.Hd, (∃ u, c.H0 p = some u) ∧ p ∉ c.Lp
theorem g_same (c : Cn) (H : Hp) (L : List Addr) : Sq (c.g H L) H := cut_same _ _
theorem g_mono {c : Cn} {H : Hp} {L L' : List Addr} (h : ∀ a, a ∈ L' → a ∈ L) : Sq (c.g H L) (c.g H L') := cut_mono fun a ha => by
  rcases List.mem_append.mp ha with z | z
  · exact List.mem_append_left _ (h a z)
  · exact List.mem_append_right _ z
theorem g_in {c : Cn} {H : Hp} {L : List Addr} {a : Addr} (h : a ∈ L ∨ a ∈ c.Hd) : c.g H L a = none := cut_in (by simpa using h)
theorem g_out {c : Cn} {H : Hp} {L : List Addr} {a : Addr} (h : a ∉ L) (h' : a ∉ c.Hd) : c.g H L a = H a := cut_out (by simp [h, h'])
theorem BdL.nhd {c : Cn} {σ : St} {H : Hp} {ρ : List Sl} {τ : St} {θ : List Sl} {L : List Addr} (b : BdL c σ H ρ τ θ L) {p : Addr} (h : p ∈ L) : p ∉ c.Hd := fun z => by
  obtain ⟨⟨u, e⟩, n⟩ := b.hd p z
  rcases b.own p h with y | y
  · exact n y
  · rw [y] at e; cases e
theorem BdL.fhd {c : Cn} {σ : St} {H : Hp} {ρ : List Sl} {τ : St} {θ : List Sl} {L : List Addr} (b : BdL c σ H ρ τ θ L) {p : Addr} (h : H p = none) : p ∉ c.Hd := fun z => by
  obtain ⟨⟨u, e⟩, n⟩ := b.hd p z
  rw [b.fr.fresh h] at e; cases e
def Bd (c : Cn) (σ : St) (H : Hp) (ρ : List Sl) (τ : St) (θ : List Sl) : Prop := ∃ L, BdL c σ H ρ τ θ L
section
variable {c : Cn} {σ : St} {H : Hp} {ρ : List Sl} {τ : St} {θ : List Sl}
theorem Bd.lens (b : Bd c σ H ρ τ θ) : σ.length = ρ.length := by
  obtain ⟨L, b⟩ := b
  have := b.rel.len
  rw [List.length_append, List.length_append, b.lt] at this
  omega
theorem Bd.push {v : V} {a : A} (b : Bd c σ H ρ τ θ) (h : ∀ G, RA c.toKx G v a) : Bd c σ H ρ (some v :: τ) (.fr a :: θ) := by
  obtain ⟨L, b⟩ := b
  exact ⟨L, b.nd, SlRs.cons (L := []) (.fr (h _)) b.rel, b.own, b.fr, b.kp, by simp [b.lt], b.hd⟩
theorem Bd.pop {x : Option V} {s : Sl} (b : Bd c σ H ρ (x :: τ) (s :: θ)) : Bd c σ H ρ τ θ := by
  obtain ⟨L, b⟩ := b
  obtain ⟨nd, rel, own, fr, kp, lt, hdd⟩ := b
  have rel : SlRs c.toKx (c.g H L) H (x :: (τ ++ σ)) (s :: (θ ++ ρ)) L := rel
  cases rel with
  | cons h r =>
    rename_i L1 L2
    exact ⟨L2, (List.nodup_append.mp nd).2.1, r.sm (g_mono fun a ha => List.mem_append_right _ ha) (fun _ _ _ e => e), fun p hp => own p (List.mem_append_right _ hp), fr, kp, by simpa using lt, hdd⟩
theorem Bd.pops : ∀ {xs : St} {ss : List Sl}, xs.length = ss.length → Bd c σ H ρ (xs ++ τ) (ss ++ θ) → Bd c σ H ρ τ θ
  | [], [], _, b => b
  | x :: xs, s :: ss, e, b => Bd.pops (xs := xs) (ss := ss) (by simpa using e) (Bd.pop b)
  | [], _ :: _, e, _ => by simp at e
  | _ :: _, [], e, _ => by simp at e
theorem Bd.frs {vs : List V} {as : List A} (b : Bd c σ H ρ (vs.map some ++ τ) (as.map Sl.fr ++ θ)) (e : vs.length = as.length) : ∃ L, BdL c σ H ρ τ θ L ∧ RAs c.toKx (c.g H L) vs as := by
  obtain ⟨L, b⟩ := b
  have r := b.rel
  rw [List.append_assoc, List.append_assoc] at r
  obtain ⟨L1, L2, e1, r1, r2⟩ := SlRs.split (by simp [e]) r
  obtain ⟨z, ra⟩ := SlRs.ofFrs r1
  subst z
  have e1 : L = L2 := e1
  subst e1
  exact ⟨L, ⟨b.nd, r2, b.own, b.fr, b.kp, by have := b.lt; simp at this; omega, b.hd⟩, ra⟩
theorem BdL.push {L : List Addr} {v : V} {a : A} (b : BdL c σ H ρ τ θ L) (h : RA c.toKx (c.g H L) v a) : Bd c σ H ρ (some v :: τ) (.fr a :: θ) :=
  ⟨L, b.nd, SlRs.cons (L := []) (.fr h) b.rel, b.own, b.fr, b.kp, by simp [b.lt], b.hd⟩
theorem BdL.new {L : List Addr} {p : Addr} {o : HO} (b : BdL c σ H ρ τ θ L) (h : H p = none) : BdL c σ (upd H p o) ρ τ θ L ∧ Sq (c.g H L) (c.g (upd H p o) L) ∧ p ∉ L := by
  have hp : p ∉ L := fun z => by obtain ⟨u, e⟩ := b.rel.is p z; rw [h] at e; cases e
  have sm : Sq (c.g H L) (c.g (upd H p o) L) := Sq.of fun a u e => by
    by_cases z : a ∈ L ∨ a ∈ c.Hd
    · rw [g_in z] at e; cases e
    · rw [g_out (fun y => z (.inl y)) (fun y => z (.inr y))] at e
      rw [g_out (fun y => z (.inl y)) (fun y => z (.inr y)), upd_ne (ne_of_none e h)]; exact e
  exact ⟨⟨b.nd, b.rel.sm sm (fun q hq u e => by rw [upd_ne (ne_of_none e h)]; exact e), b.own, b.fr.new h, b.kp, b.lt, b.hd⟩, sm, hp⟩
theorem Bd.newTup {vs : List V} {as : List A} {p : Addr} (b : Bd c σ H ρ (vs.map some ++ τ) (as.map Sl.fr ++ θ)) (e : vs.length = as.length) (h : H p = none) (ws : List V) (bs : List A) (hw : ∀ G, RAs c.toKx G vs as → RAs c.toKx G ws bs) :
    Bd c σ (upd H p (.tup ws)) ρ (some (.ref p) :: τ) (.fr (.tup bs) :: θ) := by
  obtain ⟨L, bl, ra⟩ := b.frs e
  obtain ⟨b2, sm, hp⟩ := bl.new (o := .tup ws) h
  exact b2.push (.tup (.inl (.inl (by rw [g_out hp (bl.fhd h)]; exact upd_same))) (hw _ (ra.sm sm)))
theorem BdL.newLv {L : List Addr} {p : Addr} {u : HO} {o : LO} (b : BdL c σ H ρ τ θ L) (h : H p = none) (hr : ∀ G H', Sq (c.g H L) G → H' p = some u → LR c.toKx G H' p o) : Bd c σ (upd H p u) ρ (some (.ref p) :: τ) (.lv o :: θ) := by
  have hp : p ∉ L := fun z => by obtain ⟨u, e⟩ := b.rel.is p z; rw [h] at e; cases e
  have sm : Sq (c.g H L) (c.g (upd H p u) (p :: L)) := Sq.of fun a w e => by
    by_cases z : a ∈ L ∨ a ∈ c.Hd
    · rw [g_in z] at e; cases e
    · rw [g_out (fun y => z (.inl y)) (fun y => z (.inr y))] at e
      have na := ne_of_none e h
      rw [g_out (fun y => by rcases List.mem_cons.mp y with y | y; exact na y; exact z (.inl y)) (fun y => z (.inr y)), upd_ne na]; exact e
  refine ⟨p :: L, List.nodup_cons.mpr ⟨hp, b.nd⟩, SlRs.cons (L := [p]) (.lv (hr _ _ sm upd_same)) (b.rel.sm sm (fun q hq w e => by rw [upd_ne (ne_of_none e h)]; exact e)), fun q hq => ?_, b.fr.new h, b.kp, by simp [b.lt], b.hd⟩
  rcases List.mem_cons.mp hq with z | z
  · subst z; exact .inr (b.fr.fresh h)
  · exact b.own q z
theorem Bd.newLst {vs : List V} {as : List A} {p : Addr} (b : Bd c σ H ρ (vs.map some ++ τ) (as.map Sl.fr ++ θ)) (e : vs.length = as.length) (h : H p = none) (ws : List V) (bs : List A) (hw : ∀ G, RAs c.toKx G vs as → RAs c.toKx G ws bs) :
    Bd c σ (upd H p (.lst ws)) ρ (some (.ref p) :: τ) (.lv (.lst bs) :: θ) := by
  obtain ⟨L, bl, ra⟩ := b.frs e
  exact bl.newLv h fun G H' sm q => .lst q (hw _ (ra.sm sm))
theorem LR.a {k : Kx} {G H : Hp} {p : Addr} {o : LO} (h : LR k G H p o) (sm : Sq G H) : RA k H (.ref p) o.a := by
  cases h with
  | lst e r => exact .lst (.inl (.inl e)) (r.sm sm)
  | dic e r => exact .dic (.inl e) (r.sm sm)
theorem LR.a' {k : Kx} {G G' H : Hp} {p : Addr} {o : LO} (h : LR k G H p o) (sm : Sq G G') (e : ∀ u, H p = some u → G' p = some u) : RA k G' (.ref p) o.a := by
  cases h with
  | lst q r => exact .lst (.inl (.inl (e _ q))) (r.sm sm)
  | dic q r => exact .dic (.inl (e _ q)) (r.sm sm)
def Sl.a : Sl → Option A
  | .fr a => some a
  | .lv o => some o.a
  | .pv o => some o.a
  | .un => none
theorem SlR.read {k : Kx} {G H : Hp} {x : Option V} {s : Sl} {L : List Addr} {a : A} (h : SlR k G H x s L) (sm : Sq G H) (e : s.a = some a) : ∃ v, x = some v ∧ RA k H v a := by
  cases h with
  | un => cases e
  | fr h => cases e; exact ⟨_, rfl, h.sm sm⟩
  | lv h => cases e; exact ⟨_, rfl, h.a sm⟩
  | pv h => cases e; exact ⟨_, rfl, h.a sm⟩
theorem keepP.set {σ0 σ : St} {ρ : List Sl} {i : Nat} {t : Sl} {y : Option V} (k : keepP σ0 σ ρ) (h : ∀ o, ρ[i]? ≠ some (.pv o)) (hi : i < ρ.length) (e : ∀ o, t ≠ .pv o) : keepP σ0 (σ.set i y) (ρ.set i t) := fun j o q => by
  by_cases z : j = i
  · subst z
    rw [List.getElem?_set_self hi] at q
    exact absurd (Option.some.inj q) (e o)
  · rw [List.getElem?_set_ne (Ne.symm z)] at q ⊢
    exact k j o q
theorem keepP.set' {σ0 σ : St} {ρ : List Sl} {i : Nat} {t : Sl} (k : keepP σ0 σ ρ) (h : ∀ o, t = .pv o → ∃ o', ρ[i]? = some (.pv o')) : keepP σ0 σ (ρ.set i t) := fun j o q => by
  by_cases z : j = i
  · subst z
    by_cases hi : j < ρ.length
    · rw [List.getElem?_set_self hi] at q
      obtain ⟨o', e⟩ := h o (Option.some.inj q)
      exact k j o' e
    · rw [List.getElem?_eq_none (by simp; omega)] at q; cases q
  · rw [List.getElem?_set_ne (Ne.symm z)] at q
    exact k j o q
theorem Bd.slot {i : Nat} {s : Sl} {a : A} (b : Bd c σ H ρ τ θ) (e : ρ[i]? = some s) (ea : s.a = some a) : ∃ v, σ[i]? = some (some v) ∧ RA c.toKx H v a := by
  obtain ⟨L, b⟩ := b
  obtain ⟨L1, L2, e1, r1, r2⟩ := SlRs.split b.lt b.rel
  obtain ⟨x, _, _, _, hx, hs, _⟩ := r2.at e
  obtain ⟨v, rfl, h⟩ := hs.read (g_same _ _ _) ea
  exact ⟨v, hx, h⟩
theorem Bd.load {i : Nat} {a : A} (b : Bd c σ H ρ τ θ) (e : ρ[i]? = some (.fr a)) : ∃ v, σ[i]? = some (some v) ∧ Bd c σ H ρ (some v :: τ) (.fr a :: θ) := by
  obtain ⟨L, b⟩ := b
  obtain ⟨L1, L2, e1, r1, r2⟩ := SlRs.split b.lt b.rel
  obtain ⟨x, _, _, _, hx, hs, _⟩ := r2.at e
  cases hs with
  | fr h => exact ⟨_, hx, b.push h⟩
theorem Bd.freezeS {i : Nat} {o : LO} (b : Bd c σ H ρ τ θ) (e : ρ[i]? = some (.lv o)) : Bd c σ H (ρ.set i (.fr o.a)) τ θ := by
  obtain ⟨L, b⟩ := b
  obtain ⟨L1, L2, e1, r1, r2⟩ := SlRs.split b.lt b.rel
  obtain ⟨x, M1, M2, M3, hx, hs, e2, ins⟩ := r2.at e
  cases hs with
  | lv h =>
    rename_i p
    have nd := b.nd
    have hL : L = (L1 ++ M1) ++ p :: M3 := by rw [e1, e2]; simp
    rw [hL] at nd
    have hp : p ∉ L1 ++ M1 ++ M3 := by
      obtain ⟨n1, n2, n3⟩ := List.nodup_append.mp nd
      obtain ⟨m1, m2⟩ := List.nodup_cons.mp n2
      intro z
      rcases List.mem_append.mp z with z | z
      · exact n3 p z p (by simp) rfl
      · exact m1 z
    have sub : ∀ a, a ∈ L1 ++ M1 ++ M3 → a ∈ L := fun a ha => by rw [hL]; simp only [List.mem_append, List.mem_cons] at ha ⊢; rcases ha with (z | z) | z <;> simp [z]
    have sm : Sq (c.g H L) (c.g H (L1 ++ M1 ++ M3)) := g_mono sub
    have r3 := ins (y := some (.ref p)) (t := .fr o.a) (L' := []) sm (fun _ _ _ e => e) (.fr (h.a' sm fun u e => by rw [g_out hp (b.nhd (by rw [hL]; simp))]; exact e))
    have hσ : σ.set i (some (.ref p)) = σ := by
      apply List.ext_getElem?; intro j
      by_cases z : j = i
      · subst z; rw [List.getElem?_set_self (List.getElem?_eq_some_iff.mp hx).1, hx]
      · rw [List.getElem?_set_ne (Ne.symm z)]
    rw [hσ] at r3
    refine ⟨L1 ++ M1 ++ M3, ?_, ?_, fun q hq => b.own q (sub q hq), b.fr, b.kp.set' (fun o z => by cases z), b.lt, b.hd⟩
    · exact (List.nodup_append.mp nd).1 |> fun n => List.nodup_append.mpr ⟨n, (List.nodup_cons.mp (List.nodup_append.mp nd).2.1).2, fun a ha b' hb => (List.nodup_append.mp nd).2.2 a ha b' (List.mem_cons_of_mem _ hb)⟩
    · have := (r1.sm sm (fun _ _ _ e => e)).app r3
      simpa [List.append_assoc] using this
theorem BdL.change {L : List Addr} {i : Nat} {s t : Sl} {o o' : LO} {u : HO} (b : BdL c σ H ρ τ θ L) (e : ρ[i]? = some s) (es : s = .lv o ∧ t = .lv o' ∨ s = .pv o ∧ t = .pv o')
    : ∃ p, σ[i]? = some (some (.ref p)) ∧ LR c.toKx (c.g H L) H p o ∧ ((∀ H', H' p = some u → LR c.toKx (c.g H L) H' p o') → Bd c σ (upd H p u) (ρ.set i t) τ θ) := by
  obtain ⟨L1, L2, e1, r1, r2⟩ := SlRs.split b.lt b.rel
  obtain ⟨x, M1, M2, M3, hx, hs, e2, ins⟩ := r2.at e
  have key : ∀ p, x = some (.ref p) → M2 = [p] → LR c.toKx (c.g H L) H p o → (∀ G H', LR c.toKx G H' p o' → SlR c.toKx G H' (some (.ref p)) t [p]) → (∀ o2, t = .pv o2 → ∃ o', ρ[i]? = some (.pv o')) →
      ∃ p, σ[i]? = some (some (.ref p)) ∧ LR c.toKx (c.g H L) H p o ∧ ((∀ H', H' p = some u → LR c.toKx (c.g H L) H' p o') → Bd c σ (upd H p u) (ρ.set i t) τ θ) := by
    intro p ex em hr mk pk
    subst ex em
    refine ⟨p, hx, hr, fun hn => ?_⟩
    have nd := b.nd
    have hL : L = (L1 ++ M1) ++ p :: M3 := by rw [e1, e2]; simp
    have hin : p ∈ L := by rw [hL]; simp
    have hne : ∀ q, q ∈ L1 ++ M1 ++ M3 → q ≠ p := fun q hq z => by
      subst z
      rw [hL] at nd
      obtain ⟨n1, n2, n3⟩ := List.nodup_append.mp nd
      obtain ⟨m1, m2⟩ := List.nodup_cons.mp n2
      rcases List.mem_append.mp hq with z | z
      · exact n3 q z q (by simp) rfl
      · exact m1 z
    have ec : c.g (upd H p u) L = c.g H L := by
      funext a
      by_cases z : a ∈ L ∨ a ∈ c.Hd
      · rw [g_in z, g_in z]
      · rw [g_out (fun y => z (.inl y)) (fun y => z (.inr y)), g_out (fun y => z (.inl y)) (fun y => z (.inr y)), upd_ne fun y => z (.inl (by rw [y]; exact hin))]
    have kpu : ∀ q, q ∈ L1 ++ M1 ++ M3 → ∀ w, H q = some w → upd H p u q = some w := fun q hq w e => by rw [upd_ne (hne q hq)]; exact e
    have r3 := ins (G' := c.g (upd H p u) L) (H' := upd H p u) (y := some (.ref p)) (t := t) (L' := [p]) (by rw [ec]; exact Sq.refl _) (fun q hq => kpu q (by rcases List.mem_append.mp hq with z | z <;> simp [z])) (mk _ _ (by rw [ec]; exact hn _ upd_same))
    have hσ : σ.set i (some (.ref p)) = σ := by
      apply List.ext_getElem?; intro j
      by_cases z : j = i
      · subst z; rw [List.getElem?_set_self (List.getElem?_eq_some_iff.mp hx).1, hx]
      · rw [List.getElem?_set_ne (Ne.symm z)]
    rw [hσ] at r3
    refine ⟨L, nd, ?_, b.own, ⟨fun q w e => ?_, fun q hq => ?_⟩, b.kp.set' pk, b.lt, b.hd⟩
    · have := (r1.sm (G' := c.g (upd H p u) L) (H' := upd H p u) (by rw [ec]; exact Sq.refl _) (fun q hq => kpu q (by simp [hq]))).app r3
      have z : L1 ++ (M1 ++ [p] ++ M3) = L := by rw [hL]; simp
      rw [z] at this
      exact this
    · obtain ⟨w', h1, h2⟩ := b.fr.st q w e
      by_cases z : q = p
      · subst z
        refine ⟨u, upd_same, fun nq => ?_⟩
        rcases b.own q hin with y | y
        · exact absurd y nq
        · rw [y] at e; cases e
      · exact ⟨w', by rw [upd_ne z]; exact h1, h2⟩
    · obtain ⟨h1, ⟨ob, vs, h2⟩, h3⟩ := b.fr.pk q hq
      refine ⟨?_, ⟨ob, vs, h2⟩, h3⟩
      rw [upd_ne fun y => ?_]
      · exact h1
      · rw [y, h2] at h1
        cases hr with
        | lst e _ => rw [e] at h1; cases h1
        | dic e _ => rw [e] at h1; cases h1
  rcases es with ⟨rfl, rfl⟩ | ⟨rfl, rfl⟩
  · cases hs with
    | lv h => exact key _ rfl rfl h (fun _ _ h => .lv h) (fun _ z => by cases z)
  · cases hs with
    | pv h => exact key _ rfl rfl h (fun _ _ h => .pv h) (fun _ z => ⟨_, e⟩)
theorem Bd.store {i : Nat} {s t : Sl} {v : V} (b : Bd c σ H ρ (some v :: τ) (t :: θ)) (e : ρ[i]? = some s) (hs : ∀ o, s ≠ .pv o) (ht : ∀ o, t ≠ .pv o) : Bd c (σ.set i (some v)) H (ρ.set i t) τ θ := by
  obtain ⟨L, nd, rel, own, fr, kp, lt, hdd⟩ := b
  have rel : SlRs c.toKx (c.g H L) H (some v :: (τ ++ σ)) (t :: (θ ++ ρ)) L := rel
  cases rel with
  | cons h r =>
    rename_i L0 L'
    obtain ⟨L1, L2, e1, r1, r2⟩ := SlRs.split (by simpa using lt) r
    obtain ⟨x, M1, M2, M3, hx, hs', e2, ins⟩ := r2.at e
    subst e1 e2
    have sub : ∀ a, a ∈ L1 ++ (M1 ++ L0 ++ M3) → a ∈ L0 ++ (L1 ++ (M1 ++ M2 ++ M3)) := fun a ha => by simp at ha ⊢; rcases ha with z | z | z | z <;> simp [z]
    have sm : Sq (c.g H (L0 ++ (L1 ++ (M1 ++ M2 ++ M3)))) (c.g H (L1 ++ (M1 ++ L0 ++ M3))) := g_mono sub
    have hi : i < ρ.length := (List.getElem?_eq_some_iff.mp e).1
    refine ⟨L1 ++ (M1 ++ L0 ++ M3), ?_, ?_, fun q hq => own q (sub q hq), fr, kp.set (fun o z => ?_) hi ht, by simpa using lt, hdd⟩
    · have p1 : (L0 ++ (L1 ++ (M1 ++ M2 ++ M3))).Perm (M2 ++ (L1 ++ (M1 ++ L0 ++ M3))) := by
        rw [List.perm_iff_count]
        intro a
        simp only [List.count_append]
        omega
      exact (List.nodup_append.mp ((p1.nodup_iff).mp nd)).2.1
    · exact (r1.sm sm (fun _ _ _ e => e)).app (ins sm (fun _ _ _ e => e) (h.sm sm (fun _ _ _ e => e)))
    · rw [e] at z; exact hs o (Option.some.inj z)
end
end M
namespace M
open PySem L2
inductive Rr where
  | rf (i : Nat) | fr (a : A) | nw (o : LO)
abbrev Mi (α : Type) := List Sl → Option (Except Str α × List Sl)
def mBind {α β : Type} (m : Mi α) (f : α → Mi β) : Mi β := fun ρ => match m ρ with
  | some (.ok x, ρ1) => f x ρ1
  | some (.error e, ρ1) => some (.error e, ρ1)
  | none => none
def mPure {α : Type} (x : α) : Mi α := fun ρ => some (.ok x, ρ)
def extV : Rr → V → St → St
  | .rf _, _, τ => τ
  | .fr _, v, τ => some v :: τ
  | .nw _, v, τ => some v :: τ
def extS : Rr → List Sl → List Sl
  | .rf _, θ => θ
  | .fr a, θ => .fr a :: θ
  | .nw o, θ => .lv o :: θ
def VR (σ : St) : Rr → V → Prop
  | .rf i, v => σ[i]? = some (some v)
  | _, _ => True
def res (ρ : List Sl) : Rr → Option A
  | .rf i => match ρ[i]? with
    | some s => s.a
    | none => none
  | .fr a => some a
  | .nw o => some o.a
def Ret (K : Kx) (E : XK) (c : Cn) (σ : St) (ρ : List Sl) (τ : St) (θ : List Sl) (Q : VK) : Except Str Rr → Prop
  | .ok r => ∀ v H, VR σ r v → Bd c σ H ρ (extV r v τ) (extS r θ) → Q v H
  | .error x => ∀ C H, K.mg x = some (.ref C) → Bd c σ H ρ τ θ → E (.ref C) none H
def TEm (K : Kx) (E : XK) (m : Mi Rr) : TE := fun σ H Q => ∃ (c : Cn) (ρ : List Sl) (τ : St) (θ : List Sl) (o : Except Str Rr) (ρ' : List Sl), c.toKx = K ∧ Bd c σ H ρ τ θ ∧ m ρ = some (o, ρ') ∧ Ret K E c σ ρ' τ θ Q o
def RetT (K : Kx) (E : XK) (c : Cn) (σ : St) (ρ : List Sl) (τ : St) (θ : List Sl) (Q : Bool → Hp → Prop) : Except Str Bool → Prop
  | .ok b => ∀ H, Bd c σ H ρ τ θ → Q b H
  | .error x => ∀ C H, K.mg x = some (.ref C) → Bd c σ H ρ τ θ → E (.ref C) none H
def TTm (K : Kx) (E : XK) (m : Mi Bool) : TT := fun σ H Q => ∃ (c : Cn) (ρ : List Sl) (τ : St) (θ : List Sl) (o : Except Str Bool) (ρ' : List Sl), c.toKx = K ∧ Bd c σ H ρ τ θ ∧ m ρ = some (o, ρ') ∧ RetT K E c σ ρ' τ θ Q o
def extVs : List Rr → List V → St → St
  | r :: rs, v :: vs, τ => extVs rs vs (extV r v τ)
  | _, _, τ => τ
def extSs : List Rr → List Sl → List Sl
  | r :: rs, θ => extSs rs (extS r θ)
  | [], θ => θ
def VRs (σ : St) : List Rr → List V → Prop
  | [], [] => True
  | r :: rs, v :: vs => VR σ r v ∧ VRs σ rs vs
  | _, _ => False
def RetA (K : Kx) (E : XK) (c : Cn) (σ : St) (ρ : List Sl) (τ : St) (θ : List Sl) (Q : List V → Hp → Prop) : Except Str (List Rr) → Prop
  | .ok rs => ∀ vs H, VRs σ rs vs → Bd c σ H ρ (extVs rs vs τ) (extSs rs θ) → Q vs H
  | .error x => ∀ C H, K.mg x = some (.ref C) → Bd c σ H ρ τ θ → E (.ref C) none H
def TAm (K : Kx) (E : XK) (m : Mi (List Rr)) : TA := fun σ H Q => ∃ (c : Cn) (ρ : List Sl) (τ : St) (θ : List Sl) (o : Except Str (List Rr)) (ρ' : List Sl), c.toKx = K ∧ Bd c σ H ρ τ θ ∧ m ρ = some (o, ρ') ∧ RetA K E c σ ρ' τ θ Q o
abbrev kx (X : Cx) : Kx := ⟨X.K, X.mg⟩
structure JE (X : Cx) (E : XK) (e : Expr) (m : Mi Rr) : Prop where
  p : PE X e (TEm (kx X) E m)
structure JT (X : Cx) (E : XK) (e : Expr) (m : Mi Bool) : Prop where
  p : PT X e (TTm (kx X) E m)
structure JW (X : Cx) (E : XK) (e : Expr) (m : Mi Bool) : Prop where
  p : PW X e (TTm (kx X) E m)
structure JA (X : Cx) (E : XK) (es : List Expr) (m : Mi (List Rr)) : Prop where
  p : PA X es (TAm (kx X) E m)
theorem PE.weaken {X : Cx} {e : Expr} {t t' : TE} (h : PE X e t) (f : ∀ σ H Q, t' σ H Q → t σ H Q) : PE X e t' := fun pins s σ H Q I q => h pins s σ H Q I (f σ H Q q)
theorem PT.weaken {X : Cx} {e : Expr} {t t' : TT} (h : PT X e t) (f : ∀ σ H Q, t' σ H Q → t σ H Q) : PT X e t' := fun pins s σ H Q I q => h pins s σ H Q I (f σ H Q q)
theorem PW.weaken {X : Cx} {e : Expr} {t t' : TT} (h : PW X e t) (f : ∀ σ H Q, t' σ H Q → t σ H Q) : PW X e t' := fun wh pins s σ H Q I q => h wh pins s σ H Q I (f σ H Q q)
theorem PA.weaken {X : Cx} {e : List Expr} {t t' : TA} (h : PA X e t) (f : ∀ σ H Q, t' σ H Q → t σ H Q) : PA X e t' := fun pos pins s σ H Q I q => h pos pins s σ H Q I (f σ H Q q)
section
variable {c : Cn} {σ : St} {H : Hp} {ρ : List Sl} {τ : St} {θ : List Sl}
theorem Bd.drop {r : Rr} {v : V} (b : Bd c σ H ρ (extV r v τ) (extS r θ)) : Bd c σ H ρ τ θ := by
  cases r with
  | rf i => exact b
  | fr a => exact Bd.pop b
  | nw o => exact Bd.pop b
theorem Bd.drops : ∀ {rs : List Rr} {vs : List V} {τ : St} {θ : List Sl}, rs.length = vs.length → Bd c σ H ρ (extVs rs vs τ) (extSs rs θ) → Bd c σ H ρ τ θ
  | [], [], _, _, _, b => b
  | r :: rs, v :: vs, _, _, e, b => Bd.drop (r := r) (v := v) (Bd.drops (by simpa using e) b)
  | [], _ :: _, _, _, e, _ => by simp at e
  | _ :: _, [], _, _, e, _ => by simp at e
theorem Bd.top {v : V} {s : Sl} {a : A} (b : Bd c σ H ρ (some v :: τ) (s :: θ)) (e : s.a = some a) : RA c.toKx H v a := by
  obtain ⟨L, nd, rel, _⟩ := b
  have rel : SlRs c.toKx (c.g H L) H (some v :: (τ ++ σ)) (s :: (θ ++ ρ)) L := rel
  cases rel with
  | cons h r =>
    obtain ⟨u, z, q⟩ := h.read (g_same _ _ _) e
    cases z; exact q
theorem Bd.rd {r : Rr} {v : V} {a : A} (b : Bd c σ H ρ (extV r v τ) (extS r θ)) (hv : VR σ r v) (e : res ρ r = some a) : RA c.toKx H v a := by
  cases r with
  | rf i =>
    unfold res at e
    cases es : ρ[i]? with
    | none => simp only [es] at e; cases e
    | some s =>
      simp only [es] at e
      obtain ⟨u, h1, h2⟩ := Bd.slot b es e
      have hv : σ[i]? = some (some v) := hv
      rw [hv] at h1; cases h1; exact h2
  | fr a' => cases e; exact Bd.top b rfl
  | nw o => cases e; exact Bd.top b rfl
theorem SlR.items {k : Kx} {G H : Hp} {x : Option V} {s : Sl} {L : List Addr} (h : SlR k G H x s L) (sm : Sq G H) :
    (∀ as, s.a = some (.lst as) → ∃ p vs, x = some (.ref p) ∧ SqL k.K H p vs ∧ RAs k G vs as) ∧ (∀ as, s.a = some (.tup as) → ∃ p vs, x = some (.ref p) ∧ SqT k.K G p vs ∧ RAs k G vs as) ∧
    (∀ as, s.a = some (.dic as) → ∃ p vs, x = some (.ref p) ∧ Rd H p (.dK vs) ∧ RKs k G vs as) := by
  have lo : ∀ p o, LR k G H p o → (∀ as, o.a = A.lst as → ∃ vs, SqL k.K H p vs ∧ RAs k G vs as) ∧ (∀ as, o.a ≠ A.tup as) ∧ (∀ as, o.a = A.dic as → ∃ vs, Rd H p (.dK vs) ∧ RKs k G vs as) := by
    intro p o h
    cases h with
    | lst e r => exact ⟨fun as z => by cases z; exact ⟨_, .inl (.inl e), r⟩, fun as z => (by cases z), fun as z => (by cases z)⟩
    | dic e r => exact ⟨fun as z => (by cases z), fun as z => (by cases z), fun as z => by cases z; exact ⟨_, .inl e, r⟩⟩
  cases h with
  | un => exact ⟨fun _ z => (by cases z), fun _ z => (by cases z), fun _ z => (by cases z)⟩
  | fr h =>
    refine ⟨fun as z => ?_, fun as z => ?_, fun as z => ?_⟩
    · cases z; cases h with | lst e r => exact ⟨_, _, rfl, sqL_sm sm e, r⟩
    · cases z; cases h with | tup e r => exact ⟨_, _, rfl, e, r⟩
    · cases z; cases h with | dic e r => exact ⟨_, _, rfl, sm.rdD e, r⟩
  | lv h =>
    rename_i p o
    obtain ⟨l1, l2, l3⟩ := lo p o h
    refine ⟨fun as z => ?_, fun as z => absurd (Option.some.inj z) (l2 as), fun as z => ?_⟩
    · obtain ⟨vs, h1, h2⟩ := l1 as (Option.some.inj z); exact ⟨p, vs, rfl, h1, h2⟩
    · obtain ⟨vs, h1, h2⟩ := l3 as (Option.some.inj z); exact ⟨p, vs, rfl, h1, h2⟩
  | pv h =>
    rename_i p o
    obtain ⟨l1, l2, l3⟩ := lo p o h
    refine ⟨fun as z => ?_, fun as z => absurd (Option.some.inj z) (l2 as), fun as z => ?_⟩
    · obtain ⟨vs, h1, h2⟩ := l1 as (Option.some.inj z); exact ⟨p, vs, rfl, h1, h2⟩
    · obtain ⟨vs, h1, h2⟩ := l3 as (Option.some.inj z); exact ⟨p, vs, rfl, h1, h2⟩
def It3 (c : Cn) (H : Hp) (L : List Addr) (v : V) (a : A) : Prop :=
    (∀ as, a = .lst as → ∃ p vs, v = .ref p ∧ SqL c.K H p vs ∧ RAs c.toKx (c.g H L) vs as) ∧ (∀ as, a = .tup as → ∃ p vs, v = .ref p ∧ SqT c.K (c.g H L) p vs ∧ RAs c.toKx (c.g H L) vs as) ∧
    (∀ as, a = .dic as → ∃ p vs, v = .ref p ∧ Rd H p (.dK vs) ∧ RKs c.toKx (c.g H L) vs as)
theorem It3.mono {L L' : List Addr} {v : V} {a : A} (h : It3 c H L v a) (s : ∀ a, a ∈ L' → a ∈ L) : It3 c H L' v a := by
  obtain ⟨h1, h2, h3⟩ := h
  refine ⟨fun as e => ?_, fun as e => ?_, fun as e => ?_⟩
  · obtain ⟨p, vs, q1, q2, q3⟩ := h1 as e; exact ⟨p, vs, q1, q2, q3.sm (g_mono s)⟩
  · obtain ⟨p, vs, q1, q2, q3⟩ := h2 as e; exact ⟨p, vs, q1, sqT_sm (g_mono s) q2, q3.sm (g_mono s)⟩
  · obtain ⟨p, vs, q1, q2, q3⟩ := h3 as e; exact ⟨p, vs, q1, q2, q3.sm (g_mono s)⟩
theorem It3.of {L L2 : List Addr} {x : Option V} {s : Sl} {v : V} {a : A} (ex : x = some v) (h : SlR c.toKx (c.g H L) H x s L2) (ea : s.a = some a) : It3 c H L v a := by
  subst ex
  obtain ⟨l1, l2, l3⟩ := h.items (g_same _ _ _)
  refine ⟨fun as z => ?_, fun as z => ?_, fun as z => ?_⟩ <;> subst z
  · obtain ⟨p, vs, q, h1, h2⟩ := l1 as ea; exact ⟨p, vs, Option.some.inj q, h1, h2⟩
  · obtain ⟨p, vs, q, h1, h2⟩ := l2 as ea; exact ⟨p, vs, Option.some.inj q, h1, h2⟩
  · obtain ⟨p, vs, q, h1, h2⟩ := l3 as ea; exact ⟨p, vs, Option.some.inj q, h1, h2⟩
theorem BdL.open {r : Rr} {v : V} {a : A} {L0 : List Addr} (b : BdL c σ H ρ (extV r v τ) (extS r θ) L0) (hv : VR σ r v) (e : res ρ r = some a) : ∃ L, (∀ a, a ∈ L → a ∈ L0) ∧ BdL c σ H ρ τ θ L ∧ It3 c H L v a := by
  have tmp : ∀ s, BdL c σ H ρ (some v :: τ) (s :: θ) L0 → s.a = some a → ∃ L, (∀ a, a ∈ L → a ∈ L0) ∧ BdL c σ H ρ τ θ L ∧ It3 c H L v a := by
    intro s b ea
    obtain ⟨nd, rel, own, fr, kp, lt, hdd⟩ := b
    have rel : SlRs c.toKx (c.g H L0) H (some v :: (τ ++ σ)) (s :: (θ ++ ρ)) L0 := rel
    cases rel with
    | cons h r =>
      rename_i L1 L2
      have sm : Sq (c.g H (L1 ++ L2)) (c.g H L2) := g_mono fun a ha => List.mem_append_right _ ha
      exact ⟨L2, fun a ha => List.mem_append_right _ ha, ⟨(List.nodup_append.mp nd).2.1, r.sm sm (fun _ _ _ e => e), fun p hp => own p (List.mem_append_right _ hp), fr, kp, by simpa using lt, hdd⟩, It3.of rfl (h.sm sm (fun _ _ _ e => e)) ea⟩
  cases r with
  | rf i =>
    unfold res at e
    cases es : ρ[i]? with
    | none => simp only [es] at e; cases e
    | some s =>
      simp only [es] at e
      obtain ⟨L1, L2, e1, r1, r2⟩ := SlRs.split b.lt b.rel
      obtain ⟨x, _, _, _, hx, hs, _⟩ := r2.at es
      have hv : σ[i]? = some (some v) := hv
      rw [hv] at hx
      exact ⟨L0, fun _ h => h, b, It3.of (Option.some.inj hx).symm hs e⟩
  | fr a' => exact tmp _ b e
  | nw o => exact tmp _ b e
theorem Bd.open {r : Rr} {v : V} {a : A} (b : Bd c σ H ρ (extV r v τ) (extS r θ)) (hv : VR σ r v) (e : res ρ r = some a) : ∃ L, BdL c σ H ρ τ θ L ∧ It3 c H L v a := by
  obtain ⟨L, b⟩ := b
  obtain ⟨L', _, h⟩ := b.open hv e
  exact ⟨L', h⟩
theorem Bd.open2 {r r' : Rr} {v v' : V} {a a' : A} (b : Bd c σ H ρ (extV r' v' (extV r v τ)) (extS r' (extS r θ))) (hv : VR σ r v) (hv' : VR σ r' v') (e : res ρ r = some a) (e' : res ρ r' = some a') : ∃ L, BdL c σ H ρ τ θ L ∧ It3 c H L v a ∧ It3 c H L v' a' := by
  obtain ⟨L, b⟩ := b
  obtain ⟨L1, s1, b1, i1⟩ := b.open hv' e'
  obtain ⟨L2, s2, b2, i2⟩ := b1.open hv e
  exact ⟨L2, b2, i2, i1.mono s2⟩
end
end M
namespace M
open PySem L2
section
variable {X : Cx} {E : XK}
def mVar (i : Nat) : Mi Rr := fun ρ => match ρ[i]? with
  | some (.fr a) => some (.ok (.fr a), ρ)
  | some (.lv _) => some (.ok (.rf i), ρ)
  | some (.pv _) => some (.ok (.rf i), ρ)
  | _ => none
def mVarF (i : Nat) : Mi Rr := fun ρ => match ρ[i]? with
  | some (.fr a) => some (.ok (.fr a), ρ)
  | some (.lv o) => some (.ok (.fr o.a), ρ.set i (.fr o.a))
  | _ => none
def mC (a : A) : Mi Rr := fun ρ => some (.ok (.fr a), ρ)
theorem je_var {i : Nat} {x : Str} {pos : Pos} (hN : X.N[i]? = some x) (hv : Vis X.env.scope x) (hd : (x == ("__debug__" : Str)) = false) (hcd : (x == ("__classdict__" : Str)) = false) : JE X E (.Name x pos) (mVar i) :=
  ⟨PE.weaken (pe_var hN hv hd hcd) fun σ H Q h => by
    obtain ⟨c, ρ, τ, θ, o, ρ', ek, b, em, q⟩ := h
    unfold mVar at em
    cases es : ρ[i]? with
    | none => simp only [es] at em; cases em
    | some s =>
      cases s with
      | un => simp only [es] at em; cases em
      | fr a =>
        simp only [es] at em; cases em
        obtain ⟨v, h1, h2⟩ := b.load es
        exact ⟨v, h1, q v H trivial h2⟩
      | lv o =>
        simp only [es] at em; cases em
        obtain ⟨v, h1, h2⟩ := b.slot es rfl
        exact ⟨v, h1, q v H h1 b⟩
      | pv o =>
        simp only [es] at em; cases em
        obtain ⟨v, h1, h2⟩ := b.slot es rfl
        exact ⟨v, h1, q v H h1 b⟩⟩
theorem je_varF {i : Nat} {x : Str} {pos : Pos} (hN : X.N[i]? = some x) (hv : Vis X.env.scope x) (hd : (x == ("__debug__" : Str)) = false) (hcd : (x == ("__classdict__" : Str)) = false) : JE X E (.Name x pos) (mVarF i) :=
  ⟨PE.weaken (pe_var hN hv hd hcd) fun σ H Q h => by
    obtain ⟨c, ρ, τ, θ, o, ρ', ek, b, em, q⟩ := h
    unfold mVarF at em
    cases es : ρ[i]? with
    | none => simp only [es] at em; cases em
    | some s =>
      cases s with
      | un => simp only [es] at em; cases em
      | fr a =>
        simp only [es] at em; cases em
        obtain ⟨v, h1, h2⟩ := b.load es
        exact ⟨v, h1, q v H trivial h2⟩
      | lv o =>
        simp only [es] at em; cases em
        have b2 := b.freezeS es
        have hi : i < ρ.length := (List.getElem?_eq_some_iff.mp es).1
        obtain ⟨v, h1, h2⟩ := b2.load (i := i) (a := o.a) (List.getElem?_set_self hi)
        exact ⟨v, h1, q v H trivial h2⟩
      | pv o => simp only [es] at em; cases em⟩
theorem c_of {e : Expr} {v : V} {a : A} (h : PE X e (tC v)) (r : ∀ G, RA (kx X) G v a) : JE X E e (mC a) := ⟨PE.weaken h fun σ H Q h => by
    obtain ⟨c, ρ, τ, θ, o, ρ', ek, b, em, q⟩ := h
    cases em
    exact q v H trivial (b.push (by rw [ek]; exact r))⟩
theorem je_int {i j pos} : JE X E (.Constant (.int i) j pos) (mC (.int i)) := c_of pe_int fun _ => .int _
theorem je_bl {b j pos} : JE X E (.Constant (.bool b) j pos) (mC (.bl b)) := c_of pe_bl fun _ => .bl _
theorem je_str {x j pos} : JE X E (.Constant (.str x) j pos) (mC (.str x)) := c_of pe_str fun _ => .str _
theorem je_glob {x : Str} {v : V} {u : Value} {pos : Pos} {a : A} (hg : Gl X x) (hm : X.mg x = some u) (r : RelV v u) (ra : ∀ G, RA (kx X) G v a) (hd : (x == ("__debug__" : Str)) = false) : JE X E (.Name x pos) (mC a) := c_of (pe_glob hg hm r hd) ra
def mOp (f : A → A → Option Rr) (ma mb : Mi Rr) : Mi Rr := mBind ma fun x => mBind mb fun y => fun ρ => match res ρ x, res ρ y with
  | some a, some b => match f a b with
    | some r => some (.ok r, ρ)
    | none => none
  | _, _ => none
def OpS (K : Kx) (r : R2) (f : A → A → Option Rr) : Prop := ∀ (c : Cn) (σ : St) (H : Hp) (ρ : List Sl) (τ : St) (θ : List Sl) (x y : Rr) (v w : V) (a b : A) (q : Rr) (Q : VK), c.toKx = K → VR σ x v → VR σ y w →
  Bd c σ H ρ (extV y w (extV x v τ)) (extS y (extS x θ)) → res ρ x = some a → res ρ y = some b → f a b = some q → (∀ u H', VR σ q u → Bd c σ H' ρ (extV q u τ) (extS q θ) → Q u H') → r v w H Q
theorem bind_some {α β : Type} {m : Mi α} {f : α → Mi β} {ρ : List Sl} {o : Except Str β} {ρ' : List Sl} (h : mBind m f ρ = some (o, ρ')) : (∃ x ρ1, m ρ = some (.ok x, ρ1) ∧ f x ρ1 = some (o, ρ')) ∨ ∃ e, m ρ = some (.error e, ρ') ∧ o = .error e := by
  unfold mBind at h
  cases e : m ρ with
  | none => simp only [e] at h; cases h
  | some p =>
    obtain ⟨r, ρ1⟩ := p
    cases r with
    | ok x => simp only [e] at h; exact .inl ⟨x, ρ1, rfl, h⟩
    | error x => simp only [e] at h; cases h; exact .inr ⟨x, rfl, rfl⟩
theorem te_bind {σ : St} {H : Hp} {c : Cn} {ρ ρ' : List Sl} {τ : St} {θ : List Sl} {β : Type} {ma : Mi Rr} {f : Rr → Mi β} {o : Except Str β} {Q : VK} (ek : c.toKx = kx X) (b : Bd c σ H ρ τ θ) (em : mBind ma f ρ = some (o, ρ'))
    (h1 : ∀ x v ρ1 H1, VR σ x v → Bd c σ H1 ρ1 (extV x v τ) (extS x θ) → f x ρ1 = some (o, ρ') → Q v H1)
    (h2 : ∀ e, o = .error e → ∀ C H, X.mg e = some (.ref C) → Bd c σ H ρ' τ θ → E (.ref C) none H) : TEm (kx X) E ma σ H Q := by
  rcases bind_some em with ⟨x, ρ1, e1, e2⟩ | ⟨e, e1, e2⟩
  · exact ⟨c, ρ, τ, θ, _, ρ1, ek, b, e1, fun v H1 hv b1 => h1 x v ρ1 H1 hv b1 e2⟩
  · exact ⟨c, ρ, τ, θ, _, ρ', ek, b, e1, fun C H1 hm b1 => h2 e e2 C H1 hm b1⟩
theorem err_drop {c : Cn} {σ : St} {ρ' : List Sl} {τ : St} {θ : List Sl} {x : Rr} {v : V} {β : Type} {o : Except Str β} (h : ∀ e, o = .error e → ∀ C H, X.mg e = some (.ref C) → Bd c σ H ρ' τ θ → E (.ref C) none H) :
    ∀ e, o = .error e → ∀ C H, X.mg e = some (.ref C) → Bd c σ H ρ' (extV x v τ) (extS x θ) → E (.ref C) none H := fun e ee C H hm b => h e ee C H hm b.drop
theorem ret_err {c : Cn} {σ : St} {ρ' : List Sl} {τ : St} {θ : List Sl} {o : Except Str Rr} {Q : VK} (q : Ret (kx X) E c σ ρ' τ θ Q o) : ∀ e, o = .error e → ∀ C H, X.mg e = some (.ref C) → Bd c σ H ρ' τ θ → E (.ref C) none H := fun e ee => by subst ee; exact q
theorem retT_err {c : Cn} {σ : St} {ρ' : List Sl} {τ : St} {θ : List Sl} {o : Except Str Bool} {Q : Bool → Hp → Prop} (q : RetT (kx X) E c σ ρ' τ θ Q o) : ∀ e, o = .error e → ∀ C H, X.mg e = some (.ref C) → Bd c σ H ρ' τ θ → E (.ref C) none H := fun e ee => by subst ee; exact q
theorem retA_err {c : Cn} {σ : St} {ρ' : List Sl} {τ : St} {θ : List Sl} {o : Except Str (List Rr)} {Q : List V → Hp → Prop} (q : RetA (kx X) E c σ ρ' τ θ Q o) : ∀ e, o = .error e → ∀ C H, X.mg e = some (.ref C) → Bd c σ H ρ' τ θ → E (.ref C) none H := fun e ee => by subst ee; exact q
theorem op_tail {f : A → A → Option Rr} {x y : Rr} {ρ ρ' : List Sl} {o : Except Str Rr} (h : (match res ρ x, res ρ y with | some a, some b => (match f a b with | some r => some ((.ok r : Except Str Rr), ρ) | none => none) | _, _ => none) = some (o, ρ')) :
    ∃ a b r, res ρ x = some a ∧ res ρ y = some b ∧ f a b = some r ∧ o = .ok r ∧ ρ' = ρ := by
  cases e1 : res ρ x with
  | none => simp only [e1] at h; cases h
  | some a =>
    cases e2 : res ρ y with
    | none => simp only [e1, e2] at h; cases h
    | some b =>
      simp only [e1, e2] at h
      cases e3 : f a b with
      | none => simp only [e3] at h; cases h
      | some r => simp only [e3] at h; cases h; exact ⟨a, b, r, rfl, rfl, e3, rfl, rfl⟩
theorem op_weak {r : R2} {f : A → A → Option Rr} {ma mb : Mi Rr} (hf : OpS (kx X) r f) (σ : St) (H : Hp) (Q : VK) (h : TEm (kx X) E (mOp f ma mb) σ H Q) : tOp r (TEm (kx X) E ma) (TEm (kx X) E mb) σ H Q := by
  obtain ⟨c, ρ, τ, θ, o, ρ', ek, b, em, q⟩ := h
  refine te_bind ek b em (fun x v ρ1 H1 hv b1 em1 => ?_) (ret_err q)
  refine te_bind ek b1 em1 (fun y w ρ2 H2 hw b2 em2 => ?_) (err_drop (ret_err q))
  obtain ⟨a, d, r, e1, e2, e3, rfl, rfl⟩ := op_tail em2
  exact hf c σ H2 _ τ θ x y v w a d r Q ek hv hw b2 e1 e2 e3 q
theorem je_op {op : Operator} {r : R2} {f : A → A → Option Rr} {a b : Expr} {ma mb : Mi Rr} {pos : Pos} (ho : OpR X (binaryOp op) r) (hf : OpS (kx X) r f) (ha : JE X E a ma) (hb : JE X E b mb) : JE X E (.BinOp a op b pos) (mOp f ma mb) :=
  ⟨PE.weaken (pe_op ho ha.p hb.p) (op_weak hf)⟩
theorem je_cmp {op : CmpOp} {r : R2} {f : A → A → Option Rr} {a b : Expr} {ma mb : Mi Rr} {pos : Pos} (ho : OpR X (compareOp op) r) (hf : OpS (kx X) r f) (ha : JE X E a ma) (hb : JE X E b mb) (hm : behindInMarks op b = false) : JE X E (.Compare a [op] [b] pos) (mOp f ma mb) :=
  ⟨PE.weaken (pe_cmpR ho ha.p hb.p hm) (op_weak hf)⟩
def asB : Rr → Option Bool
  | .fr (.bl b) => some b
  | _ => none
def mTest (m : Mi Rr) : Mi Bool := mBind m fun r ρ => match asB r with
  | some b => some (.ok b, ρ)
  | none => none
theorem test_weak {m : Mi Rr} (σ : St) (H : Hp) (Q : Bool → Hp → Prop) (h : TTm (kx X) E (mTest m) σ H Q) : TEm (kx X) E m σ H fun x H' => ∃ k, x = .bl k ∧ Q k H' := by
  obtain ⟨c, ρ, τ, θ, o, ρ', ek, b, em, q⟩ := h
  refine te_bind ek b em (fun x v ρ1 H1 hv b1 em1 => ?_) (retT_err q)
  cases x with
  | rf i => cases em1
  | nw o => cases em1
  | fr a =>
    cases a with
    | bl k =>
      cases em1
      have r := Bd.top b1 (a := .bl k) rfl
      cases r
      exact ⟨k, rfl, q H1 b1.pop⟩
    | _ => cases em1
theorem jt_cmp {op : CmpOp} {r : R2} {f : A → A → Option Rr} {a b : Expr} {ma mb : Mi Rr} {pos : Pos} (ho : OpR X (compareOp op) r) (hf : OpS (kx X) r f) (ha : JE X E a ma) (hb : JE X E b mb) (hm : behindInMarks op b = false) : JT X E (.Compare a [op] [b] pos) (mTest (mOp f ma mb)) :=
  ⟨PT.weaken (pt_cmpR ho ha.p hb.p hm) fun σ H Q h => op_weak hf σ H _ (test_weak σ H Q h)⟩
theorem jt_val {e : Expr} {m : Mi Rr} (h : JE X E e m) (he : ∀ whole, isTrue e X.env whole = (do let v ← whole; standAt e.pos; holding [v] (truthy v)) := by intro _; rfl) : JT X E e (mTest m) :=
  ⟨PT.weaken (pt_val h.p he) fun σ H Q h => test_weak σ H Q h⟩
def mAnd (m n : Mi Bool) : Mi Bool := mBind m fun b => if b then n else mPure false
def mOr (m n : Mi Bool) : Mi Bool := mBind m fun b => if b then mPure true else n
def mNot (m : Mi Bool) : Mi Bool := mBind m fun b => mPure (!b)
theorem tt_bind {σ : St} {H : Hp} {c : Cn} {ρ ρ' : List Sl} {τ : St} {θ : List Sl} {β : Type} {m : Mi Bool} {f : Bool → Mi β} {o : Except Str β} {Q : Bool → Hp → Prop} (ek : c.toKx = kx X) (b : Bd c σ H ρ τ θ) (em : mBind m f ρ = some (o, ρ'))
    (h1 : ∀ k ρ1 H1, Bd c σ H1 ρ1 τ θ → f k ρ1 = some (o, ρ') → Q k H1)
    (h2 : ∀ e, o = .error e → ∀ C H, X.mg e = some (.ref C) → Bd c σ H ρ' τ θ → E (.ref C) none H) : TTm (kx X) E m σ H Q := by
  rcases bind_some em with ⟨x, ρ1, e1, e2⟩ | ⟨e, e1, e2⟩
  · exact ⟨c, ρ, τ, θ, _, ρ1, ek, b, e1, fun H1 b1 => h1 x ρ1 H1 b1 e2⟩
  · exact ⟨c, ρ, τ, θ, _, ρ', ek, b, e1, fun C H1 hm b1 => h2 e e2 C H1 hm b1⟩
theorem jt_not {a : Expr} {m : Mi Bool} {pos : Pos} (h : JT X E a m) : JT X E (.UnaryOp .Not a pos) (mNot m) := ⟨PT.weaken (pt_not h.p) fun σ H Q h => by
  obtain ⟨c, ρ, τ, θ, o, ρ', ek, b, em, q⟩ := h
  refine tt_bind ek b em (fun k ρ1 H1 b1 em1 => ?_) (retT_err q)
  cases em1; exact q H1 b1⟩
theorem jw_or1 {a : Expr} {m : Mi Bool} {pos : Pos} (h : JT X E a m) : JW X E (.BoolOp .Or [a] pos) m := ⟨pw_or1 h.p⟩
theorem jw_or {a b : Expr} {rest : List Expr} {m n : Mi Bool} {pos : Pos} (h : JT X E a m) (h' : JW X E (.BoolOp .Or (b :: rest) pos) n) : JW X E (.BoolOp .Or (a :: b :: rest) pos) (mOr m n) := ⟨PW.weaken (pw_or h.p h'.p) fun σ H Q h => by
  obtain ⟨c, ρ, τ, θ, o, ρ', ek, b, em, q⟩ := h
  refine tt_bind ek b em (fun k ρ1 H1 b1 em1 => ?_) (retT_err q)
  cases k with
  | true => rw [if_pos rfl]; cases em1; exact q H1 b1
  | false => rw [if_neg (by decide)]; exact ⟨c, ρ1, τ, θ, o, ρ', ek, b1, em1, q⟩⟩
theorem jt_of {e : Expr} {m : Mi Bool} (h : JW X E e m) : JT X E e m := ⟨h.p.pt⟩
def mAndV (m n : Mi Rr) : Mi Rr := mBind (mTest m) fun b => if b then n else mC (.bl false)
def mOrV (m n : Mi Rr) : Mi Rr := mBind (mTest m) fun b => if b then mC (.bl true) else n
def mNotV (m : Mi Rr) : Mi Rr := mBind (mTest m) fun b => mC (.bl (!b))
theorem tb_bind {σ : St} {H : Hp} {c : Cn} {ρ ρ' : List Sl} {τ : St} {θ : List Sl} {β : Type} {m : Mi Rr} {f : Bool → Mi β} {o : Except Str β} {Q : Bool → Hp → Prop} (ek : c.toKx = kx X) (b : Bd c σ H ρ τ θ) (em : mBind (mTest m) f ρ = some (o, ρ'))
    (h1 : ∀ k ρ1 H1, Bd c σ H1 ρ1 τ θ → f k ρ1 = some (o, ρ') → Q k H1)
    (h2 : ∀ e, o = .error e → ∀ C H, X.mg e = some (.ref C) → Bd c σ H ρ' τ θ → E (.ref C) none H) : TEm (kx X) E m σ H fun x H' => ∃ k, x = .bl k ∧ Q k H' :=
  test_weak σ H Q (tt_bind ek b em h1 h2)
theorem je_one {op} {a : Expr} {m : Mi Rr} {pos : Pos} (h : JE X E a m) : JE X E (.BoolOp op [a] pos) m := ⟨pe_one h.p⟩
theorem je_and {a b : Expr} {rest : List Expr} {m n : Mi Rr} {pos : Pos} (h : JE X E a m) (h' : JE X E (.BoolOp .And (b :: rest) pos) n) : JE X E (.BoolOp .And (a :: b :: rest) pos) (mAndV m n) := ⟨PE.weaken (pe_and h.p h'.p) fun σ H Q h => by
  obtain ⟨c, ρ, τ, θ, o, ρ', ek, b, em, q⟩ := h
  refine tb_bind (Q := fun k H1 => if k = true then TEm (kx X) E n σ H1 Q else Q (.bl false) H1) ek b em (fun k ρ1 H1 b1 em1 => ?_) (ret_err q)
  cases k with
  | true => rw [if_pos rfl]; exact ⟨c, ρ1, τ, θ, o, ρ', ek, b1, em1, q⟩
  | false => rw [if_neg (by decide)]; cases em1; exact q (.bl false) H1 trivial (b1.push fun _ => .bl _)⟩
def mIf (t : Mi Bool) (m n : Mi Rr) : Mi Rr := mBind t fun b => if b then m else n
def mNil : Mi (List Rr) := mPure []
def mCons (m : Mi Rr) (n : Mi (List Rr)) : Mi (List Rr) := mBind m fun r => mBind n fun rs => mPure (r :: rs)
theorem ja_nil : JA X E [] mNil := ⟨PA.weaken pa_nil fun σ H Q h => by
  obtain ⟨c, ρ, τ, θ, o, ρ', ek, b, em, q⟩ := h
  cases em; exact q [] H trivial b⟩
theorem ja_cons {e : Expr} {es : List Expr} {m : Mi Rr} {n : Mi (List Rr)} (h : JE X E e m) (h' : JA X E es n) (hs : starEach (e :: es) X.env = (false, eval e X.env) :: starEach es X.env := by rfl) : JA X E (e :: es) (mCons m n) := ⟨PA.weaken (pa_cons h.p h'.p hs) fun σ H Q h => by
  obtain ⟨c, ρ, τ, θ, o, ρ', ek, b, em, q⟩ := h
  refine te_bind ek b em (fun x v ρ1 H1 hv b1 em1 => ?_) (retA_err q)
  rcases bind_some em1 with ⟨rs, ρ2, e1, e2⟩ | ⟨e, e1, e2⟩
  · cases e2
    exact ⟨c, ρ1, _, _, _, ρ', ek, b1, e1, fun vs H2 hvs b2 => q (v :: vs) H2 ⟨hv, hvs⟩ b2⟩
  · subst e2
    exact ⟨c, ρ1, _, _, _, ρ', ek, b1, e1, fun C H2 hm b2 => q C H2 hm b2.drop⟩⟩
end
end M
namespace M
open PySem L2
section
variable {c : Cn} {σ : St} {H : Hp} {ρ : List Sl} {τ : St} {θ : List Sl}
theorem set_id {α : Type} {l : List α} {i : Nat} {x : α} (h : l[i]? = some x) : l.set i x = l := by
  apply List.ext_getElem?; intro j
  by_cases z : j = i
  · subst z; rw [List.getElem?_set_self (List.getElem?_eq_some_iff.mp h).1, h]
  · rw [List.getElem?_set_ne (Ne.symm z)]
theorem g_eq {c : Cn} {H : Hp} {L L' : List Addr} (h : ∀ a, a ∈ L ↔ a ∈ L') : c.g H L = c.g H L' := by
  funext a
  by_cases z : a ∈ L ∨ a ∈ c.Hd
  · rw [g_in z, g_in (by rwa [← h a])]
  · rw [g_out (fun y => z (.inl y)) (fun y => z (.inr y)), g_out (fun y => z (.inl ((h a).mpr y))) (fun y => z (.inr y))]
theorem BdL.perm {L L' : List Addr} (b : BdL c σ H ρ τ θ L) {τ' : St} {θ' : List Sl} {ρ' : List Sl} (pm : L'.Perm L) (lt : τ'.length = θ'.length) (r : SlRs c.toKx (c.g H L) H (τ' ++ σ) (θ' ++ ρ') L') (kp : keepP c.σ0 σ ρ') : BdL c σ H ρ' τ' θ' L' :=
  ⟨(pm.nodup_iff).mpr b.nd, by rw [g_eq (L' := L) fun a => pm.mem_iff]; exact r, fun p hp => b.own p (pm.mem_iff.mp hp), b.fr, kp, lt, b.hd⟩
theorem Bd.midF {xs : St} {ss : List Sl} {v : V} {o : LO} (e : xs.length = ss.length) (b : Bd c σ H ρ (xs ++ some v :: τ) (ss ++ .lv o :: θ)) : Bd c σ H ρ (xs ++ some v :: τ) (ss ++ .fr o.a :: θ) := by
  obtain ⟨L, b⟩ := b
  have r : SlRs c.toKx (c.g H L) H (xs ++ (some v :: (τ ++ σ))) (ss ++ (.lv o :: (θ ++ ρ))) L := by have := b.rel; simpa [List.append_assoc] using this
  obtain ⟨L1, L2, e1, r1, r2⟩ := SlRs.split e r
  cases r2 with
  | cons h r3 =>
    rename_i La Lb
    cases h with
    | lv h =>
      rename_i p
      have nd := b.nd
      rw [e1] at nd
      have hp : p ∉ L1 ++ Lb := by
        obtain ⟨n1, n2, n3⟩ := List.nodup_append.mp nd
        obtain ⟨m1, m2⟩ := List.nodup_cons.mp n2
        intro z
        rcases List.mem_append.mp z with z | z
        · exact n3 p z p (by simp) rfl
        · exact m1 z
      have sub : ∀ a, a ∈ L1 ++ Lb → a ∈ L := fun a ha => by rw [e1]; simp at ha ⊢; rcases ha with z | z <;> simp [z]
      have sm : Sq (c.g H L) (c.g H (L1 ++ Lb)) := g_mono sub
      have hin : p ∈ L := by rw [e1]; simp
      refine ⟨L1 ++ Lb, ?_, ?_, fun q hq => b.own q (sub q hq), b.fr, b.kp, by have := b.lt; simp at this ⊢; omega, b.hd⟩
      · obtain ⟨n1, n2, n3⟩ := List.nodup_append.mp nd
        exact List.nodup_append.mpr ⟨n1, (List.nodup_cons.mp n2).2, fun a ha b' hb => n3 a ha b' (List.mem_cons_of_mem _ hb)⟩
      · have := (r1.sm sm (fun _ _ _ e => e)).app (SlRs.cons (L := []) (.fr (h.a' sm fun u e => by rw [g_out hp (b.nhd hin)]; exact e)) (r3.sm sm (fun _ _ _ e => e)))
        simpa [List.append_assoc] using this
theorem Bd.midI {xs : St} {ss : List Sl} {v : V} {a : A} {i : Nat} (e : xs.length = ss.length) (b : Bd c σ H ρ (xs ++ τ) (ss ++ θ)) (hv : σ[i]? = some (some v)) (hs : ρ[i]? = some (.fr a)) : Bd c σ H ρ (xs ++ some v :: τ) (ss ++ .fr a :: θ) := by
  obtain ⟨L, b⟩ := b
  obtain ⟨M1, M2, _, _, r2⟩ := SlRs.split b.lt b.rel
  obtain ⟨x, _, _, _, hx, hsl, _⟩ := r2.at hs
  rw [hv] at hx; cases hx
  cases hsl with
  | fr h =>
    have r : SlRs c.toKx (c.g H L) H (xs ++ (τ ++ σ)) (ss ++ (θ ++ ρ)) L := by have := b.rel; simpa [List.append_assoc] using this
    obtain ⟨L1, L2, e1, r1, r2⟩ := SlRs.split e r
    refine ⟨L, b.nd, ?_, b.own, b.fr, b.kp, by have := b.lt; simp at this ⊢; omega, b.hd⟩
    have := r1.app (SlRs.cons (L := []) (.fr h) r2)
    rw [e1] at this ⊢
    simpa [List.append_assoc] using this
theorem perm_mid (L1 L2 M1 M3 : List Addr) (p : Addr) : (L1 ++ p :: (L2 ++ (M1 ++ M3))).Perm (L1 ++ (L2 ++ (M1 ++ p :: M3))) := by
  rw [List.perm_iff_count]; intro a; simp only [List.count_append, List.count_cons]; omega
theorem Bd.midT {xs : St} {ss : List Sl} {v : V} {o : LO} {i : Nat} {s : Sl} (e : xs.length = ss.length) (b : Bd c σ H ρ (xs ++ τ) (ss ++ θ)) (hv : σ[i]? = some (some v)) (hs : ρ[i]? = some s) (hk : s = .lv o ∨ s = .pv o) :
    Bd c σ H (ρ.set i .un) (xs ++ some v :: τ) (ss ++ .lv o :: θ) := by
  obtain ⟨L, b⟩ := b
  have r : SlRs c.toKx (c.g H L) H (xs ++ (τ ++ σ)) (ss ++ (θ ++ ρ)) L := by have := b.rel; simpa [List.append_assoc] using this
  obtain ⟨L1, L2, e1, r1, r2⟩ := SlRs.split e r
  obtain ⟨N1, N2, e2, r3, r4⟩ := SlRs.split (by have := b.lt; simp at this; omega) r2
  obtain ⟨x, M1, M2, M3, hx, hsl, e3, ins⟩ := r4.at hs
  rw [hv] at hx; cases hx
  have fin : ∀ p, v = .ref p → M2 = [p] → LR c.toKx (c.g H L) H p o → Bd c σ H (ρ.set i .un) (xs ++ some v :: τ) (ss ++ .lv o :: θ) := by
    intro p ev em h
    subst ev em
    have r5 := ins (y := some (.ref p)) (t := .un) (L' := []) (Sq.refl _) (fun _ _ _ e => e) (.un _)
    rw [set_id hv] at r5
    have r6 := r1.app (SlRs.cons (SlR.lv h) (r3.app r5))
    have pm : (L1 ++ ([p] ++ (N1 ++ (M1 ++ [] ++ M3)))).Perm L := by
      rw [e1, e2, e3]
      simpa using perm_mid L1 N1 M1 M3 p
    exact ⟨_, b.perm pm (by have := b.lt; simp at this ⊢; omega) (by simpa [List.append_assoc] using r6) (b.kp.set' (fun o z => by cases z))⟩
  rcases hk with rfl | rfl
  · cases hsl with | lv h => exact fin _ rfl rfl h
  · cases hsl with | pv h => exact fin _ rfl rfl h
theorem Bd.putBack {v : V} {o : LO} {i : Nat} {t : Sl} (b : Bd c σ H ρ (some v :: τ) (.lv o :: θ)) (hv : σ[i]? = some (some v)) (hs : ρ[i]? = some .un) (hk : t = .lv o ∨ (t = .pv o ∧ σ[i]? = c.σ0[i]?)) : Bd c σ H (ρ.set i t) τ θ := by
  obtain ⟨L, b⟩ := b
  have r : SlRs c.toKx (c.g H L) H (some v :: (τ ++ σ)) (.lv o :: (θ ++ ρ)) L := b.rel
  cases r with
  | cons h r =>
    rename_i L0 L'
    obtain ⟨L1, L2, e1, r1, r2⟩ := SlRs.split (by have := b.lt; simpa using this) r
    obtain ⟨x, M1, M2, M3, hx, hsl, e3, ins⟩ := r2.at hs
    cases hsl with
    | un =>
      cases h with
      | lv h =>
        rename_i p
        have fin : SlR c.toKx (c.g H ([p] ++ L')) H (some (.ref p)) t [p] → keepP c.σ0 σ (ρ.set i t) → Bd c σ H (ρ.set i t) τ θ := fun h kp => by
          have r5 := ins (Sq.refl _) (fun _ _ _ e => e) h
          rw [set_id hv] at r5
          have pm : (L1 ++ (M1 ++ [p] ++ M3)).Perm ([p] ++ L') := by
            rw [e1, e3]; rw [List.perm_iff_count]; intro a; simp only [List.count_append, List.count_cons, List.count_nil]; omega
          exact ⟨_, b.perm pm (by have := b.lt; simpa using this) (r1.app r5) kp⟩
        rcases hk with rfl | ⟨rfl, hk⟩
        · exact fin (.lv h) (b.kp.set' (fun _ z => by cases z))
        · refine fin (.pv h) fun j o' q => ?_
          by_cases z : j = i
          · subst z; exact hk
          · rw [List.getElem?_set_ne (Ne.symm z)] at q; exact b.kp j o' q
theorem extVs_app : ∀ (rs : List Rr) (vs : List V) (τ : St), extVs rs vs τ = extVs rs vs [] ++ τ
  | [], _, τ => rfl
  | r :: rs, [], τ => rfl
  | r :: rs, v :: vs, τ => by
    show extVs rs vs (extV r v τ) = extVs rs vs (extV r v []) ++ τ
    rw [extVs_app rs vs (extV r v τ), extVs_app rs vs (extV r v []), List.append_assoc]
    congr 1
    cases r <;> rfl
theorem extSs_app : ∀ (rs : List Rr) (θ : List Sl), extSs rs θ = extSs rs [] ++ θ
  | [], θ => rfl
  | r :: rs, θ => by
    show extSs rs (extS r θ) = extSs rs (extS r []) ++ θ
    rw [extSs_app rs (extS r θ), extSs_app rs (extS r []), List.append_assoc]
    congr 1
    cases r <;> rfl
theorem VRs.len : ∀ {rs : List Rr} {vs : List V}, VRs σ rs vs → rs.length = vs.length
  | [], [], _ => rfl
  | _ :: rs, _ :: vs, h => by rw [List.length_cons, List.length_cons, VRs.len h.2]
  | [], _ :: _, h => h.elim
  | _ :: _, [], h => h.elim
theorem ext_len : ∀ (rs : List Rr) (vs : List V), rs.length = vs.length → (extVs rs vs []).length = (extSs rs []).length
  | [], [], _ => rfl
  | r :: rs, v :: vs, h => by
    show (extVs rs vs (extV r v [])).length = (extSs rs (extS r [])).length
    rw [extVs_app, extSs_app, List.length_append, List.length_append, ext_len rs vs (by simpa using h)]
    congr 1
    cases r <;> rfl
  | [], _ :: _, h => by simp at h
  | _ :: _, [], h => by simp at h
def frz1 : Rr → List Sl → Option (A × List Sl)
  | .fr a, ρ => some (a, ρ)
  | .nw o, ρ => some (o.a, ρ)
  | .rf i, ρ => match ρ[i]? with
    | some (.lv o) => some (o.a, ρ.set i (.fr o.a))
    | some (.fr a) => some (a, ρ)
    | _ => none
def frzL : List Rr → List Sl → Option (List A × List Sl)
  | [], ρ => some ([], ρ)
  | r :: rs, ρ => match frz1 r ρ with
    | some (a, ρ1) => match frzL rs ρ1 with
      | some (as, ρ2) => some (a :: as, ρ2)
      | none => none
    | none => none
theorem Bd.frz1 {r : Rr} {v : V} {a : A} {ρ' : List Sl} {xs : St} {ss : List Sl} (e : xs.length = ss.length) (b : Bd c σ H ρ (xs ++ extV r v τ) (ss ++ extS r θ)) (hv : VR σ r v) (h : frz1 r ρ = some (a, ρ')) : Bd c σ H ρ' (xs ++ some v :: τ) (ss ++ .fr a :: θ) := by
  cases r with
  | fr a' => cases h; exact b
  | nw o => cases h; exact Bd.midF e b
  | rf i =>
    unfold M.frz1 at h
    cases es : ρ[i]? with
    | none => simp only [es] at h; cases h
    | some s =>
      cases s with
      | un => simp only [es] at h; cases h
      | pv o => simp only [es] at h; cases h
      | fr a' => simp only [es] at h; cases h; exact Bd.midI e b hv es
      | lv o =>
        simp only [es] at h; cases h
        have b2 := Bd.freezeS b es
        exact Bd.midI e b2 hv (List.getElem?_set_self (List.getElem?_eq_some_iff.mp es).1)
theorem frzL_cons {r : Rr} {rs : List Rr} {ρ ρ' : List Sl} {as : List A} (h : frzL (r :: rs) ρ = some (as, ρ')) : ∃ a as' ρ1, frz1 r ρ = some (a, ρ1) ∧ frzL rs ρ1 = some (as', ρ') ∧ as = a :: as' := by
  unfold frzL at h
  cases e1 : frz1 r ρ with
  | none => simp only [e1] at h; cases h
  | some p =>
    obtain ⟨a, ρ1⟩ := p
    simp only [e1] at h
    cases e2 : frzL rs ρ1 with
    | none => simp only [e2] at h; cases h
    | some q => obtain ⟨as', ρ2⟩ := q; simp only [e2] at h; cases h; exact ⟨a, as', ρ1, rfl, e2, rfl⟩
theorem Bd.frzL : ∀ {rs : List Rr} {vs : List V} {as : List A} {ρ ρ' : List Sl} {τ : St} {θ : List Sl}, VRs σ rs vs → Bd c σ H ρ (extVs rs vs τ) (extSs rs θ) → frzL rs ρ = some (as, ρ') → Bd c σ H ρ' (vs.reverse.map some ++ τ) (as.reverse.map Sl.fr ++ θ) ∧ vs.length = as.length
  | [], [], _, _, _, _, _, _, b, h => by cases h; exact ⟨b, rfl⟩
  | r :: rs, v :: vs, _, ρ, ρ', τ, θ, hv, b, h => by
    obtain ⟨a, as, ρ1, e1, e2, rfl⟩ := frzL_cons h
    have b : Bd c σ H ρ (extVs rs vs (extV r v τ)) (extSs rs (extS r θ)) := b
    rw [extVs_app, extSs_app] at b
    have b1 := Bd.frz1 (ext_len rs vs (VRs.len hv.2)) b hv.1 e1
    rw [← extVs_app rs vs (some v :: τ), ← extSs_app rs (.fr a :: θ)] at b1
    obtain ⟨b2, e3⟩ := Bd.frzL hv.2 b1 e2
    exact ⟨by simpa using b2, by simp [e3]⟩
  | [], _ :: _, _, _, _, _, _, h, _, _ => h.elim
  | _ :: _, [], _, _, _, _, _, h, _, _ => h.elim
end
section
variable {X : Cx} {E : XK}
theorem ta_bind {σ : St} {H : Hp} {c : Cn} {ρ ρ' : List Sl} {τ : St} {θ : List Sl} {β : Type} {m : Mi (List Rr)} {f : List Rr → Mi β} {o : Except Str β} {Q : List V → Hp → Prop} (ek : c.toKx = kx X) (b : Bd c σ H ρ τ θ) (em : mBind m f ρ = some (o, ρ'))
    (h1 : ∀ rs vs ρ1 H1, VRs σ rs vs → Bd c σ H1 ρ1 (extVs rs vs τ) (extSs rs θ) → f rs ρ1 = some (o, ρ') → Q vs H1)
    (h2 : ∀ e, o = .error e → ∀ C H, X.mg e = some (.ref C) → Bd c σ H ρ' τ θ → E (.ref C) none H) : TAm (kx X) E m σ H Q := by
  rcases bind_some em with ⟨x, ρ1, e1, e2⟩ | ⟨e, e1, e2⟩
  · exact ⟨c, ρ, τ, θ, _, ρ1, ek, b, e1, fun vs H1 hv b1 => h1 x vs ρ1 H1 hv b1 e2⟩
  · exact ⟨c, ρ, τ, θ, _, ρ', ek, b, e1, fun C H1 hm b1 => h2 e e2 C H1 hm b1⟩
def mTup (m : Mi (List Rr)) : Mi Rr := mBind m fun rs ρ => match frzL rs ρ with
  | some (as, ρ') => if as.length ≤ 1000 then some (.ok (.fr (.tup as)), ρ') else none
  | none => none
def mLst (m : Mi (List Rr)) : Mi Rr := mBind m fun rs ρ => match frzL rs ρ with
  | some (as, ρ') => if as.length ≤ 1000 then some (.ok (.nw (.lst as)), ρ') else none
  | none => none
theorem rev_ra {k : Kx} {vs : List V} {as : List A} : ∀ G, RAs k G vs.reverse as.reverse → RAs k G vs as := fun G h => by have := h.rev; simpa using this
theorem line1000 : 1000 ≤ sizeLine := by rw [sizeLine_eq]; decide
theorem je_tup {es : List Expr} {m : Mi (List Rr)} {x1 pos} (h : JA X E es m) : JE X E (.Tuple es x1 pos) (mTup m) := ⟨PE.weaken (pe_tup h.p) fun σ H Q h => by
  obtain ⟨c, ρ, τ, θ, o, ρ', ek, b, em, q⟩ := h
  refine ta_bind ek b em (fun rs vs ρ1 H1 hv b1 em1 => ?_) (ret_err q)
  cases e1 : frzL rs ρ1 with
  | none => simp only [e1] at em1; cases em1
  | some p =>
    obtain ⟨as, ρ2⟩ := p
    simp only [e1] at em1
    obtain ⟨b2, e2⟩ := Bd.frzL hv b1 e1
    split at em1
    · rename_i hl
      cases em1
      exact ⟨by have := line1000; omega, fun p hp => q (.ref p) _ trivial (Bd.newTup b2 (by simp [e2]) hp vs as rev_ra)⟩
    · cases em1⟩
theorem je_lst {es : List Expr} {m : Mi (List Rr)} {pos} (h : JA X E es m) : JE X E (.List es pos) (mLst m) := ⟨PE.weaken (pe_lst h.p) fun σ H Q h => by
  obtain ⟨c, ρ, τ, θ, o, ρ', ek, b, em, q⟩ := h
  refine ta_bind ek b em (fun rs vs ρ1 H1 hv b1 em1 => ?_) (ret_err q)
  cases e1 : frzL rs ρ1 with
  | none => simp only [e1] at em1; cases em1
  | some p =>
    obtain ⟨as, ρ2⟩ := p
    simp only [e1] at em1
    obtain ⟨b2, e2⟩ := Bd.frzL hv b1 e1
    split at em1
    · rename_i hl
      cases em1
      exact ⟨by have := line1000; omega, fun p hp => q (.ref p) _ trivial (Bd.newLst b2 (by simp [e2]) hp vs as rev_ra)⟩
    · cases em1⟩
end
end M
namespace M
open PySem L2
inductive Fl where
  | nx | rt (s : Sl) | bk | ct | ex (c : Str)
abbrev Ms := List Sl → Option (Fl × List Sl)
def backL : Nat → List Sl → List Sl
  | 0, _ => []
  | n + 1, [] => .un :: backL n []
  | n + 1, .pv o :: ρ => .pv o :: backL n ρ
  | n + 1, _ :: ρ => .un :: backL n ρ
def SpM (K : Kx) (n : Nat) (m : Ms) : Sp := fun vs H Q E => vs.length = n ∧ ∃ (c : Cn) (ρ : List Sl) (f : Fl) (ρ' : List Sl), c.toKx = K ∧ c.σ0 = vs.map some ∧ c.H0 = H ∧ BdL c (vs.map some) H ρ [] [] c.Lp ∧ m ρ = some (f, ρ') ∧
  (match f with
   | .rt s => ∀ v H', (∀ o, s ≠ .pv o) → Bd c (vs.map some) H' (backL vs.length ρ') [some v] [s] → Q v H'
   | .ex x => ∀ C H', K.mg x = some (.ref C) → Bd c (vs.map some) H' (backL vs.length ρ') [] [] → E (.ref C) none H'
   | _ => False)
section
variable {k : Kx} {G H : Hp}
theorem SlRs.back : ∀ {σ0 σ : St} {ρ : List Sl} {L : List Addr}, SlRs k G H σ ρ L → (∀ (i : Nat) (o : LO), ρ[i]? = some (.pv o) → i < σ0.length → σ[i]? = σ0[i]?) → ∃ L', L'.Sublist L ∧ SlRs k G H σ0 (backL σ0.length ρ) L'
  | [], _, _, _, _, _ => ⟨[], List.nil_sublist _, .nil⟩
  | x :: σ0, _, _, _, .nil, h => by
    obtain ⟨L', s, r⟩ := SlRs.back (σ0 := σ0) (σ := []) (ρ := []) .nil (fun i o e => by simp at e)
    exact ⟨L', s, SlRs.cons (L := []) (.un x) r⟩
  | x :: σ0, _, _, _, .cons (x := y) (s := s) (ρ := ρ1) (L := L1) (L' := L2) hs r, h => by
    obtain ⟨L', sl, r'⟩ := SlRs.back (σ0 := σ0) r (fun i o e hi => by have := h (i + 1) o e (by simpa using hi); simpa using this)
    have fin : backL (x :: σ0).length (s :: ρ1) = .un :: backL σ0.length ρ1 → ∃ L', L'.Sublist (L1 ++ L2) ∧ SlRs k G H (x :: σ0) (backL (x :: σ0).length (s :: ρ1)) L' := fun e => by
      rw [e]
      exact ⟨L', sl.trans (List.sublist_append_right _ _), SlRs.cons (L := []) (.un x) r'⟩
    cases s with
    | un => exact fin rfl
    | fr a => exact fin rfl
    | lv o => exact fin rfl
    | pv o =>
      have e := h 0 o rfl (by simp)
      have e : y = x := by simpa using e
      subst e
      exact ⟨L1 ++ L', List.Sublist.append (List.Sublist.refl _) sl, SlRs.cons hs r'⟩
end
section
variable {c : Cn} {σ : St} {H : Hp} {ρ : List Sl} {τ : St} {θ : List Sl}
theorem Bd.back (b : Bd c σ H ρ τ θ) : Bd c c.σ0 H (backL c.σ0.length ρ) τ θ := by
  obtain ⟨L, b⟩ := b
  obtain ⟨L1, L2, e1, r1, r2⟩ := SlRs.split b.lt b.rel
  obtain ⟨L', sl, r⟩ := r2.back (σ0 := c.σ0) (fun i o e _ => b.kp i o e)
  have sl2 : (L1 ++ L').Sublist L := by rw [e1]; exact List.Sublist.append (List.Sublist.refl _) sl
  have sm : Sq (c.g H L) (c.g H (L1 ++ L')) := g_mono fun a ha => sl2.subset ha
  exact ⟨L1 ++ L', b.nd.sublist sl2, (r1.app r).sm sm (fun _ _ _ e => e), fun p hp => b.own p (sl2.subset hp), b.fr, fun i o _ => rfl, b.lt, b.hd⟩
def take1 : Rr → List Sl → Option (Sl × List Sl)
  | .fr a, ρ => some (.fr a, ρ)
  | .nw o, ρ => some (.fr o.a, ρ)
  | .rf i, ρ => match ρ[i]? with
    | some (.lv o) => some (.lv o, ρ.set i .un)
    | some (.pv o) => some (.lv o, ρ.set i .un)
    | some (.fr a) => some (.fr a, ρ)
    | _ => none
def takeL : List Rr → List Sl → Option (List Sl × List Sl)
  | [], ρ => some ([], ρ)
  | r :: rs, ρ => match take1 r ρ with
    | some (a, ρ1) => match takeL rs ρ1 with
      | some (as, ρ2) => some (a :: as, ρ2)
      | none => none
    | none => none
def toP : Sl → Sl
  | .lv o => .pv o
  | s => s
theorem takeL_cons {r : Rr} {rs : List Rr} {ρ ρ' : List Sl} {as : List Sl} (h : takeL (r :: rs) ρ = some (as, ρ')) : ∃ a as' ρ1, take1 r ρ = some (a, ρ1) ∧ takeL rs ρ1 = some (as', ρ') ∧ as = a :: as' := by
  unfold takeL at h
  cases e1 : take1 r ρ with
  | none => simp only [e1] at h; cases h
  | some p =>
    obtain ⟨a, ρ1⟩ := p
    simp only [e1] at h
    cases e2 : takeL rs ρ1 with
    | none => simp only [e2] at h; cases h
    | some q => obtain ⟨as', ρ2⟩ := q; simp only [e2] at h; cases h; exact ⟨a, as', ρ1, rfl, e2, rfl⟩
theorem Bd.take1 {r : Rr} {v : V} {a : Sl} {ρ' : List Sl} {xs : St} {ss : List Sl} (e : xs.length = ss.length) (b : Bd c σ H ρ (xs ++ extV r v τ) (ss ++ extS r θ)) (hv : VR σ r v) (h : take1 r ρ = some (a, ρ')) : Bd c σ H ρ' (xs ++ some v :: τ) (ss ++ a :: θ) := by
  cases r with
  | fr a' => cases h; exact b
  | nw o => cases h; exact Bd.midF e b
  | rf i =>
    unfold M.take1 at h
    cases es : ρ[i]? with
    | none => simp only [es] at h; cases h
    | some s =>
      cases s with
      | un => simp only [es] at h; cases h
      | fr a' => simp only [es] at h; cases h; exact Bd.midI e b hv es
      | lv o => simp only [es] at h; cases h; exact Bd.midT e b hv es (.inl rfl)
      | pv o => simp only [es] at h; cases h; exact Bd.midT e b hv es (.inr rfl)
theorem Bd.takeL : ∀ {rs : List Rr} {vs : List V} {as : List Sl} {ρ ρ' : List Sl} {τ : St} {θ : List Sl}, VRs σ rs vs → Bd c σ H ρ (extVs rs vs τ) (extSs rs θ) → takeL rs ρ = some (as, ρ') → Bd c σ H ρ' (vs.reverse.map some ++ τ) (as.reverse ++ θ) ∧ vs.length = as.length
  | [], [], _, _, _, _, _, _, b, h => by cases h; exact ⟨b, rfl⟩
  | r :: rs, v :: vs, _, ρ, ρ', τ, θ, hv, b, h => by
    obtain ⟨a, as, ρ1, e1, e2, rfl⟩ := takeL_cons h
    have b : Bd c σ H ρ (extVs rs vs (extV r v τ)) (extSs rs (extS r θ)) := b
    rw [extVs_app, extSs_app] at b
    have b1 := Bd.take1 (ext_len rs vs (VRs.len hv.2)) b hv.1 e1
    rw [← extVs_app rs vs (some v :: τ), ← extSs_app rs (a :: θ)] at b1
    obtain ⟨b2, e3⟩ := Bd.takeL hv.2 b1 e2
    exact ⟨by simpa using b2, by simp [e3]⟩
  | [], _ :: _, _, _, _, _, _, h, _, _ => h.elim
  | _ :: _, [], _, _, _, _, _, h, _, _ => h.elim
def put1 (ρ0 : List Sl) : Rr → Sl → List Sl → Option (List Sl)
  | .rf i, s, ρ => match ρ0[i]?, s, ρ[i]? with
    | some (.lv _), .pv o, some .un => some (ρ.set i (.lv o))
    | some (.pv _), .pv o, some .un => some (ρ.set i (.pv o))
    | some (.fr _), _, _ => some ρ
    | _, _, _ => none
  | _, _, ρ => some ρ
def putL (ρ0 : List Sl) : List Rr → List Sl → List Sl → Option (List Sl)
  | r :: rs, s :: ss, ρ => match putL ρ0 rs ss ρ with
    | some ρ1 => put1 ρ0 r s ρ1
    | none => none
  | [], [], ρ => some ρ
  | _, _, _ => none
end
section
variable {k : Kx} {G H : Hp}
theorem SlRs.revs : ∀ {σ : St} {ρ : List Sl} {L : List Addr}, SlRs k G H σ ρ L → ∃ L', L'.Perm L ∧ SlRs k G H σ.reverse ρ.reverse L'
  | _, _, _, .nil => ⟨[], .refl _, .nil⟩
  | _, _, _, .cons (L := L1) (L' := L2) h r => by
    obtain ⟨L', pm, r'⟩ := SlRs.revs r
    refine ⟨L' ++ (L1 ++ []), ?_, by rw [List.reverse_cons, List.reverse_cons]; exact r'.app (SlRs.cons h .nil)⟩
    rw [List.append_nil]
    exact (pm.append_right L1).trans List.perm_append_comm
theorem SlRs.nofrz : ∀ {σ : St} {ρ : List Sl} {L : List Addr}, SlRs k G H σ ρ L → ∀ p ∈ L, ∀ ob vs, H p = some (.frz ob (.dK vs)) → False
  | _, _, _, .nil, p, hp, _, _, _ => by cases hp
  | _, _, _, .cons h r, p, hp, ob, vs, e => by
    rcases List.mem_append.mp hp with z | z
    · have lr : ∀ o, LR k G H p o → False := fun o h => by cases h with | lst q _ => rw [q] at e; cases e | dic q _ => rw [q] at e; cases e
      cases h with
      | un => cases z
      | fr => cases z
      | lv h => rw [List.mem_singleton.mp z] at lr; exact lr _ h
      | pv h => rw [List.mem_singleton.mp z] at lr; exact lr _ h
    · exact r.nofrz p z ob vs e
theorem SlRs.toP : ∀ {σ : St} {ρ : List Sl} {L : List Addr}, SlRs k G H σ ρ L → SlRs k G H σ (ρ.map toP) L
  | _, _, _, .nil => .nil
  | _, _, _, .cons h r => by
    refine SlRs.cons ?_ (SlRs.toP r)
    cases h with
    | un => exact .un _
    | fr h => exact .fr h
    | lv h => exact .pv h
    | pv h => exact .pv h
def toL : Sl → Sl
  | .pv o => .lv o
  | s => s
theorem SlRs.toL : ∀ {σ : St} {ρ : List Sl} {L : List Addr}, SlRs k G H σ ρ L → SlRs k G H σ (ρ.map toL) L
  | _, _, _, .nil => .nil
  | _, _, _, .cons h r => by
    refine SlRs.cons ?_ (SlRs.toL r)
    cases h with
    | un => exact .un _
    | fr h => exact .fr h
    | lv h => exact .lv h
    | pv h => exact .lv h
end
section
variable {c : Cn} {σ : St} {H : Hp} {ρ : List Sl} {τ : St} {θ : List Sl}
theorem Bd.enter {vs : List V} {as : List Sl} (e : vs.length = as.length) (b : Bd c σ H ρ (vs.reverse.map some ++ τ) (as.reverse ++ θ)) :
    ∃ c' : Cn, c'.toKx = c.toKx ∧ c'.σ0 = vs.map some ∧ c'.H0 = H ∧ BdL c' (vs.map some) H (as.map toP) [] [] c'.Lp ∧
      ∀ (H' : Hp) (ρ' : List Sl) (τ' : St) (θ' : List Sl), (∀ s ∈ θ', ∀ o, s ≠ .pv o) → ρ'.length = vs.length → Bd c' (vs.map some) H' ρ' τ' θ' → Bd c σ H' ρ (vs.reverse.map some ++ (τ' ++ τ)) ((ρ'.map toL).reverse ++ (θ' ++ θ)) := by
  obtain ⟨L, b⟩ := b
  have r : SlRs c.toKx (c.g H L) H (vs.reverse.map some ++ (τ ++ σ)) (as.reverse ++ (θ ++ ρ)) L := by have := b.rel; simpa [List.append_assoc] using this
  obtain ⟨La, Lr, e1, r1, r2⟩ := SlRs.split (by simp [e]) r
  obtain ⟨Lp, pm, r3⟩ := r1.revs
  have r3 : SlRs c.toKx (c.g H L) H (vs.map some) as Lp := by simpa [← List.map_reverse] using r3
  have hmem : ∀ a, a ∈ Lp ++ (Lr ++ c.Hd) ↔ a ∈ L ++ c.Hd := fun a => by
    rw [e1, List.mem_append, List.mem_append, List.mem_append, List.mem_append, pm.mem_iff]
    constructor
    · rintro (h | h | h)
      · exact .inl (.inl h)
      · exact .inl (.inr h)
      · exact .inr h
    · rintro ((h | h) | h)
      · exact .inl h
      · exact .inr (.inl h)
      · exact .inr (.inr h)
  have nd := b.nd
  rw [e1] at nd
  obtain ⟨n1, n2, n3⟩ := List.nodup_append.mp nd
  let c' : Cn := { toKx := c.toKx, σ0 := vs.map some, H0 := H, Lp := Lp, Hd := Lr ++ c.Hd, Wk := [] }
  have hg : ∀ H1 L1 L2, (∀ a, a ∈ L1 ++ (Lr ++ c.Hd) ↔ a ∈ L2 ++ c.Hd) → c'.g H1 L1 = c.g H1 L2 := fun H1 L1 L2 hm => by
    funext a
    show (if a ∈ L1 ++ (Lr ++ c.Hd) then none else H1 a) = (if a ∈ L2 ++ c.Hd then none else H1 a)
    by_cases z : a ∈ L1 ++ (Lr ++ c.Hd)
    · rw [if_pos z, if_pos ((hm a).mp z)]
    · rw [if_neg z, if_neg fun y => z ((hm a).mpr y)]
  refine ⟨c', rfl, rfl, rfl, ⟨(pm.nodup_iff).mpr n1, ?_, fun p hp => .inl hp, ⟨fun q o h => ⟨o, h, fun _ _ => rfl⟩, fun q hq => by cases hq⟩, fun i o _ => rfl, rfl, fun p hp => ?_⟩, ?_⟩
  · show SlRs c.toKx (c'.g H Lp) H (vs.map some) (as.map toP) Lp
    rw [hg H Lp L hmem]
    exact r3.toP
  · rcases List.mem_append.mp hp with z | z
    · exact ⟨r2.is p z, fun y => n3 p (pm.mem_iff.mp y) p z rfl⟩
    · refine ⟨?_, fun y => b.nhd (by rw [e1]; exact List.mem_append_left _ (pm.mem_iff.mp y)) z⟩
      obtain ⟨⟨u, h1⟩, h2⟩ := b.hd p z
      obtain ⟨u', h3, _⟩ := b.fr.st p u h1
      exact ⟨u', h3⟩
  · intro H' ρ' τ' θ' hθ hl b'
    obtain ⟨L', b'⟩ := b'
    obtain ⟨Lt, Ls, e2, q1, q2⟩ := SlRs.split b'.lt b'.rel
    obtain ⟨Ls', pm2, q3⟩ := q2.toL.revs
    have lt' : τ.length = θ.length := by have := b.lt; simp [e] at this; omega
    obtain ⟨Lτ, Lσ, e3, s1, s2⟩ := SlRs.split lt' r2
    have hnew : ∀ p ∈ L', p ∈ Lp ∨ H p = none := b'.own
    have hfr : ∀ p, p ∈ Lr → ∀ u, H p = some u → H' p = some u := fun p hp u h => by
      obtain ⟨u', h1, h2⟩ := b'.fr.st p u h
      have : p ∉ Lp := fun y => n3 p (pm.mem_iff.mp y) p hp rfl
      rw [h1, h2 this (fun w hw => by cases hw)]
    have hdis : ∀ p, p ∈ L' → p ∉ Lr := fun p hp y => by
      rcases hnew p hp with z | z
      · exact n3 p (pm.mem_iff.mp z) p y rfl
      · obtain ⟨u, h⟩ := r2.is p y; rw [z] at h; cases h
    have hsame : Sq (c.g H L) (c'.g H' L') := fun a u h => by
      by_cases z : a ∈ L ∨ a ∈ c.Hd
      · rw [g_in z] at h; cases h
      · rw [g_out (fun y => z (.inl y)) (fun y => z (.inr y))] at h
        have na : a ∉ Lp := fun y => z (.inl (by rw [e1]; exact List.mem_append_left _ (pm.mem_iff.mp y)))
        have nr : a ∉ Lr := fun y => z (.inl (by rw [e1]; exact List.mem_append_right _ y))
        obtain ⟨u', h1, h2⟩ := b'.fr.st a u h
        refine ⟨u', ?_, .inl (h2 na (fun w hw => by cases hw))⟩
        rw [g_out (c := c') (fun y => ?_) (fun y => ?_)]
        · exact h1
        · rcases hnew a y with w | w
          · exact na w
          · rw [w] at h; cases h
        · rcases List.mem_append.mp y with w | w
          · exact nr w
          · exact z (.inr w)
    have hgL : c'.g H' L' = c.g H' (L' ++ Lr) := hg H' L' (L' ++ Lr) fun a => by simp [List.mem_append, or_assoc]
    have s3 : SlRs c.toKx (c'.g H' L') H' (τ ++ σ) (θ ++ ρ) Lr := r2.sm hsame hfr
    have tot : SlRs c.toKx (c'.g H' L') H' (vs.reverse.map some ++ (τ' ++ τ) ++ σ) ((ρ'.map toL).reverse ++ (θ' ++ θ) ++ ρ) (Ls' ++ (Lt ++ Lr)) := by
      have := q3.app (q1.app s3)
      simpa [List.append_assoc, ← List.map_reverse] using this
    have pmL : (Ls' ++ (Lt ++ Lr)).Perm (L' ++ Lr) := by
      rw [e2]
      have := pm2.append_right (Lt ++ Lr)
      refine this.trans ?_
      rw [← List.append_assoc]
      exact List.perm_append_comm.append_right Lr
    refine ⟨Ls' ++ (Lt ++ Lr), (pmL.nodup_iff).mpr (List.nodup_append.mpr ⟨b'.nd, n2, fun a ha b2 hb z => hdis a ha (by rw [z]; exact hb)⟩), ?_, fun p hp => ?_, ⟨fun q u h => ?_, fun q hq => ?_⟩, b.kp, ?_, b.hd⟩
    · rw [g_eq (c := c) (H := H') (L' := L' ++ Lr) fun a => pmL.mem_iff, ← hgL]
      exact tot
    · rcases List.mem_append.mp (pmL.mem_iff.mp hp) with z | z
      · rcases hnew p z with y | y
        · exact b.own p (by rw [e1]; exact List.mem_append_left _ (pm.mem_iff.mp y))
        · exact .inr (b.fr.fresh y)
      · exact b.own p (by rw [e1]; exact List.mem_append_right _ z)
    · obtain ⟨u1, h1, h2⟩ := b.fr.st q u h
      obtain ⟨u2, h3, h4⟩ := b'.fr.st q u1 h1
      refine ⟨u2, h3, fun nq nw => ?_⟩
      rw [h4 (fun y => ?_) (fun w hw => by cases hw), h2 nq nw]
      rcases b.own q (by rw [e1]; exact List.mem_append_left _ (pm.mem_iff.mp y)) with w | w
      · exact nq w
      · rw [w] at h; cases h
    · obtain ⟨h1, ⟨ob, ws, h2⟩, h3⟩ := b.fr.pk q hq
      refine ⟨?_, ⟨ob, ws, h2⟩, h3⟩
      obtain ⟨u2, h4, h5⟩ := b'.fr.st q.1 q.2 h1
      rw [h4, h5 (fun y => ?_) (fun w hw => by cases hw)]
      exact r3.nofrz q.1 y ob ws (by rw [h1, h2])
    · have := b'.lt
      simp [hl]; omega
end
end M
namespace M
open PySem L2
section
variable {c : Cn} {σ : St} {H : Hp} {ρ : List Sl} {τ : St} {θ : List Sl}
theorem Bd.put1 {ρ0 ρ' : List Sl} {r : Rr} {s : Sl} {v : V} (kp : keepP c.σ0 σ ρ0) (hv : VR σ r v) (b : Bd c σ H ρ (some v :: τ) (toL s :: θ)) (h : put1 ρ0 r s ρ = some ρ') : Bd c σ H ρ' τ θ := by
  cases r with
  | fr a => cases h; exact b.pop
  | nw o => cases h; exact b.pop
  | rf i =>
    unfold M.put1 at h
    cases e0 : ρ0[i]? with
    | none => simp only [e0] at h; cases h
    | some s0 =>
      simp only [e0] at h
      cases s0 with
      | un => simp at h
      | fr a => simp at h; subst h; exact b.pop
      | lv o0 =>
        cases s with
        | pv o =>
          cases e1 : ρ[i]? with
          | none => simp [e1] at h
          | some s1 =>
            cases s1 with
            | un => simp [e1] at h; subst h; exact Bd.putBack b hv e1 (.inl rfl)
            | _ => simp [e1] at h
        | _ => simp at h
      | pv o0 =>
        cases s with
        | pv o =>
          cases e1 : ρ[i]? with
          | none => simp [e1] at h
          | some s1 =>
            cases s1 with
            | un => simp [e1] at h; subst h; exact Bd.putBack b hv e1 (.inr ⟨rfl, kp i o0 e0⟩)
            | _ => simp [e1] at h
        | _ => simp at h
theorem Bd.putL {ρ0 : List Sl} (kp : keepP c.σ0 σ ρ0) : ∀ {rs : List Rr} {vs : List V} {ss : List Sl} {ρ ρ' : List Sl} {τ : St} {θ : List Sl}, VRs σ rs vs → Bd c σ H ρ (vs.reverse.map some ++ τ) ((ss.map toL).reverse ++ θ) → M.putL ρ0 rs ss ρ = some ρ' → Bd c σ H ρ' τ θ
  | [], [], [], _, _, _, _, _, b, h => by cases h; exact b
  | r :: rs, v :: vs, s :: ss, ρ, ρ', τ, θ, hv, b, h => by
    unfold M.putL at h
    cases e : M.putL ρ0 rs ss ρ with
    | none => simp only [e] at h; cases h
    | some ρ1 =>
      simp only [e] at h
      have b1 : Bd c σ H ρ (vs.reverse.map some ++ (some v :: τ)) ((ss.map toL).reverse ++ (toL s :: θ)) := by simpa [List.append_assoc] using b
      exact Bd.put1 kp hv.1 (Bd.putL kp hv.2 b1 e) h
  | [], _ :: _, _, _, _, _, _, h, _, _ => h.elim
  | _ :: _, [], _, _, _, _, _, h, _, _ => h.elim
  | [], [], _ :: _, _, _, _, _, _, _, h => by cases h
  | _ :: _, _ :: _, [], _, _, _, _, _, _, h => by cases h
theorem backL_len : ∀ (n : Nat) (ρ : List Sl), (backL n ρ).length = n
  | 0, _ => rfl
  | n + 1, [] => by show (Sl.un :: backL n []).length = _; rw [List.length_cons, backL_len n []]
  | n + 1, s :: ρ => by cases s <;> (show (_ :: backL n ρ).length = _; rw [List.length_cons, backL_len n ρ])
theorem VRs.app : ∀ {rs qs : List Rr} {vs us : List V}, VRs σ rs vs → VRs σ qs us → VRs σ (rs ++ qs) (vs ++ us)
  | [], _, [], _, _, h => h
  | _ :: rs, _, _ :: vs, _, h1, h2 => ⟨h1.1, VRs.app h1.2 h2⟩
  | [], _, _ :: _, _, h, _ => h.elim
  | _ :: _, _, [], _, h, _ => h.elim
theorem VRs.frs : ∀ {das : List A} {dvs : List V}, das.length = dvs.length → VRs σ (das.map Rr.fr) dvs
  | [], [], _ => trivial
  | _ :: das, _ :: dvs, h => ⟨trivial, VRs.frs (by simpa using h)⟩
  | [], _ :: _, h => by simp at h
  | _ :: _, [], h => by simp at h
theorem ext_more : ∀ {rs : List Rr} {vs : List V} (qs : List Rr) (us : List V) (τ : St), rs.length = vs.length → extVs (rs ++ qs) (vs ++ us) τ = extVs qs us (extVs rs vs τ)
  | [], [], _, _, _, _ => rfl
  | r :: rs, v :: vs, qs, us, τ, h => ext_more (rs := rs) (vs := vs) qs us (extV r v τ) (by simpa using h)
  | [], _ :: _, _, _, _, h => by simp at h
  | _ :: _, [], _, _, _, h => by simp at h
theorem extS_more : ∀ (rs qs : List Rr) (θ : List Sl), extSs (rs ++ qs) θ = extSs qs (extSs rs θ)
  | [], _, _ => rfl
  | r :: rs, qs, θ => extS_more rs qs (extS r θ)
theorem Bd.pushes : ∀ {das : List A} {dvs : List V} {τ : St} {θ : List Sl}, (∀ G, RAs c.toKx G dvs das) → Bd c σ H ρ τ θ → Bd c σ H ρ (extVs (das.map Rr.fr) dvs τ) (extSs (das.map Rr.fr) θ)
  | [], [], _, _, _, b => b
  | a :: das, v :: dvs, _, _, h, b => Bd.pushes (das := das) (dvs := dvs) (fun G => by cases h G; assumption) (Bd.push b fun G => by cases h G; assumption)
  | [], _ :: _, _, _, h, _ => by cases h (fun _ => none)
  | _ :: _, [], _, _, h, _ => by cases h (fun _ => none)
end
def rrOf : Sl → Option Rr
  | .fr a => some (.fr a)
  | .lv o => some (.nw o)
  | _ => none
def mCall (f : Ms) (das : List A) (ma : Mi (List Rr)) : Mi Rr := mBind ma fun rs ρ => match takeL (rs ++ das.map Rr.fr) ρ with
  | some (as, ρt) => match f (as.map toP) with
    | some (.rt s, ρc) => match rrOf s, putL ρ (rs ++ das.map Rr.fr) (backL as.length ρc) ρt with
      | some r, some ρ' => some (.ok r, ρ')
      | _, _ => none
    | some (.ex x, ρc) => match putL ρ (rs ++ das.map Rr.fr) (backL as.length ρc) ρt with
      | some ρ' => some (.error x, ρ')
      | none => none
    | _ => none
  | none => none
section
variable {X : Cx} {E : XK}
theorem call_weak {m : Ms} {n : Nat} {das : List A} {dvs : List V} (hd : ∀ G, RAs (kx X) G dvs das) {σ : St} {H : Hp} {Q : VK} {rs : List Rr} {c : Cn} {ρ ρ' : List Sl} {τ : St} {θ : List Sl} {o : Except Str Rr} {vs : List V} (ek : c.toKx = kx X) (hn : (vs ++ dvs).length = n)
    (hv : VRs σ rs vs) (b : Bd c σ H ρ (extVs rs vs τ) (extSs rs θ)) (em : (match takeL (rs ++ das.map Rr.fr) ρ with
  | some (as, ρt) => match m (as.map toP) with
    | some (.rt s, ρc) => match rrOf s, putL ρ (rs ++ das.map Rr.fr) (backL as.length ρc) ρt with
      | some r, some ρ' => some (.ok r, ρ')
      | _, _ => none
    | some (.ex x, ρc) => match putL ρ (rs ++ das.map Rr.fr) (backL as.length ρc) ρt with
      | some ρ' => some (.error x, ρ')
      | none => none
    | _ => none
  | none => none) = some (o, ρ')) (q1 : ∀ r, o = .ok r → ∀ v H', VR σ r v → Bd c σ H' ρ' (extV r v τ) (extS r θ) → Q v H') (q2 : ∀ x, o = .error x → ∀ C H', X.mg x = some (.ref C) → Bd c σ H' ρ' τ θ → E (.ref C) none H') : SpM (kx X) n m (vs ++ dvs) H Q E := by
  refine ⟨hn, ?_⟩
  cases e1 : takeL (rs ++ das.map Rr.fr) ρ with
  | none => simp only [e1] at em; cases em
  | some p =>
    obtain ⟨as, ρt⟩ := p
    simp only [e1] at em
    have ld : das.length = dvs.length := (hd fun _ => none).len.symm
    have hv2 : VRs σ (rs ++ das.map Rr.fr) (vs ++ dvs) := hv.app (VRs.frs ld)
    have b2 : Bd c σ H ρ (extVs (rs ++ das.map Rr.fr) (vs ++ dvs) τ) (extSs (rs ++ das.map Rr.fr) θ) := by
      rw [ext_more _ _ _ hv.len, extS_more]
      exact Bd.pushes (by rw [ek]; exact hd) b
    obtain ⟨b3, e3⟩ := Bd.takeL hv2 b2 e1
    obtain ⟨c', k1, k2, k3, k4, k5⟩ := Bd.enter e3 b3
    have kp : keepP c.σ0 σ ρ := by obtain ⟨L, b⟩ := b; exact b.kp
    cases e4 : m (as.map toP) with
    | none => simp only [e4] at em; cases em
    | some p =>
      obtain ⟨f, ρc⟩ := p
      simp only [e4] at em
      refine ⟨c', _, f, ρc, k1.trans ek, k2, k3, k4, e4, ?_⟩
      cases f with
      | nx => cases em
      | bk => cases em
      | ct => cases em
      | rt s =>
        simp only at em
        cases e5 : rrOf s with
        | none => simp only [e5] at em; cases em
        | some r =>
          cases e6 : putL ρ (rs ++ das.map Rr.fr) (backL as.length ρc) ρt with
          | none => simp only [e5, e6] at em; cases em
          | some ρ2 =>
            simp only [e5, e6] at em
            cases em
            intro v H' hs b5
            have b6 := k5 H' _ _ _ (fun s' hs' o z => by rw [List.mem_singleton.mp hs'] at z; exact hs o z) (backL_len _ _) b5
            rw [e3] at b6
            have b7 := Bd.putL kp hv2 b6 e6
            cases s with
            | fr a => cases e5; exact q1 _ rfl v H' trivial b7
            | lv o => cases e5; exact q1 _ rfl v H' trivial b7
            | _ => cases e5
      | ex x =>
        simp only at em
        cases e6 : putL ρ (rs ++ das.map Rr.fr) (backL as.length ρc) ρt with
        | none => simp only [e6] at em; cases em
        | some ρ2 =>
          simp only [e6] at em
          cases em
          intro C H' hm b5
          have b6 := k5 H' _ _ _ (fun s' hs' => by cases hs') (backL_len _ _) b5
          rw [e3] at b6
          exact q2 x rfl C H' hm (Bd.putL kp hv2 b6 e6)
theorem je_call {CX : CXT} {k n : Nat} {f : Addr} {fd : FuncData} {ps : List Str} {m : Ms} {das : List A} {dvs : List V} {ds : List Value} {x : Str} {p pos : Pos} {e : Expr} {es : List Expr} {ma : Mi (List Rr)} (F : FnOk X.prog X.w X.K X.mg X.base CX k f fd ps (SpM (kx X) n m)) (hr : Room k X.A) (hg : Gl X x)
    (hm : X.mg x = some (.ref f)) (hk : PySem.W.keepIn X.K (.ref f) = true) (hb : Binds X.K fd ps ds) (hd : Vals dvs ds) (hda : ∀ G, RAs (kx X) G dvs das) (hx : Passes CX X E) (ha : JA X E (e :: es) ma) (hn : ∀ ρ rs ρ', ma ρ = some (.ok rs, ρ') → rs.length + das.length = n) (hdb : (x == ("__debug__" : Str)) = false)
    (he : starEach (e :: es) X.env = (false, eval e X.env) :: starEach es X.env := by rfl) (hpl : (backTo pos (starEach es X.env)).any (·.1) = false := by rfl) : JE X E (.Call (.Name x p) (e :: es) [] pos) (mCall m das ma) :=
  ⟨PE.weaken (pe_call F hr hg hm hk hb hd hx ha.p hdb he hpl) fun σ H Q h => by
    obtain ⟨c, ρ, τ, θ, o, ρ', ek, b, em, q⟩ := h
    rcases bind_some em with ⟨rs, ρ1, e1, e2⟩ | ⟨e, e1, e2⟩
    · refine ⟨c, ρ, τ, θ, _, ρ1, ek, b, e1, fun vs H1 hv b1 => ?_⟩
      refine call_weak hda ek ?_ hv b1 e2 (fun r hr v H' hv b => by subst hr; exact q v H' hv b) (fun x hx => by subst hx; exact q)
      rw [List.length_append, ← hv.len, ← hn ρ rs ρ1 e1, (hda fun _ => none).len]
    · subst e2
      exact ⟨c, ρ, τ, θ, _, ρ', ek, b, e1, fun C H1 hm b1 => q C H1 hm b1⟩⟩
theorem nl_nil : ∀ ρ rs ρ', mNil ρ = some (.ok rs, ρ') → rs.length = 0 := fun ρ rs ρ' h => by cases h; rfl
theorem nl_cons {m : Mi Rr} {ma : Mi (List Rr)} {n : Nat} (h : ∀ ρ rs ρ', ma ρ = some (.ok rs, ρ') → rs.length = n) : ∀ ρ rs ρ', mCons m ma ρ = some (.ok rs, ρ') → rs.length = n + 1 := fun ρ rs ρ' e => by
  rcases bind_some e with ⟨r, ρ1, e1, e2⟩ | ⟨_, _, e2⟩
  · rcases bind_some e2 with ⟨rs', ρ2, e3, e4⟩ | ⟨_, _, e4⟩
    · cases e4; rw [List.length_cons, h _ _ _ e3]
    · cases e4
  · cases e2
theorem nl_fin {ma : Mi (List Rr)} {n d N : Nat} (h : ∀ ρ rs ρ', ma ρ = some (.ok rs, ρ') → rs.length = n) (e : n + d = N) : ∀ ρ rs ρ', ma ρ = some (.ok rs, ρ') → rs.length + d = N := fun ρ rs ρ' q => by rw [h ρ rs ρ' q]; exact e
def RetS (K : Kx) (E : XK) (c : Cn) (ρ : List Sl) (τ : St) (θ : List A) (D : Ends) : Fl → Prop
  | .nx => ∀ σ H, Bd c σ H ρ τ (θ.map Sl.fr) → D.nx σ H
  | .rt s => ∀ v σ H, (∀ o, s ≠ .pv o) → Bd c σ H ρ (some v :: τ) (s :: θ.map Sl.fr) → D.rt v H
  | .bk => ∀ σ H, Bd c σ H ρ τ (θ.map Sl.fr) → D.bk σ H
  | .ct => ∀ σ H, Bd c σ H ρ τ (θ.map Sl.fr) → D.ct σ H
  | .ex x => ∀ C σ H, K.mg x = some (.ref C) → Bd c σ H ρ τ (θ.map Sl.fr) → E (.ref C) none H
def TSm (K : Kx) (E : XK) (m : Ms) : TS := fun D σ H => ∃ (c : Cn) (ρ : List Sl) (τ : St) (θ : List A) (f : Fl) (ρ' : List Sl), c.toKx = K ∧ Bd c σ H ρ τ (θ.map Sl.fr) ∧ m ρ = some (f, ρ') ∧ RetS K E c ρ' τ θ D f
structure JS (X : Cx) (E : XK) (s : Stmt) (m : Ms) : Prop where
  p : PS X s (TSm (kx X) E m)
structure JSs (X : Cx) (E : XK) (s : List Stmt) (m : Ms) : Prop where
  p : PSs X s (TSm (kx X) E m)
theorem PS.weaken {X : Cx} {e : Stmt} {t t' : TS} (h : PS X e t) (f : ∀ D σ H, t' D σ H → t D σ H) : PS X e t' := fun pins s σ H D I q => h pins s σ H D I (f D σ H q)
theorem PSs.weaken {X : Cx} {e : List Stmt} {t t' : TS} (h : PSs X e t) (f : ∀ D σ H, t' D σ H → t D σ H) : PSs X e t' := fun pins s σ H D I q => h pins s σ H D I (f D σ H q)
def sNext : Ms := fun ρ => some (.nx, ρ)
def sSeq (m n : Ms) : Ms := fun ρ => match m ρ with
  | some (.nx, ρ1) => n ρ1
  | r => r
theorem jss_nil : JSs X E [] sNext := ⟨PSs.weaken pss_nil fun D σ H h => by
  obtain ⟨c, ρ, τ, θ, f, ρ', ek, b, em, q⟩ := h
  cases em; exact q σ H b⟩
theorem jss_one {s : Stmt} {m : Ms} (h : JS X E s m) : JSs X E [s] m := ⟨pss_one h.p⟩
theorem jss_cons {s : Stmt} {r : List Stmt} {m n : Ms} (h : JS X E s m) (h' : JSs X E r n) : JSs X E (s :: r) (sSeq m n) := ⟨PSs.weaken (pss_cons h.p h'.p) fun D σ H h => by
  obtain ⟨c, ρ, τ, θ, f, ρ', ek, b, em, q⟩ := h
  unfold sSeq at em
  cases e : m ρ with
  | none => simp only [e] at em; cases em
  | some p =>
    obtain ⟨f1, ρ1⟩ := p
    simp only [e] at em
    refine ⟨c, ρ, τ, θ, f1, ρ1, ek, b, e, ?_⟩
    cases f1 with
    | nx => exact fun σ' H' b' => ⟨c, ρ1, τ, θ, f, ρ', ek, b', em, q⟩
    | rt s => cases em; exact q
    | bk => cases em; exact q
    | ct => cases em; exact q
    | ex x => cases em; exact q⟩
def sBind {α : Type} (m : Mi α) (f : α → Ms) : Ms := fun ρ => match m ρ with
  | some (.ok x, ρ1) => f x ρ1
  | some (.error e, ρ1) => some (.ex e, ρ1)
  | none => none
theorem sbind_some {α : Type} {m : Mi α} {f : α → Ms} {ρ : List Sl} {o : Fl} {ρ' : List Sl} (h : sBind m f ρ = some (o, ρ')) : (∃ x ρ1, m ρ = some (.ok x, ρ1) ∧ f x ρ1 = some (o, ρ')) ∨ ∃ e, m ρ = some (.error e, ρ') ∧ o = .ex e := by
  unfold sBind at h
  cases e : m ρ with
  | none => simp only [e] at h; cases h
  | some p =>
    obtain ⟨r, ρ1⟩ := p
    cases r with
    | ok x => simp only [e] at h; exact .inl ⟨x, ρ1, rfl, h⟩
    | error x => simp only [e] at h; cases h; exact .inr ⟨x, rfl, rfl⟩
theorem se_bind {σ : St} {H : Hp} {c : Cn} {ρ ρ' : List Sl} {τ : St} {θ : List A} {m : Mi Rr} {f : Rr → Ms} {o : Fl} {Q : VK} {D : Ends} (ek : c.toKx = kx X) (b : Bd c σ H ρ τ (θ.map Sl.fr)) (em : sBind m f ρ = some (o, ρ')) (q : RetS (kx X) E c ρ' τ θ D o)
    (h1 : ∀ x v ρ1 H1, VR σ x v → Bd c σ H1 ρ1 (extV x v τ) (extS x (θ.map Sl.fr)) → f x ρ1 = some (o, ρ') → Q v H1) : TEm (kx X) E m σ H Q := by
  rcases sbind_some em with ⟨x, ρ1, e1, e2⟩ | ⟨e, e1, e2⟩
  · exact ⟨c, ρ, τ, _, _, ρ1, ek, b, e1, fun v H1 hv b1 => h1 x v ρ1 H1 hv b1 e2⟩
  · subst e2; exact ⟨c, ρ, τ, _, _, ρ', ek, b, e1, fun C H1 hm b1 => q C σ H1 hm b1⟩
theorem st_bind {σ : St} {H : Hp} {c : Cn} {ρ ρ' : List Sl} {τ : St} {θ : List A} {m : Mi Bool} {f : Bool → Ms} {o : Fl} {Q : Bool → Hp → Prop} {D : Ends} (ek : c.toKx = kx X) (b : Bd c σ H ρ τ (θ.map Sl.fr)) (em : sBind m f ρ = some (o, ρ')) (q : RetS (kx X) E c ρ' τ θ D o)
    (h1 : ∀ k ρ1 H1, Bd c σ H1 ρ1 τ (θ.map Sl.fr) → f k ρ1 = some (o, ρ') → Q k H1) : TTm (kx X) E m σ H Q := by
  rcases sbind_some em with ⟨x, ρ1, e1, e2⟩ | ⟨e, e1, e2⟩
  · exact ⟨c, ρ, τ, _, _, ρ1, ek, b, e1, fun H1 b1 => h1 x ρ1 H1 b1 e2⟩
  · subst e2; exact ⟨c, ρ, τ, _, _, ρ', ek, b, e1, fun C H1 hm b1 => q C σ H1 hm b1⟩
def sExpr (m : Mi Rr) : Ms := sBind m fun _ ρ => some (.nx, ρ)
theorem js_expr {e : Expr} {m : Mi Rr} {pos : Pos} (h : JE X E e m) (hs : swapsWith e none pos.line X.env = pure false := by rfl) : JS X E (.Expr e pos) (sExpr m) := ⟨PS.weaken (ps_expr h.p hs) fun D σ H h => by
  obtain ⟨c, ρ, τ, θ, f, ρ', ek, b, em, q⟩ := h
  refine se_bind ek b em q fun x v ρ1 H1 hv b1 em1 => ?_
  cases em1; exact q σ H1 b1.drop⟩
def sIf (t : Mi Bool) (m n : Ms) : Ms := sBind t fun b => if b then m else n
theorem js_if {t : Expr} {a b : List Stmt} {mt : Mi Bool} {m n : Ms} {pos : Pos} (ht : JT X E t mt) (ha : JSs X E a m) (hb : JSs X E b n) : JS X E (.If t a b pos) (sIf mt m n) := ⟨PS.weaken (ps_if ht.p ha.p hb.p) fun D σ H h => by
  obtain ⟨c, ρ, τ, θ, f, ρ', ek, b, em, q⟩ := h
  refine st_bind ek b em q fun k ρ1 H1 b1 em1 => ?_
  cases k with
  | true => rw [if_pos rfl]; exact ⟨c, ρ1, τ, θ, f, ρ', ek, b1, em1, q⟩
  | false => rw [if_neg (by decide)]; exact ⟨c, ρ1, τ, θ, f, ρ', ek, b1, em1, q⟩⟩
def outS : Rr → List Sl → Option (Sl × List Sl)
  | .fr a, ρ => some (.fr a, ρ)
  | .nw o, ρ => some (.lv o, ρ)
  | .rf i, ρ => match ρ[i]? with
    | some (.lv o) => some (.lv o, ρ.set i .un)
    | _ => none
def sRet (m : Mi Rr) : Ms := sBind m fun r ρ => match outS r ρ with
  | some (s, ρ') => some (.rt s, ρ')
  | none => none
theorem js_ret {e : Expr} {m : Mi Rr} {pos : Pos} (h : JE X E e m) : JS X E (.Return (some e) pos) (sRet m) := ⟨PS.weaken (ps_ret h.p) fun D σ H h => by
  obtain ⟨c, ρ, τ, θ, f, ρ', ek, b, em, q⟩ := h
  refine se_bind ek b em q fun x v ρ1 H1 hv b1 em1 => ?_
  cases x with
  | fr a => cases em1; exact q v σ H1 (fun o z => by cases z) b1
  | nw o => cases em1; exact q v σ H1 (fun o z => by cases z) b1
  | rf i =>
    unfold outS at em1
    cases es : ρ1[i]? with
    | none => simp only [es] at em1; cases em1
    | some s =>
      cases s with
      | lv o => simp only [es] at em1; cases em1; exact q v σ H1 (fun o z => by cases z) (Bd.midT (xs := []) (ss := []) rfl b1 hv es (.inl rfl))
      | _ => simp only [es] at em1; cases em1⟩
def sRetN : Ms := fun ρ => some (.rt (.fr .non), ρ)
def stT : Rr → List Sl → Option (Sl × List Sl)
  | .fr a, ρ => some (.fr a, ρ)
  | .nw o, ρ => some (.lv o, ρ)
  | .rf i, ρ => match frz1 (.rf i) ρ with
    | some (a, ρ') => some (.fr a, ρ')
    | none => none
def put (i : Nat) (s : Sl) (ρ : List Sl) : Option (List Sl) := match ρ[i]? with
  | some (.pv _) => none
  | some _ => some (ρ.set i s)
  | none => none
theorem Bd.put {c : Cn} {σ : St} {H : Hp} {ρ ρ' : List Sl} {τ : St} {θ : List Sl} {i : Nat} {v : V} {t : Sl} (b : Bd c σ H ρ (some v :: τ) (t :: θ)) (ht : ∀ o, t ≠ .pv o) (h : put i t ρ = some ρ') : Bd c (σ.set i (some v)) H ρ' τ θ := by
  unfold M.put at h
  cases es : ρ[i]? with
  | none => simp only [es] at h; cases h
  | some s =>
    cases s with
    | pv o => simp only [es] at h; cases h
    | un => simp only [es] at h; cases h; exact b.store es (fun o z => by cases z) ht
    | fr a => simp only [es] at h; cases h; exact b.store es (fun o z => by cases z) ht
    | lv o => simp only [es] at h; cases h; exact b.store es (fun o z => by cases z) ht
theorem Bd.stT {c : Cn} {σ : St} {H : Hp} {ρ ρ' : List Sl} {τ : St} {θ : List Sl} {r : Rr} {v : V} {t : Sl} (hv : VR σ r v) (b : Bd c σ H ρ (extV r v τ) (extS r θ)) (h : stT r ρ = some (t, ρ')) : Bd c σ H ρ' (some v :: τ) (t :: θ) ∧ ∀ o, t ≠ .pv o := by
  cases r with
  | fr a => cases h; exact ⟨b, fun o z => by cases z⟩
  | nw o => cases h; exact ⟨b, fun o z => by cases z⟩
  | rf i =>
    unfold M.stT at h
    cases e : M.frz1 (.rf i) ρ with
    | none => simp only [e] at h; cases h
    | some p =>
      obtain ⟨a, ρ1⟩ := p
      simp only [e] at h; cases h
      exact ⟨Bd.frz1 (r := .rf i) (xs := []) (ss := []) rfl b hv e, fun o z => by cases z⟩
def sSet (i : Nat) (m : Mi Rr) : Ms := sBind m fun r ρ => match stT r ρ with
  | some (t, ρ1) => match put i t ρ1 with
    | some ρ2 => some (.nx, ρ2)
    | none => none
  | none => none
theorem js_set {i : Nat} {x : Str} {e : Expr} {m : Mi Rr} {pos pos' : Pos} (hN : X.N.Nodup) (hi : X.N[i]? = some x) (hx : Loc X.env.scope x) (he : JE X E e m) (hs : swapsWith e (some (.Name x pos')) pos.line X.env = pure false := by rfl)
    (hf : X.fn x = true ∨ X.env.scope.names.lookup x = some .local := by first | exact .inl rfl | exact .inr rfl | assumption) : JS X E (.Assign [.Name x pos'] e pos) (sSet i m) := ⟨PS.weaken (ps_set hN hi hx he.p hs hf) fun D σ H h => by
  obtain ⟨c, ρ, τ, θ, f, ρ', ek, b, em, q⟩ := h
  refine se_bind ek b em q fun r v ρ1 H1 hv b1 em1 => ?_
  cases e1 : stT r ρ1 with
  | none => simp only [e1] at em1; cases em1
  | some p =>
    obtain ⟨t, ρ2⟩ := p
    simp only [e1] at em1
    obtain ⟨b2, ht⟩ := Bd.stT hv b1 e1
    cases e2 : put i t ρ2 with
    | none => simp only [e2] at em1; cases em1
    | some ρ3 =>
      simp only [e2] at em1; cases em1
      exact q _ H1 (Bd.put b2 ht e2)⟩
def mDef (loc : Nat) (m : Ms) : Ms := fun ρ => match m (ρ ++ List.replicate loc .un) with
  | some (.nx, ρ') => some (.rt (.fr .non), ρ')
  | some (.rt s, ρ') => some (.rt s, ρ')
  | some (.ex x, ρ') => some (.ex x, ρ')
  | _ => none
theorem slRs_uns {k : Kx} {G H : Hp} : ∀ n, SlRs k G H (List.replicate n none) (List.replicate n Sl.un) []
  | 0 => .nil
  | n + 1 => SlRs.cons (L := []) (.un _) (slRs_uns n)
theorem BdL.start {c : Cn} {vs : List V} {H : Hp} {ρ : List Sl} (N : List Str) (b : BdL c (vs.map some) H ρ [] [] c.Lp) (e : c.σ0 = vs.map some) : Bd c (start N vs) H (ρ ++ List.replicate (N.length - vs.length) .un) [] [] := by
  have hl : vs.length = ρ.length := by have := b.rel.len; simpa using this
  refine ⟨c.Lp, b.nd, ?_, b.own, b.fr, fun i o h => ?_, rfl, b.hd⟩
  · have := b.rel.app (slRs_uns (k := c.toKx) (G := c.g H c.Lp) (H := H) (N.length - vs.length))
    simpa [L2.start] using this
  · have hi : i < ρ.length := by
      by_cases z : i < ρ.length
      · exact z
      · rw [List.getElem?_append_right (by omega)] at h
        have := List.mem_of_getElem? h
        have := List.eq_of_mem_replicate this
        cases this
    unfold L2.start
    rw [List.getElem?_append_left (by simp; omega), e]
theorem def_ok {P : Program} {w : World} {K : PySem.W.Frag} {mg : Str → Option Value} {base : Heap} {dV : Value} {x qual : Str} {st : Stmt} {f : Addr} {fd : FuncData} {N ps : List Str} {k : Nat} {m : Ms} (F : FunD K x qual st f fd dV) (S : FnScope N ps (defScope st))
    (hb : ∀ (cdv : Value) (A : Around) (outer : List Env) (s : Shared) (H : Hp) (E : XK), Room k (A.deeper (PyProof.Rows.envOfC qual (defScope st) s.heap.objs.size f cdv)) →
      JSs (cxOf (CXE P w) P w K mg base N qual (defScope st) f cdv A outer s H E) E (defBody st) m) : FnOk P w K mg base (CXE P w) (k + 1) f fd ps (SpM ⟨K, mg⟩ ps.length (mDef (N.length - ps.length) m)) :=
  F.ok S (fun vs H Q E h => h.1) fun cdv A outer s H vs Q E hr h => by
    obtain ⟨hn, c, ρ, f, ρ', ek, e0, e1, b, em, q⟩ := h
    refine ⟨_, (hb cdv A outer s H E hr).p, ?_⟩
    have bs := b.start N e0
    rw [hn] at bs
    unfold mDef at em
    cases e : m (ρ ++ List.replicate (N.length - ps.length) .un) with
    | none => simp only [e] at em; cases em
    | some p =>
      obtain ⟨f1, ρ1⟩ := p
      simp only [e] at em
      refine ⟨c, _, [], [], f1, ρ1, ek, bs, e, ?_⟩
      have bk : ∀ {σ' : St} {H' : Hp} {τ' : St} {θ' : List Sl}, Bd c σ' H' ρ1 τ' θ' → Bd c (vs.map some) H' (backL vs.length ρ1) τ' θ' := fun b' => by
        have := b'.back
        rw [e0, List.length_map] at this
        exact this
      cases f1 with
      | nx =>
        cases em
        exact fun σ' H' b' => q .non H' (fun o z => by cases z) ((bk b').push fun _ => .non)
      | rt s => cases em; exact fun v σ' H' hs b' => q v H' hs (bk b')
      | ex x => cases em; exact fun C σ' H' hm b' => q C H' hm (bk b')
      | bk => cases em
      | ct => cases em
end
end M
namespace M
open PySem L2
section
variable {X : Cx} {E : XK}
theorem OpR.or' {f : Value → Value → Sem Value} {r r' : R2} (h : OpR X f r) (h' : OpR X f r') : OpR X f (fun x y H Q => r x y H Q ∨ r' x y H Q) := by
  intro pins s σ H x y v u Q I rx ry q
  rcases q with q | q
  · exact h pins s σ H x y v u Q I rx ry q
  · exact h' pins s σ H x y v u Q I rx ry q
theorem CallR.or' {f : Value} {r r' : List V → Hp → VK → Prop} (h : CallR X f r) (h' : CallR X f r') : CallR X f (fun xs H Q => r xs H Q ∨ r' xs H Q) := by
  intro pins s σ H xs us Q I rx q
  rcases q with q | q
  · exact h pins s σ H xs us Q I rx q
  · exact h' pins s σ H xs us Q I rx q
def fOr (f g : A → A → Option Rr) : A → A → Option Rr := fun a b => match f a b with
  | some r => some r
  | none => g a b
theorem OpS.or {K : Kx} {r r' : R2} {f g : A → A → Option Rr} (h : OpS K r f) (h' : OpS K r' g) : OpS K (fun x y H Q => r x y H Q ∨ r' x y H Q) (fOr f g) := by
  intro c σ H ρ τ θ x y v w a b q Q ek hv hw bd e1 e2 e3 k
  unfold fOr at e3
  cases e : f a b with
  | some z => simp only [e] at e3; cases e3; exact .inl (h c σ H ρ τ θ x y v w a b _ Q ek hv hw bd e1 e2 e k)
  | none => simp only [e] at e3; exact .inr (h' c σ H ρ τ θ x y v w a b _ Q ek hv hw bd e1 e2 e3 k)
theorem mop_or {f g : A → A → Option Rr} {ma mb : Mi Rr} {σ : St} {H : Hp} {Q : VK} (h : TEm (kx X) E (mOp (fOr f g) ma mb) σ H Q) : TEm (kx X) E (mOp f ma mb) σ H Q ∨ TEm (kx X) E (mOp g ma mb) σ H Q := by
  obtain ⟨c, ρ, τ, θ, o, ρ', ek, b, em, q⟩ := h
  have key : mOp f ma mb ρ = some (o, ρ') ∨ mOp g ma mb ρ = some (o, ρ') := by
    unfold mOp mBind at em ⊢
    cases e1 : ma ρ with
    | none => simp only [e1] at em; cases em
    | some p =>
      obtain ⟨x, ρ1⟩ := p
      cases x with
      | error e => simp only [e1] at em ⊢; exact .inl em
      | ok x =>
        simp only [e1] at em ⊢
        cases e2 : mb ρ1 with
        | none => simp only [e2] at em; cases em
        | some p =>
          obtain ⟨y, ρ2⟩ := p
          cases y with
          | error e => simp only [e2] at em ⊢; exact .inl em
          | ok y =>
            simp only [e2] at em ⊢
            cases e3 : res ρ2 x with
            | none => simp only [e3] at em; cases em
            | some a =>
              cases e4 : res ρ2 y with
              | none => simp only [e3, e4] at em; cases em
              | some d =>
                simp only [e3, e4] at em ⊢
                unfold fOr at em
                cases e5 : f a d with
                | some z => simp only [e5] at em ⊢; exact .inl em
                | none => simp only [e5] at em; exact .inr em
  exact key.imp (fun k => ⟨c, ρ, τ, θ, o, ρ', ek, b, k, q⟩) (fun k => ⟨c, ρ, τ, θ, o, ρ', ek, b, k, q⟩)
theorem je_either {e : Expr} {f g : A → A → Option Rr} {ma mb : Mi Rr} (h : JE X E e (mOp f ma mb)) (h' : JE X E e (mOp g ma mb)) : JE X E e (mOp (fOr f g) ma mb) :=
  ⟨fun pins s σ H Q I q => (mop_or q).elim (fun q => h.p pins s σ H Q I q) (fun q => h'.p pins s σ H Q I q)⟩
theorem mtest_or {f g : A → A → Option Rr} {ma mb : Mi Rr} {σ : St} {H : Hp} {Q : Bool → Hp → Prop} (h : TTm (kx X) E (mTest (mOp (fOr f g) ma mb)) σ H Q) : TTm (kx X) E (mTest (mOp f ma mb)) σ H Q ∨ TTm (kx X) E (mTest (mOp g ma mb)) σ H Q := by
  obtain ⟨c, ρ, τ, θ, o, ρ', ek, b, em, q⟩ := h
  have key : mTest (mOp f ma mb) ρ = some (o, ρ') ∨ mTest (mOp g ma mb) ρ = some (o, ρ') := by
    unfold mTest mOp mBind at em ⊢
    cases e1 : ma ρ with
    | none => simp only [e1] at em; cases em
    | some p =>
      obtain ⟨x, ρ1⟩ := p
      cases x with
      | error e => simp only [e1] at em ⊢; exact .inl em
      | ok x =>
        simp only [e1] at em ⊢
        cases e2 : mb ρ1 with
        | none => simp only [e2] at em; cases em
        | some p =>
          obtain ⟨y, ρ2⟩ := p
          cases y with
          | error e => simp only [e2] at em ⊢; exact .inl em
          | ok y =>
            simp only [e2] at em ⊢
            cases e3 : res ρ2 x with
            | none => simp only [e3] at em; cases em
            | some a =>
              cases e4 : res ρ2 y with
              | none => simp only [e3, e4] at em; cases em
              | some d =>
                simp only [e3, e4] at em ⊢
                unfold fOr at em
                cases e5 : f a d with
                | some z => simp only [e5] at em ⊢; exact .inl em
                | none => simp only [e5] at em; exact .inr em
  exact key.imp (fun k => ⟨c, ρ, τ, θ, o, ρ', ek, b, k, q⟩) (fun k => ⟨c, ρ, τ, θ, o, ρ', ek, b, k, q⟩)
theorem jt_either {e : Expr} {f g : A → A → Option Rr} {ma mb : Mi Rr} (h : JT X E e (mTest (mOp f ma mb))) (h' : JT X E e (mTest (mOp g ma mb))) : JT X E e (mTest (mOp (fOr f g) ma mb)) :=
  ⟨fun pins s σ H Q I q => (mtest_or q).elim (fun q => h.p pins s σ H Q I q) (fun q => h'.p pins s σ H Q I q)⟩
theorem OpS.scalar {K : Kx} {r : R2} {f : A → A → Option Rr} (h : ∀ H v w a b q, RA K H v a → RA K H w b → f a b = some q → ∃ u d, q = .fr d ∧ (∀ G, RA K G u d) ∧ ∀ Q : VK, Q u H → r v w H Q) : OpS K r f := by
  intro c σ H ρ τ θ x y v w a b q Q ek hv hw bd e1 e2 e3 k
  have r2 := Bd.rd bd hw e2
  have r1 := Bd.rd bd.drop hv e1
  rw [ek] at r1 r2
  obtain ⟨u, d, rfl, hu, hq⟩ := h H v w a b q r1 r2 e3
  exact hq Q (k u H trivial (Bd.push bd.drop.drop (by rw [ek]; exact hu)))
def fits (n : Nat) (i : Int) : Bool := decide (i.natAbs < 2 ^ n)
theorem fits_bd {n : Nat} {i : Int} (h : fits n i = true) : L2.Bd n i := show i.natAbs < 2 ^ n from of_decide_eq_true h
theorem bd_fits {n m : Nat} {i : Int} (h : L2.Bd m i) (k : m ≤ n) : fits n i = true := decide_eq_true (show i.natAbs < 2 ^ n from h.mono k)
def fAddI : A → A → Option Rr
  | .int i, .int j => some (.fr (.int (i + j)))
  | _, _ => none
def fSub : A → A → Option Rr
  | .int i, .int j => some (.fr (.int (i - j)))
  | _, _ => none
def fMulI : A → A → Option Rr
  | .int i, .int j => if fits 20000 i && fits 20000 j then some (.fr (.int (i * j))) else none
  | _, _ => none
def fDiv : A → A → Option Rr
  | .int i, .int j => if j != 0 && fits 9000 j then some (.fr (.int (i.fdiv j))) else none
  | _, _ => none
def fMod : A → A → Option Rr
  | .int i, .int j => if j != 0 then some (.fr (.int (i.fmod j))) else none
  | _, _ => none
def fPow : A → A → Option Rr
  | .int i, .int j => if 0 ≤ j ∧ j ≤ 1000000 ∧ i.natAbs < 2 ^ 64 then some (.fr (.int (i ^ j.toNat))) else none
  | _, _ => none
def fLt : A → A → Option Rr
  | .int i, .int j => some (.fr (.bl (decide (i < j))))
  | _, _ => none
def fLe : A → A → Option Rr
  | .int i, .int j => some (.fr (.bl (decide (i ≤ j))))
  | _, _ => none
def fGt : A → A → Option Rr
  | .int i, .int j => some (.fr (.bl (decide (j < i))))
  | _, _ => none
def fGe : A → A → Option Rr
  | .int i, .int j => some (.fr (.bl (decide (j ≤ i))))
  | _, _ => none
theorem os_addI {K : Kx} : OpS K (rI0 fun i j => .int (i + j)) fAddI := .scalar fun H v w a b q r1 r2 h => by
  cases a <;> cases b <;> first | (cases h; done) | skip
  cases r1; cases r2; cases h
  exact ⟨_, _, rfl, fun _ => .int _, fun Q k => ⟨_, _, rfl, rfl, k⟩⟩
theorem os_sub {K : Kx} : OpS K (rI0 fun i j => .int (i - j)) fSub := .scalar fun H v w a b q r1 r2 h => by
  cases a <;> cases b <;> first | (cases h; done) | skip
  cases r1; cases r2; cases h
  exact ⟨_, _, rfl, fun _ => .int _, fun Q k => ⟨_, _, rfl, rfl, k⟩⟩
theorem os_mulI {K : Kx} : OpS K (rI IntMulOk fun i j => .int (i * j)) fMulI := .scalar fun H v w a b q r1 r2 h => by
  cases a <;> cases b <;> first | (cases h; done) | skip
  cases r1; cases r2
  rename_i i j
  unfold fMulI at h
  simp only at h
  split at h
  · rename_i hc
    rw [Bool.and_eq_true] at hc
    cases h
    exact ⟨_, _, rfl, fun _ => .int _, fun Q k => ⟨_, _, rfl, rfl, (fits_bd hc.1).mulOk (fits_bd hc.2) (by decide), k⟩⟩
  · cases h
theorem os_div {K : Kx} : OpS K (rI CDv fun i j => .int (i.fdiv j)) fDiv := .scalar fun H v w a b q r1 r2 h => by
  cases a <;> cases b <;> first | (cases h; done) | skip
  cases r1; cases r2
  unfold fDiv at h
  simp only at h
  split at h
  · rename_i hc
    rw [Bool.and_eq_true] at hc
    cases h
    exact ⟨_, _, rfl, fun _ => .int _, fun Q k => ⟨_, _, rfl, rfl, ⟨by simpa using hc.1, fits_bd hc.2⟩, k⟩⟩
  · cases h
theorem os_mod {K : Kx} : OpS K (rI (fun _ j => j ≠ 0) fun i j => .int (i.fmod j)) fMod := .scalar fun H v w a b q r1 r2 h => by
  cases a <;> cases b <;> first | (cases h; done) | skip
  cases r1; cases r2
  unfold fMod at h
  simp only at h
  split at h
  · rename_i hc
    cases h
    exact ⟨_, _, rfl, fun _ => .int _, fun Q k => ⟨_, _, rfl, rfl, by simpa using hc, k⟩⟩
  · cases h
theorem os_pow {K : Kx} : OpS K (rI CPow fun i j => .int (i ^ j.toNat)) fPow := .scalar fun H v w a b q r1 r2 h => by
  cases a <;> cases b <;> first | (cases h; done) | skip
  cases r1; cases r2
  unfold fPow at h
  simp only at h
  split at h
  · rename_i hc
    cases h
    exact ⟨_, _, rfl, fun _ => .int _, fun Q k => ⟨_, _, rfl, rfl, hc, k⟩⟩
  · cases h
theorem os_lt {K : Kx} : OpS K (rI0 fun i j => .bl (decide (i < j))) fLt := .scalar fun H v w a b q r1 r2 h => by
  cases a <;> cases b <;> first | (cases h; done) | skip
  cases r1; cases r2; cases h
  exact ⟨_, _, rfl, fun _ => .bl _, fun Q k => ⟨_, _, rfl, rfl, k⟩⟩
theorem os_gt {K : Kx} : OpS K (rI0 fun i j => .bl (decide (j < i))) fGt := .scalar fun H v w a b q r1 r2 h => by
  cases a <;> cases b <;> first | (cases h; done) | skip
  cases r1; cases r2; cases h
  exact ⟨_, _, rfl, fun _ => .bl _, fun Q k => ⟨_, _, rfl, rfl, k⟩⟩
theorem os_ge {K : Kx} : OpS K (rI0 fun i j => .bl (decide (j ≤ i))) fGe := .scalar fun H v w a b q r1 r2 h => by
  cases a <;> cases b <;> first | (cases h; done) | skip
  cases r1; cases r2; cases h
  exact ⟨_, _, rfl, fun _ => .bl _, fun Q k => ⟨_, _, rfl, rfl, k⟩⟩
mutual
def toD : A → Option D
  | .non => some .non
  | .bl b => some (.bl b)
  | .int i => some (.int i)
  | .str x => some (.str x)
  | .tup xs => match toDs xs with
    | some ds => some (.tup ds)
    | none => none
  | .lst xs => match toDs xs with
    | some ds => some (.lst ds)
    | none => none
  | .dic _ => none
  | .exc _ => none
def toDs : List A → Option (List D)
  | [] => some []
  | a :: as => match toD a, toDs as with
    | some d, some ds => some (d :: ds)
    | _, _ => none
end
mutual
theorem den_of {K : Kx} {H : Hp} : ∀ {v : V} {a : A} {d : D}, RA K H v a → toD a = some d → Den K.K H v d
  | _, _, _, .non, h => by rw [toD] at h; cases h; exact .non
  | _, _, _, .bl b, h => by rw [toD] at h; cases h; exact .bl _
  | _, _, _, .int i, h => by rw [toD] at h; cases h; exact .int _
  | _, _, _, .str x, h => by rw [toD] at h; cases h; exact .str _
  | _, _, _, .tup (as := as) e r, h => by
    rw [toD] at h
    cases q : toDs as with
    | none => simp only [q] at h; cases h
    | some ds => simp only [q] at h; cases h; exact .tup e (dens_of r q)
  | _, _, _, .lst (as := as) e r, h => by
    rw [toD] at h
    cases q : toDs as with
    | none => simp only [q] at h; cases h
    | some ds => simp only [q] at h; cases h; exact .lst e (dens_of r q)
  | _, _, _, .dic e r, h => by rw [toD] at h; cases h
  | _, _, _, .exc e m, h => by rw [toD] at h; cases h
theorem dens_of {K : Kx} {H : Hp} : ∀ {vs : List V} {as : List A} {ds : List D}, RAs K H vs as → toDs as = some ds → Dens K.K H vs ds
  | _, _, _, .nil, h => by rw [toDs] at h; cases h; exact .nil
  | _, _, _, .cons (a := a) (as := as) q r, h => by
    rw [toDs] at h
    cases e1 : toD a with
    | none => simp only [e1] at h; cases h
    | some d =>
      cases e2 : toDs as with
      | none => simp only [e1, e2] at h; cases h
      | some ds => simp only [e1, e2] at h; cases h; exact .cons (den_of q e1) (dens_of r e2)
end
def eqA (a b : A) : Option Bool := match toD a, toD b with
  | some d, some e => if D.depth d ≤ 40 then some (D.eq d e) else none
  | _, _ => none
def fEq (a b : A) : Option Rr := match eqA a b with
  | some k => some (.fr (.bl k))
  | none => none
def fNe (a b : A) : Option Rr := match eqA a b with
  | some k => some (.fr (.bl (!k)))
  | none => none
theorem eqA_some {a b : A} {k : Bool} (h : eqA a b = some k) : ∃ d e, toD a = some d ∧ toD b = some e ∧ D.depth d ≤ 40 ∧ k = D.eq d e := by
  unfold eqA at h
  cases e1 : toD a with
  | none => simp only [e1] at h; cases h
  | some d =>
    cases e2 : toD b with
    | none => simp only [e1, e2] at h; cases h
    | some e =>
      simp only [e1, e2] at h
      split at h
      · rename_i hd; cases h; exact ⟨d, e, rfl, rfl, hd, rfl⟩
      · cases h
theorem os_eq {K : Kx} : OpS K (rEqD K.K) fEq := .scalar fun H v w a b q r1 r2 h => by
  unfold fEq at h
  cases e : eqA a b with
  | none => simp only [e] at h; cases h
  | some k =>
    simp only [e] at h; cases h
    obtain ⟨d, d', h1, h2, h3, rfl⟩ := eqA_some e
    exact ⟨_, _, rfl, fun _ => .bl _, fun Q k => ⟨d, d', den_of r1 h1, den_of r2 h2, h3, k⟩⟩
theorem os_ne {K : Kx} : OpS K (rNeD K.K) fNe := .scalar fun H v w a b q r1 r2 h => by
  unfold fNe at h
  cases e : eqA a b with
  | none => simp only [e] at h; cases h
  | some k =>
    simp only [e] at h; cases h
    obtain ⟨d, d', h1, h2, h3, rfl⟩ := eqA_some e
    exact ⟨_, _, rfl, fun _ => .bl _, fun Q k => ⟨d, d', den_of r1 h1, den_of r2 h2, h3, k⟩⟩
def fAddS : A → A → Option Rr
  | .str x, .str y => if x.length + y.length ≤ 100000 then some (.fr (.str (x ++ y))) else none
  | _, _ => none
theorem line5 : 100000 ≤ sizeLine := by rw [sizeLine_eq]; decide
theorem os_addS {K : Kx} : OpS K (fun x y H Q => ∃ i j, x = .str i ∧ y = .str j ∧ i.length + j.length ≤ sizeLine ∧ Q (.str (i ++ j)) H) fAddS := .scalar fun H v w a b q r1 r2 h => by
  cases a <;> cases b <;> first | (cases h; done) | skip
  cases r1; cases r2
  unfold fAddS at h
  simp only at h
  split at h
  · rename_i hc
    cases h
    exact ⟨_, _, rfl, fun _ => .str _, fun Q k => ⟨_, _, rfl, rfl, Nat.le_trans hc line5, k⟩⟩
  · cases h
def rMulS : R2 := fun x y H Q => ∃ z n, x = .str z ∧ y = .int n ∧ MulOk z n ∧ Q (.str (Txt.mul z n)) H
theorem op_mulS : OpR X (binaryOp .Mult) rMulS := by
  intro pins s σ H x y v u Q I rx ry h
  obtain ⟨z, n, rfl, rfl, hok, q⟩ := h
  obtain ⟨t, rfl⟩ := rx
  obtain ⟨t', rfl⟩ := ry
  exact SB.mul hok fun t'' k => ⟨.str _, H, I.tok _, ⟨t'', rfl⟩, q⟩
def fMulS : A → A → Option Rr
  | .str z, .int n => if 1 ≤ n ∧ n ≤ 1000 ∧ z.length ≤ 1000 then some (.fr (.str (Txt.mul z n))) else none
  | _, _ => none
theorem os_mulS {K : Kx} : OpS K rMulS fMulS := .scalar fun H v w a b q r1 r2 h => by
  cases a <;> cases b <;> first | (cases h; done) | skip
  cases r1; cases r2
  rename_i z n
  unfold fMulS at h
  simp only at h
  split at h
  · rename_i hc
    cases h
    refine ⟨_, _, rfl, fun _ => .str _, fun Q k => ⟨_, _, rfl, rfl, ⟨?_, fun _ _ z1 => ?_, fun _ _ => ?_⟩, k⟩⟩
    · rw [Bool.or_eq_false_iff]; exact ⟨decide_eq_false (by omega), decide_eq_false (by omega)⟩
    · have h1 : n * (z.length : Int) ≤ 1000 * 1000 := Int.mul_le_mul hc.2.1 (by omega) (by omega) (by decide)
      have h2 : (z.length : Int) ≤ (2 ^ 63 - 1) / n := by
        rw [Int.le_ediv_iff_mul_le (by omega)]
        rw [Int.mul_comm]; omega
      omega
    · unfold Builtin.Str.tooLong
      refine decide_eq_false ?_
      have h1 : z.length * n.toNat ≤ 1000 * 1000 := Nat.mul_le_mul hc.2.2 (by omega)
      have := sizeLine_eq
      omega
  · cases h
def fAddT : A → A → Option Rr
  | .tup xs, .tup ys => if xs.length + ys.length ≤ 100000 then some (.fr (.tup (xs ++ ys))) else none
  | _, _ => none
def rCatB (K : PySem.W.Frag) : R2 := fun x y H Q => ∃ a b xs ys, x = .ref a ∧ y = .ref b ∧ SqT K H a xs ∧ SqT K H b ys ∧ xs.length + ys.length ≤ sizeLine ∧ (xs = [] → Q (.ref b) H) ∧ (xs ≠ [] → ys = [] → Q (.ref a) H) ∧
  (xs ≠ [] → ys ≠ [] → ∀ p, H p = none → Q (.ref p) (upd H p (.tup (xs ++ ys))))
theorem op_catB : OpR X (binaryOp .Add) (rCatB X.K) := by
  intro pins s σ H x y v u Q I rx ry h
  obtain ⟨a, b, xs, ys, rfl, rfl, ha, hb, hz, q1, q2, q3⟩ := h
  by_cases hx : xs = []
  · subst hx
    cases rx
    cases ry
    obtain ⟨its, r1, p1, _⟩ := I.tuple ha
    obtain ⟨jts, r2, p2, _⟩ := I.tuple hb
    cases r1
    obtain ⟨⟨c1, d1, t1, l1⟩, e1, hc1, n1, hd1⟩ := id p1
    obtain ⟨⟨c2, d2, t2, l2⟩, e2, hc2, n2, hd2⟩ := id p2
    simp only at hc1 hd1 hc2 hd2
    subst hc1 hd1 hc2 hd2
    exact concat_meets ⟨_, e1, rfl⟩ ⟨_, e2, rfl⟩ noFill_tuple_add seq_tuple_add PySem.F.slot_tuple_add PySem.F.entry_tuple_add (PySem.F.args_tuple_add_2 _ _) (PyProof.Rows.tuple_addW0 a b _ _ n1 n2 d1 d2 l1 l2 rfl) ⟨e1, e2, .ref b, H, I, rfl, q1 rfl⟩
  · exact op_catT pins s σ H (.ref a) (.ref b) v u Q I rx ry ⟨a, b, xs, ys, rfl, rfl, ha, hb, hx, hz, q2 hx, q3 hx⟩
theorem os_addT {K : Kx} : OpS K (rCatB K.K) fAddT := by
  intro c σ H ρ τ θ x y v w a b q Q ek hv hw bd e1 e2 e3 k
  cases a <;> cases b <;> first | (cases e3; done) | skip
  rename_i xs ys
  unfold fAddT at e3
  simp only at e3
  split at e3
  · rename_i hc
    cases e3
    obtain ⟨L, bl, i1, i2⟩ := Bd.open2 bd hv hw e1 e2
    obtain ⟨p1, vs1, rfl, s1, r1⟩ := i1.2.1 xs rfl
    obtain ⟨p2, vs2, rfl, s2, r2⟩ := i2.2.1 ys rfl
    have l1 := r1.len
    have l2 := r2.len
    subst ek
    refine ⟨p1, p2, vs1, vs2, rfl, rfl, sqT_sm (g_same _ _ _) s1, sqT_sm (g_same _ _ _) s2, by have := line5; omega, fun z => ?_, fun _ z => ?_, fun _ _ p hp => ?_⟩
    · subst z
      have : xs = [] := List.eq_nil_of_length_eq_zero (by rw [← l1]; rfl)
      subst this
      exact k _ H trivial (bl.push (.tup s2 r2))
    · subst z
      have : ys = [] := List.eq_nil_of_length_eq_zero (by rw [← l2]; rfl)
      subst this
      rw [List.append_nil] at k
      exact k _ H trivial (bl.push (.tup s1 r1))
    · obtain ⟨b2, sm, np⟩ := bl.new (o := .tup (vs1 ++ vs2)) hp
      exact k _ _ trivial (b2.push (.tup (.inl (.inl (by rw [g_out np (bl.fhd hp)]; exact upd_same))) ((r1.app r2).sm sm)))
  · cases e3
end
end M
namespace M
open PySem L2
section
variable {X : Cx} {E : XK}
def fIx : A → A → Option Rr
  | .lst xs, .int i => match atI xs i with
    | some a => some (.fr a)
    | none => none
  | .tup xs, .int i => match atI xs i with
    | some a => some (.fr a)
    | none => none
  | .str z, .int i => if z.length ≤ 100000 then match atI z.cps.toList i with
    | some c => some (.fr (.str ⟨#[c]⟩))
    | none => none else none
  | _, _ => none
theorem RAs.atI {k : Kx} {G : Hp} {vs : List V} {as : List A} {i : Int} {a : A} (r : RAs k G vs as) (h : atI as i = some a) : ∃ v, atI vs i = some v ∧ RA k G v a := by
  unfold L2.atI at h ⊢
  rw [r.len]
  cases e : ixN as.length i with
  | none => rw [e] at h; cases h
  | some j =>
    rw [e] at h
    obtain ⟨v, h1, h2⟩ := r.ta h
    exact ⟨v, h1, h2⟩
theorem os_ix {K : Kx} : OpS K (rIx K.K) fIx := by
  intro c σ H ρ τ θ x y v w a b q Q ek hv hw bd e1 e2 e3 k
  subst ek
  have r2 := Bd.rd bd hw e2
  obtain ⟨L, bl, i1, i2⟩ := Bd.open2 bd hv hw e1 e2
  have r1 := Bd.rd bd.drop hv e1
  cases a <;> cases b <;> first | (cases e3; done) | skip
  · rename_i z i
    cases r1; cases r2
    unfold fIx at e3
    simp only at e3
    split at e3
    · rename_i hz
      cases e : atI z.cps.toList i with
      | none => simp only [e] at e3; cases e3
      | some ch =>
        simp only [e] at e3; cases e3
        exact .inr (.inr ⟨z, i, ch, rfl, rfl, Nat.le_trans hz line5, e, k _ H trivial (Bd.push ⟨L, bl⟩ fun _ => .str _)⟩)
    · cases e3
  · rename_i xs i
    cases r2
    unfold fIx at e3
    simp only at e3
    cases e : atI xs i with
    | none => simp only [e] at e3; cases e3
    | some d =>
      simp only [e] at e3; cases e3
      obtain ⟨p, vs, rfl, s1, rr⟩ := i1.2.1 xs rfl
      obtain ⟨u, h1, h2⟩ := rr.atI e
      exact .inr (.inl ⟨p, vs, i, u, rfl, rfl, sqT_sm (g_same _ _ _) s1, h1, k u H trivial (bl.push h2)⟩)
  · rename_i xs i
    cases r2
    unfold fIx at e3
    simp only at e3
    cases e : atI xs i with
    | none => simp only [e] at e3; cases e3
    | some d =>
      simp only [e] at e3; cases e3
      obtain ⟨p, vs, rfl, s1, rr⟩ := i1.1 xs rfl
      obtain ⟨u, h1, h2⟩ := rr.atI e
      exact .inl ⟨p, vs, i, u, rfl, rfl, s1, h1, k u H trivial (bl.push h2)⟩
theorem je_ixS {a b : Expr} {ma mb : Mi Rr} {pos : Pos} (ha : JE X E a ma) (hb : JE X E b mb) (hs : PlainIx b) : JE X E (.Subscript a b pos) (mOp fIx ma mb) :=
  ⟨PE.weaken (pe_ix ix_seq ha.p hb.p hs) (op_weak os_ix)⟩
def keyA : A → Option Key
  | .int i => some (.inl i)
  | .str x => some (.inr x)
  | _ => none
theorem keyA_v {K : Kx} {H : Hp} {w : V} {b : A} {y : Key} (r : RA K H w b) (h : keyA b = some y) : w = kV y := by
  cases r <;> first | (cases h; rfl) | (cases h; done)
def fGetD : A → A → Option Rr
  | .dic kvs, b => match keyA b with
    | some y => match getK kvs y with
      | some a => some (.fr a)
      | none => none
    | none => none
  | _, _ => none
theorem os_getD {K : Kx} : OpS K (fun x y H Q => ∃ a v, x = .ref a ∧ DGet H a y (some v) ∧ Q v H) fGetD := by
  intro c σ H ρ τ θ x y v w a b q Q ek hv hw bd e1 e2 e3 k
  subst ek
  have r2 := Bd.rd bd hw e2
  obtain ⟨L, bl, i1, i2⟩ := Bd.open2 bd hv hw e1 e2
  cases a <;> first | (cases e3; done) | skip
  rename_i kvs
  unfold fGetD at e3
  simp only at e3
  cases ey : keyA b with
  | none => simp only [ey] at e3; cases e3
  | some ky =>
    simp only [ey] at e3
    obtain ⟨p, vs, rfl, s1, rr⟩ := i1.2.2 kvs rfl
    rcases rr.get ky with ⟨u, a, h1, h2, h3⟩ | ⟨h1, h2⟩
    · simp only [h2] at e3; cases e3
      exact ⟨p, u, rfl, .inl ⟨vs, ky, s1, keyA_v r2 ey, h1.symm⟩, k u H trivial (bl.push h3)⟩
    · simp only [h2] at e3; cases e3
theorem je_getD {a b : Expr} {ma mb : Mi Rr} {pos : Pos} (hu : X.A.units + 1 < cLine) (ha : JE X E a ma) (hb : JE X E b mb) (hs : NoSl b) : JE X E (.Subscript a b pos) (mOp fGetD ma mb) :=
  ⟨PE.weaken (pe_dget hu ha.p hb.p hs) (op_weak (r := fun x y H Q => ∃ a v, x = .ref a ∧ DGet H a y (some v) ∧ Q v H) os_getD)⟩
theorem je_ix {a b : Expr} {ma mb : Mi Rr} {pos : Pos} (hu : X.A.units + 1 < cLine) (ha : JE X E a ma) (hb : JE X E b mb) (hs : PlainIx b) (hs' : NoSl b) : JE X E (.Subscript a b pos) (mOp (fOr fIx fGetD) ma mb) := je_either (je_ixS ha hb hs) (je_getD hu ha hb hs')
def flatA : A → Bool
  | .non => true
  | .bl _ => true
  | .int _ => true
  | .str _ => true
  | _ => false
def valA : A → V
  | .non => .non
  | .bl b => .bl b
  | .int i => .int i
  | .str x => .str x
  | _ => .non
theorem flat_v {K : Kx} {H : Hp} {w : V} {b : A} (r : RA K H w b) (h : flatA b = true) : w = valA b ∧ flatV w = true := by
  cases r <;> first | exact ⟨rfl, rfl⟩ | (cases h; done)
theorem flats_v {K : Kx} {H : Hp} : ∀ {vs : List V} {as : List A}, RAs K H vs as → as.all flatA = true → vs = as.map valA ∧ vs.all flatV = true
  | _, _, .nil, _ => ⟨rfl, rfl⟩
  | _, _, .cons h r, e => by
    rw [List.all_cons, Bool.and_eq_true] at e
    obtain ⟨h1, h2⟩ := flat_v h e.1
    obtain ⟨h3, h4⟩ := flats_v r e.2
    exact ⟨by rw [h1, h3]; rfl, by rw [List.all_cons, h2, h4]; rfl⟩
def inA (neg : Bool) (x : A) (xs : List A) : Option Rr := if flatA x && xs.all flatA then some (.fr (.bl (if neg then !inV (valA x) (xs.map valA) else inV (valA x) (xs.map valA)))) else none
def fInL (neg : Bool) : A → A → Option Rr
  | x, .lst xs => inA neg x xs
  | x, .tup xs => inA neg x xs
  | _, _ => none
theorem os_inL {K : Kx} {neg : Bool} : OpS K (rIn K.K neg) (fInL neg) := .scalar fun H v w a b q r1 r2 h => by
  have key : ∀ (xs : List A) (vs : List V) (p : Addr), RAs K H vs xs → (SqL K.K H p vs ∨ SqT K.K H p vs) → inA neg a xs = some q → ∃ u d, q = .fr d ∧ (∀ G, RA K G u d) ∧ ∀ Q : VK, Q u H → rIn K.K neg v (.ref p) H Q := by
    intro xs vs p rr sq h
    unfold inA at h
    split at h
    · rename_i hc
      rw [Bool.and_eq_true] at hc
      cases h
      obtain ⟨rfl, h2⟩ := flat_v r1 hc.1
      obtain ⟨rfl, h4⟩ := flats_v rr hc.2
      exact ⟨_, _, rfl, fun _ => .bl _, fun Q k => ⟨p, _, rfl, sq, h2, h4, k⟩⟩
    · cases h
  cases b <;> first | (cases h; done) | skip
  · cases r2 with | tup e r => exact key _ _ _ r (.inr e) h
  · cases r2 with | lst e r => exact key _ _ _ r (.inl e) h
def fInD (neg : Bool) : A → A → Option Rr
  | x, .dic kvs => match keyA x with
    | some y => some (.fr (.bl (if neg then !(getK kvs y).isSome else (getK kvs y).isSome)))
    | none => none
  | _, _ => none
theorem os_inD {K : Kx} : OpS K (fun y x H Q => ∃ a o, x = .ref a ∧ DGet H a y o ∧ Q (.bl o.isSome) H) (fInD false) := .scalar fun H v w a b q r1 r2 h => by
  cases b <;> first | (cases h; done) | skip
  cases r2 with
  | dic e r =>
    unfold fInD at h
    simp only at h
    cases ey : keyA a with
    | none => simp only [ey] at h; cases h
    | some y =>
      simp only [ey] at h; cases h
      refine ⟨_, _, rfl, fun _ => .bl _, fun Q k => ⟨_, _, rfl, .inl ⟨_, y, e, keyA_v r1 ey, rfl⟩, ?_⟩⟩
      rcases r.get y with ⟨u, a, h1, h2, h3⟩ | ⟨h1, h2⟩
      · rw [h1]; rw [h2] at k; exact k
      · rw [h1]; rw [h2] at k; exact k
theorem os_ninD {K : Kx} : OpS K (fun y x H Q => ∃ a o, x = .ref a ∧ DGet H a y o ∧ Q (.bl (!o.isSome)) H) (fInD true) := .scalar fun H v w a b q r1 r2 h => by
  cases b <;> first | (cases h; done) | skip
  cases r2 with
  | dic e r =>
    unfold fInD at h
    simp only at h
    cases ey : keyA a with
    | none => simp only [ey] at h; cases h
    | some y =>
      simp only [ey] at h; cases h
      refine ⟨_, _, rfl, fun _ => .bl _, fun Q k => ⟨_, _, rfl, .inl ⟨_, y, e, keyA_v r1 ey, rfl⟩, ?_⟩⟩
      rcases r.get y with ⟨u, a, h1, h2, h3⟩ | ⟨h1, h2⟩
      · rw [h1]; rw [h2] at k; exact k
      · rw [h1]; rw [h2] at k; exact k
theorem jt_inD {a b : Expr} {ma mb : Mi Rr} {pos : Pos} (hu : X.A.units + 1 < cLine) (ha : JE X E a ma) (hb : JE X E b mb) (hm : behindInMarks .In b = false) : JT X E (.Compare a [.In] [b] pos) (mTest (mOp (fInD false) ma mb)) :=
  ⟨PT.weaken (pt_cmp (pc_din hu ha.p hb.p) hm) fun σ H Q h => op_weak (r := fun y x H Q => ∃ a o, x = .ref a ∧ DGet H a y o ∧ Q (.bl o.isSome) H) os_inD σ H _ (test_weak σ H Q h)⟩
theorem jt_ninD {a b : Expr} {ma mb : Mi Rr} {pos : Pos} (hu : X.A.units + 1 < cLine) (ha : JE X E a ma) (hb : JE X E b mb) (hm : behindInMarks .NotIn b = false) : JT X E (.Compare a [.NotIn] [b] pos) (mTest (mOp (fInD true) ma mb)) :=
  ⟨PT.weaken (pt_cmp (pc_dnotin hu ha.p hb.p) hm) fun σ H Q h => op_weak (r := fun y x H Q => ∃ a o, x = .ref a ∧ DGet H a y o ∧ Q (.bl (!o.isSome)) H) os_ninD σ H _ (test_weak σ H Q h)⟩
theorem jt_in {a b : Expr} {ma mb : Mi Rr} {pos : Pos} (hu : X.A.units + 1 < cLine) (ha : JE X E a ma) (hb : JE X E b mb) (hm : behindInMarks .In b = false) : JT X E (.Compare a [.In] [b] pos) (mTest (mOp (fOr (fInL false) (fInD false)) ma mb)) := jt_either (jt_cmp op_in_seq os_inL ha hb hm) (jt_inD hu ha hb hm)
theorem jt_nin {a b : Expr} {ma mb : Mi Rr} {pos : Pos} (hu : X.A.units + 1 < cLine) (ha : JE X E a ma) (hb : JE X E b mb) (hm : behindInMarks .NotIn b = false) : JT X E (.Compare a [.NotIn] [b] pos) (mTest (mOp (fOr (fInL true) (fInD true)) ma mb)) := jt_either (jt_cmp op_notIn_seq os_inL ha hb hm) (jt_ninD hu ha hb hm)
def isNonA : A → Bool
  | .non => true
  | _ => false
def fIs (neg : Bool) : A → A → Option Rr
  | a, .non => some (.fr (.bl (if neg then !isNonA a else isNonA a)))
  | _, _ => none
def mUn (f : A → Option Rr) (m : Mi Rr) : Mi Rr := mBind m fun x ρ => match res ρ x with
  | some a => match f a with
    | some r => some (.ok r, ρ)
    | none => none
  | none => none
def UnS (K : Kx) (r : V → Hp → VK → Prop) (f : A → Option Rr) : Prop := ∀ (c : Cn) (σ : St) (H : Hp) (ρ : List Sl) (τ : St) (θ : List Sl) (x : Rr) (v : V) (a : A) (q : Rr) (Q : VK), c.toKx = K → VR σ x v →
  Bd c σ H ρ (extV x v τ) (extS x θ) → res ρ x = some a → f a = some q → (∀ u H', VR σ q u → Bd c σ H' ρ (extV q u τ) (extS q θ) → Q u H') → r v H Q
theorem un_tail {f : A → Option Rr} {x : Rr} {ρ ρ' : List Sl} {o : Except Str Rr} (h : (match res ρ x with | some a => (match f a with | some r => some ((.ok r : Except Str Rr), ρ) | none => none) | none => none) = some (o, ρ')) : ∃ a r, res ρ x = some a ∧ f a = some r ∧ o = .ok r ∧ ρ' = ρ := by
  cases e1 : res ρ x with
  | none => simp only [e1] at h; cases h
  | some a =>
    simp only [e1] at h
    cases e3 : f a with
    | none => simp only [e3] at h; cases h
    | some r => simp only [e3] at h; cases h; exact ⟨a, r, rfl, e3, rfl, rfl⟩
theorem un_weak {r : V → Hp → VK → Prop} {f : A → Option Rr} {m : Mi Rr} (hf : UnS (kx X) r f) (σ : St) (H : Hp) (Q : VK) (h : TEm (kx X) E (mUn f m) σ H Q) : TEm (kx X) E m σ H fun v H' => r v H' Q := by
  obtain ⟨c, ρ, τ, θ, o, ρ', ek, b, em, q⟩ := h
  refine te_bind ek b em (fun x v ρ1 H1 hv b1 em1 => ?_) (ret_err q)
  obtain ⟨a, r, e1, e3, rfl, rfl⟩ := un_tail em1
  exact hf c σ H1 _ τ θ x v a r Q ek hv b1 e1 e3 q
theorem UnS.scalar {K : Kx} {r : V → Hp → VK → Prop} {f : A → Option Rr} (h : ∀ H v a q, RA K H v a → f a = some q → ∃ u d, q = .fr d ∧ (∀ G, RA K G u d) ∧ ∀ Q : VK, Q u H → r v H Q) : UnS K r f := by
  intro c σ H ρ τ θ x v a q Q ek hv bd e1 e3 k
  have r1 := Bd.rd bd hv e1
  rw [ek] at r1
  obtain ⟨u, d, rfl, hu, hq⟩ := h H v a q r1 e3
  exact hq Q (k u H trivial (Bd.push bd.drop (by rw [ek]; exact hu)))
def fNeg : A → Option Rr
  | .int i => some (.fr (.int (-i)))
  | _ => none
theorem je_neg {a : Expr} {m : Mi Rr} {pos : Pos} (h : JE X E a m) : JE X E (.UnaryOp .USub a pos) (mUn fNeg m) := ⟨PE.weaken (pe_un un_neg h.p) (un_weak (.scalar fun H v a q r1 h => by
  cases a <;> first | (cases h; done) | skip
  cases r1; cases h
  exact ⟨_, _, rfl, fun _ => .int _, fun Q k => ⟨_, rfl, k⟩⟩))⟩
def mB1 (f : A → Option Rr) (m : Mi Rr) : Mi Rr := mUn f m
def mB2 (f : A → A → Option Rr) (m n : Mi Rr) : Mi Rr := mOp f m n
theorem je_b1 {id : String} {r : List V → Hp → VK → Prop} {f : A → Option Rr} {x : Str} {p pos : Pos} {e : Expr} {m : Mi Rr} (hc : CallR X (.builtin id) r) (hf : UnS (kx X) (fun v => r [v]) f) (hg : Gl X x) (hm : X.mg x = none) (hv : bootBuiltins x = some (.builtin id)) (ha : JE X E e m) (hn : x ≠ "__name__")
    (hdb : (x == ("__debug__" : Str)) = false) (hs : starEach [e] X.env = (false, eval e X.env) :: starEach [] X.env := by rfl) (hp : (backTo pos (starEach [] X.env)).any (·.1) = false := by rfl) : JE X E (.Call (.Name x p) [e] [] pos) (mB1 f m) :=
  ⟨PE.weaken (pe_callB hc hg hm hv (pa_cons ha.p pa_nil hs) hn hdb hs hp) fun σ H Q h => un_weak hf σ H Q h⟩
theorem je_t1 {T : String} {r : List V → Hp → VK → Prop} {f : A → Option Rr} {x : Str} {p pos : Pos} {e : Expr} {m : Mi Rr} (hc : CallR X (.type T) r) (hf : UnS (kx X) (fun v => r [v]) f) (hg : Gl X x) (hm : X.mg x = none) (hv : bootBuiltins x = some (.type T)) (ha : JE X E e m) (hn : x ≠ "__name__")
    (hdb : (x == ("__debug__" : Str)) = false) (hs : starEach [e] X.env = (false, eval e X.env) :: starEach [] X.env := by rfl) (hp : (backTo pos (starEach [] X.env)).any (·.1) = false := by rfl) : JE X E (.Call (.Name x p) [e] [] pos) (mB1 f m) :=
  ⟨PE.weaken (pe_callTy hc hg hm hv (pa_cons ha.p pa_nil hs) hn hdb hs hp) fun σ H Q h => un_weak hf σ H Q h⟩
theorem je_b2 {id : String} {r : List V → Hp → VK → Prop} {f : A → A → Option Rr} {x : Str} {p pos : Pos} {e1 e2 : Expr} {m n : Mi Rr} (hc : CallR X (.builtin id) r) (hf : OpS (kx X) (fun v w => r [v, w]) f) (hg : Gl X x) (hm : X.mg x = none) (hv : bootBuiltins x = some (.builtin id)) (h1 : JE X E e1 m) (h2 : JE X E e2 n) (hn : x ≠ "__name__")
    (hdb : (x == ("__debug__" : Str)) = false) (hs : starEach [e1, e2] X.env = (false, eval e1 X.env) :: starEach [e2] X.env := by rfl) (hs2 : starEach [e2] X.env = (false, eval e2 X.env) :: starEach [] X.env := by rfl) (hp : (backTo pos (starEach [e2] X.env)).any (·.1) = false := by rfl) : JE X E (.Call (.Name x p) [e1, e2] [] pos) (mB2 f m n) :=
  ⟨PE.weaken (pe_callB hc hg hm hv (pa_cons h1.p (pa_cons h2.p pa_nil hs2) hs) hn hdb hs hp) fun σ H Q h => op_weak (r := fun v w => r [v, w]) hf σ H Q h⟩
def fLen : A → Option Rr
  | .str z => if z.length ≤ 100000 then some (.fr (.int z.length)) else none
  | .lst xs => some (.fr (.int xs.length))
  | .tup xs => some (.fr (.int xs.length))
  | _ => none
theorem us_len {K : Kx} : UnS K (fun v H Q => ∃ x n, [v] = [x] ∧ LenV K.K x H n ∧ Q (.int n) H) fLen := .scalar fun H v a q r1 h => by
  cases a <;> first | (cases h; done) | skip
  · cases r1
    unfold fLen at h
    simp only at h
    split at h
    · rename_i hz; cases h
      exact ⟨_, _, rfl, fun _ => .int _, fun Q k => ⟨_, _, rfl, ⟨Nat.le_trans hz line5, rfl⟩, k⟩⟩
    · cases h
  · cases r1 with
    | tup e r => cases h; exact ⟨_, _, rfl, fun _ => .int _, fun Q k => ⟨_, _, rfl, .inr ⟨_, e, rfl⟩, by rw [r.len]; exact k⟩⟩
  · cases r1 with
    | lst e r => cases h; exact ⟨_, _, rfl, fun _ => .int _, fun Q k => ⟨_, _, rfl, .inl ⟨_, e, rfl⟩, by rw [r.len]; exact k⟩⟩
def fAbs : A → Option Rr
  | .int i => some (.fr (.int (if i < 0 then -i else i)))
  | _ => none
theorem us_abs {K : Kx} : UnS K (fun v H Q => ∃ i, [v] = [V.int i] ∧ Q (.int (if i < 0 then -i else i)) H) fAbs := .scalar fun H v a q r1 h => by
  cases a <;> first | (cases h; done) | skip
  cases r1; cases h
  exact ⟨_, _, rfl, fun _ => .int _, fun Q k => ⟨_, rfl, k⟩⟩
def fMax : A → A → Option Rr
  | .int i, .int j => some (.fr (.int (if j > i then j else i)))
  | _, _ => none
def fMin : A → A → Option Rr
  | .int i, .int j => some (.fr (.int (if j < i then j else i)))
  | _, _ => none
theorem os_max {K : Kx} : OpS K (fun v w H Q => ∃ i j, [v, w] = [V.int i, V.int j] ∧ Q (.int (if j > i then j else i)) H) fMax := .scalar fun H v w a b q r1 r2 h => by
  cases a <;> cases b <;> first | (cases h; done) | skip
  cases r1; cases r2; cases h
  exact ⟨_, _, rfl, fun _ => .int _, fun Q k => ⟨_, _, rfl, k⟩⟩
theorem os_min {K : Kx} : OpS K (fun v w H Q => ∃ i j, [v, w] = [V.int i, V.int j] ∧ Q (.int (if j < i then j else i)) H) fMin := .scalar fun H v w a b q r1 r2 h => by
  cases a <;> cases b <;> first | (cases h; done) | skip
  cases r1; cases r2; cases h
  exact ⟨_, _, rfl, fun _ => .int _, fun Q k => ⟨_, _, rfl, k⟩⟩
def fInt : A → Option Rr
  | .int i => some (.fr (.int i))
  | .bl k => some (.fr (.int (if k then 1 else 0)))
  | _ => none
theorem us_int {K : Kx} : UnS K (fun v H Q => (∃ i, [v] = [V.int i] ∧ Q (.int i) H) ∨ ∃ k, [v] = [V.bl k] ∧ Q (.int (if k then 1 else 0)) H) fInt := .scalar fun H v a q r1 h => by
  cases a <;> first | (cases h; done) | skip
  · cases r1; cases h; exact ⟨_, _, rfl, fun _ => .int _, fun Q k => .inr ⟨_, rfl, k⟩⟩
  · cases r1; cases h; exact ⟨_, _, rfl, fun _ => .int _, fun Q k => .inl ⟨_, rfl, k⟩⟩
def seqA : A → Option (List A)
  | .lst xs => some xs
  | .tup xs => some xs
  | _ => none
def fList (a : A) : Option Rr := match seqA a with
  | some xs => some (.nw (.lst xs))
  | none => none
def fTuple (a : A) : Option Rr := match seqA a with
  | some xs => some (.fr (.tup xs))
  | none => none
theorem us_list {K : Kx} : UnS K (fun v H Q => ∃ p ys, [v] = [V.ref p] ∧ (SqL K.K H p ys ∨ SqT K.K H p ys) ∧ ∀ l, H l = none → Q (.ref l) (upd H l (.lst ys))) fList := by
  intro c σ H ρ τ θ x v a q Q ek hv bd e1 e3 k
  subst ek
  obtain ⟨L, bl, i1⟩ := Bd.open bd hv e1
  cases a <;> first | (cases e3; done) | skip
  · rename_i xs
    cases e3
    obtain ⟨p, vs, rfl, s1, rr⟩ := i1.2.1 xs rfl
    exact ⟨p, vs, rfl, .inr (sqT_sm (g_same _ _ _) s1), fun l hl => k _ _ trivial (bl.newLv hl fun G H' sm q => .lst q (rr.sm sm))⟩
  · rename_i xs
    cases e3
    obtain ⟨p, vs, rfl, s1, rr⟩ := i1.1 xs rfl
    exact ⟨p, vs, rfl, .inl s1, fun l hl => k _ _ trivial (bl.newLv hl fun G H' sm q => .lst q (rr.sm sm))⟩
theorem us_tuple {K : Kx} : UnS K (fun v H Q => ∃ p ys, [v] = [V.ref p] ∧ ((SqL K.K H p ys ∧ ∀ l, H l = none → Q (.ref l) (upd H l (.tup ys))) ∨ (SqT K.K H p ys ∧ Q (.ref p) H))) fTuple := by
  intro c σ H ρ τ θ x v a q Q ek hv bd e1 e3 k
  subst ek
  obtain ⟨L, bl, i1⟩ := Bd.open bd hv e1
  cases a <;> first | (cases e3; done) | skip
  · rename_i xs
    cases e3
    obtain ⟨p, vs, rfl, s1, rr⟩ := i1.2.1 xs rfl
    exact ⟨p, vs, rfl, .inr ⟨sqT_sm (g_same _ _ _) s1, k _ _ trivial (bl.push (.tup s1 rr))⟩⟩
  · rename_i xs
    cases e3
    obtain ⟨p, vs, rfl, s1, rr⟩ := i1.1 xs rfl
    refine ⟨p, vs, rfl, .inl ⟨s1, fun l hl => ?_⟩⟩
    obtain ⟨b2, sm, np⟩ := bl.new (o := .tup vs) hl
    exact k _ _ trivial (b2.push (.tup (.inl (.inl (by rw [g_out np (bl.fhd hl)]; exact upd_same))) (rr.sm sm)))
end
end M
namespace M
open PySem L2
section
variable {c : Cn} {σ : St} {H : Hp} {ρ : List Sl} {τ : St} {θ : List Sl}
theorem Bd.popMid {x : Option V} {s : Sl} {xs : St} {ss : List Sl} (e : xs.length = ss.length) (b : Bd c σ H ρ (x :: (xs ++ τ)) (s :: (ss ++ θ))) : Bd c σ H ρ (x :: τ) (s :: θ) := by
  obtain ⟨L, b⟩ := b
  have r : SlRs c.toKx (c.g H L) H (x :: (xs ++ (τ ++ σ))) (s :: (ss ++ (θ ++ ρ))) L := by have := b.rel; simpa [List.append_assoc] using this
  cases r with
  | cons h r =>
    rename_i L0 L'
    obtain ⟨L1, L2, e1, r1, r2⟩ := SlRs.split e r
    subst e1
    have sl : (L0 ++ L2).Sublist (L0 ++ (L1 ++ L2)) := List.Sublist.append (List.Sublist.refl _) (List.sublist_append_right _ _)
    have sm : Sq (c.g H (L0 ++ (L1 ++ L2))) (c.g H (L0 ++ L2)) := g_mono fun a ha => sl.subset ha
    exact ⟨L0 ++ L2, b.nd.sublist sl, SlRs.cons (h.sm sm (fun _ _ _ e => e)) (r2.sm sm (fun _ _ _ e => e)), fun p hp => b.own p (sl.subset hp), b.fr, b.kp, by have := b.lt; simp at this ⊢; omega, b.hd⟩
theorem Bd.cutS {ys : St} (b : Bd c (σ ++ ys) H ρ τ θ) : Bd c σ H (ρ.take σ.length) τ θ := by
  have hl := b.lens
  rw [List.length_append] at hl
  obtain ⟨L, b⟩ := b
  have r : SlRs c.toKx (c.g H L) H ((τ ++ σ) ++ ys) ((θ ++ ρ.take σ.length) ++ ρ.drop σ.length) L := by
    have := b.rel
    rw [List.append_assoc, List.append_assoc, List.take_append_drop]; exact this
  obtain ⟨L1, L2, e1, r1, r2⟩ := SlRs.split (by simp [b.lt]; omega) r
  subst e1
  have sm : Sq (c.g H (L1 ++ L2)) (c.g H L1) := g_mono fun a ha => List.mem_append_left _ ha
  refine ⟨L1, (List.nodup_append.mp b.nd).1, r1.sm sm (fun _ _ _ e => e), fun p hp => b.own p (List.mem_append_left _ hp), b.fr, fun i o h => ?_, b.lt, b.hd⟩
  have hi : i < (ρ.take σ.length).length := (List.getElem?_eq_some_iff.mp h).1
  rw [List.length_take] at hi
  have h' : ρ[i]? = some (.pv o) := by rw [List.getElem?_take] at h; split at h; exact h; cases h
  have := b.kp i o h'
  rwa [List.getElem?_append_left (by omega)] at this
theorem Bd.addS {n : Nat} (b : Bd c σ H ρ τ θ) : Bd c (σ ++ List.replicate n none) H (ρ ++ List.replicate n .un) τ θ := by
  have hl := b.lens
  obtain ⟨L, b⟩ := b
  refine ⟨L, b.nd, ?_, b.own, b.fr, fun i o h => ?_, b.lt, b.hd⟩
  · have := b.rel.app (slRs_uns (k := c.toKx) (G := c.g H L) (H := H) n)
    simpa [List.append_assoc] using this
  · by_cases z : i < ρ.length
    · rw [List.getElem?_append_left z] at h
      rw [List.getElem?_append_left (by omega)]
      exact b.kp i o h
    · rw [List.getElem?_append_right (by omega)] at h
      have := List.eq_of_mem_replicate (List.mem_of_getElem? h)
      cases this
end
abbrev Mg := A → List Sl → Option (List Sl)
abbrev Mgs := List A → List Sl → Option (List Sl)
def TGm (K : Kx) (lo : Nat) (G : Mg) : TG := fun v σ H Q => ∃ (c : Cn) (ρ : List Sl) (τ : St) (θ : List Sl) (a : A) (ρ' : List Sl), c.toKx = K ∧ Bd c σ H ρ (some v :: τ) (.fr a :: θ) ∧ G a ρ = some ρ' ∧ ∀ σ' H', σ'.take lo = σ.take lo → σ'.length = σ.length → Bd c σ' H' ρ' τ θ → Q σ' H'
def TGsm (K : Kx) (lo : Nat) (G : Mgs) : TGs := fun vs σ H Q => ∃ (c : Cn) (ρ : List Sl) (τ : St) (θ : List Sl) (as : List A) (ρ' : List Sl), c.toKx = K ∧ vs.length = as.length ∧ Bd c σ H ρ (vs.map some ++ τ) (as.map Sl.fr ++ θ) ∧ G as ρ = some ρ' ∧ ∀ σ' H', σ'.take lo = σ.take lo → σ'.length = σ.length → Bd c σ' H' ρ' τ θ → Q σ' H'
structure JG (X : Cx) (lo : Nat) (tg : Expr) (G : Mg) : Prop where
  p : PG X tg (TGm (kx X) lo G)
structure JGs (X : Cx) (lo : Nat) (tg : List Expr) (G : Mgs) : Prop where
  p : PGs X tg (TGsm (kx X) lo G)
def gPut (i : Nat) : Mg := fun a ρ => put i (.fr a) ρ
def gsNil : Mgs := fun as ρ => match as with
  | [] => some ρ
  | _ => none
def gsCons (g : Mg) (gs : Mgs) : Mgs := fun as ρ => match as with
  | a :: as => match g a ρ with
    | some ρ1 => gs as ρ1
    | none => none
  | [] => none
def gTupM (n : Nat) (gs : Mgs) : Mg := fun a ρ => match a with
  | .tup as => if as.length = n then gs as ρ else none
  | _ => none
section
variable {X : Cx} {E : XK} {lo : Nat}
theorem jg_name {i : Nat} {x : Str} {pos : Pos} (hN : X.N.Nodup) (hi : X.N[i]? = some x) (hx : Loc X.env.scope x) (hl : lo ≤ i) (hf : X.fn x = true ∨ X.env.scope.names.lookup x = some .local := by first | exact .inl rfl | exact .inr rfl | assumption) : JG X lo (.Name x pos) (gPut i) := ⟨fun pins s σ H v u Q I r h => by
  refine pg_name hN hi hx hf pins s σ H v u Q I r ?_
  obtain ⟨c, ρ, τ, θ, a, ρ', ek, b, em, q⟩ := h
  exact q _ H (by rw [List.take_set_of_le hl]) (by simp) (Bd.put b (fun o z => by cases z) em)⟩
theorem jgs_nil : JGs X lo [] gsNil := ⟨fun pins s σ H v u Q I r h => by
  refine pgs_nil pins s σ H v u Q I r ?_
  obtain ⟨c, ρ, τ, θ, as, ρ', ek, hl, b, em, q⟩ := h
  cases as with
  | nil => cases em; cases v with | nil => exact ⟨rfl, q σ H rfl rfl b⟩ | cons _ _ => simp at hl
  | cons _ _ => cases em⟩
theorem jgs_cons {e : Expr} {es : List Expr} {g : Mg} {gs : Mgs} (h1 : JG X lo e g) (h2 : JGs X lo es gs) (hp : ∀ {t : TG} {u : TGs}, PG X e t → PGs X es u → PGs X (e :: es) (gCons t u)) : JGs X lo (e :: es) (gsCons g gs) := ⟨fun pins s σ H v u Q I r h => by
  refine hp h1.p h2.p pins s σ H v u Q I r ?_
  obtain ⟨c, ρ, τ, θ, as, ρ', ek, hl, b, em, q⟩ := h
  cases as with
  | nil => cases em
  | cons a as =>
    cases v with
    | nil => simp at hl
    | cons v vs =>
      unfold gsCons at em
      simp only at em
      cases e1 : g a ρ with
      | none => simp only [e1] at em; cases em
      | some ρ1 =>
        simp only [e1] at em
        refine ⟨v, vs, rfl, c, ρ, _, _, a, ρ1, ek, b, e1, fun σ' H' t1 l1 b1 => ⟨c, ρ1, τ, θ, as, ρ', ek, by simpa using hl, b1, em, fun σ2 H2 t2 l2 b2 => q σ2 H2 (t2.trans t1) (l2.trans l1) b2⟩⟩⟩
theorem jg_tup {es : List Expr} {k n : Nat} {gs : Mgs} {pos : Pos} (hc : X.calm = true) (h : JGs X lo es gs) (hn : (assignEach es X.env).length = n := by rfl) (hst : (assignEach es X.env).findIdx? (·.1) = none := by rfl) : JG X lo (.Tuple es k pos) (gTupM n gs) := ⟨fun pins s σ H v u Q I r h' => by
  refine pg_tup hc h.p hn hst pins s σ H v u Q I r ?_
  obtain ⟨c, ρ, τ, θ, a, ρ', ek, b, em, q⟩ := h'
  cases a <;> first | (cases em; done) | skip
  rename_i as
  unfold gTupM at em
  simp only at em
  split at em
  · rename_i hl
    obtain ⟨L, bl, i1⟩ := Bd.open (r := .fr (.tup as)) b trivial rfl
    obtain ⟨p, vs, rfl, s1, rr⟩ := i1.2.1 as rfl
    have : c.K = X.K := by have := congrArg Kx.K ek; exact this
    refine ⟨p, vs, rfl, by rw [← this]; exact sqT_sm (g_same _ _ _) s1, by rw [rr.len]; exact hl, c, ρ, τ, θ, as, ρ', ek, rr.len, ?_, em, q⟩
    obtain ⟨nd, rel, own, fr, kp, lt, hdd⟩ := bl
    exact ⟨L, nd, by have := (SlRs.frs (H := H) rr).app rel; simpa [List.append_assoc] using this, own, fr, kp, by simp [lt, rr.len], hdd⟩
  · cases em⟩
def ItOk (K : Kx) (J : It) (τi : St) (θi : List A) (as : List A) : Prop := ∀ (c : Cn) (σ : St) (H : Hp) (ρ : List Sl) (τx : St) (θx : List Sl) (τ : St) (θ : List Sl) (i : Nat), c.toKx = K → τx.length = θx.length → Bd c σ H ρ (τx ++ (τi ++ τ)) (θx ++ (θi.map Sl.fr ++ θ)) →
  (as.length ≤ i → J.stop i H) ∧ ∀ a, as[i]? = some a → J.go i H ∧ ∀ x H', J.yld i H x H' → Bd c σ H' ρ (some x :: (τx ++ (τi ++ τ))) (.fr a :: (θx ++ (θi.map Sl.fr ++ θ)))
def RetI (K : Kx) (E : XK) (c : Cn) (σ : St) (ρ : List Sl) (τ : St) (θ : List Sl) (R : It → Hp → Prop) : Except Str (List A) → Prop
  | .ok as => ∀ J H τi θi, τi.length = θi.length → ItOk K J τi θi as → Bd c σ H ρ (τi ++ τ) (θi.map Sl.fr ++ θ) → R J H
  | .error x => ∀ C H, K.mg x = some (.ref C) → Bd c σ H ρ τ θ → E (.ref C) none H
def TIm (K : Kx) (E : XK) (m : Mi (List A)) : TI := fun σ H R => ∃ (c : Cn) (ρ : List Sl) (τ : St) (θ : List Sl) (o : Except Str (List A)) (ρ' : List Sl), c.toKx = K ∧ Bd c σ H ρ τ θ ∧ m ρ = some (o, ρ') ∧ RetI K E c σ ρ' τ θ R o
structure JI (X : Cx) (E : XK) (tg iter : Expr) (m : Mi (List A)) : Prop where
  p : PI X tg iter (TIm (kx X) E m)
theorem retI_err {c : Cn} {σ : St} {ρ' : List Sl} {τ : St} {θ : List Sl} {o : Except Str (List A)} {R : It → Hp → Prop} (q : RetI (kx X) E c σ ρ' τ θ R o) : ∀ e, o = .error e → ∀ C H, X.mg e = some (.ref C) → Bd c σ H ρ' τ θ → E (.ref C) none H := fun e ee => by subst ee; exact q
def mSeq (m : Mi Rr) : Mi (List A) := mBind m fun r ρ => match frz1 r ρ with
  | some (a, ρ') => match seqA a with
    | some as => some (.ok as, ρ')
    | none => none
  | none => none
theorem Bd.mid {c : Cn} {σ : St} {H : Hp} {ρ : List Sl} {τ : St} {θ : List Sl} {xs : St} {ss : List Sl} {v : V} {a : A} (e : xs.length = ss.length) (b : Bd c σ H ρ (xs ++ (some v :: τ)) (ss ++ (.fr a :: θ))) : ∃ L, BdL c σ H ρ (xs ++ (some v :: τ)) (ss ++ (.fr a :: θ)) L ∧ RA c.toKx (c.g H L) v a := by
  obtain ⟨L, b⟩ := b
  have r : SlRs c.toKx (c.g H L) H (xs ++ (some v :: (τ ++ σ))) (ss ++ (.fr a :: (θ ++ ρ))) L := by have := b.rel; simpa [List.append_assoc] using this
  obtain ⟨L1, L2, e1, r1, r2⟩ := SlRs.split e r
  cases r2 with
  | cons h r3 => cases h with | fr h => exact ⟨L, b, h⟩
theorem ji_seq {tg l : Expr} {m : Mi Rr} (hl : JE X E l m) : JI X E tg l (mSeq m) := ⟨fun pins s σ H R I h => by
  refine pi_seq hl.p pins s σ H R I ?_
  obtain ⟨c, ρ, τ, θ, o, ρ', ek, b, em, q⟩ := h
  refine te_bind ek b em (fun x v ρ1 H1 hv b1 em1 => ?_) (retI_err q)
  cases e1 : frz1 x ρ1 with
  | none => simp only [e1] at em1; cases em1
  | some p =>
    obtain ⟨a, ρ2⟩ := p
    simp only [e1] at em1
    have b2 := Bd.frz1 (xs := []) (ss := []) rfl b1 hv e1
    cases e2 : seqA a with
    | none => simp only [e2] at em1; cases em1
    | some as =>
      simp only [e2] at em1
      cases em1
      have eK : c.K = X.K := congrArg Kx.K ek
      cases a <;> first | (cases e2; done) | skip
      · cases e2
        have rt := Bd.top b2 (a := .tup as) rfl
        cases rt with
        | tup e0 r0 =>
          rename_i p vs
          refine ⟨p, rfl, .inr ⟨⟨vs, by rw [← eK]; exact e0⟩, q _ H1 [some (.ref p)] [.tup as] rfl (fun c' σ' H' ρ' τx θx τ' θ' i ek' lx b' => ?_) b2⟩⟩
          have eK' : c'.K = X.K := congrArg Kx.K ek'
          obtain ⟨L, bl, h⟩ := Bd.mid lx b'
          cases h with
          | tup e3 r3 =>
            rename_i us
            have sq : SqT X.K H' p us := by rw [← eK']; exact sqT_sm (g_same _ _ _) e3
            refine ⟨fun hi => ⟨us, sq, by rw [r3.len]; exact hi⟩, fun a ha => ?_⟩
            obtain ⟨u, h1, h2⟩ := r3.ta ha
            refine ⟨⟨us, u, sq, h1⟩, fun x H2 y => ?_⟩
            obtain ⟨rfl, y⟩ := y
            have := y us sq
            rw [h1] at this; cases this
            exact bl.push h2
      · cases e2
        have rt := Bd.top b2 (a := .lst as) rfl
        cases rt with
        | lst e0 r0 =>
          rename_i p vs
          refine ⟨p, rfl, .inl ⟨⟨vs, by rw [← eK]; exact e0⟩, q _ H1 [some (.ref p)] [.lst as] rfl (fun c' σ' H' ρ' τx θx τ' θ' i ek' lx b' => ?_) b2⟩⟩
          have eK' : c'.K = X.K := congrArg Kx.K ek'
          obtain ⟨L, bl, h⟩ := Bd.mid lx b'
          cases h with
          | lst e3 r3 =>
            rename_i us
            have sq : SqL X.K H' p us := by rw [← eK']; exact sqL_sm (g_same _ _ _) e3
            refine ⟨fun hi => ⟨us, sq, by rw [r3.len]; exact hi⟩, fun a ha => ?_⟩
            obtain ⟨u, h1, h2⟩ := r3.ta ha
            refine ⟨⟨us, u, sq, h1⟩, fun x H2 y => ?_⟩
            obtain ⟨rfl, y⟩ := y
            have := y us sq
            rw [h1] at this; cases this
            exact bl.push h2⟩
def rngA (lo : Int) (n : Nat) : List A := (List.range n).map fun i => .int (lo + (i : Nat))
theorem rng_ok {K : Kx} {lo : Int} {n : Nat} : ItOk K (Itr lo n) [] [] (rngA lo n) := fun c σ H ρ τx θx τ θ i ek lx b => by
  have hl : (rngA lo n).length = n := by simp [rngA]
  refine ⟨fun h => by rw [hl] at h; exact h, fun a ha => ?_⟩
  have hi : i < n := by rw [← hl]; exact (List.getElem?_eq_some_iff.mp ha).1
  refine ⟨hi, fun x H' y => ?_⟩
  obtain ⟨rfl, rfl⟩ := y
  have : a = .int (lo + i) := by
    unfold rngA at ha
    rw [List.getElem?_map, List.getElem?_range hi] at ha
    exact (Option.some.inj ha).symm
  subst this
  exact b.push fun _ => .int _
def mRng1 (m : Mi Rr) : Mi (List A) := mBind m fun r ρ => match res ρ r with
  | some (.int j) => if -(2 ^ 60) ≤ j ∧ j < 2 ^ 60 then some (.ok (rngA 0 j.toNat), ρ) else none
  | _ => none
theorem ji_rng1 {tg a : Expr} {m : Mi Rr} {p pos : Pos} (hg : Gl X "range") (hm : X.mg "range" = none) (ha : JE X E a m) (hs : starEach [a] X.env = [(false, eval a X.env)] := by rfl) (hs' : starEach [a] X.env = (false, eval a X.env) :: starEach [] X.env := by rfl) : JI X E tg (.Call (.Name "range" p) [a] [] pos) (mRng1 m) := ⟨fun pins s σ H R I h => by
  refine pi_range1 hg hm (pa_cons ha.p pa_nil hs') hs pins s σ H R I ?_
  obtain ⟨c, ρ, τ, θ, o, ρ', ek, b, em, q⟩ := h
  refine te_bind ek b em (fun x v ρ1 H1 hv b1 em1 => ?_) (retI_err q)
  cases e1 : res ρ1 x with
  | none => simp only [e1] at em1; cases em1
  | some a =>
    have r1 := Bd.rd b1 hv e1
    simp only [e1] at em1
    cases a <;> first | (cases em1; done) | skip
    rename_i j
    simp only at em1
    split at em1
    · rename_i hj
      cases em1
      cases r1
      exact ⟨j, rfl, by omega, by omega, q _ H1 [] [] rfl rng_ok b1.drop⟩
    · cases em1⟩
def forL (G : Mg) (b : Ms) : List A → Ms
  | [], ρ => some (.nx, ρ)
  | a :: as, ρ => match G a ρ with
    | none => none
    | some ρ1 => match b ρ1 with
      | some (.nx, ρ2) => forL G b as ρ2
      | some (.ct, ρ2) => forL G b as ρ2
      | some (.bk, ρ2) => some (.nx, ρ2)
      | r => r
def sFor (m : Mi (List A)) (G : Mg) (b : Ms) : Ms := sBind m fun as ρ => forL G b as ρ
theorem js_for {tg iter : Expr} {body : List Stmt} {m : Mi (List A)} {G : Mg} {mb : Ms} {pos : Pos} (hp : PassesOwn (model X.prog X.w) X.A X.env X.xe) (hc : X.calm = true) (hi : JI X E tg iter m) (hg : JG X 0 tg G) (hb : JSs X E body mb)
    (hs : ∀ x, foldedSetIterable iter X.env x = pure x := by intro _; rfl) : JS X E (.For tg iter body [] pos) (sFor m G mb) := ⟨PS.weaken (ps_for hp hc hi.p hg.p hb.p hs) fun D σ H h => by
  obtain ⟨c, ρ, τ, θ, f, ρ', ek, b, em, q⟩ := h
  rcases sbind_some em with ⟨as, ρ1, e1, e2⟩ | ⟨e, e1, e2⟩
  · refine ⟨c, ρ, τ, _, _, ρ1, ek, b, e1, fun J H1 τi θi li it b1 => ?_⟩
    refine ⟨fun i m σ' H' => m = as.length - i ∧ i ≤ as.length ∧ ∃ ρi, Bd c σ' H' ρi (τi ++ τ) (θi.map Sl.fr ++ θ.map Sl.fr) ∧ forL G mb (as.drop i) ρi = some (f, ρ'), ⟨_, rfl, Nat.zero_le _, ρ1, b1, by simpa using e2⟩, ?_⟩
    rintro i m σ' H' ⟨rfl, hi, ρi, bi, ei⟩
    obtain ⟨i1, i2⟩ := it c σ' H' ρi [] [] τ (θ.map Sl.fr) i ek rfl bi
    by_cases hlt : i < as.length
    · have hd : as.drop i = as[i] :: as.drop (i + 1) := List.drop_eq_getElem_cons hlt
      rw [hd] at ei
      obtain ⟨go, yl⟩ := i2 as[i] (by simp [hlt])
      refine .inr ⟨go, fun σ2 H2 => ∃ ρ2, Bd c σ2 H2 ρ2 (τi ++ τ) (θi.map Sl.fr ++ θ.map Sl.fr) ∧ forL G mb (as.drop (i + 1)) ρ2 = some (f, ρ'), fun σ2 H2 ⟨ρ2, q1, q2⟩ => ⟨as.length - (i + 1), by omega, rfl, hlt, ρ2, q1, q2⟩, fun x H2 y => ?_⟩
      have b2 := yl x H2 y
      unfold forL at ei
      cases eg : G as[i] ρi with
      | none => simp only [eg] at ei; cases ei
      | some ρ2 =>
        simp only [eg] at ei
        refine ⟨c, ρi, _, _, as[i], ρ2, ek, b2, eg, fun σ3 H3 _ _ b3 => ?_⟩
        cases eb : mb ρ2 with
        | none => simp only [eb] at ei; cases ei
        | some p =>
          obtain ⟨f1, ρ3⟩ := p
          simp only [eb] at ei
          refine ⟨c, ρ2, τi ++ τ, θi ++ θ, f1, ρ3, ek, by rw [List.map_append]; exact b3, eb, ?_⟩
          cases f1 with
          | nx => intro σ4 H4 b4; rw [List.map_append] at b4; exact ⟨ρ3, b4, ei⟩
          | ct => intro σ4 H4 b4; rw [List.map_append] at b4; exact ⟨ρ3, b4, ei⟩
          | bk => cases ei; intro σ4 H4 b4; rw [List.map_append] at b4; exact q σ4 H4 (Bd.pops (by simp [li]) b4)
          | rt s => cases ei; intro v σ4 H4 hs b4; rw [List.map_append] at b4; exact q v σ4 H4 hs (Bd.popMid (by simp [li]) b4)
          | ex x => cases ei; intro C σ4 H4 hm b4; rw [List.map_append] at b4; exact q C σ4 H4 hm (Bd.pops (by simp [li]) b4)
    · have e : i = as.length := by omega
      subst e
      rw [List.drop_length] at ei
      cases ei
      exact .inl ⟨i1 (Nat.le_refl _), q σ' H' (Bd.pops (by simp [li]) bi)⟩
  · subst e2
    exact ⟨c, ρ, τ, _, _, ρ', ek, b, e1, fun C H1 hm b1 => q C σ H1 hm b1⟩⟩
def whileL (t : Mi Bool) (b : Ms) : Nat → Ms
  | 0, _ => none
  | n + 1, ρ => match t ρ with
    | some (.ok true, ρ1) => match b ρ1 with
      | some (.nx, ρ2) => whileL t b n ρ2
      | some (.ct, ρ2) => whileL t b n ρ2
      | some (.bk, ρ2) => some (.nx, ρ2)
      | r => r
    | some (.ok false, ρ1) => some (.nx, ρ1)
    | some (.error e, ρ1) => some (.ex e, ρ1)
    | none => none
def sWhile (n : Nat) (t : Mi Bool) (b : Ms) : Ms := whileL t b n
theorem js_while {n : Nat} {t : Expr} {body : List Stmt} {mt : Mi Bool} {mb : Ms} {pos : Pos} (hp : PassesOwn (model X.prog X.w) X.A X.env X.xe) (ht : JT X E t mt) (hb : JSs X E body mb) : JS X E (.While t body [] pos) (sWhile n mt mb) := ⟨PS.weaken (ps_while hp ht.p hb.p) fun D σ H h => by
  obtain ⟨c, ρ, τ, θ, f, ρ', ek, b, em, q⟩ := h
  refine ⟨fun m σ' H' => ∃ ρi, Bd c σ' H' ρi τ (θ.map Sl.fr) ∧ whileL mt mb m ρi = some (f, ρ'), ⟨n, ρ, b, em⟩, ?_⟩
  rintro m σ' H' ⟨ρi, bi, ei⟩
  cases m with
  | zero => cases ei
  | succ m =>
    unfold whileL at ei
    cases et : mt ρi with
    | none => simp only [et] at ei; cases ei
    | some p =>
      obtain ⟨o, ρ1⟩ := p
      refine ⟨c, ρi, τ, _, o, ρ1, ek, bi, et, ?_⟩
      cases o with
      | error e => simp only [et] at ei; cases ei; exact fun C H1 hm b1 => q C σ' H1 hm b1
      | ok k =>
        intro H1 b1
        cases k with
        | false => simp only [et] at ei; cases ei; rw [if_neg (by decide)]; exact q σ' H1 b1
        | true =>
          simp only [et] at ei
          rw [if_pos rfl]
          refine ⟨fun σ2 H2 => ∃ ρ2, Bd c σ2 H2 ρ2 τ (θ.map Sl.fr) ∧ whileL mt mb m ρ2 = some (f, ρ'), fun σ2 H2 w => ⟨m, Nat.lt_succ_self _, w⟩, ?_⟩
          cases eb : mb ρ1 with
          | none => simp only [eb] at ei; cases ei
          | some p =>
            obtain ⟨f1, ρ3⟩ := p
            simp only [eb] at ei
            refine ⟨c, ρ1, τ, θ, f1, ρ3, ek, b1, eb, ?_⟩
            cases f1 with
            | nx => exact fun σ4 H4 b4 => ⟨ρ3, b4, ei⟩
            | ct => exact fun σ4 H4 b4 => ⟨ρ3, b4, ei⟩
            | bk => cases ei; exact fun σ4 H4 b4 => q σ4 H4 b4
            | rt s => cases ei; exact fun v σ4 H4 hs b4 => q v σ4 H4 hs b4
            | ex x => cases ei; exact fun C σ4 H4 hm b4 => q C σ4 H4 hm b4⟩
end
end M
namespace M
open PySem L2
theorem ext_split (r : Rr) (v : V) (t : St) (u : List Sl) : extV r v t = extV r v [] ++ t ∧ extS r u = extS r [] ++ u ∧ (extV r v []).length = (extS r []).length := by cases r <;> exact ⟨rfl, rfl, rfl⟩
theorem line5' : 100000 < sizeLine := by rw [sizeLine_eq]; decide
def compL (G : Mg) (t : Mi Bool) (e : Mi Rr) : List A → List A → List Sl → Option (List A × List Sl)
  | [], acc, ρ => some (acc, ρ)
  | a :: as, acc, ρ => match G a ρ with
    | none => none
    | some ρ1 => match t ρ1 with
      | some (.ok true, ρ2) => match e ρ2 with
        | some (.ok r, ρ3) => match frz1 r ρ3 with
          | some (d, ρ4) => compL G t e as (acc ++ [d]) ρ4
          | none => none
        | _ => none
      | some (.ok false, ρ2) => compL G t e as acc ρ2
      | _ => none
def mTrue : Mi Bool := mPure true
def mComp (n : Nat) (mi : Mi (List A)) (G : Mg) (t : Mi Bool) (e : Mi Rr) : Mi Rr := mBind mi fun as ρ => if as.length ≤ 100000 then match compL G t e as [] (ρ ++ List.replicate n .un) with
  | some (ys, ρ') => some (.ok (.nw (.lst ys)), ρ'.take ρ.length)
  | none => none else none
structure JF (X : Cx) (E : XK) (ifs : List Expr) (m : Mi Bool) : Prop where
  p : PF X ifs (TTm (kx X) E m)
section
variable {X : Cx} {E : XK}
theorem jf_nil : JF X E [] mTrue := ⟨fun pins s σ H Q I h => by
  refine pf_nil pins s σ H Q I ?_
  obtain ⟨c, ρ, τ, θ, o, ρ', ek, b, em, q⟩ := h
  cases em; exact q H b⟩
theorem jf_one {t : Expr} {m : Mi Bool} (h : JT X E t m) : JF X E [t] m := ⟨pf_one h.p⟩
abbrev E00 : XK := fun _ _ _ => False
theorem comp_weak {n : Nat} {mi : Mi (List A)} {G : Mg} {mt : Mi Bool} {me : Mi Rr} {lo : Nat} (σ : St) (H : Hp) (Q : VK) (hlo : σ.length = lo) (h : TEm (kx X) E (mComp n mi G mt me) σ H Q) :
    tComp n (TIm (kx X) E mi) (TGm (kx X) lo G) (TTm (kx X) E00 mt) (TEm (kx X) E00 me) σ H Q := by
  obtain ⟨c, ρ, τ, θ, o, ρ', ek, b, em, q⟩ := h
  rcases bind_some em with ⟨as, ρ1, e1, e2⟩ | ⟨e, e1, e2⟩
  · refine ⟨c, ρ, τ, θ, _, ρ1, ek, b, e1, fun J H1 τi θi li it b1 => ?_⟩
    split at e2
    · rename_i h100
      cases ec : compL G mt me as [] (ρ1 ++ List.replicate n .un) with
      | none => simp only [ec] at e2; cases e2
      | some p =>
        obtain ⟨ys, ρ2⟩ := p
        simp only [ec] at e2
        cases e2
        have hlen : σ.length = ρ1.length := b1.lens
        refine ⟨fun i m σ' vs H' => m = as.length - i ∧ i ≤ as.length ∧ σ'.take lo = σ ∧ ∃ ρi acc, vs.length = acc.length ∧ acc.length ≤ i ∧ Bd c σ' H' ρi (vs.reverse.map some ++ (τi ++ τ)) (acc.reverse.map Sl.fr ++ (θi.map Sl.fr ++ θ)) ∧ compL G mt me (as.drop i) acc ρi = some (ys, ρ2),
          ⟨_, rfl, Nat.zero_le _, by rw [← hlo, List.take_left], _, [], rfl, Nat.zero_le _, b1.addS, by simpa using ec⟩, ?_⟩
        rintro i m σ' vs H' ⟨rfl, hi, htk, ρi, acc, lv, la, bi, ei⟩
        refine ⟨by have := line5; omega, ?_⟩
        obtain ⟨i1, i2⟩ := it c σ' H' ρi (vs.reverse.map some) (acc.reverse.map Sl.fr) τ θ i ek (by simp [lv]) bi
        by_cases hlt : i < as.length
        · have hd : as.drop i = as[i] :: as.drop (i + 1) := List.drop_eq_getElem_cons hlt
          rw [hd] at ei
          obtain ⟨go, yl⟩ := i2 as[i] (by simp [hlt])
          refine .inr ⟨go, fun σ2 vs2 H2 => σ2.take lo = σ ∧ ∃ ρ3 acc2, vs2.length = acc2.length ∧ acc2.length ≤ i + 1 ∧ Bd c σ2 H2 ρ3 (vs2.reverse.map some ++ (τi ++ τ)) (acc2.reverse.map Sl.fr ++ (θi.map Sl.fr ++ θ)) ∧ compL G mt me (as.drop (i + 1)) acc2 ρ3 = some (ys, ρ2),
            fun σ2 vs2 H2 ⟨q0, ρ3, acc2, q1, q2, q3, q4⟩ => ⟨as.length - (i + 1), by omega, rfl, hlt, q0, ρ3, acc2, q1, q2, q3, q4⟩, fun x H2 y => ?_⟩
          have b2 := yl x H2 y
          unfold compL at ei
          cases eg : G as[i] ρi with
          | none => simp only [eg] at ei; cases ei
          | some ρ3 =>
            simp only [eg] at ei
            refine ⟨c, ρi, _, _, as[i], ρ3, ek, b2, eg, fun σ3 H3 t3 l3 b3 => ?_⟩
            cases et : mt ρ3 with
            | none => simp only [et] at ei; cases ei
            | some p =>
              obtain ⟨ot, ρ4⟩ := p
              cases ot with
              | error e => simp only [et] at ei; cases ei
              | ok k =>
                refine ⟨c, ρ3, _, _, .ok k, ρ4, ek, b3, et, fun H4 b4 => ?_⟩
                cases k with
                | false =>
                  simp only [et] at ei
                  rw [if_neg (by decide)]
                  exact ⟨t3.trans htk, ρ4, acc, lv, by omega, b4, ei⟩
                | true =>
                  simp only [et] at ei
                  rw [if_pos rfl]
                  cases ee : me ρ4 with
                  | none => simp only [ee] at ei; cases ei
                  | some p =>
                    obtain ⟨oe, ρ5⟩ := p
                    cases oe with
                    | error e => simp only [ee] at ei; cases ei
                    | ok r =>
                      simp only [ee] at ei
                      refine ⟨c, ρ4, _, _, .ok r, ρ5, ek, b4, ee, fun v H5 hv b5 => ?_⟩
                      cases ef : frz1 r ρ5 with
                      | none => simp only [ef] at ei; cases ei
                      | some p =>
                        obtain ⟨d, ρ6⟩ := p
                        simp only [ef] at ei
                        have b6 := Bd.frz1 (xs := []) (ss := []) rfl b5 hv ef
                        exact ⟨t3.trans htk, ρ6, acc ++ [d], by simp [lv], by simp; omega, by simpa using b6, ei⟩
        · have e : i = as.length := by omega
          subst e
          rw [List.drop_length] at ei
          cases ei
          refine .inl ⟨i1 (Nat.le_refl _), fun p hp => ?_⟩
          have b7 := Bd.newLst bi (by simp [lv]) hp vs ys rev_ra
          have b8 := Bd.popMid (by simp [li]) b7
          have es : σ' = σ ++ σ'.drop lo := by rw [← htk]; exact (List.take_append_drop _ _).symm
          rw [es] at b8
          have b9 := b8.cutS
          rw [hlen] at b9
          exact q _ _ trivial b9
    · cases e2
  · subst e2
    exact ⟨c, ρ, τ, θ, _, ρ', ek, b, e1, fun C H1 hm b1 => q C H1 hm b1⟩
theorem je_comp {N : List Str} {k : Nat} {sc : Scope} {tg elt iter : Expr} {ifs : List Expr} {pos : Pos} {mi : Mi (List A)} {G : Mg} {mt : Mi Bool} {me : Mi Rr} {lo : Nat} (hc : X.calm = true) (S : CompSc X.N N k sc X.env.scope) (hlo : X.N.length = lo) (hi : JI X E tg iter mi)
    (hg : ∀ cl C s H fp, JG (cxC X N sc cl C s H fp) lo tg G) (ht : ∀ cl C s H fp, JF (cxC X N sc cl C s H fp) E00 ifs mt) (he : ∀ cl C s H fp, JE (cxC X N sc cl C s H fp) E00 elt me) (hs : ∀ x, foldedSetIterable iter X.env x = pure x := by intro _; rfl) :
    JE X E (.ListComp elt [⟨tg, iter, ifs, 0⟩] sc pos) (mComp k mi G mt me) :=
  ⟨fun pins s σ H Q I h => pe_comp hc S hi.p (fun cl C s H fp => (hg cl C s H fp).p) (fun cl C s H fp => (ht cl C s H fp).p) (fun cl C s H fp => (he cl C s H fp).p) hs pins s σ H Q I (comp_weak σ H Q (I.len.trans hlo) h)⟩
theorem js_comp {i : Nat} {x : Str} {px spos : Pos} {N : List Str} {k : Nat} {sc : Scope} {tg elt iter : Expr} {ifs : List Expr} {pos : Pos} {mi : Mi (List A)} {G : Mg} {mt : Mi Bool} {me : Mi Rr} {lo : Nat} (hc : X.calm = true) (S : CompSc X.N N k sc X.env.scope) (hlo : X.N.length = lo) (hN : X.N.Nodup) (hx : X.N[i]? = some x)
    (hl : X.env.scope.names.lookup x = some .local) (hsw : swapsWith (.ListComp elt [⟨tg, iter, ifs, 0⟩] sc pos) (some (.Name x px)) spos.line X.env = pure true) (hi : JI X E tg iter mi)
    (hg : ∀ cl C s H fp, JG (cxC X N sc cl C s H fp) lo tg G) (ht : ∀ cl C s H fp, JF (cxC X N sc cl C s H fp) E00 ifs mt) (he : ∀ cl C s H fp, JE (cxC X N sc cl C s H fp) E00 elt me) (hs : ∀ x, foldedSetIterable iter X.env x = pure x := by intro _; rfl) :
    JS X E (.Assign [.Name x px] (.ListComp elt [⟨tg, iter, ifs, 0⟩] sc pos) spos) (sSet i (mComp k mi G mt me)) :=
  ⟨fun pins s σ H D I h => ps_comp hc S hN hx hl hsw hi.p (fun cl C s H fp => (hg cl C s H fp).p) (fun cl C s H fp => (ht cl C s H fp).p) (fun cl C s H fp => (he cl C s H fp).p) hs pins s σ H D I (by
    obtain ⟨c, ρ, τ, θ, f, ρ', ek, b, em, q⟩ := h
    refine comp_weak (E := E) σ H _ (I.len.trans hlo) (se_bind ek b em q fun r v ρ1 H1 hv b1 em1 => ?_)
    cases e1 : stT r ρ1 with
    | none => simp only [e1] at em1; cases em1
    | some p =>
      obtain ⟨t, ρ2⟩ := p
      simp only [e1] at em1
      obtain ⟨b2, ht⟩ := Bd.stT hv b1 e1
      cases e2 : put i t ρ2 with
      | none => simp only [e2] at em1; cases em1
      | some ρ3 =>
        simp only [e2] at em1; cases em1
        exact q _ H1 (Bd.put b2 ht e2))⟩
def liveAt (ρ : List Sl) (i : Nat) : Option LO := match ρ[i]? with
  | some (.lv o) => some o
  | some (.pv o) => some o
  | _ => none
def setAt (ρ : List Sl) (i : Nat) (o : LO) : List Sl := match ρ[i]? with
  | some (.pv _) => ρ.set i (.pv o)
  | _ => ρ.set i (.lv o)
theorem BdL.live {c : Cn} {σ : St} {H : Hp} {ρ : List Sl} {τ : St} {θ : List Sl} {L : List Addr} {i : Nat} {o : LO} (b : BdL c σ H ρ τ θ L) (h : liveAt ρ i = some o) (o' : LO) (u : HO) :
    ∃ p, σ[i]? = some (some (.ref p)) ∧ LR c.toKx (c.g H L) H p o ∧ ((∀ H', H' p = some u → LR c.toKx (c.g H L) H' p o') → Bd c σ (upd H p u) (setAt ρ i o') τ θ) := by
  unfold liveAt at h
  unfold setAt
  cases es : ρ[i]? with
  | none => simp only [es] at h; cases h
  | some s =>
    cases s with
    | un => simp only [es] at h; cases h
    | fr a => simp only [es] at h; cases h
    | lv o1 => simp only [es] at h; cases h; exact b.change es (.inl ⟨rfl, rfl⟩)
    | pv o1 => simp only [es] at h; cases h; exact b.change es (.inr ⟨rfl, rfl⟩)
theorem Bd.top1 {c : Cn} {σ : St} {H : Hp} {ρ : List Sl} {τ : St} {θ : List Sl} {v : V} {a : A} (b : Bd c σ H ρ (some v :: τ) (.fr a :: θ)) : ∃ L, BdL c σ H ρ τ θ L ∧ RA c.toKx (c.g H L) v a := by
  obtain ⟨L, bl, r⟩ := Bd.frs (vs := [v]) (as := [a]) b rfl
  cases r with | cons h _ => exact ⟨L, bl, h⟩
def mAppend (i : Nat) (m : Mi Rr) : Mi Rr := mBind m fun r ρ => match frz1 r ρ with
  | some (a, ρ1) => match liveAt ρ1 i with
    | some (.lst xs) => if xs.length ≤ 100000 then some (.ok (.fr .non), setAt ρ1 i (.lst (xs ++ [a]))) else none
    | _ => none
  | none => none
theorem slot_isl {c : Cn} {σ : St} {H : Hp} {ρ : List Sl} {τ : St} {θ : List Sl} {i : Nat} {xs : List A} (b : Bd c σ H ρ τ θ) (h : liveAt ρ i = some (.lst xs)) : ∃ p vs, σ[i]? = some (some (.ref p)) ∧ H p = some (.lst vs) := by
  obtain ⟨L, b⟩ := b
  obtain ⟨p, h1, h2, _⟩ := b.live h (.lst xs) (.lst [])
  cases h2 with | lst e r => exact ⟨p, _, h1, e⟩
def isL (ρ : List Sl) (i : Nat) : Bool := match liveAt ρ i with
  | some (.lst _) => true
  | _ => false
def mOnL (i : Nat) (m : Mi Rr) : Mi Rr := fun ρ => if isL ρ i then m ρ else none
theorem isL_some {ρ : List Sl} {i : Nat} (h : isL ρ i = true) : ∃ xs, liveAt ρ i = some (.lst xs) := by
  unfold isL at h
  cases e : liveAt ρ i with
  | none => rw [e] at h; cases h
  | some o => cases o with
    | lst xs => exact ⟨xs, rfl⟩
    | dic _ => rw [e] at h; cases h
theorem je_append {i : Nat} {x : Str} {px apos cpos : Pos} {e : Expr} {m : Mi Rr} (hN : X.N[i]? = some x) (hv : Vis X.env.scope x) (hd : (x == ("__debug__" : Str)) = false) (hcd : (x == ("__classdict__" : Str)) = false) (he : JE X E e m)
    (hbase : attributeBase (.Name x px) "append" X.env (eval (.Name x px) X.env) = eval (.Name x px) X.env := by rfl)
    (hfew : ((backTo cpos (starEach [e] X.env)).all (fun x => !x.1) && (backToKw cpos (keywordEach [] X.env)).all (fun x => x.1.isSome) && decide (([e] : List Expr).length + ([] : List Keyword).length + (if ([] : List Keyword).isEmpty then 0 else 1) < 30)) = true := by rfl)
    (hline : (apos.endLine == cpos.line) = true := by rfl) (hs : starEach [e] X.env = (false, eval e X.env) :: starEach [] X.env := by rfl) (hplain : (backTo cpos (starEach [] X.env)).any (·.1) = false := by rfl) :
    JE X E (.Call (.Attribute (.Name x px) "append" apos) [e] [] cpos) (mOnL i (mAppend i m)) :=
  ⟨PE.weaken (pe_bm PySem.F.plainAttrs_list PySem.F.slot_list_append PySem.F.type_list_append mt_append (pe_var hN hv hd hcd) (pa_cons he.p pa_nil hs) hbase hfew hline hs hplain) fun σ H Q h => by
    obtain ⟨c, ρ, τ, θ, o, ρ', ek, b, em, q⟩ := h
    unfold mOnL at em
    split at em
    · rename_i hl
      obtain ⟨xs0, hl⟩ := isL_some hl
      obtain ⟨p, vs, hp, hH⟩ := slot_isl b hl
      refine ⟨_, hp, .inl ⟨rfl, vs, .inl (.inl hH)⟩, ?_⟩
      refine te_bind ek b em (fun r v ρ1 H1 hv b1 em1 => ?_) (ret_err q)
      cases e1 : frz1 r ρ1 with
      | none => simp only [e1] at em1; cases em1
      | some pr =>
        obtain ⟨a, ρ2⟩ := pr
        simp only [e1] at em1
        have b2 := Bd.frz1 (xs := []) (ss := []) rfl b1 hv e1
        cases e2 : liveAt ρ2 i with
        | none => simp only [e2] at em1; cases em1
        | some lo =>
          cases lo with
          | dic _ => simp only [e2] at em1; cases em1
          | lst xs =>
            simp only [e2] at em1
            split at em1
            · rename_i hx
              cases em1
              obtain ⟨L, bl, ra⟩ := Bd.top1 b2
              obtain ⟨p', h1, h2, h3⟩ := bl.live e2 (.lst (xs ++ [a])) (.lst ((match H1 p with | some (.lst ws) => ws | _ => []) ++ [v]))
              rw [hp] at h1; cases h1
              cases h2 with
              | lst e rr =>
                rename_i ws
                simp only [e] at h3
                refine ⟨p, ws, v, rfl, rfl, e, by have := rr.len; have := line5'; omega, q _ _ trivial (Bd.push (h3 fun H' hh => .lst hh (rr.snoc ra)) fun _ => .non)⟩
            · cases em1
    · cases em⟩
def sSetIx (i : Nat) (mk m : Mi Rr) : Ms := sBind m fun r ρ0 => if isL ρ0 i then sBind mk (fun rk => fun ρ => match frz1 r ρ with
  | some (a, ρ1) => match res ρ1 rk, liveAt ρ1 i with
    | some (.int k), some (.lst xs) => match ixN xs.length k with
      | some j => some (.nx, setAt ρ1 i (.lst (xs.set j a)))
      | none => none
    | _, _ => none
  | none => none) ρ0 else none
theorem js_setIx {i : Nat} {x : Str} {px p1 pos : Pos} {ek e : Expr} {mk m : Mi Rr} (hN : X.N[i]? = some x) (hv : Vis X.env.scope x) (hd : (x == ("__debug__" : Str)) = false) (hcd : (x == ("__classdict__" : Str)) = false) (hk : JE X E ek mk) (he : JE X E e m)
    (hp : ∀ {to ti te : TE}, PE X (.Name x px) to → PE X ek ti → PE X e te → PS X (.Assign [.Subscript (.Name x px) ek p1] e pos) (tAsg te (gSub to ti rSetL))) : JS X E (.Assign [.Subscript (.Name x px) ek p1] e pos) (sSetIx i mk m) :=
  ⟨PS.weaken (hp (pe_var hN hv hd hcd) hk.p he.p) fun D σ H h => by
    obtain ⟨c, ρ, τ, θ, f, ρ', ek, b, em, q⟩ := h
    refine se_bind ek b em q fun r v ρ1 H1 hv b1 em1 => ?_
    split at em1
    · rename_i hl
      obtain ⟨xs0, hl⟩ := isL_some hl
      obtain ⟨p, vs, hp, hH⟩ := slot_isl b1 hl
      refine ⟨_, hp, ?_⟩
      rcases sbind_some em1 with ⟨rk, ρ2, e1, e2⟩ | ⟨ee, e1, e2⟩
      · refine ⟨c, ρ1, _, _, _, ρ2, ek, b1, e1, fun w H2 hw b2 => ?_⟩
        cases ef : frz1 r ρ2 with
        | none => simp only [ef] at e2; cases e2
        | some pr =>
          obtain ⟨a, ρ3⟩ := pr
          simp only [ef] at e2
          have b3 : Bd c σ H2 ρ3 (extV rk w (some v :: τ)) (extS rk (.fr a :: θ.map Sl.fr)) := by
            obtain ⟨g1, g2, g3⟩ := ext_split rk w (extV r v τ) (extS r (θ.map Sl.fr))
            obtain ⟨g4, g5, _⟩ := ext_split rk w (some v :: τ) (.fr a :: θ.map Sl.fr)
            rw [g4, g5]
            rw [g1, g2] at b2
            exact Bd.frz1 g3 b2 hv ef
          cases er : res ρ3 rk with
          | none => simp only [er] at e2; cases e2
          | some ak =>
            cases ak <;> first | (simp only [er] at e2; cases e2; done) | skip
            rename_i k
            have rk' := Bd.rd b3 hw er
            cases rk'
            cases el : liveAt ρ3 i with
            | none => simp only [er, el] at e2; cases e2
            | some lo =>
              cases lo with
              | dic _ => simp only [er, el] at e2; cases e2
              | lst xs =>
                simp only [er, el] at e2
                cases ej : ixN xs.length k with
                | none => simp only [ej] at e2; cases e2
                | some j =>
                  simp only [ej] at e2; cases e2
                  obtain ⟨L, bl, ra⟩ := Bd.top1 b3.drop
                  obtain ⟨p', h1, h2, h3⟩ := bl.live el (.lst (xs.set j a)) (.lst ((match H2 p with | some (.lst ws) => ws | _ => []).set j v))
                  rw [hp] at h1; cases h1
                  cases h2 with
                  | lst e rr =>
                    rename_i ws
                    simp only [e] at h3
                    exact ⟨p, ws, k, j, rfl, rfl, e, by rw [rr.len]; exact ej, q σ _ (h3 fun H' hh => .lst hh (rr.set ra j))⟩
      · subst e2
        exact ⟨c, ρ1, _, _, _, ρ', ek, b1, e1, fun C H2 hm b2 => q C σ H2 hm b2.drop⟩
    · cases em1⟩
def isDi (ρ : List Sl) (i : Nat) : Bool := match liveAt ρ i with
  | some (.dic _) => true
  | _ => false
theorem isDi_some {ρ : List Sl} {i : Nat} (h : isDi ρ i = true) : ∃ xs, liveAt ρ i = some (.dic xs) := by
  unfold isDi at h
  cases e : liveAt ρ i with
  | none => rw [e] at h; cases h
  | some o => cases o with
    | dic xs => exact ⟨xs, rfl⟩
    | lst _ => rw [e] at h; cases h
theorem slot_isd {c : Cn} {σ : St} {H : Hp} {ρ : List Sl} {τ : St} {θ : List Sl} {i : Nat} {xs : List (Key × A)} (b : Bd c σ H ρ τ θ) (h : liveAt ρ i = some (.dic xs)) : ∃ p vs, σ[i]? = some (some (.ref p)) ∧ H p = some (.dK vs) := by
  obtain ⟨L, b⟩ := b
  obtain ⟨p, h1, h2, _⟩ := b.live h (.dic xs) (.lst [])
  cases h2 with | dic e r => exact ⟨p, _, h1, e⟩
def sSetD (i : Nat) (mk m : Mi Rr) : Ms := sBind m fun r ρ0 => if isDi ρ0 i then sBind mk (fun rk => fun ρ => match frz1 r ρ with
  | some (a, ρ1) => match res ρ1 rk, liveAt ρ1 i with
    | some ka, some (.dic kvs) => match keyA ka with
      | some y => if kvs.length ≤ 100000 then some (.nx, setAt ρ1 i (.dic (putA kvs y a))) else none
      | none => none
    | _, _ => none
  | none => none) ρ0 else none
theorem js_setD {i : Nat} {x : Str} {px p1 pos : Pos} {ek e : Expr} {mk m : Mi Rr} (hu : X.A.units + 1 < cLine) (hN : X.N[i]? = some x) (hv : Vis X.env.scope x) (hd : (x == ("__debug__" : Str)) = false) (hcd : (x == ("__classdict__" : Str)) = false) (hk : JE X E ek mk) (he : JE X E e m)
    (hs : swapsWith e (some (.Subscript (.Name x px) ek p1)) pos.line X.env = pure false := by rfl) : JS X E (.Assign [.Subscript (.Name x px) ek p1] e pos) (sSetD i mk m) :=
  ⟨PS.weaken (ps_dput hu (pe_var hN hv hd hcd) hk.p he.p hs) fun D σ H h => by
    obtain ⟨c, ρ, τ, θ, f, ρ', ek, b, em, q⟩ := h
    refine se_bind ek b em q fun r v ρ1 H1 hv b1 em1 => ?_
    split at em1
    · rename_i hl
      obtain ⟨xs0, hl⟩ := isDi_some hl
      obtain ⟨p, vs, hp, hH⟩ := slot_isd b1 hl
      refine ⟨_, hp, ?_⟩
      rcases sbind_some em1 with ⟨rk, ρ2, e1, e2⟩ | ⟨ee, e1, e2⟩
      · refine ⟨c, ρ1, _, _, _, ρ2, ek, b1, e1, fun w H2 hw b2 => ?_⟩
        cases ef : frz1 r ρ2 with
        | none => simp only [ef] at e2; cases e2
        | some pr =>
          obtain ⟨a, ρ3⟩ := pr
          simp only [ef] at e2
          have b3 : Bd c σ H2 ρ3 (extV rk w (some v :: τ)) (extS rk (.fr a :: θ.map Sl.fr)) := by
            obtain ⟨g1, g2, g3⟩ := ext_split rk w (extV r v τ) (extS r (θ.map Sl.fr))
            obtain ⟨g4, g5, _⟩ := ext_split rk w (some v :: τ) (.fr a :: θ.map Sl.fr)
            rw [g4, g5]
            rw [g1, g2] at b2
            exact Bd.frz1 g3 b2 hv ef
          cases er : res ρ3 rk with
          | none => simp only [er] at e2; cases e2
          | some ka =>
            have rk' := Bd.rd b3 hw er
            cases el : liveAt ρ3 i with
            | none => simp only [er, el] at e2; cases e2
            | some lo =>
              cases lo with
              | lst _ => simp only [er, el] at e2; cases e2
              | dic kvs =>
                simp only [er, el] at e2
                cases ej : keyA ka with
                | none => simp only [ej] at e2; cases e2
                | some y =>
                  simp only [ej] at e2
                  split at e2
                  · rename_i h100
                    cases e2
                    obtain ⟨L, bl, ra⟩ := Bd.top1 b3.drop
                    obtain ⟨p', h1, h2, h3⟩ := bl.live el (.dic (putA kvs y a)) (.dK (putK (match H2 p with | some (.dK ws) => ws | _ => []) y v))
                    rw [hp] at h1; cases h1
                    cases h2 with
                    | dic e rr =>
                      rename_i ws
                      simp only [e] at h3
                      exact ⟨p, _, rfl, .inl ⟨ws, y, e, keyA_v rk' ej, by have := rr.len; have := line5'; omega, rfl⟩, q σ _ (h3 fun H' hh => .dic hh (rr.put y ra))⟩
                  · cases e2
      · subst e2
        exact ⟨c, ρ1, _, _, _, ρ', ek, b1, e1, fun C H2 hm b2 => q C σ H2 hm b2.drop⟩
    · cases em1⟩
def mDnew : Mi Rr := fun ρ => some (.ok (.nw (.dic [])), ρ)
theorem je_dnew {pos} : JE X E (.Dict [] [] pos) mDnew := ⟨PE.weaken pe_dnewK fun σ H Q h => by
  obtain ⟨c, ρ, τ, θ, o, ρ', ek, b, em, q⟩ := h
  cases em
  intro p hp
  obtain ⟨L, bl⟩ := b
  exact q _ _ trivial (bl.newLv hp fun G H' sm hh => .dic hh .nil)⟩
def mGet2 (md mk mx : Mi Rr) : Mi Rr := mBind md fun d ρ0 => match res ρ0 d with
  | some (.dic _) => mBind mk (fun k => mBind mx fun x => fun ρ => match res ρ d, res ρ k with
    | some (.dic kvs), some ka => match keyA ka with
      | some y => match getK kvs y with
        | some a => some (.ok (.fr a), ρ)
        | none => match frz1 x ρ with
          | some (a, ρ1) => some (.ok (.fr a), ρ1)
          | none => none
      | none => none
    | _, _ => none) ρ0
  | _ => none
theorem je_get2 {o e f : Expr} {md mk mx : Mi Rr} {apos cpos : Pos} (hu : X.A.units + 1 < cLine) (ho : JE X E o md) (he : JE X E e mk) (hf : JE X E f mx) (m : M2 X o "get" apos e f cpos) : JE X E (.Call (.Attribute o "get" apos) [e, f] [] cpos) (mGet2 md mk mx) :=
  ⟨PE.weaken (pe_dget2 hu ho.p he.p hf.p m) fun σ H Q h => by
    obtain ⟨c, ρ, τ, θ, o, ρ', ek, b, em, q⟩ := h
    refine te_bind ek b em (fun d v ρ1 H1 hv b1 em1 => ?_) (ret_err q)
    cases e0 : res ρ1 d with
    | none => simp only [e0] at em1; cases em1
    | some a0 =>
      cases a0 <;> first | (simp only [e0] at em1; cases em1; done) | skip
      rename_i kvs0
      simp only [e0] at em1
      obtain ⟨L0, bl0, i0⟩ := Bd.open b1 hv e0
      obtain ⟨p, vs0, rfl, s0, _⟩ := i0.2.2 kvs0 rfl
      refine ⟨p, rfl, .inl ⟨vs0, s0⟩, ?_⟩
      refine te_bind ek b1 em1 (fun k w ρ2 H2 hw b2 em2 => ?_) (err_drop (ret_err q))
      refine te_bind ek b2 em2 (fun x z ρ3 H3 hz b3 em3 => ?_) (err_drop (err_drop (ret_err q)))
      cases e1 : res ρ3 d with
      | none => simp only [e1] at em3; cases em3
      | some a1 =>
        cases a1 <;> first | (simp only [e1] at em3; cases em3; done) | skip
        rename_i kvs
        cases e2 : res ρ3 k with
        | none => simp only [e1, e2] at em3; cases em3
        | some ka =>
          simp only [e1, e2] at em3
          cases ey : keyA ka with
          | none => simp only [ey] at em3; cases em3
          | some y =>
            simp only [ey] at em3
            have rk := Bd.rd b3.drop hw e2
            obtain ⟨L, bl, i1, _⟩ := Bd.open2 b3.drop hv hw e1 e2
            obtain ⟨p', vs, ep, s1, rr⟩ := i1.2.2 kvs rfl
            cases ep
            rcases rr.get y with ⟨u, a, h1, h2, h3⟩ | ⟨h1, h2⟩
            · simp only [h2] at em3
              cases em3
              exact ⟨some u, .inl ⟨vs, y, s1, keyA_v rk ey, h1.symm⟩, q u H3 trivial (bl.push h3)⟩
            · simp only [h2] at em3
              cases ef : frz1 x ρ3 with
              | none => simp only [ef] at em3; cases em3
              | some pr =>
                obtain ⟨a, ρ4⟩ := pr
                simp only [ef] at em3
                cases em3
                have b4 := Bd.frz1 (xs := []) (ss := []) rfl b3 hz ef
                refine ⟨none, .inl ⟨vs, y, s1, keyA_v rk ey, h1.symm⟩, q z H3 trivial ?_⟩
                obtain ⟨g1, g2, g3⟩ := ext_split k w (extV d (.ref p) τ) (extS d θ)
                obtain ⟨g4, g5, g6⟩ := ext_split d (.ref p) τ θ
                have b4 : Bd c σ H3 ρ' (some z :: ((extV k w [] ++ extV d (.ref p) []) ++ τ)) (.fr a :: ((extS k [] ++ extS d []) ++ θ)) := by
                  have := b4
                  rw [g1, g4, g2, g5] at this
                  simpa [List.append_assoc] using this
                exact Bd.popMid (by simp [g3, g6]) b4⟩
def sRaise (x : Str) (m : Mi (List Rr)) : Ms := sBind m fun rs ρ => if rs.length ≤ 10 then some (.ex x, ρ) else none
theorem js_raise {x : Str} {C : Addr} {e : Expr} {es : List Expr} {m : Mi (List Rr)} {np cpos pos : Pos} (xc : Xc X E) (hc : X.calm = true) (hg : Gl X x) (hm : X.mg x = some (.ref C)) (hex : PySem.W.excIn X.K C veMro "ValueError.__new__" = true) (ha : JA X E (e :: es) m) (hd : (x == ("__debug__" : Str)) = false)
    (he : starEach (e :: es) X.env = (false, eval e X.env) :: starEach es X.env := by rfl) (hpl : (backTo cpos (starEach es X.env)).any (·.1) = false := by rfl) : JS X E (.Raise (some (.Call (.Name x np) (e :: es) [] cpos)) none pos) (sRaise x m) :=
  ⟨PS.weaken (ps_raise xc hc hg hm hex ha.p hd he hpl) fun D σ H h => by
    obtain ⟨c, ρ, τ, θ, f, ρ', ek, b, em, q⟩ := h
    rcases sbind_some em with ⟨rs, ρ1, e1, e2⟩ | ⟨ee, e1, e2⟩
    · split at e2
      · rename_i hl
        cases e2
        exact ⟨c, ρ, τ, _, _, _, ek, b, e1, fun vs H1 hv b1 => ⟨by have := hv.len; have := line5; omega, q C σ H1 hm (Bd.drops hv.len b1)⟩⟩
      · cases e2
    · subst e2
      exact ⟨c, ρ, τ, _, _, ρ', ek, b, e1, fun C' H1 hm' b1 => q C' σ H1 hm' b1⟩⟩
end
end M
namespace M
open PySem L2
section
variable {X : Cx} {E : XK}
def iKeysF (te : TE) : TI := fun σ H R => te σ H fun x H1 => ∃ d kvs ob, x = .ref d ∧ H1 d = some (.frz ob (.dK kvs)) ∧ R (Itk d ob kvs) H1
theorem pi_dictF {l : Expr} {te : TE} {x : Str} {px : Pos} (hl : PE X l te) : PI X (.Name x px) l (iKeysF te) := by
  intro pins s σ H R I h
  refine thn (hl pins s σ H _ I h) fun v s1 ⟨y, H1, I1, r1, q1⟩ => ?_
  obtain ⟨d, kvs, ob, rfl, hd, q⟩ := q1
  cases r1
  obtain ⟨hob, hz, lo, vs, kv, hD⟩ := (show ObjOk X.prog X.w H1 s1.heap d (.frz ob (.dK kvs)) from I1.hok d _ hd)
  obtain ⟨ep, hat⟩ := hD.dictAt
  refine wpAny_pyIter_dict lo hat ?_
  refine ⟨s1.heap.objs.size, [s1.heap.objs.size], _, _, _, rfl, I1.kept (t' := s1.toks) fun b o e => Heap.get?_push_of_some _ e, turn_keys (it := s1.heap.objs.size) (vs := vs) (ep := ep) kv (fun h e => ?_), ⟨_, Heap.get?_push_size _ rfl, rfl, rfl⟩, fun b hb => ?_, q⟩
  · obtain ⟨o, es, e1, r⟩ := hat
    rw [hob] at e1
    cases e1
    exact ⟨ob, es, e, r⟩
  · rw [List.mem_singleton.mp hb]
    exact I1.fpOk (Nat.le_refl _) I1.fresh
def keyD : Key → A
  | .inl i => .int i
  | .inr x => .str x
def sForK (j : Nat) (G : Mg) (b : Ms) : Ms := fun ρ => match mVarF j ρ with
  | some (.ok (.fr (.dic kvs)), ρ1) => match forL G b (kvs.map fun kv => keyD kv.1) ρ1 with
    | some (.ex _, _) => none
    | r => r
  | _ => none
theorem PS.or {st : Stmt} {t t' : TS} (h : PS X st t) (h' : PS X st t') : PS X st (fun D σ H => t D σ H ∨ t' D σ H) := fun pins s σ H D I q => q.elim (h pins s σ H D I) (h' pins s σ H D I)
section
variable {c : Cn} {σ : St} {H : Hp} {ρ : List Sl} {τ : St} {θ : List Sl}
theorem Bd.know {d : Addr} {ob : Obj} {vs : List (Key × V)} {L : List Addr} (b : BdL c σ H ρ τ θ L) (hd : H d = some (.dK vs)) (n1 : d ∉ L) (n2 : d ∉ c.Hd) :
    Bd { c with Wk := (d, .frz ob (.dK vs)) :: c.Wk } σ (upd H d (.frz ob (.dK vs))) ρ τ θ := by
  have sm : Sq (c.g H L) (c.g (upd H d (.frz ob (.dK vs))) L) := fun a u e => by
    by_cases z : a ∈ L ∨ a ∈ c.Hd
    · rw [g_in z] at e; cases e
    · rw [g_out (fun y => z (.inl y)) (fun y => z (.inr y))] at e
      rw [g_out (fun y => z (.inl y)) (fun y => z (.inr y))]
      by_cases y : a = d
      · subst y
        rw [hd] at e; cases e
        exact ⟨_, upd_same, .inr ⟨vs, rfl, rfl⟩⟩
      · rw [upd_ne y]; exact ⟨u, e, .inl rfl⟩
  refine ⟨L, b.nd, ?_, b.own, ⟨fun q u e => ?_, fun q hq => ?_⟩, b.kp, b.lt, b.hd⟩
  · exact b.rel.sm sm fun q hq u e => by rw [upd_ne fun y => n1 (by rw [← y]; exact hq)]; exact e
  · obtain ⟨u', h1, h2⟩ := b.fr.st q u e
    by_cases y : q = d
    · subst y
      exact ⟨_, upd_same, fun _ nw => absurd List.mem_cons_self (nw _)⟩
    · exact ⟨u', by rw [upd_ne y]; exact h1, fun np nw => h2 np fun w hw => nw w (List.mem_cons_of_mem _ hw)⟩
  · rcases List.mem_cons.mp hq with z | z
    · subst z; exact ⟨upd_same, ⟨ob, vs, rfl⟩, n2⟩
    · obtain ⟨h1, ⟨ob', vs', h2⟩, h3⟩ := b.fr.pk q z
      refine ⟨?_, ⟨ob', vs', h2⟩, h3⟩
      rw [upd_ne fun y => ?_]
      · exact h1
      · rw [y, hd, h2] at h1; cases h1
theorem Bd.loose {d : Addr} {ob : Obj} {vs : List (Key × V)} (b : Bd { c with Wk := (d, .frz ob (.dK vs)) :: c.Wk } σ H ρ τ θ) (nw : ∀ w, (d, w) ∉ c.Wk) (hH : ∀ o, c.H0 d = some o → d ∉ c.Lp → o = .dK vs) : H d = some (.frz ob (.dK vs)) ∧ Bd c σ (upd H d (.dK vs)) ρ τ θ := by
  obtain ⟨L, b⟩ := b
  obtain ⟨hd, _, n2⟩ := b.fr.pk _ List.mem_cons_self
  have hd : H d = some (.frz ob (.dK vs)) := hd
  have n2 : d ∉ c.Hd := n2
  have n1 : d ∉ L := fun z => b.rel.nofrz d z ob vs hd
  have sm : Sq (c.g H L) (c.g (upd H d (.dK vs)) L) := fun a u e => by
    by_cases z : a ∈ L ∨ a ∈ c.Hd
    · rw [g_in z] at e; cases e
    · rw [g_out (fun y => z (.inl y)) (fun y => z (.inr y))] at e
      rw [g_out (fun y => z (.inl y)) (fun y => z (.inr y))]
      by_cases y : a = d
      · subst y
        rw [hd] at e; cases e
        exact ⟨_, upd_same, .inr ⟨vs, rfl, rfl⟩⟩
      · rw [upd_ne y]; exact ⟨u, e, .inl rfl⟩
  refine ⟨hd, L, b.nd, ?_, b.own, ⟨fun q u e => ?_, fun q hq => ?_⟩, b.kp, b.lt, b.hd⟩
  · have rel : SlRs c.toKx (c.g H L) H (τ ++ σ) (θ ++ ρ) L := b.rel
    exact rel.sm sm fun q hq u e => by rw [upd_ne fun y => n1 (by rw [← y]; exact hq)]; exact e
  · obtain ⟨u', h1, h2⟩ := b.fr.st q u e
    by_cases y : q = d
    · subst y
      exact ⟨_, upd_same, fun np _ => (hH u e np).symm⟩
    · refine ⟨u', by rw [upd_ne y]; exact h1, fun np nw' => h2 np fun w hw => ?_⟩
      rcases List.mem_cons.mp hw with z | z
      · cases z; exact y rfl
      · exact nw' w z
  · obtain ⟨h1, ⟨ob', vs', h2⟩, h3⟩ := b.fr.pk q (List.mem_cons_of_mem _ hq)
    refine ⟨?_, ⟨ob', vs', h2⟩, h3⟩
    rw [upd_ne fun y => ?_]
    · exact h1
    · exact nw q.2 (by rw [← y]; exact hq)
theorem Bd.pin {d : Addr} {ob : Obj} {vs : List (Key × V)} {L : List Addr} (b : BdL c σ H ρ τ θ L) (hd : H d = some (.frz ob (.dK vs))) (n2 : d ∉ c.Hd) : Bd { c with Wk := (d, .frz ob (.dK vs)) :: c.Wk } σ H ρ τ θ := by
  refine ⟨L, b.nd, b.rel, b.own, ⟨fun q u e => ?_, fun q hq => ?_⟩, b.kp, b.lt, b.hd⟩
  · obtain ⟨u', h1, h2⟩ := b.fr.st q u e
    exact ⟨u', h1, fun np nw => h2 np fun w hw => nw w (List.mem_cons_of_mem _ hw)⟩
  · rcases List.mem_cons.mp hq with z | z
    · subst z; exact ⟨hd, ⟨ob, vs, rfl⟩, n2⟩
    · exact b.fr.pk q z
theorem Bd.unpin {d : Addr} {ob : Obj} {vs : List (Key × V)} (b : Bd { c with Wk := (d, .frz ob (.dK vs)) :: c.Wk } σ H ρ τ θ) (hH : ∀ o, c.H0 d = some o → d ∉ c.Lp → (∀ w, (d, w) ∉ c.Wk) → o = .frz ob (.dK vs)) : Bd c σ H ρ τ θ := by
  obtain ⟨L, b⟩ := b
  obtain ⟨hd, _, n2⟩ := b.fr.pk _ List.mem_cons_self
  have hd : H d = some (.frz ob (.dK vs)) := hd
  refine ⟨L, b.nd, b.rel, b.own, ⟨fun q u e => ?_, fun q hq => b.fr.pk q (List.mem_cons_of_mem _ hq)⟩, b.kp, b.lt, b.hd⟩
  obtain ⟨u', h1, h2⟩ := b.fr.st q u e
  by_cases y : q = d
  · subst y
    exact ⟨_, hd, fun np nw => (hH u e np nw).symm⟩
  · refine ⟨u', h1, fun np nw' => h2 np fun w hw => ?_⟩
    rcases List.mem_cons.mp hw with z | z
    · cases z; exact y rfl
    · exact nw' w z
end
theorem keys_walk {G : Mg} {mb : Ms} {c : Cn} {τ : St} {θ : List A} {d : Addr} {ob : Obj} {vs : List (Key × V)} {kvs : List (Key × A)} {f : Fl} {ρ' : List Sl} {D : Ends} (ek : c.toKx = kx X) (hpk : ∀ σ H ρ τ θ, Bd c σ H ρ τ θ → H d = some (.frz ob (.dK vs))) (hkv : vs.map (·.1) = kvs.map (·.1))
    (nex : ∀ x, f ≠ .ex x) (q : RetS (kx X) E c ρ' τ θ D f) {σ : St} {H : Hp} {ρ1 : List Sl} (b1 : Bd c σ H ρ1 τ (θ.map Sl.fr)) (e2 : forL G mb (kvs.map fun kv => keyD kv.1) ρ1 = some (f, ρ')) : ForB (Itk d ob vs) (TGm (kx X) 0 G) (TSm (kx X) E mb) D σ H := by
  have hl : vs.length = kvs.length := by have := congrArg List.length hkv; simpa using this
  refine ⟨fun i m σ' H' => m = vs.length - i ∧ i ≤ vs.length ∧ ∃ ρi, Bd c σ' H' ρi τ (θ.map Sl.fr) ∧ forL G mb ((kvs.map fun kv => keyD kv.1).drop i) ρi = some (f, ρ'), ⟨_, rfl, Nat.zero_le _, ρ1, b1, by simpa using e2⟩, ?_⟩
  rintro i m σ' H' ⟨rfl, hi, ρi, bi, ei⟩
  have hpin := hpk _ _ _ _ _ bi
  by_cases hlt : i < vs.length
  · have hlt2 : i < (kvs.map fun kv => keyD kv.1).length := by rw [List.length_map]; omega
    have hd : (kvs.map fun kv => keyD kv.1).drop i = (kvs.map fun kv => keyD kv.1)[i] :: (kvs.map fun kv => keyD kv.1).drop (i + 1) := List.drop_eq_getElem_cons hlt2
    rw [hd] at ei
    refine .inr ⟨⟨hpin, hlt⟩, fun σ2 H2 => ∃ ρ2, Bd c σ2 H2 ρ2 τ (θ.map Sl.fr) ∧ forL G mb ((kvs.map fun kv => keyD kv.1).drop (i + 1)) ρ2 = some (f, ρ'), fun σ2 H2 ⟨ρ2, q1, q2⟩ => ⟨vs.length - (i + 1), by omega, rfl, hlt, ρ2, q1, q2⟩, fun x H2 y => ?_⟩
    obtain ⟨rfl, p, hp, rfl⟩ := y
    have ekey : (kvs.map fun kv => keyD kv.1)[i] = keyD p.1 := by
      have h1 : (vs.map (·.1))[i]? = some p.1 := by rw [List.getElem?_map, hp]; rfl
      rw [hkv, List.getElem?_map] at h1
      rw [List.getElem_map]
      cases ez : kvs[i]? with
      | none => rw [ez] at h1; cases h1
      | some z =>
        rw [ez] at h1
        have h1 : z.1 = p.1 := Option.some.inj h1
        have : kvs[i] = z := by have := List.getElem?_eq_some_iff.mp ez; exact this.2
        rw [this, h1]
    have b2 : Bd c σ' H2 ρi (some (kV p.1) :: τ) (.fr (keyD p.1) :: θ.map Sl.fr) := bi.push fun _ => by cases p.1 with | inl i => exact .int i | inr x => exact .str x
    unfold forL at ei
    rw [ekey] at ei
    cases eg : G (keyD p.1) ρi with
    | none => simp only [eg] at ei; cases ei
    | some ρ2 =>
      simp only [eg] at ei
      refine ⟨c, ρi, _, _, keyD p.1, ρ2, ek, b2, eg, fun σ3 H3 _ _ b3 => ?_⟩
      cases eb : mb ρ2 with
      | none => simp only [eb] at ei; cases ei
      | some pr =>
        obtain ⟨f1, ρ3⟩ := pr
        simp only [eb] at ei
        refine ⟨c, ρ2, τ, θ, f1, ρ3, ek, b3, eb, ?_⟩
        cases f1 with
        | nx => exact fun σ4 H4 b4 => ⟨ρ3, b4, ei⟩
        | ct => exact fun σ4 H4 b4 => ⟨ρ3, b4, ei⟩
        | bk => cases ei; exact fun σ4 H4 b4 => q σ4 H4 b4
        | rt s => cases ei; exact fun v σ4 H4 hs b4 => q v σ4 H4 hs b4
        | ex x => cases ei; exact absurd rfl (nex x)
  · have e : i = vs.length := by omega
    subst e
    rw [List.drop_eq_nil_of_le (by rw [List.length_map, hl]; exact Nat.le_refl _)] at ei
    cases ei
    exact .inl ⟨⟨hpin, Nat.le_refl _⟩, q σ' H' bi⟩
theorem js_forK {j : Nat} {y x : Str} {py px : Pos} {body : List Stmt} {G : Mg} {mb : Ms} {pos : Pos} (hN : X.N[j]? = some y) (hv : Vis X.env.scope y) (hd : (y == ("__debug__" : Str)) = false) (hcd : (y == ("__classdict__" : Str)) = false) (hp : PassesOwn (model X.prog X.w) X.A X.env X.xe) (hc : X.calm = true) (hg : JG X 0 (.Name x px) G) (hb : JSs X E body mb)
    (hs : ∀ z, foldedSetIterable (.Name y py) X.env z = pure z := by intro _; rfl) : JS X E (.For (.Name x px) (.Name y py) body [] pos) (sForK j G mb) :=
  ⟨PS.weaken (PS.or (ps_thaw (ps_for hp hc (pi_dict (pe_var hN hv hd hcd)) hg.p hb.p hs)) (ps_for hp hc (pi_dictF (pe_var hN hv hd hcd)) hg.p hb.p hs)) fun D σ H h => by
    obtain ⟨c, ρ, τ, θ, f, ρ', ek, b, em, q⟩ := h
    unfold sForK at em
    cases ev : mVarF j ρ with
    | none => simp only [ev] at em; cases em
    | some pr =>
      obtain ⟨o, ρ1⟩ := pr
      cases o with
      | error e => simp only [ev] at em; cases em
      | ok r =>
        cases r with
        | rf i => simp only [ev] at em; cases em
        | nw o => simp only [ev] at em; cases em
        | fr a =>
          cases a <;> first | (simp only [ev] at em; cases em; done) | skip
          rename_i kvs
          simp only [ev] at em
          have em2 : forL G mb (kvs.map fun kv => keyD kv.1) ρ1 = some (f, ρ') ∧ ∀ x, f ≠ .ex x := by
            cases ef : forL G mb (kvs.map fun kv => keyD kv.1) ρ1 with
            | none => simp only [ef] at em; cases em
            | some pr =>
              obtain ⟨f1, ρ2⟩ := pr
              cases f1 with
              | ex x => simp only [ef] at em; cases em
              | nx => simp only [ef] at em; cases em; exact ⟨rfl, fun x z => by cases z⟩
              | rt s => simp only [ef] at em; cases em; exact ⟨rfl, fun x z => by cases z⟩
              | bk => simp only [ef] at em; cases em; exact ⟨rfl, fun x z => by cases z⟩
              | ct => simp only [ef] at em; cases em; exact ⟨rfl, fun x z => by cases z⟩
          obtain ⟨ef, nex⟩ := em2
          have b1 : Bd c σ H ρ1 τ (θ.map Sl.fr) ∧ ρ1[j]? = some (.fr (.dic kvs)) := by
            unfold mVarF at ev
            cases es : ρ[j]? with
            | none => simp only [es] at ev; cases ev
            | some s =>
              cases s with
              | un => simp only [es] at ev; cases ev
              | pv o => simp only [es] at ev; cases ev
              | fr a => simp only [es] at ev; cases ev; exact ⟨b, es⟩
              | lv o =>
                simp only [es] at ev
                have e1 := congrArg (fun z => z.map (·.2)) ev
                have e2 := congrArg (fun z => z.map (·.1)) ev
                simp at e1 e2
                subst e1
                refine ⟨b.freezeS es, ?_⟩
                rw [List.getElem?_set_self (List.getElem?_eq_some_iff.mp es).1, e2]
          obtain ⟨b1, es⟩ := b1
          obtain ⟨v, hσ, b2⟩ := b1.load es
          obtain ⟨L, bl, ra⟩ := Bd.top1 b2
          cases ra with
          | dic e r =>
            rename_i d vs
            obtain ⟨o, ho, hdk⟩ := rd_dk e
            have hnot : d ∉ L ∧ d ∉ c.Hd := by
              constructor
              · intro z; rw [g_in (.inl z)] at ho; cases ho
              · intro z; rw [g_in (.inr z)] at ho; cases ho
            rw [g_out hnot.1 hnot.2] at ho
            have hrd : H d = some (.dK vs) ∨ ∃ ob, H d = some (.frz ob (.dK vs)) := dk_rd ho hdk
            rcases hrd with hd | ⟨ob, hd⟩
            · left
              refine ⟨d, vs, hd, _, hσ, d, vs, rfl, hd, fun ob => ?_⟩
              have nw : ∀ w, (d, w) ∉ c.Wk := fun w hw => by
                obtain ⟨h1, ⟨ob', vs', h2⟩, _⟩ := bl.fr.pk _ hw
                have h1 : H d = some w := h1
                have h2 : w = .frz ob' (.dK vs') := h2
                rw [hd, h2] at h1; cases h1
              have hH : ∀ o, c.H0 d = some o → d ∉ c.Lp → o = .dK vs := fun o e np => by
                obtain ⟨u, h1, h2⟩ := bl.fr.st d o e
                rw [hd] at h1; cases h1
                exact (h2 np nw).symm
              have b3 := Bd.know (ob := ob) bl hd hnot.1 hnot.2
              have q2 : RetS (kx X) E { c with Wk := (d, .frz ob (.dK vs)) :: c.Wk } ρ' τ θ (D.thaw d vs) f := by
                cases f with
                | nx => exact fun σ' H' b' => let ⟨h1, h2⟩ := Bd.loose b' nw hH; ⟨⟨ob, h1⟩, q σ' _ h2⟩
                | bk => exact fun σ' H' b' => let ⟨h1, h2⟩ := Bd.loose b' nw hH; ⟨⟨ob, h1⟩, q σ' _ h2⟩
                | ct => exact fun σ' H' b' => let ⟨h1, h2⟩ := Bd.loose b' nw hH; ⟨⟨ob, h1⟩, q σ' _ h2⟩
                | rt s => exact fun v σ' H' hs b' => let ⟨h1, h2⟩ := Bd.loose b' nw hH; ⟨⟨ob, h1⟩, q v σ' _ hs h2⟩
                | ex x => exact absurd rfl (nex x)
              exact keys_walk (c := { c with Wk := (d, .frz ob (.dK vs)) :: c.Wk }) ek (fun σ H ρ τ θ ⟨L, b⟩ => (b.fr.pk _ List.mem_cons_self).1) r.keys nex q2 b3 ef
            · right
              refine ⟨_, hσ, d, vs, ob, rfl, hd, ?_⟩
              have hH : ∀ o, c.H0 d = some o → d ∉ c.Lp → (∀ w, (d, w) ∉ c.Wk) → o = .frz ob (.dK vs) := fun o e np nw => by
                obtain ⟨u, h1, h2⟩ := bl.fr.st d o e
                rw [hd] at h1; cases h1
                exact (h2 np nw).symm
              have b3 := Bd.pin bl hd hnot.2
              have q2 : RetS (kx X) E { c with Wk := (d, .frz ob (.dK vs)) :: c.Wk } ρ' τ θ D f := by
                cases f with
                | nx => exact fun σ' H' b' => q σ' _ (Bd.unpin b' hH)
                | bk => exact fun σ' H' b' => q σ' _ (Bd.unpin b' hH)
                | ct => exact fun σ' H' b' => q σ' _ (Bd.unpin b' hH)
                | rt s => exact fun v σ' H' hs b' => q v σ' _ hs (Bd.unpin b' hH)
                | ex x => exact absurd rfl (nex x)
              exact keys_walk (c := { c with Wk := (d, .frz ob (.dK vs)) :: c.Wk }) ek (fun σ H ρ τ θ ⟨L, b⟩ => (b.fr.pk _ List.mem_cons_self).1) r.keys nex q2 b3 ef⟩
end
end M
namespace M
open PySem L2
def leS (a b : Str) : Bool := !PySem.Spec.ltCps b.cps.toList a.cps.toList
def sortS (l : List Str) : List Str := l.mergeSort leS
theorem leS_eq (a b : Str) : leS a b = decide (¬ b.cps.toList < a.cps.toList) := by
  unfold leS; rw [PyProof.Rows.ltCps_eq, decide_not]
theorem leS_trans (a b c : Str) (h1 : leS a b = true) (h2 : leS b c = true) : leS a c = true := by
  rw [leS_eq, decide_eq_true_eq] at *
  intro h
  exact (PyProof.Rows.strKind.negTrans c.cps.toList b.cps.toList a.cps.toList (decide_eq_true h)).elim (fun h => h2 (of_decide_eq_true h)) (fun h => h1 (of_decide_eq_true h))
theorem leS_total (a b : Str) : (leS a b || leS b a) = true := by
  rw [Bool.or_eq_true, leS_eq, leS_eq, decide_eq_true_eq, decide_eq_true_eq]
  by_cases h : b.cps.toList < a.cps.toList
  · exact .inr (List.lt_asymm h)
  · exact .inl h
theorem leS_anti {a b : Str} (h1 : leS a b = true) (h2 : leS b a = true) : a = b := by
  rw [leS_eq, decide_eq_true_eq] at *
  have : a.cps.toList = b.cps.toList := List.le_antisymm (List.not_lt.mp h1) (List.not_lt.mp h2)
  cases a; cases b
  simp only [PySem.Str.mk.injEq]
  exact Array.toList_inj.mp this
theorem sortS_perm (l : List Str) : (sortS l).Perm l := List.mergeSort_perm l leS
theorem sortS_pw (l : List Str) : (sortS l).Pairwise (fun a b => leS a b = true) := List.pairwise_mergeSort leS_trans leS_total l
theorem sortedS_pw {ss : List Str} (h : PyProof.Rows.sortedS ss = true) : ss.Pairwise (fun a b => leS a b = true) := by
  have key : ∀ (l : List Str) (p : Str), PyProof.Rows.risingS p l = true → (∀ q ∈ l, leS p q = true) ∧ l.Pairwise (fun a b => leS a b = true) := by
    intro l
    induction l with
    | nil => intro p _; exact ⟨fun q hq => (by cases hq), .nil⟩
    | cons q l ih =>
      intro p hp
      have hp : (!PySem.Spec.ltCps q.cps.toList p.cps.toList && PyProof.Rows.risingS q l) = true := hp
      rw [Bool.and_eq_true] at hp
      obtain ⟨i1, i2⟩ := ih q hp.2
      refine ⟨fun r hr => ?_, List.pairwise_cons.mpr ⟨i1, i2⟩⟩
      rcases List.mem_cons.mp hr with z | z
      · subst z; exact hp.1
      · exact leS_trans p q r hp.1 (i1 r z)
  cases ss with
  | nil => exact .nil
  | cons p l =>
    obtain ⟨i1, i2⟩ := key l p h
    exact List.pairwise_cons.mpr ⟨i1, i2⟩
theorem sortS_uniq {ss l : List Str} (h : PyProof.Rows.sortedS ss = true) (pm : ss.Perm l) : ss = sortS l :=
  (pm.trans (sortS_perm l).symm).eq_of_pairwise (fun a b _ _ h1 h2 => leS_anti h1 h2) (sortedS_pw h) (sortS_pw l)
def strsA : List A → Option (List Str)
  | [] => some []
  | .str x :: r => match strsA r with
    | some ss => some (x :: ss)
    | none => none
  | _ => none
theorem strsA_map : ∀ {as : List A} {ss : List Str}, strsA as = some ss → as = ss.map A.str
  | [], _, h => by cases h; rfl
  | .str x :: r, _, h => by
    unfold strsA at h
    cases e : strsA r with
    | none => simp only [e] at h; cases h
    | some ss => simp only [e] at h; cases h; rw [strsA_map e]; rfl
  | .non :: _, _, h => by cases h
  | .bl _ :: _, _, h => by cases h
  | .int _ :: _, _, h => by cases h
  | .tup _ :: _, _, h => by cases h
  | .lst _ :: _, _, h => by cases h
  | .dic _ :: _, _, h => by cases h
  | .exc _ :: _, _, h => by cases h
theorem strsA_of (ss : List Str) : strsA (ss.map A.str) = some ss := by
  induction ss with
  | nil => rfl
  | cons s ss ih => rw [List.map_cons, strsA, ih]
def strKeys : List (Key × A) → Option (List Str)
  | [] => some []
  | (.inr x, _) :: r => match strKeys r with
    | some ss => some (x :: ss)
    | none => none
  | _ => none
theorem strKeys_map : ∀ {as : List (Key × A)} {ss : List Str}, strKeys as = some ss → as.map (·.1) = ss.map Sum.inr
  | [], _, h => by cases h; rfl
  | (.inr x, a) :: r, _, h => by
    unfold strKeys at h
    cases e : strKeys r with
    | none => simp only [e] at h; cases h
    | some ss => simp only [e] at h; cases h; rw [List.map_cons, strKeys_map e]; rfl
  | (.inl _, _) :: _, _, h => by cases h
section
variable {X : Cx} {E : XK}
def fSortedL : A → Option Rr
  | .lst xs => match strsA xs with
    | some ss => if ss.length < 64 then some (.nw (.lst ((sortS ss).map A.str))) else none
    | none => none
  | _ => none
theorem us_sortedL {K : Kx} : UnS K (fun v => rSorted K.K [v]) fSortedL := by
  intro c σ H ρ τ θ x v a q Q ek hv bd e1 e3 k
  subst ek
  obtain ⟨L, bl, i1⟩ := Bd.open bd hv e1
  cases a <;> first | (cases e3; done) | skip
  rename_i xs
  unfold fSortedL at e3
  simp only at e3
  cases es : strsA xs with
  | none => simp only [es] at e3; cases e3
  | some ss =>
    simp only [es] at e3
    split at e3
    · rename_i h64
      cases e3
      obtain ⟨p, vs, rfl, s1, rr⟩ := i1.1 xs rfl
      rw [strsA_map es] at rr
      rw [rr.strs] at s1
      refine ⟨p, ss, rfl, .inl s1, h64, fun r ss' hr pm srt => ?_⟩
      rw [sortS_uniq srt pm]
      exact k _ _ trivial (bl.newLv hr fun G H' sm q => .lst q (RAs.ofStrs _))
    · cases e3
def rSortedD : List V → Hp → VK → Prop := fun xs H Q => ∃ (a : Addr) (kvs : List (Key × V)) (ss : List Str), xs = [.ref a] ∧ Rd H a (.dK kvs) ∧ kvs.map (·.1) = ss.map Sum.inr ∧ ss.length < 64 ∧ ∀ r ss', H r = none → ss'.Perm ss → PyProof.Rows.sortedS ss' = true → Q (.ref r) (upd H r (.lst (ss'.map V.str)))
open PySem.Spec PyProof.Rows PySem.W in
theorem call_sortedD (hc : X.calm = true) : CallR X (.builtin "sorted") rSortedD := by
  intro pins s σ H vs us Q I rv h
  obtain ⟨a, kvs, ss, rfl, hd, ek, h64, q⟩ := h
  obtain ⟨u, rfl, ru⟩ := rv.one
  cases ru
  obtain ⟨hz, lo, vs, kv, hD⟩ := L2.dk_rd I.hok hd
  obtain ⟨ep, hat⟩ := hD.dictAt
  have ek2 : vs.map (·.1) = ss.map Sum.inr := by rw [← kv.keys]; exact ek
  have hlen : vs.length = ss.length := by have := congrArg List.length ek2; simpa using this
  refine Calls.call_function_entry kind_sorted plain_sorted entry_sorted (args_sorted1 _) ?_
  unfold Builtin.«sorted»
  refine wpAny_bind (m := checkCount "sorted" 1 1 _) (wpAny_pure ?_)
  refine wpAny_bind (kdu_collect (A := X.A.in1) (kdl_dict (knd := mixKind X.prog X.w) (kvs := vs) (ep := ep) lo) (I.ok.hd hc) hat (by have := L2.line64; omega) fun h' tk acc hk hacc => ?_)
  have hS := L2.keys_vals ek2 hacc
  have hl2 : acc.toList.length = ss.length := by rw [Array.length_toList, hacc.1, hlen]
  refine wpAny_bind (wpAny_newList ?_ (by have := L2.line64; omega))
  have hoL : (h'.push (seqObj "list" acc.toList.toArray 0)).get? h'.objs.size = some (seqObj "list" acc.toList.toArray 0) := Heap.get?_push_size _ rfl
  refine wpAny_bind (wpAny_holding (wpAny_call_entry slot_list_sort ⟨_, hoL, rfl⟩ entry_list_sort (list_sort_treeK strKind_oneLt hoL hS.keysOf (fun v₁ v₂ rest e => keyKind_strs (by rw [← e]; exact hS)) (by omega) fun st' hp hs => ⟨_, rfl, ?_⟩) (args_list_sort _)))
  obtain ⟨ss', b1, b2, b3⟩ := sorted_out_str hS hp hs
  obtain ⟨e, he⟩ := sortedHeap_at (vs := acc.toList) (n := 0) (out := (arrOf st').map (·.2)) hoL
  have hf : ∀ b o, s.heap.get? b = some o → b ≠ h'.objs.size := fun b o z => Nat.ne_of_lt (Heap.lt_size (hk b o z))
  refine wpAny_pure ⟨_, rfl, .ref _, _, I.laid2 (t' := tk) (a := h'.objs.size) (o := .lst (ss'.map V.str)) (fun b o z => ?_) hf ⟨?_, ((arrOf st').map (·.2)).toList, e, L2.of_strsAre b1, ?_⟩, rfl, q _ ss' (I.free_at hf) b2 b3⟩
  · rw [sortedHeap_old (hf b o z) (by rw [size_push']; exact Nat.lt_succ_of_lt (Heap.lt_size (hk b o z)))]
    exact Heap.get?_push_of_some _ (hk b o z)
  · rw [List.length_map, b2.length_eq]
    exact Nat.le_trans (Nat.le_of_lt h64) L2.line64
  · rw [Array.toArray_toList]
    exact he
def fSortedD : A → Option Rr
  | .dic kvs => match strKeys kvs with
    | some ss => if ss.length < 64 then some (.nw (.lst ((sortS ss).map A.str))) else none
    | none => none
  | _ => none
theorem us_sortedD {K : Kx} : UnS K (fun v => rSortedD [v]) fSortedD := by
  intro c σ H ρ τ θ x v a q Q ek hv bd e1 e3 k
  subst ek
  obtain ⟨L, bl, i1⟩ := Bd.open bd hv e1
  cases a <;> first | (cases e3; done) | skip
  rename_i kvs
  unfold fSortedD at e3
  simp only at e3
  cases es : strKeys kvs with
  | none => simp only [es] at e3; cases e3
  | some ss =>
    simp only [es] at e3
    split at e3
    · rename_i h64
      cases e3
      obtain ⟨p, vs, rfl, s1, rr⟩ := i1.2.2 kvs rfl
      refine ⟨p, vs, ss, rfl, s1, by rw [rr.keys, strKeys_map es], h64, fun r ss' hr pm srt => ?_⟩
      rw [sortS_uniq srt pm]
      exact k _ _ trivial (bl.newLv hr fun G H' sm q => .lst q (RAs.ofStrs _))
    · cases e3
def gOr (f g : A → Option Rr) : A → Option Rr := fun a => match f a with
  | some r => some r
  | none => g a
theorem UnS.or {K : Kx} {r r' : V → Hp → VK → Prop} {f g : A → Option Rr} (h : UnS K r f) (h' : UnS K r' g) : UnS K (fun v H Q => r v H Q ∨ r' v H Q) (gOr f g) := by
  intro c σ H ρ τ θ x v a q Q ek hv bd e1 e3 k
  unfold gOr at e3
  cases e : f a with
  | some z => simp only [e] at e3; cases e3; exact .inl (h c σ H ρ τ θ x v a _ Q ek hv bd e1 e k)
  | none => simp only [e] at e3; exact .inr (h' c σ H ρ τ θ x v a _ Q ek hv bd e1 e3 k)
theorem call_sorted2 (hc : X.calm = true) : CallR X (.builtin "sorted") (fun xs H Q => rSorted X.K xs H Q ∨ rSortedD xs H Q) := CallR.or' (call_sortedS hc) (call_sortedD hc)
theorem us_sorted {K : Kx} : UnS K (fun v H Q => rSorted K.K [v] H Q ∨ rSortedD [v] H Q) (gOr fSortedL fSortedD) := us_sortedL.or us_sortedD
def rKeysD : List V → Hp → VK → Prop := fun vs H Q => ∃ (a : Addr) (kvs : List (Key × V)) (ss : List Str), vs = [.ref a] ∧ Rd H a (.dK kvs) ∧ kvs.map (·.1) = ss.map Sum.inr ∧ ∀ r, H r = none → Q (.ref r) (upd H r (.lst (ss.map V.str)))
open PySem.Spec PyProof.Rows PySem.W in
theorem call_listD2 (hc : X.calm = true) : CallR X (.type "list") rKeysD := by
  intro pins s σ H vs us Q I rv h
  obtain ⟨a, kvs, ss, rfl, hd, ek, q⟩ := h
  obtain ⟨u, rfl, ru⟩ := rv.one
  cases ru
  obtain ⟨hz, lo, vs, kv, hD⟩ := L2.dk_rd I.hok hd
  obtain ⟨ep, hat⟩ := hD.dictAt
  have ek2 : vs.map (·.1) = ss.map Sum.inr := by rw [← kv.keys]; exact ek
  have hlen : kvs.length = vs.length := by have := congrArg List.length kv.keys; simpa using this
  refine kdl_call (kdl_dict (knd := mixKind X.prog X.w) (kvs := vs) (ep := ep) lo) (I.ok.hd hc) hat (by rw [← hlen]; exact hz) fun h' tk acc c' hk hD' hacc => ?_
  have hS := L2.keys_vals ek2 hacc
  refine ⟨.ref _, _, I.laid (t' := tk) (o := .lst (ss.map V.str)) hk (Nat.le_refl _) ⟨?_, acc.toList, c', L2.of_strsAre hS, ?_⟩, rfl, q _ I.fresh⟩
  · have := congrArg List.length ek
    rw [List.length_map, List.length_map] at this
    rw [List.length_map, ← this]
    exact hz
  · rw [Array.toArray_toList]
    exact hD'
def fListD : A → Option Rr
  | .dic kvs => match strKeys kvs with
    | some ss => some (.nw (.lst (ss.map A.str)))
    | none => none
  | _ => none
theorem us_listD {K : Kx} : UnS K (fun v => rKeysD [v]) fListD := by
  intro c σ H ρ τ θ x v a q Q ek hv bd e1 e3 k
  subst ek
  obtain ⟨L, bl, i1⟩ := Bd.open bd hv e1
  cases a <;> first | (cases e3; done) | skip
  rename_i kvs
  unfold fListD at e3
  simp only at e3
  cases es : strKeys kvs with
  | none => simp only [es] at e3; cases e3
  | some ss =>
    simp only [es] at e3
    cases e3
    obtain ⟨p, vs, rfl, s1, rr⟩ := i1.2.2 kvs rfl
    exact ⟨p, vs, ss, rfl, s1, by rw [rr.keys, strKeys_map es], fun r hr => k _ _ trivial (bl.newLv hr fun G H' sm q => .lst q (RAs.ofStrs _))⟩
theorem call_list2 (hc : X.calm = true) : CallR X (.type "list") (fun xs H Q => (∃ p ys, xs = [V.ref p] ∧ (SqL X.K H p ys ∨ SqT X.K H p ys) ∧ ∀ l, H l = none → Q (.ref l) (upd H l (.lst ys))) ∨ rKeysD xs H Q) := CallR.or' call_list_of (call_listD2 hc)
theorem us_list2 {K : Kx} : UnS K (fun v H Q => (∃ p ys, [v] = [V.ref p] ∧ (SqL K.K H p ys ∨ SqT K.K H p ys) ∧ ∀ l, H l = none → Q (.ref l) (upd H l (.lst ys))) ∨ rKeysD [v] H Q) (gOr fList fListD) := us_list.or us_listD
end
end M
namespace M
open PySem L2
theorem BdL.push2 {c : Cn} {σ : St} {H : Hp} {ρ : List Sl} {τ : St} {θ : List Sl} {L : List Addr} {v w : V} {a b : A} (bl : BdL c σ H ρ τ θ L) (h1 : RA c.toKx (c.g H L) v a) (h2 : RA c.toKx (c.g H L) w b) : Bd c σ H ρ (some v :: some w :: τ) (.fr a :: .fr b :: θ) :=
  ⟨L, bl.nd, SlRs.cons (L := []) (.fr h1) (SlRs.cons (L := []) (.fr h2) bl.rel), bl.own, bl.fr, bl.kp, by simp [bl.lt], bl.hd⟩
section
variable {X : Cx} {E : XK}
def rJoin2 (K : PySem.W.Frag) : V → List V → Hp → VK → Prop := fun x vs H Q => ∃ (sep : Str) (l : Addr) (ss : List Str), x = .str sep ∧ vs = [.ref l] ∧ SqL K H l (ss.map V.str) ∧ lens ss + ss.length * sep.length ≤ 100000 ∧ Q (.str (Builtin.Str.glued sep ss)) H
theorem fold_lens2 (sep : Str) : ∀ (ss : List Str) (n : Nat), ss.foldl (fun (a : Nat) (z : Str) => a + z.length + sep.length) n = n + lens ss + ss.length * sep.length
  | [], n => by simp [lens]
  | z :: ss, n => by
    rw [List.foldl_cons, fold_lens2 sep ss]
    have e : lens (z :: ss) = z.length + lens ss := rfl
    rw [e, List.length_cons, Nat.add_mul, Nat.one_mul]
    omega
open PySem.Spec PyProof.Rows PySem.W in
theorem mt_join2 : MtR X "str.join" (rJoin2 X.K) := by
  intro pins s σ H x vs v us Q I rx rv h
  obtain ⟨sep, l, ss, rfl, rfl, hq, hl, q⟩ := h
  obtain ⟨t, rfl⟩ := rx
  obtain ⟨u, rfl, ru⟩ := rv.one
  cases ru
  obtain ⟨its, r, p, hz⟩ := I.list hq
  obtain ⟨ps, rfl, e2⟩ := L2.strsAre_pairs (L2.strsAre_of r)
  have h1000 := line5'
  have hlong : Builtin.Str.tooLong ((ps.map (·.1)).toArray.foldl (· + ·.length + sep.length) 0) = false := by
    have e : (ps.map (·.1)).toArray.foldl (fun (a : Nat) (z : Str) => a + z.length + sep.length) 0 = lens ss + ss.length * sep.length := by
      rw [List.foldl_toArray, fold_lens2, e2, Nat.zero_add]
    unfold Builtin.Str.tooLong
    rw [e]
    exact decide_eq_false (by omega)
  refine call_meets F.slot_str_join (typeIs_str _ _ _) F.entry_str_join (F.args_str_join_2 _ _) (meets_str_join_list sep t l ps hlong) ⟨p.isList, ?_⟩
  have hg : (Builtin.Str.glued sep ss).length ≤ lens ss + ss.length * sep.length := by
    rw [size_glued]
    have : (ss.length - 1) * sep.length ≤ ss.length * sep.length := Nat.mul_le_mul_right _ (Nat.sub_le _ _)
    have e : lens ss = (ss.map (·.length)).sum := rfl
    omega
  have key : ∀ (z : Str) (t' : Tok) (k : Nat), z = Builtin.Str.glued sep ss → EP X pins σ Q (.str z t') { s with toks := k } := fun z t' k e => ⟨.str z, H, I.tok _, ⟨t', rfl⟩, by rw [e]; exact q⟩
  have fin : (Made.str (Builtin.Str.glued sep (ps.map (·.1)))).post (fun v s' => EP X pins σ Q v s') s := ⟨by rw [e2]; omega, key _ _ _ (by rw [e2])⟩
  cases ps with
  | nil => exact fin
  | cons a ps =>
    cases ps with
    | nil =>
      subst e2
      exact key a.1 a.2 s.toks rfl
    | cons b ps => exact fin
def mS0 (f : Str → Option Rr) (mo : Mi Rr) : Mi Rr := mBind mo fun x ρ => match x with
  | .fr (.str z) => match f z with
    | some r => some (.ok r, ρ)
    | none => none
  | _ => none
def mS1 (f : Str → A → Option Rr) (mo m : Mi Rr) : Mi Rr := mBind mo fun x ρ0 => match x with
  | .fr (.str z) => mBind m (fun y ρ => match res ρ y with
    | some a => match f z a with
      | some r => some (.ok r, ρ)
      | none => none
    | none => none) ρ0
  | _ => none
theorem s1_weak {r : V → List V → Hp → VK → Prop} {f : Str → A → Option Rr} {mo m : Mi Rr} (hf : ∀ z, UnS (kx X) (fun w => r (.str z) [w]) (f z)) (σ : St) (H : Hp) (Q : VK) (h : TEm (kx X) E (mS1 f mo m) σ H Q) :
    TEm (kx X) E mo σ H fun x H1 => tyV X.K "str" x H1 ∧ TEm (kx X) E m σ H1 fun y H2 => r x [y] H2 Q := by
  obtain ⟨c, ρ, τ, θ, o, ρ', ek, b, em, q⟩ := h
  refine te_bind ek b em (fun x v ρ1 H1 hv b1 em1 => ?_) (ret_err q)
  cases x with
  | rf i => cases em1
  | nw o => cases em1
  | fr a =>
    cases a <;> first | (cases em1; done) | skip
    rename_i z
    have r1 := Bd.top b1 (a := .str z) rfl
    cases r1
    refine ⟨rfl, ?_⟩
    refine te_bind ek b1.pop em1 (fun y w ρ2 H2 hw b2 em2 => ?_) (ret_err q)
    obtain ⟨a, r, e1, e3, rfl, rfl⟩ := un_tail em2
    exact hf z c σ H2 _ τ θ y w a r Q ek hw b2 e1 e3 q
def fJoin (sep : Str) : A → Option Rr
  | .lst xs => match strsA xs with
    | some ss => if lens ss + ss.length * sep.length ≤ 100000 then some (.fr (.str (Builtin.Str.glued sep ss))) else none
    | none => none
  | _ => none
theorem us_join {K : Kx} (sep : Str) : UnS K (fun w => rJoin2 K.K (.str sep) [w]) (fJoin sep) := .scalar fun H v a q r1 h => by
  cases a <;> first | (cases h; done) | skip
  rename_i xs
  unfold fJoin at h
  simp only at h
  cases es : strsA xs with
  | none => simp only [es] at h; cases h
  | some ss =>
    simp only [es] at h
    split at h
    · rename_i hl
      cases h
      cases r1 with
      | lst e r =>
        rw [strsA_map es] at r
        rw [r.strs] at e
        exact ⟨_, _, rfl, fun _ => .str _, fun Q k => ⟨sep, _, ss, rfl, rfl, e, hl, k⟩⟩
    · cases h
theorem je_join {o e : Expr} {mo m : Mi Rr} {apos cpos : Pos} (ho : JE X E o mo) (he : JE X E e m) (hp : ∀ {to te : TE}, PE X o to → PE X e te → PE X (.Call (.Attribute o "join" apos) [e] [] cpos) (tBM X.K "str" (rJoin2 X.K) to (tCons te tNil))) :
    JE X E (.Call (.Attribute o "join" apos) [e] [] cpos) (mS1 fJoin mo m) := ⟨PE.weaken (hp ho.p he.p) fun σ H Q h => s1_weak us_join σ H Q h⟩
def mNoPart : Mi (Option Int) := mPure none
def mPart (m : Mi Rr) : Mi (Option Int) := mBind m fun r ρ => match res ρ r with
  | some (.int i) => some (.ok (some i), ρ)
  | _ => none
def RetO (K : Kx) (E : XK) (c : Cn) (σ : St) (ρ : List Sl) (τ : St) (θ : List Sl) (Q : Option Int → Hp → Prop) : Except Str (Option Int) → Prop
  | .ok i => ∀ H, Bd c σ H ρ τ θ → Q i H
  | .error x => ∀ C H, K.mg x = some (.ref C) → Bd c σ H ρ τ θ → E (.ref C) none H
def TOm (K : Kx) (E : XK) (m : Mi (Option Int)) : TO := fun σ H Q => ∃ (c : Cn) (ρ : List Sl) (τ : St) (θ : List Sl) (o : Except Str (Option Int)) (ρ' : List Sl), c.toKx = K ∧ Bd c σ H ρ τ θ ∧ m ρ = some (o, ρ') ∧ RetO K E c σ ρ' τ θ Q o
structure JP (X : Cx) (E : XK) (e : Option Expr) (m : Mi (Option Int)) : Prop where
  p : PO X e (TOm (kx X) E m)
theorem PO.weaken {X : Cx} {e : Option Expr} {t t' : TO} (h : PO X e t) (f : ∀ σ H Q, t' σ H Q → t σ H Q) : PO X e t' := fun pins s σ H Q I q => h pins s σ H Q I (f σ H Q q)
theorem retO_err {c : Cn} {σ : St} {ρ' : List Sl} {τ : St} {θ : List Sl} {o : Except Str (Option Int)} {Q : Option Int → Hp → Prop} (q : RetO (kx X) E c σ ρ' τ θ Q o) : ∀ e, o = .error e → ∀ C H, X.mg e = some (.ref C) → Bd c σ H ρ' τ θ → E (.ref C) none H := fun e ee => by subst ee; exact q
theorem jp_none : JP X E none mNoPart := ⟨PO.weaken po_none fun σ H Q h => by
  obtain ⟨c, ρ, τ, θ, o, ρ', ek, b, em, q⟩ := h
  cases em; exact q H b⟩
theorem jp_some {e : Expr} {m : Mi Rr} (h : JE X E e m) : JP X E (some e) (mPart m) := ⟨PO.weaken (po_some h.p) fun σ H Q h => by
  obtain ⟨c, ρ, τ, θ, o, ρ', ek, b, em, q⟩ := h
  refine te_bind ek b em (fun x v ρ1 H1 hv b1 em1 => ?_) (retO_err q)
  cases e1 : res ρ1 x with
  | none => simp only [e1] at em1; cases em1
  | some a =>
    have r1 := Bd.rd b1 hv e1
    cases a <;> first | (simp only [e1] at em1; cases em1; done) | skip
    simp only [e1] at em1; cases em1
    cases r1
    exact ⟨_, rfl, q H1 b1.drop⟩⟩
def cutA (xs : List A) (lo hi : Option Int) : List A := (xs.drop (HT.sIx xs.length 0 lo)).take (HT.sIx xs.length xs.length hi - HT.sIx xs.length 0 lo)
theorem cut_ra {k : Kx} {G : Hp} {vs : List V} {as : List A} (r : RAs k G vs as) (lo hi : Option Int) : RAs k G (cutV vs lo hi) (cutA as lo hi) := by
  unfold cutV cutA
  rw [r.len]
  exact (r.drop _).take _
def fSl (a : A) (lo hi : Option Int) : Option Rr := match a with
  | .lst xs => some (.nw (.lst (cutA xs lo hi)))
  | .tup xs => if HT.sIx xs.length 0 lo = 0 ∧ HT.sIx xs.length xs.length hi = xs.length then none else some (.fr (.tup (cutA xs lo hi)))
  | .str z => if z.length ≤ 100000 then some (.fr (.str (Txt.slice z lo hi))) else none
  | _ => none
def mSl (m : Mi Rr) (ml mh : Mi (Option Int)) : Mi Rr := mBind m fun x => mBind ml fun lo => mBind mh fun hi => fun ρ => match res ρ x with
  | some a => match fSl a lo hi with
    | some r => some (.ok r, ρ)
    | none => none
  | none => none
theorem to_bind {σ : St} {H : Hp} {c : Cn} {ρ ρ' : List Sl} {τ : St} {θ : List Sl} {β : Type} {m : Mi (Option Int)} {f : Option Int → Mi β} {o : Except Str β} {Q : Option Int → Hp → Prop} (ek : c.toKx = kx X) (b : Bd c σ H ρ τ θ) (em : mBind m f ρ = some (o, ρ'))
    (h1 : ∀ k ρ1 H1, Bd c σ H1 ρ1 τ θ → f k ρ1 = some (o, ρ') → Q k H1)
    (h2 : ∀ e, o = .error e → ∀ C H, X.mg e = some (.ref C) → Bd c σ H ρ' τ θ → E (.ref C) none H) : TOm (kx X) E m σ H Q := by
  rcases bind_some em with ⟨x, ρ1, e1, e2⟩ | ⟨e, e1, e2⟩
  · exact ⟨c, ρ, τ, θ, _, ρ1, ek, b, e1, fun H1 b1 => h1 x ρ1 H1 b1 e2⟩
  · exact ⟨c, ρ, τ, θ, _, ρ', ek, b, e1, fun C H1 hm b1 => h2 e e2 C H1 hm b1⟩
theorem je_sl {e : Expr} {lo hi : Option Expr} {m : Mi Rr} {ml mh : Mi (Option Int)} {p2 pos : Pos} (h : JE X E e m) (hl : JP X E lo ml) (hh : JP X E hi mh) : JE X E (.Subscript e (.Slice lo hi none p2) pos) (mSl m ml mh) :=
  ⟨PE.weaken (pe_slice (L2.SlR.or sl_list (L2.SlR.or sl_tup sl_str)) h.p hl.p hh.p) fun σ H Q h => by
    obtain ⟨c, ρ, τ, θ, o, ρ', ek, b, em, q⟩ := h
    refine te_bind ek b em (fun x v ρ1 H1 hv b1 em1 => ?_) (ret_err q)
    refine to_bind ek b1 em1 (fun l ρ2 H2 b2 em2 => ?_) (err_drop (ret_err q))
    refine to_bind ek b2 em2 (fun u ρ3 H3 b3 em3 => ?_) (err_drop (ret_err q))
    obtain ⟨a, r, e1, e3, rfl, rfl⟩ := un_tail em3
    have eK : c.K = X.K := congrArg Kx.K ek
    obtain ⟨L, bl, i1⟩ := Bd.open b3 hv e1
    have r1 := Bd.rd b3 hv e1
    cases a <;> first | (cases e3; done) | skip
    · rename_i z
      unfold fSl at e3
      simp only at e3
      split at e3
      · rename_i hz
        cases e3; cases r1
        exact .inr (.inr ⟨z, rfl, Nat.le_trans hz line5, q _ H3 trivial (Bd.push ⟨L, bl⟩ fun _ => .str _)⟩)
      · cases e3
    · rename_i xs
      unfold fSl at e3
      simp only at e3
      split at e3
      · cases e3
      · rename_i hn
        cases e3
        obtain ⟨p, vs, rfl, s1, rr⟩ := i1.2.1 xs rfl
        refine .inr (.inl ⟨p, vs, rfl, by rw [← eK]; exact sqT_sm (g_same _ _ _) s1, by rw [rr.len]; exact hn, fun p' hp => ?_⟩)
        obtain ⟨b2, sm, np⟩ := bl.new (o := .tup (cutV vs l u)) hp
        exact q _ _ trivial (b2.push (.tup (.inl (.inl (by rw [g_out np (bl.fhd hp)]; exact upd_same))) ((cut_ra rr l u).sm sm)))
    · rename_i xs
      cases e3
      obtain ⟨p, vs, rfl, s1, rr⟩ := i1.1 xs rfl
      exact .inl ⟨p, vs, rfl, by rw [← eK]; exact s1, fun p' hp => q _ _ trivial (bl.newLv hp fun G H' sm q => .lst q ((cut_ra rr l u).sm sm))⟩⟩
def fRev : A → Option Rr
  | .lst xs => some (.nw (.lst xs.reverse))
  | _ => none
theorem je_rev {e se : Expr} {m : Mi Rr} {p2 pos : Pos} (he : JE X E e m) (hs : PE X se (tC (.int (-1)))) : JE X E (.Subscript e (.Slice none none (some se) p2) pos) (mUn fRev m) := ⟨PE.weaken (pe_rev he.p hs) fun σ H Q h => un_weak (r := fun x H1 Q => ∃ a xs, x = .ref a ∧ SqL X.K H1 a xs ∧ ∀ p, H1 p = none → Q (.ref p) (upd H1 p (.lst xs.reverse))) (by
  intro c σ H ρ τ θ x v a q Q ek hv bd e1 e3 k
  have eK : c.K = X.K := congrArg Kx.K ek
  obtain ⟨L, bl, i1⟩ := Bd.open bd hv e1
  cases a <;> first | (cases e3; done) | skip
  rename_i xs
  cases e3
  obtain ⟨p, vs, rfl, s1, rr⟩ := i1.1 xs rfl
  exact ⟨p, vs, rfl, by rw [← eK]; exact s1, fun r hr => k _ _ trivial (bl.newLv hr fun G H' sm q => .lst q (rr.rev.sm sm))⟩) σ H Q h⟩
def RetJ (K : Kx) (E : XK) (c : Cn) (σ : St) (ρ : List Sl) (τ : St) (θ : List Sl) (Q : List Str → Hp → Prop) : Except Str (List Str) → Prop
  | .ok zs => ∀ H, Bd c σ H ρ τ θ → Q zs H
  | .error x => ∀ C H, K.mg x = some (.ref C) → Bd c σ H ρ τ θ → E (.ref C) none H
def TJm (K : Kx) (E : XK) (m : Mi (List Str)) : TJ := fun σ H Q => ∃ (c : Cn) (ρ : List Sl) (τ : St) (θ : List Sl) (o : Except Str (List Str)) (ρ' : List Sl), c.toKx = K ∧ Bd c σ H ρ τ θ ∧ m ρ = some (o, ρ') ∧ RetJ K E c σ ρ' τ θ Q o
structure JJ (X : Cx) (E : XK) (es : List Expr) (m : Mi (List Str)) : Prop where
  p : PJ X es (TJm (kx X) E m)
theorem PJ.weaken {X : Cx} {e : List Expr} {t t' : TJ} (h : PJ X e t) (f : ∀ σ H Q, t' σ H Q → t σ H Q) : PJ X e t' := fun out pins s σ H Q hl I q => h out pins s σ H Q hl I (f σ H _ q)
theorem retJ_err {c : Cn} {σ : St} {ρ' : List Sl} {τ : St} {θ : List Sl} {o : Except Str (List Str)} {Q : List Str → Hp → Prop} (q : RetJ (kx X) E c σ ρ' τ θ Q o) : ∀ e, o = .error e → ∀ C H, X.mg e = some (.ref C) → Bd c σ H ρ' τ θ → E (.ref C) none H := fun e ee => by subst ee; exact q
def mJ (m : Mi Rr) (n : Mi (List Str)) : Mi (List Str) := mBind m fun x ρ0 => match x with
  | .fr (.str z) => if z.length ≤ 1000 then mBind n (fun zs => mPure (z :: zs)) ρ0 else none
  | _ => none
theorem jj_nil : JJ X E [] (mPure []) := ⟨PJ.weaken pj_nil fun σ H Q h => by
  obtain ⟨c, ρ, τ, θ, o, ρ', ek, b, em, q⟩ := h
  cases em; exact q H b⟩
theorem jj_cons {e : Expr} {es : List Expr} {m : Mi Rr} {n : Mi (List Str)} (h1 : JE X E e m) (h2 : JJ X E es n) (hs : evalEach (e :: es) X.env = eval e X.env :: evalEach es X.env := by rfl) : JJ X E (e :: es) (mJ m n) := ⟨PJ.weaken (pj_cons h1.p h2.p hs) fun σ H Q h => by
  obtain ⟨c, ρ, τ, θ, o, ρ', ek, b, em, q⟩ := h
  refine te_bind ek b em (fun x v ρ1 H1 hv b1 em1 => ?_) (retJ_err q)
  cases x with
  | rf i => cases em1
  | nw o => cases em1
  | fr a =>
    cases a <;> first | (cases em1; done) | skip
    rename_i z
    simp only at em1
    split at em1
    · rename_i hz
      have r1 := Bd.top b1 (a := .str z) rfl
      cases r1
      refine ⟨z, rfl, hz, ?_⟩
      rcases bind_some em1 with ⟨zs, ρ2, e1, e2⟩ | ⟨e, e1, e2⟩
      · cases e2
        exact ⟨c, ρ1, τ, θ, _, ρ', ek, b1.pop, e1, fun H2 b2 => q H2 b2⟩
      · subst e2
        exact ⟨c, ρ1, τ, θ, _, ρ', ek, b1.pop, e1, fun C H2 hm b2 => q C H2 hm b2⟩
    · cases em1⟩
def mFv (m : Mi Rr) : Mi Rr := mBind m fun x ρ => match x with
  | .fr (.str z) => if z.length ≤ 1000 then some (.ok (.fr (.str z)), ρ) else none
  | _ => none
theorem je_fv {e : Expr} {m : Mi Rr} {pos : Pos} (h1 : JE X E e m) : JE X E (.FormattedValue e (-1) none pos) (mFv m) := ⟨PE.weaken (pe_fv h1.p) fun σ H Q h => by
  obtain ⟨c, ρ, τ, θ, o, ρ', ek, b, em, q⟩ := h
  refine te_bind ek b em (fun x v ρ1 H1 hv b1 em1 => ?_) (ret_err q)
  cases x with
  | rf i => cases em1
  | nw o => cases em1
  | fr a =>
    cases a <;> first | (cases em1; done) | skip
    rename_i z
    simp only at em1
    split at em1
    · rename_i hz
      have r1 := Bd.top b1 (a := .str z) rfl
      cases r1
      cases em1
      exact ⟨z, rfl, hz, q _ H1 trivial b1⟩
    · cases em1⟩
def mJs (m : Mi (List Str)) : Mi Rr := mBind m fun zs => mPure (.fr (.str (catS zs)))
theorem je_js {v1 v2 : Expr} {es : List Expr} {m : Mi (List Str)} {pos : Pos} (h : JJ X E (v1 :: v2 :: es) m) (hl : (v1 :: v2 :: es).length ≤ 100 := by decide) (hs : evalEach (v1 :: v2 :: es) X.env = eval v1 X.env :: eval v2 X.env :: evalEach es X.env := by rfl) : JE X E (.JoinedStr (v1 :: v2 :: es) pos) (mJs m) :=
  ⟨PE.weaken (pe_js h.p hl hs) fun σ H Q h => by
    obtain ⟨c, ρ, τ, θ, o, ρ', ek, b, em, q⟩ := h
    rcases bind_some em with ⟨zs, ρ1, e1, e2⟩ | ⟨e, e1, e2⟩
    · cases e2
      exact ⟨c, ρ, τ, θ, _, ρ', ek, b, e1, fun H1 b1 => q _ H1 trivial (b1.push fun _ => .str _)⟩
    · subst e2
      exact ⟨c, ρ, τ, θ, _, ρ', ek, b, e1, fun C H1 hm b1 => q C H1 hm b1⟩⟩
def gLstM (n : Nat) (gs : Mgs) : Mg := fun a ρ => match a with
  | .lst as => if as.length = n then gs as ρ else none
  | _ => none
theorem jg_lst {lo : Nat} {es : List Expr} {k n : Nat} {gs : Mgs} {pos : Pos} (hc : X.calm = true) (h : JGs X lo es gs) (hn : (assignEach es X.env).length = n := by rfl) (hst : (assignEach es X.env).findIdx? (·.1) = none := by rfl) : JG X lo (.Tuple es k pos) (gLstM n gs) := ⟨fun pins s σ H v u Q I r h' => by
  refine pg_lst hc h.p hn hst pins s σ H v u Q I r ?_
  obtain ⟨c, ρ, τ, θ, a, ρ', ek, b, em, q⟩ := h'
  cases a <;> first | (cases em; done) | skip
  rename_i as
  unfold gLstM at em
  simp only at em
  split at em
  · rename_i hl
    obtain ⟨L, bl, i1⟩ := Bd.open (r := .fr (.lst as)) b trivial rfl
    obtain ⟨p, vs, rfl, s1, rr⟩ := i1.1 as rfl
    have : c.K = X.K := congrArg Kx.K ek
    refine ⟨p, vs, rfl, by rw [← this]; exact s1, by rw [rr.len]; exact hl, c, ρ, τ, θ, as, ρ', ek, rr.len, ?_, em, q⟩
    obtain ⟨nd, rel, own, fr, kp, lt, hdd⟩ := bl
    exact ⟨L, nd, by have := (SlRs.frs (H := H) rr).app rel; simpa [List.append_assoc] using this, own, fr, kp, by simp [lt, rr.len], hdd⟩
  · cases em⟩
def gOrM (f g : Mg) : Mg := fun a ρ => match f a ρ with
  | some r => some r
  | none => g a ρ
theorem jg_or {lo : Nat} {tg : Expr} {f g : Mg} (h : JG X lo tg f) (h' : JG X lo tg g) : JG X lo tg (gOrM f g) := ⟨fun pins s σ H v u Q I r h0 => by
  obtain ⟨c, ρ, τ, θ, a, ρ', ek, b, em, q⟩ := h0
  unfold gOrM at em
  cases e : f a ρ with
  | some z => simp only [e] at em; cases em; exact h.p pins s σ H v u Q I r ⟨c, ρ, τ, θ, a, _, ek, b, e, q⟩
  | none => simp only [e] at em; exact h'.p pins s σ H v u Q I r ⟨c, ρ, τ, θ, a, _, ek, b, em, q⟩⟩
def sAsg (m : Mi Rr) (G : Mg) : Ms := sBind m fun r ρ => match frz1 r ρ with
  | some (a, ρ1) => match G a ρ1 with
    | some ρ2 => some (.nx, ρ2)
    | none => none
  | none => none
theorem js_asg {tg e : Expr} {m : Mi Rr} {G : Mg} {pos : Pos} (he : JE X E e m) (hg : JG X 0 tg G) (hs : swapsWithSole [tg] e pos.line X.env = pure false := by rfl) (hw : swappedStores [tg] e X.env = pure none := by rfl)
    (hp : ∀ {te : TE} {g : TG}, PE X e te → PG X tg g → PS X (.Assign [tg] e pos) (tAsg te g)) : JS X E (.Assign [tg] e pos) (sAsg m G) := ⟨PS.weaken (hp he.p hg.p) fun D σ H h => by
  obtain ⟨c, ρ, τ, θ, f, ρ', ek, b, em, q⟩ := h
  refine se_bind ek b em q fun r v ρ1 H1 hv b1 em1 => ?_
  cases e1 : frz1 r ρ1 with
  | none => simp only [e1] at em1; cases em1
  | some p =>
    obtain ⟨a, ρ2⟩ := p
    simp only [e1] at em1
    have b2 := Bd.frz1 (xs := []) (ss := []) rfl b1 hv e1
    cases e2 : G a ρ2 with
    | none => simp only [e2] at em1; cases em1
    | some ρ3 =>
      simp only [e2] at em1; cases em1
      exact ⟨c, ρ2, τ, _, a, ρ', ek, b2, e2, fun σ' H' _ _ b3 => q σ' H' b3⟩⟩
def sPar (i j : Nat) (m : Mi (List Rr)) : Ms := sBind m fun rs ρ => match frzL rs ρ with
  | some ([a, b], ρ1) => match put i (.fr a) ρ1 with
    | some ρ2 => match put j (.fr b) ρ2 with
      | some ρ3 => some (.nx, ρ3)
      | none => none
    | none => none
  | _ => none
theorem js_par {s : Stmt} {i j : Nat} {es : List Expr} {m : Mi (List Rr)} (ha : JA X E es m) (hij : i ≠ j) (hp : ∀ {ta : TA}, PA X es ta → PS X s (tPar i j ta)) : JS X E s (sPar i j m) := ⟨PS.weaken (hp ha.p) fun D σ H h => by
  obtain ⟨c, ρ, τ, θ, f, ρ', ek, b, em, q⟩ := h
  rcases sbind_some em with ⟨rs, ρ1, e1, e2⟩ | ⟨e, e1, e2⟩
  · refine ⟨c, ρ, τ, _, _, ρ1, ek, b, e1, fun vs H1 hv b1 => ?_⟩
    cases ef : frzL rs ρ1 with
    | none => simp only [ef] at e2; cases e2
    | some p =>
      obtain ⟨as, ρ2⟩ := p
      obtain ⟨b2, l2⟩ := Bd.frzL hv b1 ef
      match as, ef, e2, b2, l2 with
      | [a, d], ef, e2, b2, l2 =>
        simp only [ef] at e2
        match vs, b2, l2 with
        | [v, w], b2, _ =>
          cases e3 : put i (.fr a) ρ2 with
          | none => simp only [e3] at e2; cases e2
          | some ρ3 =>
            simp only [e3] at e2
            cases e4 : put j (.fr d) ρ3 with
            | none => simp only [e4] at e2; cases e2
            | some ρ4 =>
              simp only [e4] at e2; cases e2
              refine ⟨v, w, rfl, q _ H1 ?_⟩
              have b3 : Bd c σ H1 ρ2 (some w :: some v :: τ) (.fr d :: .fr a :: θ.map Sl.fr) := by simpa using b2
              have b4 : Bd c σ H1 ρ2 (some v :: some w :: τ) (.fr a :: .fr d :: θ.map Sl.fr) := by
                obtain ⟨L, bl, ra⟩ := Bd.frs (vs := [w, v]) (as := [d, a]) b3 rfl
                cases ra with | cons h1 ra => cases ra with | cons h2 _ =>
                have := bl.push h1
                obtain ⟨L', bl', ra'⟩ := Bd.top1 this
                exact BdL.push2 bl h2 h1
              exact Bd.put (Bd.put b4 (fun o z => by cases z) e3) (fun o z => by cases z) e4
      | [], ef, e2, _, _ => simp only [ef] at e2; cases e2
      | [_], ef, e2, _, _ => simp only [ef] at e2; cases e2
      | _ :: _ :: _ :: _, ef, e2, _, _ => simp only [ef] at e2; cases e2
  · subst e2
    exact ⟨c, ρ, τ, _, _, ρ', ek, b, e1, fun C H1 hm b1 => q C σ H1 hm b1⟩⟩
end
end M
namespace M
open PySem L2
section
variable {X : Cx} {E : XK} {a b : Expr} {ma mb : Mi Rr} {pos : Pos}
abbrev fAdd := fOr fAddI (fOr fAddS fAddT)
abbrev fMul := fOr fMulI fMulS
theorem je_add (ha : JE X E a ma) (hb : JE X E b mb) : JE X E (.BinOp a .Add b pos) (mOp fAdd ma mb) := je_op (OpR.or' op_add (OpR.or' op_add_str op_catB)) (os_addI.or (os_addS.or os_addT)) ha hb
theorem je_sub (ha : JE X E a ma) (hb : JE X E b mb) : JE X E (.BinOp a .Sub b pos) (mOp fSub ma mb) := je_op op_sub os_sub ha hb
theorem je_mul (ha : JE X E a ma) (hb : JE X E b mb) : JE X E (.BinOp a .Mult b pos) (mOp fMul ma mb) := je_op (OpR.or' op_mulB op_mulS) (os_mulI.or os_mulS) ha hb
theorem je_div (ha : JE X E a ma) (hb : JE X E b mb) : JE X E (.BinOp a .FloorDiv b pos) (mOp fDiv ma mb) := je_op op_fdivB os_div ha hb
theorem je_mod (ha : JE X E a ma) (hb : JE X E b mb) : JE X E (.BinOp a .Mod b pos) (mOp fMod ma mb) := je_op op_modN os_mod ha hb
theorem je_pow (ha : JE X E a ma) (hb : JE X E b mb) : JE X E (.BinOp a .Pow b pos) (mOp fPow ma mb) := je_op op_pow os_pow ha hb
theorem je_eq (hu : X.A.units + 64 < cLine) (ha : JE X E a ma) (hb : JE X E b mb) : JE X E (.Compare a [.Eq] [b] pos) (mOp fEq ma mb) := je_cmp (op_eqD hu) os_eq ha hb (nomark _)
theorem je_ge (ha : JE X E a ma) (hb : JE X E b mb) : JE X E (.Compare a [.GtE] [b] pos) (mOp fGe ma mb) := je_cmp op_ge os_ge ha hb (nomark _)
theorem jt_eq (hu : X.A.units + 64 < cLine) (ha : JE X E a ma) (hb : JE X E b mb) : JT X E (.Compare a [.Eq] [b] pos) (mTest (mOp fEq ma mb)) := jt_cmp (op_eqD hu) os_eq ha hb (nomark _)
theorem jt_ne (hu : X.A.units + 64 < cLine) (ha : JE X E a ma) (hb : JE X E b mb) : JT X E (.Compare a [.NotEq] [b] pos) (mTest (mOp fNe ma mb)) := jt_cmp (op_neD hu) os_ne ha hb (nomark _)
theorem jt_lt (ha : JE X E a ma) (hb : JE X E b mb) : JT X E (.Compare a [.Lt] [b] pos) (mTest (mOp fLt ma mb)) := jt_cmp op_lt os_lt ha hb (nomark _)
theorem jt_gt (ha : JE X E a ma) (hb : JE X E b mb) : JT X E (.Compare a [.Gt] [b] pos) (mTest (mOp fGt ma mb)) := jt_cmp op_gt os_gt ha hb (nomark _)
theorem ra_num {k : Kx} {p : Addr} {i j : Int} (h : ∀ H, SqT k.K H p [.int i, .int j]) : ∀ G, RA k G (.ref p) (.tup [.int i, .int j]) := fun G => .tup (h G) (.cons (.int _) (.cons (.int _) .nil))
end
def BIG : Nat := 2 ^ 10000
def sp_law (K : PySem.W.Frag) : Sp := fun vs H Q _ => ∃ (p : Addr) (ns : List Int), vs = [.ref p] ∧ SqL K H p (ns.map V.int) ∧ ns.length ≤ 63 ∧ ∀ H', Q (.bl true) H'
theorem ra_ints {k : Kx} {G : Hp} : ∀ (ns : List Int), RAs k G (ns.map V.int) (ns.map A.int)
  | [] => .nil
  | n :: ns => .cons (.int n) (ra_ints ns)
theorem law_ok {P : Program} {w : World} {K : PySem.W.Frag} {mg : Str → Option Value} {base : Heap} {CX : CXT} {k : Nat} {f : Addr} {fd : FuncData} {ps : List Str} {m : Ms} (F : FnOk P w K mg base CX k f fd ps (SpM ⟨K, mg⟩ 1 m))
    (h : ∀ ns : List Int, ns.length ≤ 63 → ∃ ρ, m [.fr (.lst (ns.map A.int))] = some (.rt (.fr (.bl true)), ρ)) : FnOk P w K mg base CX k f fd ps (sp_law K) :=
  F.imp fun vs H Q E q => by
    obtain ⟨p, ns, rfl, hs, hl, q⟩ := q
    obtain ⟨ρ, e⟩ := h ns hl
    let c : Cn := { K := K, mg := mg, σ0 := [some (.ref p)], H0 := H, Lp := [], Hd := [], Wk := [] }
    refine ⟨rfl, c, _, _, ρ, rfl, rfl, rfl, ⟨.nil, SlRs.cons (L := []) (.fr (.lst (sqL_sm (Sq.of fun b o e => ?_) hs) (ra_ints ns))) .nil, fun p hp => (by cases hp), ⟨fun b o e => ⟨o, e, fun _ _ => rfl⟩, fun q hq => (by cases hq)⟩, fun i o _ => rfl, rfl, fun q hq => (by cases hq)⟩, e, fun v H' _ b => ?_⟩
    · rw [g_out (c := c) (fun z => by cases z) (fun z => by cases z)]; exact e
    · have r := Bd.top b (a := .bl true) rfl
      cases r
      exact q H'
def mFz (m : Mi Rr) : Mi Rr := mBind m fun r ρ => match frz1 r ρ with
  | some (a, ρ') => some (.ok (.fr a), ρ')
  | none => none
theorem je_fz {X : Cx} {E : XK} {e : Expr} {m : Mi Rr} (he : JE X E e m) : JE X E e (mFz m) := ⟨PE.weaken he.p fun σ H Q h => by
  obtain ⟨c, ρ, τ, θ, o, ρ', ek, b, em, q⟩ := h
  refine te_bind ek b em (fun x v ρ1 H1 hv b1 em1 => ?_) (ret_err q)
  cases e1 : frz1 x ρ1 with
  | none => simp only [e1] at em1; cases em1
  | some p =>
    obtain ⟨a, ρ2⟩ := p
    simp only [e1] at em1
    cases em1
    exact q v H1 trivial (Bd.frz1 (xs := []) (ss := []) rfl b1 hv e1)⟩
end M
namespace M
open PySem L2 W
def callK (f : Ms) (das : List A) : List Rr → Mi Rr := fun rs ρ => match takeL (rs ++ das.map Rr.fr) ρ with
  | some (as, ρt) => match f (as.map toP) with
    | some (.rt s, ρc) => match rrOf s, putL ρ (rs ++ das.map Rr.fr) (backL as.length ρc) ρt with
      | some r, some ρ' => some (.ok r, ρ')
      | _, _ => none
    | some (.ex x, ρc) => match putL ρ (rs ++ das.map Rr.fr) (backL as.length ρc) ρt with
      | some ρ' => some (.error x, ρ')
      | none => none
    | _ => none
  | none => none
def Val (f : Ms) (as : List A) (a : A) : Prop := ∃ ρ, f (as.map Sl.fr) = some (.rt (.fr a), ρ)
def ValN (f : Ms) (as : List A) (o : LO) : Prop := ∃ ρ, f (as.map Sl.fr) = some (.rt (.lv o), ρ)
def ValW (f : Ms) (o : LO) (as : List A) (s : Sl) (o' : LO) : Prop := ∃ ρ, f (.pv o :: as.map Sl.fr) = some (.rt s, .pv o' :: ρ)
theorem takeL_fr (as : List A) (ρ : List Sl) : takeL (as.map Rr.fr) ρ = some (as.map Sl.fr, ρ) := by
  induction as generalizing ρ with
  | nil => rfl
  | cons a as ih => simp only [List.map_cons, takeL, take1, ih]
theorem toP_fr (as : List A) : (as.map Sl.fr).map toP = as.map Sl.fr := by rw [List.map_map]; rfl
theorem putL_fr (ρ0 : List Sl) : ∀ (as : List A) (ss : List Sl) (ρ : List Sl), as.length = ss.length → putL ρ0 (as.map Rr.fr) ss ρ = some ρ
  | [], [], ρ, _ => rfl
  | a :: as, s :: ss, ρ, h => by rw [List.map_cons, putL, putL_fr ρ0 as ss ρ (by simpa using h)]; rfl
  | [], _ :: _, _, h => by simp at h
  | _ :: _, [], _, h => by simp at h
theorem callK_V {f : Ms} {as : List A} {a : A} (h : Val f as a) (ρ : List Sl) : callK f [] (as.map Rr.fr) ρ = some (.ok (.fr a), ρ) := by
  obtain ⟨ρc, h⟩ := h
  unfold callK
  rw [List.map_nil, List.append_nil, takeL_fr]
  simp only [toP_fr, h, rrOf]
  rw [putL_fr _ _ _ _ (by rw [backL_len, List.length_map])]
theorem callK_N {f : Ms} {as : List A} {o : LO} (h : ValN f as o) (ρ : List Sl) : callK f [] (as.map Rr.fr) ρ = some (.ok (.nw o), ρ) := by
  obtain ⟨ρc, h⟩ := h
  unfold callK
  rw [List.map_nil, List.append_nil, takeL_fr]
  simp only [toP_fr, h, rrOf]
  rw [putL_fr _ _ _ _ (by rw [backL_len, List.length_map])]
theorem callK_W {f : Ms} {as : List A} {o o' : LO} {s : Sl} {r : Rr} {i : Nat} {ρ : List Sl} (h : ValW f o as s o') (hr : rrOf s = some r) (hl : liveAt ρ i = some o) : callK f [] (.rf i :: as.map Rr.fr) ρ = some (.ok r, setAt ρ i o') := by
  obtain ⟨ρc, h⟩ := h
  unfold liveAt at hl
  unfold setAt
  have hi : ∀ s, ρ[i]? = some s → (ρ.set i Sl.un)[i]? = some .un := fun s e => List.getElem?_set_self (List.getElem?_eq_some_iff.mp e).1
  have key : ∀ (s0 : Sl) (k : LO → Sl), ρ[i]? = some s0 → take1 (.rf i) ρ = some (.lv o, ρ.set i .un) → (∀ s ρ', ρ'[i]? = some Sl.un → put1 ρ (.rf i) (.pv s) ρ' = some (ρ'.set i (k s))) → callK f [] (.rf i :: as.map Rr.fr) ρ = some (.ok r, ρ.set i (k o')) := by
    intro s0 k es ht hp
    unfold callK
    rw [List.map_nil, List.append_nil, takeL, ht]
    simp only [takeL_fr]
    have h' : f (List.map toP (Sl.lv o :: List.map Sl.fr as)) = some (.rt s, .pv o' :: ρc) := by rw [List.map_cons, toP_fr]; exact h
    rw [h']
    simp only [hr]
    have hb : backL (Sl.lv o :: List.map Sl.fr as).length (.pv o' :: ρc) = .pv o' :: backL as.length ρc := by rw [List.length_cons, List.length_map]; rfl
    rw [hb, putL, putL_fr _ _ _ _ (by rw [backL_len])]
    simp only [hp _ _ (hi s0 es), List.set_set]
  cases es : ρ[i]? with
  | none => simp only [es] at hl; cases hl
  | some t =>
    cases t with
    | un => simp only [es] at hl; cases hl
    | fr a => simp only [es] at hl; cases hl
    | lv o1 =>
      simp only [es] at hl; cases hl
      refine key _ Sl.lv es (by unfold take1; simp only [es]) fun s ρ' e => ?_
      unfold put1
      simp only [es, e]
    | pv o1 =>
      simp only [es] at hl; cases hl
      refine key _ Sl.pv es (by unfold take1; simp only [es]) fun s ρ' e => ?_
      unfold put1
      simp only [es, e]
theorem forL_ind {G : Mg} {b : Ms} {as : List A} (P : Nat → List Sl → Prop) {ρ : List Sl} (h0 : P 0 ρ) (hs : ∀ i a ρ, as[i]? = some a → P i ρ → ∃ ρ1 ρ2, G a ρ = some ρ1 ∧ (b ρ1 = some (.nx, ρ2) ∨ b ρ1 = some (.ct, ρ2)) ∧ P (i + 1) ρ2) :
    ∃ ρ', forL G b as ρ = some (.nx, ρ') ∧ P as.length ρ' := by
  have key : ∀ n i ρ, as.length - i = n → i ≤ as.length → P i ρ → ∃ ρ', forL G b (as.drop i) ρ = some (.nx, ρ') ∧ P as.length ρ' := by
    intro n
    induction n with
    | zero =>
      intro i ρ e hi p
      have : i = as.length := by omega
      subst this
      exact ⟨ρ, by rw [List.drop_length]; rfl, p⟩
    | succ n ih =>
      intro i ρ e hi p
      have hlt : i < as.length := by omega
      obtain ⟨ρ1, ρ2, h1, h2, h3⟩ := hs i as[i] ρ (by simp [hlt]) p
      obtain ⟨ρ', h4, h5⟩ := ih (i + 1) ρ2 (by omega) hlt h3
      refine ⟨ρ', ?_, h5⟩
      rw [List.drop_eq_getElem_cons hlt, forL, h1]
      rcases h2 with h2 | h2
      · simp only [h2]; exact h4
      · simp only [h2]; exact h4
  simpa using key as.length 0 ρ (by simp) (Nat.zero_le _) h0
theorem compL_ind {G : Mg} {t : Mi Bool} {e : Mi Rr} {as : List A} (P : Nat → List A → List Sl → Prop) {ρ : List Sl} (h0 : P 0 [] ρ)
    (hs : ∀ i a acc ρ, as[i]? = some a → P i acc ρ → ∃ ρ1, G a ρ = some ρ1 ∧ ((∃ ρ2 r ρ3 d ρ4, t ρ1 = some (.ok true, ρ2) ∧ e ρ2 = some (.ok r, ρ3) ∧ frz1 r ρ3 = some (d, ρ4) ∧ P (i + 1) (acc ++ [d]) ρ4) ∨ ∃ ρ2, t ρ1 = some (.ok false, ρ2) ∧ P (i + 1) acc ρ2)) :
    ∃ ys ρ', compL G t e as [] ρ = some (ys, ρ') ∧ P as.length ys ρ' := by
  have key : ∀ n i acc ρ, as.length - i = n → i ≤ as.length → P i acc ρ → ∃ ys ρ', compL G t e (as.drop i) acc ρ = some (ys, ρ') ∧ P as.length ys ρ' := by
    intro n
    induction n with
    | zero =>
      intro i acc ρ e' hi p
      have : i = as.length := by omega
      subst this
      exact ⟨acc, ρ, by rw [List.drop_length]; rfl, p⟩
    | succ n ih =>
      intro i acc ρ e' hi p
      have hlt : i < as.length := by omega
      obtain ⟨ρ1, h1, h2⟩ := hs i as[i] acc ρ (by simp [hlt]) p
      rw [List.drop_eq_getElem_cons hlt, compL, h1]
      rcases h2 with ⟨ρ2, r, ρ3, d, ρ4, q1, q2, q3, q4⟩ | ⟨ρ2, q1, q2⟩
      · simp only [q1, q2, q3]
        exact ih (i + 1) _ ρ4 (by omega) hlt q4
      · simp only [q1]
        exact ih (i + 1) _ ρ2 (by omega) hlt q2
  simpa using key as.length 0 [] ρ (by simp) (Nat.zero_le _) h0
theorem while_ind {t : Mi Bool} {b : Ms} (P : Nat → List Sl → Prop) (Q : List Sl → Prop) (hs : ∀ k ρ, P k ρ → (∃ ρ1, t ρ = some (.ok false, ρ1) ∧ Q ρ1) ∨ ∃ ρ1 ρ2 k', t ρ = some (.ok true, ρ1) ∧ (b ρ1 = some (.nx, ρ2) ∨ b ρ1 = some (.ct, ρ2)) ∧ k' < k ∧ P k' ρ2) :
    ∀ {n k : Nat} {ρ : List Sl}, P k ρ → k < n → ∃ ρ', whileL t b n ρ = some (.nx, ρ') ∧ Q ρ' := by
  intro n
  induction n with
  | zero => intro k ρ _ h; omega
  | succ n ih =>
    intro k ρ p hk
    rcases hs k ρ p with ⟨ρ1, h1, h2⟩ | ⟨ρ1, ρ2, k', h1, h2, h3, h4⟩
    · exact ⟨ρ1, by rw [whileL, h1], h2⟩
    · obtain ⟨ρ', h5, h6⟩ := ih h4 (by omega)
      refine ⟨ρ', ?_, h6⟩
      rw [whileL, h1]
      rcases h2 with h2 | h2
      · simp only [h2]; exact h5
      · simp only [h2]; exact h5
theorem big_gt {n : Nat} (h : n < 2 ^ 9500) : n < BIG := Nat.lt_of_lt_of_le h (by unfold BIG; exact Nat.pow_le_pow_right (by decide) (by decide))
def nm (x : Num) : A := .tup [.int x.1, .int x.2]
theorem toD_nm (x : Num) : toD (nm x) = some (.tup [.int x.1, .int x.2]) := by
  simp [nm, toD, toDs]
theorem eqA_nm (x y : Num) : eqA (nm x) (nm y) = some (decide (x = y)) := by
  unfold eqA
  simp only [toD_nm]
  rw [if_pos (by simp [D.depth, D.depths])]
  obtain ⟨x1, x2⟩ := x
  obtain ⟨y1, y2⟩ := y
  simp [D.eq, D.eqs, Bool.beq_eq_decide_eq]
theorem eqA_int (i j : Int) : eqA (.int i) (.int j) = some (decide (i = j)) := by
  unfold eqA
  simp only [toD]
  rw [if_pos (by simp [D.depth])]
  simp [D.eq, Bool.beq_eq_decide_eq]
section
variable {α β : Type} {ρ : List Sl}
theorem e_bind (m : Mi α) (f : α → Mi β) : mBind m f ρ = (match m ρ with | some (.ok x, ρ1) => f x ρ1 | some (.error e, ρ1) => some (.error e, ρ1) | none => none) := rfl
theorem e_sbind (m : Mi α) (f : α → Ms) : sBind m f ρ = (match m ρ with | some (.ok x, ρ1) => f x ρ1 | some (.error e, ρ1) => some (.ex e, ρ1) | none => none) := rfl
theorem e_pure (x : α) : (mPure x : Mi α) ρ = some (.ok x, ρ) := rfl
theorem e_var (i : Nat) : mVar i ρ = (match ρ[i]? with | some (.fr a) => some (.ok (.fr a), ρ) | some (.lv _) => some (.ok (.rf i), ρ) | some (.pv _) => some (.ok (.rf i), ρ) | _ => none) := rfl
theorem e_varF (i : Nat) : mVarF i ρ = (match ρ[i]? with | some (.fr a) => some (.ok (.fr a), ρ) | some (.lv o) => some (.ok (.fr o.a), ρ.set i (.fr o.a)) | _ => none) := rfl
theorem e_C (a : A) : mC a ρ = some (.ok (.fr a), ρ) := rfl
def opK (f : A → A → Option Rr) (x y : Rr) (ρ : List Sl) : Option (Except Str Rr × List Sl) := match res ρ x, res ρ y with
  | some a, some b => match f a b with
    | some r => some (.ok r, ρ)
    | none => none
  | _, _ => none
theorem e_op (f : A → A → Option Rr) (ma mb : Mi Rr) : mOp f ma mb ρ = (match ma ρ with | some (.ok x, ρ1) => (match mb ρ1 with | some (.ok y, ρ2) => opK f x y ρ2 | some (.error e, ρ2) => some (.error e, ρ2) | none => none) | some (.error e, ρ1) => some (.error e, ρ1) | none => none) := by
  unfold mOp mBind opK
  cases ma ρ with
  | none => rfl
  | some p =>
    obtain ⟨o, ρ1⟩ := p
    cases o with
    | error e => rfl
    | ok x =>
      simp only
      cases mb ρ1 with
      | none => rfl
      | some p =>
        obtain ⟨o, ρ2⟩ := p
        cases o with
        | error e => rfl
        | ok y => rfl
def unK (f : A → Option Rr) (x : Rr) (ρ : List Sl) : Option (Except Str Rr × List Sl) := match res ρ x with
  | some a => match f a with
    | some r => some (.ok r, ρ)
    | none => none
  | none => none
theorem e_un (f : A → Option Rr) (m : Mi Rr) : mUn f m ρ = (match m ρ with | some (.ok x, ρ1) => unK f x ρ1 | some (.error e, ρ1) => some (.error e, ρ1) | none => none) := by
  unfold mUn mBind
  cases m ρ with
  | none => rfl
  | some p =>
    obtain ⟨o, ρ1⟩ := p
    cases o with
    | error e => rfl
    | ok x => rfl
theorem e_b1 (f : A → Option Rr) (m : Mi Rr) : mB1 f m ρ = mUn f m ρ := rfl
theorem e_b2 (f : A → A → Option Rr) (m n : Mi Rr) : mB2 f m n ρ = mOp f m n ρ := rfl
def testK (r : Rr) (ρ : List Sl) : Option (Except Str Bool × List Sl) := match asB r with
  | some b => some (.ok b, ρ)
  | none => none
theorem e_test (m : Mi Rr) : mTest m ρ = (match m ρ with | some (.ok x, ρ1) => testK x ρ1 | some (.error e, ρ1) => some (.error e, ρ1) | none => none) := by
  unfold mTest mBind
  cases m ρ with
  | none => rfl
  | some p =>
    obtain ⟨o, ρ1⟩ := p
    cases o with
    | error e => rfl
    | ok x => rfl
theorem e_testB (k : Bool) : testK (.fr (.bl k)) ρ = some (.ok k, ρ) := rfl
theorem e_and (m n : Mi Bool) : mAnd m n ρ = (match m ρ with | some (.ok true, ρ1) => n ρ1 | some (.ok false, ρ1) => some (.ok false, ρ1) | some (.error e, ρ1) => some (.error e, ρ1) | none => none) := by
  unfold mAnd mBind
  cases m ρ with
  | none => rfl
  | some p => obtain ⟨o, ρ1⟩ := p; cases o with | error e => rfl | ok k => cases k <;> rfl
theorem e_or (m n : Mi Bool) : mOr m n ρ = (match m ρ with | some (.ok true, ρ1) => some (.ok true, ρ1) | some (.ok false, ρ1) => n ρ1 | some (.error e, ρ1) => some (.error e, ρ1) | none => none) := by
  unfold mOr mBind
  cases m ρ with
  | none => rfl
  | some p => obtain ⟨o, ρ1⟩ := p; cases o with | error e => rfl | ok k => cases k <;> rfl
theorem e_not (m : Mi Bool) : mNot m ρ = (match m ρ with | some (.ok k, ρ1) => some (.ok (!k), ρ1) | some (.error e, ρ1) => some (.error e, ρ1) | none => none) := by
  unfold mNot mBind
  cases m ρ with
  | none => rfl
  | some p =>
    obtain ⟨o, ρ1⟩ := p
    cases o with
    | error e => rfl
    | ok x => rfl
theorem e_andV (m n : Mi Rr) : mAndV m n ρ = (match mTest m ρ with | some (.ok true, ρ1) => n ρ1 | some (.ok false, ρ1) => some (.ok (.fr (.bl false)), ρ1) | some (.error e, ρ1) => some (.error e, ρ1) | none => none) := by
  unfold mAndV mBind
  cases mTest m ρ with
  | none => rfl
  | some p => obtain ⟨o, ρ1⟩ := p; cases o with | error e => rfl | ok k => cases k <;> rfl
theorem e_orV (m n : Mi Rr) : mOrV m n ρ = (match mTest m ρ with | some (.ok true, ρ1) => some (.ok (.fr (.bl true)), ρ1) | some (.ok false, ρ1) => n ρ1 | some (.error e, ρ1) => some (.error e, ρ1) | none => none) := by
  unfold mOrV mBind
  cases mTest m ρ with
  | none => rfl
  | some p => obtain ⟨o, ρ1⟩ := p; cases o with | error e => rfl | ok k => cases k <;> rfl
theorem e_notV (m : Mi Rr) : mNotV m ρ = (match mTest m ρ with | some (.ok k, ρ1) => some (.ok (.fr (.bl (!k))), ρ1) | some (.error e, ρ1) => some (.error e, ρ1) | none => none) := by
  unfold mNotV mBind
  cases mTest m ρ with
  | none => rfl
  | some p =>
    obtain ⟨o, ρ1⟩ := p
    cases o with
    | error e => rfl
    | ok x => rfl
theorem e_if (t : Mi Bool) (m n : Mi Rr) : mIf t m n ρ = (match t ρ with | some (.ok true, ρ1) => m ρ1 | some (.ok false, ρ1) => n ρ1 | some (.error e, ρ1) => some (.error e, ρ1) | none => none) := by
  unfold mIf mBind
  cases t ρ with
  | none => rfl
  | some p => obtain ⟨o, ρ1⟩ := p; cases o with | error e => rfl | ok k => cases k <;> rfl
theorem e_nil : mNil ρ = some (.ok [], ρ) := rfl
theorem e_cons (m : Mi Rr) (n : Mi (List Rr)) : mCons m n ρ = (match m ρ with | some (.ok x, ρ1) => (match n ρ1 with | some (.ok xs, ρ2) => some (.ok (x :: xs), ρ2) | some (.error e, ρ2) => some (.error e, ρ2) | none => none) | some (.error e, ρ1) => some (.error e, ρ1) | none => none) := by
  unfold mCons mBind
  cases m ρ with
  | none => rfl
  | some p =>
    obtain ⟨o, ρ1⟩ := p
    cases o with
    | error e => rfl
    | ok x =>
      simp only
      cases n ρ1 with
      | none => rfl
      | some p =>
        obtain ⟨o, ρ2⟩ := p
        cases o with
        | error e => rfl
        | ok y => rfl
def tupK (rs : List Rr) (ρ : List Sl) : Option (Except Str Rr × List Sl) := match frzL rs ρ with
  | some (as, ρ') => if as.length ≤ 1000 then some (.ok (.fr (.tup as)), ρ') else none
  | none => none
theorem e_tup (m : Mi (List Rr)) : mTup m ρ = (match m ρ with | some (.ok x, ρ1) => tupK x ρ1 | some (.error e, ρ1) => some (.error e, ρ1) | none => none) := by
  unfold mTup mBind
  cases m ρ with
  | none => rfl
  | some p =>
    obtain ⟨o, ρ1⟩ := p
    cases o with
    | error e => rfl
    | ok x => rfl
def lstK (rs : List Rr) (ρ : List Sl) : Option (Except Str Rr × List Sl) := match frzL rs ρ with
  | some (as, ρ') => if as.length ≤ 1000 then some (.ok (.nw (.lst as)), ρ') else none
  | none => none
theorem e_lst (m : Mi (List Rr)) : mLst m ρ = (match m ρ with | some (.ok x, ρ1) => lstK x ρ1 | some (.error e, ρ1) => some (.error e, ρ1) | none => none) := by
  unfold mLst mBind
  cases m ρ with
  | none => rfl
  | some p =>
    obtain ⟨o, ρ1⟩ := p
    cases o with
    | error e => rfl
    | ok x => rfl
theorem e_call (f : Ms) (das : List A) (m : Mi (List Rr)) : mCall f das m ρ = (match m ρ with | some (.ok x, ρ1) => callK f das x ρ1 | some (.error e, ρ1) => some (.error e, ρ1) | none => none) := by
  unfold mCall mBind
  cases m ρ with
  | none => rfl
  | some p =>
    obtain ⟨o, ρ1⟩ := p
    cases o with
    | error e => rfl
    | ok x => rfl
theorem e_seq (m n : Ms) : sSeq m n ρ = (match m ρ with | some (.nx, ρ1) => n ρ1 | r => r) := rfl
theorem e_next : sNext ρ = some (.nx, ρ) := rfl
def setK (i : Nat) (r : Rr) (ρ : List Sl) : Option (Fl × List Sl) := match stT r ρ with
  | some (t, ρ1) => match put i t ρ1 with
    | some ρ2 => some (.nx, ρ2)
    | none => none
  | none => none
theorem e_set (i : Nat) (m : Mi Rr) : sSet i m ρ = (match m ρ with | some (.ok x, ρ1) => setK i x ρ1 | some (.error e, ρ1) => some (.ex e, ρ1) | none => none) := by
  unfold sSet sBind
  cases m ρ with
  | none => rfl
  | some p =>
    obtain ⟨o, ρ1⟩ := p
    cases o with
    | error e => rfl
    | ok x => rfl
def retK (r : Rr) (ρ : List Sl) : Option (Fl × List Sl) := match outS r ρ with
  | some (s, ρ') => some (.rt s, ρ')
  | none => none
theorem e_ret (m : Mi Rr) : sRet m ρ = (match m ρ with | some (.ok x, ρ1) => retK x ρ1 | some (.error e, ρ1) => some (.ex e, ρ1) | none => none) := by
  unfold sRet sBind
  cases m ρ with
  | none => rfl
  | some p =>
    obtain ⟨o, ρ1⟩ := p
    cases o with
    | error e => rfl
    | ok x => rfl
theorem e_retN : sRetN ρ = some (.rt (.fr .non), ρ) := rfl
theorem e_expr (m : Mi Rr) : sExpr m ρ = (match m ρ with | some (.ok _, ρ1) => some (.nx, ρ1) | some (.error e, ρ1) => some (.ex e, ρ1) | none => none) := by
  unfold sExpr sBind
  cases m ρ with
  | none => rfl
  | some p =>
    obtain ⟨o, ρ1⟩ := p
    cases o with
    | error e => rfl
    | ok x => rfl
theorem e_sif (t : Mi Bool) (m n : Ms) : sIf t m n ρ = (match t ρ with | some (.ok true, ρ1) => m ρ1 | some (.ok false, ρ1) => n ρ1 | some (.error e, ρ1) => some (.ex e, ρ1) | none => none) := by
  unfold sIf sBind
  cases t ρ with
  | none => rfl
  | some p => obtain ⟨o, ρ1⟩ := p; cases o with | error e => rfl | ok k => cases k <;> rfl
theorem e_def (loc : Nat) (m : Ms) : mDef loc m ρ = (match m (ρ ++ List.replicate loc .un) with | some (.nx, ρ') => some (.rt (.fr .non), ρ') | some (.rt s, ρ') => some (.rt s, ρ') | some (.ex x, ρ') => some (.ex x, ρ') | _ => none) := by
  unfold mDef
  cases m (ρ ++ List.replicate loc .un) with
  | none => rfl
  | some p => obtain ⟨f, ρ1⟩ := p; cases f <;> rfl
theorem e_for (m : Mi (List A)) (G : Mg) (b : Ms) : sFor m G b ρ = (match m ρ with | some (.ok as, ρ1) => forL G b as ρ1 | some (.error e, ρ1) => some (.ex e, ρ1) | none => none) := by
  unfold sFor sBind
  cases m ρ with
  | none => rfl
  | some p =>
    obtain ⟨o, ρ1⟩ := p
    cases o with
    | error e => rfl
    | ok x => rfl
theorem e_while (n : Nat) (t : Mi Bool) (b : Ms) : sWhile n t b ρ = whileL t b n ρ := rfl
def seqK (r : Rr) (ρ : List Sl) : Option (Except Str (List A) × List Sl) := match frz1 r ρ with
  | some (a, ρ') => match seqA a with
    | some as => some (.ok as, ρ')
    | none => none
  | none => none
theorem e_mseq (m : Mi Rr) : mSeq m ρ = (match m ρ with | some (.ok x, ρ1) => seqK x ρ1 | some (.error e, ρ1) => some (.error e, ρ1) | none => none) := by
  unfold mSeq mBind
  cases m ρ with
  | none => rfl
  | some p =>
    obtain ⟨o, ρ1⟩ := p
    cases o with
    | error e => rfl
    | ok x => rfl
def rng1K (r : Rr) (ρ : List Sl) : Option (Except Str (List A) × List Sl) := match res ρ r with
  | some (.int j) => if -(2 ^ 60) ≤ j ∧ j < 2 ^ 60 then some (.ok (rngA 0 j.toNat), ρ) else none
  | _ => none
theorem e_rng1 (m : Mi Rr) : mRng1 m ρ = (match m ρ with | some (.ok x, ρ1) => rng1K x ρ1 | some (.error e, ρ1) => some (.error e, ρ1) | none => none) := by
  unfold mRng1 mBind
  cases m ρ with
  | none => rfl
  | some p =>
    obtain ⟨o, ρ1⟩ := p
    cases o with
    | error e => rfl
    | ok x => rfl
def compK (n : Nat) (G : Mg) (t : Mi Bool) (e : Mi Rr) (as : List A) (ρ : List Sl) : Option (Except Str Rr × List Sl) := if as.length ≤ 100000 then match compL G t e as [] (ρ ++ List.replicate n .un) with
  | some (ys, ρ') => some (.ok (.nw (.lst ys)), ρ'.take ρ.length)
  | none => none else none
theorem e_comp (n : Nat) (mi : Mi (List A)) (G : Mg) (t : Mi Bool) (e : Mi Rr) : mComp n mi G t e ρ = (match mi ρ with | some (.ok as, ρ1) => compK n G t e as ρ1 | some (.error x, ρ1) => some (.error x, ρ1) | none => none) := by
  unfold mComp mBind
  cases mi ρ with
  | none => rfl
  | some p =>
    obtain ⟨o, ρ1⟩ := p
    cases o with
    | error e => rfl
    | ok x => rfl
theorem e_true : mTrue ρ = some (.ok true, ρ) := rfl
def asgK (G : Mg) (r : Rr) (ρ : List Sl) : Option (Fl × List Sl) := match frz1 r ρ with
  | some (a, ρ1) => match G a ρ1 with
    | some ρ2 => some (.nx, ρ2)
    | none => none
  | none => none
theorem e_asg (m : Mi Rr) (G : Mg) : sAsg m G ρ = (match m ρ with | some (.ok x, ρ1) => asgK G x ρ1 | some (.error e, ρ1) => some (.ex e, ρ1) | none => none) := by
  unfold sAsg sBind
  cases m ρ with
  | none => rfl
  | some p =>
    obtain ⟨o, ρ1⟩ := p
    cases o with
    | error e => rfl
    | ok x => rfl
def parK (i j : Nat) (rs : List Rr) (ρ : List Sl) : Option (Fl × List Sl) := match frzL rs ρ with
  | some ([a, b], ρ1) => match put i (.fr a) ρ1 with
    | some ρ2 => match put j (.fr b) ρ2 with
      | some ρ3 => some (.nx, ρ3)
      | none => none
    | none => none
  | _ => none
theorem e_par (i j : Nat) (m : Mi (List Rr)) : sPar i j m ρ = (match m ρ with | some (.ok x, ρ1) => parK i j x ρ1 | some (.error e, ρ1) => some (.ex e, ρ1) | none => none) := by
  unfold sPar sBind
  cases m ρ with
  | none => rfl
  | some p =>
    obtain ⟨o, ρ1⟩ := p
    cases o with
    | error e => rfl
    | ok x => rfl
def appK (i : Nat) (r : Rr) (ρ : List Sl) : Option (Except Str Rr × List Sl) := match frz1 r ρ with
  | some (a, ρ1) => match liveAt ρ1 i with
    | some (.lst xs) => if xs.length ≤ 100000 then some (.ok (.fr .non), setAt ρ1 i (.lst (xs ++ [a]))) else none
    | _ => none
  | none => none
theorem e_app (i : Nat) (m : Mi Rr) : mOnL i (mAppend i m) ρ = (if isL ρ i then (match m ρ with | some (.ok x, ρ1) => appK i x ρ1 | some (.error e, ρ1) => some (.error e, ρ1) | none => none) else none) := by
  unfold mOnL mAppend mBind
  split
  · cases m ρ with
    | none => rfl
    | some p => obtain ⟨o, ρ1⟩ := p; cases o <;> rfl
  · rfl
def ixK (i : Nat) (r rk : Rr) (ρ : List Sl) : Option (Fl × List Sl) := match frz1 r ρ with
  | some (a, ρ1) => match res ρ1 rk, liveAt ρ1 i with
    | some (.int k), some (.lst xs) => match ixN xs.length k with
      | some j => some (.nx, setAt ρ1 i (.lst (xs.set j a)))
      | none => none
    | _, _ => none
  | none => none
theorem e_setIx (i : Nat) (mk m : Mi Rr) : sSetIx i mk m ρ = (match m ρ with | some (.ok r, ρ0) => (if isL ρ0 i then (match mk ρ0 with | some (.ok rk, ρ1) => ixK i r rk ρ1 | some (.error e, ρ1) => some (.ex e, ρ1) | none => none) else none) | some (.error e, ρ1) => some (.ex e, ρ1) | none => none) := by
  unfold sSetIx sBind
  cases m ρ with
  | none => rfl
  | some p =>
    obtain ⟨o, ρ1⟩ := p
    cases o with
    | error e => rfl
    | ok x =>
      simp only
      split
      · cases mk ρ1 with
        | none => rfl
        | some p => obtain ⟨o, ρ2⟩ := p; cases o <;> rfl
      · rfl
def dK (i : Nat) (r rk : Rr) (ρ : List Sl) : Option (Fl × List Sl) := match frz1 r ρ with
  | some (a, ρ1) => match res ρ1 rk, liveAt ρ1 i with
    | some ka, some (.dic kvs) => match keyA ka with
      | some y => if kvs.length ≤ 100000 then some (.nx, setAt ρ1 i (.dic (putA kvs y a))) else none
      | none => none
    | _, _ => none
  | none => none
theorem e_setD (i : Nat) (mk m : Mi Rr) : sSetD i mk m ρ = (match m ρ with | some (.ok r, ρ0) => (if isDi ρ0 i then (match mk ρ0 with | some (.ok rk, ρ1) => dK i r rk ρ1 | some (.error e, ρ1) => some (.ex e, ρ1) | none => none) else none) | some (.error e, ρ1) => some (.ex e, ρ1) | none => none) := by
  unfold sSetD sBind
  cases m ρ with
  | none => rfl
  | some p =>
    obtain ⟨o, ρ1⟩ := p
    cases o with
    | error e => rfl
    | ok x =>
      simp only
      split
      · cases mk ρ1 with
        | none => rfl
        | some p => obtain ⟨o, ρ2⟩ := p; cases o <;> rfl
      · rfl
theorem e_dnew : mDnew ρ = some (.ok (.nw (.dic [])), ρ) := rfl
def get2K (d k x : Rr) (ρ : List Sl) : Option (Except Str Rr × List Sl) := match res ρ d, res ρ k with
    | some (.dic kvs), some ka => match keyA ka with
      | some y => match getK kvs y with
        | some a => some (.ok (.fr a), ρ)
        | none => match frz1 x ρ with
          | some (a, ρ1) => some (.ok (.fr a), ρ1)
          | none => none
      | none => none
    | _, _ => none
def isDic : Option A → Bool
  | some (.dic _) => true
  | _ => false
theorem e_get2 (md mk mx : Mi Rr) : mGet2 md mk mx ρ = (match md ρ with | some (.ok d, ρ0) => (if isDic (res ρ0 d) then (match mk ρ0 with | some (.ok k, ρ1) => (match mx ρ1 with | some (.ok x, ρ2) => get2K d k x ρ2 | some (.error e, ρ2) => some (.error e, ρ2) | none => none) | some (.error e, ρ1) => some (.error e, ρ1) | none => none) else none) | some (.error e, ρ1) => some (.error e, ρ1) | none => none) := by
  unfold mGet2 mBind
  cases md ρ with
  | none => rfl
  | some p =>
    obtain ⟨o, ρ1⟩ := p
    cases o with
    | error e => rfl
    | ok d =>
      simp only
      cases e : res ρ1 d with
      | none => rfl
      | some a =>
        cases a <;> first | rfl | skip
        simp only [isDic, if_true]
        cases mk ρ1 with
        | none => rfl
        | some p =>
          obtain ⟨o, ρ2⟩ := p
          cases o with
          | error e => rfl
          | ok y =>
            simp only
            cases mx ρ2 with
            | none => rfl
            | some p => obtain ⟨o, ρ3⟩ := p; cases o <;> rfl
theorem e_raise (x : Str) (m : Mi (List Rr)) : sRaise x m ρ = (match m ρ with | some (.ok rs, ρ1) => (if rs.length ≤ 10 then some (.ex x, ρ1) else none) | some (.error e, ρ1) => some (.ex e, ρ1) | none => none) := by
  unfold sRaise sBind
  cases m ρ with
  | none => rfl
  | some p =>
    obtain ⟨o, ρ1⟩ := p
    cases o with
    | error e => rfl
    | ok x => rfl
def s1K (f : Str → A → Option Rr) (z : Str) (y : Rr) (ρ : List Sl) : Option (Except Str Rr × List Sl) := match res ρ y with
    | some a => match f z a with
      | some r => some (.ok r, ρ)
      | none => none
    | none => none
theorem e_s1 (f : Str → A → Option Rr) (mo m : Mi Rr) : mS1 f mo m ρ = (match mo ρ with | some (.ok (.fr (.str z)), ρ0) => (match m ρ0 with | some (.ok y, ρ1) => s1K f z y ρ1 | some (.error e, ρ1) => some (.error e, ρ1) | none => none) | some (.ok _, _) => none | some (.error e, ρ1) => some (.error e, ρ1) | none => none) := by
  unfold mS1 mBind
  cases mo ρ with
  | none => rfl
  | some p =>
    obtain ⟨o, ρ1⟩ := p
    cases o with
    | error e => rfl
    | ok d =>
      cases d with
      | rf i => rfl
      | nw o => rfl
      | fr a =>
        cases a <;> first | rfl | skip
        simp only
        cases m ρ1 with
        | none => rfl
        | some p => obtain ⟨o, ρ2⟩ := p; cases o <;> rfl
def slK (x : Rr) (lo hi : Option Int) (ρ : List Sl) : Option (Except Str Rr × List Sl) := match res ρ x with
  | some a => match fSl a lo hi with
    | some r => some (.ok r, ρ)
    | none => none
  | none => none
theorem e_sl (m : Mi Rr) (ml mh : Mi (Option Int)) : mSl m ml mh ρ = (match m ρ with | some (.ok x, ρ0) => (match ml ρ0 with | some (.ok lo, ρ1) => (match mh ρ1 with | some (.ok hi, ρ2) => slK x lo hi ρ2 | some (.error e, ρ2) => some (.error e, ρ2) | none => none) | some (.error e, ρ1) => some (.error e, ρ1) | none => none) | some (.error e, ρ1) => some (.error e, ρ1) | none => none) := by
  unfold mSl mBind
  cases m ρ with
  | none => rfl
  | some p =>
    obtain ⟨o, ρ1⟩ := p
    cases o with
    | error e => rfl
    | ok x =>
      simp only
      cases ml ρ1 with
      | none => rfl
      | some p =>
        obtain ⟨o, ρ2⟩ := p
        cases o with
        | error e => rfl
        | ok y =>
          simp only
          cases mh ρ2 with
          | none => rfl
          | some p => obtain ⟨o, ρ3⟩ := p; cases o <;> rfl
def fzK (r : Rr) (ρ : List Sl) : Option (Except Str Rr × List Sl) := match frz1 r ρ with
  | some (a, ρ') => some (.ok (.fr a), ρ')
  | none => none
theorem e_fz (m : Mi Rr) : mFz m ρ = (match m ρ with | some (.ok x, ρ1) => fzK x ρ1 | some (.error e, ρ1) => some (.error e, ρ1) | none => none) := by
  unfold mFz mBind
  cases m ρ with
  | none => rfl
  | some p =>
    obtain ⟨o, ρ1⟩ := p
    cases o with
    | error e => rfl
    | ok x => rfl
theorem e_noPart : mNoPart ρ = some (.ok none, ρ) := rfl
def partK (r : Rr) (ρ : List Sl) : Option (Except Str (Option Int) × List Sl) := match res ρ r with
  | some (.int i) => some (.ok (some i), ρ)
  | _ => none
theorem e_part (m : Mi Rr) : mPart m ρ = (match m ρ with | some (.ok x, ρ1) => partK x ρ1 | some (.error e, ρ1) => some (.error e, ρ1) | none => none) := by
  unfold mPart mBind
  cases m ρ with
  | none => rfl
  | some p =>
    obtain ⟨o, ρ1⟩ := p
    cases o with
    | error e => rfl
    | ok x => rfl
theorem e_J (m : Mi Rr) (n : Mi (List Str)) : mJ m n ρ = (match m ρ with | some (.ok (.fr (.str z)), ρ0) => (if z.length ≤ 1000 then (match n ρ0 with | some (.ok zs, ρ1) => some (.ok (z :: zs), ρ1) | some (.error e, ρ1) => some (.error e, ρ1) | none => none) else none) | some (.ok _, _) => none | some (.error e, ρ1) => some (.error e, ρ1) | none => none) := by
  unfold mJ mBind
  cases m ρ with
  | none => rfl
  | some p =>
    obtain ⟨o, ρ1⟩ := p
    cases o with
    | error e => rfl
    | ok d =>
      cases d with
      | rf i => rfl
      | nw o => rfl
      | fr a =>
        cases a <;> first | rfl | skip
        simp only
        split
        · cases n ρ1 with
          | none => rfl
          | some p => obtain ⟨o, ρ2⟩ := p; cases o <;> rfl
        · rfl
theorem e_Fv (m : Mi Rr) : mFv m ρ = (match m ρ with | some (.ok (.fr (.str z)), ρ0) => (if z.length ≤ 1000 then some (.ok (.fr (.str z)), ρ0) else none) | some (.ok _, _) => none | some (.error e, ρ1) => some (.error e, ρ1) | none => none) := by
  unfold mFv mBind
  cases m ρ with
  | none => rfl
  | some p =>
    obtain ⟨o, ρ1⟩ := p
    cases o with
    | error e => rfl
    | ok d =>
      cases d with
      | rf i => rfl
      | nw o => rfl
      | fr a => cases a <;> rfl
theorem e_Js (m : Mi (List Str)) : mJs m ρ = (match m ρ with | some (.ok zs, ρ1) => some (.ok (.fr (.str (catS zs))), ρ1) | some (.error e, ρ1) => some (.error e, ρ1) | none => none) := by
  unfold mJs mBind
  cases m ρ with
  | none => rfl
  | some p =>
    obtain ⟨o, ρ1⟩ := p
    cases o with
    | error e => rfl
    | ok x => rfl
end
end M
set_option maxHeartbeats 4000000
namespace W
open PySem L2
def top (i : Nat) : Stmt := PySem.Challenge.pw_fitwhatever_k06_whole_sums_by_makings.main.body.getD i (.Pass ⟨0, 0, 0, 0⟩)
abbrev s_common_divisor : Stmt := top 6
abbrev s_lowest_terms : Stmt := top 7
abbrev s_plus : Stmt := top 8
abbrev s_times : Stmt := top 9
abbrev s_sum_of : Stmt := top 11
abbrev s_sum_plus : Stmt := top 12
abbrev s_sum_minus : Stmt := top 13
abbrev s_sum_times : Stmt := top 14
abbrev s_sum_at : Stmt := top 15
abbrev s_sum_called : Stmt := top 16
abbrev s__law_well : Stmt := top 18
abbrev s__law_take : Stmt := top 19
abbrev s__law_common : Stmt := top 20
abbrev s__law_num : Stmt := top 21
abbrev s__law_add : Stmt := top 22
abbrev s__law_mul : Stmt := top 23
abbrev s__law_number : Stmt := top 24
abbrev s__law_name : Stmt := top 25
abbrev s__law_names : Stmt := top 26
abbrev s__law_sum : Stmt := top 27
abbrev s__law_right : Stmt := top 28
abbrev s__law_called : Stmt := top 29
abbrev s_law : Stmt := top 30
structure Adr where
  f_common_divisor : Addr
  d_common_divisor : FuncData
  f_lowest_terms : Addr
  d_lowest_terms : FuncData
  f_plus : Addr
  d_plus : FuncData
  f_times : Addr
  d_times : FuncData
  f_sum_of : Addr
  d_sum_of : FuncData
  f_sum_plus : Addr
  d_sum_plus : FuncData
  f_sum_minus : Addr
  d_sum_minus : FuncData
  f_sum_times : Addr
  d_sum_times : FuncData
  f_sum_at : Addr
  d_sum_at : FuncData
  f_sum_called : Addr
  d_sum_called : FuncData
  f__law_well : Addr
  d__law_well : FuncData
  f__law_take : Addr
  d__law_take : FuncData
  f__law_common : Addr
  d__law_common : FuncData
  f__law_num : Addr
  d__law_num : FuncData
  f__law_add : Addr
  d__law_add : FuncData
  f__law_mul : Addr
  d__law_mul : FuncData
  f__law_number : Addr
  d__law_number : FuncData
  f__law_name : Addr
  d__law_name : FuncData
  f__law_names : Addr
  d__law_names : FuncData
  f__law_sum : Addr
  d__law_sum : FuncData
  f__law_right : Addr
  d__law_right : FuncData
  f__law_called : Addr
  d__law_called : FuncData
  f_law : Addr
  d_law : FuncData
  C_NoSum : Addr
  K_ZERO : Addr
  K_MINUS_ONE : Addr
structure Txt (K : PySem.W.Frag) (mg : Str → Option Value) (a : Adr) : Prop where
  mg_common_divisor : mg "common_divisor" = some (.ref a.f_common_divisor)
  fun_common_divisor : FunD K "common_divisor" "common_divisor" s_common_divisor a.f_common_divisor a.d_common_divisor .none
  kp_common_divisor : PySem.W.keepIn K (.ref a.f_common_divisor) = true
  bn_common_divisor : Binds K a.d_common_divisor ["a", "b"] []
  mg_lowest_terms : mg "lowest_terms" = some (.ref a.f_lowest_terms)
  fun_lowest_terms : FunD K "lowest_terms" "lowest_terms" s_lowest_terms a.f_lowest_terms a.d_lowest_terms .none
  kp_lowest_terms : PySem.W.keepIn K (.ref a.f_lowest_terms) = true
  bn_lowest_terms : Binds K a.d_lowest_terms ["top", "bottom"] []
  mg_plus : mg "plus" = some (.ref a.f_plus)
  fun_plus : FunD K "plus" "plus" s_plus a.f_plus a.d_plus .none
  kp_plus : PySem.W.keepIn K (.ref a.f_plus) = true
  bn_plus : Binds K a.d_plus ["a", "b"] []
  mg_times : mg "times" = some (.ref a.f_times)
  fun_times : FunD K "times" "times" s_times a.f_times a.d_times .none
  kp_times : PySem.W.keepIn K (.ref a.f_times) = true
  bn_times : Binds K a.d_times ["a", "b"] []
  mg_sum_of : mg "sum_of" = some (.ref a.f_sum_of)
  fun_sum_of : FunD K "sum_of" "sum_of" s_sum_of a.f_sum_of a.d_sum_of .none
  kp_sum_of : PySem.W.keepIn K (.ref a.f_sum_of) = true
  bn_sum_of : Binds K a.d_sum_of ["number", "pairs"] []
  mg_sum_plus : mg "sum_plus" = some (.ref a.f_sum_plus)
  fun_sum_plus : FunD K "sum_plus" "sum_plus" s_sum_plus a.f_sum_plus a.d_sum_plus .none
  kp_sum_plus : PySem.W.keepIn K (.ref a.f_sum_plus) = true
  bn_sum_plus : Binds K a.d_sum_plus ["a", "b"] []
  mg_sum_minus : mg "sum_minus" = some (.ref a.f_sum_minus)
  fun_sum_minus : FunD K "sum_minus" "sum_minus" s_sum_minus a.f_sum_minus a.d_sum_minus .none
  kp_sum_minus : PySem.W.keepIn K (.ref a.f_sum_minus) = true
  bn_sum_minus : Binds K a.d_sum_minus ["a", "b"] []
  mg_sum_times : mg "sum_times" = some (.ref a.f_sum_times)
  fun_sum_times : FunD K "sum_times" "sum_times" s_sum_times a.f_sum_times a.d_sum_times .none
  kp_sum_times : PySem.W.keepIn K (.ref a.f_sum_times) = true
  bn_sum_times : Binds K a.d_sum_times ["a", "number"] []
  mg_sum_at : mg "sum_at" = some (.ref a.f_sum_at)
  fun_sum_at : FunD K "sum_at" "sum_at" s_sum_at a.f_sum_at a.d_sum_at .none
  kp_sum_at : PySem.W.keepIn K (.ref a.f_sum_at) = true
  bn_sum_at : Binds K a.d_sum_at ["a", "making"] []
  mg_sum_called : mg "sum_called" = some (.ref a.f_sum_called)
  fun_sum_called : FunD K "sum_called" "sum_called" s_sum_called a.f_sum_called a.d_sum_called .none
  kp_sum_called : PySem.W.keepIn K (.ref a.f_sum_called) = true
  bn_sum_called : Binds K a.d_sum_called ["a", "word"] []
  mg__law_well : mg "_law_well" = some (.ref a.f__law_well)
  fun__law_well : FunD K "_law_well" "_law_well" s__law_well a.f__law_well a.d__law_well .none
  kp__law_well : PySem.W.keepIn K (.ref a.f__law_well) = true
  bn__law_well : Binds K a.d__law_well ["_law_script", "_law_k"] []
  mg__law_take : mg "_law_take" = some (.ref a.f__law_take)
  fun__law_take : FunD K "_law_take" "_law_take" s__law_take a.f__law_take a.d__law_take .none
  kp__law_take : PySem.W.keepIn K (.ref a.f__law_take) = true
  bn__law_take : Binds K a.d__law_take ["_law_well_here", "_law_many"] []
  mg__law_common : mg "_law_common" = some (.ref a.f__law_common)
  fun__law_common : FunD K "_law_common" "_law_common" s__law_common a.f__law_common a.d__law_common .none
  kp__law_common : PySem.W.keepIn K (.ref a.f__law_common) = true
  bn__law_common : Binds K a.d__law_common ["_law_one", "_law_other"] []
  mg__law_num : mg "_law_num" = some (.ref a.f__law_num)
  fun__law_num : FunD K "_law_num" "_law_num" s__law_num a.f__law_num a.d__law_num .none
  kp__law_num : PySem.W.keepIn K (.ref a.f__law_num) = true
  bn__law_num : Binds K a.d__law_num ["_law_top", "_law_bottom"] []
  mg__law_add : mg "_law_add" = some (.ref a.f__law_add)
  fun__law_add : FunD K "_law_add" "_law_add" s__law_add a.f__law_add a.d__law_add .none
  kp__law_add : PySem.W.keepIn K (.ref a.f__law_add) = true
  bn__law_add : Binds K a.d__law_add ["_law_one", "_law_other"] []
  mg__law_mul : mg "_law_mul" = some (.ref a.f__law_mul)
  fun__law_mul : FunD K "_law_mul" "_law_mul" s__law_mul a.f__law_mul a.d__law_mul .none
  kp__law_mul : PySem.W.keepIn K (.ref a.f__law_mul) = true
  bn__law_mul : Binds K a.d__law_mul ["_law_one", "_law_other"] []
  mg__law_number : mg "_law_number" = some (.ref a.f__law_number)
  fun__law_number : FunD K "_law_number" "_law_number" s__law_number a.f__law_number a.d__law_number .none
  kp__law_number : PySem.W.keepIn K (.ref a.f__law_number) = true
  bn__law_number : Binds K a.d__law_number ["_law_well_here"] []
  mg__law_name : mg "_law_name" = some (.ref a.f__law_name)
  fun__law_name : FunD K "_law_name" "_law_name" s__law_name a.f__law_name a.d__law_name .none
  kp__law_name : PySem.W.keepIn K (.ref a.f__law_name) = true
  bn__law_name : Binds K a.d__law_name ["_law_well_here", "_law_most"] []
  mg__law_names : mg "_law_names" = some (.ref a.f__law_names)
  fun__law_names : FunD K "_law_names" "_law_names" s__law_names a.f__law_names a.d__law_names .none
  kp__law_names : PySem.W.keepIn K (.ref a.f__law_names) = true
  bn__law_names : Binds K a.d__law_names ["_law_well_here", "_law_many"] []
  mg__law_sum : mg "_law_sum" = some (.ref a.f__law_sum)
  fun__law_sum : FunD K "_law_sum" "_law_sum" s__law_sum a.f__law_sum a.d__law_sum .none
  kp__law_sum : PySem.W.keepIn K (.ref a.f__law_sum) = true
  bn__law_sum : Binds K a.d__law_sum ["_law_well_here", "_law_names_here"] []
  mg__law_right : mg "_law_right" = some (.ref a.f__law_right)
  fun__law_right : FunD K "_law_right" "_law_right" s__law_right a.f__law_right a.d__law_right .none
  kp__law_right : PySem.W.keepIn K (.ref a.f__law_right) = true
  bn__law_right : Binds K a.d__law_right ["_law_sums", "_law_numbers", "_law_making"] []
  mg__law_called : mg "_law_called" = some (.ref a.f__law_called)
  fun__law_called : FunD K "_law_called" "_law_called" s__law_called a.f__law_called a.d__law_called .none
  kp__law_called : PySem.W.keepIn K (.ref a.f__law_called) = true
  bn__law_called : Binds K a.d__law_called ["_law_some", "_law_making", "_law_word"] []
  mg_law : mg "law" = some (.ref a.f_law)
  fun_law : FunD K "law" "law" s_law a.f_law a.d_law .none
  kp_law : PySem.W.keepIn K (.ref a.f_law) = true
  bn_law : Binds K a.d_law ["_law_script"] []
  b_len : mg "len" = none
  b_abs : mg "abs" = none
  b_max : mg "max" = none
  b_min : mg "min" = none
  b_int : mg "int" = none
  b_tuple : mg "tuple" = none
  b_list : mg "list" = none
  b_range : mg "range" = none
  b_sorted : mg "sorted" = none
  mg_NoSum : mg "NoSum" = some (.ref a.C_NoSum)
  mg_ZERO : mg "ZERO" = some (.ref a.K_ZERO)
  mg_MINUS_ONE : mg "MINUS_ONE" = some (.ref a.K_MINUS_ONE)
  ra_ZERO : ∀ G, M.RA ⟨K, mg⟩ G (.ref a.K_ZERO) (.tup [(.int 0), (.int 1)])
  ra_MINUS_ONE : ∀ G, M.RA ⟨K, mg⟩ G (.ref a.K_MINUS_ONE) (.tup [(.int (-1)), (.int 1)])
  ex_NoSum : PySem.W.excIn K a.C_NoSum veMro "ValueError.__new__" = true
theorem sc_common_divisor : FnScope ["a", "b", "rest"] ["a", "b"] (defScope s_common_divisor) := ⟨rfl, rfl, rfl, by decide +kernel, rfl, by decide +kernel, by decide +kernel⟩
theorem sc_lowest_terms : FnScope ["top", "bottom", "divisor"] ["top", "bottom"] (defScope s_lowest_terms) := ⟨rfl, rfl, rfl, by decide +kernel, rfl, by decide +kernel, by decide +kernel⟩
theorem sc_plus : FnScope ["a", "b"] ["a", "b"] (defScope s_plus) := ⟨rfl, rfl, rfl, by decide +kernel, rfl, by decide +kernel, by decide +kernel⟩
theorem sc_times : FnScope ["a", "b"] ["a", "b"] (defScope s_times) := ⟨rfl, rfl, rfl, by decide +kernel, rfl, by decide +kernel, by decide +kernel⟩
theorem sc_sum_of : FnScope ["number", "pairs", "factors", "name", "factor"] ["number", "pairs"] (defScope s_sum_of) := ⟨rfl, rfl, rfl, by decide +kernel, rfl, by decide +kernel, by decide +kernel⟩
theorem sc_sum_plus : FnScope ["a", "b"] ["a", "b"] (defScope s_sum_plus) := ⟨rfl, rfl, rfl, by decide +kernel, rfl, by decide +kernel, by decide +kernel⟩
theorem sc_sum_minus : FnScope ["a", "b"] ["a", "b"] (defScope s_sum_minus) := ⟨rfl, rfl, rfl, by decide +kernel, rfl, by decide +kernel, by decide +kernel⟩
theorem sc_sum_times : FnScope ["a", "number"] ["a", "number"] (defScope s_sum_times) := ⟨rfl, rfl, rfl, by decide +kernel, rfl, by decide +kernel, by decide +kernel⟩
theorem sc_sum_at : FnScope ["a", "making", "top", "bottom", "name", "factor", "value"] ["a", "making"] (defScope s_sum_at) := ⟨rfl, rfl, rfl, by decide +kernel, rfl, by decide +kernel, by decide +kernel⟩
theorem sc_sum_called : FnScope ["a", "word"] ["a", "word"] (defScope s_sum_called) := ⟨rfl, rfl, rfl, by decide +kernel, rfl, by decide +kernel, by decide +kernel⟩
theorem sc__law_well : FnScope ["_law_script", "_law_k", "_law_cell"] ["_law_script", "_law_k"] (defScope s__law_well) := ⟨rfl, rfl, rfl, by decide +kernel, rfl, by decide +kernel, by decide +kernel⟩
theorem sc__law_take : FnScope ["_law_well_here", "_law_many", "_law_digit", "_law_turn", "_law_number_here"] ["_law_well_here", "_law_many"] (defScope s__law_take) := ⟨rfl, rfl, rfl, by decide +kernel, rfl, by decide +kernel, by decide +kernel⟩
theorem sc__law_common : FnScope ["_law_one", "_law_other"] ["_law_one", "_law_other"] (defScope s__law_common) := ⟨rfl, rfl, rfl, by decide +kernel, rfl, by decide +kernel, by decide +kernel⟩
theorem sc__law_num : FnScope ["_law_top", "_law_bottom", "_law_by"] ["_law_top", "_law_bottom"] (defScope s__law_num) := ⟨rfl, rfl, rfl, by decide +kernel, rfl, by decide +kernel, by decide +kernel⟩
theorem sc__law_add : FnScope ["_law_one", "_law_other"] ["_law_one", "_law_other"] (defScope s__law_add) := ⟨rfl, rfl, rfl, by decide +kernel, rfl, by decide +kernel, by decide +kernel⟩
theorem sc__law_mul : FnScope ["_law_one", "_law_other"] ["_law_one", "_law_other"] (defScope s__law_mul) := ⟨rfl, rfl, rfl, by decide +kernel, rfl, by decide +kernel, by decide +kernel⟩
theorem sc__law_number : FnScope ["_law_well_here", "_law_way"] ["_law_well_here"] (defScope s__law_number) := ⟨rfl, rfl, rfl, by decide +kernel, rfl, by decide +kernel, by decide +kernel⟩
theorem sc__law_name : FnScope ["_law_well_here", "_law_most", "_law_signs", "_law_size"] ["_law_well_here", "_law_most"] (defScope s__law_name) := ⟨rfl, rfl, rfl, by decide +kernel, rfl, by decide +kernel, by decide +kernel⟩
theorem sc__law_names : FnScope ["_law_well_here", "_law_many", "_law_names_here", "_law_name_here", "_law_turn"] ["_law_well_here", "_law_many"] (defScope s__law_names) := ⟨rfl, rfl, rfl, by decide +kernel, rfl, by decide +kernel, by decide +kernel⟩
theorem sc__law_sum : FnScope ["_law_well_here", "_law_names_here", "_law_pairs", "_law_name_here", "_law_number_here"] ["_law_well_here", "_law_names_here"] (defScope s__law_sum) := ⟨rfl, rfl, rfl, by decide +kernel, rfl, by decide +kernel, by decide +kernel⟩
theorem sc__law_right : FnScope ["_law_sums", "_law_numbers", "_law_making", "_law_one", "_law_other", "_law_third", "_law_here", "_law_there", "_law_far", "_law_less", "_law_both", "_law_none"] ["_law_sums", "_law_numbers", "_law_making"] (defScope s__law_right) := ⟨rfl, rfl, rfl, by decide +kernel, rfl, by decide +kernel, by decide +kernel⟩
theorem sc__law_called : FnScope ["_law_some", "_law_making", "_law_word", "_law_other", "_law_name_here", "_law_made"] ["_law_some", "_law_making", "_law_word"] (defScope s__law_called) := ⟨rfl, rfl, rfl, by decide +kernel, rfl, by decide +kernel, by decide +kernel⟩
theorem sc_law : FnScope ["_law_script", "_law_k", "_law_well_here", "_law_names_here", "_law_sums", "_law_numbers", "_law_making", "_law_name_here"] ["_law_script"] (defScope s_law) := ⟨rfl, rfl, rfl, by decide +kernel, rfl, by decide +kernel, by decide +kernel⟩
def eK (e : Expr) (i : Nat) : Expr := (match e with
  | .BoolOp _ vs _ => vs | .BinOp a _ b _ => [a, b] | .UnaryOp _ a _ => [a] | .IfExp a b c _ => [a, b, c] | .Compare a _ bs _ => a :: bs
  | .Call f as _ _ => f :: as | .Attribute v _ _ => [v] | .Subscript a b _ => [a, b] | .List es _ => es | .Tuple es _ _ => es | _ => []).getD i (.Name "" ⟨0, 0, 0, 0⟩)
def eI (e : Expr) : Expr := match e with
  | .ListComp _ (g :: _) _ _ => g.iter
  | _ => .Name "" ⟨0, 0, 0, 0⟩
def sK (s : Stmt) (i : Nat) : Stmt := (match s with
  | .FunctionDef _ _ b _ _ _ _ _ _ _ => b | .For _ _ b _ _ => b | .While _ b _ _ => b | .If _ b o _ => b ++ o | .Try b _ _ _ _ => b | _ => []).getD i (.Pass ⟨0, 0, 0, 0⟩)
def sE (s : Stmt) : Expr := match s with
  | .Assign _ v _ => v | .Return (some v) _ => v | .Expr v _ => v | .If t _ _ _ => t | .While t _ _ _ => t | .For _ it _ _ _ => it
  | _ => .Name "" ⟨0, 0, 0, 0⟩
def eS (e : Expr) : Scope := match e with
  | .ListComp _ _ sc _ => sc
  | _ => defScope (.Pass ⟨0, 0, 0, 0⟩)
abbrev cs_sum_of_0 : Scope := eS (eK (eK (sE (sK s_sum_of 2)) 1) 1)
theorem csc_sum_of_0 : CompSc ["number", "pairs", "factors", "name", "factor"] ["number", "pairs", "factors", "name (of the def)", "factor", "name"] 1 cs_sum_of_0 (defScope s_sum_of) := ⟨rfl, by decide +kernel, by decide +kernel, rfl, by decide +kernel, by decide +kernel, by decide +kernel, by decide +kernel⟩
abbrev cs_sum_times_0 : Scope := eS (eK (sE (sK s_sum_times 0)) 2)
theorem csc_sum_times_0 : CompSc ["a", "number"] ["a", "number", "name", "factor"] 2 cs_sum_times_0 (defScope s_sum_times) := ⟨rfl, by decide +kernel, by decide +kernel, rfl, by decide +kernel, by decide +kernel, by decide +kernel, by decide +kernel⟩
abbrev cs_sum_called_0 : Scope := eS (eK (eK (sE (sK s_sum_called 0)) 1) 1)
theorem csc_sum_called_0 : CompSc ["a", "word"] ["a", "word", "name", "factor"] 2 cs_sum_called_0 (defScope s_sum_called) := ⟨rfl, by decide +kernel, by decide +kernel, rfl, by decide +kernel, by decide +kernel, by decide +kernel, by decide +kernel⟩
abbrev cs__law_name_0 : Scope := eS (eK (sE (sK s__law_name 2)) 1)
theorem csc__law_name_0 : CompSc ["_law_well_here", "_law_most", "_law_signs", "_law_size"] ["_law_well_here", "_law_most", "_law_signs", "_law_size", "_law_k"] 1 cs__law_name_0 (defScope s__law_name) := ⟨rfl, by decide +kernel, by decide +kernel, rfl, by decide +kernel, by decide +kernel, by decide +kernel, by decide +kernel⟩
abbrev cs__law_right_0 : Scope := eS (sE (sK s__law_right 1))
theorem csc__law_right_0 : CompSc ["_law_sums", "_law_numbers", "_law_making", "_law_one", "_law_other", "_law_third", "_law_here", "_law_there", "_law_far", "_law_less", "_law_both", "_law_none"] ["_law_sums", "_law_numbers", "_law_making", "_law_one", "_law_other", "_law_third", "_law_here", "_law_there", "_law_far", "_law_less", "_law_both", "_law_none", "_law_some"] 1 cs__law_right_0 (defScope s__law_right) := ⟨rfl, by decide +kernel, by decide +kernel, rfl, by decide +kernel, by decide +kernel, by decide +kernel, by decide +kernel⟩
abbrev cs_law_0 : Scope := eS (sE (sK (sK s_law 0) 2))
theorem csc_law_0 : CompSc ["_law_script", "_law_k", "_law_well_here", "_law_names_here", "_law_sums", "_law_numbers", "_law_making", "_law_name_here"] ["_law_script", "_law_k", "_law_well_here", "_law_names_here", "_law_sums", "_law_numbers", "_law_making", "_law_name_here", "_law_j"] 1 cs_law_0 (defScope s_law) := ⟨rfl, by decide +kernel, by decide +kernel, rfl, by decide +kernel, by decide +kernel, by decide +kernel, by decide +kernel⟩
abbrev cs_law_1 : Scope := eS (sE (sK (sK s_law 0) 3))
theorem csc_law_1 : CompSc ["_law_script", "_law_k", "_law_well_here", "_law_names_here", "_law_sums", "_law_numbers", "_law_making", "_law_name_here"] ["_law_script", "_law_k", "_law_well_here", "_law_names_here", "_law_sums", "_law_numbers", "_law_making", "_law_name_here", "_law_j"] 1 cs_law_1 (defScope s_law) := ⟨rfl, by decide +kernel, by decide +kernel, rfl, by decide +kernel, by decide +kernel, by decide +kernel, by decide +kernel⟩
theorem lc_sum_of_0_name : cs_sum_of_0.names.lookup ("name" : Str) = some NameKind.local := by decide +kernel
theorem lc_sum_of_0_factors : cs_sum_of_0.names.lookup ("factors" : Str) = some NameKind.free := by decide +kernel
theorem lc_sum_of_0_ZERO : cs_sum_of_0.names.lookup ("ZERO" : Str) = some NameKind.globalImplicit := by decide +kernel
theorem lc_sum_times_0_factor : cs_sum_times_0.names.lookup ("factor" : Str) = some NameKind.local := by decide +kernel
theorem lc_sum_times_0_name : cs_sum_times_0.names.lookup ("name" : Str) = some NameKind.local := by decide +kernel
theorem lc_sum_times_0_number : cs_sum_times_0.names.lookup ("number" : Str) = some NameKind.free := by decide +kernel
theorem lc_sum_times_0_times : cs_sum_times_0.names.lookup ("times" : Str) = some NameKind.globalImplicit := by decide +kernel
theorem lc_sum_called_0_factor : cs_sum_called_0.names.lookup ("factor" : Str) = some NameKind.local := by decide +kernel
theorem lc_sum_called_0_name : cs_sum_called_0.names.lookup ("name" : Str) = some NameKind.local := by decide +kernel
theorem lc_sum_called_0_word : cs_sum_called_0.names.lookup ("word" : Str) = some NameKind.free := by decide +kernel
theorem lc__law_name_0__law_k : cs__law_name_0.names.lookup ("_law_k" : Str) = some NameKind.local := by decide +kernel
theorem lc__law_name_0__law_signs : cs__law_name_0.names.lookup ("_law_signs" : Str) = some NameKind.free := by decide +kernel
theorem lc__law_name_0__law_well_here : cs__law_name_0.names.lookup ("_law_well_here" : Str) = some NameKind.free := by decide +kernel
theorem lc__law_name_0__law_take : cs__law_name_0.names.lookup ("_law_take" : Str) = some NameKind.globalImplicit := by decide +kernel
theorem lc__law_right_0__law_some : cs__law_right_0.names.lookup ("_law_some" : Str) = some NameKind.local := by decide +kernel
theorem lc__law_right_0__law_making : cs__law_right_0.names.lookup ("_law_making" : Str) = some NameKind.free := by decide +kernel
theorem lc__law_right_0_sum_at : cs__law_right_0.names.lookup ("sum_at" : Str) = some NameKind.globalImplicit := by decide +kernel
theorem lc_law_0__law_j : cs_law_0.names.lookup ("_law_j" : Str) = some NameKind.local := by decide +kernel
theorem lc_law_0__law_well_here : cs_law_0.names.lookup ("_law_well_here" : Str) = some NameKind.free := by decide +kernel
theorem lc_law_0__law_names_here : cs_law_0.names.lookup ("_law_names_here" : Str) = some NameKind.free := by decide +kernel
theorem lc_law_0__law_sum : cs_law_0.names.lookup ("_law_sum" : Str) = some NameKind.globalImplicit := by decide +kernel
theorem lc_law_1__law_j : cs_law_1.names.lookup ("_law_j" : Str) = some NameKind.local := by decide +kernel
theorem lc_law_1__law_well_here : cs_law_1.names.lookup ("_law_well_here" : Str) = some NameKind.free := by decide +kernel
theorem lc_law_1__law_number : cs_law_1.names.lookup ("_law_number" : Str) = some NameKind.globalImplicit := by decide +kernel
theorem lk_common_divisor_b : (defScope s_common_divisor).names.lookup ("b" : Str) = some NameKind.local := by decide +kernel
theorem lk_common_divisor_a : (defScope s_common_divisor).names.lookup ("a" : Str) = some NameKind.local := by decide +kernel
theorem lk_common_divisor_rest : (defScope s_common_divisor).names.lookup ("rest" : Str) = some NameKind.local := by decide +kernel
theorem lk_lowest_terms_top : (defScope s_lowest_terms).names.lookup ("top" : Str) = some NameKind.local := by decide +kernel
theorem lk_lowest_terms_bottom : (defScope s_lowest_terms).names.lookup ("bottom" : Str) = some NameKind.local := by decide +kernel
theorem lk_lowest_terms_common_divisor : (defScope s_lowest_terms).names.lookup ("common_divisor" : Str) = some NameKind.globalImplicit := by decide +kernel
theorem lk_lowest_terms_divisor : (defScope s_lowest_terms).names.lookup ("divisor" : Str) = some NameKind.local := by decide +kernel
theorem lk_plus_a : (defScope s_plus).names.lookup ("a" : Str) = some NameKind.local := by decide +kernel
theorem lk_plus_b : (defScope s_plus).names.lookup ("b" : Str) = some NameKind.local := by decide +kernel
theorem lk_plus_lowest_terms : (defScope s_plus).names.lookup ("lowest_terms" : Str) = some NameKind.globalImplicit := by decide +kernel
theorem lk_times_a : (defScope s_times).names.lookup ("a" : Str) = some NameKind.local := by decide +kernel
theorem lk_times_b : (defScope s_times).names.lookup ("b" : Str) = some NameKind.local := by decide +kernel
theorem lk_times_lowest_terms : (defScope s_times).names.lookup ("lowest_terms" : Str) = some NameKind.globalImplicit := by decide +kernel
theorem lk_sum_of_factors : (defScope s_sum_of).names.lookup ("factors" : Str) = some NameKind.cell := by decide +kernel
theorem lk_sum_of_pairs : (defScope s_sum_of).names.lookup ("pairs" : Str) = some NameKind.local := by decide +kernel
theorem lk_sum_of_factor : (defScope s_sum_of).names.lookup ("factor" : Str) = some NameKind.local := by decide +kernel
theorem lk_sum_of_name : (defScope s_sum_of).names.lookup ("name" : Str) = some NameKind.local := by decide +kernel
theorem lk_sum_of_ZERO : (defScope s_sum_of).names.lookup ("ZERO" : Str) = some NameKind.globalImplicit := by decide +kernel
theorem lk_sum_of_plus : (defScope s_sum_of).names.lookup ("plus" : Str) = some NameKind.globalImplicit := by decide +kernel
theorem lk_sum_of_number : (defScope s_sum_of).names.lookup ("number" : Str) = some NameKind.local := by decide +kernel
theorem lk_sum_of_sorted : (defScope s_sum_of).names.lookup ("sorted" : Str) = some NameKind.globalImplicit := by decide +kernel
theorem lk_sum_of_tuple : (defScope s_sum_of).names.lookup ("tuple" : Str) = some NameKind.globalImplicit := by decide +kernel
theorem lk_sum_plus_a : (defScope s_sum_plus).names.lookup ("a" : Str) = some NameKind.local := by decide +kernel
theorem lk_sum_plus_b : (defScope s_sum_plus).names.lookup ("b" : Str) = some NameKind.local := by decide +kernel
theorem lk_sum_plus_plus : (defScope s_sum_plus).names.lookup ("plus" : Str) = some NameKind.globalImplicit := by decide +kernel
theorem lk_sum_plus_sum_of : (defScope s_sum_plus).names.lookup ("sum_of" : Str) = some NameKind.globalImplicit := by decide +kernel
theorem lk_sum_minus_a : (defScope s_sum_minus).names.lookup ("a" : Str) = some NameKind.local := by decide +kernel
theorem lk_sum_minus_b : (defScope s_sum_minus).names.lookup ("b" : Str) = some NameKind.local := by decide +kernel
theorem lk_sum_minus_MINUS_ONE : (defScope s_sum_minus).names.lookup ("MINUS_ONE" : Str) = some NameKind.globalImplicit := by decide +kernel
theorem lk_sum_minus_sum_times : (defScope s_sum_minus).names.lookup ("sum_times" : Str) = some NameKind.globalImplicit := by decide +kernel
theorem lk_sum_minus_sum_plus : (defScope s_sum_minus).names.lookup ("sum_plus" : Str) = some NameKind.globalImplicit := by decide +kernel
theorem lk_sum_times_a : (defScope s_sum_times).names.lookup ("a" : Str) = some NameKind.local := by decide +kernel
theorem lk_sum_times_number : (defScope s_sum_times).names.lookup ("number" : Str) = some NameKind.cell := by decide +kernel
theorem lk_sum_times_times : (defScope s_sum_times).names.lookup ("times" : Str) = some NameKind.globalImplicit := by decide +kernel
theorem lk_sum_times_sum_of : (defScope s_sum_times).names.lookup ("sum_of" : Str) = some NameKind.globalImplicit := by decide +kernel
theorem lk_sum_at_a : (defScope s_sum_at).names.lookup ("a" : Str) = some NameKind.local := by decide +kernel
theorem lk_sum_at_top : (defScope s_sum_at).names.lookup ("top" : Str) = some NameKind.local := by decide +kernel
theorem lk_sum_at_bottom : (defScope s_sum_at).names.lookup ("bottom" : Str) = some NameKind.local := by decide +kernel
theorem lk_sum_at_factor : (defScope s_sum_at).names.lookup ("factor" : Str) = some NameKind.local := by decide +kernel
theorem lk_sum_at_name : (defScope s_sum_at).names.lookup ("name" : Str) = some NameKind.local := by decide +kernel
theorem lk_sum_at_making : (defScope s_sum_at).names.lookup ("making" : Str) = some NameKind.local := by decide +kernel
theorem lk_sum_at_NoSum : (defScope s_sum_at).names.lookup ("NoSum" : Str) = some NameKind.globalImplicit := by decide +kernel
theorem lk_sum_at_value : (defScope s_sum_at).names.lookup ("value" : Str) = some NameKind.local := by decide +kernel
theorem lk_sum_at_lowest_terms : (defScope s_sum_at).names.lookup ("lowest_terms" : Str) = some NameKind.globalImplicit := by decide +kernel
theorem lk_sum_called_a : (defScope s_sum_called).names.lookup ("a" : Str) = some NameKind.local := by decide +kernel
theorem lk_sum_called_tuple : (defScope s_sum_called).names.lookup ("tuple" : Str) = some NameKind.globalImplicit := by decide +kernel
theorem lk__law_well__law_cell : (defScope s__law_well).names.lookup ("_law_cell" : Str) = some NameKind.local := by decide +kernel
theorem lk__law_well__law_k : (defScope s__law_well).names.lookup ("_law_k" : Str) = some NameKind.local := by decide +kernel
theorem lk__law_well__law_script : (defScope s__law_well).names.lookup ("_law_script" : Str) = some NameKind.local := by decide +kernel
theorem lk__law_well_len : (defScope s__law_well).names.lookup ("len" : Str) = some NameKind.globalImplicit := by decide +kernel
theorem lk__law_well_abs : (defScope s__law_well).names.lookup ("abs" : Str) = some NameKind.globalImplicit := by decide +kernel
theorem lk__law_well_int : (defScope s__law_well).names.lookup ("int" : Str) = some NameKind.globalImplicit := by decide +kernel
theorem lk__law_take__law_well_here : (defScope s__law_take).names.lookup ("_law_well_here" : Str) = some NameKind.local := by decide +kernel
theorem lk__law_take__law_many : (defScope s__law_take).names.lookup ("_law_many" : Str) = some NameKind.local := by decide +kernel
theorem lk__law_take__law_digit : (defScope s__law_take).names.lookup ("_law_digit" : Str) = some NameKind.local := by decide +kernel
theorem lk__law_take__law_turn : (defScope s__law_take).names.lookup ("_law_turn" : Str) = some NameKind.local := by decide +kernel
theorem lk__law_take__law_number_here : (defScope s__law_take).names.lookup ("_law_number_here" : Str) = some NameKind.local := by decide +kernel
theorem lk__law_common__law_other : (defScope s__law_common).names.lookup ("_law_other" : Str) = some NameKind.local := by decide +kernel
theorem lk__law_common__law_one : (defScope s__law_common).names.lookup ("_law_one" : Str) = some NameKind.local := by decide +kernel
theorem lk__law_common_abs : (defScope s__law_common).names.lookup ("abs" : Str) = some NameKind.globalImplicit := by decide +kernel
theorem lk__law_num__law_bottom : (defScope s__law_num).names.lookup ("_law_bottom" : Str) = some NameKind.local := by decide +kernel
theorem lk__law_num__law_top : (defScope s__law_num).names.lookup ("_law_top" : Str) = some NameKind.local := by decide +kernel
theorem lk__law_num__law_common : (defScope s__law_num).names.lookup ("_law_common" : Str) = some NameKind.globalImplicit := by decide +kernel
theorem lk__law_num__law_by : (defScope s__law_num).names.lookup ("_law_by" : Str) = some NameKind.local := by decide +kernel
theorem lk__law_add__law_one : (defScope s__law_add).names.lookup ("_law_one" : Str) = some NameKind.local := by decide +kernel
theorem lk__law_add__law_other : (defScope s__law_add).names.lookup ("_law_other" : Str) = some NameKind.local := by decide +kernel
theorem lk__law_add__law_num : (defScope s__law_add).names.lookup ("_law_num" : Str) = some NameKind.globalImplicit := by decide +kernel
theorem lk__law_mul__law_one : (defScope s__law_mul).names.lookup ("_law_one" : Str) = some NameKind.local := by decide +kernel
theorem lk__law_mul__law_other : (defScope s__law_mul).names.lookup ("_law_other" : Str) = some NameKind.local := by decide +kernel
theorem lk__law_mul__law_num : (defScope s__law_mul).names.lookup ("_law_num" : Str) = some NameKind.globalImplicit := by decide +kernel
theorem lk__law_number__law_well_here : (defScope s__law_number).names.lookup ("_law_well_here" : Str) = some NameKind.local := by decide +kernel
theorem lk__law_number__law_take : (defScope s__law_number).names.lookup ("_law_take" : Str) = some NameKind.globalImplicit := by decide +kernel
theorem lk__law_number__law_way : (defScope s__law_number).names.lookup ("_law_way" : Str) = some NameKind.local := by decide +kernel
theorem lk__law_number__law_num : (defScope s__law_number).names.lookup ("_law_num" : Str) = some NameKind.globalImplicit := by decide +kernel
theorem lk__law_name__law_signs : (defScope s__law_name).names.lookup ("_law_signs" : Str) = some NameKind.cell := by decide +kernel
theorem lk__law_name__law_well_here : (defScope s__law_name).names.lookup ("_law_well_here" : Str) = some NameKind.cell := by decide +kernel
theorem lk__law_name__law_most : (defScope s__law_name).names.lookup ("_law_most" : Str) = some NameKind.local := by decide +kernel
theorem lk__law_name__law_take : (defScope s__law_name).names.lookup ("_law_take" : Str) = some NameKind.globalImplicit := by decide +kernel
theorem lk__law_name_int : (defScope s__law_name).names.lookup ("int" : Str) = some NameKind.globalImplicit := by decide +kernel
theorem lk__law_name__law_size : (defScope s__law_name).names.lookup ("_law_size" : Str) = some NameKind.local := by decide +kernel
theorem lk__law_name_range : (defScope s__law_name).names.lookup ("range" : Str) = some NameKind.globalImplicit := by decide +kernel
theorem lk__law_names__law_well_here : (defScope s__law_names).names.lookup ("_law_well_here" : Str) = some NameKind.local := by decide +kernel
theorem lk__law_names__law_name : (defScope s__law_names).names.lookup ("_law_name" : Str) = some NameKind.globalImplicit := by decide +kernel
theorem lk__law_names__law_names_here : (defScope s__law_names).names.lookup ("_law_names_here" : Str) = some NameKind.local := by decide +kernel
theorem lk__law_names_len : (defScope s__law_names).names.lookup ("len" : Str) = some NameKind.globalImplicit := by decide +kernel
theorem lk__law_names__law_many : (defScope s__law_names).names.lookup ("_law_many" : Str) = some NameKind.local := by decide +kernel
theorem lk__law_names__law_name_here : (defScope s__law_names).names.lookup ("_law_name_here" : Str) = some NameKind.local := by decide +kernel
theorem lk__law_names__law_take : (defScope s__law_names).names.lookup ("_law_take" : Str) = some NameKind.globalImplicit := by decide +kernel
theorem lk__law_names__law_turn : (defScope s__law_names).names.lookup ("_law_turn" : Str) = some NameKind.local := by decide +kernel
theorem lk__law_sum__law_pairs : (defScope s__law_sum).names.lookup ("_law_pairs" : Str) = some NameKind.local := by decide +kernel
theorem lk__law_sum__law_names_here : (defScope s__law_sum).names.lookup ("_law_names_here" : Str) = some NameKind.local := by decide +kernel
theorem lk__law_sum_sorted : (defScope s__law_sum).names.lookup ("sorted" : Str) = some NameKind.globalImplicit := by decide +kernel
theorem lk__law_sum__law_name_here : (defScope s__law_sum).names.lookup ("_law_name_here" : Str) = some NameKind.local := by decide +kernel
theorem lk__law_sum__law_well_here : (defScope s__law_sum).names.lookup ("_law_well_here" : Str) = some NameKind.local := by decide +kernel
theorem lk__law_sum__law_take : (defScope s__law_sum).names.lookup ("_law_take" : Str) = some NameKind.globalImplicit := by decide +kernel
theorem lk__law_sum__law_number : (defScope s__law_sum).names.lookup ("_law_number" : Str) = some NameKind.globalImplicit := by decide +kernel
theorem lk__law_sum__law_number_here : (defScope s__law_sum).names.lookup ("_law_number_here" : Str) = some NameKind.local := by decide +kernel
theorem lk__law_sum_tuple : (defScope s__law_sum).names.lookup ("tuple" : Str) = some NameKind.globalImplicit := by decide +kernel
theorem lk__law_right__law_sums : (defScope s__law_right).names.lookup ("_law_sums" : Str) = some NameKind.local := by decide +kernel
theorem lk__law_right__law_third : (defScope s__law_right).names.lookup ("_law_third" : Str) = some NameKind.local := by decide +kernel
theorem lk__law_right__law_other : (defScope s__law_right).names.lookup ("_law_other" : Str) = some NameKind.local := by decide +kernel
theorem lk__law_right__law_one : (defScope s__law_right).names.lookup ("_law_one" : Str) = some NameKind.local := by decide +kernel
theorem lk__law_right__law_far : (defScope s__law_right).names.lookup ("_law_far" : Str) = some NameKind.local := by decide +kernel
theorem lk__law_right__law_there : (defScope s__law_right).names.lookup ("_law_there" : Str) = some NameKind.local := by decide +kernel
theorem lk__law_right__law_here : (defScope s__law_right).names.lookup ("_law_here" : Str) = some NameKind.local := by decide +kernel
theorem lk__law_right__law_mul : (defScope s__law_right).names.lookup ("_law_mul" : Str) = some NameKind.globalImplicit := by decide +kernel
theorem lk__law_right__law_add : (defScope s__law_right).names.lookup ("_law_add" : Str) = some NameKind.globalImplicit := by decide +kernel
theorem lk__law_right__law_less : (defScope s__law_right).names.lookup ("_law_less" : Str) = some NameKind.local := by decide +kernel
theorem lk__law_right_sum_minus : (defScope s__law_right).names.lookup ("sum_minus" : Str) = some NameKind.globalImplicit := by decide +kernel
theorem lk__law_right__law_making : (defScope s__law_right).names.lookup ("_law_making" : Str) = some NameKind.cell := by decide +kernel
theorem lk__law_right_sum_at : (defScope s__law_right).names.lookup ("sum_at" : Str) = some NameKind.globalImplicit := by decide +kernel
theorem lk__law_right_sum_plus : (defScope s__law_right).names.lookup ("sum_plus" : Str) = some NameKind.globalImplicit := by decide +kernel
theorem lk__law_right__law_numbers : (defScope s__law_right).names.lookup ("_law_numbers" : Str) = some NameKind.local := by decide +kernel
theorem lk__law_right_sum_times : (defScope s__law_right).names.lookup ("sum_times" : Str) = some NameKind.globalImplicit := by decide +kernel
theorem lk__law_right__law_both : (defScope s__law_right).names.lookup ("_law_both" : Str) = some NameKind.local := by decide +kernel
theorem lk__law_right__law_none : (defScope s__law_right).names.lookup ("_law_none" : Str) = some NameKind.local := by decide +kernel
theorem lk__law_called__law_other : (defScope s__law_called).names.lookup ("_law_other" : Str) = some NameKind.local := by decide +kernel
theorem lk__law_called__law_name_here : (defScope s__law_called).names.lookup ("_law_name_here" : Str) = some NameKind.local := by decide +kernel
theorem lk__law_called__law_word : (defScope s__law_called).names.lookup ("_law_word" : Str) = some NameKind.local := by decide +kernel
theorem lk__law_called__law_making : (defScope s__law_called).names.lookup ("_law_making" : Str) = some NameKind.local := by decide +kernel
theorem lk__law_called__law_some : (defScope s__law_called).names.lookup ("_law_some" : Str) = some NameKind.local := by decide +kernel
theorem lk__law_called_sum_called : (defScope s__law_called).names.lookup ("sum_called" : Str) = some NameKind.globalImplicit := by decide +kernel
theorem lk__law_called__law_made : (defScope s__law_called).names.lookup ("_law_made" : Str) = some NameKind.local := by decide +kernel
theorem lk__law_called_sum_at : (defScope s__law_called).names.lookup ("sum_at" : Str) = some NameKind.globalImplicit := by decide +kernel
theorem lk__law_called_sum_of : (defScope s__law_called).names.lookup ("sum_of" : Str) = some NameKind.globalImplicit := by decide +kernel
theorem lk__law_called_list : (defScope s__law_called).names.lookup ("list" : Str) = some NameKind.globalImplicit := by decide +kernel
theorem lk_law__law_script : (defScope s_law).names.lookup ("_law_script" : Str) = some NameKind.local := by decide +kernel
theorem lk_law_len : (defScope s_law).names.lookup ("len" : Str) = some NameKind.globalImplicit := by decide +kernel
theorem lk_law_min : (defScope s_law).names.lookup ("min" : Str) = some NameKind.globalImplicit := by decide +kernel
theorem lk_law_max : (defScope s_law).names.lookup ("max" : Str) = some NameKind.globalImplicit := by decide +kernel
theorem lk_law_range : (defScope s_law).names.lookup ("range" : Str) = some NameKind.globalImplicit := by decide +kernel
theorem lk_law__law_k : (defScope s_law).names.lookup ("_law_k" : Str) = some NameKind.local := by decide +kernel
theorem lk_law__law_well : (defScope s_law).names.lookup ("_law_well" : Str) = some NameKind.globalImplicit := by decide +kernel
theorem lk_law__law_well_here : (defScope s_law).names.lookup ("_law_well_here" : Str) = some NameKind.cell := by decide +kernel
theorem lk_law__law_take : (defScope s_law).names.lookup ("_law_take" : Str) = some NameKind.globalImplicit := by decide +kernel
theorem lk_law__law_names : (defScope s_law).names.lookup ("_law_names" : Str) = some NameKind.globalImplicit := by decide +kernel
theorem lk_law__law_names_here : (defScope s_law).names.lookup ("_law_names_here" : Str) = some NameKind.cell := by decide +kernel
theorem lk_law__law_sums : (defScope s_law).names.lookup ("_law_sums" : Str) = some NameKind.local := by decide +kernel
theorem lk_law__law_numbers : (defScope s_law).names.lookup ("_law_numbers" : Str) = some NameKind.local := by decide +kernel
theorem lk_law__law_making : (defScope s_law).names.lookup ("_law_making" : Str) = some NameKind.local := by decide +kernel
theorem lk_law__law_name_here : (defScope s_law).names.lookup ("_law_name_here" : Str) = some NameKind.local := by decide +kernel
theorem lk_law__law_number : (defScope s_law).names.lookup ("_law_number" : Str) = some NameKind.globalImplicit := by decide +kernel
theorem lk_law__law_right : (defScope s_law).names.lookup ("_law_right" : Str) = some NameKind.globalImplicit := by decide +kernel
theorem lk_law__law_called : (defScope s_law).names.lookup ("_law_called" : Str) = some NameKind.globalImplicit := by decide +kernel
theorem nd_MINUS_ONE : (("MINUS_ONE" : Str) == ("__debug__" : Str)) = false ∧ (("MINUS_ONE" : Str) == ("__classdict__" : Str)) = false := by decide +kernel
theorem nd_NoSum : (("NoSum" : Str) == ("__debug__" : Str)) = false ∧ (("NoSum" : Str) == ("__classdict__" : Str)) = false := by decide +kernel
theorem nd_ZERO : (("ZERO" : Str) == ("__debug__" : Str)) = false ∧ (("ZERO" : Str) == ("__classdict__" : Str)) = false := by decide +kernel
theorem nd__law_add : (("_law_add" : Str) == ("__debug__" : Str)) = false ∧ (("_law_add" : Str) == ("__classdict__" : Str)) = false := by decide +kernel
theorem nd__law_both : (("_law_both" : Str) == ("__debug__" : Str)) = false ∧ (("_law_both" : Str) == ("__classdict__" : Str)) = false := by decide +kernel
theorem nd__law_bottom : (("_law_bottom" : Str) == ("__debug__" : Str)) = false ∧ (("_law_bottom" : Str) == ("__classdict__" : Str)) = false := by decide +kernel
theorem nd__law_by : (("_law_by" : Str) == ("__debug__" : Str)) = false ∧ (("_law_by" : Str) == ("__classdict__" : Str)) = false := by decide +kernel
theorem nd__law_called : (("_law_called" : Str) == ("__debug__" : Str)) = false ∧ (("_law_called" : Str) == ("__classdict__" : Str)) = false := by decide +kernel
theorem nd__law_cell : (("_law_cell" : Str) == ("__debug__" : Str)) = false ∧ (("_law_cell" : Str) == ("__classdict__" : Str)) = false := by decide +kernel
theorem nd__law_common : (("_law_common" : Str) == ("__debug__" : Str)) = false ∧ (("_law_common" : Str) == ("__classdict__" : Str)) = false := by decide +kernel
theorem nd__law_digit : (("_law_digit" : Str) == ("__debug__" : Str)) = false ∧ (("_law_digit" : Str) == ("__classdict__" : Str)) = false := by decide +kernel
theorem nd__law_far : (("_law_far" : Str) == ("__debug__" : Str)) = false ∧ (("_law_far" : Str) == ("__classdict__" : Str)) = false := by decide +kernel
theorem nd__law_here : (("_law_here" : Str) == ("__debug__" : Str)) = false ∧ (("_law_here" : Str) == ("__classdict__" : Str)) = false := by decide +kernel
theorem nd__law_k : (("_law_k" : Str) == ("__debug__" : Str)) = false ∧ (("_law_k" : Str) == ("__classdict__" : Str)) = false := by decide +kernel
theorem nd__law_less : (("_law_less" : Str) == ("__debug__" : Str)) = false ∧ (("_law_less" : Str) == ("__classdict__" : Str)) = false := by decide +kernel
theorem nd__law_made : (("_law_made" : Str) == ("__debug__" : Str)) = false ∧ (("_law_made" : Str) == ("__classdict__" : Str)) = false := by decide +kernel
theorem nd__law_making : (("_law_making" : Str) == ("__debug__" : Str)) = false ∧ (("_law_making" : Str) == ("__classdict__" : Str)) = false := by decide +kernel
theorem nd__law_many : (("_law_many" : Str) == ("__debug__" : Str)) = false ∧ (("_law_many" : Str) == ("__classdict__" : Str)) = false := by decide +kernel
theorem nd__law_most : (("_law_most" : Str) == ("__debug__" : Str)) = false ∧ (("_law_most" : Str) == ("__classdict__" : Str)) = false := by decide +kernel
theorem nd__law_mul : (("_law_mul" : Str) == ("__debug__" : Str)) = false ∧ (("_law_mul" : Str) == ("__classdict__" : Str)) = false := by decide +kernel
theorem nd__law_name : (("_law_name" : Str) == ("__debug__" : Str)) = false ∧ (("_law_name" : Str) == ("__classdict__" : Str)) = false := by decide +kernel
theorem nd__law_name_here : (("_law_name_here" : Str) == ("__debug__" : Str)) = false ∧ (("_law_name_here" : Str) == ("__classdict__" : Str)) = false := by decide +kernel
theorem nd__law_names : (("_law_names" : Str) == ("__debug__" : Str)) = false ∧ (("_law_names" : Str) == ("__classdict__" : Str)) = false := by decide +kernel
theorem nd__law_names_here : (("_law_names_here" : Str) == ("__debug__" : Str)) = false ∧ (("_law_names_here" : Str) == ("__classdict__" : Str)) = false := by decide +kernel
theorem nd__law_none : (("_law_none" : Str) == ("__debug__" : Str)) = false ∧ (("_law_none" : Str) == ("__classdict__" : Str)) = false := by decide +kernel
theorem nd__law_num : (("_law_num" : Str) == ("__debug__" : Str)) = false ∧ (("_law_num" : Str) == ("__classdict__" : Str)) = false := by decide +kernel
theorem nd__law_number : (("_law_number" : Str) == ("__debug__" : Str)) = false ∧ (("_law_number" : Str) == ("__classdict__" : Str)) = false := by decide +kernel
theorem nd__law_number_here : (("_law_number_here" : Str) == ("__debug__" : Str)) = false ∧ (("_law_number_here" : Str) == ("__classdict__" : Str)) = false := by decide +kernel
theorem nd__law_numbers : (("_law_numbers" : Str) == ("__debug__" : Str)) = false ∧ (("_law_numbers" : Str) == ("__classdict__" : Str)) = false := by decide +kernel
theorem nd__law_one : (("_law_one" : Str) == ("__debug__" : Str)) = false ∧ (("_law_one" : Str) == ("__classdict__" : Str)) = false := by decide +kernel
theorem nd__law_other : (("_law_other" : Str) == ("__debug__" : Str)) = false ∧ (("_law_other" : Str) == ("__classdict__" : Str)) = false := by decide +kernel
theorem nd__law_pairs : (("_law_pairs" : Str) == ("__debug__" : Str)) = false ∧ (("_law_pairs" : Str) == ("__classdict__" : Str)) = false := by decide +kernel
theorem nd__law_right : (("_law_right" : Str) == ("__debug__" : Str)) = false ∧ (("_law_right" : Str) == ("__classdict__" : Str)) = false := by decide +kernel
theorem nd__law_script : (("_law_script" : Str) == ("__debug__" : Str)) = false ∧ (("_law_script" : Str) == ("__classdict__" : Str)) = false := by decide +kernel
theorem nd__law_signs : (("_law_signs" : Str) == ("__debug__" : Str)) = false ∧ (("_law_signs" : Str) == ("__classdict__" : Str)) = false := by decide +kernel
theorem nd__law_size : (("_law_size" : Str) == ("__debug__" : Str)) = false ∧ (("_law_size" : Str) == ("__classdict__" : Str)) = false := by decide +kernel
theorem nd__law_some : (("_law_some" : Str) == ("__debug__" : Str)) = false ∧ (("_law_some" : Str) == ("__classdict__" : Str)) = false := by decide +kernel
theorem nd__law_sum : (("_law_sum" : Str) == ("__debug__" : Str)) = false ∧ (("_law_sum" : Str) == ("__classdict__" : Str)) = false := by decide +kernel
theorem nd__law_sums : (("_law_sums" : Str) == ("__debug__" : Str)) = false ∧ (("_law_sums" : Str) == ("__classdict__" : Str)) = false := by decide +kernel
theorem nd__law_take : (("_law_take" : Str) == ("__debug__" : Str)) = false ∧ (("_law_take" : Str) == ("__classdict__" : Str)) = false := by decide +kernel
theorem nd__law_there : (("_law_there" : Str) == ("__debug__" : Str)) = false ∧ (("_law_there" : Str) == ("__classdict__" : Str)) = false := by decide +kernel
theorem nd__law_third : (("_law_third" : Str) == ("__debug__" : Str)) = false ∧ (("_law_third" : Str) == ("__classdict__" : Str)) = false := by decide +kernel
theorem nd__law_top : (("_law_top" : Str) == ("__debug__" : Str)) = false ∧ (("_law_top" : Str) == ("__classdict__" : Str)) = false := by decide +kernel
theorem nd__law_turn : (("_law_turn" : Str) == ("__debug__" : Str)) = false ∧ (("_law_turn" : Str) == ("__classdict__" : Str)) = false := by decide +kernel
theorem nd__law_way : (("_law_way" : Str) == ("__debug__" : Str)) = false ∧ (("_law_way" : Str) == ("__classdict__" : Str)) = false := by decide +kernel
theorem nd__law_well : (("_law_well" : Str) == ("__debug__" : Str)) = false ∧ (("_law_well" : Str) == ("__classdict__" : Str)) = false := by decide +kernel
theorem nd__law_well_here : (("_law_well_here" : Str) == ("__debug__" : Str)) = false ∧ (("_law_well_here" : Str) == ("__classdict__" : Str)) = false := by decide +kernel
theorem nd__law_word : (("_law_word" : Str) == ("__debug__" : Str)) = false ∧ (("_law_word" : Str) == ("__classdict__" : Str)) = false := by decide +kernel
theorem nd_a : (("a" : Str) == ("__debug__" : Str)) = false ∧ (("a" : Str) == ("__classdict__" : Str)) = false := by decide +kernel
theorem nd_abs : (("abs" : Str) == ("__debug__" : Str)) = false ∧ (("abs" : Str) == ("__classdict__" : Str)) = false := by decide +kernel
theorem nd_b : (("b" : Str) == ("__debug__" : Str)) = false ∧ (("b" : Str) == ("__classdict__" : Str)) = false := by decide +kernel
theorem nd_bottom : (("bottom" : Str) == ("__debug__" : Str)) = false ∧ (("bottom" : Str) == ("__classdict__" : Str)) = false := by decide +kernel
theorem nd_common_divisor : (("common_divisor" : Str) == ("__debug__" : Str)) = false ∧ (("common_divisor" : Str) == ("__classdict__" : Str)) = false := by decide +kernel
theorem nd_divisor : (("divisor" : Str) == ("__debug__" : Str)) = false ∧ (("divisor" : Str) == ("__classdict__" : Str)) = false := by decide +kernel
theorem nd_factor : (("factor" : Str) == ("__debug__" : Str)) = false ∧ (("factor" : Str) == ("__classdict__" : Str)) = false := by decide +kernel
theorem nd_factors : (("factors" : Str) == ("__debug__" : Str)) = false ∧ (("factors" : Str) == ("__classdict__" : Str)) = false := by decide +kernel
theorem nd_int : (("int" : Str) == ("__debug__" : Str)) = false ∧ (("int" : Str) == ("__classdict__" : Str)) = false := by decide +kernel
theorem nd_len : (("len" : Str) == ("__debug__" : Str)) = false ∧ (("len" : Str) == ("__classdict__" : Str)) = false := by decide +kernel
theorem nd_list : (("list" : Str) == ("__debug__" : Str)) = false ∧ (("list" : Str) == ("__classdict__" : Str)) = false := by decide +kernel
theorem nd_lowest_terms : (("lowest_terms" : Str) == ("__debug__" : Str)) = false ∧ (("lowest_terms" : Str) == ("__classdict__" : Str)) = false := by decide +kernel
theorem nd_making : (("making" : Str) == ("__debug__" : Str)) = false ∧ (("making" : Str) == ("__classdict__" : Str)) = false := by decide +kernel
theorem nd_max : (("max" : Str) == ("__debug__" : Str)) = false ∧ (("max" : Str) == ("__classdict__" : Str)) = false := by decide +kernel
theorem nd_min : (("min" : Str) == ("__debug__" : Str)) = false ∧ (("min" : Str) == ("__classdict__" : Str)) = false := by decide +kernel
theorem nd_name : (("name" : Str) == ("__debug__" : Str)) = false ∧ (("name" : Str) == ("__classdict__" : Str)) = false := by decide +kernel
theorem nd_number : (("number" : Str) == ("__debug__" : Str)) = false ∧ (("number" : Str) == ("__classdict__" : Str)) = false := by decide +kernel
theorem nd_pairs : (("pairs" : Str) == ("__debug__" : Str)) = false ∧ (("pairs" : Str) == ("__classdict__" : Str)) = false := by decide +kernel
theorem nd_plus : (("plus" : Str) == ("__debug__" : Str)) = false ∧ (("plus" : Str) == ("__classdict__" : Str)) = false := by decide +kernel
theorem nd_rest : (("rest" : Str) == ("__debug__" : Str)) = false ∧ (("rest" : Str) == ("__classdict__" : Str)) = false := by decide +kernel
theorem nd_sorted : (("sorted" : Str) == ("__debug__" : Str)) = false ∧ (("sorted" : Str) == ("__classdict__" : Str)) = false := by decide +kernel
theorem nd_sum_at : (("sum_at" : Str) == ("__debug__" : Str)) = false ∧ (("sum_at" : Str) == ("__classdict__" : Str)) = false := by decide +kernel
theorem nd_sum_called : (("sum_called" : Str) == ("__debug__" : Str)) = false ∧ (("sum_called" : Str) == ("__classdict__" : Str)) = false := by decide +kernel
theorem nd_sum_minus : (("sum_minus" : Str) == ("__debug__" : Str)) = false ∧ (("sum_minus" : Str) == ("__classdict__" : Str)) = false := by decide +kernel
theorem nd_sum_of : (("sum_of" : Str) == ("__debug__" : Str)) = false ∧ (("sum_of" : Str) == ("__classdict__" : Str)) = false := by decide +kernel
theorem nd_sum_plus : (("sum_plus" : Str) == ("__debug__" : Str)) = false ∧ (("sum_plus" : Str) == ("__classdict__" : Str)) = false := by decide +kernel
theorem nd_sum_times : (("sum_times" : Str) == ("__debug__" : Str)) = false ∧ (("sum_times" : Str) == ("__classdict__" : Str)) = false := by decide +kernel
theorem nd_times : (("times" : Str) == ("__debug__" : Str)) = false ∧ (("times" : Str) == ("__classdict__" : Str)) = false := by decide +kernel
theorem nd_top : (("top" : Str) == ("__debug__" : Str)) = false ∧ (("top" : Str) == ("__classdict__" : Str)) = false := by decide +kernel
theorem nd_tuple : (("tuple" : Str) == ("__debug__" : Str)) = false ∧ (("tuple" : Str) == ("__classdict__" : Str)) = false := by decide +kernel
theorem nd_value : (("value" : Str) == ("__debug__" : Str)) = false ∧ (("value" : Str) == ("__classdict__" : Str)) = false := by decide +kernel
theorem nd_word : (("word" : Str) == ("__debug__" : Str)) = false ∧ (("word" : Str) == ("__classdict__" : Str)) = false := by decide +kernel
theorem nn_len : ("len" : Str) ≠ "__name__" := by decide +kernel
theorem nn_abs : ("abs" : Str) ≠ "__name__" := by decide +kernel
theorem nn_max : ("max" : Str) ≠ "__name__" := by decide +kernel
theorem nn_min : ("min" : Str) ≠ "__name__" := by decide +kernel
theorem nn_int : ("int" : Str) ≠ "__name__" := by decide +kernel
theorem nn_tuple : ("tuple" : Str) ≠ "__name__" := by decide +kernel
theorem nn_list : ("list" : Str) ≠ "__name__" := by decide +kernel
theorem nn_sorted : ("sorted" : Str) ≠ "__name__" := by decide +kernel
end W
namespace W
open PySem L2 M
def m_common_divisor : Ms := (sSeq (sWhile BIG (mTest (mOp fNe (mVar 1) (mC (.int 0)))) (sSeq (sSet 2 (mOp fMod (mVar 0) (mVar 1)))
  (sSeq (sSet 0 (mVar 1))
  (sSet 1 (mVar 2)))))
  (sRet (mVar 0)))
def M_common_divisor : Ms := mDef 1 m_common_divisor
def m_lowest_terms : Ms := (sSeq (sSet 2 (mCall M_common_divisor [] (mCons (mVarF 0) (mCons (mVarF 1) mNil))))
  (sRet (mTup (mCons (mOp fDiv (mVar 0) (mVar 2)) (mCons (mOp fDiv (mVar 1) (mVar 2)) mNil)))))
def M_lowest_terms : Ms := mDef 1 m_lowest_terms
def m_plus : Ms := (sRet (mCall M_lowest_terms [] (mCons (mOp fAdd (mOp fMul (mOp (fOr fIx fGetD) (mVar 0) (mC (.int 0))) (mOp (fOr fIx fGetD) (mVar 1) (mC (.int 1)))) (mOp fMul (mOp (fOr fIx fGetD) (mVar 1) (mC (.int 0))) (mOp (fOr fIx fGetD) (mVar 0) (mC (.int 1))))) (mCons (mOp fMul (mOp (fOr fIx fGetD) (mVar 0) (mC (.int 1))) (mOp (fOr fIx fGetD) (mVar 1) (mC (.int 1)))) mNil))))
def M_plus : Ms := mDef 0 m_plus
def m_times : Ms := (sRet (mCall M_lowest_terms [] (mCons (mOp fMul (mOp (fOr fIx fGetD) (mVar 0) (mC (.int 0))) (mOp (fOr fIx fGetD) (mVar 1) (mC (.int 0)))) (mCons (mOp fMul (mOp (fOr fIx fGetD) (mVar 0) (mC (.int 1))) (mOp (fOr fIx fGetD) (mVar 1) (mC (.int 1)))) mNil))))
def M_times : Ms := mDef 0 m_times
def m_sum_of : Ms := (sSeq (sSet 2 mDnew)
  (sSeq (sFor (mSeq (mVar 1)) (gOrM (gTupM 2 (gsCons (gPut 3) (gsCons (gPut 4) gsNil))) (gLstM 2 (gsCons (gPut 3) (gsCons (gPut 4) gsNil)))) (sSetD 2 (mVar 3) (mCall M_plus [] (mCons (mGet2 (mVar 2) (mVar 3) (mC (.tup [(.int 0), (.int 1)]))) (mCons (mVarF 4) mNil)))))
  (sRet (mTup (mCons (mVar 0) (mCons (mB1 fTuple (mComp 1 (mSeq (mB1 (gOr fSortedL fSortedD) (mVar 2))) (gPut 5) (mTest (mOp fNe (mOp (fOr fIx fGetD) (mVar 2) (mVar 5)) (mC (.tup [(.int 0), (.int 1)])))) (mTup (mCons (mVar 5) (mCons (mOp (fOr fIx fGetD) (mVar 2) (mVar 5)) mNil))))) mNil))))))
def M_sum_of : Ms := mDef 3 m_sum_of
def m_sum_plus : Ms := (sRet (mCall M_sum_of [] (mCons (mCall M_plus [] (mCons (mOp (fOr fIx fGetD) (mVar 0) (mC (.int 0))) (mCons (mOp (fOr fIx fGetD) (mVar 1) (mC (.int 0))) mNil))) (mCons (mOp fAdd (mOp (fOr fIx fGetD) (mVar 0) (mC (.int 1))) (mOp (fOr fIx fGetD) (mVar 1) (mC (.int 1)))) mNil))))
def M_sum_plus : Ms := mDef 0 m_sum_plus
def m_sum_times : Ms := (sRet (mCall M_sum_of [] (mCons (mCall M_times [] (mCons (mOp (fOr fIx fGetD) (mVar 0) (mC (.int 0))) (mCons (mVarF 1) mNil))) (mCons (mFz (mComp 2 (mSeq (mOp (fOr fIx fGetD) (mVar 0) (mC (.int 1)))) (gOrM (gTupM 2 (gsCons (gPut 2) (gsCons (gPut 3) gsNil))) (gLstM 2 (gsCons (gPut 2) (gsCons (gPut 3) gsNil)))) mTrue (mTup (mCons (mVar 2) (mCons (mCall M_times [] (mCons (mVarF 3) (mCons (mVarF 1) mNil))) mNil))))) mNil))))
def M_sum_times : Ms := mDef 0 m_sum_times
def m_sum_minus : Ms := (sRet (mCall M_sum_plus [] (mCons (mVarF 0) (mCons (mCall M_sum_times [] (mCons (mVarF 1) (mCons (mC (.tup [(.int (-1)), (.int 1)])) mNil))) mNil))))
def M_sum_minus : Ms := mDef 0 m_sum_minus
def m_sum_at : Ms := (sSeq (sSet 2 (mOp (fOr fIx fGetD) (mOp (fOr fIx fGetD) (mVar 0) (mC (.int 0))) (mC (.int 0))))
  (sSeq (sSet 3 (mOp (fOr fIx fGetD) (mOp (fOr fIx fGetD) (mVar 0) (mC (.int 0))) (mC (.int 1))))
  (sSeq (sFor (mSeq (mOp (fOr fIx fGetD) (mVar 0) (mC (.int 1)))) (gOrM (gTupM 2 (gsCons (gPut 4) (gsCons (gPut 5) gsNil))) (gLstM 2 (gsCons (gPut 4) (gsCons (gPut 5) gsNil)))) (sSeq (sIf (mTest (mOp (fOr (fInL true) (fInD true)) (mVar 4) (mVar 1))) (sRaise "NoSum" (mCons (mJs (mJ (mC (.str "the making lacks the name ")) (mJ (mFv (mVar 4)) (mPure [])))) mNil)) sNext)
  (sSeq (sSet 6 (mOp (fOr fIx fGetD) (mVar 1) (mVar 4)))
  (sSeq (sSet 2 (mOp fAdd (mOp fMul (mOp fMul (mVar 2) (mOp (fOr fIx fGetD) (mVar 5) (mC (.int 1)))) (mOp (fOr fIx fGetD) (mVar 6) (mC (.int 1)))) (mOp fMul (mOp fMul (mOp (fOr fIx fGetD) (mVar 5) (mC (.int 0))) (mOp (fOr fIx fGetD) (mVar 6) (mC (.int 0)))) (mVar 3))))
  (sSet 3 (mOp fMul (mOp fMul (mVar 3) (mOp (fOr fIx fGetD) (mVar 5) (mC (.int 1)))) (mOp (fOr fIx fGetD) (mVar 6) (mC (.int 1)))))))))
  (sRet (mCall M_lowest_terms [] (mCons (mVarF 2) (mCons (mVarF 3) mNil)))))))
def M_sum_at : Ms := mDef 5 m_sum_at
def m_sum_called : Ms := (sRet (mTup (mCons (mOp (fOr fIx fGetD) (mVar 0) (mC (.int 0))) (mCons (mB1 fTuple (mComp 2 (mSeq (mOp (fOr fIx fGetD) (mVar 0) (mC (.int 1)))) (gOrM (gTupM 2 (gsCons (gPut 2) (gsCons (gPut 3) gsNil))) (gLstM 2 (gsCons (gPut 2) (gsCons (gPut 3) gsNil)))) mTrue (mTup (mCons (mJs (mJ (mFv (mVar 1)) (mJ (mC (.str ".")) (mJ (mFv (mVar 2)) (mPure []))))) (mCons (mVar 3) mNil))))) mNil))))
def M_sum_called : Ms := mDef 0 m_sum_called
def m__law_well : Ms := (sSeq (sSet 2 (mC (.int 0)))
  (sSeq (sIf (mTest (mOp fLt (mVar 1) (mB1 fLen (mVar 0)))) (sSet 2 (mOp (fOr fIx fGetD) (mVar 0) (mVar 1))) sNext)
  (sRet (mLst (mCons (mB1 fInt (mOp fGe (mB1 fAbs (mVar 2)) (mOp fPow (mC (.int 10)) (mC (.int 18))))) (mCons (mVar 2) (mCons (mOp fMul (mC (.int 17)) (mVar 1)) mNil)))))))
def M__law_well : Ms := mDef 1 m__law_well
def m__law_take : Ms := (sSeq (sIf (mTest (mOp fEq (mOp (fOr fIx fGetD) (mVar 0) (mC (.int 0))) (mC (.int 1)))) (sSeq (sSet 2 (mOp fMod (mOp (fOr fIx fGetD) (mVar 0) (mC (.int 1))) (mVar 1)))
  (sSeq (sSetIx 0 (mC (.int 1)) (mOp fDiv (mOp (fOr fIx fGetD) (mVar 0) (mC (.int 1))) (mVar 1)))
  (sRet (mVar 2)))) sNext)
  (sSeq (sSet 3 (mOp fAdd (mOp (fOr fIx fGetD) (mVar 0) (mC (.int 2))) (mC (.int 1))))
  (sSeq (sSetIx 0 (mC (.int 2)) (mVar 3))
  (sSeq (sSet 4 (mOp fMod (mOp fMul (mOp fAdd (mOp fAdd (mOp (fOr fIx fGetD) (mVar 0) (mC (.int 1))) (mOp fMul (mOp fMul (mC (.int 7919)) (mVar 3)) (mVar 3))) (mVar 3)) (mC (.int 48271))) (mC (.int 2305843009213693951))))
  (sRet (mOp fMod (mOp fDiv (mOp fMod (mOp fAdd (mOp fMul (mVar 4) (mC (.int 1442695040888963407))) (mC (.int 4321))) (mC (.int 2305843009213693921))) (mC (.int 64))) (mVar 1)))))))
def M__law_take : Ms := mDef 3 m__law_take
def m__law_common : Ms := (sSeq (sWhile BIG (mTest (mOp fNe (mVar 1) (mC (.int 0)))) (sPar 0 1 (mCons (mVar 1) (mCons (mOp fMod (mVar 0) (mVar 1)) mNil))))
  (sRet (mB1 fAbs (mVar 0))))
def M__law_common : Ms := mDef 0 m__law_common
def m__law_num : Ms := (sSeq (sIf (mTest (mOp fLt (mVar 1) (mC (.int 0)))) (sSeq (sSet 0 (mOp fSub (mC (.int 0)) (mVar 0)))
  (sSet 1 (mOp fSub (mC (.int 0)) (mVar 1)))) sNext)
  (sSeq (sSet 2 (mCall M__law_common [] (mCons (mVarF 0) (mCons (mVarF 1) mNil))))
  (sRet (mTup (mCons (mOp fDiv (mVar 0) (mVar 2)) (mCons (mOp fDiv (mVar 1) (mVar 2)) mNil))))))
def M__law_num : Ms := mDef 1 m__law_num
def m__law_add : Ms := (sRet (mCall M__law_num [] (mCons (mOp fAdd (mOp fMul (mOp (fOr fIx fGetD) (mVar 0) (mC (.int 0))) (mOp (fOr fIx fGetD) (mVar 1) (mC (.int 1)))) (mOp fMul (mOp (fOr fIx fGetD) (mVar 1) (mC (.int 0))) (mOp (fOr fIx fGetD) (mVar 0) (mC (.int 1))))) (mCons (mOp fMul (mOp (fOr fIx fGetD) (mVar 0) (mC (.int 1))) (mOp (fOr fIx fGetD) (mVar 1) (mC (.int 1)))) mNil))))
def M__law_add : Ms := mDef 0 m__law_add
def m__law_mul : Ms := (sRet (mCall M__law_num [] (mCons (mOp fMul (mOp (fOr fIx fGetD) (mVar 0) (mC (.int 0))) (mOp (fOr fIx fGetD) (mVar 1) (mC (.int 0)))) (mCons (mOp fMul (mOp (fOr fIx fGetD) (mVar 0) (mC (.int 1))) (mOp (fOr fIx fGetD) (mVar 1) (mC (.int 1)))) mNil))))
def M__law_mul : Ms := mDef 0 m__law_mul
def m__law_number : Ms := (sSeq (sSet 1 (mCall M__law_take [] (mCons (mVar 0) (mCons (mC (.int 8)) mNil))))
  (sSeq (sIf (mTest (mOp fEq (mVar 1) (mC (.int 7)))) (sRet (mCall M__law_num [] (mCons (mOp fSub (mCall M__law_take [] (mCons (mVar 0) (mCons (mOp fAdd (mOp fMul (mC (.int 2)) (mOp fPow (mC (.int 10)) (mC (.int 8)))) (mC (.int 1))) mNil))) (mOp fPow (mC (.int 10)) (mC (.int 8)))) (mCons (mOp fAdd (mC (.int 1)) (mCall M__law_take [] (mCons (mVar 0) (mCons (mOp fPow (mC (.int 10)) (mC (.int 8))) mNil)))) mNil)))) sNext)
  (sSeq (sIf (mTest (mOp fGt (mVar 1) (mC (.int 4)))) (sRet (mCall M__law_num [] (mCons (mOp fSub (mCall M__law_take [] (mCons (mVar 0) (mCons (mC (.int 201)) mNil))) (mC (.int 100))) (mCons (mOp fAdd (mC (.int 1)) (mCall M__law_take [] (mCons (mVar 0) (mCons (mC (.int 6)) mNil)))) mNil)))) sNext)
  (sRet (mTup (mCons (mOp fSub (mCall M__law_take [] (mCons (mVar 0) (mCons (mC (.int 9)) mNil))) (mC (.int 4))) (mCons (mC (.int 1)) mNil)))))))
def M__law_number : Ms := mDef 1 m__law_number
def m__law_name : Ms := (sSeq (sSet 2 (mC (.str "abcdefghijklmnopqrstuvwxyz0123456789.")))
  (sSeq (sSet 3 (mOp fAdd (mC (.int 1)) (mCall M__law_take [] (mCons (mVar 0) (mCons (mOp (fOr fIx fGetD) (mLst (mCons (mC (.int 4)) (mCons (mVar 1) mNil))) (mB1 fInt (mOp fEq (mCall M__law_take [] (mCons (mVar 0) (mCons (mC (.int 6)) mNil))) (mC (.int 5))))) mNil)))))
  (sRet (mS1 fJoin (mC (.str "")) (mComp 1 (mRng1 (mVar 3)) (gPut 4) mTrue (mOp (fOr fIx fGetD) (mVar 2) (mCall M__law_take [] (mCons (mVar 0) (mCons (mC (.int 37)) mNil)))))))))
def M__law_name : Ms := mDef 2 m__law_name
def m__law_names : Ms := (sSeq (sSet 2 (mLst (mCons (mCall M__law_name [] (mCons (mVar 0) (mCons (mC (.int 20)) mNil))) mNil)))
  (sSeq (sWhile BIG (mTest (mOp fLt (mB1 fLen (mVar 2)) (mVar 1))) (sSeq (sSet 3 (mCall M__law_name [] (mCons (mVar 0) (mCons (mC (.int 20)) mNil))))
  (sSeq (sIf (mTest (mOp fEq (mCall M__law_take [] (mCons (mVar 0) (mCons (mC (.int 3)) mNil))) (mC (.int 0)))) (sSet 3 (mSl (mOp fAdd (mOp (fOr fIx fGetD) (mVar 2) (mUn fNeg (mC (.int 1)))) (mOp (fOr fIx fGetD) (mC (.str "a0.z")) (mCall M__law_take [] (mCons (mVar 0) (mCons (mC (.int 4)) mNil))))) mNoPart (mPart (mC (.int 20))))) sNext)
  (sSeq (sSet 4 (mC (.int 0)))
  (sSeq (sWhile BIG (mTest (mOp (fOr (fInL false) (fInD false)) (mVar 3) (mVar 2))) (sSeq (sSet 3 (mOp fAdd (mOp fAdd (mSl (mVar 3) mNoPart (mPart (mC (.int 18)))) (mOp (fOr fIx fGetD) (mC (.str "0123456789")) (mOp fMod (mVar 4) (mC (.int 10))))) (mOp (fOr fIx fGetD) (mC (.str "abcdefghij")) (mOp fMod (mOp fDiv (mVar 4) (mC (.int 10))) (mC (.int 10))))))
  (sSet 4 (mOp fAdd (mVar 4) (mC (.int 1))))))
  (sExpr (mOnL 2 (mAppend 2 (mVar 3)))))))))
  (sRet (mVar 2))))
def M__law_names : Ms := mDef 3 m__law_names
def m__law_sum : Ms := (sSeq (sSet 2 (mLst mNil))
  (sSeq (sFor (mSeq (mB1 (gOr fSortedL fSortedD) (mVar 1))) (gPut 3) (sIf (mTest (mOp fGt (mCall M__law_take [] (mCons (mVar 0) (mCons (mC (.int 3)) mNil))) (mC (.int 0)))) (sSeq (sSet 4 (mCall M__law_number [] (mCons (mVar 0) mNil)))
  (sIf (mTest (mOp fNe (mVar 4) (mTup (mCons (mC (.int 0)) (mCons (mC (.int 1)) mNil))))) (sExpr (mOnL 2 (mAppend 2 (mTup (mCons (mVar 3) (mCons (mVar 4) mNil)))))) sNext)) sNext))
  (sRet (mTup (mCons (mCall M__law_number [] (mCons (mVar 0) mNil)) (mCons (mB1 fTuple (mVar 2)) mNil))))))
def M__law_sum : Ms := mDef 3 m__law_sum
def m__law_right : Ms := (sSeq (sAsg (mVar 0) (gOrM (gTupM 3 (gsCons (gPut 3) (gsCons (gPut 4) (gsCons (gPut 5) gsNil)))) (gLstM 3 (gsCons (gPut 3) (gsCons (gPut 4) (gsCons (gPut 5) gsNil))))))
  (sSeq (sAsg (mComp 1 (mSeq (mVar 0)) (gPut 12) mTrue (mCall M_sum_at [] (mCons (mVarF 12) (mCons (mVarF 2) mNil)))) (gOrM (gTupM 3 (gsCons (gPut 6) (gsCons (gPut 7) (gsCons (gPut 8) gsNil)))) (gLstM 3 (gsCons (gPut 6) (gsCons (gPut 7) (gsCons (gPut 8) gsNil))))))
  (sSeq (sSet 9 (mCall M__law_add [] (mCons (mVarF 6) (mCons (mCall M__law_mul [] (mCons (mVarF 7) (mCons (mTup (mCons (mUn fNeg (mC (.int 1))) (mCons (mC (.int 1)) mNil))) mNil))) mNil))))
  (sSeq (sIf (mOr (mTest (mOp fNe (mCall M_sum_at [] (mCons (mCall M_sum_plus [] (mCons (mVarF 3) (mCons (mVarF 4) mNil))) (mCons (mVarF 2) mNil))) (mCall M__law_add [] (mCons (mVarF 6) (mCons (mVarF 7) mNil))))) (mTest (mOp fNe (mCall M_sum_at [] (mCons (mCall M_sum_minus [] (mCons (mVarF 3) (mCons (mVarF 4) mNil))) (mCons (mVarF 2) mNil))) (mVar 9)))) (sRet (mC (.bl false))) sNext)
  (sSeq (sSet 10 (mCall M_sum_plus [] (mCons (mCall M_sum_times [] (mCons (mVarF 3) (mCons (mOp (fOr fIx fGetD) (mVar 1) (mC (.int 0))) mNil))) (mCons (mCall M_sum_times [] (mCons (mVarF 5) (mCons (mOp (fOr fIx fGetD) (mVar 1) (mC (.int 1))) mNil))) mNil))))
  (sSeq (sIf (mTest (mOp fNe (mCall M_sum_at [] (mCons (mVarF 10) (mCons (mVarF 2) mNil))) (mCall M__law_add [] (mCons (mCall M__law_mul [] (mCons (mVarF 6) (mCons (mOp (fOr fIx fGetD) (mVar 1) (mC (.int 0))) mNil))) (mCons (mCall M__law_mul [] (mCons (mVarF 8) (mCons (mOp (fOr fIx fGetD) (mVar 1) (mC (.int 1))) mNil))) mNil))))) (sRet (mC (.bl false))) sNext)
  (sSeq (sIf (mTest (mOp fNe (mCall M_sum_plus [] (mCons (mCall M_sum_plus [] (mCons (mVarF 3) (mCons (mVarF 4) mNil))) (mCons (mVarF 5) mNil))) (mCall M_sum_plus [] (mCons (mVarF 5) (mCons (mCall M_sum_plus [] (mCons (mVarF 4) (mCons (mVarF 3) mNil))) mNil))))) (sRet (mC (.bl false))) sNext)
  (sSeq (sIf (mTest (mOp fNe (mCall M_sum_times [] (mCons (mCall M_sum_times [] (mCons (mVarF 3) (mCons (mOp (fOr fIx fGetD) (mVar 1) (mC (.int 0))) mNil))) (mCons (mOp (fOr fIx fGetD) (mVar 1) (mC (.int 1))) mNil))) (mCall M_sum_times [] (mCons (mVarF 3) (mCons (mCall M__law_mul [] (mCons (mOp (fOr fIx fGetD) (mVar 1) (mC (.int 0))) (mCons (mOp (fOr fIx fGetD) (mVar 1) (mC (.int 1))) mNil))) mNil))))) (sRet (mC (.bl false))) sNext)
  (sSeq (sSet 11 (mCall M_sum_minus [] (mCons (mVarF 3) (mCons (mVarF 3) mNil))))
  (sRet (mAndV (mOp fEq (mVar 11) (mTup (mCons (mTup (mCons (mC (.int 0)) (mCons (mC (.int 1)) mNil))) (mCons (mTup mNil) mNil)))) (mAndV (mOp fEq (mCall M_sum_at [] (mCons (mVarF 11) (mCons (mFz mDnew) mNil))) (mTup (mCons (mC (.int 0)) (mCons (mC (.int 1)) mNil)))) (mOp fEq (mCall M_sum_plus [] (mCons (mCall M_sum_minus [] (mCons (mVarF 3) (mCons (mVarF 5) mNil))) (mCons (mVarF 5) mNil))) (mVar 3))))))))))))))
def M__law_right : Ms := mDef 9 m__law_right
def m__law_called : Ms := (sSeq (sSet 3 mDnew)
  (sSeq (sForK 1 (gPut 4) (sSetD 3 (mOp fAdd (mOp fAdd (mVar 2) (mC (.str "."))) (mVar 4)) (mOp (fOr fIx fGetD) (mVar 1) (mVar 4))))
  (sSeq (sSet 5 (mCall M_sum_called [] (mCons (mVarF 0) (mCons (mVarF 2) mNil))))
  (sSeq (sIf (mTest (mOp fNe (mCall M_sum_at [] (mCons (mVarF 5) (mCons (mVarF 3) mNil))) (mCall M_sum_at [] (mCons (mVarF 0) (mCons (mVarF 1) mNil))))) (sRet (mC (.bl false))) sNext)
  (sRet (mAndV (mOp fEq (mCall M_sum_of [] (mCons (mOp (fOr fIx fGetD) (mVar 5) (mC (.int 0))) (mCons (mFz (mUn fRev (mB1 (gOr fList fListD) (mOp (fOr fIx fGetD) (mVar 5) (mC (.int 1)))))) mNil))) (mVar 5)) (mOp fEq (mCall M_sum_of [] (mCons (mOp (fOr fIx fGetD) (mVar 0) (mC (.int 0))) (mCons (mOp (fOr fIx fGetD) (mVar 0) (mC (.int 1))) mNil))) (mVar 0))))))))
def M__law_called : Ms := mDef 3 m__law_called
def m_law : Ms := (sSeq (sFor (mRng1 (mB2 fMax (mC (.int 1)) (mB2 fMin (mB1 fLen (mVar 0)) (mC (.int 20))))) (gPut 1) (sSeq (sSet 2 (mCall M__law_well [] (mCons (mVarF 0) (mCons (mVarF 1) mNil))))
  (sSeq (sSet 3 (mCall M__law_names [] (mCons (mVar 2) (mCons (mOp fAdd (mC (.int 1)) (mCall M__law_take [] (mCons (mVar 2) (mCons (mC (.int 6)) mNil)))) mNil))))
  (sSeq (sSet 4 (mComp 1 (mRng1 (mC (.int 3))) (gPut 8) mTrue (mCall M__law_sum [] (mCons (mVar 2) (mCons (mVarF 3) mNil)))))
  (sSeq (sSet 5 (mComp 1 (mRng1 (mC (.int 2))) (gPut 8) mTrue (mCall M__law_number [] (mCons (mVar 2) mNil))))
  (sSeq (sSet 6 mDnew)
  (sSeq (sFor (mSeq (mVar 3)) (gPut 7) (sSetD 6 (mVar 7) (mCall M__law_number [] (mCons (mVar 2) mNil))))
  (sSeq (sIf (mOr (mNot (mTest (mCall M__law_right [] (mCons (mVarF 4) (mCons (mVarF 5) (mCons (mVarF 6) mNil)))))) (mNot (mTest (mCall M__law_right [] (mCons (mFz (mUn fRev (mVar 4))) (mCons (mVarF 5) (mCons (mVarF 6) mNil))))))) (sRet (mC (.bl false))) sNext)
  (sIf (mNot (mTest (mCall M__law_called [] (mCons (mOp (fOr fIx fGetD) (mVar 4) (mC (.int 0))) (mCons (mVarF 6) (mCons (mFz (mSl (mC (.str "abcdefgh")) mNoPart (mPart (mOp fAdd (mC (.int 1)) (mCall M__law_take [] (mCons (mVar 2) (mCons (mC (.int 8)) mNil))))))) mNil)))))) (sRet (mC (.bl false))) sNext)))))))))
  (sRet (mC (.bl true))))
def M_law : Ms := mDef 7 m_law
end W
namespace W
open PySem L2 M
section
variable {P : Program} {w : World} {K : PySem.W.Frag} {mg : Str → Option Value} {base : Heap} {a : Adr}
theorem ok_common_divisor (T : Txt K mg a) : FnOk P w K mg base (CXE P w) 2 a.f_common_divisor a.d_common_divisor ["a", "b"] (SpM ⟨K, mg⟩ 2 M_common_divisor) := by
  have S := sc_common_divisor
  exact def_ok (m := m_common_divisor) T.fun_common_divisor S (fun cdv A outer s H E hr => (jss_cons (js_while (n := BIG) PassesOwn.leaving (jt_ne hr.units (je_var (i := 1) rfl (Or.inl lk_common_divisor_b) nd_b.1 nd_b.2) je_int) (jss_cons (js_set (i := 2) S.nd rfl (Or.inl lk_common_divisor_rest) (je_mod (je_var (i := 0) rfl (Or.inl lk_common_divisor_a) nd_a.1 nd_a.2) (je_var (i := 1) rfl (Or.inl lk_common_divisor_b) nd_b.1 nd_b.2)))
      (jss_cons (js_set (i := 0) S.nd rfl (Or.inl lk_common_divisor_a) (je_var (i := 1) rfl (Or.inl lk_common_divisor_b) nd_b.1 nd_b.2))
      (jss_one (js_set (i := 1) S.nd rfl (Or.inl lk_common_divisor_b) (je_var (i := 2) rfl (Or.inl lk_common_divisor_rest) nd_rest.1 nd_rest.2))))))
      (jss_one (js_ret (je_var (i := 0) rfl (Or.inl lk_common_divisor_a) nd_a.1 nd_a.2)))))
theorem ok_lowest_terms (T : Txt K mg a) : FnOk P w K mg base (CXE P w) 3 a.f_lowest_terms a.d_lowest_terms ["top", "bottom"] (SpM ⟨K, mg⟩ 2 M_lowest_terms) := by
  have S := sc_lowest_terms
  have G_common_divisor := ok_common_divisor (P := P) (w := w) (base := base) T
  exact def_ok (m := m_lowest_terms) T.fun_lowest_terms S (fun cdv A outer s H E hr => (jss_cons (js_set (i := 2) S.nd rfl (Or.inl lk_lowest_terms_divisor) (je_call G_common_divisor (hr.mono (by decide)) lk_lowest_terms_common_divisor T.mg_common_divisor T.kp_common_divisor T.bn_common_divisor .nil (fun _ => .nil) xc_of.pass (ja_cons (je_varF (i := 0) rfl (Or.inl lk_lowest_terms_top) nd_top.1 nd_top.2) (ja_cons (je_varF (i := 1) rfl (Or.inl lk_lowest_terms_bottom) nd_bottom.1 nd_bottom.2) ja_nil)) (nl_fin (d := 0) (nl_cons (nl_cons nl_nil)) rfl) nd_common_divisor.1))
      (jss_one (js_ret (je_tup (ja_cons (je_div (je_var (i := 0) rfl (Or.inl lk_lowest_terms_top) nd_top.1 nd_top.2) (je_var (i := 2) rfl (Or.inl lk_lowest_terms_divisor) nd_divisor.1 nd_divisor.2)) (ja_cons (je_div (je_var (i := 1) rfl (Or.inl lk_lowest_terms_bottom) nd_bottom.1 nd_bottom.2) (je_var (i := 2) rfl (Or.inl lk_lowest_terms_divisor) nd_divisor.1 nd_divisor.2)) ja_nil)))))))
theorem ok_plus (T : Txt K mg a) : FnOk P w K mg base (CXE P w) 4 a.f_plus a.d_plus ["a", "b"] (SpM ⟨K, mg⟩ 2 M_plus) := by
  have S := sc_plus
  have G_lowest_terms := ok_lowest_terms (P := P) (w := w) (base := base) T
  exact def_ok (m := m_plus) T.fun_plus S (fun cdv A outer s H E hr => (jss_one (js_ret (je_call G_lowest_terms (hr.mono (by decide)) lk_plus_lowest_terms T.mg_lowest_terms T.kp_lowest_terms T.bn_lowest_terms .nil (fun _ => .nil) xc_of.pass (ja_cons (je_add (je_mul (je_ix (hu_of hr) (je_var (i := 0) rfl (Or.inl lk_plus_a) nd_a.1 nd_a.2) je_int (fun _ _ => rfl) (fun _ _ => rfl)) (je_ix (hu_of hr) (je_var (i := 1) rfl (Or.inl lk_plus_b) nd_b.1 nd_b.2) je_int (fun _ _ => rfl) (fun _ _ => rfl))) (je_mul (je_ix (hu_of hr) (je_var (i := 1) rfl (Or.inl lk_plus_b) nd_b.1 nd_b.2) je_int (fun _ _ => rfl) (fun _ _ => rfl)) (je_ix (hu_of hr) (je_var (i := 0) rfl (Or.inl lk_plus_a) nd_a.1 nd_a.2) je_int (fun _ _ => rfl) (fun _ _ => rfl)))) (ja_cons (je_mul (je_ix (hu_of hr) (je_var (i := 0) rfl (Or.inl lk_plus_a) nd_a.1 nd_a.2) je_int (fun _ _ => rfl) (fun _ _ => rfl)) (je_ix (hu_of hr) (je_var (i := 1) rfl (Or.inl lk_plus_b) nd_b.1 nd_b.2) je_int (fun _ _ => rfl) (fun _ _ => rfl))) ja_nil)) (nl_fin (d := 0) (nl_cons (nl_cons nl_nil)) rfl) nd_lowest_terms.1))))
theorem ok_times (T : Txt K mg a) : FnOk P w K mg base (CXE P w) 4 a.f_times a.d_times ["a", "b"] (SpM ⟨K, mg⟩ 2 M_times) := by
  have S := sc_times
  have G_lowest_terms := ok_lowest_terms (P := P) (w := w) (base := base) T
  exact def_ok (m := m_times) T.fun_times S (fun cdv A outer s H E hr => (jss_one (js_ret (je_call G_lowest_terms (hr.mono (by decide)) lk_times_lowest_terms T.mg_lowest_terms T.kp_lowest_terms T.bn_lowest_terms .nil (fun _ => .nil) xc_of.pass (ja_cons (je_mul (je_ix (hu_of hr) (je_var (i := 0) rfl (Or.inl lk_times_a) nd_a.1 nd_a.2) je_int (fun _ _ => rfl) (fun _ _ => rfl)) (je_ix (hu_of hr) (je_var (i := 1) rfl (Or.inl lk_times_b) nd_b.1 nd_b.2) je_int (fun _ _ => rfl) (fun _ _ => rfl))) (ja_cons (je_mul (je_ix (hu_of hr) (je_var (i := 0) rfl (Or.inl lk_times_a) nd_a.1 nd_a.2) je_int (fun _ _ => rfl) (fun _ _ => rfl)) (je_ix (hu_of hr) (je_var (i := 1) rfl (Or.inl lk_times_b) nd_b.1 nd_b.2) je_int (fun _ _ => rfl) (fun _ _ => rfl))) ja_nil)) (nl_fin (d := 0) (nl_cons (nl_cons nl_nil)) rfl) nd_lowest_terms.1))))
theorem ok_sum_of (T : Txt K mg a) : FnOk P w K mg base (CXE P w) 5 a.f_sum_of a.d_sum_of ["number", "pairs"] (SpM ⟨K, mg⟩ 2 M_sum_of) := by
  have S := sc_sum_of
  have G_plus := ok_plus (P := P) (w := w) (base := base) T
  exact def_ok (m := m_sum_of) T.fun_sum_of S (fun cdv A outer s H E hr => (jss_cons (js_set (i := 2) S.nd rfl (Or.inr lk_sum_of_factors) je_dnew)
      (jss_cons (js_for PassesOwn.leaving rfl (ji_seq (je_var (i := 1) rfl (Or.inl lk_sum_of_pairs) nd_pairs.1 nd_pairs.2)) (jg_or (jg_tup (n := 2) rfl (jgs_cons (jg_name (i := 3) S.nd rfl (Or.inl lk_sum_of_name) (by decide)) (jgs_cons (jg_name (i := 4) S.nd rfl (Or.inl lk_sum_of_factor) (by decide)) jgs_nil (fun x y => pgs_cons x y)) (fun x y => pgs_cons x y))) (jg_lst (n := 2) rfl (jgs_cons (jg_name (i := 3) S.nd rfl (Or.inl lk_sum_of_name) (by decide)) (jgs_cons (jg_name (i := 4) S.nd rfl (Or.inl lk_sum_of_factor) (by decide)) jgs_nil (fun x y => pgs_cons x y)) (fun x y => pgs_cons x y)))) (jss_one (js_setD (i := 2) (hu_of hr) rfl (Or.inr (Or.inl lk_sum_of_factors)) nd_factors.1 nd_factors.2 (je_var (i := 3) rfl (Or.inl lk_sum_of_name) nd_name.1 nd_name.2) (je_call G_plus (hr.mono (by decide)) lk_sum_of_plus T.mg_plus T.kp_plus T.bn_plus .nil (fun _ => .nil) xc_of.pass (ja_cons (je_get2 (hu_of hr) (je_var (i := 2) rfl (Or.inr (Or.inl lk_sum_of_factors)) nd_factors.1 nd_factors.2) (je_var (i := 3) rfl (Or.inl lk_sum_of_name) nd_name.1 nd_name.2) (je_glob lk_sum_of_ZERO T.mg_ZERO (v := .ref a.K_ZERO) rfl T.ra_ZERO nd_ZERO.1) ⟨rfl, rfl, rfl, rfl⟩) (ja_cons (je_varF (i := 4) rfl (Or.inl lk_sum_of_factor) nd_factor.1 nd_factor.2) ja_nil)) (nl_fin (d := 0) (nl_cons (nl_cons nl_nil)) rfl) nd_plus.1))))
      (jss_one (js_ret (je_tup (ja_cons (je_var (i := 0) rfl (Or.inl lk_sum_of_number) nd_number.1 nd_number.2) (ja_cons (je_t1 call_tuple_of us_tuple lk_sum_of_tuple T.b_tuple bt_tuple (je_comp (lo := 5) rfl csc_sum_of_0 rfl (ji_seq (je_b1 (call_sorted2 rfl) us_sorted lk_sum_of_sorted T.b_sorted bt_sorted (je_var (i := 2) rfl (Or.inr (Or.inl lk_sum_of_factors)) nd_factors.1 nd_factors.2) nn_sorted nd_sorted.1)) (fun _ _ _ _ _ => (jg_name (i := 5) csc_sum_of_0.nd rfl (Or.inl (rel_local lc_sum_of_0_name)) (by decide) (Or.inr (rel_local lc_sum_of_0_name)))) (fun _ _ _ _ _ => (jf_one (jt_ne hr.units (je_ix (hu_of hr) (je_var (i := 2) rfl (rel_free lc_sum_of_0_factors) nd_factors.1 nd_factors.2) (je_var (i := 5) rfl (Or.inl (rel_local lc_sum_of_0_name)) nd_name.1 nd_name.2) (fun _ _ => rfl) (fun _ _ => rfl)) (je_glob (rel_glob lc_sum_of_0_ZERO) T.mg_ZERO (v := .ref a.K_ZERO) rfl T.ra_ZERO nd_ZERO.1)))) (fun _ _ _ _ _ => (je_tup (ja_cons (je_var (i := 5) rfl (Or.inl (rel_local lc_sum_of_0_name)) nd_name.1 nd_name.2) (ja_cons (je_ix (hu_of hr) (je_var (i := 2) rfl (rel_free lc_sum_of_0_factors) nd_factors.1 nd_factors.2) (je_var (i := 5) rfl (Or.inl (rel_local lc_sum_of_0_name)) nd_name.1 nd_name.2) (fun _ _ => rfl) (fun _ _ => rfl)) ja_nil))))) nn_tuple nd_tuple.1) ja_nil))))))))
theorem ok_sum_plus (T : Txt K mg a) : FnOk P w K mg base (CXE P w) 6 a.f_sum_plus a.d_sum_plus ["a", "b"] (SpM ⟨K, mg⟩ 2 M_sum_plus) := by
  have S := sc_sum_plus
  have G_sum_of := ok_sum_of (P := P) (w := w) (base := base) T
  have G_plus := ok_plus (P := P) (w := w) (base := base) T
  exact def_ok (m := m_sum_plus) T.fun_sum_plus S (fun cdv A outer s H E hr => (jss_one (js_ret (je_call G_sum_of (hr.mono (by decide)) lk_sum_plus_sum_of T.mg_sum_of T.kp_sum_of T.bn_sum_of .nil (fun _ => .nil) xc_of.pass (ja_cons (je_call G_plus (hr.mono (by decide)) lk_sum_plus_plus T.mg_plus T.kp_plus T.bn_plus .nil (fun _ => .nil) xc_of.pass (ja_cons (je_ix (hu_of hr) (je_var (i := 0) rfl (Or.inl lk_sum_plus_a) nd_a.1 nd_a.2) je_int (fun _ _ => rfl) (fun _ _ => rfl)) (ja_cons (je_ix (hu_of hr) (je_var (i := 1) rfl (Or.inl lk_sum_plus_b) nd_b.1 nd_b.2) je_int (fun _ _ => rfl) (fun _ _ => rfl)) ja_nil)) (nl_fin (d := 0) (nl_cons (nl_cons nl_nil)) rfl) nd_plus.1) (ja_cons (je_add (je_ix (hu_of hr) (je_var (i := 0) rfl (Or.inl lk_sum_plus_a) nd_a.1 nd_a.2) je_int (fun _ _ => rfl) (fun _ _ => rfl)) (je_ix (hu_of hr) (je_var (i := 1) rfl (Or.inl lk_sum_plus_b) nd_b.1 nd_b.2) je_int (fun _ _ => rfl) (fun _ _ => rfl))) ja_nil)) (nl_fin (d := 0) (nl_cons (nl_cons nl_nil)) rfl) nd_sum_of.1))))
theorem ok_sum_times (T : Txt K mg a) : FnOk P w K mg base (CXE P w) 6 a.f_sum_times a.d_sum_times ["a", "number"] (SpM ⟨K, mg⟩ 2 M_sum_times) := by
  have S := sc_sum_times
  have G_sum_of := ok_sum_of (P := P) (w := w) (base := base) T
  have G_times := ok_times (P := P) (w := w) (base := base) T
  exact def_ok (m := m_sum_times) T.fun_sum_times S (fun cdv A outer s H E hr => (jss_one (js_ret (je_call G_sum_of (hr.mono (by decide)) lk_sum_times_sum_of T.mg_sum_of T.kp_sum_of T.bn_sum_of .nil (fun _ => .nil) xc_of.pass (ja_cons (je_call G_times (hr.mono (by decide)) lk_sum_times_times T.mg_times T.kp_times T.bn_times .nil (fun _ => .nil) xc_of.pass (ja_cons (je_ix (hu_of hr) (je_var (i := 0) rfl (Or.inl lk_sum_times_a) nd_a.1 nd_a.2) je_int (fun _ _ => rfl) (fun _ _ => rfl)) (ja_cons (je_varF (i := 1) rfl (Or.inr (Or.inl lk_sum_times_number)) nd_number.1 nd_number.2) ja_nil)) (nl_fin (d := 0) (nl_cons (nl_cons nl_nil)) rfl) nd_times.1) (ja_cons (je_fz (je_comp (lo := 2) rfl csc_sum_times_0 rfl (ji_seq (je_ix (hu_of hr) (je_var (i := 0) rfl (Or.inl lk_sum_times_a) nd_a.1 nd_a.2) je_int (fun _ _ => rfl) (fun _ _ => rfl))) (fun _ _ _ _ _ => (jg_or (jg_tup (n := 2) rfl (jgs_cons (jg_name (i := 2) csc_sum_times_0.nd rfl (Or.inl (rel_local lc_sum_times_0_name)) (by decide) (Or.inr (rel_local lc_sum_times_0_name))) (jgs_cons (jg_name (i := 3) csc_sum_times_0.nd rfl (Or.inl (rel_local lc_sum_times_0_factor)) (by decide) (Or.inr (rel_local lc_sum_times_0_factor))) jgs_nil (fun x y => pgs_cons x y)) (fun x y => pgs_cons x y))) (jg_lst (n := 2) rfl (jgs_cons (jg_name (i := 2) csc_sum_times_0.nd rfl (Or.inl (rel_local lc_sum_times_0_name)) (by decide) (Or.inr (rel_local lc_sum_times_0_name))) (jgs_cons (jg_name (i := 3) csc_sum_times_0.nd rfl (Or.inl (rel_local lc_sum_times_0_factor)) (by decide) (Or.inr (rel_local lc_sum_times_0_factor))) jgs_nil (fun x y => pgs_cons x y)) (fun x y => pgs_cons x y))))) (fun _ _ _ _ _ => jf_nil) (fun _ _ _ _ _ => (je_tup (ja_cons (je_var (i := 2) rfl (Or.inl (rel_local lc_sum_times_0_name)) nd_name.1 nd_name.2) (ja_cons (je_call G_times (hr.mono (by decide)) (rel_glob lc_sum_times_0_times) T.mg_times T.kp_times T.bn_times .nil (fun _ => .nil) pass0E (ja_cons (je_varF (i := 3) rfl (Or.inl (rel_local lc_sum_times_0_factor)) nd_factor.1 nd_factor.2) (ja_cons (je_varF (i := 1) rfl (rel_free lc_sum_times_0_number) nd_number.1 nd_number.2) ja_nil)) (nl_fin (d := 0) (nl_cons (nl_cons nl_nil)) rfl) nd_times.1) ja_nil)))))) ja_nil)) (nl_fin (d := 0) (nl_cons (nl_cons nl_nil)) rfl) nd_sum_of.1))))
theorem ok_sum_minus (T : Txt K mg a) : FnOk P w K mg base (CXE P w) 7 a.f_sum_minus a.d_sum_minus ["a", "b"] (SpM ⟨K, mg⟩ 2 M_sum_minus) := by
  have S := sc_sum_minus
  have G_sum_plus := ok_sum_plus (P := P) (w := w) (base := base) T
  have G_sum_times := ok_sum_times (P := P) (w := w) (base := base) T
  exact def_ok (m := m_sum_minus) T.fun_sum_minus S (fun cdv A outer s H E hr => (jss_one (js_ret (je_call G_sum_plus (hr.mono (by decide)) lk_sum_minus_sum_plus T.mg_sum_plus T.kp_sum_plus T.bn_sum_plus .nil (fun _ => .nil) xc_of.pass (ja_cons (je_varF (i := 0) rfl (Or.inl lk_sum_minus_a) nd_a.1 nd_a.2) (ja_cons (je_call G_sum_times (hr.mono (by decide)) lk_sum_minus_sum_times T.mg_sum_times T.kp_sum_times T.bn_sum_times .nil (fun _ => .nil) xc_of.pass (ja_cons (je_varF (i := 1) rfl (Or.inl lk_sum_minus_b) nd_b.1 nd_b.2) (ja_cons (je_glob lk_sum_minus_MINUS_ONE T.mg_MINUS_ONE (v := .ref a.K_MINUS_ONE) rfl T.ra_MINUS_ONE nd_MINUS_ONE.1) ja_nil)) (nl_fin (d := 0) (nl_cons (nl_cons nl_nil)) rfl) nd_sum_times.1) ja_nil)) (nl_fin (d := 0) (nl_cons (nl_cons nl_nil)) rfl) nd_sum_plus.1))))
theorem ok_sum_at (T : Txt K mg a) : FnOk P w K mg base (CXE P w) 4 a.f_sum_at a.d_sum_at ["a", "making"] (SpM ⟨K, mg⟩ 2 M_sum_at) := by
  have S := sc_sum_at
  have G_lowest_terms := ok_lowest_terms (P := P) (w := w) (base := base) T
  exact def_ok (m := m_sum_at) T.fun_sum_at S (fun cdv A outer s H E hr => (jss_cons (js_set (i := 2) S.nd rfl (Or.inl lk_sum_at_top) (je_ix (hu_of hr) (je_ix (hu_of hr) (je_var (i := 0) rfl (Or.inl lk_sum_at_a) nd_a.1 nd_a.2) je_int (fun _ _ => rfl) (fun _ _ => rfl)) je_int (fun _ _ => rfl) (fun _ _ => rfl)))
      (jss_cons (js_set (i := 3) S.nd rfl (Or.inl lk_sum_at_bottom) (je_ix (hu_of hr) (je_ix (hu_of hr) (je_var (i := 0) rfl (Or.inl lk_sum_at_a) nd_a.1 nd_a.2) je_int (fun _ _ => rfl) (fun _ _ => rfl)) je_int (fun _ _ => rfl) (fun _ _ => rfl)))
      (jss_cons (js_for PassesOwn.leaving rfl (ji_seq (je_ix (hu_of hr) (je_var (i := 0) rfl (Or.inl lk_sum_at_a) nd_a.1 nd_a.2) je_int (fun _ _ => rfl) (fun _ _ => rfl))) (jg_or (jg_tup (n := 2) rfl (jgs_cons (jg_name (i := 4) S.nd rfl (Or.inl lk_sum_at_name) (by decide)) (jgs_cons (jg_name (i := 5) S.nd rfl (Or.inl lk_sum_at_factor) (by decide)) jgs_nil (fun x y => pgs_cons x y)) (fun x y => pgs_cons x y))) (jg_lst (n := 2) rfl (jgs_cons (jg_name (i := 4) S.nd rfl (Or.inl lk_sum_at_name) (by decide)) (jgs_cons (jg_name (i := 5) S.nd rfl (Or.inl lk_sum_at_factor) (by decide)) jgs_nil (fun x y => pgs_cons x y)) (fun x y => pgs_cons x y)))) (jss_cons (js_if (jt_nin (hu_of hr) (je_var (i := 4) rfl (Or.inl lk_sum_at_name) nd_name.1 nd_name.2) (je_var (i := 1) rfl (Or.inl lk_sum_at_making) nd_making.1 nd_making.2) (by with_unfolding_all rfl)) (jss_one (js_raise xc_of rfl lk_sum_at_NoSum T.mg_NoSum T.ex_NoSum (ja_cons (je_js (jj_cons je_str (jj_cons (je_fv (je_var (i := 4) rfl (Or.inl lk_sum_at_name) nd_name.1 nd_name.2)) jj_nil))) ja_nil) nd_NoSum.1)) jss_nil)
      (jss_cons (js_set (i := 6) S.nd rfl (Or.inl lk_sum_at_value) (je_ix (hu_of hr) (je_var (i := 1) rfl (Or.inl lk_sum_at_making) nd_making.1 nd_making.2) (je_var (i := 4) rfl (Or.inl lk_sum_at_name) nd_name.1 nd_name.2) (fun _ _ => rfl) (fun _ _ => rfl)))
      (jss_cons (js_set (i := 2) S.nd rfl (Or.inl lk_sum_at_top) (je_add (je_mul (je_mul (je_var (i := 2) rfl (Or.inl lk_sum_at_top) nd_top.1 nd_top.2) (je_ix (hu_of hr) (je_var (i := 5) rfl (Or.inl lk_sum_at_factor) nd_factor.1 nd_factor.2) je_int (fun _ _ => rfl) (fun _ _ => rfl))) (je_ix (hu_of hr) (je_var (i := 6) rfl (Or.inl lk_sum_at_value) nd_value.1 nd_value.2) je_int (fun _ _ => rfl) (fun _ _ => rfl))) (je_mul (je_mul (je_ix (hu_of hr) (je_var (i := 5) rfl (Or.inl lk_sum_at_factor) nd_factor.1 nd_factor.2) je_int (fun _ _ => rfl) (fun _ _ => rfl)) (je_ix (hu_of hr) (je_var (i := 6) rfl (Or.inl lk_sum_at_value) nd_value.1 nd_value.2) je_int (fun _ _ => rfl) (fun _ _ => rfl))) (je_var (i := 3) rfl (Or.inl lk_sum_at_bottom) nd_bottom.1 nd_bottom.2))))
      (jss_one (js_set (i := 3) S.nd rfl (Or.inl lk_sum_at_bottom) (je_mul (je_mul (je_var (i := 3) rfl (Or.inl lk_sum_at_bottom) nd_bottom.1 nd_bottom.2) (je_ix (hu_of hr) (je_var (i := 5) rfl (Or.inl lk_sum_at_factor) nd_factor.1 nd_factor.2) je_int (fun _ _ => rfl) (fun _ _ => rfl))) (je_ix (hu_of hr) (je_var (i := 6) rfl (Or.inl lk_sum_at_value) nd_value.1 nd_value.2) je_int (fun _ _ => rfl) (fun _ _ => rfl)))))))))
      (jss_one (js_ret (je_call G_lowest_terms (hr.mono (by decide)) lk_sum_at_lowest_terms T.mg_lowest_terms T.kp_lowest_terms T.bn_lowest_terms .nil (fun _ => .nil) xc_of.pass (ja_cons (je_varF (i := 2) rfl (Or.inl lk_sum_at_top) nd_top.1 nd_top.2) (ja_cons (je_varF (i := 3) rfl (Or.inl lk_sum_at_bottom) nd_bottom.1 nd_bottom.2) ja_nil)) (nl_fin (d := 0) (nl_cons (nl_cons nl_nil)) rfl) nd_lowest_terms.1)))))))
theorem ok_sum_called (T : Txt K mg a) : FnOk P w K mg base (CXE P w) 2 a.f_sum_called a.d_sum_called ["a", "word"] (SpM ⟨K, mg⟩ 2 M_sum_called) := by
  have S := sc_sum_called
  exact def_ok (m := m_sum_called) T.fun_sum_called S (fun cdv A outer s H E hr => (jss_one (js_ret (je_tup (ja_cons (je_ix (hu_of hr) (je_var (i := 0) rfl (Or.inl lk_sum_called_a) nd_a.1 nd_a.2) je_int (fun _ _ => rfl) (fun _ _ => rfl)) (ja_cons (je_t1 call_tuple_of us_tuple lk_sum_called_tuple T.b_tuple bt_tuple (je_comp (lo := 2) rfl csc_sum_called_0 rfl (ji_seq (je_ix (hu_of hr) (je_var (i := 0) rfl (Or.inl lk_sum_called_a) nd_a.1 nd_a.2) je_int (fun _ _ => rfl) (fun _ _ => rfl))) (fun _ _ _ _ _ => (jg_or (jg_tup (n := 2) rfl (jgs_cons (jg_name (i := 2) csc_sum_called_0.nd rfl (Or.inl (rel_local lc_sum_called_0_name)) (by decide) (Or.inr (rel_local lc_sum_called_0_name))) (jgs_cons (jg_name (i := 3) csc_sum_called_0.nd rfl (Or.inl (rel_local lc_sum_called_0_factor)) (by decide) (Or.inr (rel_local lc_sum_called_0_factor))) jgs_nil (fun x y => pgs_cons x y)) (fun x y => pgs_cons x y))) (jg_lst (n := 2) rfl (jgs_cons (jg_name (i := 2) csc_sum_called_0.nd rfl (Or.inl (rel_local lc_sum_called_0_name)) (by decide) (Or.inr (rel_local lc_sum_called_0_name))) (jgs_cons (jg_name (i := 3) csc_sum_called_0.nd rfl (Or.inl (rel_local lc_sum_called_0_factor)) (by decide) (Or.inr (rel_local lc_sum_called_0_factor))) jgs_nil (fun x y => pgs_cons x y)) (fun x y => pgs_cons x y))))) (fun _ _ _ _ _ => jf_nil) (fun _ _ _ _ _ => (je_tup (ja_cons (je_js (jj_cons (je_fv (je_var (i := 1) rfl (rel_free lc_sum_called_0_word) nd_word.1 nd_word.2)) (jj_cons je_str (jj_cons (je_fv (je_var (i := 2) rfl (Or.inl (rel_local lc_sum_called_0_name)) nd_name.1 nd_name.2)) jj_nil)))) (ja_cons (je_var (i := 3) rfl (Or.inl (rel_local lc_sum_called_0_factor)) nd_factor.1 nd_factor.2) ja_nil))))) nn_tuple nd_tuple.1) ja_nil))))))
theorem ok__law_well (T : Txt K mg a) : FnOk P w K mg base (CXE P w) 2 a.f__law_well a.d__law_well ["_law_script", "_law_k"] (SpM ⟨K, mg⟩ 2 M__law_well) := by
  have S := sc__law_well
  exact def_ok (m := m__law_well) T.fun__law_well S (fun cdv A outer s H E hr => (jss_cons (js_set (i := 2) S.nd rfl (Or.inl lk__law_well__law_cell) je_int)
      (jss_cons (js_if (jt_lt (je_var (i := 1) rfl (Or.inl lk__law_well__law_k) nd__law_k.1 nd__law_k.2) (je_b1 call_len us_len lk__law_well_len T.b_len bt_len (je_var (i := 0) rfl (Or.inl lk__law_well__law_script) nd__law_script.1 nd__law_script.2) nn_len nd_len.1)) (jss_one (js_set (i := 2) S.nd rfl (Or.inl lk__law_well__law_cell) (je_ix (hu_of hr) (je_var (i := 0) rfl (Or.inl lk__law_well__law_script) nd__law_script.1 nd__law_script.2) (je_var (i := 1) rfl (Or.inl lk__law_well__law_k) nd__law_k.1 nd__law_k.2) (fun _ _ => rfl) (fun _ _ => rfl)))) jss_nil)
      (jss_one (js_ret (je_lst (ja_cons (je_t1 call_int1 us_int lk__law_well_int T.b_int bt_int (je_ge (je_b1 call_abs us_abs lk__law_well_abs T.b_abs bt_abs (je_var (i := 2) rfl (Or.inl lk__law_well__law_cell) nd__law_cell.1 nd__law_cell.2) nn_abs nd_abs.1) (je_pow je_int je_int)) nn_int nd_int.1) (ja_cons (je_var (i := 2) rfl (Or.inl lk__law_well__law_cell) nd__law_cell.1 nd__law_cell.2) (ja_cons (je_mul je_int (je_var (i := 1) rfl (Or.inl lk__law_well__law_k) nd__law_k.1 nd__law_k.2)) ja_nil)))))))))
theorem ok__law_take (T : Txt K mg a) : FnOk P w K mg base (CXE P w) 2 a.f__law_take a.d__law_take ["_law_well_here", "_law_many"] (SpM ⟨K, mg⟩ 2 M__law_take) := by
  have S := sc__law_take
  exact def_ok (m := m__law_take) T.fun__law_take S (fun cdv A outer s H E hr => (jss_cons (js_if (jt_eq hr.units (je_ix (hu_of hr) (je_var (i := 0) rfl (Or.inl lk__law_take__law_well_here) nd__law_well_here.1 nd__law_well_here.2) je_int (fun _ _ => rfl) (fun _ _ => rfl)) je_int) (jss_cons (js_set (i := 2) S.nd rfl (Or.inl lk__law_take__law_digit) (je_mod (je_ix (hu_of hr) (je_var (i := 0) rfl (Or.inl lk__law_take__law_well_here) nd__law_well_here.1 nd__law_well_here.2) je_int (fun _ _ => rfl) (fun _ _ => rfl)) (je_var (i := 1) rfl (Or.inl lk__law_take__law_many) nd__law_many.1 nd__law_many.2)))
      (jss_cons (js_setIx (i := 0) rfl (Or.inl lk__law_take__law_well_here) nd__law_well_here.1 nd__law_well_here.2 je_int (je_div (je_ix (hu_of hr) (je_var (i := 0) rfl (Or.inl lk__law_take__law_well_here) nd__law_well_here.1 nd__law_well_here.2) je_int (fun _ _ => rfl) (fun _ _ => rfl)) (je_var (i := 1) rfl (Or.inl lk__law_take__law_many) nd__law_many.1 nd__law_many.2)) (fun x y z => ps_asg z (pg_sub x y set_list)))
      (jss_one (js_ret (je_var (i := 2) rfl (Or.inl lk__law_take__law_digit) nd__law_digit.1 nd__law_digit.2))))) jss_nil)
      (jss_cons (js_set (i := 3) S.nd rfl (Or.inl lk__law_take__law_turn) (je_add (je_ix (hu_of hr) (je_var (i := 0) rfl (Or.inl lk__law_take__law_well_here) nd__law_well_here.1 nd__law_well_here.2) je_int (fun _ _ => rfl) (fun _ _ => rfl)) je_int))
      (jss_cons (js_setIx (i := 0) rfl (Or.inl lk__law_take__law_well_here) nd__law_well_here.1 nd__law_well_here.2 je_int (je_var (i := 3) rfl (Or.inl lk__law_take__law_turn) nd__law_turn.1 nd__law_turn.2) (fun x y z => ps_asg z (pg_sub x y set_list)))
      (jss_cons (js_set (i := 4) S.nd rfl (Or.inl lk__law_take__law_number_here) (je_mod (je_mul (je_add (je_add (je_ix (hu_of hr) (je_var (i := 0) rfl (Or.inl lk__law_take__law_well_here) nd__law_well_here.1 nd__law_well_here.2) je_int (fun _ _ => rfl) (fun _ _ => rfl)) (je_mul (je_mul je_int (je_var (i := 3) rfl (Or.inl lk__law_take__law_turn) nd__law_turn.1 nd__law_turn.2)) (je_var (i := 3) rfl (Or.inl lk__law_take__law_turn) nd__law_turn.1 nd__law_turn.2))) (je_var (i := 3) rfl (Or.inl lk__law_take__law_turn) nd__law_turn.1 nd__law_turn.2)) je_int) je_int))
      (jss_one (js_ret (je_mod (je_div (je_mod (je_add (je_mul (je_var (i := 4) rfl (Or.inl lk__law_take__law_number_here) nd__law_number_here.1 nd__law_number_here.2) je_int) je_int) je_int) je_int) (je_var (i := 1) rfl (Or.inl lk__law_take__law_many) nd__law_many.1 nd__law_many.2)))))))))
theorem ok__law_common (T : Txt K mg a) : FnOk P w K mg base (CXE P w) 2 a.f__law_common a.d__law_common ["_law_one", "_law_other"] (SpM ⟨K, mg⟩ 2 M__law_common) := by
  have S := sc__law_common
  exact def_ok (m := m__law_common) T.fun__law_common S (fun cdv A outer s H E hr => (jss_cons (js_while (n := BIG) PassesOwn.leaving (jt_ne hr.units (je_var (i := 1) rfl (Or.inl lk__law_common__law_other) nd__law_other.1 nd__law_other.2) je_int) (jss_one (js_par (i := 0) (j := 1) (ja_cons (je_var (i := 1) rfl (Or.inl lk__law_common__law_other) nd__law_other.1 nd__law_other.2) (ja_cons (je_mod (je_var (i := 0) rfl (Or.inl lk__law_common__law_one) nd__law_one.1 nd__law_one.2) (je_var (i := 1) rfl (Or.inl lk__law_common__law_other) nd__law_other.1 nd__law_other.2)) ja_nil)) (by decide) (fun x => ps_par rfl S.nd (i := 0) (j := 1) rfl rfl (by decide) lk__law_common__law_one lk__law_common__law_other x (by rfl)))))
      (jss_one (js_ret (je_b1 call_abs us_abs lk__law_common_abs T.b_abs bt_abs (je_var (i := 0) rfl (Or.inl lk__law_common__law_one) nd__law_one.1 nd__law_one.2) nn_abs nd_abs.1)))))
theorem ok__law_num (T : Txt K mg a) : FnOk P w K mg base (CXE P w) 3 a.f__law_num a.d__law_num ["_law_top", "_law_bottom"] (SpM ⟨K, mg⟩ 2 M__law_num) := by
  have S := sc__law_num
  have G__law_common := ok__law_common (P := P) (w := w) (base := base) T
  exact def_ok (m := m__law_num) T.fun__law_num S (fun cdv A outer s H E hr => (jss_cons (js_if (jt_lt (je_var (i := 1) rfl (Or.inl lk__law_num__law_bottom) nd__law_bottom.1 nd__law_bottom.2) je_int) (jss_cons (js_set (i := 0) S.nd rfl (Or.inl lk__law_num__law_top) (je_sub je_int (je_var (i := 0) rfl (Or.inl lk__law_num__law_top) nd__law_top.1 nd__law_top.2)))
      (jss_one (js_set (i := 1) S.nd rfl (Or.inl lk__law_num__law_bottom) (je_sub je_int (je_var (i := 1) rfl (Or.inl lk__law_num__law_bottom) nd__law_bottom.1 nd__law_bottom.2))))) jss_nil)
      (jss_cons (js_set (i := 2) S.nd rfl (Or.inl lk__law_num__law_by) (je_call G__law_common (hr.mono (by decide)) lk__law_num__law_common T.mg__law_common T.kp__law_common T.bn__law_common .nil (fun _ => .nil) xc_of.pass (ja_cons (je_varF (i := 0) rfl (Or.inl lk__law_num__law_top) nd__law_top.1 nd__law_top.2) (ja_cons (je_varF (i := 1) rfl (Or.inl lk__law_num__law_bottom) nd__law_bottom.1 nd__law_bottom.2) ja_nil)) (nl_fin (d := 0) (nl_cons (nl_cons nl_nil)) rfl) nd__law_common.1))
      (jss_one (js_ret (je_tup (ja_cons (je_div (je_var (i := 0) rfl (Or.inl lk__law_num__law_top) nd__law_top.1 nd__law_top.2) (je_var (i := 2) rfl (Or.inl lk__law_num__law_by) nd__law_by.1 nd__law_by.2)) (ja_cons (je_div (je_var (i := 1) rfl (Or.inl lk__law_num__law_bottom) nd__law_bottom.1 nd__law_bottom.2) (je_var (i := 2) rfl (Or.inl lk__law_num__law_by) nd__law_by.1 nd__law_by.2)) ja_nil))))))))
theorem ok__law_add (T : Txt K mg a) : FnOk P w K mg base (CXE P w) 4 a.f__law_add a.d__law_add ["_law_one", "_law_other"] (SpM ⟨K, mg⟩ 2 M__law_add) := by
  have S := sc__law_add
  have G__law_num := ok__law_num (P := P) (w := w) (base := base) T
  exact def_ok (m := m__law_add) T.fun__law_add S (fun cdv A outer s H E hr => (jss_one (js_ret (je_call G__law_num (hr.mono (by decide)) lk__law_add__law_num T.mg__law_num T.kp__law_num T.bn__law_num .nil (fun _ => .nil) xc_of.pass (ja_cons (je_add (je_mul (je_ix (hu_of hr) (je_var (i := 0) rfl (Or.inl lk__law_add__law_one) nd__law_one.1 nd__law_one.2) je_int (fun _ _ => rfl) (fun _ _ => rfl)) (je_ix (hu_of hr) (je_var (i := 1) rfl (Or.inl lk__law_add__law_other) nd__law_other.1 nd__law_other.2) je_int (fun _ _ => rfl) (fun _ _ => rfl))) (je_mul (je_ix (hu_of hr) (je_var (i := 1) rfl (Or.inl lk__law_add__law_other) nd__law_other.1 nd__law_other.2) je_int (fun _ _ => rfl) (fun _ _ => rfl)) (je_ix (hu_of hr) (je_var (i := 0) rfl (Or.inl lk__law_add__law_one) nd__law_one.1 nd__law_one.2) je_int (fun _ _ => rfl) (fun _ _ => rfl)))) (ja_cons (je_mul (je_ix (hu_of hr) (je_var (i := 0) rfl (Or.inl lk__law_add__law_one) nd__law_one.1 nd__law_one.2) je_int (fun _ _ => rfl) (fun _ _ => rfl)) (je_ix (hu_of hr) (je_var (i := 1) rfl (Or.inl lk__law_add__law_other) nd__law_other.1 nd__law_other.2) je_int (fun _ _ => rfl) (fun _ _ => rfl))) ja_nil)) (nl_fin (d := 0) (nl_cons (nl_cons nl_nil)) rfl) nd__law_num.1))))
theorem ok__law_mul (T : Txt K mg a) : FnOk P w K mg base (CXE P w) 4 a.f__law_mul a.d__law_mul ["_law_one", "_law_other"] (SpM ⟨K, mg⟩ 2 M__law_mul) := by
  have S := sc__law_mul
  have G__law_num := ok__law_num (P := P) (w := w) (base := base) T
  exact def_ok (m := m__law_mul) T.fun__law_mul S (fun cdv A outer s H E hr => (jss_one (js_ret (je_call G__law_num (hr.mono (by decide)) lk__law_mul__law_num T.mg__law_num T.kp__law_num T.bn__law_num .nil (fun _ => .nil) xc_of.pass (ja_cons (je_mul (je_ix (hu_of hr) (je_var (i := 0) rfl (Or.inl lk__law_mul__law_one) nd__law_one.1 nd__law_one.2) je_int (fun _ _ => rfl) (fun _ _ => rfl)) (je_ix (hu_of hr) (je_var (i := 1) rfl (Or.inl lk__law_mul__law_other) nd__law_other.1 nd__law_other.2) je_int (fun _ _ => rfl) (fun _ _ => rfl))) (ja_cons (je_mul (je_ix (hu_of hr) (je_var (i := 0) rfl (Or.inl lk__law_mul__law_one) nd__law_one.1 nd__law_one.2) je_int (fun _ _ => rfl) (fun _ _ => rfl)) (je_ix (hu_of hr) (je_var (i := 1) rfl (Or.inl lk__law_mul__law_other) nd__law_other.1 nd__law_other.2) je_int (fun _ _ => rfl) (fun _ _ => rfl))) ja_nil)) (nl_fin (d := 0) (nl_cons (nl_cons nl_nil)) rfl) nd__law_num.1))))
theorem ok__law_number (T : Txt K mg a) : FnOk P w K mg base (CXE P w) 4 a.f__law_number a.d__law_number ["_law_well_here"] (SpM ⟨K, mg⟩ 1 M__law_number) := by
  have S := sc__law_number
  have G__law_take := ok__law_take (P := P) (w := w) (base := base) T
  have G__law_num := ok__law_num (P := P) (w := w) (base := base) T
  exact def_ok (m := m__law_number) T.fun__law_number S (fun cdv A outer s H E hr => (jss_cons (js_set (i := 1) S.nd rfl (Or.inl lk__law_number__law_way) (je_call G__law_take (hr.mono (by decide)) lk__law_number__law_take T.mg__law_take T.kp__law_take T.bn__law_take .nil (fun _ => .nil) xc_of.pass (ja_cons (je_var (i := 0) rfl (Or.inl lk__law_number__law_well_here) nd__law_well_here.1 nd__law_well_here.2) (ja_cons je_int ja_nil)) (nl_fin (d := 0) (nl_cons (nl_cons nl_nil)) rfl) nd__law_take.1))
      (jss_cons (js_if (jt_eq hr.units (je_var (i := 1) rfl (Or.inl lk__law_number__law_way) nd__law_way.1 nd__law_way.2) je_int) (jss_one (js_ret (je_call G__law_num (hr.mono (by decide)) lk__law_number__law_num T.mg__law_num T.kp__law_num T.bn__law_num .nil (fun _ => .nil) xc_of.pass (ja_cons (je_sub (je_call G__law_take (hr.mono (by decide)) lk__law_number__law_take T.mg__law_take T.kp__law_take T.bn__law_take .nil (fun _ => .nil) xc_of.pass (ja_cons (je_var (i := 0) rfl (Or.inl lk__law_number__law_well_here) nd__law_well_here.1 nd__law_well_here.2) (ja_cons (je_add (je_mul je_int (je_pow je_int je_int)) je_int) ja_nil)) (nl_fin (d := 0) (nl_cons (nl_cons nl_nil)) rfl) nd__law_take.1) (je_pow je_int je_int)) (ja_cons (je_add je_int (je_call G__law_take (hr.mono (by decide)) lk__law_number__law_take T.mg__law_take T.kp__law_take T.bn__law_take .nil (fun _ => .nil) xc_of.pass (ja_cons (je_var (i := 0) rfl (Or.inl lk__law_number__law_well_here) nd__law_well_here.1 nd__law_well_here.2) (ja_cons (je_pow je_int je_int) ja_nil)) (nl_fin (d := 0) (nl_cons (nl_cons nl_nil)) rfl) nd__law_take.1)) ja_nil)) (nl_fin (d := 0) (nl_cons (nl_cons nl_nil)) rfl) nd__law_num.1))) jss_nil)
      (jss_cons (js_if (jt_gt (je_var (i := 1) rfl (Or.inl lk__law_number__law_way) nd__law_way.1 nd__law_way.2) je_int) (jss_one (js_ret (je_call G__law_num (hr.mono (by decide)) lk__law_number__law_num T.mg__law_num T.kp__law_num T.bn__law_num .nil (fun _ => .nil) xc_of.pass (ja_cons (je_sub (je_call G__law_take (hr.mono (by decide)) lk__law_number__law_take T.mg__law_take T.kp__law_take T.bn__law_take .nil (fun _ => .nil) xc_of.pass (ja_cons (je_var (i := 0) rfl (Or.inl lk__law_number__law_well_here) nd__law_well_here.1 nd__law_well_here.2) (ja_cons je_int ja_nil)) (nl_fin (d := 0) (nl_cons (nl_cons nl_nil)) rfl) nd__law_take.1) je_int) (ja_cons (je_add je_int (je_call G__law_take (hr.mono (by decide)) lk__law_number__law_take T.mg__law_take T.kp__law_take T.bn__law_take .nil (fun _ => .nil) xc_of.pass (ja_cons (je_var (i := 0) rfl (Or.inl lk__law_number__law_well_here) nd__law_well_here.1 nd__law_well_here.2) (ja_cons je_int ja_nil)) (nl_fin (d := 0) (nl_cons (nl_cons nl_nil)) rfl) nd__law_take.1)) ja_nil)) (nl_fin (d := 0) (nl_cons (nl_cons nl_nil)) rfl) nd__law_num.1))) jss_nil)
      (jss_one (js_ret (je_tup (ja_cons (je_sub (je_call G__law_take (hr.mono (by decide)) lk__law_number__law_take T.mg__law_take T.kp__law_take T.bn__law_take .nil (fun _ => .nil) xc_of.pass (ja_cons (je_var (i := 0) rfl (Or.inl lk__law_number__law_well_here) nd__law_well_here.1 nd__law_well_here.2) (ja_cons je_int ja_nil)) (nl_fin (d := 0) (nl_cons (nl_cons nl_nil)) rfl) nd__law_take.1) je_int) (ja_cons je_int ja_nil)))))))))
theorem ok__law_name (T : Txt K mg a) : FnOk P w K mg base (CXE P w) 3 a.f__law_name a.d__law_name ["_law_well_here", "_law_most"] (SpM ⟨K, mg⟩ 2 M__law_name) := by
  have S := sc__law_name
  have G__law_take := ok__law_take (P := P) (w := w) (base := base) T
  exact def_ok (m := m__law_name) T.fun__law_name S (fun cdv A outer s H E hr => (jss_cons (js_set (i := 2) S.nd rfl (Or.inr lk__law_name__law_signs) je_str)
      (jss_cons (js_set (i := 3) S.nd rfl (Or.inl lk__law_name__law_size) (je_add je_int (je_call G__law_take (hr.mono (by decide)) lk__law_name__law_take T.mg__law_take T.kp__law_take T.bn__law_take .nil (fun _ => .nil) xc_of.pass (ja_cons (je_var (i := 0) rfl (Or.inr (Or.inl lk__law_name__law_well_here)) nd__law_well_here.1 nd__law_well_here.2) (ja_cons (je_ix (hu_of hr) (je_lst (ja_cons je_int (ja_cons (je_var (i := 1) rfl (Or.inl lk__law_name__law_most) nd__law_most.1 nd__law_most.2) ja_nil))) (je_t1 call_int1 us_int lk__law_name_int T.b_int bt_int (je_eq hr.units (je_call G__law_take (hr.mono (by decide)) lk__law_name__law_take T.mg__law_take T.kp__law_take T.bn__law_take .nil (fun _ => .nil) xc_of.pass (ja_cons (je_var (i := 0) rfl (Or.inr (Or.inl lk__law_name__law_well_here)) nd__law_well_here.1 nd__law_well_here.2) (ja_cons je_int ja_nil)) (nl_fin (d := 0) (nl_cons (nl_cons nl_nil)) rfl) nd__law_take.1) je_int) nn_int nd_int.1) (fun _ _ => rfl) (fun _ _ => rfl)) ja_nil)) (nl_fin (d := 0) (nl_cons (nl_cons nl_nil)) rfl) nd__law_take.1)))
      (jss_one (js_ret (je_join je_str (je_comp (lo := 4) rfl csc__law_name_0 rfl (ji_rng1 lk__law_name_range T.b_range (je_var (i := 3) rfl (Or.inl lk__law_name__law_size) nd__law_size.1 nd__law_size.2)) (fun _ _ _ _ _ => (jg_name (i := 4) csc__law_name_0.nd rfl (Or.inl (rel_local lc__law_name_0__law_k)) (by decide) (Or.inr (rel_local lc__law_name_0__law_k)))) (fun _ _ _ _ _ => jf_nil) (fun _ _ _ _ _ => (je_ix (hu_of hr) (je_var (i := 2) rfl (rel_free lc__law_name_0__law_signs) nd__law_signs.1 nd__law_signs.2) (je_call G__law_take (hr.mono (by decide)) (rel_glob lc__law_name_0__law_take) T.mg__law_take T.kp__law_take T.bn__law_take .nil (fun _ => .nil) pass0E (ja_cons (je_var (i := 0) rfl (rel_free lc__law_name_0__law_well_here) nd__law_well_here.1 nd__law_well_here.2) (ja_cons je_int ja_nil)) (nl_fin (d := 0) (nl_cons (nl_cons nl_nil)) rfl) nd__law_take.1) (fun _ _ => rfl) (fun _ _ => rfl)))) (fun x y => pe_bm PySem.F.plainAttrs_str PySem.F.slot_str_join PySem.F.type_str_join mt_join2 x (pa_cons y pa_nil))))))))
theorem ok__law_names (T : Txt K mg a) : FnOk P w K mg base (CXE P w) 4 a.f__law_names a.d__law_names ["_law_well_here", "_law_many"] (SpM ⟨K, mg⟩ 2 M__law_names) := by
  have S := sc__law_names
  have G__law_name := ok__law_name (P := P) (w := w) (base := base) T
  have G__law_take := ok__law_take (P := P) (w := w) (base := base) T
  exact def_ok (m := m__law_names) T.fun__law_names S (fun cdv A outer s H E hr => (jss_cons (js_set (i := 2) S.nd rfl (Or.inl lk__law_names__law_names_here) (je_lst (ja_cons (je_call G__law_name (hr.mono (by decide)) lk__law_names__law_name T.mg__law_name T.kp__law_name T.bn__law_name .nil (fun _ => .nil) xc_of.pass (ja_cons (je_var (i := 0) rfl (Or.inl lk__law_names__law_well_here) nd__law_well_here.1 nd__law_well_here.2) (ja_cons je_int ja_nil)) (nl_fin (d := 0) (nl_cons (nl_cons nl_nil)) rfl) nd__law_name.1) ja_nil)))
      (jss_cons (js_while (n := BIG) PassesOwn.leaving (jt_lt (je_b1 call_len us_len lk__law_names_len T.b_len bt_len (je_var (i := 2) rfl (Or.inl lk__law_names__law_names_here) nd__law_names_here.1 nd__law_names_here.2) nn_len nd_len.1) (je_var (i := 1) rfl (Or.inl lk__law_names__law_many) nd__law_many.1 nd__law_many.2)) (jss_cons (js_set (i := 3) S.nd rfl (Or.inl lk__law_names__law_name_here) (je_call G__law_name (hr.mono (by decide)) lk__law_names__law_name T.mg__law_name T.kp__law_name T.bn__law_name .nil (fun _ => .nil) xc_of.pass (ja_cons (je_var (i := 0) rfl (Or.inl lk__law_names__law_well_here) nd__law_well_here.1 nd__law_well_here.2) (ja_cons je_int ja_nil)) (nl_fin (d := 0) (nl_cons (nl_cons nl_nil)) rfl) nd__law_name.1))
      (jss_cons (js_if (jt_eq hr.units (je_call G__law_take (hr.mono (by decide)) lk__law_names__law_take T.mg__law_take T.kp__law_take T.bn__law_take .nil (fun _ => .nil) xc_of.pass (ja_cons (je_var (i := 0) rfl (Or.inl lk__law_names__law_well_here) nd__law_well_here.1 nd__law_well_here.2) (ja_cons je_int ja_nil)) (nl_fin (d := 0) (nl_cons (nl_cons nl_nil)) rfl) nd__law_take.1) je_int) (jss_one (js_set (i := 3) S.nd rfl (Or.inl lk__law_names__law_name_here) (je_sl (je_add (je_ix (hu_of hr) (je_var (i := 2) rfl (Or.inl lk__law_names__law_names_here) nd__law_names_here.1 nd__law_names_here.2) (je_neg je_int) (fun _ _ => rfl) (fun _ _ => rfl)) (je_ix (hu_of hr) je_str (je_call G__law_take (hr.mono (by decide)) lk__law_names__law_take T.mg__law_take T.kp__law_take T.bn__law_take .nil (fun _ => .nil) xc_of.pass (ja_cons (je_var (i := 0) rfl (Or.inl lk__law_names__law_well_here) nd__law_well_here.1 nd__law_well_here.2) (ja_cons je_int ja_nil)) (nl_fin (d := 0) (nl_cons (nl_cons nl_nil)) rfl) nd__law_take.1) (fun _ _ => rfl) (fun _ _ => rfl))) jp_none (jp_some je_int)))) jss_nil)
      (jss_cons (js_set (i := 4) S.nd rfl (Or.inl lk__law_names__law_turn) je_int)
      (jss_cons (js_while (n := BIG) PassesOwn.leaving (jt_in (hu_of hr) (je_var (i := 3) rfl (Or.inl lk__law_names__law_name_here) nd__law_name_here.1 nd__law_name_here.2) (je_var (i := 2) rfl (Or.inl lk__law_names__law_names_here) nd__law_names_here.1 nd__law_names_here.2) (by with_unfolding_all rfl)) (jss_cons (js_set (i := 3) S.nd rfl (Or.inl lk__law_names__law_name_here) (je_add (je_add (je_sl (je_var (i := 3) rfl (Or.inl lk__law_names__law_name_here) nd__law_name_here.1 nd__law_name_here.2) jp_none (jp_some je_int)) (je_ix (hu_of hr) je_str (je_mod (je_var (i := 4) rfl (Or.inl lk__law_names__law_turn) nd__law_turn.1 nd__law_turn.2) je_int) (fun _ _ => rfl) (fun _ _ => rfl))) (je_ix (hu_of hr) je_str (je_mod (je_div (je_var (i := 4) rfl (Or.inl lk__law_names__law_turn) nd__law_turn.1 nd__law_turn.2) je_int) je_int) (fun _ _ => rfl) (fun _ _ => rfl))))
      (jss_one (js_set (i := 4) S.nd rfl (Or.inl lk__law_names__law_turn) (je_add (je_var (i := 4) rfl (Or.inl lk__law_names__law_turn) nd__law_turn.1 nd__law_turn.2) je_int)))))
      (jss_one (js_expr (je_append (i := 2) rfl (Or.inl lk__law_names__law_names_here) nd__law_names_here.1 nd__law_names_here.2 (je_var (i := 3) rfl (Or.inl lk__law_names__law_name_here) nd__law_name_here.1 nd__law_name_here.2)))))))))
      (jss_one (js_ret (je_var (i := 2) rfl (Or.inl lk__law_names__law_names_here) nd__law_names_here.1 nd__law_names_here.2))))))
theorem ok__law_sum (T : Txt K mg a) : FnOk P w K mg base (CXE P w) 5 a.f__law_sum a.d__law_sum ["_law_well_here", "_law_names_here"] (SpM ⟨K, mg⟩ 2 M__law_sum) := by
  have S := sc__law_sum
  have G__law_number := ok__law_number (P := P) (w := w) (base := base) T
  have G__law_take := ok__law_take (P := P) (w := w) (base := base) T
  exact def_ok (m := m__law_sum) T.fun__law_sum S (fun cdv A outer s H E hr => (jss_cons (js_set (i := 2) S.nd rfl (Or.inl lk__law_sum__law_pairs) (je_lst ja_nil))
      (jss_cons (js_for PassesOwn.leaving rfl (ji_seq (je_b1 (call_sorted2 rfl) us_sorted lk__law_sum_sorted T.b_sorted bt_sorted (je_var (i := 1) rfl (Or.inl lk__law_sum__law_names_here) nd__law_names_here.1 nd__law_names_here.2) nn_sorted nd_sorted.1)) (jg_name (i := 3) S.nd rfl (Or.inl lk__law_sum__law_name_here) (by decide)) (jss_one (js_if (jt_gt (je_call G__law_take (hr.mono (by decide)) lk__law_sum__law_take T.mg__law_take T.kp__law_take T.bn__law_take .nil (fun _ => .nil) xc_of.pass (ja_cons (je_var (i := 0) rfl (Or.inl lk__law_sum__law_well_here) nd__law_well_here.1 nd__law_well_here.2) (ja_cons je_int ja_nil)) (nl_fin (d := 0) (nl_cons (nl_cons nl_nil)) rfl) nd__law_take.1) je_int) (jss_cons (js_set (i := 4) S.nd rfl (Or.inl lk__law_sum__law_number_here) (je_call G__law_number (hr.mono (by decide)) lk__law_sum__law_number T.mg__law_number T.kp__law_number T.bn__law_number .nil (fun _ => .nil) xc_of.pass (ja_cons (je_var (i := 0) rfl (Or.inl lk__law_sum__law_well_here) nd__law_well_here.1 nd__law_well_here.2) ja_nil) (nl_fin (d := 0) (nl_cons nl_nil) rfl) nd__law_number.1))
      (jss_one (js_if (jt_ne hr.units (je_var (i := 4) rfl (Or.inl lk__law_sum__law_number_here) nd__law_number_here.1 nd__law_number_here.2) (je_tup (ja_cons je_int (ja_cons je_int ja_nil)))) (jss_one (js_expr (je_append (i := 2) rfl (Or.inl lk__law_sum__law_pairs) nd__law_pairs.1 nd__law_pairs.2 (je_tup (ja_cons (je_var (i := 3) rfl (Or.inl lk__law_sum__law_name_here) nd__law_name_here.1 nd__law_name_here.2) (ja_cons (je_var (i := 4) rfl (Or.inl lk__law_sum__law_number_here) nd__law_number_here.1 nd__law_number_here.2) ja_nil)))))) jss_nil))) jss_nil)))
      (jss_one (js_ret (je_tup (ja_cons (je_call G__law_number (hr.mono (by decide)) lk__law_sum__law_number T.mg__law_number T.kp__law_number T.bn__law_number .nil (fun _ => .nil) xc_of.pass (ja_cons (je_var (i := 0) rfl (Or.inl lk__law_sum__law_well_here) nd__law_well_here.1 nd__law_well_here.2) ja_nil) (nl_fin (d := 0) (nl_cons nl_nil) rfl) nd__law_number.1) (ja_cons (je_t1 call_tuple_of us_tuple lk__law_sum_tuple T.b_tuple bt_tuple (je_var (i := 2) rfl (Or.inl lk__law_sum__law_pairs) nd__law_pairs.1 nd__law_pairs.2) nn_tuple nd_tuple.1) ja_nil))))))))
theorem ok__law_right (T : Txt K mg a) : FnOk P w K mg base (CXE P w) 8 a.f__law_right a.d__law_right ["_law_sums", "_law_numbers", "_law_making"] (SpM ⟨K, mg⟩ 3 M__law_right) := by
  have S := sc__law_right
  have G__law_add := ok__law_add (P := P) (w := w) (base := base) T
  have G_sum_plus := ok_sum_plus (P := P) (w := w) (base := base) T
  have G_sum_minus := ok_sum_minus (P := P) (w := w) (base := base) T
  have G_sum_at := ok_sum_at (P := P) (w := w) (base := base) T
  have G__law_mul := ok__law_mul (P := P) (w := w) (base := base) T
  have G_sum_times := ok_sum_times (P := P) (w := w) (base := base) T
  exact def_ok (m := m__law_right) T.fun__law_right S (fun cdv A outer s H E hr => (jss_cons (js_asg (je_var (i := 0) rfl (Or.inl lk__law_right__law_sums) nd__law_sums.1 nd__law_sums.2) (jg_or (jg_tup (n := 3) rfl (jgs_cons (jg_name (i := 3) S.nd rfl (Or.inl lk__law_right__law_one) (by decide)) (jgs_cons (jg_name (i := 4) S.nd rfl (Or.inl lk__law_right__law_other) (by decide)) (jgs_cons (jg_name (i := 5) S.nd rfl (Or.inl lk__law_right__law_third) (by decide)) jgs_nil (fun x y => pgs_cons x y)) (fun x y => pgs_cons x y)) (fun x y => pgs_cons x y))) (jg_lst (n := 3) rfl (jgs_cons (jg_name (i := 3) S.nd rfl (Or.inl lk__law_right__law_one) (by decide)) (jgs_cons (jg_name (i := 4) S.nd rfl (Or.inl lk__law_right__law_other) (by decide)) (jgs_cons (jg_name (i := 5) S.nd rfl (Or.inl lk__law_right__law_third) (by decide)) jgs_nil (fun x y => pgs_cons x y)) (fun x y => pgs_cons x y)) (fun x y => pgs_cons x y)))) (hp := fun x y => ps_asg x y))
      (jss_cons (js_asg (je_comp (lo := 12) rfl csc__law_right_0 rfl (ji_seq (je_var (i := 0) rfl (Or.inl lk__law_right__law_sums) nd__law_sums.1 nd__law_sums.2)) (fun _ _ _ _ _ => (jg_name (i := 12) csc__law_right_0.nd rfl (Or.inl (rel_local lc__law_right_0__law_some)) (by decide) (Or.inr (rel_local lc__law_right_0__law_some)))) (fun _ _ _ _ _ => jf_nil) (fun _ _ _ _ _ => (je_call G_sum_at (hr.mono (by decide)) (rel_glob lc__law_right_0_sum_at) T.mg_sum_at T.kp_sum_at T.bn_sum_at .nil (fun _ => .nil) pass0E (ja_cons (je_varF (i := 12) rfl (Or.inl (rel_local lc__law_right_0__law_some)) nd__law_some.1 nd__law_some.2) (ja_cons (je_varF (i := 2) rfl (rel_free lc__law_right_0__law_making) nd__law_making.1 nd__law_making.2) ja_nil)) (nl_fin (d := 0) (nl_cons (nl_cons nl_nil)) rfl) nd_sum_at.1))) (jg_or (jg_tup (n := 3) rfl (jgs_cons (jg_name (i := 6) S.nd rfl (Or.inl lk__law_right__law_here) (by decide)) (jgs_cons (jg_name (i := 7) S.nd rfl (Or.inl lk__law_right__law_there) (by decide)) (jgs_cons (jg_name (i := 8) S.nd rfl (Or.inl lk__law_right__law_far) (by decide)) jgs_nil (fun x y => pgs_cons x y)) (fun x y => pgs_cons x y)) (fun x y => pgs_cons x y))) (jg_lst (n := 3) rfl (jgs_cons (jg_name (i := 6) S.nd rfl (Or.inl lk__law_right__law_here) (by decide)) (jgs_cons (jg_name (i := 7) S.nd rfl (Or.inl lk__law_right__law_there) (by decide)) (jgs_cons (jg_name (i := 8) S.nd rfl (Or.inl lk__law_right__law_far) (by decide)) jgs_nil (fun x y => pgs_cons x y)) (fun x y => pgs_cons x y)) (fun x y => pgs_cons x y)))) (hp := fun x y => ps_asg x y))
      (jss_cons (js_set (i := 9) S.nd rfl (Or.inl lk__law_right__law_less) (je_call G__law_add (hr.mono (by decide)) lk__law_right__law_add T.mg__law_add T.kp__law_add T.bn__law_add .nil (fun _ => .nil) xc_of.pass (ja_cons (je_varF (i := 6) rfl (Or.inl lk__law_right__law_here) nd__law_here.1 nd__law_here.2) (ja_cons (je_call G__law_mul (hr.mono (by decide)) lk__law_right__law_mul T.mg__law_mul T.kp__law_mul T.bn__law_mul .nil (fun _ => .nil) xc_of.pass (ja_cons (je_varF (i := 7) rfl (Or.inl lk__law_right__law_there) nd__law_there.1 nd__law_there.2) (ja_cons (je_tup (ja_cons (je_neg je_int) (ja_cons je_int ja_nil))) ja_nil)) (nl_fin (d := 0) (nl_cons (nl_cons nl_nil)) rfl) nd__law_mul.1) ja_nil)) (nl_fin (d := 0) (nl_cons (nl_cons nl_nil)) rfl) nd__law_add.1))
      (jss_cons (js_if (jt_of (jw_or (jt_ne hr.units (je_call G_sum_at (hr.mono (by decide)) lk__law_right_sum_at T.mg_sum_at T.kp_sum_at T.bn_sum_at .nil (fun _ => .nil) xc_of.pass (ja_cons (je_call G_sum_plus (hr.mono (by decide)) lk__law_right_sum_plus T.mg_sum_plus T.kp_sum_plus T.bn_sum_plus .nil (fun _ => .nil) xc_of.pass (ja_cons (je_varF (i := 3) rfl (Or.inl lk__law_right__law_one) nd__law_one.1 nd__law_one.2) (ja_cons (je_varF (i := 4) rfl (Or.inl lk__law_right__law_other) nd__law_other.1 nd__law_other.2) ja_nil)) (nl_fin (d := 0) (nl_cons (nl_cons nl_nil)) rfl) nd_sum_plus.1) (ja_cons (je_varF (i := 2) rfl (Or.inr (Or.inl lk__law_right__law_making)) nd__law_making.1 nd__law_making.2) ja_nil)) (nl_fin (d := 0) (nl_cons (nl_cons nl_nil)) rfl) nd_sum_at.1) (je_call G__law_add (hr.mono (by decide)) lk__law_right__law_add T.mg__law_add T.kp__law_add T.bn__law_add .nil (fun _ => .nil) xc_of.pass (ja_cons (je_varF (i := 6) rfl (Or.inl lk__law_right__law_here) nd__law_here.1 nd__law_here.2) (ja_cons (je_varF (i := 7) rfl (Or.inl lk__law_right__law_there) nd__law_there.1 nd__law_there.2) ja_nil)) (nl_fin (d := 0) (nl_cons (nl_cons nl_nil)) rfl) nd__law_add.1)) (jw_or1 (jt_ne hr.units (je_call G_sum_at (hr.mono (by decide)) lk__law_right_sum_at T.mg_sum_at T.kp_sum_at T.bn_sum_at .nil (fun _ => .nil) xc_of.pass (ja_cons (je_call G_sum_minus (hr.mono (by decide)) lk__law_right_sum_minus T.mg_sum_minus T.kp_sum_minus T.bn_sum_minus .nil (fun _ => .nil) xc_of.pass (ja_cons (je_varF (i := 3) rfl (Or.inl lk__law_right__law_one) nd__law_one.1 nd__law_one.2) (ja_cons (je_varF (i := 4) rfl (Or.inl lk__law_right__law_other) nd__law_other.1 nd__law_other.2) ja_nil)) (nl_fin (d := 0) (nl_cons (nl_cons nl_nil)) rfl) nd_sum_minus.1) (ja_cons (je_varF (i := 2) rfl (Or.inr (Or.inl lk__law_right__law_making)) nd__law_making.1 nd__law_making.2) ja_nil)) (nl_fin (d := 0) (nl_cons (nl_cons nl_nil)) rfl) nd_sum_at.1) (je_var (i := 9) rfl (Or.inl lk__law_right__law_less) nd__law_less.1 nd__law_less.2))))) (jss_one (js_ret je_bl)) jss_nil)
      (jss_cons (js_set (i := 10) S.nd rfl (Or.inl lk__law_right__law_both) (je_call G_sum_plus (hr.mono (by decide)) lk__law_right_sum_plus T.mg_sum_plus T.kp_sum_plus T.bn_sum_plus .nil (fun _ => .nil) xc_of.pass (ja_cons (je_call G_sum_times (hr.mono (by decide)) lk__law_right_sum_times T.mg_sum_times T.kp_sum_times T.bn_sum_times .nil (fun _ => .nil) xc_of.pass (ja_cons (je_varF (i := 3) rfl (Or.inl lk__law_right__law_one) nd__law_one.1 nd__law_one.2) (ja_cons (je_ix (hu_of hr) (je_var (i := 1) rfl (Or.inl lk__law_right__law_numbers) nd__law_numbers.1 nd__law_numbers.2) je_int (fun _ _ => rfl) (fun _ _ => rfl)) ja_nil)) (nl_fin (d := 0) (nl_cons (nl_cons nl_nil)) rfl) nd_sum_times.1) (ja_cons (je_call G_sum_times (hr.mono (by decide)) lk__law_right_sum_times T.mg_sum_times T.kp_sum_times T.bn_sum_times .nil (fun _ => .nil) xc_of.pass (ja_cons (je_varF (i := 5) rfl (Or.inl lk__law_right__law_third) nd__law_third.1 nd__law_third.2) (ja_cons (je_ix (hu_of hr) (je_var (i := 1) rfl (Or.inl lk__law_right__law_numbers) nd__law_numbers.1 nd__law_numbers.2) je_int (fun _ _ => rfl) (fun _ _ => rfl)) ja_nil)) (nl_fin (d := 0) (nl_cons (nl_cons nl_nil)) rfl) nd_sum_times.1) ja_nil)) (nl_fin (d := 0) (nl_cons (nl_cons nl_nil)) rfl) nd_sum_plus.1))
      (jss_cons (js_if (jt_ne hr.units (je_call G_sum_at (hr.mono (by decide)) lk__law_right_sum_at T.mg_sum_at T.kp_sum_at T.bn_sum_at .nil (fun _ => .nil) xc_of.pass (ja_cons (je_varF (i := 10) rfl (Or.inl lk__law_right__law_both) nd__law_both.1 nd__law_both.2) (ja_cons (je_varF (i := 2) rfl (Or.inr (Or.inl lk__law_right__law_making)) nd__law_making.1 nd__law_making.2) ja_nil)) (nl_fin (d := 0) (nl_cons (nl_cons nl_nil)) rfl) nd_sum_at.1) (je_call G__law_add (hr.mono (by decide)) lk__law_right__law_add T.mg__law_add T.kp__law_add T.bn__law_add .nil (fun _ => .nil) xc_of.pass (ja_cons (je_call G__law_mul (hr.mono (by decide)) lk__law_right__law_mul T.mg__law_mul T.kp__law_mul T.bn__law_mul .nil (fun _ => .nil) xc_of.pass (ja_cons (je_varF (i := 6) rfl (Or.inl lk__law_right__law_here) nd__law_here.1 nd__law_here.2) (ja_cons (je_ix (hu_of hr) (je_var (i := 1) rfl (Or.inl lk__law_right__law_numbers) nd__law_numbers.1 nd__law_numbers.2) je_int (fun _ _ => rfl) (fun _ _ => rfl)) ja_nil)) (nl_fin (d := 0) (nl_cons (nl_cons nl_nil)) rfl) nd__law_mul.1) (ja_cons (je_call G__law_mul (hr.mono (by decide)) lk__law_right__law_mul T.mg__law_mul T.kp__law_mul T.bn__law_mul .nil (fun _ => .nil) xc_of.pass (ja_cons (je_varF (i := 8) rfl (Or.inl lk__law_right__law_far) nd__law_far.1 nd__law_far.2) (ja_cons (je_ix (hu_of hr) (je_var (i := 1) rfl (Or.inl lk__law_right__law_numbers) nd__law_numbers.1 nd__law_numbers.2) je_int (fun _ _ => rfl) (fun _ _ => rfl)) ja_nil)) (nl_fin (d := 0) (nl_cons (nl_cons nl_nil)) rfl) nd__law_mul.1) ja_nil)) (nl_fin (d := 0) (nl_cons (nl_cons nl_nil)) rfl) nd__law_add.1)) (jss_one (js_ret je_bl)) jss_nil)
      (jss_cons (js_if (jt_ne hr.units (je_call G_sum_plus (hr.mono (by decide)) lk__law_right_sum_plus T.mg_sum_plus T.kp_sum_plus T.bn_sum_plus .nil (fun _ => .nil) xc_of.pass (ja_cons (je_call G_sum_plus (hr.mono (by decide)) lk__law_right_sum_plus T.mg_sum_plus T.kp_sum_plus T.bn_sum_plus .nil (fun _ => .nil) xc_of.pass (ja_cons (je_varF (i := 3) rfl (Or.inl lk__law_right__law_one) nd__law_one.1 nd__law_one.2) (ja_cons (je_varF (i := 4) rfl (Or.inl lk__law_right__law_other) nd__law_other.1 nd__law_other.2) ja_nil)) (nl_fin (d := 0) (nl_cons (nl_cons nl_nil)) rfl) nd_sum_plus.1) (ja_cons (je_varF (i := 5) rfl (Or.inl lk__law_right__law_third) nd__law_third.1 nd__law_third.2) ja_nil)) (nl_fin (d := 0) (nl_cons (nl_cons nl_nil)) rfl) nd_sum_plus.1) (je_call G_sum_plus (hr.mono (by decide)) lk__law_right_sum_plus T.mg_sum_plus T.kp_sum_plus T.bn_sum_plus .nil (fun _ => .nil) xc_of.pass (ja_cons (je_varF (i := 5) rfl (Or.inl lk__law_right__law_third) nd__law_third.1 nd__law_third.2) (ja_cons (je_call G_sum_plus (hr.mono (by decide)) lk__law_right_sum_plus T.mg_sum_plus T.kp_sum_plus T.bn_sum_plus .nil (fun _ => .nil) xc_of.pass (ja_cons (je_varF (i := 4) rfl (Or.inl lk__law_right__law_other) nd__law_other.1 nd__law_other.2) (ja_cons (je_varF (i := 3) rfl (Or.inl lk__law_right__law_one) nd__law_one.1 nd__law_one.2) ja_nil)) (nl_fin (d := 0) (nl_cons (nl_cons nl_nil)) rfl) nd_sum_plus.1) ja_nil)) (nl_fin (d := 0) (nl_cons (nl_cons nl_nil)) rfl) nd_sum_plus.1)) (jss_one (js_ret je_bl)) jss_nil)
      (jss_cons (js_if (jt_ne hr.units (je_call G_sum_times (hr.mono (by decide)) lk__law_right_sum_times T.mg_sum_times T.kp_sum_times T.bn_sum_times .nil (fun _ => .nil) xc_of.pass (ja_cons (je_call G_sum_times (hr.mono (by decide)) lk__law_right_sum_times T.mg_sum_times T.kp_sum_times T.bn_sum_times .nil (fun _ => .nil) xc_of.pass (ja_cons (je_varF (i := 3) rfl (Or.inl lk__law_right__law_one) nd__law_one.1 nd__law_one.2) (ja_cons (je_ix (hu_of hr) (je_var (i := 1) rfl (Or.inl lk__law_right__law_numbers) nd__law_numbers.1 nd__law_numbers.2) je_int (fun _ _ => rfl) (fun _ _ => rfl)) ja_nil)) (nl_fin (d := 0) (nl_cons (nl_cons nl_nil)) rfl) nd_sum_times.1) (ja_cons (je_ix (hu_of hr) (je_var (i := 1) rfl (Or.inl lk__law_right__law_numbers) nd__law_numbers.1 nd__law_numbers.2) je_int (fun _ _ => rfl) (fun _ _ => rfl)) ja_nil)) (nl_fin (d := 0) (nl_cons (nl_cons nl_nil)) rfl) nd_sum_times.1) (je_call G_sum_times (hr.mono (by decide)) lk__law_right_sum_times T.mg_sum_times T.kp_sum_times T.bn_sum_times .nil (fun _ => .nil) xc_of.pass (ja_cons (je_varF (i := 3) rfl (Or.inl lk__law_right__law_one) nd__law_one.1 nd__law_one.2) (ja_cons (je_call G__law_mul (hr.mono (by decide)) lk__law_right__law_mul T.mg__law_mul T.kp__law_mul T.bn__law_mul .nil (fun _ => .nil) xc_of.pass (ja_cons (je_ix (hu_of hr) (je_var (i := 1) rfl (Or.inl lk__law_right__law_numbers) nd__law_numbers.1 nd__law_numbers.2) je_int (fun _ _ => rfl) (fun _ _ => rfl)) (ja_cons (je_ix (hu_of hr) (je_var (i := 1) rfl (Or.inl lk__law_right__law_numbers) nd__law_numbers.1 nd__law_numbers.2) je_int (fun _ _ => rfl) (fun _ _ => rfl)) ja_nil)) (nl_fin (d := 0) (nl_cons (nl_cons nl_nil)) rfl) nd__law_mul.1) ja_nil)) (nl_fin (d := 0) (nl_cons (nl_cons nl_nil)) rfl) nd_sum_times.1)) (jss_one (js_ret je_bl)) jss_nil)
      (jss_cons (js_set (i := 11) S.nd rfl (Or.inl lk__law_right__law_none) (je_call G_sum_minus (hr.mono (by decide)) lk__law_right_sum_minus T.mg_sum_minus T.kp_sum_minus T.bn_sum_minus .nil (fun _ => .nil) xc_of.pass (ja_cons (je_varF (i := 3) rfl (Or.inl lk__law_right__law_one) nd__law_one.1 nd__law_one.2) (ja_cons (je_varF (i := 3) rfl (Or.inl lk__law_right__law_one) nd__law_one.1 nd__law_one.2) ja_nil)) (nl_fin (d := 0) (nl_cons (nl_cons nl_nil)) rfl) nd_sum_minus.1))
      (jss_one (js_ret (je_and (je_eq hr.units (je_var (i := 11) rfl (Or.inl lk__law_right__law_none) nd__law_none.1 nd__law_none.2) (je_tup (ja_cons (je_tup (ja_cons je_int (ja_cons je_int ja_nil))) (ja_cons (je_tup ja_nil) ja_nil)))) (je_and (je_eq hr.units (je_call G_sum_at (hr.mono (by decide)) lk__law_right_sum_at T.mg_sum_at T.kp_sum_at T.bn_sum_at .nil (fun _ => .nil) xc_of.pass (ja_cons (je_varF (i := 11) rfl (Or.inl lk__law_right__law_none) nd__law_none.1 nd__law_none.2) (ja_cons (je_fz je_dnew) ja_nil)) (nl_fin (d := 0) (nl_cons (nl_cons nl_nil)) rfl) nd_sum_at.1) (je_tup (ja_cons je_int (ja_cons je_int ja_nil)))) (je_one (je_eq hr.units (je_call G_sum_plus (hr.mono (by decide)) lk__law_right_sum_plus T.mg_sum_plus T.kp_sum_plus T.bn_sum_plus .nil (fun _ => .nil) xc_of.pass (ja_cons (je_call G_sum_minus (hr.mono (by decide)) lk__law_right_sum_minus T.mg_sum_minus T.kp_sum_minus T.bn_sum_minus .nil (fun _ => .nil) xc_of.pass (ja_cons (je_varF (i := 3) rfl (Or.inl lk__law_right__law_one) nd__law_one.1 nd__law_one.2) (ja_cons (je_varF (i := 5) rfl (Or.inl lk__law_right__law_third) nd__law_third.1 nd__law_third.2) ja_nil)) (nl_fin (d := 0) (nl_cons (nl_cons nl_nil)) rfl) nd_sum_minus.1) (ja_cons (je_varF (i := 5) rfl (Or.inl lk__law_right__law_third) nd__law_third.1 nd__law_third.2) ja_nil)) (nl_fin (d := 0) (nl_cons (nl_cons nl_nil)) rfl) nd_sum_plus.1) (je_var (i := 3) rfl (Or.inl lk__law_right__law_one) nd__law_one.1 nd__law_one.2)))))))))))))))))
theorem ok__law_called (T : Txt K mg a) : FnOk P w K mg base (CXE P w) 6 a.f__law_called a.d__law_called ["_law_some", "_law_making", "_law_word"] (SpM ⟨K, mg⟩ 3 M__law_called) := by
  have S := sc__law_called
  have G_sum_called := ok_sum_called (P := P) (w := w) (base := base) T
  have G_sum_at := ok_sum_at (P := P) (w := w) (base := base) T
  have G_sum_of := ok_sum_of (P := P) (w := w) (base := base) T
  exact def_ok (m := m__law_called) T.fun__law_called S (fun cdv A outer s H E hr => (jss_cons (js_set (i := 3) S.nd rfl (Or.inl lk__law_called__law_other) je_dnew)
      (jss_cons (js_forK (j := 1) rfl (Or.inl lk__law_called__law_making) nd__law_making.1 nd__law_making.2 PassesOwn.leaving rfl (jg_name (i := 4) S.nd rfl (Or.inl lk__law_called__law_name_here) (by decide)) (jss_one (js_setD (i := 3) (hu_of hr) rfl (Or.inl lk__law_called__law_other) nd__law_other.1 nd__law_other.2 (je_add (je_add (je_var (i := 2) rfl (Or.inl lk__law_called__law_word) nd__law_word.1 nd__law_word.2) je_str) (je_var (i := 4) rfl (Or.inl lk__law_called__law_name_here) nd__law_name_here.1 nd__law_name_here.2)) (je_ix (hu_of hr) (je_var (i := 1) rfl (Or.inl lk__law_called__law_making) nd__law_making.1 nd__law_making.2) (je_var (i := 4) rfl (Or.inl lk__law_called__law_name_here) nd__law_name_here.1 nd__law_name_here.2) (fun _ _ => rfl) (fun _ _ => rfl)))))
      (jss_cons (js_set (i := 5) S.nd rfl (Or.inl lk__law_called__law_made) (je_call G_sum_called (hr.mono (by decide)) lk__law_called_sum_called T.mg_sum_called T.kp_sum_called T.bn_sum_called .nil (fun _ => .nil) xc_of.pass (ja_cons (je_varF (i := 0) rfl (Or.inl lk__law_called__law_some) nd__law_some.1 nd__law_some.2) (ja_cons (je_varF (i := 2) rfl (Or.inl lk__law_called__law_word) nd__law_word.1 nd__law_word.2) ja_nil)) (nl_fin (d := 0) (nl_cons (nl_cons nl_nil)) rfl) nd_sum_called.1))
      (jss_cons (js_if (jt_ne hr.units (je_call G_sum_at (hr.mono (by decide)) lk__law_called_sum_at T.mg_sum_at T.kp_sum_at T.bn_sum_at .nil (fun _ => .nil) xc_of.pass (ja_cons (je_varF (i := 5) rfl (Or.inl lk__law_called__law_made) nd__law_made.1 nd__law_made.2) (ja_cons (je_varF (i := 3) rfl (Or.inl lk__law_called__law_other) nd__law_other.1 nd__law_other.2) ja_nil)) (nl_fin (d := 0) (nl_cons (nl_cons nl_nil)) rfl) nd_sum_at.1) (je_call G_sum_at (hr.mono (by decide)) lk__law_called_sum_at T.mg_sum_at T.kp_sum_at T.bn_sum_at .nil (fun _ => .nil) xc_of.pass (ja_cons (je_varF (i := 0) rfl (Or.inl lk__law_called__law_some) nd__law_some.1 nd__law_some.2) (ja_cons (je_varF (i := 1) rfl (Or.inl lk__law_called__law_making) nd__law_making.1 nd__law_making.2) ja_nil)) (nl_fin (d := 0) (nl_cons (nl_cons nl_nil)) rfl) nd_sum_at.1)) (jss_one (js_ret je_bl)) jss_nil)
      (jss_one (js_ret (je_and (je_eq hr.units (je_call G_sum_of (hr.mono (by decide)) lk__law_called_sum_of T.mg_sum_of T.kp_sum_of T.bn_sum_of .nil (fun _ => .nil) xc_of.pass (ja_cons (je_ix (hu_of hr) (je_var (i := 5) rfl (Or.inl lk__law_called__law_made) nd__law_made.1 nd__law_made.2) je_int (fun _ _ => rfl) (fun _ _ => rfl)) (ja_cons (je_fz (je_rev (je_t1 (call_list2 rfl) us_list2 lk__law_called_list T.b_list bt_list (je_ix (hu_of hr) (je_var (i := 5) rfl (Or.inl lk__law_called__law_made) nd__law_made.1 nd__law_made.2) je_int (fun _ _ => rfl) (fun _ _ => rfl)) nn_list nd_list.1) pe_m1)) ja_nil)) (nl_fin (d := 0) (nl_cons (nl_cons nl_nil)) rfl) nd_sum_of.1) (je_var (i := 5) rfl (Or.inl lk__law_called__law_made) nd__law_made.1 nd__law_made.2)) (je_one (je_eq hr.units (je_call G_sum_of (hr.mono (by decide)) lk__law_called_sum_of T.mg_sum_of T.kp_sum_of T.bn_sum_of .nil (fun _ => .nil) xc_of.pass (ja_cons (je_ix (hu_of hr) (je_var (i := 0) rfl (Or.inl lk__law_called__law_some) nd__law_some.1 nd__law_some.2) je_int (fun _ _ => rfl) (fun _ _ => rfl)) (ja_cons (je_ix (hu_of hr) (je_var (i := 0) rfl (Or.inl lk__law_called__law_some) nd__law_some.1 nd__law_some.2) je_int (fun _ _ => rfl) (fun _ _ => rfl)) ja_nil)) (nl_fin (d := 0) (nl_cons (nl_cons nl_nil)) rfl) nd_sum_of.1) (je_var (i := 0) rfl (Or.inl lk__law_called__law_some) nd__law_some.1 nd__law_some.2)))))))))))
theorem ok_law (T : Txt K mg a) : FnOk P w K mg base (CXE P w) 9 a.f_law a.d_law ["_law_script"] (SpM ⟨K, mg⟩ 1 M_law) := by
  have S := sc_law
  have G__law_well := ok__law_well (P := P) (w := w) (base := base) T
  have G__law_names := ok__law_names (P := P) (w := w) (base := base) T
  have G__law_sum := ok__law_sum (P := P) (w := w) (base := base) T
  have G__law_number := ok__law_number (P := P) (w := w) (base := base) T
  have G__law_called := ok__law_called (P := P) (w := w) (base := base) T
  have G__law_take := ok__law_take (P := P) (w := w) (base := base) T
  have G__law_right := ok__law_right (P := P) (w := w) (base := base) T
  exact def_ok (m := m_law) T.fun_law S (fun cdv A outer s H E hr => (jss_cons (js_for PassesOwn.leaving rfl (ji_rng1 lk_law_range T.b_range (je_b2 (call_max2 rfl) os_max lk_law_max T.b_max bt_max je_int (je_b2 (call_min2 rfl) os_min lk_law_min T.b_min bt_min (je_b1 call_len us_len lk_law_len T.b_len bt_len (je_var (i := 0) rfl (Or.inl lk_law__law_script) nd__law_script.1 nd__law_script.2) nn_len nd_len.1) je_int nn_min nd_min.1) nn_max nd_max.1)) (jg_name (i := 1) S.nd rfl (Or.inl lk_law__law_k) (by decide)) (jss_cons (js_set (i := 2) S.nd rfl (Or.inr lk_law__law_well_here) (je_call G__law_well (hr.mono (by decide)) lk_law__law_well T.mg__law_well T.kp__law_well T.bn__law_well .nil (fun _ => .nil) xc_of.pass (ja_cons (je_varF (i := 0) rfl (Or.inl lk_law__law_script) nd__law_script.1 nd__law_script.2) (ja_cons (je_varF (i := 1) rfl (Or.inl lk_law__law_k) nd__law_k.1 nd__law_k.2) ja_nil)) (nl_fin (d := 0) (nl_cons (nl_cons nl_nil)) rfl) nd__law_well.1))
      (jss_cons (js_set (i := 3) S.nd rfl (Or.inr lk_law__law_names_here) (je_call G__law_names (hr.mono (by decide)) lk_law__law_names T.mg__law_names T.kp__law_names T.bn__law_names .nil (fun _ => .nil) xc_of.pass (ja_cons (je_var (i := 2) rfl (Or.inr (Or.inl lk_law__law_well_here)) nd__law_well_here.1 nd__law_well_here.2) (ja_cons (je_add je_int (je_call G__law_take (hr.mono (by decide)) lk_law__law_take T.mg__law_take T.kp__law_take T.bn__law_take .nil (fun _ => .nil) xc_of.pass (ja_cons (je_var (i := 2) rfl (Or.inr (Or.inl lk_law__law_well_here)) nd__law_well_here.1 nd__law_well_here.2) (ja_cons je_int ja_nil)) (nl_fin (d := 0) (nl_cons (nl_cons nl_nil)) rfl) nd__law_take.1)) ja_nil)) (nl_fin (d := 0) (nl_cons (nl_cons nl_nil)) rfl) nd__law_names.1))
      (jss_cons (js_comp (i := 4) (lo := 8) rfl csc_law_0 rfl S.nd rfl lk_law__law_sums (swaps_true (by rfl) lk_law__law_sums (by rfl) (by decide +kernel)) (ji_rng1 lk_law_range T.b_range je_int) (fun _ _ _ _ _ => (jg_name (i := 8) csc_law_0.nd rfl (Or.inl (rel_local lc_law_0__law_j)) (by decide) (Or.inr (rel_local lc_law_0__law_j)))) (fun _ _ _ _ _ => jf_nil) (fun _ _ _ _ _ => (je_call G__law_sum (hr.mono (by decide)) (rel_glob lc_law_0__law_sum) T.mg__law_sum T.kp__law_sum T.bn__law_sum .nil (fun _ => .nil) pass0E (ja_cons (je_var (i := 2) rfl (rel_free lc_law_0__law_well_here) nd__law_well_here.1 nd__law_well_here.2) (ja_cons (je_varF (i := 3) rfl (rel_free lc_law_0__law_names_here) nd__law_names_here.1 nd__law_names_here.2) ja_nil)) (nl_fin (d := 0) (nl_cons (nl_cons nl_nil)) rfl) nd__law_sum.1)))
      (jss_cons (js_comp (i := 5) (lo := 8) rfl csc_law_1 rfl S.nd rfl lk_law__law_numbers (swaps_true (by rfl) lk_law__law_numbers (by rfl) (by decide +kernel)) (ji_rng1 lk_law_range T.b_range je_int) (fun _ _ _ _ _ => (jg_name (i := 8) csc_law_1.nd rfl (Or.inl (rel_local lc_law_1__law_j)) (by decide) (Or.inr (rel_local lc_law_1__law_j)))) (fun _ _ _ _ _ => jf_nil) (fun _ _ _ _ _ => (je_call G__law_number (hr.mono (by decide)) (rel_glob lc_law_1__law_number) T.mg__law_number T.kp__law_number T.bn__law_number .nil (fun _ => .nil) pass0E (ja_cons (je_var (i := 2) rfl (rel_free lc_law_1__law_well_here) nd__law_well_here.1 nd__law_well_here.2) ja_nil) (nl_fin (d := 0) (nl_cons nl_nil) rfl) nd__law_number.1)))
      (jss_cons (js_set (i := 6) S.nd rfl (Or.inl lk_law__law_making) je_dnew)
      (jss_cons (js_for PassesOwn.leaving rfl (ji_seq (je_var (i := 3) rfl (Or.inr (Or.inl lk_law__law_names_here)) nd__law_names_here.1 nd__law_names_here.2)) (jg_name (i := 7) S.nd rfl (Or.inl lk_law__law_name_here) (by decide)) (jss_one (js_setD (i := 6) (hu_of hr) rfl (Or.inl lk_law__law_making) nd__law_making.1 nd__law_making.2 (je_var (i := 7) rfl (Or.inl lk_law__law_name_here) nd__law_name_here.1 nd__law_name_here.2) (je_call G__law_number (hr.mono (by decide)) lk_law__law_number T.mg__law_number T.kp__law_number T.bn__law_number .nil (fun _ => .nil) xc_of.pass (ja_cons (je_var (i := 2) rfl (Or.inr (Or.inl lk_law__law_well_here)) nd__law_well_here.1 nd__law_well_here.2) ja_nil) (nl_fin (d := 0) (nl_cons nl_nil) rfl) nd__law_number.1))))
      (jss_cons (js_if (jt_of (jw_or (jt_not (jt_val (je_call G__law_right (hr.mono (by decide)) lk_law__law_right T.mg__law_right T.kp__law_right T.bn__law_right .nil (fun _ => .nil) xc_of.pass (ja_cons (je_varF (i := 4) rfl (Or.inl lk_law__law_sums) nd__law_sums.1 nd__law_sums.2) (ja_cons (je_varF (i := 5) rfl (Or.inl lk_law__law_numbers) nd__law_numbers.1 nd__law_numbers.2) (ja_cons (je_varF (i := 6) rfl (Or.inl lk_law__law_making) nd__law_making.1 nd__law_making.2) ja_nil))) (nl_fin (d := 0) (nl_cons (nl_cons (nl_cons nl_nil))) rfl) nd__law_right.1))) (jw_or1 (jt_not (jt_val (je_call G__law_right (hr.mono (by decide)) lk_law__law_right T.mg__law_right T.kp__law_right T.bn__law_right .nil (fun _ => .nil) xc_of.pass (ja_cons (je_fz (je_rev (je_var (i := 4) rfl (Or.inl lk_law__law_sums) nd__law_sums.1 nd__law_sums.2) pe_m1)) (ja_cons (je_varF (i := 5) rfl (Or.inl lk_law__law_numbers) nd__law_numbers.1 nd__law_numbers.2) (ja_cons (je_varF (i := 6) rfl (Or.inl lk_law__law_making) nd__law_making.1 nd__law_making.2) ja_nil))) (nl_fin (d := 0) (nl_cons (nl_cons (nl_cons nl_nil))) rfl) nd__law_right.1)))))) (jss_one (js_ret je_bl)) jss_nil)
      (jss_one (js_if (jt_not (jt_val (je_call G__law_called (hr.mono (by decide)) lk_law__law_called T.mg__law_called T.kp__law_called T.bn__law_called .nil (fun _ => .nil) xc_of.pass (ja_cons (je_ix (hu_of hr) (je_var (i := 4) rfl (Or.inl lk_law__law_sums) nd__law_sums.1 nd__law_sums.2) je_int (fun _ _ => rfl) (fun _ _ => rfl)) (ja_cons (je_varF (i := 6) rfl (Or.inl lk_law__law_making) nd__law_making.1 nd__law_making.2) (ja_cons (je_fz (je_sl je_str jp_none (jp_some (je_add je_int (je_call G__law_take (hr.mono (by decide)) lk_law__law_take T.mg__law_take T.kp__law_take T.bn__law_take .nil (fun _ => .nil) xc_of.pass (ja_cons (je_var (i := 2) rfl (Or.inr (Or.inl lk_law__law_well_here)) nd__law_well_here.1 nd__law_well_here.2) (ja_cons je_int ja_nil)) (nl_fin (d := 0) (nl_cons (nl_cons nl_nil)) rfl) nd__law_take.1))))) ja_nil))) (nl_fin (d := 0) (nl_cons (nl_cons (nl_cons nl_nil))) rfl) nd__law_called.1))) (jss_one (js_ret je_bl)) jss_nil))))))))))
      (jss_one (js_ret je_bl))))
end
end W
set_option maxHeartbeats 1000000
set_option exponentiation.threshold 100000
namespace W
open PySem L2 M
theorem atI_0 {α : Type} (x : α) (xs : List α) : atI (x :: xs) 0 = some x := by
  unfold atI ixN
  rw [if_pos (by decide), if_pos (by simp only [List.length_cons]; omega)]
  rfl
theorem atI_1 {α : Type} (x y : α) (xs : List α) : atI (x :: y :: xs) 1 = some y := by
  unfold atI ixN
  rw [if_pos (by decide), if_pos (by simp only [List.length_cons]; omega)]
  rfl
theorem atI_2 {α : Type} (x y z : α) (xs : List α) : atI (x :: y :: z :: xs) 2 = some z := by
  unfold atI ixN
  rw [if_pos (by decide), if_pos (by simp only [List.length_cons]; omega)]
  rfl
local macro_rules | `(tactic| walk_at "evh") => `(tactic| simp only [M.e_bind, M.e_sbind, M.e_pure, M.e_var, M.e_varF, M.e_C, M.e_op, M.e_un, M.e_b1, M.e_b2, M.e_test, M.e_testB, M.e_and, M.e_or, M.e_not, M.e_andV, M.e_orV, M.e_notV, M.e_if, M.e_nil, M.e_cons, M.e_tup, M.e_lst, M.e_call, M.e_seq, M.e_next, M.e_set, M.e_ret, M.e_retN, M.e_expr, M.e_sif, M.e_def, M.e_for, M.e_while, M.e_mseq, M.e_rng1, M.e_comp, M.e_true, M.e_asg, M.e_par, M.e_app, M.e_setIx, M.e_setD, M.e_dnew, M.e_get2, M.e_raise, M.e_s1, M.e_sl, M.e_noPart, M.e_part, M.e_J, M.e_Fv, M.e_Js, M.e_fz, M.fzK,
  M.opK, M.unK, M.testK, M.asB, M.tupK, M.lstK, M.setK, M.retK, M.seqK, M.rng1K, M.asgK, M.parK, M.appK, M.ixK, M.dK, M.get2K, M.isDic, M.s1K, M.slK, M.partK, M.res, M.Sl.a, M.LO.a, M.frzL, M.frz1, M.stT, M.put, M.outS, M.fOr, M.gOr, M.fIx, M.fGetD, M.fAddI, M.fAddS, M.fAddT, M.fSub, M.fMulI, M.fMulS, M.fDiv, M.fMod, M.fPow, M.fLt, M.fLe, M.fGt, M.fGe, M.fEq, M.fNe, M.fIs, M.fNeg, M.fLen, M.fAbs, M.fMax, M.fMin, M.fInt, M.fList, M.fTuple, M.seqA, M.gPut, M.gsNil, M.gsCons, M.gTupM, M.gLstM, M.gOrM, M.eqA_int, M.liveAt, M.setAt, M.isL, M.isDi, M.keyA, M.isNonA, M.rrOf,
  List.getElem?_cons_zero, List.getElem?_cons_succ, List.set_cons_zero, List.set_cons_succ, List.cons_append, List.nil_append, List.append_nil, List.replicate_succ, List.replicate_zero, List.map_cons, List.map_nil, List.length_cons, List.length_nil, Nat.reduceAdd, Nat.reduceLeDiff, Nat.reduceEqDiff, Nat.reduceLT, if_true, if_false, ite_true, ite_false, Bool.not_true, Bool.not_false, Bool.false_eq_true, Bool.true_and, Bool.and_true, atI_0, atI_1, atI_2, decide_true, decide_false, Nat.le_refl, Nat.zero_le, *])
local macro_rules | `(tactic| walk_at "ev") => `(tactic| simp only [M.e_bind, M.e_sbind, M.e_pure, M.e_var, M.e_varF, M.e_C, M.e_op, M.e_un, M.e_b1, M.e_b2, M.e_test, M.e_testB, M.e_and, M.e_or, M.e_not, M.e_andV, M.e_orV, M.e_notV, M.e_if, M.e_nil, M.e_cons, M.e_tup, M.e_lst, M.e_call, M.e_seq, M.e_next, M.e_set, M.e_ret, M.e_retN, M.e_expr, M.e_sif, M.e_def, M.e_for, M.e_while, M.e_mseq, M.e_rng1, M.e_comp, M.e_true, M.e_asg, M.e_par, M.e_app, M.e_setIx, M.e_setD, M.e_dnew, M.e_get2, M.e_raise, M.e_s1, M.e_sl, M.e_noPart, M.e_part, M.e_J, M.e_Fv, M.e_Js, M.e_fz, M.fzK,
  M.opK, M.unK, M.testK, M.asB, M.tupK, M.lstK, M.setK, M.retK, M.seqK, M.rng1K, M.asgK, M.parK, M.appK, M.ixK, M.dK, M.get2K, M.isDic, M.s1K, M.slK, M.partK, M.res, M.Sl.a, M.LO.a, M.frzL, M.frz1, M.stT, M.put, M.outS, M.fOr, M.gOr, M.fIx, M.fGetD, M.fAddI, M.fAddS, M.fAddT, M.fSub, M.fMulI, M.fMulS, M.fDiv, M.fMod, M.fPow, M.fLt, M.fLe, M.fGt, M.fGe, M.fEq, M.fNe, M.fIs, M.fNeg, M.fLen, M.fAbs, M.fMax, M.fMin, M.fInt, M.fList, M.fTuple, M.seqA, M.gPut, M.gsNil, M.gsCons, M.gTupM, M.gLstM, M.gOrM, M.eqA_int, M.liveAt, M.setAt, M.isL, M.isDi, M.keyA, M.isNonA, M.rrOf,
  List.getElem?_cons_zero, List.getElem?_cons_succ, List.set_cons_zero, List.set_cons_succ, List.cons_append, List.nil_append, List.append_nil, List.replicate_succ, List.replicate_zero, List.map_cons, List.map_nil, List.length_cons, List.length_nil, Nat.reduceAdd, Nat.reduceLeDiff, Nat.reduceEqDiff, Nat.reduceLT, if_true, if_false, ite_true, ite_false, Bool.not_true, Bool.not_false, Bool.false_eq_true, Bool.true_and, Bool.and_true, atI_0, atI_1, atI_2, decide_true, decide_false, Nat.le_refl, Nat.zero_le])
local macro_rules | `(tactic| walk_at "evc") => `(tactic| simp only [M.e_bind, M.e_sbind, M.e_pure, M.e_var, M.e_varF, M.e_C, M.e_op, M.e_un, M.e_b1, M.e_b2, M.e_test, M.e_testB, M.e_and, M.e_or, M.e_not, M.e_andV, M.e_orV, M.e_notV, M.e_if, M.e_nil, M.e_cons, M.e_tup, M.e_lst, M.e_call, M.e_seq, M.e_next, M.e_set, M.e_ret, M.e_retN, M.e_expr, M.e_sif, M.e_def, M.e_for, M.e_while, M.e_mseq, M.e_rng1, M.e_comp, M.e_true, M.e_asg, M.e_par, M.e_app, M.e_setIx, M.e_setD, M.e_dnew, M.e_get2, M.e_raise, M.e_s1, M.e_sl, M.e_noPart, M.e_part, M.e_J, M.e_Fv, M.e_Js, M.e_fz, M.fzK,
  M.opK, M.unK, M.testK, M.asB, M.tupK, M.lstK, M.setK, M.retK, M.seqK, M.rng1K, M.asgK, M.parK, M.appK, M.ixK, M.dK, M.get2K, M.isDic, M.s1K, M.slK, M.partK, M.res, M.Sl.a, M.LO.a, M.frzL, M.frz1, M.stT, M.put, M.outS, M.fOr, M.gOr, M.fIx, M.fGetD, M.fAddI, M.fAddS, M.fAddT, M.fSub, M.fMulI, M.fMulS, M.fDiv, M.fMod, M.fPow, M.fLt, M.fLe, M.fGt, M.fGe, M.fEq, M.fNe, M.fIs, M.fNeg, M.fLen, M.fAbs, M.fMax, M.fMin, M.fInt, M.fList, M.fTuple, M.seqA, M.gPut, M.gsNil, M.gsCons, M.gTupM, M.gLstM, M.gOrM, M.eqA_int, M.liveAt, M.setAt, M.isL, M.isDi, M.keyA, M.isNonA, M.rrOf,
  List.getElem?_cons_zero, List.getElem?_cons_succ, List.set_cons_zero, List.set_cons_succ, List.cons_append, List.nil_append, List.append_nil, List.replicate_succ, List.replicate_zero, List.map_cons, List.map_nil, List.length_cons, List.length_nil, Nat.reduceAdd, Nat.reduceLeDiff, Nat.reduceEqDiff, Nat.reduceLT, if_true, if_false, ite_true, ite_false, Bool.not_true, Bool.not_false, Bool.false_eq_true, Bool.true_and, Bool.and_true, atI_0, atI_1, atI_2, decide_true, decide_false, Nat.le_refl, Nat.zero_le, M.compK, M.compL, List.take_succ_cons, List.take_zero, *])
theorem v_cd {x y : Int} (h : y ≠ 0) (hb : L2.Bd 9000 y) : Val M_common_divisor [.int x, .int y] (.int (cd x y)) := by
  unfold Val M_common_divisor m_common_divisor
  walk_at "ev"
  obtain ⟨ρ', h1, q, r, h2⟩ := while_ind (t := mTest (mOp fNe (mVar 1) (mC (A.int 0)))) (b := sSeq (sSet 2 (mOp fMod (mVar 0) (mVar 1))) (sSeq (sSet 0 (mVar 1)) (sSet 1 (mVar 2)))) (n := BIG)
    (P := fun k ρ => ∃ p q r, ρ = [.fr (.int p), .fr (.int q), r] ∧ k = q.natAbs ∧ (∀ o, r ≠ Sl.pv o) ∧ (q = 0 → p = cd x y) ∧ (q ≠ 0 → cd p q = cd x y))
    (Q := fun ρ => ∃ q r, ρ = [.fr (.int (cd x y)), q, r]) (by
      rintro k ρ ⟨p, q, r, rfl, rfl, hr, h1, h2⟩
      by_cases z : q = 0
      · left
        subst z
        refine ⟨[.fr (.int p), .fr (.int 0), r], ?_, .fr (.int 0), r, by rw [← h1 rfl]⟩
        walk_at "ev"
        try simp
      · right
        refine ⟨[.fr (.int p), .fr (.int q), r], [.fr (.int q), .fr (.int (p.fmod q)), .fr (.int (p.fmod q))], (p.fmod q).natAbs, ?_, .inl ?_, fmod_abs p z, q, p.fmod q, _, rfl, rfl, (fun o z => by cases z), fun e => ?_, fun e => ?_⟩
        · walk_at "ev"
          simp [z]
        · walk_at "ev"
          rw [if_pos (by simpa using z)]
          cases r with
          | pv o => exact absurd rfl (hr o)
          | un => rfl
          | fr a => rfl
          | lv o => rfl
        · rw [← h2 z]; exact cd_zero z e
        · rw [cd_step z e]; exact h2 z) (k := y.natAbs) (ρ := [.fr (.int x), .fr (.int y), .un]) ⟨x, y, .un, rfl, rfl, (fun o z => by cases z), fun e => absurd e h, fun _ => rfl⟩ (big_gt (Nat.lt_of_lt_of_le hb (Nat.pow_le_pow_right (by decide) (by decide))))
  refine ⟨ρ', ?_⟩
  rw [h1]
  subst h2
  rfl
theorem v_low {t b : Int} (h : b ≠ 0) (hb : L2.Bd 9000 b) : Val M_lowest_terms [.int t, .int b] (nm (nrm t b)) := by
  unfold Val M_lowest_terms m_lowest_terms
  walk_at "ev"
  have := callK_V (v_cd (x := t) h hb)
  simp only [List.map_cons, List.map_nil] at this
  simp only [this]
  walk_at "ev"
  have hc : (cd t b != 0 && fits 9000 (cd t b)) = true := by
    rw [Bool.and_eq_true]
    exact ⟨by simpa using cd_ne h, bd_fits (show L2.Bd 9000 (cd t b) from Nat.lt_of_le_of_lt (cd_le h) hb) (Nat.le_refl _)⟩
  rw [if_pos hc]
  walk_at "ev"
  rw [if_pos hc]
  walk_at "ev"
  exact ⟨_, rfl⟩
theorem fits_of {n m : Nat} {i : Int} (h : L2.Bd m i) (k : m ≤ n) : fits n i = true := bd_fits h k
theorem v_plus {x y : Num} {n : Nat} (hx : NB n x) (hy : NB n y) (hn : n ≤ 4000) : Val M_plus [nm x, nm y] (nm (nAdd x y)) := by
  unfold Val M_plus m_plus
  have f1 := fits_of (n := 20000) hx.b1 (by omega)
  have f2 := fits_of (n := 20000) hx.b2 (by omega)
  have f3 := fits_of (n := 20000) hy.b1 (by omega)
  have f4 := fits_of (n := 20000) hy.b2 (by omega)
  have := callK_V (v_low (t := x.1 * y.2 + y.1 * x.2) (b := x.2 * y.2) (Int.mul_ne_zero hx.nz hy.nz) ((hx.b2.mul hy.b2).mono (by omega)))
  simp only [List.map_cons, List.map_nil] at this
  clear hx hy hn
  simp only [nm, List.map_cons, List.map_nil]
  walk_at "evh"
  exact ⟨_, rfl⟩
theorem v_times {x y : Num} {n : Nat} (hx : NB n x) (hy : NB n y) (hn : n ≤ 4000) : Val M_times [nm x, nm y] (nm (nMul x y)) := by
  unfold Val M_times m_times
  have f1 := fits_of (n := 20000) hx.b1 (by omega)
  have f2 := fits_of (n := 20000) hx.b2 (by omega)
  have f3 := fits_of (n := 20000) hy.b1 (by omega)
  have f4 := fits_of (n := 20000) hy.b2 (by omega)
  have := callK_V (v_low (t := x.1 * y.1) (b := x.2 * y.2) (Int.mul_ne_zero hx.nz hy.nz) ((hx.b2.mul hy.b2).mono (by omega)))
  simp only [List.map_cons, List.map_nil] at this
  clear hx hy hn
  simp only [nm, List.map_cons, List.map_nil]
  walk_at "evh"
  exact ⟨_, rfl⟩
theorem v_common {x y : Int} (hb : L2.Bd 9000 y) : Val M__law_common [.int x, .int y] (.int (Int.gcd x y)) := by
  unfold Val M__law_common m__law_common
  walk_at "ev"
  obtain ⟨ρ', h1, q, h2, hg⟩ := while_ind (t := mTest (mOp fNe (mVar 1) (mC (A.int 0)))) (b := sPar 0 1 (mCons (mVar 1) (mCons (mOp fMod (mVar 0) (mVar 1)) mNil))) (n := BIG)
    (P := fun k ρ => ∃ p q, ρ = [.fr (.int p), .fr (.int q)] ∧ k = q.natAbs ∧ Int.gcd p q = Int.gcd x y)
    (Q := fun ρ => ∃ p, ρ = [.fr (.int p), .fr (.int 0)] ∧ Int.gcd p 0 = Int.gcd x y) (by
      rintro k ρ ⟨p, q, rfl, rfl, h1⟩
      by_cases z : q = 0
      · left
        subst z
        refine ⟨[.fr (.int p), .fr (.int 0)], ?_, p, rfl, h1⟩
        walk_at "ev"
        try simp
      · right
        refine ⟨[.fr (.int p), .fr (.int q)], [.fr (.int q), .fr (.int (p.fmod q))], (p.fmod q).natAbs, ?_, .inl ?_, fmod_abs p z, q, p.fmod q, rfl, rfl, ?_⟩
        · walk_at "ev"
          simp [z]
        · have hz : (q != 0) = true := by simpa using z
          clear h1 z
          walk_at "evh"
        · rw [gcd_fmod, h1]) (k := y.natAbs) (ρ := [.fr (.int x), .fr (.int y)]) ⟨x, y, rfl, rfl, rfl⟩ (big_gt (Nat.lt_of_lt_of_le hb (Nat.pow_le_pow_right (by decide) (by decide))))
  refine ⟨ρ', ?_⟩
  rw [h1]
  subst h2
  walk_at "ev"
  have : (if q < 0 then -q else q) = (Int.gcd x y : Int) := by
    rw [← hg, Int.gcd_zero_right]
    split <;> omega
  rw [this]
theorem v_lnum {t b : Int} (h : b ≠ 0) (hb : L2.Bd 9000 b) : Val M__law_num [.int t, .int b] (nm (nrm t b)) := by
  rw [← lnum_eq h]
  unfold Val M__law_num m__law_num
  walk_at "ev"
  have gp : ∀ t b : Int, b ≠ 0 → L2.Bd 9000 b → ((Int.gcd t b : Int) != 0 && fits 9000 (Int.gcd t b : Int)) = true := fun t b h hb => by
    have h1 : Int.gcd t b ≤ b.natAbs := Int.gcd_le_natAbs_right _ h
    have h0 : Int.gcd t b ≠ 0 := fun z => h (Int.gcd_eq_zero_iff.mp z).2
    rw [Bool.and_eq_true]
    exact ⟨by simpa using h0, bd_fits (show L2.Bd 9000 (Int.gcd t b : Int) from Nat.lt_of_le_of_lt (by simpa using h1) hb) (Nat.le_refl _)⟩
  by_cases c : b < 0
  · simp only [c, decide_true]
    walk_at "ev"
    have e1 : (0 : Int) - t = -t := by omega
    have e2 : (0 : Int) - b = -b := by omega
    simp only [e1, e2]
    have := callK_V (v_common (x := -t) (y := -b) hb.neg)
    simp only [List.map_cons, List.map_nil] at this
    simp only [this]
    have hg := gp (-t) (-b) (by omega) hb.neg
    have e3 : lnum t b = ((-t).fdiv (Int.gcd (-t) (-b)), (-b).fdiv (Int.gcd (-t) (-b))) := if_pos c
    rw [e3]
    simp only [nm]
    clear gp hb h c e1 e2 e3
    walk_at "evh"
    exact ⟨_, rfl⟩
  · simp only [c, decide_false]
    walk_at "ev"
    have := callK_V (v_common (x := t) (y := b) hb)
    simp only [List.map_cons, List.map_nil] at this
    simp only [this]
    have hg := gp t b h hb
    have e3 : lnum t b = (t.fdiv (Int.gcd t b), b.fdiv (Int.gcd t b)) := if_neg c
    rw [e3]
    simp only [nm]
    clear gp hb h c e3
    walk_at "evh"
    exact ⟨_, rfl⟩
theorem v_ladd {x y : Num} {n : Nat} (hx : NB n x) (hy : NB n y) (hn : n ≤ 4000) : Val M__law_add [nm x, nm y] (nm (nAdd x y)) := by
  unfold Val M__law_add m__law_add
  have f1 := fits_of (n := 20000) hx.b1 (by omega)
  have f2 := fits_of (n := 20000) hx.b2 (by omega)
  have f3 := fits_of (n := 20000) hy.b1 (by omega)
  have f4 := fits_of (n := 20000) hy.b2 (by omega)
  have := callK_V (v_lnum (t := x.1 * y.2 + y.1 * x.2) (b := x.2 * y.2) (Int.mul_ne_zero hx.nz hy.nz) ((hx.b2.mul hy.b2).mono (by omega)))
  simp only [List.map_cons, List.map_nil] at this
  clear hx hy hn
  simp only [nm, List.map_cons, List.map_nil]
  walk_at "evh"
  exact ⟨_, rfl⟩
theorem v_lmul {x y : Num} {n : Nat} (hx : NB n x) (hy : NB n y) (hn : n ≤ 4000) : Val M__law_mul [nm x, nm y] (nm (nMul x y)) := by
  unfold Val M__law_mul m__law_mul
  have f1 := fits_of (n := 20000) hx.b1 (by omega)
  have f2 := fits_of (n := 20000) hx.b2 (by omega)
  have f3 := fits_of (n := 20000) hy.b1 (by omega)
  have f4 := fits_of (n := 20000) hy.b2 (by omega)
  have := callK_V (v_lnum (t := x.1 * y.1) (b := x.2 * y.2) (Int.mul_ne_zero hx.nz hy.nz) ((hx.b2.mul hy.b2).mono (by omega)))
  simp only [List.map_cons, List.map_nil] at this
  clear hx hy hn
  simp only [nm, List.map_cons, List.map_nil]
  walk_at "evh"
  exact ⟨_, rfl⟩
def Wl (n : Int) (o : LO) : Prop := ∃ f c t : Int, o = .lst [.int f, .int c, .int t] ∧ (f = 0 ∨ f = 1) ∧ (f = 0 → c.natAbs < 10 ^ 18) ∧ 0 ≤ t ∧ t ≤ n
theorem Wl.mono {n m : Int} {o : LO} (h : Wl n o) (k : n ≤ m) : Wl m o := by
  obtain ⟨f, c, t, h1, h2, h3, h4, h5⟩ := h
  exact ⟨f, c, t, h1, h2, h3, h4, by omega⟩
theorem ixN_1 : ixN (0 + 1 + 1 + 1) 1 = some 1 := by decide
theorem ixN_2 : ixN (0 + 1 + 1 + 1) 2 = some 2 := by decide
theorem v_take {n : Int} {o : LO} {m : Int} (w : Wl n o) (hn : n < 2 ^ 40) (m0 : 0 < m) (m1 : m < 2 ^ 64) : ∃ r o', ValW M__law_take o [.int m] (.fr (.int r)) o' ∧ 0 ≤ r ∧ r < m ∧ Wl (n + 1) o' := by
  obtain ⟨f, c, t, rfl, hf, hc, t0, t1⟩ := w
  have hm : (m != 0 && fits 9000 m) = true := by
    rw [Bool.and_eq_true]
    exact ⟨by simp; omega, bd_fits (m := 64) (show m.natAbs < 2 ^ 64 by omega) (by decide)⟩
  have hm0 : (m != 0) = true := by simp; omega
  unfold ValW M__law_take m__law_take
  rcases hf with rfl | rfl
  · have hc := hc rfl
    have f1 : fits 20000 (t + 1) = true := bd_fits (m := 64) (show (t + 1).natAbs < 2 ^ 64 by omega) (by decide)
    have f2 : fits 20000 7919 = true := bd_fits (m := 64) (show (7919 : Int).natAbs < 2 ^ 64 by decide) (by decide)
    have f3 : fits 20000 (7919 * (t + 1)) = true := bd_fits (m := 64) (show (7919 * (t + 1)).natAbs < 2 ^ 64 by omega) (by decide)
    have b1 : L2.Bd 128 (7919 * (t + 1) * (t + 1)) := (L2.Bd.mul (m := 64) (n := 64) (show (7919 * (t + 1)).natAbs < 2 ^ 64 by omega) (show (t + 1).natAbs < 2 ^ 64 by omega))
    have b2 : L2.Bd 130 (c + 7919 * (t + 1) * (t + 1) + (t + 1)) := ((L2.Bd.add (m := 128) (n := 128) (show c.natAbs < 2 ^ 128 by omega) b1).add (n := 128) (show (t + 1).natAbs < 2 ^ 128 by omega)).mono (by decide)
    have f4 : fits 20000 (c + 7919 * (t + 1) * (t + 1) + (t + 1)) = true := bd_fits b2 (by decide)
    have f5 : fits 20000 48271 = true := bd_fits (m := 64) (show (48271 : Int).natAbs < 2 ^ 64 by decide) (by decide)
    have hp : (0 : Int) < 2305843009213693951 := by decide
    have g1 := Int.emod_nonneg ((c + 7919 * (t + 1) * (t + 1) + (t + 1)) * 48271) (b := 2305843009213693951) (by decide)
    have g2 := Int.emod_lt_of_pos ((c + 7919 * (t + 1) * (t + 1) + (t + 1)) * 48271) hp
    have e1 : ((c + 7919 * (t + 1) * (t + 1) + (t + 1)) * 48271).fmod 2305843009213693951 = ((c + 7919 * (t + 1) * (t + 1) + (t + 1)) * 48271) % 2305843009213693951 := Int.fmod_eq_emod_of_nonneg _ (by decide)
    have f6 : fits 20000 (((c + 7919 * (t + 1) * (t + 1) + (t + 1)) * 48271).fmod 2305843009213693951) = true := bd_fits (m := 64) (show Int.natAbs _ < 2 ^ 64 by rw [e1]; omega) (by decide)
    have f7 : fits 20000 1442695040888963407 = true := bd_fits (m := 64) (show (1442695040888963407 : Int).natAbs < 2 ^ 64 by decide) (by decide)
    have f8 : ((2305843009213693921 : Int) != 0) = true := by decide
    have f9 : ((2305843009213693951 : Int) != 0) = true := by decide
    have f10 : ((64 : Int) != 0 && fits 9000 64) = true := by
      rw [Bool.and_eq_true]
      exact ⟨by decide, bd_fits (m := 64) (show (64 : Int).natAbs < 2 ^ 64 by decide) (by decide)⟩
    refine ⟨((((((c + 7919 * (t + 1) * (t + 1) + (t + 1)) * 48271).fmod 2305843009213693951 * 1442695040888963407 + 4321).fmod 2305843009213693921).fdiv 64).fmod m), .lst [.int 0, .int c, .int (t + 1)], ?_, Int.fmod_nonneg_of_pos _ m0, Int.fmod_lt_of_pos _ m0, 0, c, t + 1, rfl, .inl rfl, fun _ => hc, by omega, by omega⟩
    have d0 : decide ((0 : Int) = 1) = false := by decide
    have i2 := ixN_2
    clear e1 g1 g2 hp b1 b2 hc m0 m1 hn t0 t1 hm
    walk_at "evh"
    exact ⟨_, rfl⟩
  · refine ⟨_, .lst [.int 1, .int (c.fdiv m), .int t], ?_, Int.fmod_nonneg_of_pos c m0, Int.fmod_lt_of_pos c m0, 1, c.fdiv m, t, rfl, .inr rfl, fun z => by omega, t0, by omega⟩
    have d0 : decide ((1 : Int) = 1) = true := by decide
    have i1 := ixN_1
    have hf : fits 9000 m = true := (Bool.and_eq_true_iff.mp hm).2
    clear hc m0 m1 hn t0 t1 hm
    walk_at "evh"
    exact ⟨_, rfl⟩
theorem cw0 {f : Ms} {as : List A} {o o' : LO} {r : Rr} {s : Sl} (h : ValW f o as s o') (hr : rrOf s = some r) : ∀ ρ, callK f [] (.rf 0 :: as.map Rr.fr) (.pv o :: ρ) = some (.ok r, .pv o' :: ρ) := fun ρ => callK_W h hr rfl
theorem cw2 {f : Ms} {as : List A} {o o' : LO} {r : Rr} {s : Sl} (h : ValW f o as s o') (hr : rrOf s = some r) : ∀ a b ρ, callK f [] (.rf 2 :: as.map Rr.fr) (a :: b :: .lv o :: ρ) = some (.ok r, a :: b :: .lv o' :: ρ) := fun a b ρ => callK_W (i := 2) h hr rfl
theorem tk {n : Int} {o : LO} (m : Int) (w : Wl n o) (hn : n < 2 ^ 40) (m0 : 0 < m) (m1 : m < 2 ^ 64) : ∃ r o', (∀ ρ, callK M__law_take [] [.rf 0, .fr (.int m)] (.pv o :: ρ) = some (.ok (.fr (.int r)), .pv o' :: ρ)) ∧ 0 ≤ r ∧ r < m ∧ Wl (n + 1) o' := by
  obtain ⟨r, o', h, h1, h2, h3⟩ := v_take (m := m) w hn m0 m1
  exact ⟨r, o', cw0 h rfl, h1, h2, h3⟩
theorem tk2 {n : Int} {o : LO} (m : Int) (w : Wl n o) (hn : n < 2 ^ 40) (m0 : 0 < m) (m1 : m < 2 ^ 64) : ∃ r o', (∀ a b ρ, callK M__law_take [] [.rf 2, .fr (.int m)] (a :: b :: .lv o :: ρ) = some (.ok (.fr (.int r)), a :: b :: .lv o' :: ρ)) ∧ 0 ≤ r ∧ r < m ∧ Wl (n + 1) o' := by
  obtain ⟨r, o', h, h1, h2, h3⟩ := v_take (m := m) w hn m0 m1
  exact ⟨r, o', cw2 h rfl, h1, h2, h3⟩
theorem pow8 : (10 : Int) ^ (8 : Int).toNat = 100000000 := by decide
theorem pow18 : (10 : Int) ^ (18 : Int).toNat = 1000000000000000000 := by decide
theorem v_number {n : Int} {o : LO} (w : Wl n o) (hn : n < 2 ^ 39) : ∃ x o', ValW M__law_number o [] (.fr (nm x)) o' ∧ NB 60 x ∧ Wl (n + 3) o' := by
  obtain ⟨r1, o1, c1, a1, b1, w1⟩ := tk 8 w (by omega) (by decide) (by decide)
  have p8 : ((0 : Int) ≤ 8 ∧ (8 : Int) ≤ 1000000 ∧ (10 : Int).natAbs < 2 ^ 64) = True := by simp
  have q8 := pow8
  have f1 : fits 20000 2 = true := bd_fits (m := 64) (show (2 : Int).natAbs < 2 ^ 64 by decide) (by decide)
  have f2 : fits 20000 100000000 = true := bd_fits (m := 64) (show (100000000 : Int).natAbs < 2 ^ 64 by decide) (by decide)
  by_cases h7 : r1 = 7
  · obtain ⟨r2, o2, c2, a2, b2, w2⟩ := tk (2 * 100000000 + 1) w1 (by omega) (by decide) (by decide)
    obtain ⟨r3, o3, c3, a3, b3, w3⟩ := tk 100000000 w2 (by omega) (by decide) (by decide)
    have hb : (1 + r3) ≠ 0 := by omega
    have k := callK_V (v_lnum (t := r2 - 100000000) (b := 1 + r3) hb (L2.Bd.mono (m := 64) (show (1 + r3).natAbs < 2 ^ 64 by omega) (by decide)))
    refine ⟨nrm (r2 - 100000000) (1 + r3), o3, ?_, NB.nrm hb (show (r2 - 100000000).natAbs < 2 ^ 60 by omega) (show (1 + r3).natAbs < 2 ^ 60 by omega), w3.mono (by omega)⟩
    simp only [List.map_cons, List.map_nil] at k
    subst h7
    clear a1 b1 a2 b2 a3 b3 w w1 w2 w3 hn hb
    unfold ValW M__law_number m__law_number
    walk_at "evh"
    exact ⟨_, rfl⟩
  · have d7 : decide (r1 = 7) = false := decide_eq_false h7
    by_cases h4 : 4 < r1
    · obtain ⟨r2, o2, c2, a2, b2, w2⟩ := tk 201 w1 (by omega) (by decide) (by decide)
      obtain ⟨r3, o3, c3, a3, b3, w3⟩ := tk 6 w2 (by omega) (by decide) (by decide)
      have hb : (1 + r3) ≠ 0 := by omega
      have k := callK_V (v_lnum (t := r2 - 100) (b := 1 + r3) hb (L2.Bd.mono (m := 64) (show (1 + r3).natAbs < 2 ^ 64 by omega) (by decide)))
      refine ⟨nrm (r2 - 100) (1 + r3), o3, ?_, NB.nrm hb (show (r2 - 100).natAbs < 2 ^ 60 by omega) (show (1 + r3).natAbs < 2 ^ 60 by omega), w3.mono (by omega)⟩
      simp only [List.map_cons, List.map_nil] at k
      clear a1 b1 a2 b2 a3 b3 w w1 w2 w3 hn hb h7
      unfold ValW M__law_number m__law_number
      walk_at "evh"
      exact ⟨_, rfl⟩
    · obtain ⟨r2, o2, c2, a2, b2, w2⟩ := tk 9 w1 (by omega) (by decide) (by decide)
      have hk : Ok (r2 - 4, 1) := ⟨by show (0 : Int) < 1; decide, by show Int.gcd (r2 - 4) 1 = 1; simp⟩
      refine ⟨(r2 - 4, 1), o2, ?_, ⟨hk, show (r2 - 4).natAbs < 2 ^ 60 by omega, show (1 : Int).natAbs < 2 ^ 60 by decide⟩, w2.mono (by omega)⟩
      clear a1 b1 a2 b2 w w1 w2 hn h7 hk
      unfold ValW M__law_number m__law_number
      walk_at "evh"
      exact ⟨_, rfl⟩
theorem nmb {n : Int} {o : LO} (w : Wl n o) (hn : n < 2 ^ 39) : ∃ x o', (∀ ρ, callK M__law_number [] [.rf 0] (.pv o :: ρ) = some (.ok (.fr (nm x)), .pv o' :: ρ)) ∧ NB 60 x ∧ Wl (n + 3) o' := by
  obtain ⟨x, o', h, h1, h2⟩ := v_number w hn
  exact ⟨x, o', cw0 h rfl, h1, h2⟩
theorem nmb2 {n : Int} {o : LO} (w : Wl n o) (hn : n < 2 ^ 39) : ∃ x o', (∀ a b ρ, callK M__law_number [] [.rf 2] (a :: b :: .lv o :: ρ) = some (.ok (.fr (nm x)), a :: b :: .lv o' :: ρ)) ∧ NB 60 x ∧ Wl (n + 3) o' := by
  obtain ⟨x, o', h, h1, h2⟩ := v_number w hn
  exact ⟨x, o', cw2 h rfl, h1, h2⟩
theorem v_well (ns : List Int) (k : Int) (k0 : 0 ≤ k) (k1 : k ≤ 1000) : ∃ o, ValN M__law_well [.lst (ns.map A.int), .int k] o ∧ Wl 17000 o := by
  have p18 : ((0 : Int) ≤ 18 ∧ (18 : Int) ≤ 1000000 ∧ (10 : Int).natAbs < 2 ^ 64) = True := by simp
  have q18 := pow18
  have f1 : fits 20000 17 = true := bd_fits (m := 64) (show (17 : Int).natAbs < 2 ^ 64 by decide) (by decide)
  have f2 : fits 20000 k = true := bd_fits (m := 64) (show k.natAbs < 2 ^ 64 by omega) (by decide)
  have l1000 : (0 + 1 + 1 + 1 ≤ 1000) = True := by simp
  have key : ∀ c : Int, Wl 17000 (.lst [.int (if decide (1000000000000000000 ≤ (if c < 0 then -c else c)) = true then 1 else 0), .int c, .int (17 * k)]) := fun c => by
    refine ⟨_, c, 17 * k, rfl, ?_, fun z => ?_, by omega, by omega⟩
    · generalize decide (1000000000000000000 ≤ (if c < 0 then -c else c)) = d
      cases d
      · exact .inl rfl
      · exact .inr rfl
    · by_cases h : 1000000000000000000 ≤ (if c < 0 then -c else c)
      · simp [h] at z
      · split at h <;> omega
  have hlen : ((ns.map A.int).length : Int) = (ns.length : Int) := by rw [List.length_map]
  by_cases hk : k < (ns.length : Int)
  · obtain ⟨j, rfl⟩ : ∃ j : Nat, k = j := ⟨k.toNat, by omega⟩
    have hj : j < ns.length := by omega
    have ha : atI (ns.map A.int) (j : Int) = some (.int ns[j]) := atI_nat (by rw [List.getElem?_map, List.getElem?_eq_getElem hj]; rfl)
    refine ⟨_, ?_, key ns[j]⟩
    clear key k0 k1
    unfold ValN M__law_well m__law_well
    walk_at "evh"
    exact ⟨_, rfl⟩
  · refine ⟨_, ?_, key 0⟩
    clear key k0 k1
    unfold ValN M__law_well m__law_well
    walk_at "evh"
    exact ⟨_, rfl⟩
theorem at_str {z : Str} {r : Int} (h0 : 0 ≤ r) (h1 : r < (z.cps.toList.length : Int)) : ∃ c, atI z.cps.toList r = some c := by
  obtain ⟨j, rfl⟩ : ∃ j : Nat, r = j := ⟨r.toNat, by omega⟩
  have hj : j < z.cps.toList.length := by omega
  exact ⟨_, atI_nat (List.getElem?_eq_getElem hj)⟩
theorem app_len (x y : Str) : (x ++ y).length = x.length + y.length := by
  show (x.cps ++ y.cps).size = x.cps.size + y.cps.size
  simp
theorem lens_app (ss ts : List Str) : lens (ss ++ ts) = lens ss + lens ts := by unfold lens; rw [List.map_append, List.sum_append]
theorem glued_len (ss : List Str) : (Builtin.Str.glued ⟨#[]⟩ ss).length = lens ss := by
  rw [size_glued]
  show lens ss + (ss.length - 1) * 0 = lens ss
  omega
theorem v_name {n : Int} {o : LO} {m : Int} (w : Wl n o) (hn : n < 2 ^ 38) (m0 : 4 ≤ m) (m1 : m ≤ 100) : ∃ z o', ValW M__law_name o [.int m] (.fr (.str z)) o' ∧ 1 ≤ z.length ∧ (z.length : Int) ≤ m ∧ Wl (n + 200) o' := by
  obtain ⟨r1, o1, c1, a1, b1, w1⟩ := tk 6 w (by omega) (by decide) (by decide)
  obtain ⟨t, ht, t0, t1⟩ : ∃ t, atI [A.int 4, A.int m] (if decide (r1 = 5) = true then 1 else 0) = some (.int t) ∧ 1 ≤ t ∧ t ≤ m := by
    by_cases h : r1 = 5
    · refine ⟨m, ?_, by omega, by omega⟩
      simp only [h, decide_true, if_true, atI_1]
    · refine ⟨4, ?_, by decide, m0⟩
      simp only [h, decide_false, Bool.false_eq_true, if_false, atI_0]
  obtain ⟨r2, o2, c2, a2, b2, w2⟩ := tk t w1 (by omega) (by omega) (by omega)
  have hsz : (0 : Int) ≤ 1 + r2 ∧ 1 + r2 ≤ 101 := ⟨by omega, by omega⟩
  obtain ⟨ys, ρ', hc, ss, oz, e1, e2, e3, wz⟩ := compL_ind (G := gPut 4) (t := mTrue) (e := mOp (fOr fIx fGetD) (mVar 2) (mCall M__law_take [] (mCons (mVar 0) (mCons (mC (A.int 37)) mNil)))) (as := rngA 0 (1 + r2).toNat)
    (fun i acc ρ => ∃ ss oz, acc = ss.map A.str ∧ lens ss = i ∧ (∃ x, ρ = [.pv oz, .fr (.int m), .fr (.str "abcdefghijklmnopqrstuvwxyz0123456789."), .fr (.int (1 + r2)), x] ∧ ∀ q, x ≠ Sl.pv q) ∧ Wl (n + 2 + i) oz)
    (ρ := [.pv o2, .fr (.int m), .fr (.str "abcdefghijklmnopqrstuvwxyz0123456789."), .fr (.int (1 + r2)), .un])
    ⟨[], o2, rfl, rfl, ⟨.un, rfl, fun q z => by cases z⟩, w2.mono (by simp; omega)⟩ (by
      rintro i a acc ρ ha ⟨ss, oz, rfl, ez, ⟨x, rfl, hx⟩, wz⟩
      have hi : i < 101 := by
        have := (List.getElem?_eq_some_iff.mp ha).1
        simp [rngA] at this
        omega
      obtain ⟨r3, o3, c3, a3, b3, w3⟩ := tk 37 wz (by omega) (by decide) (by decide)
      have h37 : (("abcdefghijklmnopqrstuvwxyz0123456789." : Str).cps.toList.length : Int) = 37 := by decide +kernel
      obtain ⟨ch, hch⟩ := at_str (z := "abcdefghijklmnopqrstuvwxyz0123456789.") a3 (by omega)
      have hlen : (("abcdefghijklmnopqrstuvwxyz0123456789." : Str).length ≤ 100000) = True := by simp only [eq_iff_iff, iff_true]; decide +kernel
      refine ⟨[.pv oz, .fr (.int m), .fr (.str "abcdefghijklmnopqrstuvwxyz0123456789."), .fr (.int (1 + r2)), .fr a], ?_, .inl ⟨_, .fr (.str ⟨#[ch]⟩), [.pv o3, .fr (.int m), .fr (.str "abcdefghijklmnopqrstuvwxyz0123456789."), .fr (.int (1 + r2)), .fr a], .str ⟨#[ch]⟩, _, rfl, ?_, rfl, ss ++ [⟨#[ch]⟩], o3, ?_, ?_, ⟨.fr a, rfl, fun q z => by cases z⟩, w3.mono (by omega)⟩⟩
      · cases x with
        | pv q => exact absurd rfl (hx q)
        | _ => rfl
      · clear ha hi a3 b3 w3 wz hx c1 c2 w w1 w2 h37
        walk_at "evh"
      · rw [List.map_append]; rfl
      · rw [lens_app, ez]; rfl)
  obtain ⟨x, e3, _⟩ := e3
  subst e1 e3
  have hlen : (rngA 0 (1 + r2).toNat).length = (1 + r2).toNat := by simp [rngA]
  rw [hlen] at e2 wz
  refine ⟨Builtin.Str.glued ⟨#[]⟩ ss, oz, ?_, by rw [glued_len]; omega, by rw [glued_len]; omega, wz.mono (by omega)⟩
  have k1 : ((rngA 0 (1 + r2).toNat).length ≤ 100000) = True := by simp only [eq_iff_iff, iff_true]; omega
  have k2 : (-(2 ^ 60) ≤ 1 + r2 ∧ 1 + r2 < 2 ^ 60) = True := by simp only [eq_iff_iff, iff_true]; omega
  have k3 := strsA_of ss
  have k5 : (lens ss + ss.length * (⟨#[]⟩ : Str).length ≤ 100000) = True := by
    simp only [eq_iff_iff, iff_true]
    show lens ss + ss.length * 0 ≤ 100000
    omega
  have k4 : fJoin "" (.lst (ss.map A.str)) = some (.fr (.str (Builtin.Str.glued ⟨#[]⟩ ss))) := by
    show fJoin ⟨#[]⟩ (.lst (ss.map A.str)) = _
    unfold fJoin
    simp only [k3]
    rw [if_pos (of_eq_true k5)]
  clear k3 k5 wz e2 hlen hsz a1 b1 a2 b2 t0 t1 w w1 w2
  unfold ValW M__law_name m__law_name
  walk_at "evh"
  simp only [compK, k1, if_true, List.replicate_succ, List.replicate_zero, List.cons_append, List.nil_append, List.append_nil]
  rw [hc]
  simp only [List.length_cons, List.length_nil, List.take_succ_cons, List.take_zero, k4]
  exact ⟨_, rfl⟩
def sec (z : Str) : Option Nat := z.cps.toList.reverse[1]?
theorem sec_app (x : Str) (a b : Nat) : sec ((x ++ ⟨#[a]⟩) ++ ⟨#[b]⟩) = some a := by
  show (((x.cps ++ #[a]) ++ #[b]).toList.reverse)[1]? = some a
  simp
def mu (ss : List Str) (t : Nat) : Nat := ss.countP fun y => decide (47 + t ≤ (sec y).getD 0)
theorem mu_le (ss : List Str) (t : Nat) : mu ss t ≤ ss.length := List.countP_le_length
theorem mu_step {ss : List Str} {t : Nat} {z : Str} (hz : z ∈ ss) (hs : sec z = some (47 + t)) : mu ss (t + 1) < mu ss t := by
  unfold mu
  induction ss with
  | nil => cases hz
  | cons y ss ih =>
    rw [List.countP_cons, List.countP_cons]
    have le : ss.countP (fun y => decide (47 + (t + 1) ≤ (sec y).getD 0)) ≤ ss.countP (fun y => decide (47 + t ≤ (sec y).getD 0)) := List.countP_mono_left fun q _ h => by
      rw [decide_eq_true_eq] at h ⊢; omega
    rcases List.mem_cons.mp hz with e | e
    · subst e
      have e1 : decide (47 + t ≤ (sec z).getD 0) = true := by rw [hs]; simp
      have e2 : decide (47 + (t + 1) ≤ (sec z).getD 0) = false := by rw [hs]; simp
      rw [e1, e2]
      simp
      omega
    · have := ih e
      have d : decide (47 + (t + 1) ≤ (sec y).getD 0) = true → decide (47 + t ≤ (sec y).getD 0) = true := fun h => by rw [decide_eq_true_eq] at h ⊢; omega
      cases h1 : decide (47 + (t + 1) ≤ (sec y).getD 0) with
      | true => rw [d h1]; simp; omega
      | false => simp; split <;> omega
theorem dig : ∀ t : Nat, t < 10 → atI ("0123456789" : Str).cps.toList (t : Int) = some (48 + t) := by decide +kernel
theorem let0 : atI ("abcdefghij" : Str).cps.toList (0 : Int) = some 97 := by decide +kernel
theorem inV_str (z : Str) : ∀ ss : List Str, inV (.str z) (ss.map V.str) = decide (z ∈ ss)
  | [] => by simp [inV]
  | y :: ss => by
    have ih := inV_str z ss
    unfold inV at ih ⊢
    rw [List.map_cons, List.any_cons, ih]
    show (y == z || decide (z ∈ ss)) = decide (z ∈ y :: ss)
    by_cases c : y = z
    · subst c; simp
    · have c2 : z ≠ y := fun e => c e.symm
      have : (y == z) = false := by rw [beq_eq_false_iff_ne]; exact c
      rw [this]; simp [c2]
theorem flatA_strs (ss : List Str) : (ss.map A.str).all flatA = true := by
  rw [List.all_eq_true]
  intro v hv
  obtain ⟨z, _, rfl⟩ := List.mem_map.mp hv
  rfl
theorem fInL_str (z : Str) (ss : List Str) : fInL false (.str z) (.lst (ss.map A.str)) = some (.fr (.bl (decide (z ∈ ss)))) := by
  unfold fInL inA
  simp only [flatA_strs, flatA, Bool.and_self, if_true]
  have e : (ss.map A.str).map valA = ss.map V.str := by rw [List.map_map]; rfl
  rw [e]
  show some (Rr.fr (A.bl (if false = true then _ else inV (.str z) (ss.map V.str)))) = _
  rw [if_neg (by decide), inV_str]
theorem atI_m1 {α : Type} (xs : List α) (x : α) : atI (xs ++ [x]) (-1) = some x := by
  unfold atI ixN
  rw [if_neg (by decide), if_pos (by simp; omega)]
  simp only [List.length_append, List.length_cons, List.length_nil, Option.bind_some]
  have : ((-1 : Int) + ((xs.length + (0 + 1) : Nat) : Int)).toNat = xs.length := by omega
  rw [this]
  simp
theorem nm0 {n : Int} {o : LO} (m : Int) (w : Wl n o) (hn : n < 2 ^ 38) (m0 : 4 ≤ m) (m1 : m ≤ 100) : ∃ z o', (∀ ρ, callK M__law_name [] [.rf 0, .fr (.int m)] (.pv o :: ρ) = some (.ok (.fr (.str z)), .pv o' :: ρ)) ∧ 1 ≤ z.length ∧ (z.length : Int) ≤ m ∧ Wl (n + 200) o' := by
  obtain ⟨z, o', h, h1, h2, h3⟩ := v_name (m := m) w hn m0 m1
  exact ⟨z, o', cw0 h rfl, h1, h2, h3⟩
theorem v_names {n : Int} {o : LO} {m : Int} (w : Wl n o) (hn : n < 2 ^ 36) (m0 : 1 ≤ m) (m1 : m ≤ 8) : ∃ (ss : List Str) (o' : LO), ValW M__law_names o [.int m] (.lv (.lst (ss.map A.str))) o' ∧ ss.Nodup ∧ (ss.length : Int) = m ∧ (∀ z ∈ ss, z.length ≤ 20 * ss.length) ∧ Wl (n + 2500) o' := by
  obtain ⟨z0, o1, c1, a1, b1, w1⟩ := nm0 20 w (by omega) (by decide) (by decide)
  obtain ⟨ρ', hw, ss, oz, x3, x4, rfl, n1, n2, n3, n4⟩ := while_ind (t := mTest (mOp fLt (mB1 fLen (mVar 2)) (mVar 1))) (n := BIG)
    (b := (sSeq (sSet 3 (mCall M__law_name [] (mCons (mVar 0) (mCons (mC (.int 20)) mNil))))
  (sSeq (sIf (mTest (mOp fEq (mCall M__law_take [] (mCons (mVar 0) (mCons (mC (.int 3)) mNil))) (mC (.int 0)))) (sSet 3 (mSl (mOp fAdd (mOp (fOr fIx fGetD) (mVar 2) (mUn fNeg (mC (.int 1)))) (mOp (fOr fIx fGetD) (mC (.str "a0.z")) (mCall M__law_take [] (mCons (mVar 0) (mCons (mC (.int 4)) mNil))))) mNoPart (mPart (mC (.int 20))))) sNext)
  (sSeq (sSet 4 (mC (.int 0)))
  (sSeq (sWhile BIG (mTest (mOp (fOr (fInL false) (fInD false)) (mVar 3) (mVar 2))) (sSeq (sSet 3 (mOp fAdd (mOp fAdd (mSl (mVar 3) mNoPart (mPart (mC (.int 18)))) (mOp (fOr fIx fGetD) (mC (.str "0123456789")) (mOp fMod (mVar 4) (mC (.int 10))))) (mOp (fOr fIx fGetD) (mC (.str "abcdefghij")) (mOp fMod (mOp fDiv (mVar 4) (mC (.int 10))) (mC (.int 10))))))
  (sSet 4 (mOp fAdd (mVar 4) (mC (.int 1))))))
  (sExpr (mOnL 2 (mAppend 2 (mVar 3)))))))))
    (P := fun k ρ => ∃ (ss : List Str) (oz : LO) (x3 x4 : Sl), ρ = [.pv oz, .fr (.int m), .lv (.lst (ss.map A.str)), x3, x4] ∧ ss ≠ [] ∧ ss.Nodup ∧ (ss.length : Int) ≤ m ∧ (∀ z ∈ ss, z.length ≤ 20 * ss.length) ∧ Wl (n + 300 * ss.length) oz ∧ (∀ q, x3 ≠ Sl.pv q) ∧ (∀ q, x4 ≠ Sl.pv q) ∧ k = 8 - ss.length)
    (Q := fun ρ => ∃ (ss : List Str) (oz : LO) (x3 x4 : Sl), ρ = [.pv oz, .fr (.int m), .lv (.lst (ss.map A.str)), x3, x4] ∧ ss.Nodup ∧ (ss.length : Int) = m ∧ (∀ z ∈ ss, z.length ≤ 20 * ss.length) ∧ Wl (n + 300 * ss.length) oz)
    (by
      rintro k ρ ⟨ss, oz, x3, x4, rfl, hne, hnd, hle, hlz, wz, h3, h4, rfl⟩
      by_cases hlt : (ss.length : Int) < m
      · right
        obtain ⟨z1, o2, c2, a2, b2, w2⟩ := nm0 20 wz (by omega) (by decide) (by decide)
        obtain ⟨r3, o3, c3, a3, b3, w3⟩ := tk 3 w2 (by omega) (by decide) (by decide)
        obtain ⟨z, o4, hz, lz, w4⟩ : ∃ (z : Str) (o4 : LO), sIf (mTest (mOp fEq (mCall M__law_take [] (mCons (mVar 0) (mCons (mC (.int 3)) mNil))) (mC (.int 0)))) (sSet 3 (mSl (mOp fAdd (mOp (fOr fIx fGetD) (mVar 2) (mUn fNeg (mC (.int 1)))) (mOp (fOr fIx fGetD) (mC (.str "a0.z")) (mCall M__law_take [] (mCons (mVar 0) (mCons (mC (.int 4)) mNil))))) mNoPart (mPart (mC (.int 20))))) sNext [.pv o2, .fr (.int m), .lv (.lst (ss.map A.str)), .fr (.str z1), x4] = some (.nx, [.pv o4, .fr (.int m), .lv (.lst (ss.map A.str)), .fr (.str z), x4]) ∧ z.length ≤ 20 * ss.length + 1 ∧ Wl (n + 300 * ss.length + 202) o4 := by
          have lpos : 1 ≤ ss.length := List.length_pos_iff.mpr hne
          by_cases hr : r3 = 0
          · obtain ⟨r4, o4, c4, a4, b4, w4⟩ := tk 4 w3 (by omega) (by decide) (by decide)
            have h4' : (("a0.z" : Str).cps.toList.length : Int) = 4 := by decide +kernel
            obtain ⟨ch, hch⟩ := at_str (z := "a0.z") a4 (by omega)
            obtain ⟨pre, last, epl⟩ : ∃ pre last, ss = pre ++ [last] := ⟨ss.dropLast, ss.getLast hne, (List.dropLast_concat_getLast hne).symm⟩
            have hat : atI (ss.map A.str) (-1) = some (.str last) := by rw [epl, List.map_append]; exact atI_m1 _ _
            have hlast : last.length ≤ 20 * ss.length := hlz last (by rw [epl]; simp)
            have hl1 : (("a0.z" : Str).length ≤ 100000) = True := by simp only [eq_iff_iff, iff_true]; decide +kernel
            have hl2 : (last.length + (⟨#[ch]⟩ : Str).length ≤ 100000) = True := by
              simp only [eq_iff_iff, iff_true]
              show last.length + 1 ≤ 100000
              omega
            have hl3 : ((last ++ (⟨#[ch]⟩ : Str)).length ≤ 100000) = True := by
              simp only [eq_iff_iff, iff_true]
              rw [app_len]
              show last.length + 1 ≤ 100000
              omega
            have hng : (-1 : Int) = -1 := rfl
            refine ⟨Txt.slice (last ++ ⟨#[ch]⟩) none (some 20), o4, ?_, ?_, w4.mono (by omega)⟩
            · subst hr
              clear h4' a4 b4 w4 a3 b3 w3 a2 b2 w2 hlz hle hnd wz h3 hlast epl lpos w w1 c1 a1 b1 hne hlt
              walk_at "ev"
              simp only [c3]
              walk_at "ev"
              simp only [fSl]
              walk_at "evh"
            · have := Txt.slice_le (last ++ ⟨#[ch]⟩) none (some 20)
              rw [app_len] at this
              have e1 : (⟨#[ch]⟩ : Str).length = 1 := rfl
              omega
          · have d0 : decide (r3 = 0) = false := decide_eq_false hr
            refine ⟨z1, o3, ?_, by omega, w3.mono (by omega)⟩
            clear a3 b3 w3 a2 b2 w2 hlz hle hnd wz h3 w w1 c1 a1 b1 hne hlt lpos hr
            walk_at "evh"
        obtain ⟨ρ5, hw5, z5, t5, rfl, hn5, lz5⟩ := while_ind (t := mTest (mOp (fOr (fInL false) (fInD false)) (mVar 3) (mVar 2))) (n := BIG)
          (b := (sSeq (sSet 3 (mOp fAdd (mOp fAdd (mSl (mVar 3) mNoPart (mPart (mC (.int 18)))) (mOp (fOr fIx fGetD) (mC (.str "0123456789")) (mOp fMod (mVar 4) (mC (.int 10))))) (mOp (fOr fIx fGetD) (mC (.str "abcdefghij")) (mOp fMod (mOp fDiv (mVar 4) (mC (.int 10))) (mC (.int 10)))))) (sSet 4 (mOp fAdd (mVar 4) (mC (.int 1))))))
          (P := fun k ρ => ∃ (z : Str) (t : Nat), ρ = [.pv o4, .fr (.int m), .lv (.lst (ss.map A.str)), .fr (.str z), .fr (.int t)] ∧ t + k ≤ 9 ∧ z.length ≤ 20 * ss.length + 1 + 2 * t ∧ (t = 0 → k = ss.length + 1) ∧ (1 ≤ t → sec z = some (47 + t) ∧ k = mu ss t))
          (Q := fun ρ => ∃ (z : Str) (t : Nat), ρ = [.pv o4, .fr (.int m), .lv (.lst (ss.map A.str)), .fr (.str z), .fr (.int t)] ∧ z ∉ ss ∧ z.length ≤ 20 * ss.length + 19)
          (by
            rintro k ρ ⟨z, t, rfl, htk, hlen, ht0, ht1⟩
            have hf := fInL_str z ss
            by_cases hin : z ∈ ss
            · right
              have ht : t < 9 := by
                by_cases h0 : t = 0
                · omega
                · have := mu_step hin (ht1 (by omega)).1
                  have := (ht1 (by omega)).2
                  omega
              have e1 : ((t : Int)).fmod 10 = t := by rw [Int.fmod_eq_emod_of_nonneg _ (by decide)]; omega
              have e2 : (((t : Int)).fdiv 10).fmod 10 = 0 := by
                rw [Int.fdiv_eq_ediv_of_nonneg _ (by decide), Int.fmod_eq_emod_of_nonneg _ (by decide)]; omega
              have d1 := dig t (by omega)
              have d2 := let0
              have q1 : (z.length ≤ 100000) = True := by simp only [eq_iff_iff, iff_true]; omega
              have sl := Txt.slice_le z none (some 18)
              have q2 : ((Txt.slice z none (some 18)).length + (⟨#[48 + t]⟩ : Str).length ≤ 100000) = True := by
                simp only [eq_iff_iff, iff_true]
                show (Txt.slice z none (some 18)).length + 1 ≤ 100000
                omega
              have q3 : ((Txt.slice z none (some 18) ++ (⟨#[48 + t]⟩ : Str)).length + (⟨#[97]⟩ : Str).length ≤ 100000) = True := by
                simp only [eq_iff_iff, iff_true]
                rw [app_len]
                show (Txt.slice z none (some 18)).length + 1 + 1 ≤ 100000
                omega
              have q4 : (("0123456789" : Str).length ≤ 100000) = True := by simp only [eq_iff_iff, iff_true]; decide +kernel
              have q5 : (("abcdefghij" : Str).length ≤ 100000) = True := by simp only [eq_iff_iff, iff_true]; decide +kernel
              have q6 : ((10 : Int) != 0) = true := by decide
              have q7 : fits 9000 10 = true := bd_fits (m := 64) (show (10 : Int).natAbs < 2 ^ 64 by decide) (by decide)
              have q8 : decide (z ∈ ss) = true := decide_eq_true hin
              refine ⟨[.pv o4, .fr (.int m), .lv (.lst (ss.map A.str)), .fr (.str z), .fr (.int t)], [.pv o4, .fr (.int m), .lv (.lst (ss.map A.str)), .fr (.str ((Txt.slice z none (some 18) ++ ⟨#[48 + t]⟩) ++ ⟨#[97]⟩)), .fr (.int ((t : Int) + 1))], mu ss (t + 1), ?_, .inl ?_, ?_, (Txt.slice z none (some 18) ++ ⟨#[48 + t]⟩) ++ ⟨#[97]⟩, t + 1, by simp, ?_, ?_, fun h => by omega, fun _ => ⟨?_, rfl⟩⟩
              · clear e1 e2 d1 d2 q1 q2 q3 q4 q5 q6 q7 sl ht0 ht1 hlen htk hin
                walk_at "evh"
              · clear hf q8 sl ht0 ht1 hlen htk hin ht
                walk_at "ev"
                simp only [e1, e2, q6, q7, q1, fSl, if_true, Bool.and_self]
                walk_at "evh"
              · by_cases h0 : t = 0
                · have := mu_le ss (t + 1); have := ht0 h0; omega
                · have := mu_step hin (ht1 (by omega)).1
                  rw [(ht1 (by omega)).2]; exact this
              · by_cases h0 : t = 0
                · have := mu_le ss (t + 1); omega
                · have := mu_step hin (ht1 (by omega)).1
                  have := (ht1 (by omega)).2
                  omega
              · rw [app_len, app_len]
                have e3 : (⟨#[48 + t]⟩ : Str).length = 1 := rfl
                have e4 : (⟨#[97]⟩ : Str).length = 1 := rfl
                omega
              · rw [sec_app]
                congr 1
                omega
            · left
              have q8 : decide (z ∈ ss) = false := decide_eq_false hin
              refine ⟨_, ?_, z, t, rfl, hin, by omega⟩
              clear ht0 ht1 hlen htk hin
              walk_at "evh") (k := ss.length + 1) (ρ := [.pv o4, .fr (.int m), .lv (.lst (ss.map A.str)), .fr (.str z), .fr (.int 0)])
          ⟨z, 0, rfl, by omega, by omega, fun _ => rfl, fun h => by omega⟩ (big_gt (Nat.lt_of_le_of_lt (show ss.length + 1 ≤ 9 by omega) (Nat.lt_of_lt_of_le (by decide : 9 < 2 ^ 4) (Nat.pow_le_pow_right (by decide) (by decide)))))
        refine ⟨[.pv oz, .fr (.int m), .lv (.lst (ss.map A.str)), x3, x4], [.pv o4, .fr (.int m), .lv (.lst ((ss ++ [z5]).map A.str)), .fr (.str z5), .fr (.int t5)], 8 - (ss ++ [z5]).length, ?_, .inl ?_, ?_, ss ++ [z5], o4, _, _, rfl, by simp, ?_, ?_, ?_, ?_, (fun q z => by cases z), (fun q z => by cases z), rfl⟩
        · have d0 : decide ((ss.length : Int) < m) = true := decide_eq_true hlt
          have hl : ((ss.map A.str).length : Int) = (ss.length : Int) := by rw [List.length_map]
          clear hw5 hz hle hlz wz h3 h4 hnd hlt w w1 c1 a1 b1 w2 w3 w4 c2 c3
          walk_at "evh"
        · have q1 : ((ss.map A.str).length ≤ 100000) = True := by simp only [eq_iff_iff, iff_true, List.length_map]; omega
          have e1 : (ss ++ [z5]).map A.str = ss.map A.str ++ [.str z5] := by rw [List.map_append]; rfl
          have hx3 : (match x3 with | Sl.pv o => none | val => some (Fl.nx, [Sl.pv o2, Sl.fr (A.int m), Sl.lv (LO.lst (List.map A.str ss)), Sl.fr (A.str z1), x4])) = some (Fl.nx, [Sl.pv o2, Sl.fr (A.int m), Sl.lv (LO.lst (List.map A.str ss)), Sl.fr (A.str z1), x4]) := by cases x3 <;> first | rfl | exact absurd rfl (h3 _)
          have s1 : sSet 3 (mCall M__law_name [] (mCons (mVar 0) (mCons (mC (.int 20)) mNil))) [.pv oz, .fr (.int m), .lv (.lst (ss.map A.str)), x3, x4] = some (.nx, [.pv o2, .fr (.int m), .lv (.lst (ss.map A.str)), .fr (.str z1), x4]) := by
            clear hw5 hz
            walk_at "ev"
            simp only [c2]
            cases x3 <;> first | rfl | exact absurd rfl (h3 _)
          have s2 : sSet 4 (mC (.int 0)) [.pv o4, .fr (.int m), .lv (.lst (ss.map A.str)), .fr (.str z), x4] = some (.nx, [.pv o4, .fr (.int m), .lv (.lst (ss.map A.str)), .fr (.str z), .fr (.int 0)]) := by
            cases x4 <;> first | rfl | exact absurd rfl (h4 _)
          rw [e_seq, s1]
          simp only
          rw [e_seq, hz]
          simp only
          rw [e_seq, s2]
          simp only
          rw [e_seq, e_while, hw5]
          rw [e1]
          clear hw5 hz s1 s2 hx3 e1
          walk_at "evh"
        · rw [List.length_append, List.length_singleton]; omega
        · rw [List.nodup_append]
          exact ⟨hnd, by simp, fun a ha b hb e => by rw [List.mem_singleton.mp hb] at e; exact hn5 (by rw [← e]; exact ha)⟩
        · rw [List.length_append, List.length_singleton]; omega
        · intro y hy
          rw [List.length_append, List.length_singleton]
          rcases List.mem_append.mp hy with h | h
          · have := hlz y h; omega
          · rw [List.mem_singleton.mp h]; omega
        · rw [List.length_append, List.length_singleton]; exact w4.mono (by omega)
      · left
        refine ⟨_, ?_, ss, oz, x3, x4, rfl, hnd, by omega, hlz, wz⟩
        have d0 : decide ((ss.length : Int) < m) = false := decide_eq_false hlt
        have hl : ((ss.map A.str).length : Int) = (ss.length : Int) := by rw [List.length_map]
        clear hle hlz wz h3 h4 hnd hlt w w1 c1 a1 b1
        walk_at "evh") (k := 7) (ρ := [.pv o1, .fr (.int m), .lv (.lst ([z0].map A.str)), .un, .un])
    ⟨[z0], o1, .un, .un, rfl, by simp, by simp, by simp; omega, (fun z hz => by rw [List.mem_singleton.mp hz]; simp; omega), w1.mono (by simp), (fun q z => by cases z), (fun q z => by cases z), rfl⟩ (big_gt (by decide))
  refine ⟨ss, oz, ?_, n1, n2, n3, n4.mono (by omega)⟩
  have l1 : (0 + 1 ≤ 1000) = True := by simp
  clear n1 n2 n3 n4 w w1 a1 b1
  unfold ValW M__law_names m__law_names
  simp only [List.map_cons, List.map_nil] at hw
  walk_at "evh"
  exact ⟨_, rfl⟩
def prA (p : Pr) : A := .tup [.str p.1, nm p.2]
def sumA (x : Num) (L : List Pr) : A := .tup [nm x, .tup (L.map prA)]
def dicOf (ks : List Str) (g : Str → A) : List (Key × A) := ks.map fun n => (Sum.inr n, g n)
theorem getK_dic (ks : List Str) (g : Str → A) (n : Str) : getK (dicOf ks g) (.inr n) = if n ∈ ks then some (g n) else none := by
  unfold getK dicOf
  induction ks with
  | nil => simp
  | cons k ks ih =>
    rw [List.map_cons, List.find?_cons]
    by_cases c : k = n
    · subst c; simp
    · have c1 : decide ((Sum.inr k : Key) = Sum.inr n) = false := decide_eq_false fun z => c (Sum.inr.inj z)
      have c2 : ¬ n = k := fun z => c z.symm
      simp only [c1]
      rw [ih]
      simp [c2]
theorem any_dic (ks : List Str) (g : Str → A) (n : Str) : ((dicOf ks g).any fun kv => decide (kv.1 = Sum.inr n)) = decide (n ∈ ks) := by
  unfold dicOf
  induction ks with
  | nil => simp
  | cons k ks ih =>
    rw [List.map_cons, List.any_cons, ih]
    by_cases c : k = n
    · subst c; simp
    · have c1 : decide ((Sum.inr k : Key) = Sum.inr n) = false := decide_eq_false fun z => c (Sum.inr.inj z)
      have c2 : ¬ n = k := fun z => c z.symm
      simp only [c1, Bool.false_or, List.mem_cons, c2, false_or]
theorem putA_dic (ks : List Str) (g : Str → A) (n : Str) (a : A) : putA (dicOf ks g) (.inr n) a = dicOf (if n ∈ ks then ks else ks ++ [n]) (fun m => if m = n then a else g m) := by
  unfold putA
  rw [any_dic]
  by_cases c : n ∈ ks
  · rw [if_pos (decide_eq_true c), if_pos c]
    unfold dicOf
    rw [List.map_map]
    refine List.map_congr_left fun m _ => ?_
    show (if (Sum.inr m : Key) = Sum.inr n then (Sum.inr m, a) else (Sum.inr m, g m)) = (Sum.inr m, if m = n then a else g m)
    by_cases z : m = n
    · subst z; simp
    · rw [if_neg (fun e => z (Sum.inr.inj e)), if_neg z]
  · rw [if_neg (by simpa using c), if_neg c]
    unfold dicOf
    rw [List.map_append]
    congr 1
    · refine List.map_congr_left fun m hm => ?_
      show (Sum.inr m, g m) = (Sum.inr m, if m = n then a else g m)
      rw [if_neg fun e : m = n => c (by rw [← e]; exact hm)]
    · simp
theorem strKeys_dic (ks : List Str) (g : Str → A) : strKeys (dicOf ks g) = some ks := by
  unfold dicOf
  induction ks with
  | nil => rfl
  | cons k ks ih => rw [List.map_cons, strKeys, ih]
theorem dicOf_len (ks : List Str) (g : Str → A) : (dicOf ks g).length = ks.length := by unfold dicOf; rw [List.length_map]
theorem dicOf_congr {ks : List Str} {g g' : Str → A} (h : ∀ n ∈ ks, g n = g' n) : dicOf ks g = dicOf ks g' := List.map_congr_left fun n hn => by rw [h n hn]
theorem tot_out {ps : List Pr} {n : Str} (h : ∀ p ∈ ps, p.1 ≠ n) : tot ps n = (0, 1) := by
  revert h
  refine snoc_ind (M := fun ps : List Pr => (∀ p ∈ ps, p.1 ≠ n) → tot ps n = (0, 1)) (fun _ => rfl) (fun l a ih h => ?_) ps
  rw [tot_snoc, if_neg (h a (by simp)), ih fun p hp => h p (List.mem_append_left _ hp)]
theorem take_snoc {α : Type} {l : List α} {i : Nat} {a : α} (h : l[i]? = some a) : l.take (i + 1) = l.take i ++ [a] := by rw [List.take_add_one, h]; rfl
theorem cnt_take (ps : List Pr) (i : Nat) (n : Str) : cnt (ps.take i) n ≤ cnt ps n := List.Sublist.countP_le (List.take_sublist _ _)
def nz (ps : List Pr) (n : Str) : Bool := !decide (tot ps n = (0, 1))
def canonL (ps : List Pr) (ss : List Str) : List Pr := (ss.filter (nz ps)).map fun n => (n, tot ps n)
theorem rising {ss : List Str} (h : ss.Pairwise (fun a b => leS a b = true)) (nd : ss.Nodup) : ss.Pairwise SLt :=
  h.imp₂ (fun a b h1 h2 => ⟨by rw [leS_eq, decide_eq_true_eq] at h1; exact h1, h2⟩) nd
theorem canon_of {ps : List Pr} {ks : List Str} (nd : ks.Nodup) (hk : ∀ n, n ∈ ks ↔ ∃ p ∈ ps, p.1 = n) : Canon ps (canonL ps (sortS ks)) := by
  have hr := rising (sortS_pw ks) ((sortS_perm ks).nodup_iff.mpr nd)
  refine ⟨List.pairwise_map.mpr (hr.sublist List.filter_sublist), fun p => ?_⟩
  unfold canonL
  rw [List.mem_map]
  constructor
  · rintro ⟨n, hn, rfl⟩
    have := (List.mem_filter.mp hn).2
    exact ⟨rfl, by simpa [nz] using this⟩
  · rintro ⟨e, n0⟩
    refine ⟨p.1, List.mem_filter.mpr ⟨(sortS_perm ks).mem_iff.mpr ((hk p.1).mpr ?_), by unfold nz; rw [← e, decide_eq_false n0]; rfl⟩, Prod.ext rfl e.symm⟩
    by_cases c : ∃ q ∈ ps, q.1 = p.1
    · exact c
    · exact absurd (e.trans (tot_out fun q hq z => c ⟨q, hq, z⟩)) n0
theorem v_sum_of {x : Num} {ps : List Pr} {sq : A} {b c : Nat} (hsq : seqA sq = some (ps.map prA)) (nb : ∀ p ∈ ps, NB b p.2) (cn : ∀ n, cnt ps n ≤ c) (hbc : (b + 1) * c + 1 ≤ 4000) (hb : b ≤ 4000) (hl : ps.length ≤ 60) :
    ∃ L, Val M_sum_of [nm x, sq] (sumA x L) ∧ Canon ps L ∧ L.length ≤ ps.length := by
  obtain ⟨ρ1, hf, ks, x3, x4, rfl, nd, hk, kl, h3, h4⟩ := forL_ind (G := gOrM (gTupM 2 (gsCons (gPut 3) (gsCons (gPut 4) gsNil))) (gLstM 2 (gsCons (gPut 3) (gsCons (gPut 4) gsNil)))) (b := sSetD 2 (mVar 3) (mCall M_plus [] (mCons (mGet2 (mVar 2) (mVar 3) (mC (.tup [(.int 0), (.int 1)]))) (mCons (mVarF 4) mNil)))) (as := ps.map prA)
    (fun i ρ => ∃ (ks : List Str) (x3 x4 : Sl), ρ = [.fr (nm x), .fr sq, .lv (.dic (dicOf ks fun n => nm (tot (ps.take i) n))), x3, x4] ∧ ks.Nodup ∧ (∀ n, n ∈ ks ↔ ∃ p ∈ ps.take i, p.1 = n) ∧ ks.length ≤ i ∧ (∀ q, x3 ≠ Sl.pv q) ∧ (∀ q, x4 ≠ Sl.pv q))
    (ρ := [.fr (nm x), .fr sq, .lv (.dic []), .un, .un]) ⟨[], .un, .un, rfl, .nil, by simp, by simp, (fun q z => by cases z), (fun q z => by cases z)⟩ (by
      rintro i a ρ ha ⟨ks, x3, x4, rfl, nd, hk, kl, h3, h4⟩
      obtain ⟨p, hp, rfl⟩ : ∃ p, ps[i]? = some p ∧ prA p = a := by
        rw [List.getElem?_map] at ha
        cases e : ps[i]? with
        | none => rw [e] at ha; cases ha
        | some p => rw [e] at ha; exact ⟨p, rfl, Option.some.inj ha⟩
      obtain ⟨n, y⟩ := p
      have hpm := List.mem_of_getElem? hp
      have ny := nb _ hpm
      have nt : NB ((b + 1) * c + 1) (tot (ps.take i) n) := (tot_nb (fun p hp => nb p (List.mem_of_mem_take hp)) n).mono (by have := Nat.mul_le_mul_left (b + 1) (Nat.le_trans (cnt_take ps i n) (cn n)); omega)
      have li : i < ps.length := (List.getElem?_eq_some_iff.mp hp).1
      have e1 : tot (ps.take (i + 1)) n = nAdd (tot (ps.take i) n) y := by rw [take_snoc hp, tot_snoc, if_pos rfl]
      have e2 : ∀ m, m ≠ n → tot (ps.take (i + 1)) m = tot (ps.take i) m := fun m hm => by rw [take_snoc hp, tot_snoc, if_neg (fun z => hm z.symm)]
      have kp := callK_V (v_plus (n := max ((b + 1) * c + 1) b) (nt.mono (Nat.le_max_left _ _)) (ny.mono (Nat.le_max_right _ _)) (by omega))
      simp only [List.map_cons, List.map_nil] at kp
      have hg := getK_dic ks (fun n => nm (tot (ps.take i) n)) n
      have hpt := putA_dic ks (fun n => nm (tot (ps.take i) n)) n (nm (nAdd (tot (ps.take i) n) y))
      have hd : dicOf (if n ∈ ks then ks else ks ++ [n]) (fun m => if m = n then nm (nAdd (tot (ps.take i) n) y) else nm (tot (ps.take i) m)) = dicOf (if n ∈ ks then ks else ks ++ [n]) (fun n => nm (tot (ps.take (i + 1)) n)) := dicOf_congr fun m _ => by
        by_cases z : m = n
        · subst z; rw [if_pos rfl, e1]
        · rw [if_neg z, e2 m z]
      rw [hd] at hpt
      have hlen : ((dicOf ks fun n => nm (tot (ps.take i) n)).length ≤ 100000) = True := by simp only [eq_iff_iff, iff_true, dicOf_len]; omega
      refine ⟨[.fr (nm x), .fr sq, .lv (.dic (dicOf ks fun n => nm (tot (ps.take i) n))), .fr (.str n), .fr (nm y)], [.fr (nm x), .fr sq, .lv (.dic (dicOf (if n ∈ ks then ks else ks ++ [n]) fun n => nm (tot (ps.take (i + 1)) n))), .fr (.str n), .fr (nm y)], ?_, .inl ?_, if n ∈ ks then ks else ks ++ [n], .fr (.str n), .fr (nm y), rfl, ?_, ?_, ?_, (fun q z => by cases z), (fun q z => by cases z)⟩
      · simp only [prA]
        cases x3 <;> first | exact absurd rfl (h3 _) | (cases x4 <;> first | exact absurd rfl (h4 _) | rfl)
      · by_cases z : n ∈ ks
        · rw [if_pos z] at hg
          clear ha hk h3 h4 kl nd nt ny hpm hp e1 e2 hd nb cn
          walk_at "evh"
        · rw [if_neg z] at hg
          have et : A.tup [.int 0, .int 1] = nm (tot (ps.take i) n) := by rw [tot_out fun p hp e => z ((hk n).mpr ⟨p, hp, e⟩)]; rfl
          clear ha hk h3 h4 kl nd nt ny hpm hp e1 e2 hd nb cn
          walk_at "evh"
      · split
        · exact nd
        · rename_i z
          rw [List.nodup_append]
          exact ⟨nd, by simp, fun a ha b hb e => by rw [List.mem_singleton.mp hb] at e; exact z (by rw [← e]; exact ha)⟩
      · intro m
        rw [take_snoc hp]
        constructor
        · intro hm
          by_cases c : n ∈ ks
          · rw [if_pos c] at hm
            obtain ⟨p, h1, h2⟩ := (hk m).mp hm
            exact ⟨p, List.mem_append_left _ h1, h2⟩
          · rw [if_neg c] at hm
            rcases List.mem_append.mp hm with z | z
            · obtain ⟨p, h1, h2⟩ := (hk m).mp z
              exact ⟨p, List.mem_append_left _ h1, h2⟩
            · exact ⟨(n, y), by simp, (List.mem_singleton.mp z).symm⟩
        · rintro ⟨p, h1, h2⟩
          rcases List.mem_append.mp h1 with z | z
          · have := (hk m).mpr ⟨p, z, h2⟩
            split
            · exact this
            · exact List.mem_append_left _ this
          · rw [List.mem_singleton.mp z] at h2
            have h2 : n = m := h2
            subst h2
            split
            · assumption
            · simp
      · split
        · omega
        · rw [List.length_append]; simp; omega)
  rw [List.length_map] at hk kl
  rw [List.length_map, List.take_length] at hf
  rw [List.take_length] at hk
  obtain ⟨ys, ρ2, hc, x5, rfl, rfl, _⟩ := compL_ind (G := gPut 5) (t := mTest (mOp fNe (mOp (fOr fIx fGetD) (mVar 2) (mVar 5)) (mC (.tup [(.int 0), (.int 1)])))) (e := mTup (mCons (mVar 5) (mCons (mOp (fOr fIx fGetD) (mVar 2) (mVar 5)) mNil))) (as := (sortS ks).map A.str)
    (fun j acc ρ => ∃ x5 : Sl, acc = (canonL ps ((sortS ks).take j)).map prA ∧ ρ = [.fr (nm x), .fr sq, .lv (.dic (dicOf ks fun n => nm (tot ps n))), x3, x4, x5] ∧ ∀ q, x5 ≠ Sl.pv q)
    (ρ := [.fr (nm x), .fr sq, .lv (.dic (dicOf ks fun n => nm (tot ps n))), x3, x4, .un]) ⟨.un, rfl, rfl, fun q z => by cases z⟩ (by
      rintro j a acc ρ ha ⟨x5, rfl, rfl, h5⟩
      obtain ⟨n, hn, rfl⟩ : ∃ n, (sortS ks)[j]? = some n ∧ A.str n = a := by
        rw [List.getElem?_map] at ha
        cases e : (sortS ks)[j]? with
        | none => rw [e] at ha; cases ha
        | some p => rw [e] at ha; exact ⟨p, rfl, Option.some.inj ha⟩
      have hin : n ∈ ks := (sortS_perm ks).mem_iff.mp (List.mem_of_getElem? hn)
      have hg := getK_dic ks (fun n => nm (tot ps n)) n
      rw [if_pos hin] at hg
      have hq : eqA (nm (tot ps n)) (.tup [.int 0, .int 1]) = some (decide (tot ps n = (0, 1))) := eqA_nm _ (0, 1)
      have ec : canonL ps ((sortS ks).take (j + 1)) = canonL ps ((sortS ks).take j) ++ (if nz ps n = true then [(n, tot ps n)] else []) := by
        unfold canonL
        rw [take_snoc hn, List.filter_append, List.map_append]
        by_cases c : nz ps n = true <;> simp [c]
      refine ⟨[.fr (nm x), .fr sq, .lv (.dic (dicOf ks fun n => nm (tot ps n))), x3, x4, .fr (.str n)], by cases x5 <;> first | rfl | exact absurd rfl (h5 _), ?_⟩
      by_cases c : tot ps n = (0, 1)
      · right
        have d1 : decide (tot ps n = (0, 1)) = true := decide_eq_true c
        refine ⟨[.fr (nm x), .fr sq, .lv (.dic (dicOf ks fun n => nm (tot ps n))), x3, x4, .fr (.str n)], ?_, .fr (.str n), ?_, rfl, fun q z => by cases z⟩
        · clear ha hin hn ec hf hk h3 h4 h5 kl nd nb cn c
          walk_at "evh"
        · rw [ec, if_neg (by unfold nz; rw [d1]; decide), List.append_nil]
      · left
        have d1 : decide (tot ps n = (0, 1)) = false := decide_eq_false c
        refine ⟨[.fr (nm x), .fr sq, .lv (.dic (dicOf ks fun n => nm (tot ps n))), x3, x4, .fr (.str n)], .fr (prA (n, tot ps n)), [.fr (nm x), .fr sq, .lv (.dic (dicOf ks fun n => nm (tot ps n))), x3, x4, .fr (.str n)], prA (n, tot ps n), [.fr (nm x), .fr sq, .lv (.dic (dicOf ks fun n => nm (tot ps n))), x3, x4, .fr (.str n)], ?_, ?_, rfl, .fr (.str n), ?_, rfl, fun q z => by cases z⟩
        · clear ha hin hn ec hf hk h3 h4 h5 kl nd nb cn c
          walk_at "evh"
        · simp only [prA]
          clear ha hin hn ec hf hk h3 h4 h5 kl nd nb cn c
          walk_at "evh"
        · rw [ec, if_pos (by unfold nz; rw [d1]; decide), List.map_append]; rfl)
  have lks : (sortS ks).length = ks.length := (sortS_perm ks).length_eq
  have cl : (canonL ps (sortS ks)).length ≤ ps.length := by
    unfold canonL
    rw [List.length_map]
    have e1 := List.length_filter_le (nz ps) (sortS ks)
    omega
  rw [List.length_map, List.take_length] at hc
  refine ⟨canonL ps (sortS ks), ?_, canon_of nd hk, cl⟩
  have k1 : (((sortS ks).map A.str).length ≤ 100000) = True := by simp only [eq_iff_iff, iff_true, List.length_map]; omega
  have k2 := strKeys_dic ks (fun n => nm (tot ps n))
  have k3 : (ks.length < 64) = True := by simp only [eq_iff_iff, iff_true]; omega
  have k4 : (0 + 1 + 1 ≤ 1000) = True := by simp
  have k5 : fSortedL (.dic (dicOf ks fun n => nm (tot ps n))) = none := rfl
  have k7 : fSortedD (.dic (dicOf ks fun n => nm (tot ps n))) = some (.nw (.lst ((sortS ks).map A.str))) := by
    unfold fSortedD
    simp only [k2, k3, if_true]
  have k6 : (((canonL ps (sortS ks)).map prA).length ≤ 100000) = True := by simp only [eq_iff_iff, iff_true, List.length_map]; omega
  clear nb cn hbc hb hl nd hk kl h3 h4 lks k2 k3 cl
  have hs : sq = .lst (ps.map prA) ∨ sq = .tup (ps.map prA) := by
    cases sq <;> first | (cases hsq; done) | skip
    · exact .inr (by rw [Option.some.inj hsq])
    · exact .inl (by rw [Option.some.inj hsq])
  clear hsq
  unfold Val M_sum_of m_sum_of sumA
  simp only [List.map_cons, List.map_nil]
  rcases hs with hs | hs
  all_goals
    subst hs
    walk_at "evh"
    simp only [compK, k1, if_true, List.replicate_succ, List.replicate_zero, List.cons_append, List.nil_append, List.append_nil]
    rw [hc]
    simp only [List.length_cons, List.length_nil, List.take_succ_cons, List.take_zero, k4]
    exact ⟨_, rfl⟩
structure Sm (b l : Nat) (ss : List Str) (x : Num) (L : List Pr) : Prop where
  x : NB b x
  rise : L.Pairwise (fun a b => SLt a.1 b.1)
  nb : ∀ p ∈ L, NB b p.2
  nz : ∀ p ∈ L, p.2 ≠ (0, 1)
  len : L.length ≤ l
  nms : ∀ p ∈ L, p.1 ∈ ss
theorem Sm.oks {b l : Nat} {ss : List Str} {x : Num} {L : List Pr} (h : Sm b l ss x L) : ∀ p ∈ L, Ok p.2 := fun p hp => (h.nb p hp).ok
theorem canon_self {L : List Pr} (r : L.Pairwise (fun a b => SLt a.1 b.1)) (oL : ∀ p ∈ L, Ok p.2) (z : ∀ p ∈ L, p.2 ≠ (0, 1)) : Canon L L := by
  obtain ⟨r1, r2⟩ := rsum_rise r
  refine ⟨r, fun p => ⟨fun hp => ⟨?_, z p hp⟩, fun ⟨e, n⟩ => ?_⟩⟩
  · exact nv_eq (oL p hp) (tot_ok oL _) (by rw [nv_tot oL, r1 p hp])
  · by_cases c : ∃ q ∈ L, q.1 = p.1
    · obtain ⟨q, hq, e2⟩ := c
      have : q.2 = p.2 := by
        rw [e]
        exact nv_eq (oL q hq) (tot_ok oL _) (by rw [nv_tot oL, ← e2, r1 q hq])
      rw [show p = q from Prod.ext e2.symm this.symm]
      exact hq
    · refine absurd ?_ n
      rw [e]
      exact nv_eq (tot_ok oL _) ok_zero (by rw [nv_tot oL, nv_zero]; exact r2 _ fun q hq z => c ⟨q, hq, z⟩)
theorem Sm.ext {b l b' l' : Nat} {ss ss' : List Str} {x y : Num} {L M : List Pr} (h : Sm b l ss x L) (k : Sm b' l' ss' y M) (e : nv x = nv y) (er : ∀ n, rsum L n = rsum M n) : sumA x L = sumA y M := by
  have e1 : x = y := nv_eq h.x.ok k.x.ok e
  have c1 := canon_self h.rise h.oks h.nz
  have c2 := canon_self k.rise k.oks k.nz
  have : L = M := rows_eq h.rise k.rise fun p => by rw [c1.mem, c2.mem, show tot L p.1 = tot M p.1 from nv_eq (tot_ok h.oks _) (tot_ok k.oks _) (by rw [nv_tot h.oks, nv_tot k.oks, er])]
  rw [e1, this]
theorem rsum_canon {ps L : List Pr} (o : ∀ p ∈ ps, Ok p.2) (h : Canon ps L) (n : Str) : rsum L n = rsum ps n := by
  obtain ⟨r1, r2⟩ := rsum_rise h.rise
  by_cases c : ∃ q ∈ L, q.1 = n
  · obtain ⟨q, hq, rfl⟩ := c
    rw [r1 q hq, ((h.mem q).mp hq).1, nv_tot o]
  · rw [r2 n fun p hp e => c ⟨p, hp, e⟩]
    by_cases z : tot ps n = (0, 1)
    · rw [← nv_tot o, z, nv_zero]
    · exact absurd ⟨(n, tot ps n), (h.mem (n, tot ps n)).mpr ⟨rfl, z⟩, rfl⟩ c
theorem Sm.of {b b' c l : Nat} {ss : List Str} {x : Num} {ps L : List Pr} (hx : NB b' x) (nb : ∀ p ∈ ps, NB b p.2) (cn : ∀ n, cnt ps n ≤ c) (hb : (b + 1) * c + 1 ≤ b') (hl : ps.length ≤ l) (hs : ∀ p ∈ ps, p.1 ∈ ss) (hc : Canon ps L) (ll : L.length ≤ ps.length) : Sm b' l ss x L ∧ ∀ n, rsum L n = rsum ps n := by
  refine ⟨⟨hx, hc.rise, fun p hp => ?_, fun p hp => ((hc.mem p).mp hp).2, by omega, fun p hp => ?_⟩, rsum_canon (fun p hp => (nb p hp).ok) hc⟩
  · rw [((hc.mem p).mp hp).1]
    exact (tot_nb nb p.1).mono (by have := Nat.mul_le_mul_left (b + 1) (cn p.1); omega)
  · by_cases z : ∃ q ∈ ps, q.1 = p.1
    · obtain ⟨q, hq, e⟩ := z
      rw [← e]; exact hs q hq
    · obtain ⟨e, n⟩ := (hc.mem p).mp hp
      exact absurd (e.trans (tot_out fun q hq e2 => z ⟨q, hq, e2⟩)) n
theorem rsum_mul {L : List Pr} {f : Num} (o : ∀ p ∈ L, Ok p.2) (hf : Ok f) (n : Str) : rsum (L.map fun p => (p.1, nMul p.2 f)) n = rsum L n * nv f := by
  induction L with
  | nil => show (0 : Rat) = 0 * nv f; grind
  | cons p L ih =>
    show (if p.1 = n then nv (nMul p.2 f) else 0) + rsum (L.map fun p => (p.1, nMul p.2 f)) n = ((if p.1 = n then nv p.2 else 0) + rsum L n) * nv f
    rw [ih fun q hq => o q (List.mem_cons_of_mem _ hq), nv_mul (o p (by simp)) hf]
    split <;> grind
theorem cnt_map {L : List Pr} (g : Pr → Pr) (hg : ∀ p, (g p).1 = p.1) (n : Str) : cnt (L.map g) n = cnt L n := by
  unfold cnt
  rw [List.countP_map]
  congr 1
  funext p
  simp [hg]
theorem cnt_app (L M : List Pr) (n : Str) : cnt (L ++ M) n = cnt L n + cnt M n := List.countP_append
def Sg (f : Str → Rat) : List Str → Rat
  | [] => 0
  | n :: ss => f n + Sg f ss
def atR (h : Str → Rat) : List Pr → Rat
  | [] => 0
  | p :: L => nv p.2 * h p.1 + atR h L
theorem atR_app (h : Str → Rat) (L M : List Pr) : atR h (L ++ M) = atR h L + atR h M := by
  induction L with
  | nil => show atR h M = 0 + atR h M; grind
  | cons p L ih => show nv p.2 * h p.1 + atR h (L ++ M) = nv p.2 * h p.1 + atR h L + atR h M; rw [ih]; grind
theorem Sg_add (f g : Str → Rat) (ss : List Str) : Sg (fun n => f n + g n) ss = Sg f ss + Sg g ss := by
  induction ss with
  | nil => show (0 : Rat) = 0 + 0; grind
  | cons n ss ih => show f n + g n + Sg (fun n => f n + g n) ss = f n + Sg f ss + (g n + Sg g ss); rw [ih]; grind
theorem Sg_mul (f : Str → Rat) (c : Rat) (ss : List Str) : Sg (fun n => f n * c) ss = Sg f ss * c := by
  induction ss with
  | nil => show (0 : Rat) = 0 * c; grind
  | cons n ss ih => show f n * c + Sg (fun n => f n * c) ss = (f n + Sg f ss) * c; rw [ih]; grind
theorem Sg_zero (f : Str → Rat) (ss : List Str) (h : ∀ n ∈ ss, f n = 0) : Sg f ss = 0 := by
  induction ss with
  | nil => rfl
  | cons n ss ih => show f n + Sg f ss = 0; rw [ih fun m hm => h m (List.mem_cons_of_mem _ hm), h n (by simp)]; grind
theorem Sg_congr {f g : Str → Rat} {ss : List Str} (h : ∀ n ∈ ss, f n = g n) : Sg f ss = Sg g ss := by
  induction ss with
  | nil => rfl
  | cons n ss ih => show f n + Sg f ss = g n + Sg g ss; rw [ih fun m hm => h m (List.mem_cons_of_mem _ hm), h n (by simp)]
theorem Sg_one {ss : List Str} (nd : ss.Nodup) {m : Str} (hm : m ∈ ss) (v : Rat) (h : Str → Rat) : Sg (fun n => (if m = n then v else 0) * h n) ss = v * h m := by
  induction ss with
  | nil => cases hm
  | cons k ss ih =>
    rw [List.nodup_cons] at nd
    show (if m = k then v else 0) * h k + Sg (fun n => (if m = n then v else 0) * h n) ss = v * h m
    by_cases c : m = k
    · subst c
      rw [Sg_zero _ ss fun n hn => ?_, if_pos rfl]
      · grind
      · rw [if_neg fun e : m = n => nd.1 (by rw [e]; exact hn)]; grind
    · rw [ih nd.2 ((List.mem_cons.mp hm).resolve_left c), if_neg c]; grind
theorem at_eq {ss : List Str} (nd : ss.Nodup) (h : Str → Rat) {L : List Pr} (hs : ∀ p ∈ L, p.1 ∈ ss) : atR h L = Sg (fun n => rsum L n * h n) ss := by
  induction L with
  | nil => rw [Sg_zero]; · rfl
           · intro n _; show (0 : Rat) * h n = 0; grind
  | cons p L ih =>
    have e : (fun n => rsum (p :: L) n * h n) = fun n => (if p.1 = n then nv p.2 else 0) * h n + rsum L n * h n := by
      funext n
      show ((if p.1 = n then nv p.2 else 0) + rsum L n) * h n = _
      grind
    rw [e, Sg_add, Sg_one nd (hs p (by simp)), ← ih fun q hq => hs q (List.mem_cons_of_mem _ hq)]
    rfl
theorem at_add {ss : List Str} (nd : ss.Nodup) (h : Str → Rat) {L M N : List Pr} (hL : ∀ p ∈ L, p.1 ∈ ss) (hM : ∀ p ∈ M, p.1 ∈ ss) (hN : ∀ p ∈ N, p.1 ∈ ss) (e : ∀ n, rsum N n = rsum L n + rsum M n) : atR h N = atR h L + atR h M := by
  rw [at_eq nd h hL, at_eq nd h hM, at_eq nd h hN, ← Sg_add]
  exact Sg_congr fun n _ => by rw [e n]; grind
theorem at_mul {ss : List Str} (nd : ss.Nodup) (h : Str → Rat) {L N : List Pr} {c : Rat} (hL : ∀ p ∈ L, p.1 ∈ ss) (hN : ∀ p ∈ N, p.1 ∈ ss) (e : ∀ n, rsum N n = rsum L n * c) : atR h N = atR h L * c := by
  rw [at_eq nd h hL, at_eq nd h hN, ← Sg_mul]
  exact Sg_congr fun n _ => by rw [e n]; grind
theorem c_sum_of {b b' c l : Nat} {ss : List Str} {x : Num} {ps : List Pr} {sq : A} (hsq : seqA sq = some (ps.map prA)) (hx : NB b' x) (nb : ∀ p ∈ ps, NB b p.2) (cn : ∀ n, cnt ps n ≤ c) (hb : (b + 1) * c + 1 ≤ b') (hl : ps.length ≤ l) (hs : ∀ p ∈ ps, p.1 ∈ ss) (h4 : b' ≤ 4000) (hb4 : b ≤ 4000) (hl6 : l ≤ 60) :
    ∃ L, Val M_sum_of [nm x, sq] (sumA x L) ∧ Sm b' l ss x L ∧ ∀ n, rsum L n = rsum ps n := by
  obtain ⟨L, v, hc, ll⟩ := v_sum_of (x := x) hsq nb cn (by omega) hb4 (by omega)
  obtain ⟨s, e⟩ := Sm.of (ss := ss) hx nb cn hb hl hs hc ll
  exact ⟨L, v, s, e⟩
theorem v_sum_plus {b l l' : Nat} {ss : List Str} {x y : Num} {L M : List Pr} (h : Sm b l ss x L) (k : Sm b l' ss y M) (hb : 2 * b + 3 ≤ 4000) (hl : l + l' ≤ 60) :
    ∃ N, Val M_sum_plus [sumA x L, sumA y M] (sumA (nAdd x y) N) ∧ Sm (2 * b + 3) (l + l') ss (nAdd x y) N ∧ ∀ n, rsum N n = rsum L n + rsum M n := by
  have hl1 := h.len
  have hl2 := k.len
  obtain ⟨N, v, s, e⟩ := c_sum_of (b := b) (b' := 2 * b + 3) (c := 2) (l := l + l') (ss := ss) (x := nAdd x y) (ps := L ++ M) (sq := .tup (L.map prA ++ M.map prA)) (by rw [List.map_append]; rfl) ((h.x.add k.x).mono (by omega))
    (fun p hp => (List.mem_append.mp hp).elim (h.nb p) (k.nb p)) (fun n => by rw [cnt_app]; have := cnt_self h.rise n; have := cnt_self k.rise n; omega) (by omega) (by rw [List.length_append]; omega)
    (fun p hp => (List.mem_append.mp hp).elim (h.nms p) (k.nms p)) hb (by omega) hl
  refine ⟨N, ?_, s, fun n => by rw [e, rsum_append]⟩
  have k1 := callK_V (v_plus (n := b) h.x k.x (by omega))
  have k2 := callK_V v
  have k3 : ((L.map prA).length + (M.map prA).length ≤ 100000) = True := by simp only [eq_iff_iff, iff_true, List.length_map]; omega
  simp only [List.map_cons, List.map_nil] at k1 k2
  clear v s e h k hl1 hl2 hb hl
  unfold Val M_sum_plus m_sum_plus
  simp only [sumA] at k2 ⊢
  walk_at "evh"
  exact ⟨_, rfl⟩
theorem v_sum_times {b l : Nat} {ss : List Str} {x f : Num} {L : List Pr} (h : Sm b l ss x L) (hf : NB b f) (hb : 2 * b + 3 ≤ 4000) (hl : l ≤ 60) :
    ∃ N, Val M_sum_times [sumA x L, nm f] (sumA (nMul x f) N) ∧ Sm (2 * b + 3) l ss (nMul x f) N ∧ ∀ n, rsum N n = rsum L n * nv f := by
  have hl1 := h.len
  obtain ⟨N, v, s, e⟩ := c_sum_of (b := 2 * b + 1) (b' := 2 * b + 3) (c := 1) (l := l) (ss := ss) (x := nMul x f) (ps := L.map fun p => (p.1, nMul p.2 f)) (sq := .lst ((L.map fun p => (p.1, nMul p.2 f)).map prA)) rfl ((h.x.mul hf).mono (by omega))
    (fun p hp => by obtain ⟨q, hq, rfl⟩ := List.mem_map.mp hp; exact (h.nb q hq).mul hf) (fun n => by rw [cnt_map (fun p => (p.1, nMul p.2 f)) (fun _ => rfl)]; exact cnt_self h.rise n) (by omega) (by rw [List.length_map]; omega)
    (fun p hp => by obtain ⟨q, hq, rfl⟩ := List.mem_map.mp hp; exact h.nms q hq) hb (by omega) hl
  refine ⟨N, ?_, s, fun n => by rw [e, rsum_mul h.oks hf.ok]⟩
  obtain ⟨ys, ρ2, hc, x2, x3, rfl, rfl, _, _⟩ := compL_ind (G := gOrM (gTupM 2 (gsCons (gPut 2) (gsCons (gPut 3) gsNil))) (gLstM 2 (gsCons (gPut 2) (gsCons (gPut 3) gsNil)))) (t := mTrue) (e := mTup (mCons (mVar 2) (mCons (mCall M_times [] (mCons (mVarF 3) (mCons (mVarF 1) mNil))) mNil))) (as := L.map prA)
    (fun j acc ρ => ∃ x2 x3 : Sl, acc = ((L.take j).map fun p => (p.1, nMul p.2 f)).map prA ∧ ρ = [.fr (sumA x L), .fr (nm f), x2, x3] ∧ (∀ q, x2 ≠ Sl.pv q) ∧ (∀ q, x3 ≠ Sl.pv q))
    (ρ := [.fr (sumA x L), .fr (nm f), .un, .un]) ⟨.un, .un, rfl, rfl, (fun q z => by cases z), (fun q z => by cases z)⟩ (by
      rintro j a acc ρ ha ⟨x2, x3, rfl, rfl, h2, h3⟩
      obtain ⟨p, hp, rfl⟩ : ∃ p, L[j]? = some p ∧ prA p = a := by
        rw [List.getElem?_map] at ha
        cases e : L[j]? with
        | none => rw [e] at ha; cases ha
        | some p => rw [e] at ha; exact ⟨p, rfl, Option.some.inj ha⟩
      have kt := callK_V (v_times (n := b) (h.nb p (List.mem_of_getElem? hp)) hf (by omega))
      have l2 : (0 + 1 + 1 ≤ 1000) = True := by simp
      simp only [List.map_cons, List.map_nil] at kt
      refine ⟨[.fr (sumA x L), .fr (nm f), .fr (.str p.1), .fr (nm p.2)], ?_, .inl ⟨[.fr (sumA x L), .fr (nm f), .fr (.str p.1), .fr (nm p.2)], .fr (prA (p.1, nMul p.2 f)), [.fr (sumA x L), .fr (nm f), .fr (.str p.1), .fr (nm p.2)], prA (p.1, nMul p.2 f), [.fr (sumA x L), .fr (nm f), .fr (.str p.1), .fr (nm p.2)], rfl, ?_, rfl, .fr (.str p.1), .fr (nm p.2), ?_, rfl, (fun q z => by cases z), (fun q z => by cases z)⟩⟩
      · simp only [prA]
        cases x2 <;> first | exact absurd rfl (h2 _) | (cases x3 <;> first | exact absurd rfl (h3 _) | rfl)
      · simp only [prA]
        clear ha hp h2 h3 h hf s e v
        walk_at "evh"
      · rw [take_snoc hp, List.map_append, List.map_append]; rfl)
  rw [List.length_map, List.take_length] at hc
  have k1 := callK_V (v_times (n := b) h.x hf (by omega))
  have k2 := callK_V v
  have k3 : ((L.map prA).length ≤ 100000) = True := by simp only [eq_iff_iff, iff_true, List.length_map]; omega
  simp only [List.map_cons, List.map_nil] at k1 k2
  clear v s e h hf hl1 hb hl
  unfold Val M_sum_times m_sum_times
  simp only [sumA] at k2 hc ⊢
  walk_at "evh"
  simp only [compK, k3, if_true, List.replicate_succ, List.replicate_zero, List.cons_append, List.nil_append, List.append_nil]
  rw [hc]
  simp only [List.length_cons, List.length_nil, List.take_succ_cons, List.take_zero, k2]
  exact ⟨_, rfl⟩
theorem nb_m1 {b : Nat} (h : 1 ≤ b) : NB b (-1, 1) := (⟨⟨by decide, by decide⟩, show (-1 : Int).natAbs < 2 ^ 1 by decide, show (1 : Int).natAbs < 2 ^ 1 by decide⟩ : NB 1 (-1, 1)).mono h
theorem nv_m1 : nv (-1, 1) = -1 := by decide +kernel
theorem Sm.mono {b b' l l' : Nat} {ss : List Str} {x : Num} {L : List Pr} (h : Sm b l ss x L) (k : b ≤ b') (k' : l ≤ l') : Sm b' l' ss x L := ⟨h.x.mono k, h.rise, fun p hp => (h.nb p hp).mono k, h.nz, by have := h.len; omega, h.nms⟩
theorem v_sum_minus {b l l' : Nat} {ss : List Str} {x y : Num} {L M : List Pr} (h : Sm b l ss x L) (k : Sm b l' ss y M) (b1 : 1 ≤ b) (hb : 4 * b + 9 ≤ 4000) (hl : l + l' ≤ 60) :
    ∃ N, Val M_sum_minus [sumA x L, sumA y M] (sumA (nAdd x (nMul y (-1, 1))) N) ∧ Sm (4 * b + 9) (l + l') ss (nAdd x (nMul y (-1, 1))) N ∧ ∀ n, rsum N n = rsum L n - rsum M n := by
  obtain ⟨N1, v1, s1, e1⟩ := v_sum_times k (nb_m1 b1) (by omega) (by omega)
  obtain ⟨N, v, s, e⟩ := v_sum_plus (h.mono (show b ≤ 2 * b + 3 by omega) (Nat.le_refl l)) s1 (by omega) hl
  refine ⟨N, ?_, s.mono (by omega) (Nat.le_refl _), fun n => by rw [e, e1, nv_m1]; grind⟩
  have k1 := callK_V v1
  have k2 := callK_V v
  simp only [List.map_cons, List.map_nil, nm] at k1 k2
  clear v v1 s s1 e e1 h k hb hl
  unfold Val M_sum_minus m_sum_minus
  simp only [List.map_cons, List.map_nil]
  walk_at "evh"
  exact ⟨_, rfl⟩
theorem divInt_add (t d a b c e : Int) (hd : d ≠ 0) (hb : b ≠ 0) (he : e ≠ 0) : Rat.divInt (t * b * e + a * c * d) (d * b * e) = Rat.divInt t d + Rat.divInt a b * Rat.divInt c e := by
  rw [Rat.divInt_mul_divInt _ _, Rat.divInt_add_divInt _ _ hd (Int.mul_ne_zero hb he)]
  congr 1 <;> grind
theorem v_sum_at {b c l : Nat} {ss ks : List Str} {x : Num} {L : List Pr} {g : Str → Num} (h : Sm b l ss x L) (hk : ∀ n ∈ ss, n ∈ ks) (hg : ∀ n ∈ ks, NB c (g n)) (hb : b + l * (b + c + 2) ≤ 8000) (hn : ∀ n ∈ ss, n.length ≤ 1000) :
    ∃ v, Val M_sum_at [sumA x L, .dic (dicOf ks fun n => nm (g n))] (nm v) ∧ NB (b + l * (b + c + 2)) v ∧ nv v = nv x + atR (fun n => nv (g n)) L := by
  obtain ⟨ρ1, hf, t, d, x4, x5, x6, rfl, d0, b1, b2, ev, _, _, _⟩ := forL_ind (G := gOrM (gTupM 2 (gsCons (gPut 4) (gsCons (gPut 5) gsNil))) (gLstM 2 (gsCons (gPut 4) (gsCons (gPut 5) gsNil))))
    (b := sSeq (sIf (mTest (mOp (fOr (fInL true) (fInD true)) (mVar 4) (mVar 1))) (sRaise "NoSum" (mCons (mJs (mJ (mC (.str "the making lacks the name ")) (mJ (mFv (mVar 4)) (mPure [])))) mNil)) sNext)
  (sSeq (sSet 6 (mOp (fOr fIx fGetD) (mVar 1) (mVar 4)))
  (sSeq (sSet 2 (mOp fAdd (mOp fMul (mOp fMul (mVar 2) (mOp (fOr fIx fGetD) (mVar 5) (mC (.int 1)))) (mOp (fOr fIx fGetD) (mVar 6) (mC (.int 1)))) (mOp fMul (mOp fMul (mOp (fOr fIx fGetD) (mVar 5) (mC (.int 0))) (mOp (fOr fIx fGetD) (mVar 6) (mC (.int 0)))) (mVar 3))))
  (sSet 3 (mOp fMul (mOp fMul (mVar 3) (mOp (fOr fIx fGetD) (mVar 5) (mC (.int 1)))) (mOp (fOr fIx fGetD) (mVar 6) (mC (.int 1)))))))) (as := L.map prA)
    (fun i ρ => ∃ (t d : Int) (x4 x5 x6 : Sl), ρ = [.fr (sumA x L), .fr (.dic (dicOf ks fun n => nm (g n))), .fr (.int t), .fr (.int d), x4, x5, x6] ∧ d ≠ 0 ∧ L2.Bd (b + i * (b + c + 2)) t ∧ L2.Bd (b + i * (b + c + 2)) d ∧ Rat.divInt t d = nv x + atR (fun n => nv (g n)) (L.take i) ∧ (∀ q, x4 ≠ Sl.pv q) ∧ (∀ q, x5 ≠ Sl.pv q) ∧ (∀ q, x6 ≠ Sl.pv q))
    (ρ := [.fr (sumA x L), .fr (.dic (dicOf ks fun n => nm (g n))), .fr (.int x.1), .fr (.int x.2), .un, .un, .un])
    ⟨x.1, x.2, .un, .un, .un, rfl, h.x.nz, by simpa using h.x.b1, by simpa using h.x.b2, (by show nv x = nv x + 0; grind), (fun q z => by cases z), (fun q z => by cases z), (fun q z => by cases z)⟩ (by
      rintro i a ρ ha ⟨t, d, x4, x5, x6, rfl, d0, b1, b2, ev, h4, h5, h6⟩
      obtain ⟨p, hp, rfl⟩ : ∃ p, L[i]? = some p ∧ prA p = a := by
        rw [List.getElem?_map] at ha
        cases e : L[i]? with
        | none => rw [e] at ha; cases ha
        | some p => rw [e] at ha; exact ⟨p, rfl, Option.some.inj ha⟩
      have hpm := List.mem_of_getElem? hp
      have li : i < L.length := (List.getElem?_eq_some_iff.mp hp).1
      have lm := h.len
      have hin : p.1 ∈ ks := hk _ (h.nms p hpm)
      have np := h.nb p hpm
      have ng := hg p.1 hin
      have hi8 : b + i * (b + c + 2) + (b + c + 2) ≤ 8000 := by
        have := Nat.mul_le_mul_right (b + c + 2) (show i + 1 ≤ l by omega)
        rw [Nat.add_mul] at this
        omega
      generalize hm : b + i * (b + c + 2) = m at b1 b2 hi8
      have em : b + (i + 1) * (b + c + 2) = m + (b + c + 2) := by rw [← hm, Nat.add_mul]; omega
      have q1 : L2.Bd (m + b) (t * p.2.2) := b1.mul np.b2
      have q2 : L2.Bd (m + b + c) (t * p.2.2 * (g p.1).2) := q1.mul ng.b2
      have q3 : L2.Bd (b + c) (p.2.1 * (g p.1).1) := np.b1.mul ng.b1
      have q4 : L2.Bd (b + c + m) (p.2.1 * (g p.1).1 * d) := q3.mul b2
      have q5 : L2.Bd (m + b) (d * p.2.2) := b2.mul np.b2
      have q6 : L2.Bd (m + b + c) (d * p.2.2 * (g p.1).2) := q5.mul ng.b2
      have q7 : L2.Bd (m + b + c + 1) (t * p.2.2 * (g p.1).2 + p.2.1 * (g p.1).1 * d) := (L2.Bd.add q2 (q4.mono (show b + c + m ≤ m + b + c by omega))).mono (by omega)
      have f1 := fits_of (n := 20000) b1 (by omega)
      have f2 := fits_of (n := 20000) b2 (by omega)
      have f3 := fits_of (n := 20000) np.b1 (by omega)
      have f4 := fits_of (n := 20000) np.b2 (by omega)
      have f5 := fits_of (n := 20000) ng.b1 (by omega)
      have f6 := fits_of (n := 20000) ng.b2 (by omega)
      have f7 := fits_of (n := 20000) q1 (by omega)
      have f8 := fits_of (n := 20000) q3 (by omega)
      have f9 := fits_of (n := 20000) q5 (by omega)
      have hgk := getK_dic ks (fun n => nm (g n)) p.1
      rw [if_pos hin] at hgk
      refine ⟨[.fr (sumA x L), .fr (.dic (dicOf ks fun n => nm (g n))), .fr (.int t), .fr (.int d), .fr (.str p.1), .fr (nm p.2), x6], [.fr (sumA x L), .fr (.dic (dicOf ks fun n => nm (g n))), .fr (.int (t * p.2.2 * (g p.1).2 + p.2.1 * (g p.1).1 * d)), .fr (.int (d * p.2.2 * (g p.1).2)), .fr (.str p.1), .fr (nm p.2), .fr (nm (g p.1))], ?_, .inl ?_, _, _, .fr (.str p.1), .fr (nm p.2), .fr (nm (g p.1)), rfl, Int.mul_ne_zero (Int.mul_ne_zero d0 np.nz) ng.nz, ?_, ?_, ?_, (fun q z => by cases z), (fun q z => by cases z), (fun q z => by cases z)⟩
      · simp only [prA]
        cases x4 <;> first | exact absurd rfl (h4 _) | (cases x5 <;> first | exact absurd rfl (h5 _) | rfl)
      · have s1 : sIf (mTest (mOp (fOr (fInL true) (fInD true)) (mVar 4) (mVar 1))) (sRaise "NoSum" (mCons (mJs (mJ (mC (.str "the making lacks the name ")) (mJ (mFv (mVar 4)) (mPure [])))) mNil)) sNext [.fr (sumA x L), .fr (.dic (dicOf ks fun n => nm (g n))), .fr (.int t), .fr (.int d), .fr (.str p.1), .fr (nm p.2), x6] = some (.nx, [.fr (sumA x L), .fr (.dic (dicOf ks fun n => nm (g n))), .fr (.int t), .fr (.int d), .fr (.str p.1), .fr (nm p.2), x6]) := by
          clear h6 h4 h5 q1 q2 q3 q4 q5 q6 q7 f1 f2 f3 f4 f5 f6 f7 f8 f9 ev em hm hi8 b1 b2
          have i1 : fInL true (.str p.1) (.dic (dicOf ks fun n => nm (g n))) = none := rfl
          have i2 : fInD true (.str p.1) (.dic (dicOf ks fun n => nm (g n))) = some (.fr (.bl false)) := by
            unfold fInD
            simp only [keyA, hgk]
            rfl
          clear hgk
          walk_at "evh"
        have s2 : sSet 6 (mOp (fOr fIx fGetD) (mVar 1) (mVar 4)) [.fr (sumA x L), .fr (.dic (dicOf ks fun n => nm (g n))), .fr (.int t), .fr (.int d), .fr (.str p.1), .fr (nm p.2), x6] = some (.nx, [.fr (sumA x L), .fr (.dic (dicOf ks fun n => nm (g n))), .fr (.int t), .fr (.int d), .fr (.str p.1), .fr (nm p.2), .fr (nm (g p.1))]) := by
          have i1 : fIx (.dic (dicOf ks fun n => nm (g n))) (.str p.1) = none := rfl
          clear h4 h5 q1 q2 q3 q4 q5 q6 q7 f1 f2 f3 f4 f5 f6 f7 f8 f9 ev em hm hi8 b1 b2 s1
          walk_at "ev"
          simp only [hgk]
          cases x6 <;> first | rfl | exact absurd rfl (h6 _)
        rw [e_seq, s1]
        simp only
        rw [e_seq, s2]
        simp only [nm]
        clear s1 s2 h6 h4 h5 q1 q2 q3 q4 q5 q6 q7 ev em hm hi8 b1 b2 ha hgk hp hpm li lm hin np ng d0 h hk hg
        walk_at "evh"
      · rw [em]; exact q7.mono (by omega)
      · rw [em]; exact q6.mono (by omega)
      · rw [divInt_add _ _ _ _ _ _ d0 np.nz ng.nz, ev, take_snoc hp, atR_app]
        show _ = nv x + (atR (fun n => nv (g n)) (L.take i) + (nv p.2 * nv (g p.1) + 0))
        unfold nv
        grind)
  have lm := h.len
  rw [List.length_map, List.take_length] at ev
  rw [List.length_map] at b1 b2
  have hm : b + L.length * (b + c + 2) ≤ b + l * (b + c + 2) := by have := Nat.mul_le_mul_right (b + c + 2) lm; omega
  refine ⟨nrm t d, ?_, NB.nrm d0 (b1.mono hm) (b2.mono hm), by rw [nv_nrm d0, ev]⟩
  have k1 := callK_V (v_low (t := t) (b := d) d0 (b2.mono (by omega)))
  simp only [List.map_cons, List.map_nil] at k1
  clear b1 b2 ev d0 h hk hg hb hn lm hm
  unfold Val M_sum_at m_sum_at
  simp only [sumA] at hf ⊢
  have ex : nm x = .tup [.int x.1, .int x.2] := rfl
  simp only [ex] at hf ⊢
  clear ex
  walk_at "evh"
  exact ⟨_, rfl⟩
theorem v_lsum {n : Int} {o : LO} {ss : List Str} (w : Wl n o) (hn : n < 2 ^ 36) (nd : ss.Nodup) (hl : ss.length ≤ 8) : ∃ (x : Num) (L : List Pr) (o' : LO), ValW M__law_sum o [.lst (ss.map A.str)] (.fr (sumA x L)) o' ∧ Sm 60 ss.length ss x L ∧ Wl (n + 40) o' := by
  have lks : (sortS ss).length = ss.length := (sortS_perm ss).length_eq
  obtain ⟨ρ1, hf, L, o1, x3, x4, rfl, w1, sl, nb, nz, h3, h4⟩ := forL_ind (G := gPut 3) (b := sIf (mTest (mOp fGt (mCall M__law_take [] (mCons (mVar 0) (mCons (mC (.int 3)) mNil))) (mC (.int 0)))) (sSeq (sSet 4 (mCall M__law_number [] (mCons (mVar 0) mNil)))
  (sIf (mTest (mOp fNe (mVar 4) (mTup (mCons (mC (.int 0)) (mCons (mC (.int 1)) mNil))))) (sExpr (mOnL 2 (mAppend 2 (mTup (mCons (mVar 3) (mCons (mVar 4) mNil)))))) sNext)) sNext) (as := (sortS ss).map A.str)
    (fun i ρ => ∃ (L : List Pr) (o1 : LO) (x3 x4 : Sl), ρ = [.pv o1, .fr (.lst (ss.map A.str)), .lv (.lst (L.map prA)), x3, x4] ∧ Wl (n + 4 * i) o1 ∧ (L.map Prod.fst).Sublist ((sortS ss).take i) ∧ (∀ p ∈ L, NB 60 p.2) ∧ (∀ p ∈ L, p.2 ≠ (0, 1)) ∧ (∀ q, x3 ≠ Sl.pv q) ∧ (∀ q, x4 ≠ Sl.pv q))
    (ρ := [.pv o, .fr (.lst (ss.map A.str)), .lv (.lst []), .un, .un]) ⟨[], o, .un, .un, rfl, w.mono (by omega), by simp, (fun p hp => by cases hp), (fun p hp => by cases hp), (fun q z => by cases z), (fun q z => by cases z)⟩ (by
      rintro i a ρ ha ⟨L, o1, x3, x4, rfl, w1, sl, nb, nz, h3, h4⟩
      obtain ⟨m, hm, rfl⟩ : ∃ m, (sortS ss)[i]? = some m ∧ A.str m = a := by
        rw [List.getElem?_map] at ha
        cases e : (sortS ss)[i]? with
        | none => rw [e] at ha; cases ha
        | some p => rw [e] at ha; exact ⟨p, rfl, Option.some.inj ha⟩
      have li : i < (sortS ss).length := (List.getElem?_eq_some_iff.mp hm).1
      have lL : L.length ≤ i := by have := sl.length_le; rw [List.length_map, List.length_take] at this; omega
      have hlen : ((L.map prA).length ≤ 100000) = True := by simp only [eq_iff_iff, iff_true, List.length_map]; omega
      have l2 : (0 + 1 + 1 ≤ 1000) = True := by simp
      have ts : (sortS ss).take (i + 1) = (sortS ss).take i ++ [m] := take_snoc hm
      obtain ⟨r1, o2, c1, a1, b1, w2⟩ := tk 3 w1 (by omega) (by decide) (by decide)
      refine ⟨[.pv o1, .fr (.lst (ss.map A.str)), .lv (.lst (L.map prA)), .fr (.str m), x4], ?_⟩
      have hg : gPut 3 (.str m) [.pv o1, .fr (.lst (ss.map A.str)), .lv (.lst (L.map prA)), x3, x4] = some [.pv o1, .fr (.lst (ss.map A.str)), .lv (.lst (L.map prA)), .fr (.str m), x4] := by cases x3 <;> first | rfl | exact absurd rfl (h3 _)
      by_cases hr : 0 < r1
      · have d1 : decide (0 < r1) = true := decide_eq_true hr
        obtain ⟨x, o3, c2, nx, w3⟩ := nmb w2 (by omega)
        have hq : eqA (nm x) (.tup [.int 0, .int 1]) = some (decide (x = (0, 1))) := eqA_nm _ (0, 1)
        by_cases z : x = (0, 1)
        · have d2 : decide (x = (0, 1)) = true := decide_eq_true z
          refine ⟨[.pv o3, .fr (.lst (ss.map A.str)), .lv (.lst (L.map prA)), .fr (.str m), .fr (nm x)], hg, .inl ?_, L, o3, _, _, rfl, w3.mono (by omega), by rw [ts]; exact sl.trans (List.sublist_append_left _ _), nb, nz, (fun q z => by cases z), (fun q z => by cases z)⟩
          clear ha h3 sl nb nz ts li lL w1 w2 w3 nx a1 b1 hm hg z
          cases x4 <;> first | exact absurd rfl (h4 _) | (clear h4; walk_at "evh")
        · have d2 : decide (x = (0, 1)) = false := decide_eq_false z
          refine ⟨[.pv o3, .fr (.lst (ss.map A.str)), .lv (.lst ((L ++ [(m, x)]).map prA)), .fr (.str m), .fr (nm x)], hg, .inl ?_, L ++ [(m, x)], o3, _, _, rfl, w3.mono (by omega), ?_, ?_, ?_, (fun q z => by cases z), (fun q z => by cases z)⟩
          · have e1 : (L ++ [(m, x)]).map prA = L.map prA ++ [.tup [.str m, nm x]] := by rw [List.map_append]; rfl
            clear ha h3 sl nb nz ts li lL w1 w2 w3 nx a1 b1 hm hg z
            cases x4 <;> first | exact absurd rfl (h4 _) | (clear h4; walk_at "evh")
          · rw [ts, List.map_append]; exact sl.append (List.Sublist.refl _)
          · intro p hp
            rcases List.mem_append.mp hp with h | h
            · exact nb p h
            · rw [List.mem_singleton.mp h]; exact nx
          · intro p hp
            rcases List.mem_append.mp hp with h | h
            · exact nz p h
            · rw [List.mem_singleton.mp h]; exact z
      · have d1 : decide (0 < r1) = false := decide_eq_false hr
        refine ⟨[.pv o2, .fr (.lst (ss.map A.str)), .lv (.lst (L.map prA)), .fr (.str m), x4], hg, .inl ?_, L, o2, _, _, rfl, w2.mono (by omega), by rw [ts]; exact sl.trans (List.sublist_append_left _ _), nb, nz, (fun q z => by cases z), h4⟩
        clear ha h3 h4 sl nb nz ts li lL w1 w2 a1 b1 hm hg
        walk_at "evh")
  rw [List.length_map] at w1 sl
  rw [List.take_length] at sl
  obtain ⟨x, o2, c2, nx, w2⟩ := nmb w1 (by omega)
  have hr := rising (sortS_pw ss) ((sortS_perm ss).nodup_iff.mpr nd)
  have lL := sl.length_le
  rw [List.length_map] at lL
  refine ⟨x, L, o2, ?_, ⟨nx, List.pairwise_map.mp (hr.sublist sl), nb, nz, by omega, fun p hp => (sortS_perm ss).mem_iff.mp (sl.subset (List.mem_map_of_mem hp))⟩, w2.mono (by omega)⟩
  have k3 : (ss.length < 64) = True := by simp only [eq_iff_iff, iff_true]; omega
  have l2 : (0 + 1 + 1 ≤ 1000) = True := by simp
  have l0 : (0 ≤ 1000) = True := by simp
  have k5 : fSortedL (.lst (ss.map A.str)) = some (.nw (.lst ((sortS ss).map A.str))) := by
    unfold fSortedL
    simp only [strsA_of, k3, if_true]
  clear w w1 w2 hn nd hl lks sl nb nz h3 h4 nx hr lL k3
  unfold ValW M__law_sum m__law_sum sumA
  simp only [List.map_cons, List.map_nil]
  walk_at "evh"
  exact ⟨_, rfl⟩
theorem toDs_prs : ∀ L : List Pr, toDs (L.map prA) = some (L.map fun p => .tup [.str p.1, .tup [.int p.2.1, .int p.2.2]])
  | [] => by simp [toDs]
  | p :: L => by rw [List.map_cons, toDs, toDs_prs L]; simp [prA, nm, toD, toDs]
theorem toD_sum (x : Num) (L : List Pr) : toD (sumA x L) = some (.tup [.tup [.int x.1, .int x.2], .tup (L.map fun p => .tup [.str p.1, .tup [.int p.2.1, .int p.2.2]])]) := by
  unfold sumA
  simp [toD, toDs, toDs_prs, nm]
theorem depths_prs : ∀ L : List Pr, D.depths (L.map fun p => .tup [.str p.1, .tup [.int p.2.1, .int p.2.2]]) ≤ 5
  | [] => by simp [D.depths]
  | p :: L => by
    rw [List.map_cons]
    have := depths_prs L
    simp [D.depths, D.depth]
    omega
theorem eqA_sum (x : Num) (L : List Pr) : eqA (sumA x L) (sumA x L) = some true := by
  unfold eqA
  simp only [toD_sum, D.eq_refl]
  rw [if_pos ?_]
  have := depths_prs L
  simp [D.depths, D.depth]
  omega
theorem eqA_nmS (x : Num) : eqA (nm x) (nm x) = some true := by rw [eqA_nm]; simp
theorem nb0 : NB 60 (0, 1) := NB.zero
theorem v_right {ss ks : List Str} {x1 x2 x3 f0 f1 : Num} {L1 L2 L3 : List Pr} {g : Str → Num} (nd : ss.Nodup) (h1 : Sm 60 8 ss x1 L1) (h2 : Sm 60 8 ss x2 L2) (h3 : Sm 60 8 ss x3 L3) (hf0 : NB 60 f0) (hf1 : NB 60 f1) (hk : ∀ n ∈ ss, n ∈ ks) (hg : ∀ n ∈ ks, NB 60 (g n)) (hn : ∀ n ∈ ss, n.length ≤ 1000) :
    Val M__law_right [.lst [sumA x1 L1, sumA x2 L2, sumA x3 L3], .lst [nm f0, nm f1], .dic (dicOf ks fun n => nm (g n))] (.bl true) := by
  obtain ⟨a1, va1, na1, ea1⟩ := v_sum_at (c := 60) (g := g) h1 hk hg (by omega) hn
  obtain ⟨a2, va2, na2, ea2⟩ := v_sum_at (c := 60) (g := g) h2 hk hg (by omega) hn
  obtain ⟨a3, va3, na3, ea3⟩ := v_sum_at (c := 60) (g := g) h3 hk hg (by omega) hn
  obtain ⟨N12, v12, s12, e12⟩ := v_sum_plus h1 h2 (by omega) (by omega)
  obtain ⟨b12, vb12, nb12, eb12⟩ := v_sum_at (c := 60) (g := g) s12 hk hg (by omega) hn
  have i12 : b12 = nAdd a1 a2 := nv_eq nb12.ok (ok_add na1.ok na2.ok) (by rw [eb12, nv_add na1.ok na2.ok, nv_add h1.x.ok h2.x.ok, at_add nd _ h1.nms h2.nms s12.nms e12, ea1, ea2]; grind)
  subst i12
  obtain ⟨M12, w12, t12, f12⟩ := v_sum_minus h1 h2 (by omega) (by omega) (by omega)
  obtain ⟨c12, vc12, nc12, ec12⟩ := v_sum_at (c := 60) (g := g) t12 hk hg (by omega) hn
  have m1 : Ok (-1, 1) := (nb_m1 (b := 1) (by omega)).ok
  obtain ⟨N2m, v2m, s2m, e2m⟩ := v_sum_times h2 (nb_m1 (b := 60) (by omega)) (by omega) (by omega)
  have i13 : c12 = nAdd a1 (nMul a2 (-1, 1)) := nv_eq nc12.ok (ok_add na1.ok (ok_mul na2.ok m1)) (by
    rw [ec12, nv_add h1.x.ok (ok_mul h2.x.ok m1), nv_mul h2.x.ok m1, nv_add na1.ok (ok_mul na2.ok m1), nv_mul na2.ok m1, at_add nd _ h1.nms s2m.nms t12.nms (fun n => by rw [f12, e2m, nv_m1]; grind), at_mul nd _ h2.nms s2m.nms e2m, ea1, ea2]; grind)
  subst i13
  have vm2 := callK_V (v_lmul (n := 1400) (na2.mono (by omega)) (nb_m1 (b := 1400) (by omega)) (by omega))
  have va12 := callK_V (v_ladd (n := 3000) (na1.mono (by omega)) (na2.mono (by omega)) (by omega))
  have vs12 := callK_V (v_ladd (n := 3000) (na1.mono (by omega)) ((NB.mul (n := 1400) (na2.mono (by omega)) (nb_m1 (by omega))).mono (by omega)) (by omega))
  obtain ⟨T1, vt1, st1, et1⟩ := v_sum_times h1 hf0 (by omega) (by omega)
  obtain ⟨T3, vt3, st3, et3⟩ := v_sum_times h3 hf1 (by omega) (by omega)
  obtain ⟨Nb, vb, sb, eb⟩ := v_sum_plus st1 st3 (by omega) (by omega)
  obtain ⟨d, vd, nd', ed⟩ := v_sum_at (c := 60) (g := g) sb hk hg (by omega) hn
  have id : d = nAdd (nMul a1 f0) (nMul a3 f1) := nv_eq nd'.ok (ok_add (ok_mul na1.ok hf0.ok) (ok_mul na3.ok hf1.ok)) (by
    rw [ed, nv_add (ok_mul h1.x.ok hf0.ok) (ok_mul h3.x.ok hf1.ok), nv_mul h1.x.ok hf0.ok, nv_mul h3.x.ok hf1.ok, nv_add (ok_mul na1.ok hf0.ok) (ok_mul na3.ok hf1.ok), nv_mul na1.ok hf0.ok, nv_mul na3.ok hf1.ok, at_add nd _ st1.nms st3.nms sb.nms eb, at_mul nd _ h1.nms st1.nms et1, at_mul nd _ h3.nms st3.nms et3, ea1, ea3]; grind)
  subst id
  have vm1 := callK_V (v_lmul (n := 1400) (na1.mono (by omega)) (hf0.mono (by omega)) (by omega))
  have vm3 := callK_V (v_lmul (n := 1400) (na3.mono (by omega)) (hf1.mono (by omega)) (by omega))
  have vmm := callK_V (v_ladd (n := 3000) ((NB.mul (n := 1400) (na1.mono (by omega)) (hf0.mono (by omega))).mono (by omega)) ((NB.mul (n := 1400) (na3.mono (by omega)) (hf1.mono (by omega))).mono (by omega)) (by omega))
  obtain ⟨N123, v123, s123, e123⟩ := v_sum_plus s12 (h3.mono (show 60 ≤ 2 * 60 + 3 by omega) (Nat.le_refl 8)) (by omega) (by omega)
  obtain ⟨N21, v21, s21, e21⟩ := v_sum_plus h2 h1 (by omega) (by omega)
  obtain ⟨N321, v321, s321, e321⟩ := v_sum_plus (h3.mono (show 60 ≤ 2 * 60 + 3 by omega) (Nat.le_refl 8)) s21 (by omega) (by omega)
  have i3 : sumA (nAdd x3 (nAdd x2 x1)) N321 = sumA (nAdd (nAdd x1 x2) x3) N123 := Sm.ext s321 s123 (by rw [nv_add h3.x.ok (ok_add h2.x.ok h1.x.ok), nv_add h2.x.ok h1.x.ok, nv_add (ok_add h1.x.ok h2.x.ok) h3.x.ok, nv_add h1.x.ok h2.x.ok]; grind) fun n => by rw [e321, e21, e123, e12]; grind
  obtain ⟨T2, vt2, st2, et2⟩ := v_sum_times st1 (hf1.mono (show 60 ≤ 2 * 60 + 3 by omega)) (by omega) (by omega)
  have vff := callK_V (v_lmul (n := 60) hf0 hf1 (by omega))
  obtain ⟨T4, vt4, st4, et4⟩ := v_sum_times (b := 130) (f := nMul f0 f1) (h1.mono (by omega) (Nat.le_refl 8)) ((hf0.mul hf1).mono (by omega)) (by omega) (by omega)
  have i4 : sumA (nMul x1 (nMul f0 f1)) T4 = sumA (nMul (nMul x1 f0) f1) T2 := Sm.ext st4 st2 (by rw [nv_mul h1.x.ok (ok_mul hf0.ok hf1.ok), nv_mul hf0.ok hf1.ok, nv_mul (ok_mul h1.x.ok hf0.ok) hf1.ok, nv_mul h1.x.ok hf0.ok]; grind) fun n => by rw [et4, et2, et1, nv_mul hf0.ok hf1.ok]; grind
  obtain ⟨M11, w11, t11, f11⟩ := v_sum_minus h1 h1 (by omega) (by omega) (by omega)
  have z0 : Sm 60 0 ss (0, 1) [] := ⟨nb0, .nil, (fun p hp => by cases hp), (fun p hp => by cases hp), Nat.le_refl _, (fun p hp => by cases hp)⟩
  have z1 : Sm 60 0 [] (0, 1) [] := ⟨nb0, .nil, (fun p hp => by cases hp), (fun p hp => by cases hp), Nat.le_refl _, (fun p hp => by cases hp)⟩
  have i5 : sumA (nAdd x1 (nMul x1 (-1, 1))) M11 = sumA (0, 1) [] := Sm.ext t11 z0 (by rw [nv_add h1.x.ok (ok_mul h1.x.ok m1), nv_mul h1.x.ok m1, nv_m1, nv_zero]; grind) fun n => by rw [f11]; show _ = (0 : Rat); grind
  obtain ⟨u, vu, nu, eu⟩ := v_sum_at (c := 60) (ks := []) (g := fun _ => (0, 1)) z1 (fun n hn => hn) (fun n hn => by cases hn) (by omega) (fun n hn => by cases hn)
  have i6 : u = (0, 1) := nv_eq nu.ok ok_zero (by rw [eu]; show nv (0, 1) + (0 : Rat) = nv (0, 1); grind)
  subst i6
  obtain ⟨M13, w13, t13, f13⟩ := v_sum_minus h1 h3 (by omega) (by omega) (by omega)
  obtain ⟨N13, v13, s13, e13⟩ := v_sum_plus t13 (h3.mono (show 60 ≤ 4 * 60 + 9 by omega) (Nat.le_refl 8)) (by omega) (by omega)
  have i7 : sumA (nAdd (nAdd x1 (nMul x3 (-1, 1))) x3) N13 = sumA x1 L1 := Sm.ext s13 h1 (by rw [nv_add (ok_add h1.x.ok (ok_mul h3.x.ok m1)) h3.x.ok, nv_add h1.x.ok (ok_mul h3.x.ok m1), nv_mul h3.x.ok m1, nv_m1]; grind) fun n => by rw [e13, f13]; grind
  rw [i3] at v321
  rw [i4] at vt4
  rw [i5] at w11
  rw [i7] at v13
  have ka1 := callK_V va1; have ka2 := callK_V va2; have ka3 := callK_V va3
  have k12 := callK_V v12; have kb12 := callK_V vb12; have kw12 := callK_V w12; have kc12 := callK_V vc12
  have kt1 := callK_V vt1; have kt3 := callK_V vt3; have kb := callK_V vb; have kd := callK_V vd
  have k123 := callK_V v123; have k21 := callK_V v21; have k321 := callK_V v321
  have kt2 := callK_V vt2; have kt4 := callK_V vt4
  have kw11 := callK_V w11; have ku : ∀ ρ, callK M_sum_at [] [.fr (sumA (0, 1) []), .fr (.dic [])] ρ = some (.ok (.fr (nm (0, 1))), ρ) := callK_V vu; have kw13 := callK_V w13; have k13 := callK_V v13
  have es := eqA_sum; have en := eqA_nmS
  have hm1 : A.tup [.int (-1), .int 1] = nm (-1, 1) := rfl
  clear va1 na1 ea1 va2 na2 ea2 va3 na3 ea3 v12 s12 e12 vb12 nb12 eb12 w12 t12 f12 vc12 nc12 ec12 v2m s2m e2m vt1 st1 et1 vt3 st3 et3 vb sb eb vd nd' ed v123 s123 e123 v21 s21 e21 v321 s321 e321 i3 vt2 st2 et2 vt4 st4 et4 i4 w11 t11 f11 z0 z1 i5 vu nu eu w13 t13 f13 v13 s13 e13 i7 h1 h2 h3 hf0 hf1 hk hg hn nd m1
  simp only [List.map_cons, List.map_nil] at ka1 ka2 ka3 k12 kb12 kw12 kc12 kt1 kt3 kb kd k123 k21 k321 kt2 kt4 kw11 ku kw13 k13 vm2 va12 vs12 vm1 vm3 vmm vff
  have hm0 : A.tup [.int 0, .int 1] = nm (0, 1) := rfl
  have hms : A.tup [nm (0, 1), A.tup []] = sumA (0, 1) [] := rfl
  have l0 : (0 ≤ 1000) = True := by simp
  have l2 : (0 + 1 + 1 ≤ 1000) = True := by simp
  have l3 : (0 + 1 + 1 + 1 ≤ 100000) = True := by simp
  have t3 : (0 + 1 + 1 + 1 == 3) = true := rfl
  unfold Val M__law_right m__law_right
  simp only [List.map_cons, List.map_nil]
  walk_at "evc"
  exact ⟨_, rfl⟩
theorem e_forK (j : Nat) (G : Mg) (b : Ms) (ρ : List Sl) : sForK j G b ρ = (match mVarF j ρ with | some (.ok (.fr (.dic kvs)), ρ1) => (match forL G b (kvs.map fun kv => keyD kv.1) ρ1 with | some (.ex _, _) => none | r => r) | _ => none) := rfl
def cl (w n : Str) : Str := (w ++ ⟨#[46]⟩) ++ n
theorem str_ext {a b : Str} (h : a.cps.toList = b.cps.toList) : a = b := by
  obtain ⟨⟨a⟩⟩ := a
  obtain ⟨⟨b⟩⟩ := b
  exact congrArg Str.mk (congrArg Array.mk h)
theorem app_cps (a b : Str) : (a ++ b).cps.toList = a.cps.toList ++ b.cps.toList := by
  show (a.cps ++ b.cps).toList = _
  simp
theorem catS_cl (w n : Str) : catS [w, ⟨#[46]⟩, n] = cl w n := by
  apply str_ext
  unfold catS cl
  simp only [List.foldl_cons, List.foldl_nil, app_cps]
  rfl
def uncl (w m : Str) : Str := ⟨(m.cps.toList.drop (w.cps.toList.length + 1)).toArray⟩
theorem cl_cps (w n : Str) : (cl w n).cps.toList = w.cps.toList ++ (46 :: n.cps.toList) := by
  unfold cl
  rw [app_cps, app_cps]
  simp
theorem uncl_cl (w n : Str) : uncl w (cl w n) = n := by
  apply str_ext
  unfold uncl
  rw [cl_cps, show w.cps.toList ++ 46 :: n.cps.toList = (w.cps.toList ++ [46]) ++ n.cps.toList by simp]
  show (List.drop (w.cps.toList.length + 1) ((w.cps.toList ++ [46]) ++ n.cps.toList)).toArray.toList = n.cps.toList
  rw [List.drop_left' (by simp)]
theorem cl_inj {w a b : Str} (h : cl w a = cl w b) : a = b := by rw [← uncl_cl w a, h, uncl_cl]
theorem cl_len (w n : Str) : (cl w n).length = w.length + 1 + n.length := by
  show (cl w n).cps.size = w.cps.size + 1 + n.cps.size
  have := congrArg List.length (cl_cps w n)
  simp at this
  omega
theorem app_lt (p : List Nat) (a b : List Nat) : p ++ a < p ++ b ↔ a < b := by
  induction p with
  | nil => simp
  | cons x p ih => rw [List.cons_append, List.cons_append, List.cons_lt_cons_iff]; simp [ih]
theorem cl_slt {w a b : Str} (h : SLt a b) : SLt (cl w a) (cl w b) := by
  refine ⟨fun z => h.1 ?_, fun z => h.2 (cl_inj z)⟩
  rw [cl_cps, cl_cps, app_lt, List.cons_lt_cons_iff] at z
  rcases z with z | z
  · exact absurd z (Nat.lt_irrefl _)
  · exact z.2
def cls (w : Str) (L : List Pr) : List Pr := L.map fun p => (cl w p.1, p.2)
theorem Sm.cls {b l : Nat} {ss : List Str} {x : Num} {L : List Pr} (h : Sm b l ss x L) (w : Str) : Sm b l (ss.map (cl w)) x (cls w L) := by
  refine ⟨h.x, List.pairwise_map.mpr (h.rise.imp fun {a b} q => cl_slt q), ?_, ?_, by unfold W.cls; rw [List.length_map]; exact h.len, ?_⟩
  all_goals
    intro p hp
    obtain ⟨q, hq, rfl⟩ := List.mem_map.mp hp
  · exact h.nb q hq
  · exact h.nz q hq
  · exact List.mem_map_of_mem (h.nms q hq)
theorem atR_cls (w : Str) (g : Str → Rat) (L : List Pr) : atR (fun m => g (uncl w m)) (cls w L) = atR g L := by
  induction L with
  | nil => rfl
  | cons p L ih =>
    show nv p.2 * g (uncl w (cl w p.1)) + atR (fun m => g (uncl w m)) (cls w L) = nv p.2 * g p.1 + atR g L
    rw [ih, uncl_cl]
theorem v_sum_called {b l : Nat} {ss : List Str} {x : Num} {L : List Pr} {w : Str} (h : Sm b l ss x L) (hl : l ≤ 60) (hn : ∀ n ∈ ss, n.length ≤ 1000) (hw : w.length ≤ 1000) : Val M_sum_called [sumA x L, .str w] (sumA x (cls w L)) := by
  obtain ⟨ys, ρ2, hc, x2, x3, rfl, rfl, _, _⟩ := compL_ind (G := gOrM (gTupM 2 (gsCons (gPut 2) (gsCons (gPut 3) gsNil))) (gLstM 2 (gsCons (gPut 2) (gsCons (gPut 3) gsNil)))) (t := mTrue) (e := mTup (mCons (mJs (mJ (mFv (mVar 1)) (mJ (mC (.str ".")) (mJ (mFv (mVar 2)) (mPure []))))) (mCons (mVar 3) mNil))) (as := L.map prA)
    (fun j acc ρ => ∃ x2 x3 : Sl, acc = (cls w (L.take j)).map prA ∧ ρ = [.fr (sumA x L), .fr (.str w), x2, x3] ∧ (∀ q, x2 ≠ Sl.pv q) ∧ (∀ q, x3 ≠ Sl.pv q))
    (ρ := [.fr (sumA x L), .fr (.str w), .un, .un]) ⟨.un, .un, rfl, rfl, (fun q z => by cases z), (fun q z => by cases z)⟩ (by
      rintro j a acc ρ ha ⟨x2, x3, rfl, rfl, h2, h3⟩
      obtain ⟨p, hp, rfl⟩ : ∃ p, L[j]? = some p ∧ prA p = a := by
        rw [List.getElem?_map] at ha
        cases e : L[j]? with
        | none => rw [e] at ha; cases ha
        | some p => rw [e] at ha; exact ⟨p, rfl, Option.some.inj ha⟩
      have l2 : (0 + 1 + 1 ≤ 1000) = True := by simp
      have z1 : (w.length ≤ 1000) = True := by simp [hw]
      have z2 : (p.1.length ≤ 1000) = True := by simp [hn p.1 (h.nms p (List.mem_of_getElem? hp))]
      have z3 : ((("." : String) : Str).length ≤ 1000) = True := by simp only [eq_iff_iff, iff_true]; decide +kernel
      have z4 : catS [w, (("." : String) : Str), p.1] = cl w p.1 := by rw [← catS_cl]; congr 1
      refine ⟨[.fr (sumA x L), .fr (.str w), .fr (.str p.1), .fr (nm p.2)], ?_, .inl ⟨[.fr (sumA x L), .fr (.str w), .fr (.str p.1), .fr (nm p.2)], .fr (prA (cl w p.1, p.2)), [.fr (sumA x L), .fr (.str w), .fr (.str p.1), .fr (nm p.2)], prA (cl w p.1, p.2), [.fr (sumA x L), .fr (.str w), .fr (.str p.1), .fr (nm p.2)], rfl, ?_, rfl, .fr (.str p.1), .fr (nm p.2), ?_, rfl, (fun q z => by cases z), (fun q z => by cases z)⟩⟩
      · simp only [prA]
        cases x2 <;> first | exact absurd rfl (h2 _) | (cases x3 <;> first | exact absurd rfl (h3 _) | rfl)
      · simp only [prA]
        clear ha hp h2 h3 h hn hw
        walk_at "evh"
      · unfold cls
        rw [take_snoc hp, List.map_append, List.map_append]; rfl)
  rw [List.length_map, List.take_length] at hc
  have hl1 := h.len
  have k3 : ((L.map prA).length ≤ 100000) = True := by simp only [eq_iff_iff, iff_true, List.length_map]; omega
  have l2 : (0 + 1 + 1 ≤ 1000) = True := by simp
  clear h hl hl1 hn hw
  unfold Val M_sum_called m_sum_called
  simp only [sumA] at hc ⊢
  simp only [List.map_cons, List.map_nil]
  walk_at "evh"
  simp only [compK, k3, if_true, List.replicate_succ, List.replicate_zero, List.cons_append, List.nil_append, List.append_nil]
  rw [hc]
  simp only [List.length_cons, List.length_nil, List.take_succ_cons, List.take_zero]
  exact ⟨_, rfl⟩
theorem c_same {b l : Nat} {ss : List Str} {x : Num} {L ps : List Pr} {sq : A} (h : Sm b l ss x L) (hsq : seqA sq = some (ps.map prA)) (hp : ps = L ∨ ps = L.reverse) (hb : b ≤ 3000) (hl : l ≤ 60) : Val M_sum_of [nm x, sq] (sumA x L) := by
  have hm : ∀ p, p ∈ ps ↔ p ∈ L := fun p => by rcases hp with e | e <;> simp [e]
  have hcn : ∀ n, cnt ps n ≤ 1 := fun n => by
    rcases hp with e | e
    · rw [e]; exact cnt_self h.rise n
    · rw [e]; unfold cnt; rw [List.countP_reverse]; exact cnt_self h.rise n
  have hll : ps.length = L.length := by rcases hp with e | e <;> simp [e]
  have := h.len
  obtain ⟨N, v, hc, _⟩ := v_sum_of (x := x) (b := b) (c := 1) hsq (fun p hp => h.nb p ((hm p).mp hp)) hcn (by omega) (by omega) (by omega)
  have hc2 : Canon L N := by
    rcases hp with e | e
    · rw [← e]; exact hc
    · subst e; exact hc.rev h.oks
  rw [← Canon.eq hc2 (canon_self h.rise h.oks h.nz)]
  exact v
theorem v_called {ss ks : List Str} {x : Num} {L : List Pr} {w : Str} {g : Str → Num} (h : Sm 60 8 ss x L) (nk : ks.Nodup) (kl : ks.length ≤ 8) (hk : ∀ n ∈ ss, n ∈ ks) (hg : ∀ n ∈ ks, NB 60 (g n)) (hn : ∀ n ∈ ks, n.length ≤ 900) (hw : w.length ≤ 50) :
    Val M__law_called [sumA x L, .dic (dicOf ks fun n => nm (g n)), .str w] (.bl true) := by
  obtain ⟨ρ1, hf, x4, rfl, h4⟩ := forL_ind (G := gPut 4) (b := sSetD 3 (mOp fAdd (mOp fAdd (mVar 2) (mC (.str "."))) (mVar 4)) (mOp (fOr fIx fGetD) (mVar 1) (mVar 4))) (as := ks.map A.str)
    (fun i ρ => ∃ (x4 : Sl), ρ = [.fr (sumA x L), .fr (.dic (dicOf ks fun n => nm (g n))), .fr (.str w), .lv (.dic (dicOf ((ks.take i).map (cl w)) fun m => nm (g (uncl w m)))), x4, .un] ∧ (∀ q, x4 ≠ Sl.pv q))
    (ρ := [.fr (sumA x L), .fr (.dic (dicOf ks fun n => nm (g n))), .fr (.str w), .lv (.dic []), .un, .un]) ⟨.un, rfl, (fun q z => by cases z)⟩ (by
      rintro i a ρ ha ⟨x4, rfl, h4⟩
      obtain ⟨n, hm, rfl⟩ : ∃ m, ks[i]? = some m ∧ A.str m = a := by
        rw [List.getElem?_map] at ha
        cases e : ks[i]? with
        | none => rw [e] at ha; cases ha
        | some p => rw [e] at ha; exact ⟨p, rfl, Option.some.inj ha⟩
      have li : i < ks.length := (List.getElem?_eq_some_iff.mp hm).1
      have hin := List.mem_of_getElem? hm
      have hgk := getK_dic ks (fun n => nm (g n)) n
      rw [if_pos hin] at hgk
      have i1 : fIx (.dic (dicOf ks fun n => nm (g n))) (.str n) = none := rfl
      have hne : cl w n ∉ (ks.take i).map (cl w) := fun z => by
        obtain ⟨m, hmm, e⟩ := List.mem_map.mp z
        have e := cl_inj e
        subst e
        obtain ⟨j, hj, ej⟩ := List.getElem_of_mem hmm
        rw [List.length_take] at hj
        rw [List.getElem_take] at ej
        have e2 := (List.getElem?_eq_some_iff.mp hm).2
        exact List.pairwise_iff_getElem.mp nk j i (by omega) li (by omega) (ej.trans e2.symm)
      have hpt := putA_dic ((ks.take i).map (cl w)) (fun m => nm (g (uncl w m))) (cl w n) (nm (g n))
      rw [if_neg hne] at hpt
      have hd : dicOf ((ks.take i).map (cl w) ++ [cl w n]) (fun m => if m = cl w n then nm (g n) else nm (g (uncl w m))) = dicOf ((ks.take (i + 1)).map (cl w)) (fun m => nm (g (uncl w m))) := by
        rw [take_snoc hm, List.map_append]
        refine dicOf_congr fun m _ => ?_
        by_cases z : m = cl w n
        · subst z; rw [if_pos rfl, uncl_cl]
        · rw [if_neg z]
      rw [hd] at hpt
      have hlen : ((dicOf ((ks.take i).map (cl w)) fun m => nm (g (uncl w m))).length ≤ 100000) = True := by simp only [eq_iff_iff, iff_true, dicOf_len, List.length_map, List.length_take]; omega
      have z3 : (("." : String) : Str).length = 1 := by decide +kernel
      have z5 : ((("." : String) : Str)) = ⟨#[46]⟩ := by decide +kernel
      have q1 : (w.length + (⟨#[46]⟩ : Str).length ≤ 100000) = True := by rw [← z5, z3]; simp only [eq_iff_iff, iff_true]; omega
      have q2 : ((w ++ ⟨#[46]⟩).length + n.length ≤ 100000) = True := by
        have := hn n hin
        have e := app_len w ⟨#[46]⟩
        have e2 : (⟨#[46]⟩ : Str).length = 1 := rfl
        simp only [eq_iff_iff, iff_true]; omega
      have q3 : w ++ ⟨#[46]⟩ ++ n = cl w n := rfl
      refine ⟨[.fr (sumA x L), .fr (.dic (dicOf ks fun n => nm (g n))), .fr (.str w), .lv (.dic (dicOf ((ks.take i).map (cl w)) fun m => nm (g (uncl w m)))), .fr (.str n), .un], [.fr (sumA x L), .fr (.dic (dicOf ks fun n => nm (g n))), .fr (.str w), .lv (.dic (dicOf ((ks.take (i + 1)).map (cl w)) fun m => nm (g (uncl w m)))), .fr (.str n), .un], ?_, .inl ?_, .fr (.str n), rfl, (fun q z => by cases z)⟩
      · cases x4 <;> first | rfl | exact absurd rfl (h4 _)
      · clear ha hm h4 hin hd hne li h nk hk hg hn hw z3
        walk_at "evh")
  rw [List.length_map, List.take_length] at hf
  have hs := h.cls w
  have hk2 : ∀ n ∈ ss.map (cl w), n ∈ ks.map (cl w) := fun n hm0 => by
    obtain ⟨m, hm, rfl⟩ := List.mem_map.mp hm0
    exact List.mem_map_of_mem (hk m hm)
  have hg2 : ∀ n ∈ ks.map (cl w), NB 60 (g (uncl w n)) := fun n hm0 => by
    obtain ⟨m, hm, rfl⟩ := List.mem_map.mp hm0
    rw [uncl_cl]; exact hg m hm
  have hn2 : ∀ n ∈ ss.map (cl w), n.length ≤ 1000 := fun n hm0 => by
    obtain ⟨m, hm, rfl⟩ := List.mem_map.mp hm0
    have := hn m (hk m hm)
    rw [cl_len]; omega
  obtain ⟨a1, va1, na1, ea1⟩ := v_sum_at (c := 60) (g := fun m => g (uncl w m)) hs hk2 hg2 (by omega) hn2
  obtain ⟨a2, va2, na2, ea2⟩ := v_sum_at (c := 60) (g := g) h hk hg (by omega) (fun n hm => by have := hn n (hk n hm); omega)
  have ia : a1 = a2 := nv_eq na1.ok na2.ok (by rw [ea1, ea2, atR_cls w (fun n => nv (g n))])
  subst ia
  have k1 := callK_V va1
  have k2 := callK_V va2
  have k3 := callK_V (v_sum_called (w := w) h (by omega) (fun n hm => by have := hn n (hk n hm); omega) (by omega))
  have k4 := callK_V (c_same (sq := .lst ((cls w L).reverse.map prA)) (ps := (cls w L).reverse) hs rfl (.inr rfl) (by omega) (by omega))
  have k5 := callK_V (c_same (sq := .tup (L.map prA)) (ps := L) h rfl (.inl rfl) (by omega) (by omega))
  have es1 := eqA_sum x (cls w L)
  have es2 := eqA_sum x L
  have en := eqA_nmS a1
  have ek : (dicOf ks fun n => nm (g n)).map (fun kv => keyD kv.1) = ks.map A.str := by unfold dicOf; rw [List.map_map]; rfl
  have er : ((cls w L).map prA).reverse = (cls w L).reverse.map prA := by rw [List.map_reverse]
  clear va1 va2 na1 na2 ea1 ea2 hs hk2 hg2 hn2 h nk kl hk hg hn hw h4
  unfold Val M__law_called m__law_called
  simp only [List.map_cons, List.map_nil, sumA] at k1 k2 k3 k4 k5 es1 es2 hf ⊢
  walk_at "evh"
  simp only [e_forK, fRev, fListD]
  walk_at "evh"
  exact ⟨_, rfl⟩
theorem law_iter (sc : A) (k : Int) (ns : List Int) (hsc : sc = .lst (ns.map A.int)) (k0 : 0 ≤ k) (k1 : k ≤ 1000) (x2 x3 x4 x5 x6 x7 : Sl) (h2 : ∀ q, x2 ≠ Sl.pv q) (h3 : ∀ q, x3 ≠ Sl.pv q) (h4 : ∀ q, x4 ≠ Sl.pv q) (h5 : ∀ q, x5 ≠ Sl.pv q) (h6 : ∀ q, x6 ≠ Sl.pv q) (h7 : ∀ q, x7 ≠ Sl.pv q) :
    ∃ y2 y3 y4 y5 y6 y7 : Sl, (sSeq (sSet 2 (mCall M__law_well [] (mCons (mVarF 0) (mCons (mVarF 1) mNil))))
  (sSeq (sSet 3 (mCall M__law_names [] (mCons (mVar 2) (mCons (mOp fAdd (mC (.int 1)) (mCall M__law_take [] (mCons (mVar 2) (mCons (mC (.int 6)) mNil)))) mNil))))
  (sSeq (sSet 4 (mComp 1 (mRng1 (mC (.int 3))) (gPut 8) mTrue (mCall M__law_sum [] (mCons (mVar 2) (mCons (mVarF 3) mNil)))))
  (sSeq (sSet 5 (mComp 1 (mRng1 (mC (.int 2))) (gPut 8) mTrue (mCall M__law_number [] (mCons (mVar 2) mNil))))
  (sSeq (sSet 6 mDnew)
  (sSeq (sFor (mSeq (mVar 3)) (gPut 7) (sSetD 6 (mVar 7) (mCall M__law_number [] (mCons (mVar 2) mNil))))
  (sSeq (sIf (mOr (mNot (mTest (mCall M__law_right [] (mCons (mVarF 4) (mCons (mVarF 5) (mCons (mVarF 6) mNil)))))) (mNot (mTest (mCall M__law_right [] (mCons (mFz (mUn fRev (mVar 4))) (mCons (mVarF 5) (mCons (mVarF 6) mNil))))))) (sRet (mC (.bl false))) sNext)
  (sIf (mNot (mTest (mCall M__law_called [] (mCons (mOp (fOr fIx fGetD) (mVar 4) (mC (.int 0))) (mCons (mVarF 6) (mCons (mFz (mSl (mC (.str "abcdefgh")) mNoPart (mPart (mOp fAdd (mC (.int 1)) (mCall M__law_take [] (mCons (mVar 2) (mCons (mC (.int 8)) mNil))))))) mNil)))))) (sRet (mC (.bl false))) sNext)))))))) [.fr sc, .fr (.int k), x2, x3, x4, x5, x6, x7] = some (.nx, [.fr sc, .fr (.int k), y2, y3, y4, y5, y6, y7]) ∧ (∀ q, y2 ≠ Sl.pv q) ∧ (∀ q, y3 ≠ Sl.pv q) ∧ (∀ q, y4 ≠ Sl.pv q) ∧ (∀ q, y5 ≠ Sl.pv q) ∧ (∀ q, y6 ≠ Sl.pv q) ∧ (∀ q, y7 ≠ Sl.pv q) := by
  obtain ⟨o, vo, w0⟩ := v_well ns k k0 k1
  have ko := callK_N vo
  rw [← hsc] at ko
  have s1 : sSet 2 (mCall M__law_well [] (mCons (mVarF 0) (mCons (mVarF 1) mNil))) [.fr sc, .fr (.int k), x2, x3, x4, x5, x6, x7] = some (.nx, [.fr sc, .fr (.int k), .lv o, x3, x4, x5, x6, x7]) := by
    clear hsc h3 h4 h5 h6 h7 w0 vo
    simp only [List.map_cons, List.map_nil] at ko
    cases x2 <;> first | exact absurd rfl (h2 _) | (clear h2; walk_at "evh")
  obtain ⟨r1, o1, c1, a1, b1, w1⟩ := tk2 6 w0 (by omega) (by decide) (by decide)
  obtain ⟨ss, o2, vn, nd, ln, lz, w2⟩ := v_names (m := 1 + r1) w1 (by omega) (by omega) (by omega)
  have c2 := cw2 vn rfl
  have s2 : sSet 3 (mCall M__law_names [] (mCons (mVar 2) (mCons (mOp fAdd (mC (.int 1)) (mCall M__law_take [] (mCons (mVar 2) (mCons (mC (.int 6)) mNil)))) mNil))) [.fr sc, .fr (.int k), .lv o, x3, x4, x5, x6, x7] = some (.nx, [.fr sc, .fr (.int k), .lv o2, .lv (.lst (ss.map A.str)), x4, x5, x6, x7]) := by
    clear hsc h2 h4 h5 h6 h7 w0 vo vn nd ln lz w2 w1 a1 b1 s1 ko
    simp only [List.map_cons, List.map_nil] at c2
    cases x3 <;> first | exact absurd rfl (h3 _) | (clear h3; walk_at "evh")
  have sl : ss.length ≤ 8 := by omega
  obtain ⟨x1, L1, o3, vs1, m1, w3⟩ := v_lsum w2 (by omega) nd sl
  obtain ⟨x2', L2, o4, vs2, m2, w4⟩ := v_lsum w3 (by omega) nd sl
  obtain ⟨x3', L3, o5, vs3, m3, w5⟩ := v_lsum w4 (by omega) nd sl
  have c3 := cw2 vs1 rfl
  have c4 := cw2 vs2 rfl
  have c5 := cw2 vs3 rfl
  have r3 : rngA 0 (3 : Int).toNat = [.int 0, .int 1, .int 2] := rfl
  have r2 : rngA 0 (2 : Int).toNat = [.int 0, .int 1] := rfl
  have q3 : (-(2 ^ 60) ≤ (3 : Int) ∧ (3 : Int) < 2 ^ 60) = True := by simp
  have q2 : (-(2 ^ 60) ≤ (2 : Int) ∧ (2 : Int) < 2 ^ 60) = True := by simp
  have l3 : (0 + 1 + 1 + 1 ≤ 100000) = True := by simp
  have l2 : (0 + 1 + 1 ≤ 100000) = True := by simp
  have s3 : sSet 4 (mComp 1 (mRng1 (mC (.int 3))) (gPut 8) mTrue (mCall M__law_sum [] (mCons (mVar 2) (mCons (mVarF 3) mNil)))) [.fr sc, .fr (.int k), .lv o2, .lv (.lst (ss.map A.str)), x4, x5, x6, x7] = some (.nx, [.fr sc, .fr (.int k), .lv o5, .fr (.lst (ss.map A.str)), .lv (.lst [sumA x1 L1, sumA x2' L2, sumA x3' L3]), x5, x6, x7]) := by
    clear hsc h2 h3 h5 h6 h7 w0 vo vn nd ln lz w2 w1 a1 b1 s1 s2 ko c1 c2 vs1 vs2 vs3 m1 m2 m3 w3 w4 w5 sl
    simp only [List.map_cons, List.map_nil] at c3 c4 c5
    cases x4 <;> first | exact absurd rfl (h4 _) | (clear h4; walk_at "evc")
  obtain ⟨f0, o6, c6, nf0, w6⟩ := nmb2 w5 (by omega)
  obtain ⟨f1, o7, c7, nf1, w7⟩ := nmb2 w6 (by omega)
  have s4 : sSet 5 (mComp 1 (mRng1 (mC (.int 2))) (gPut 8) mTrue (mCall M__law_number [] (mCons (mVar 2) mNil))) [.fr sc, .fr (.int k), .lv o5, .fr (.lst (ss.map A.str)), .lv (.lst [sumA x1 L1, sumA x2' L2, sumA x3' L3]), x5, x6, x7] = some (.nx, [.fr sc, .fr (.int k), .lv o7, .fr (.lst (ss.map A.str)), .lv (.lst [sumA x1 L1, sumA x2' L2, sumA x3' L3]), .lv (.lst [nm f0, nm f1]), x6, x7]) := by
    clear hsc h2 h3 h4 h6 h7 w0 vo vn nd ln lz w2 w1 a1 b1 s1 s2 s3 ko c1 c2 c3 c4 c5 vs1 vs2 vs3 m1 m2 m3 w3 w4 w5 sl w6 w7 nf0 nf1
    cases x5 <;> first | exact absurd rfl (h5 _) | (clear h5; walk_at "evc")
  have s5 : sSet 6 mDnew [.fr sc, .fr (.int k), .lv o7, .fr (.lst (ss.map A.str)), .lv (.lst [sumA x1 L1, sumA x2' L2, sumA x3' L3]), .lv (.lst [nm f0, nm f1]), x6, x7] = some (.nx, [.fr sc, .fr (.int k), .lv o7, .fr (.lst (ss.map A.str)), .lv (.lst [sumA x1 L1, sumA x2' L2, sumA x3' L3]), .lv (.lst [nm f0, nm f1]), .lv (.dic []), x7]) := by
    cases x6 <;> first | exact absurd rfl (h6 _) | rfl
  obtain ⟨ρ1, hf, g, o8, y7, rfl, hg, w8, h7'⟩ := forL_ind (G := gPut 7) (b := sSetD 6 (mVar 7) (mCall M__law_number [] (mCons (mVar 2) mNil))) (as := ss.map A.str)
    (fun i ρ => ∃ (g : Str → Num) (o8 : LO) (y7 : Sl), ρ = [.fr sc, .fr (.int k), .lv o8, .fr (.lst (ss.map A.str)), .lv (.lst [sumA x1 L1, sumA x2' L2, sumA x3' L3]), .lv (.lst [nm f0, nm f1]), .lv (.dic (dicOf (ss.take i) fun n => nm (g n))), y7] ∧ (∀ n ∈ ss.take i, NB 60 (g n)) ∧ Wl (40000 + 3 * i) o8 ∧ (∀ q, y7 ≠ Sl.pv q))
    (ρ := [.fr sc, .fr (.int k), .lv o7, .fr (.lst (ss.map A.str)), .lv (.lst [sumA x1 L1, sumA x2' L2, sumA x3' L3]), .lv (.lst [nm f0, nm f1]), .lv (.dic []), x7])
    ⟨fun _ => (0, 1), o7, x7, rfl, (fun n hn => by cases hn), w7.mono (by omega), h7⟩ (by
      clear s1 s2 s3 s4 s5 c1 c2 c3 c4 c5 c6 c7 h2 h3 h4 h5 h6 h7
      rintro i a ρ ha ⟨g, o8, y7, rfl, hg, w8, h7⟩
      obtain ⟨n, hm, rfl⟩ : ∃ m, ss[i]? = some m ∧ A.str m = a := by
        rw [List.getElem?_map] at ha
        cases e : ss[i]? with
        | none => rw [e] at ha; cases ha
        | some p => rw [e] at ha; exact ⟨p, rfl, Option.some.inj ha⟩
      have li : i < ss.length := (List.getElem?_eq_some_iff.mp hm).1
      obtain ⟨x, o9, c9, nx, w9⟩ := nmb2 w8 (by omega)
      have hne : n ∉ ss.take i := fun z => by
        obtain ⟨j, hj, ej⟩ := List.getElem_of_mem z
        rw [List.length_take] at hj
        rw [List.getElem_take] at ej
        have e2 := (List.getElem?_eq_some_iff.mp hm).2
        exact List.pairwise_iff_getElem.mp nd j i (by omega) li (by omega) (ej.trans e2.symm)
      have hpt := putA_dic (ss.take i) (fun m => nm (g m)) n (nm x)
      rw [if_neg hne] at hpt
      have hd : dicOf (ss.take i ++ [n]) (fun m => if m = n then nm x else nm (g m)) = dicOf (ss.take (i + 1)) (fun m => nm (if m = n then x else g m)) := by
        rw [take_snoc hm]
        refine dicOf_congr fun m _ => ?_
        by_cases z : m = n
        · rw [if_pos z, if_pos z]
        · rw [if_neg z, if_neg z]
      rw [hd] at hpt
      have hlen : ((dicOf (ss.take i) fun m => nm (g m)).length ≤ 100000) = True := by simp only [eq_iff_iff, iff_true, dicOf_len, List.length_take]; omega
      refine ⟨[.fr sc, .fr (.int k), .lv o8, .fr (.lst (ss.map A.str)), .lv (.lst [sumA x1 L1, sumA x2' L2, sumA x3' L3]), .lv (.lst [nm f0, nm f1]), .lv (.dic (dicOf (ss.take i) fun n => nm (g n))), .fr (.str n)], [.fr sc, .fr (.int k), .lv o9, .fr (.lst (ss.map A.str)), .lv (.lst [sumA x1 L1, sumA x2' L2, sumA x3' L3]), .lv (.lst [nm f0, nm f1]), .lv (.dic (dicOf (ss.take (i + 1)) (fun m => nm (if m = n then x else g m)))), .fr (.str n)], ?_, .inl ?_, fun m => if m = n then x else g m, o9, .fr (.str n), rfl, ?_, w9.mono (by omega), (fun q z => by cases z)⟩
      · cases y7 <;> first | rfl | exact absurd rfl (h7 _)
      · clear ha hm h7 hd hne li hg nx w8 w9 nd
        walk_at "evh"
      · intro m hmm
        show NB 60 (if m = n then x else g m)
        by_cases z : m = n
        · rw [if_pos z]; exact nx
        · rw [if_neg z]
          rw [take_snoc hm] at hmm
          exact hg m ((List.mem_append.mp hmm).resolve_right fun e => z (List.mem_singleton.mp e)))
  rw [List.length_map, List.take_length] at hf
  rw [List.length_map] at w8
  rw [List.length_map, List.take_length] at hg
  have s6 : sFor (mSeq (mVar 3)) (gPut 7) (sSetD 6 (mVar 7) (mCall M__law_number [] (mCons (mVar 2) mNil))) [.fr sc, .fr (.int k), .lv o7, .fr (.lst (ss.map A.str)), .lv (.lst [sumA x1 L1, sumA x2' L2, sumA x3' L3]), .lv (.lst [nm f0, nm f1]), .lv (.dic []), x7] = some (.nx, [.fr sc, .fr (.int k), .lv o8, .fr (.lst (ss.map A.str)), .lv (.lst [sumA x1 L1, sumA x2' L2, sumA x3' L3]), .lv (.lst [nm f0, nm f1]), .lv (.dic (dicOf ss fun n => nm (g n))), y7]) := by
    rw [← hf]; rfl
  have hlz : ∀ n ∈ ss, n.length ≤ 900 := fun n hn => by have := lz n hn; have := Nat.mul_le_mul_left 20 sl; omega
  have m1' := m1.mono (Nat.le_refl 60) sl
  have m2' := m2.mono (Nat.le_refl 60) sl
  have m3' := m3.mono (Nat.le_refl 60) sl
  have kr1 := callK_V (v_right nd m1' m2' m3' nf0 nf1 (fun n hn => hn) hg (fun n hn => by have := hlz n hn; omega))
  have kr2 := callK_V (v_right nd m3' m2' m1' nf0 nf1 (fun n hn => hn) hg (fun n hn => by have := hlz n hn; omega))
  have s7 : sIf (mOr (mNot (mTest (mCall M__law_right [] (mCons (mVarF 4) (mCons (mVarF 5) (mCons (mVarF 6) mNil)))))) (mNot (mTest (mCall M__law_right [] (mCons (mFz (mUn fRev (mVar 4))) (mCons (mVarF 5) (mCons (mVarF 6) mNil))))))) (sRet (mC (.bl false))) sNext [.fr sc, .fr (.int k), .lv o8, .fr (.lst (ss.map A.str)), .lv (.lst [sumA x1 L1, sumA x2' L2, sumA x3' L3]), .lv (.lst [nm f0, nm f1]), .lv (.dic (dicOf ss fun n => nm (g n))), y7] = some (.nx, [.fr sc, .fr (.int k), .lv o8, .fr (.lst (ss.map A.str)), .fr (.lst [sumA x1 L1, sumA x2' L2, sumA x3' L3]), .fr (.lst [nm f0, nm f1]), .fr (.dic (dicOf ss fun n => nm (g n))), y7]) := by
    have ev : ∀ a b c : A, fRev (.lst [a, b, c]) = some (.nw (.lst [c, b, a])) := fun a b c => rfl
    clear s1 s2 s3 s4 s5 s6 hf c1 c2 c3 c4 c5 c6 c7 h2 h3 h4 h5 h6 h7 h7' m1 m2 m3 m1' m2' m3' nf0 nf1 hg hlz lz
    simp only [List.map_cons, List.map_nil] at kr1 kr2
    walk_at "evh"
  obtain ⟨rw', ow, cw', aw, bw, ww⟩ := tk2 8 w8 (by omega) (by decide) (by decide)
  have wl : (Txt.slice (("abcdefgh" : String) : Str) none (some (1 + rw'))).length ≤ 50 := Nat.le_trans (Txt.slice_le _ _ _) (by decide +kernel)
  have wa : ((("abcdefgh" : String) : Str).length ≤ 100000) = True := by simp only [eq_iff_iff, iff_true]; decide +kernel
  have kc := callK_V (v_called m1' nd sl (fun n hn => hn) hg hlz wl)
  have s8 : sIf (mNot (mTest (mCall M__law_called [] (mCons (mOp (fOr fIx fGetD) (mVar 4) (mC (.int 0))) (mCons (mVarF 6) (mCons (mFz (mSl (mC (.str "abcdefgh")) mNoPart (mPart (mOp fAdd (mC (.int 1)) (mCall M__law_take [] (mCons (mVar 2) (mCons (mC (.int 8)) mNil))))))) mNil)))))) (sRet (mC (.bl false))) sNext [.fr sc, .fr (.int k), .lv o8, .fr (.lst (ss.map A.str)), .fr (.lst [sumA x1 L1, sumA x2' L2, sumA x3' L3]), .fr (.lst [nm f0, nm f1]), .fr (.dic (dicOf ss fun n => nm (g n))), y7] = some (.nx, [.fr sc, .fr (.int k), .lv ow, .fr (.lst (ss.map A.str)), .fr (.lst [sumA x1 L1, sumA x2' L2, sumA x3' L3]), .fr (.lst [nm f0, nm f1]), .fr (.dic (dicOf ss fun n => nm (g n))), y7]) := by
    clear s1 s2 s3 s4 s5 s6 s7 kr1 kr2 hf c1 c2 c3 c4 c5 c6 c7 h2 h3 h4 h5 h6 h7 h7' m1 m2 m3 m1' m2' m3' nf0 nf1 hg hlz lz
    have es : fSl (.str (("abcdefgh" : String) : Str)) none (some (1 + rw')) = some (.fr (.str (Txt.slice (("abcdefgh" : String) : Str) none (some (1 + rw'))))) := by
      unfold fSl
      simp only [wa, if_true]
    simp only [List.map_cons, List.map_nil] at kc
    clear wa wl
    walk_at "evh"
  refine ⟨.lv ow, .fr (.lst (ss.map A.str)), .fr (.lst [sumA x1 L1, sumA x2' L2, sumA x3' L3]), .fr (.lst [nm f0, nm f1]), .fr (.dic (dicOf ss fun n => nm (g n))), y7, ?_, (fun q z => by cases z), (fun q z => by cases z), (fun q z => by cases z), (fun q z => by cases z), (fun q z => by cases z), h7'⟩
  rw [e_seq, s1]; simp only
  rw [e_seq, s2]; simp only
  rw [e_seq, s3]; simp only
  rw [e_seq, s4]; simp only
  rw [e_seq, s5]; simp only
  rw [e_seq, s6]; simp only
  rw [e_seq, s7]; simp only
  rw [s8]
theorem law_true : ∀ ns : List Int, ns.length ≤ 63 → ∃ ρ, M_law [.fr (.lst (ns.map A.int))] = some (.rt (.fr (.bl true)), ρ) := by
  intro ns hns
  generalize hsc : A.lst (ns.map A.int) = sc
  let top : Int := if (if (20 : Int) < ((ns.map A.int).length : Int) then 20 else ((ns.map A.int).length : Int)) > 1 then (if (20 : Int) < ((ns.map A.int).length : Int) then 20 else ((ns.map A.int).length : Int)) else 1
  have ht : top ≤ 100 ∧ 1 ≤ top := by
    show (if (if (20 : Int) < ((ns.map A.int).length : Int) then 20 else ((ns.map A.int).length : Int)) > 1 then (if (20 : Int) < ((ns.map A.int).length : Int) then 20 else ((ns.map A.int).length : Int)) else 1) ≤ 100 ∧ 1 ≤ (if (if (20 : Int) < ((ns.map A.int).length : Int) then 20 else ((ns.map A.int).length : Int)) > 1 then (if (20 : Int) < ((ns.map A.int).length : Int) then 20 else ((ns.map A.int).length : Int)) else 1)
    rw [List.length_map]
    constructor <;> (repeat' split) <;> omega
  obtain ⟨ρ', hf, x1, x2, x3, x4, x5, x6, x7, rfl, _⟩ := forL_ind (G := gPut 1) (b := (sSeq (sSet 2 (mCall M__law_well [] (mCons (mVarF 0) (mCons (mVarF 1) mNil))))
  (sSeq (sSet 3 (mCall M__law_names [] (mCons (mVar 2) (mCons (mOp fAdd (mC (.int 1)) (mCall M__law_take [] (mCons (mVar 2) (mCons (mC (.int 6)) mNil)))) mNil))))
  (sSeq (sSet 4 (mComp 1 (mRng1 (mC (.int 3))) (gPut 8) mTrue (mCall M__law_sum [] (mCons (mVar 2) (mCons (mVarF 3) mNil)))))
  (sSeq (sSet 5 (mComp 1 (mRng1 (mC (.int 2))) (gPut 8) mTrue (mCall M__law_number [] (mCons (mVar 2) mNil))))
  (sSeq (sSet 6 mDnew)
  (sSeq (sFor (mSeq (mVar 3)) (gPut 7) (sSetD 6 (mVar 7) (mCall M__law_number [] (mCons (mVar 2) mNil))))
  (sSeq (sIf (mOr (mNot (mTest (mCall M__law_right [] (mCons (mVarF 4) (mCons (mVarF 5) (mCons (mVarF 6) mNil)))))) (mNot (mTest (mCall M__law_right [] (mCons (mFz (mUn fRev (mVar 4))) (mCons (mVarF 5) (mCons (mVarF 6) mNil))))))) (sRet (mC (.bl false))) sNext)
  (sIf (mNot (mTest (mCall M__law_called [] (mCons (mOp (fOr fIx fGetD) (mVar 4) (mC (.int 0))) (mCons (mVarF 6) (mCons (mFz (mSl (mC (.str "abcdefgh")) mNoPart (mPart (mOp fAdd (mC (.int 1)) (mCall M__law_take [] (mCons (mVar 2) (mCons (mC (.int 8)) mNil))))))) mNil)))))) (sRet (mC (.bl false))) sNext))))))))) (as := rngA 0 top.toNat)
    (fun i ρ => ∃ x1 x2 x3 x4 x5 x6 x7 : Sl, ρ = [.fr sc, x1, x2, x3, x4, x5, x6, x7] ∧ (∀ q, x1 ≠ Sl.pv q) ∧ (∀ q, x2 ≠ Sl.pv q) ∧ (∀ q, x3 ≠ Sl.pv q) ∧ (∀ q, x4 ≠ Sl.pv q) ∧ (∀ q, x5 ≠ Sl.pv q) ∧ (∀ q, x6 ≠ Sl.pv q) ∧ (∀ q, x7 ≠ Sl.pv q))
    (ρ := [.fr sc, .un, .un, .un, .un, .un, .un, .un]) ⟨.un, .un, .un, .un, .un, .un, .un, rfl, (fun q z => by cases z), (fun q z => by cases z), (fun q z => by cases z), (fun q z => by cases z), (fun q z => by cases z), (fun q z => by cases z), (fun q z => by cases z)⟩ (by
      rintro i a ρ ha ⟨x1, x2, x3, x4, x5, x6, x7, rfl, h1, h2, h3, h4, h5, h6, h7⟩
      have hi : i < top.toNat := by
        have := (List.getElem?_eq_some_iff.mp ha).1
        simp [rngA] at this
        omega
      obtain rfl : a = .int i := by
        unfold rngA at ha
        rw [List.getElem?_map, List.getElem?_range hi] at ha
        simp at ha
        exact ha.symm
      obtain ⟨y2, y3, y4, y5, y6, y7, e, g2, g3, g4, g5, g6, g7⟩ := law_iter sc i ns hsc.symm (by omega) (by omega) x2 x3 x4 x5 x6 x7 h2 h3 h4 h5 h6 h7
      exact ⟨[.fr sc, .fr (.int i), x2, x3, x4, x5, x6, x7], _, by cases x1 <;> first | rfl | exact absurd rfl (h1 _), .inl e, .fr (.int i), y2, y3, y4, y5, y6, y7, rfl, (fun q z => by cases z), g2, g3, g4, g5, g6, g7⟩)
  have q2 : (-(2 ^ 60) ≤ top ∧ top < 2 ^ 60) = True := by simp only [eq_iff_iff, iff_true]; omega
  subst hsc
  clear ht
  unfold M_law m_law
  simp only [top] at q2 hf
  walk_at "evh"
  exact ⟨_, rfl⟩
end W
set_option maxHeartbeats 4000000
namespace W
open PySem L2
theorem txt_mk {K : PySem.W.Frag} {h : Heap} {mg : Str → Option Value} (X : K.In h) (G : h.Ns mainGlobals mg)
    {f_common_divisor : Addr} {od_common_divisor an_common_divisor : Option Addr} {sl_common_divisor : Array (Option Value)} {oc_common_divisor kV_common_divisor dc_common_divisor pm_common_divisor cd_common_divisor ct_common_divisor : Value}
    {f_lowest_terms : Addr} {od_lowest_terms an_lowest_terms : Option Addr} {sl_lowest_terms : Array (Option Value)} {oc_lowest_terms kV_lowest_terms dc_lowest_terms pm_lowest_terms cd_lowest_terms ct_lowest_terms : Value}
    {f_plus : Addr} {od_plus an_plus : Option Addr} {sl_plus : Array (Option Value)} {oc_plus kV_plus dc_plus pm_plus cd_plus ct_plus : Value}
    {f_times : Addr} {od_times an_times : Option Addr} {sl_times : Array (Option Value)} {oc_times kV_times dc_times pm_times cd_times ct_times : Value}
    {f_sum_of : Addr} {od_sum_of an_sum_of : Option Addr} {sl_sum_of : Array (Option Value)} {oc_sum_of kV_sum_of dc_sum_of pm_sum_of cd_sum_of ct_sum_of : Value}
    {f_sum_plus : Addr} {od_sum_plus an_sum_plus : Option Addr} {sl_sum_plus : Array (Option Value)} {oc_sum_plus kV_sum_plus dc_sum_plus pm_sum_plus cd_sum_plus ct_sum_plus : Value}
    {f_sum_minus : Addr} {od_sum_minus an_sum_minus : Option Addr} {sl_sum_minus : Array (Option Value)} {oc_sum_minus kV_sum_minus dc_sum_minus pm_sum_minus cd_sum_minus ct_sum_minus : Value}
    {f_sum_times : Addr} {od_sum_times an_sum_times : Option Addr} {sl_sum_times : Array (Option Value)} {oc_sum_times kV_sum_times dc_sum_times pm_sum_times cd_sum_times ct_sum_times : Value}
    {f_sum_at : Addr} {od_sum_at an_sum_at : Option Addr} {sl_sum_at : Array (Option Value)} {oc_sum_at kV_sum_at dc_sum_at pm_sum_at cd_sum_at ct_sum_at : Value}
    {f_sum_called : Addr} {od_sum_called an_sum_called : Option Addr} {sl_sum_called : Array (Option Value)} {oc_sum_called kV_sum_called dc_sum_called pm_sum_called cd_sum_called ct_sum_called : Value}
    {f__law_well : Addr} {od__law_well an__law_well : Option Addr} {sl__law_well : Array (Option Value)} {oc__law_well kV__law_well dc__law_well pm__law_well cd__law_well ct__law_well : Value}
    {f__law_take : Addr} {od__law_take an__law_take : Option Addr} {sl__law_take : Array (Option Value)} {oc__law_take kV__law_take dc__law_take pm__law_take cd__law_take ct__law_take : Value}
    {f__law_common : Addr} {od__law_common an__law_common : Option Addr} {sl__law_common : Array (Option Value)} {oc__law_common kV__law_common dc__law_common pm__law_common cd__law_common ct__law_common : Value}
    {f__law_num : Addr} {od__law_num an__law_num : Option Addr} {sl__law_num : Array (Option Value)} {oc__law_num kV__law_num dc__law_num pm__law_num cd__law_num ct__law_num : Value}
    {f__law_add : Addr} {od__law_add an__law_add : Option Addr} {sl__law_add : Array (Option Value)} {oc__law_add kV__law_add dc__law_add pm__law_add cd__law_add ct__law_add : Value}
    {f__law_mul : Addr} {od__law_mul an__law_mul : Option Addr} {sl__law_mul : Array (Option Value)} {oc__law_mul kV__law_mul dc__law_mul pm__law_mul cd__law_mul ct__law_mul : Value}
    {f__law_number : Addr} {od__law_number an__law_number : Option Addr} {sl__law_number : Array (Option Value)} {oc__law_number kV__law_number dc__law_number pm__law_number cd__law_number ct__law_number : Value}
    {f__law_name : Addr} {od__law_name an__law_name : Option Addr} {sl__law_name : Array (Option Value)} {oc__law_name kV__law_name dc__law_name pm__law_name cd__law_name ct__law_name : Value}
    {f__law_names : Addr} {od__law_names an__law_names : Option Addr} {sl__law_names : Array (Option Value)} {oc__law_names kV__law_names dc__law_names pm__law_names cd__law_names ct__law_names : Value}
    {f__law_sum : Addr} {od__law_sum an__law_sum : Option Addr} {sl__law_sum : Array (Option Value)} {oc__law_sum kV__law_sum dc__law_sum pm__law_sum cd__law_sum ct__law_sum : Value}
    {f__law_right : Addr} {od__law_right an__law_right : Option Addr} {sl__law_right : Array (Option Value)} {oc__law_right kV__law_right dc__law_right pm__law_right cd__law_right ct__law_right : Value}
    {f__law_called : Addr} {od__law_called an__law_called : Option Addr} {sl__law_called : Array (Option Value)} {oc__law_called kV__law_called dc__law_called pm__law_called cd__law_called ct__law_called : Value}
    {f_law : Addr} {od_law an_law : Option Addr} {sl_law : Array (Option Value)} {oc_law kV_law dc_law pm_law cd_law ct_law : Value}
    {C_NoSum : Addr}
    {K_ZERO : Addr} {kc_ZERO : Option Addr} {ka_ZERO kb_ZERO : Tok} {kn_ZERO : Nat} {ks_ZERO : Array (Option Value)}
    {K_MINUS_ONE : Addr} {kc_MINUS_ONE : Option Addr} {ka_MINUS_ONE kb_MINUS_ONE : Tok} {kn_MINUS_ONE : Nat} {ks_MINUS_ONE : Array (Option Value)}
    (a_common_divisor : PySem.W.nsIn K mainGlobals "common_divisor" = some (some (.ref f_common_divisor)))
    (l_common_divisor : K.lookup f_common_divisor = some ⟨oc_common_divisor, od_common_divisor, .func (PySem.W.fnOf "common_divisor" "common_divisor" (defArgs s_common_divisor) (defBody s_common_divisor) (defScope s_common_divisor) .none kV_common_divisor dc_common_divisor pm_common_divisor an_common_divisor cd_common_divisor ct_common_divisor), sl_common_divisor⟩)
    (c_common_divisor : PySem.W.codeIn K cd_common_divisor "common_divisor" = true)
    (k_common_divisor : PySem.W.keepIn K (.ref f_common_divisor) = true)
    (a_lowest_terms : PySem.W.nsIn K mainGlobals "lowest_terms" = some (some (.ref f_lowest_terms)))
    (l_lowest_terms : K.lookup f_lowest_terms = some ⟨oc_lowest_terms, od_lowest_terms, .func (PySem.W.fnOf "lowest_terms" "lowest_terms" (defArgs s_lowest_terms) (defBody s_lowest_terms) (defScope s_lowest_terms) .none kV_lowest_terms dc_lowest_terms pm_lowest_terms an_lowest_terms cd_lowest_terms ct_lowest_terms), sl_lowest_terms⟩)
    (c_lowest_terms : PySem.W.codeIn K cd_lowest_terms "lowest_terms" = true)
    (k_lowest_terms : PySem.W.keepIn K (.ref f_lowest_terms) = true)
    (a_plus : PySem.W.nsIn K mainGlobals "plus" = some (some (.ref f_plus)))
    (l_plus : K.lookup f_plus = some ⟨oc_plus, od_plus, .func (PySem.W.fnOf "plus" "plus" (defArgs s_plus) (defBody s_plus) (defScope s_plus) .none kV_plus dc_plus pm_plus an_plus cd_plus ct_plus), sl_plus⟩)
    (c_plus : PySem.W.codeIn K cd_plus "plus" = true)
    (k_plus : PySem.W.keepIn K (.ref f_plus) = true)
    (a_times : PySem.W.nsIn K mainGlobals "times" = some (some (.ref f_times)))
    (l_times : K.lookup f_times = some ⟨oc_times, od_times, .func (PySem.W.fnOf "times" "times" (defArgs s_times) (defBody s_times) (defScope s_times) .none kV_times dc_times pm_times an_times cd_times ct_times), sl_times⟩)
    (c_times : PySem.W.codeIn K cd_times "times" = true)
    (k_times : PySem.W.keepIn K (.ref f_times) = true)
    (a_sum_of : PySem.W.nsIn K mainGlobals "sum_of" = some (some (.ref f_sum_of)))
    (l_sum_of : K.lookup f_sum_of = some ⟨oc_sum_of, od_sum_of, .func (PySem.W.fnOf "sum_of" "sum_of" (defArgs s_sum_of) (defBody s_sum_of) (defScope s_sum_of) .none kV_sum_of dc_sum_of pm_sum_of an_sum_of cd_sum_of ct_sum_of), sl_sum_of⟩)
    (c_sum_of : PySem.W.codeIn K cd_sum_of "sum_of" = true)
    (k_sum_of : PySem.W.keepIn K (.ref f_sum_of) = true)
    (a_sum_plus : PySem.W.nsIn K mainGlobals "sum_plus" = some (some (.ref f_sum_plus)))
    (l_sum_plus : K.lookup f_sum_plus = some ⟨oc_sum_plus, od_sum_plus, .func (PySem.W.fnOf "sum_plus" "sum_plus" (defArgs s_sum_plus) (defBody s_sum_plus) (defScope s_sum_plus) .none kV_sum_plus dc_sum_plus pm_sum_plus an_sum_plus cd_sum_plus ct_sum_plus), sl_sum_plus⟩)
    (c_sum_plus : PySem.W.codeIn K cd_sum_plus "sum_plus" = true)
    (k_sum_plus : PySem.W.keepIn K (.ref f_sum_plus) = true)
    (a_sum_minus : PySem.W.nsIn K mainGlobals "sum_minus" = some (some (.ref f_sum_minus)))
    (l_sum_minus : K.lookup f_sum_minus = some ⟨oc_sum_minus, od_sum_minus, .func (PySem.W.fnOf "sum_minus" "sum_minus" (defArgs s_sum_minus) (defBody s_sum_minus) (defScope s_sum_minus) .none kV_sum_minus dc_sum_minus pm_sum_minus an_sum_minus cd_sum_minus ct_sum_minus), sl_sum_minus⟩)
    (c_sum_minus : PySem.W.codeIn K cd_sum_minus "sum_minus" = true)
    (k_sum_minus : PySem.W.keepIn K (.ref f_sum_minus) = true)
    (a_sum_times : PySem.W.nsIn K mainGlobals "sum_times" = some (some (.ref f_sum_times)))
    (l_sum_times : K.lookup f_sum_times = some ⟨oc_sum_times, od_sum_times, .func (PySem.W.fnOf "sum_times" "sum_times" (defArgs s_sum_times) (defBody s_sum_times) (defScope s_sum_times) .none kV_sum_times dc_sum_times pm_sum_times an_sum_times cd_sum_times ct_sum_times), sl_sum_times⟩)
    (c_sum_times : PySem.W.codeIn K cd_sum_times "sum_times" = true)
    (k_sum_times : PySem.W.keepIn K (.ref f_sum_times) = true)
    (a_sum_at : PySem.W.nsIn K mainGlobals "sum_at" = some (some (.ref f_sum_at)))
    (l_sum_at : K.lookup f_sum_at = some ⟨oc_sum_at, od_sum_at, .func (PySem.W.fnOf "sum_at" "sum_at" (defArgs s_sum_at) (defBody s_sum_at) (defScope s_sum_at) .none kV_sum_at dc_sum_at pm_sum_at an_sum_at cd_sum_at ct_sum_at), sl_sum_at⟩)
    (c_sum_at : PySem.W.codeIn K cd_sum_at "sum_at" = true)
    (k_sum_at : PySem.W.keepIn K (.ref f_sum_at) = true)
    (a_sum_called : PySem.W.nsIn K mainGlobals "sum_called" = some (some (.ref f_sum_called)))
    (l_sum_called : K.lookup f_sum_called = some ⟨oc_sum_called, od_sum_called, .func (PySem.W.fnOf "sum_called" "sum_called" (defArgs s_sum_called) (defBody s_sum_called) (defScope s_sum_called) .none kV_sum_called dc_sum_called pm_sum_called an_sum_called cd_sum_called ct_sum_called), sl_sum_called⟩)
    (c_sum_called : PySem.W.codeIn K cd_sum_called "sum_called" = true)
    (k_sum_called : PySem.W.keepIn K (.ref f_sum_called) = true)
    (a__law_well : PySem.W.nsIn K mainGlobals "_law_well" = some (some (.ref f__law_well)))
    (l__law_well : K.lookup f__law_well = some ⟨oc__law_well, od__law_well, .func (PySem.W.fnOf "_law_well" "_law_well" (defArgs s__law_well) (defBody s__law_well) (defScope s__law_well) .none kV__law_well dc__law_well pm__law_well an__law_well cd__law_well ct__law_well), sl__law_well⟩)
    (c__law_well : PySem.W.codeIn K cd__law_well "_law_well" = true)
    (k__law_well : PySem.W.keepIn K (.ref f__law_well) = true)
    (a__law_take : PySem.W.nsIn K mainGlobals "_law_take" = some (some (.ref f__law_take)))
    (l__law_take : K.lookup f__law_take = some ⟨oc__law_take, od__law_take, .func (PySem.W.fnOf "_law_take" "_law_take" (defArgs s__law_take) (defBody s__law_take) (defScope s__law_take) .none kV__law_take dc__law_take pm__law_take an__law_take cd__law_take ct__law_take), sl__law_take⟩)
    (c__law_take : PySem.W.codeIn K cd__law_take "_law_take" = true)
    (k__law_take : PySem.W.keepIn K (.ref f__law_take) = true)
    (a__law_common : PySem.W.nsIn K mainGlobals "_law_common" = some (some (.ref f__law_common)))
    (l__law_common : K.lookup f__law_common = some ⟨oc__law_common, od__law_common, .func (PySem.W.fnOf "_law_common" "_law_common" (defArgs s__law_common) (defBody s__law_common) (defScope s__law_common) .none kV__law_common dc__law_common pm__law_common an__law_common cd__law_common ct__law_common), sl__law_common⟩)
    (c__law_common : PySem.W.codeIn K cd__law_common "_law_common" = true)
    (k__law_common : PySem.W.keepIn K (.ref f__law_common) = true)
    (a__law_num : PySem.W.nsIn K mainGlobals "_law_num" = some (some (.ref f__law_num)))
    (l__law_num : K.lookup f__law_num = some ⟨oc__law_num, od__law_num, .func (PySem.W.fnOf "_law_num" "_law_num" (defArgs s__law_num) (defBody s__law_num) (defScope s__law_num) .none kV__law_num dc__law_num pm__law_num an__law_num cd__law_num ct__law_num), sl__law_num⟩)
    (c__law_num : PySem.W.codeIn K cd__law_num "_law_num" = true)
    (k__law_num : PySem.W.keepIn K (.ref f__law_num) = true)
    (a__law_add : PySem.W.nsIn K mainGlobals "_law_add" = some (some (.ref f__law_add)))
    (l__law_add : K.lookup f__law_add = some ⟨oc__law_add, od__law_add, .func (PySem.W.fnOf "_law_add" "_law_add" (defArgs s__law_add) (defBody s__law_add) (defScope s__law_add) .none kV__law_add dc__law_add pm__law_add an__law_add cd__law_add ct__law_add), sl__law_add⟩)
    (c__law_add : PySem.W.codeIn K cd__law_add "_law_add" = true)
    (k__law_add : PySem.W.keepIn K (.ref f__law_add) = true)
    (a__law_mul : PySem.W.nsIn K mainGlobals "_law_mul" = some (some (.ref f__law_mul)))
    (l__law_mul : K.lookup f__law_mul = some ⟨oc__law_mul, od__law_mul, .func (PySem.W.fnOf "_law_mul" "_law_mul" (defArgs s__law_mul) (defBody s__law_mul) (defScope s__law_mul) .none kV__law_mul dc__law_mul pm__law_mul an__law_mul cd__law_mul ct__law_mul), sl__law_mul⟩)
    (c__law_mul : PySem.W.codeIn K cd__law_mul "_law_mul" = true)
    (k__law_mul : PySem.W.keepIn K (.ref f__law_mul) = true)
    (a__law_number : PySem.W.nsIn K mainGlobals "_law_number" = some (some (.ref f__law_number)))
    (l__law_number : K.lookup f__law_number = some ⟨oc__law_number, od__law_number, .func (PySem.W.fnOf "_law_number" "_law_number" (defArgs s__law_number) (defBody s__law_number) (defScope s__law_number) .none kV__law_number dc__law_number pm__law_number an__law_number cd__law_number ct__law_number), sl__law_number⟩)
    (c__law_number : PySem.W.codeIn K cd__law_number "_law_number" = true)
    (k__law_number : PySem.W.keepIn K (.ref f__law_number) = true)
    (a__law_name : PySem.W.nsIn K mainGlobals "_law_name" = some (some (.ref f__law_name)))
    (l__law_name : K.lookup f__law_name = some ⟨oc__law_name, od__law_name, .func (PySem.W.fnOf "_law_name" "_law_name" (defArgs s__law_name) (defBody s__law_name) (defScope s__law_name) .none kV__law_name dc__law_name pm__law_name an__law_name cd__law_name ct__law_name), sl__law_name⟩)
    (c__law_name : PySem.W.codeIn K cd__law_name "_law_name" = true)
    (k__law_name : PySem.W.keepIn K (.ref f__law_name) = true)
    (a__law_names : PySem.W.nsIn K mainGlobals "_law_names" = some (some (.ref f__law_names)))
    (l__law_names : K.lookup f__law_names = some ⟨oc__law_names, od__law_names, .func (PySem.W.fnOf "_law_names" "_law_names" (defArgs s__law_names) (defBody s__law_names) (defScope s__law_names) .none kV__law_names dc__law_names pm__law_names an__law_names cd__law_names ct__law_names), sl__law_names⟩)
    (c__law_names : PySem.W.codeIn K cd__law_names "_law_names" = true)
    (k__law_names : PySem.W.keepIn K (.ref f__law_names) = true)
    (a__law_sum : PySem.W.nsIn K mainGlobals "_law_sum" = some (some (.ref f__law_sum)))
    (l__law_sum : K.lookup f__law_sum = some ⟨oc__law_sum, od__law_sum, .func (PySem.W.fnOf "_law_sum" "_law_sum" (defArgs s__law_sum) (defBody s__law_sum) (defScope s__law_sum) .none kV__law_sum dc__law_sum pm__law_sum an__law_sum cd__law_sum ct__law_sum), sl__law_sum⟩)
    (c__law_sum : PySem.W.codeIn K cd__law_sum "_law_sum" = true)
    (k__law_sum : PySem.W.keepIn K (.ref f__law_sum) = true)
    (a__law_right : PySem.W.nsIn K mainGlobals "_law_right" = some (some (.ref f__law_right)))
    (l__law_right : K.lookup f__law_right = some ⟨oc__law_right, od__law_right, .func (PySem.W.fnOf "_law_right" "_law_right" (defArgs s__law_right) (defBody s__law_right) (defScope s__law_right) .none kV__law_right dc__law_right pm__law_right an__law_right cd__law_right ct__law_right), sl__law_right⟩)
    (c__law_right : PySem.W.codeIn K cd__law_right "_law_right" = true)
    (k__law_right : PySem.W.keepIn K (.ref f__law_right) = true)
    (a__law_called : PySem.W.nsIn K mainGlobals "_law_called" = some (some (.ref f__law_called)))
    (l__law_called : K.lookup f__law_called = some ⟨oc__law_called, od__law_called, .func (PySem.W.fnOf "_law_called" "_law_called" (defArgs s__law_called) (defBody s__law_called) (defScope s__law_called) .none kV__law_called dc__law_called pm__law_called an__law_called cd__law_called ct__law_called), sl__law_called⟩)
    (c__law_called : PySem.W.codeIn K cd__law_called "_law_called" = true)
    (k__law_called : PySem.W.keepIn K (.ref f__law_called) = true)
    (a_law : PySem.W.nsIn K mainGlobals "law" = some (some (.ref f_law)))
    (l_law : K.lookup f_law = some ⟨oc_law, od_law, .func (PySem.W.fnOf "law" "law" (defArgs s_law) (defBody s_law) (defScope s_law) .none kV_law dc_law pm_law an_law cd_law ct_law), sl_law⟩)
    (c_law : PySem.W.codeIn K cd_law "law" = true)
    (k_law : PySem.W.keepIn K (.ref f_law) = true)
    (ac_NoSum : PySem.W.nsIn K mainGlobals "NoSum" = some (some (.ref C_NoSum)))
    (ak_ZERO : PySem.W.nsIn K mainGlobals "ZERO" = some (some (.ref K_ZERO)))
    (lk_ZERO : K.lookup K_ZERO = some ⟨.type "tuple", kc_ZERO, .seq #[.int (0) ka_ZERO, .int (1) kb_ZERO] kn_ZERO, ks_ZERO⟩)
    (ak_MINUS_ONE : PySem.W.nsIn K mainGlobals "MINUS_ONE" = some (some (.ref K_MINUS_ONE)))
    (lk_MINUS_ONE : K.lookup K_MINUS_ONE = some ⟨.type "tuple", kc_MINUS_ONE, .seq #[.int (-1) ka_MINUS_ONE, .int (1) kb_MINUS_ONE] kn_MINUS_ONE, ks_MINUS_ONE⟩)
    (z_len : PySem.W.nsIn K mainGlobals "len" = some none)
    (z_abs : PySem.W.nsIn K mainGlobals "abs" = some none)
    (z_max : PySem.W.nsIn K mainGlobals "max" = some none)
    (z_min : PySem.W.nsIn K mainGlobals "min" = some none)
    (z_int : PySem.W.nsIn K mainGlobals "int" = some none)
    (z_tuple : PySem.W.nsIn K mainGlobals "tuple" = some none)
    (z_list : PySem.W.nsIn K mainGlobals "list" = some none)
    (z_range : PySem.W.nsIn K mainGlobals "range" = some none)
    (z_sorted : PySem.W.nsIn K mainGlobals "sorted" = some none)
    (ex_NoSum : PySem.W.excIn K C_NoSum veMro "ValueError.__new__" = true) :
    ∃ a : Adr, Txt K mg a ∧ mg "law" = some (.ref a.f_law) ∧ ∀ (s : Shared) (v : Value), BindsTo s a.d_law ⟨[v], []⟩ [("_law_script", v)] := by
  have F_common_divisor := fund_mk (st := s_common_divisor) l_common_divisor c_common_divisor k_common_divisor
  have b_common_divisor := F_common_divisor.binds (ps := ["a", "b"]) fun _ _ _ _ _ _ us hl => match us, hl with | [_, _], _ => rfl
  have F_lowest_terms := fund_mk (st := s_lowest_terms) l_lowest_terms c_lowest_terms k_lowest_terms
  have b_lowest_terms := F_lowest_terms.binds (ps := ["top", "bottom"]) fun _ _ _ _ _ _ us hl => match us, hl with | [_, _], _ => rfl
  have F_plus := fund_mk (st := s_plus) l_plus c_plus k_plus
  have b_plus := F_plus.binds (ps := ["a", "b"]) fun _ _ _ _ _ _ us hl => match us, hl with | [_, _], _ => rfl
  have F_times := fund_mk (st := s_times) l_times c_times k_times
  have b_times := F_times.binds (ps := ["a", "b"]) fun _ _ _ _ _ _ us hl => match us, hl with | [_, _], _ => rfl
  have F_sum_of := fund_mk (st := s_sum_of) l_sum_of c_sum_of k_sum_of
  have b_sum_of := F_sum_of.binds (ps := ["number", "pairs"]) fun _ _ _ _ _ _ us hl => match us, hl with | [_, _], _ => rfl
  have F_sum_plus := fund_mk (st := s_sum_plus) l_sum_plus c_sum_plus k_sum_plus
  have b_sum_plus := F_sum_plus.binds (ps := ["a", "b"]) fun _ _ _ _ _ _ us hl => match us, hl with | [_, _], _ => rfl
  have F_sum_minus := fund_mk (st := s_sum_minus) l_sum_minus c_sum_minus k_sum_minus
  have b_sum_minus := F_sum_minus.binds (ps := ["a", "b"]) fun _ _ _ _ _ _ us hl => match us, hl with | [_, _], _ => rfl
  have F_sum_times := fund_mk (st := s_sum_times) l_sum_times c_sum_times k_sum_times
  have b_sum_times := F_sum_times.binds (ps := ["a", "number"]) fun _ _ _ _ _ _ us hl => match us, hl with | [_, _], _ => rfl
  have F_sum_at := fund_mk (st := s_sum_at) l_sum_at c_sum_at k_sum_at
  have b_sum_at := F_sum_at.binds (ps := ["a", "making"]) fun _ _ _ _ _ _ us hl => match us, hl with | [_, _], _ => rfl
  have F_sum_called := fund_mk (st := s_sum_called) l_sum_called c_sum_called k_sum_called
  have b_sum_called := F_sum_called.binds (ps := ["a", "word"]) fun _ _ _ _ _ _ us hl => match us, hl with | [_, _], _ => rfl
  have F__law_well := fund_mk (st := s__law_well) l__law_well c__law_well k__law_well
  have b__law_well := F__law_well.binds (ps := ["_law_script", "_law_k"]) fun _ _ _ _ _ _ us hl => match us, hl with | [_, _], _ => rfl
  have F__law_take := fund_mk (st := s__law_take) l__law_take c__law_take k__law_take
  have b__law_take := F__law_take.binds (ps := ["_law_well_here", "_law_many"]) fun _ _ _ _ _ _ us hl => match us, hl with | [_, _], _ => rfl
  have F__law_common := fund_mk (st := s__law_common) l__law_common c__law_common k__law_common
  have b__law_common := F__law_common.binds (ps := ["_law_one", "_law_other"]) fun _ _ _ _ _ _ us hl => match us, hl with | [_, _], _ => rfl
  have F__law_num := fund_mk (st := s__law_num) l__law_num c__law_num k__law_num
  have b__law_num := F__law_num.binds (ps := ["_law_top", "_law_bottom"]) fun _ _ _ _ _ _ us hl => match us, hl with | [_, _], _ => rfl
  have F__law_add := fund_mk (st := s__law_add) l__law_add c__law_add k__law_add
  have b__law_add := F__law_add.binds (ps := ["_law_one", "_law_other"]) fun _ _ _ _ _ _ us hl => match us, hl with | [_, _], _ => rfl
  have F__law_mul := fund_mk (st := s__law_mul) l__law_mul c__law_mul k__law_mul
  have b__law_mul := F__law_mul.binds (ps := ["_law_one", "_law_other"]) fun _ _ _ _ _ _ us hl => match us, hl with | [_, _], _ => rfl
  have F__law_number := fund_mk (st := s__law_number) l__law_number c__law_number k__law_number
  have b__law_number := F__law_number.binds (ps := ["_law_well_here"]) fun _ _ _ _ _ _ us hl => match us, hl with | [_], _ => rfl
  have F__law_name := fund_mk (st := s__law_name) l__law_name c__law_name k__law_name
  have b__law_name := F__law_name.binds (ps := ["_law_well_here", "_law_most"]) fun _ _ _ _ _ _ us hl => match us, hl with | [_, _], _ => rfl
  have F__law_names := fund_mk (st := s__law_names) l__law_names c__law_names k__law_names
  have b__law_names := F__law_names.binds (ps := ["_law_well_here", "_law_many"]) fun _ _ _ _ _ _ us hl => match us, hl with | [_, _], _ => rfl
  have F__law_sum := fund_mk (st := s__law_sum) l__law_sum c__law_sum k__law_sum
  have b__law_sum := F__law_sum.binds (ps := ["_law_well_here", "_law_names_here"]) fun _ _ _ _ _ _ us hl => match us, hl with | [_, _], _ => rfl
  have F__law_right := fund_mk (st := s__law_right) l__law_right c__law_right k__law_right
  have b__law_right := F__law_right.binds (ps := ["_law_sums", "_law_numbers", "_law_making"]) fun _ _ _ _ _ _ us hl => match us, hl with | [_, _, _], _ => rfl
  have F__law_called := fund_mk (st := s__law_called) l__law_called c__law_called k__law_called
  have b__law_called := F__law_called.binds (ps := ["_law_some", "_law_making", "_law_word"]) fun _ _ _ _ _ _ us hl => match us, hl with | [_, _, _], _ => rfl
  have F_law := fund_mk (st := s_law) l_law c_law k_law
  have b_law := F_law.binds (ps := ["_law_script"]) fun _ _ _ _ _ _ us hl => match us, hl with | [_], _ => rfl
  refine ⟨{ f_common_divisor := f_common_divisor, d_common_divisor := PySem.W.fnOf "common_divisor" "common_divisor" (defArgs s_common_divisor) (defBody s_common_divisor) (defScope s_common_divisor) .none kV_common_divisor dc_common_divisor pm_common_divisor an_common_divisor cd_common_divisor ct_common_divisor, f_lowest_terms := f_lowest_terms, d_lowest_terms := PySem.W.fnOf "lowest_terms" "lowest_terms" (defArgs s_lowest_terms) (defBody s_lowest_terms) (defScope s_lowest_terms) .none kV_lowest_terms dc_lowest_terms pm_lowest_terms an_lowest_terms cd_lowest_terms ct_lowest_terms, f_plus := f_plus, d_plus := PySem.W.fnOf "plus" "plus" (defArgs s_plus) (defBody s_plus) (defScope s_plus) .none kV_plus dc_plus pm_plus an_plus cd_plus ct_plus, f_times := f_times, d_times := PySem.W.fnOf "times" "times" (defArgs s_times) (defBody s_times) (defScope s_times) .none kV_times dc_times pm_times an_times cd_times ct_times, f_sum_of := f_sum_of, d_sum_of := PySem.W.fnOf "sum_of" "sum_of" (defArgs s_sum_of) (defBody s_sum_of) (defScope s_sum_of) .none kV_sum_of dc_sum_of pm_sum_of an_sum_of cd_sum_of ct_sum_of, f_sum_plus := f_sum_plus, d_sum_plus := PySem.W.fnOf "sum_plus" "sum_plus" (defArgs s_sum_plus) (defBody s_sum_plus) (defScope s_sum_plus) .none kV_sum_plus dc_sum_plus pm_sum_plus an_sum_plus cd_sum_plus ct_sum_plus, f_sum_minus := f_sum_minus, d_sum_minus := PySem.W.fnOf "sum_minus" "sum_minus" (defArgs s_sum_minus) (defBody s_sum_minus) (defScope s_sum_minus) .none kV_sum_minus dc_sum_minus pm_sum_minus an_sum_minus cd_sum_minus ct_sum_minus, f_sum_times := f_sum_times, d_sum_times := PySem.W.fnOf "sum_times" "sum_times" (defArgs s_sum_times) (defBody s_sum_times) (defScope s_sum_times) .none kV_sum_times dc_sum_times pm_sum_times an_sum_times cd_sum_times ct_sum_times, f_sum_at := f_sum_at, d_sum_at := PySem.W.fnOf "sum_at" "sum_at" (defArgs s_sum_at) (defBody s_sum_at) (defScope s_sum_at) .none kV_sum_at dc_sum_at pm_sum_at an_sum_at cd_sum_at ct_sum_at, f_sum_called := f_sum_called, d_sum_called := PySem.W.fnOf "sum_called" "sum_called" (defArgs s_sum_called) (defBody s_sum_called) (defScope s_sum_called) .none kV_sum_called dc_sum_called pm_sum_called an_sum_called cd_sum_called ct_sum_called, f__law_well := f__law_well, d__law_well := PySem.W.fnOf "_law_well" "_law_well" (defArgs s__law_well) (defBody s__law_well) (defScope s__law_well) .none kV__law_well dc__law_well pm__law_well an__law_well cd__law_well ct__law_well, f__law_take := f__law_take, d__law_take := PySem.W.fnOf "_law_take" "_law_take" (defArgs s__law_take) (defBody s__law_take) (defScope s__law_take) .none kV__law_take dc__law_take pm__law_take an__law_take cd__law_take ct__law_take, f__law_common := f__law_common, d__law_common := PySem.W.fnOf "_law_common" "_law_common" (defArgs s__law_common) (defBody s__law_common) (defScope s__law_common) .none kV__law_common dc__law_common pm__law_common an__law_common cd__law_common ct__law_common, f__law_num := f__law_num, d__law_num := PySem.W.fnOf "_law_num" "_law_num" (defArgs s__law_num) (defBody s__law_num) (defScope s__law_num) .none kV__law_num dc__law_num pm__law_num an__law_num cd__law_num ct__law_num, f__law_add := f__law_add, d__law_add := PySem.W.fnOf "_law_add" "_law_add" (defArgs s__law_add) (defBody s__law_add) (defScope s__law_add) .none kV__law_add dc__law_add pm__law_add an__law_add cd__law_add ct__law_add, f__law_mul := f__law_mul, d__law_mul := PySem.W.fnOf "_law_mul" "_law_mul" (defArgs s__law_mul) (defBody s__law_mul) (defScope s__law_mul) .none kV__law_mul dc__law_mul pm__law_mul an__law_mul cd__law_mul ct__law_mul, f__law_number := f__law_number, d__law_number := PySem.W.fnOf "_law_number" "_law_number" (defArgs s__law_number) (defBody s__law_number) (defScope s__law_number) .none kV__law_number dc__law_number pm__law_number an__law_number cd__law_number ct__law_number, f__law_name := f__law_name, d__law_name := PySem.W.fnOf "_law_name" "_law_name" (defArgs s__law_name) (defBody s__law_name) (defScope s__law_name) .none kV__law_name dc__law_name pm__law_name an__law_name cd__law_name ct__law_name, f__law_names := f__law_names, d__law_names := PySem.W.fnOf "_law_names" "_law_names" (defArgs s__law_names) (defBody s__law_names) (defScope s__law_names) .none kV__law_names dc__law_names pm__law_names an__law_names cd__law_names ct__law_names, f__law_sum := f__law_sum, d__law_sum := PySem.W.fnOf "_law_sum" "_law_sum" (defArgs s__law_sum) (defBody s__law_sum) (defScope s__law_sum) .none kV__law_sum dc__law_sum pm__law_sum an__law_sum cd__law_sum ct__law_sum, f__law_right := f__law_right, d__law_right := PySem.W.fnOf "_law_right" "_law_right" (defArgs s__law_right) (defBody s__law_right) (defScope s__law_right) .none kV__law_right dc__law_right pm__law_right an__law_right cd__law_right ct__law_right, f__law_called := f__law_called, d__law_called := PySem.W.fnOf "_law_called" "_law_called" (defArgs s__law_called) (defBody s__law_called) (defScope s__law_called) .none kV__law_called dc__law_called pm__law_called an__law_called cd__law_called ct__law_called, f_law := f_law, d_law := PySem.W.fnOf "law" "law" (defArgs s_law) (defBody s_law) (defScope s_law) .none kV_law dc_law pm_law an_law cd_law ct_law, C_NoSum := C_NoSum, K_ZERO := K_ZERO, K_MINUS_ONE := K_MINUS_ONE }, ?_, PySem.W.mg_of X G a_law, fun s v => .of_eq rfl⟩
  exact {
    mg_common_divisor := PySem.W.mg_of X G a_common_divisor
    fun_common_divisor := F_common_divisor
    kp_common_divisor := k_common_divisor
    bn_common_divisor := b_common_divisor
    mg_lowest_terms := PySem.W.mg_of X G a_lowest_terms
    fun_lowest_terms := F_lowest_terms
    kp_lowest_terms := k_lowest_terms
    bn_lowest_terms := b_lowest_terms
    mg_plus := PySem.W.mg_of X G a_plus
    fun_plus := F_plus
    kp_plus := k_plus
    bn_plus := b_plus
    mg_times := PySem.W.mg_of X G a_times
    fun_times := F_times
    kp_times := k_times
    bn_times := b_times
    mg_sum_of := PySem.W.mg_of X G a_sum_of
    fun_sum_of := F_sum_of
    kp_sum_of := k_sum_of
    bn_sum_of := b_sum_of
    mg_sum_plus := PySem.W.mg_of X G a_sum_plus
    fun_sum_plus := F_sum_plus
    kp_sum_plus := k_sum_plus
    bn_sum_plus := b_sum_plus
    mg_sum_minus := PySem.W.mg_of X G a_sum_minus
    fun_sum_minus := F_sum_minus
    kp_sum_minus := k_sum_minus
    bn_sum_minus := b_sum_minus
    mg_sum_times := PySem.W.mg_of X G a_sum_times
    fun_sum_times := F_sum_times
    kp_sum_times := k_sum_times
    bn_sum_times := b_sum_times
    mg_sum_at := PySem.W.mg_of X G a_sum_at
    fun_sum_at := F_sum_at
    kp_sum_at := k_sum_at
    bn_sum_at := b_sum_at
    mg_sum_called := PySem.W.mg_of X G a_sum_called
    fun_sum_called := F_sum_called
    kp_sum_called := k_sum_called
    bn_sum_called := b_sum_called
    mg__law_well := PySem.W.mg_of X G a__law_well
    fun__law_well := F__law_well
    kp__law_well := k__law_well
    bn__law_well := b__law_well
    mg__law_take := PySem.W.mg_of X G a__law_take
    fun__law_take := F__law_take
    kp__law_take := k__law_take
    bn__law_take := b__law_take
    mg__law_common := PySem.W.mg_of X G a__law_common
    fun__law_common := F__law_common
    kp__law_common := k__law_common
    bn__law_common := b__law_common
    mg__law_num := PySem.W.mg_of X G a__law_num
    fun__law_num := F__law_num
    kp__law_num := k__law_num
    bn__law_num := b__law_num
    mg__law_add := PySem.W.mg_of X G a__law_add
    fun__law_add := F__law_add
    kp__law_add := k__law_add
    bn__law_add := b__law_add
    mg__law_mul := PySem.W.mg_of X G a__law_mul
    fun__law_mul := F__law_mul
    kp__law_mul := k__law_mul
    bn__law_mul := b__law_mul
    mg__law_number := PySem.W.mg_of X G a__law_number
    fun__law_number := F__law_number
    kp__law_number := k__law_number
    bn__law_number := b__law_number
    mg__law_name := PySem.W.mg_of X G a__law_name
    fun__law_name := F__law_name
    kp__law_name := k__law_name
    bn__law_name := b__law_name
    mg__law_names := PySem.W.mg_of X G a__law_names
    fun__law_names := F__law_names
    kp__law_names := k__law_names
    bn__law_names := b__law_names
    mg__law_sum := PySem.W.mg_of X G a__law_sum
    fun__law_sum := F__law_sum
    kp__law_sum := k__law_sum
    bn__law_sum := b__law_sum
    mg__law_right := PySem.W.mg_of X G a__law_right
    fun__law_right := F__law_right
    kp__law_right := k__law_right
    bn__law_right := b__law_right
    mg__law_called := PySem.W.mg_of X G a__law_called
    fun__law_called := F__law_called
    kp__law_called := k__law_called
    bn__law_called := b__law_called
    mg_law := PySem.W.mg_of X G a_law
    fun_law := F_law
    kp_law := k_law
    bn_law := b_law
    b_len := PySem.W.mg_none_of X G z_len
    b_abs := PySem.W.mg_none_of X G z_abs
    b_max := PySem.W.mg_none_of X G z_max
    b_min := PySem.W.mg_none_of X G z_min
    b_int := PySem.W.mg_none_of X G z_int
    b_tuple := PySem.W.mg_none_of X G z_tuple
    b_list := PySem.W.mg_none_of X G z_list
    b_range := PySem.W.mg_none_of X G z_range
    b_sorted := PySem.W.mg_none_of X G z_sorted
    mg_NoSum := PySem.W.mg_of X G ac_NoSum
    mg_ZERO := PySem.W.mg_of X G ak_ZERO
    mg_MINUS_ONE := PySem.W.mg_of X G ak_MINUS_ONE
    ra_ZERO := M.ra_num fun H => .inr ⟨_, _, _, lk_ZERO, rfl, rfl, (show 2 ≤ sizeLine by decide), .cons ⟨_, rfl⟩ (.cons ⟨_, rfl⟩ .nil)⟩
    ra_MINUS_ONE := M.ra_num fun H => .inr ⟨_, _, _, lk_MINUS_ONE, rfl, rfl, (show 2 ≤ sizeLine by decide), .cons ⟨_, rfl⟩ (.cons ⟨_, rfl⟩ .nil)⟩
    ex_NoSum := ex_NoSum }
theorem walk {l : PySem.W.OpenLaw} {q : Program} {loose : List Str} {XP : (Str → Option Value) → Heap → Prop} {YP : World → Heap → Prop} {d : DefRec} {K : Params → PySem.W.Frag} (hn : l.most = some 63) (hdf : d.params.defaults = [])
    (hY : ∀ (w : World) (h : Heap), YP w h → (K w.params).In h) (dn : d.name = "law")
    (F : ∀ (w : World) (mg : Str → Option Value) (h : Heap), (K w.params).In h → h.Ns mainGlobals mg → ∃ a : Adr, Txt (K w.params) mg a ∧ mg "law" = some (.ref a.f_law) ∧ ∀ (s : Shared) (v : Value), BindsTo s a.d_law ⟨[v], []⟩ [("_law_script", v)]) :
    PySem.W.WalkO q loose XP YP l.row.toRowW d [] (fun f vs => PySem.call f vs) := by
  refine L2.walk_of (n := 63) (k := 9) (x := "_law_script") (CX := fun w => CXE l.prog w) (sp := fun w => M.sp_law (K w.params)) hn (by decide) hdf ⟨rfl, by decide, by decide⟩ hY (fun w mg fa h KX G hfa => ?_) (fun _ _ a ns hl _ hS => ⟨a, ns, rfl, hS, hl, fun _ => rfl⟩) (fun w H s e s' z => by obtain ⟨_, _, _, _, _, y⟩ := z; exact y)
  obtain ⟨a, T, e, hb⟩ := F w mg h KX G
  rw [dn] at hfa
  have z := hfa.symm.trans e
  cases z
  exact ⟨a.d_law, hb, fun base _ _ => M.law_ok (ok_law T) law_true⟩
end W
open PySem PySem.W PyProof.Rows
set_option maxRecDepth 100000 in
set_option maxHeartbeats 0 in
theorem PySem.Challenge.cw_fitwhatever_k06_whole_sums_by_makings_holds : PySem.Challenge.rw_fitwhatever_k06_whole_sums_by_makings.Holds := by
  w_on; o_law; k_head; (case hw => w_witness2)
  k_fill
  refine W.walk (l := PySem.Challenge.rw_fitwhatever_k06_whole_sums_by_makings) rfl rfl (fun w h Y => PySem.W.kIn_of Y) rfl ?F
  case F =>
    intro w mg h KX G
    refine' W.txt_mk KX G ?a_common_divisor ?l_common_divisor ?c_common_divisor ?k_common_divisor ?a_lowest_terms ?l_lowest_terms ?c_lowest_terms ?k_lowest_terms ?a_plus ?l_plus ?c_plus ?k_plus ?a_times ?l_times ?c_times ?k_times ?a_sum_of ?l_sum_of ?c_sum_of ?k_sum_of ?a_sum_plus ?l_sum_plus ?c_sum_plus ?k_sum_plus ?a_sum_minus ?l_sum_minus ?c_sum_minus ?k_sum_minus ?a_sum_times ?l_sum_times ?c_sum_times ?k_sum_times ?a_sum_at ?l_sum_at ?c_sum_at ?k_sum_at ?a_sum_called ?l_sum_called ?c_sum_called ?k_sum_called ?a__law_well ?l__law_well ?c__law_well ?k__law_well ?a__law_take ?l__law_take ?c__law_take ?k__law_take ?a__law_common ?l__law_common ?c__law_common ?k__law_common ?a__law_num ?l__law_num ?c__law_num ?k__law_num ?a__law_add ?l__law_add ?c__law_add ?k__law_add ?a__law_mul ?l__law_mul ?c__law_mul ?k__law_mul ?a__law_number ?l__law_number ?c__law_number ?k__law_number ?a__law_name ?l__law_name ?c__law_name ?k__law_name ?a__law_names ?l__law_names ?c__law_names ?k__law_names ?a__law_sum ?l__law_sum ?c__law_sum ?k__law_sum ?a__law_right ?l__law_right ?c__law_right ?k__law_right ?a__law_called ?l__law_called ?c__law_called ?k__law_called ?a_law ?l_law ?c_law ?k_law ?ac_NoSum ?ak_ZERO ?lk_ZERO ?ak_MINUS_ONE ?lk_MINUS_ONE ?z_len ?z_abs ?z_max ?z_min ?z_int ?z_tuple ?z_list ?z_range ?z_sorted ?ex_NoSum
    (case a_common_divisor => k_is)
    (case l_common_divisor => k_is)
    (case c_common_divisor => k_is)
    (case k_common_divisor => k_is)
    (case a_lowest_terms => k_is)
    (case l_lowest_terms => k_is)
    (case c_lowest_terms => k_is)
    (case k_lowest_terms => k_is)
    (case a_plus => k_is)
    (case l_plus => k_is)
    (case c_plus => k_is)
    (case k_plus => k_is)
    (case a_times => k_is)
    (case l_times => k_is)
    (case c_times => k_is)
    (case k_times => k_is)
    (case a_sum_of => k_is)
    (case l_sum_of => k_is)
    (case c_sum_of => k_is)
    (case k_sum_of => k_is)
    (case a_sum_plus => k_is)
    (case l_sum_plus => k_is)
    (case c_sum_plus => k_is)
    (case k_sum_plus => k_is)
    (case a_sum_minus => k_is)
    (case l_sum_minus => k_is)
    (case c_sum_minus => k_is)
    (case k_sum_minus => k_is)
    (case a_sum_times => k_is)
    (case l_sum_times => k_is)
    (case c_sum_times => k_is)
    (case k_sum_times => k_is)
    (case a_sum_at => k_is)
    (case l_sum_at => k_is)
    (case c_sum_at => k_is)
    (case k_sum_at => k_is)
    (case a_sum_called => k_is)
    (case l_sum_called => k_is)
    (case c_sum_called => k_is)
    (case k_sum_called => k_is)
    (case a__law_well => k_is)
    (case l__law_well => k_is)
    (case c__law_well => k_is)
    (case k__law_well => k_is)
    (case a__law_take => k_is)
    (case l__law_take => k_is)
    (case c__law_take => k_is)
    (case k__law_take => k_is)
    (case a__law_common => k_is)
    (case l__law_common => k_is)
    (case c__law_common => k_is)
    (case k__law_common => k_is)
    (case a__law_num => k_is)
    (case l__law_num => k_is)
    (case c__law_num => k_is)
    (case k__law_num => k_is)
    (case a__law_add => k_is)
    (case l__law_add => k_is)
    (case c__law_add => k_is)
    (case k__law_add => k_is)
    (case a__law_mul => k_is)
    (case l__law_mul => k_is)
    (case c__law_mul => k_is)
    (case k__law_mul => k_is)
    (case a__law_number => k_is)
    (case l__law_number => k_is)
    (case c__law_number => k_is)
    (case k__law_number => k_is)
    (case a__law_name => k_is)
    (case l__law_name => k_is)
    (case c__law_name => k_is)
    (case k__law_name => k_is)
    (case a__law_names => k_is)
    (case l__law_names => k_is)
    (case c__law_names => k_is)
    (case k__law_names => k_is)
    (case a__law_sum => k_is)
    (case l__law_sum => k_is)
    (case c__law_sum => k_is)
    (case k__law_sum => k_is)
    (case a__law_right => k_is)
    (case l__law_right => k_is)
    (case c__law_right => k_is)
    (case k__law_right => k_is)
    (case a__law_called => k_is)
    (case l__law_called => k_is)
    (case c__law_called => k_is)
    (case k__law_called => k_is)
    (case a_law => k_is)
    (case l_law => k_is)
    (case c_law => k_is)
    (case k_law => k_is)
    (case ac_NoSum => k_is)
    (case ak_ZERO => k_is)
    (case lk_ZERO => k_is)
    (case ak_MINUS_ONE => k_is)
    (case lk_MINUS_ONE => k_is)
    (case z_len => k_is)
    (case z_abs => k_is)
    (case z_max => k_is)
    (case z_min => k_is)
    (case z_int => k_is)
    (case z_tuple => k_is)
    (case z_list => k_is)
    (case z_range => k_is)
    (case z_sorted => k_is)
    (case ex_NoSum => kernel_rfl)
#print axioms PySem.Challenge.cw_fitwhatever_k06_whole_sums_by_makings_holds
